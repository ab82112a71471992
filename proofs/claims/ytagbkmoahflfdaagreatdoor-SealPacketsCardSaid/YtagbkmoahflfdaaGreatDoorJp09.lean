import Derived.Test.YtagbkmoahflfdaaGreatDoorJp01
import Derived.Test.YtagbkmoahflfdaaGreatDoorJp06
import Derived.Test.YtagbkmoahflfdaaGreatDoorJp08
import Derived.Test.YtagbkmoahflfdaaGreatDoorJp05
import Derived.Deep.RegionHeld3
import Derived.Laws.OwnMore
import Derived.Laws.BytesArg
import Derived.Lib.ConvBytes
import Derived.Laws.IdiomStrings
import Derived.Laws.Bits64
set_option maxHeartbeats 8000000
set_option maxRecDepth 20000
set_option linter.unusedVariables false
set_option linter.unusedSimpArgs false
namespace Go.Proofs.YtagbkmoahflfdaaGreatDoor.Se
open Tk Go.RowKit Vm Dg
def sl (v:Value):Nat:=match v with|.string b=>b.size|_=>0
theorem W16.cells{W:World}{b:Nat}{x0 x1 x2 x3 x4 x5 x6 x7 x8 x9 x10 x11 x12 x13 x14 x15:Nat}(h:W.heap[b]?=some (.cells #[.int .u32 (x0:Nat),.int .u32 (x1:Nat),.int .u32 (x2:Nat),.int .u32 (x3:Nat),.int .u32 (x4:Nat),.int .u32 (x5:Nat),.int .u32 (x6:Nat),.int .u32 (x7:Nat),.int .u32 (x8:Nat),.int .u32 (x9:Nat),.int .u32 (x10:Nat),.int .u32 (x11:Nat),.int .u32 (x12:Nat),.int .u32 (x13:Nat),.int .u32 (x14:Nat),.int .u32 (x15:Nat)] 63 (0,0))):W.cell? ⟨b,0,none⟩=some (.int .u32 (x0:Nat))∧W.cell? ⟨b,1,none⟩=some (.int .u32 (x1:Nat))∧W.cell? ⟨b,2,none⟩=some (.int .u32 (x2:Nat))∧W.cell? ⟨b,3,none⟩=some (.int .u32 (x3:Nat))∧W.cell? ⟨b,4,none⟩=some (.int .u32 (x4:Nat))∧W.cell? ⟨b,5,none⟩=some (.int .u32 (x5:Nat))∧W.cell? ⟨b,6,none⟩=some (.int .u32 (x6:Nat))∧W.cell? ⟨b,7,none⟩=some (.int .u32 (x7:Nat))∧W.cell? ⟨b,8,none⟩=some (.int .u32 (x8:Nat))∧W.cell? ⟨b,9,none⟩=some (.int .u32 (x9:Nat))∧W.cell? ⟨b,10,none⟩=some (.int .u32 (x10:Nat))∧W.cell? ⟨b,11,none⟩=some (.int .u32 (x11:Nat))∧W.cell? ⟨b,12,none⟩=some (.int .u32 (x12:Nat))∧W.cell? ⟨b,13,none⟩=some (.int .u32 (x13:Nat))∧W.cell? ⟨b,14,none⟩=some (.int .u32 (x14:Nat))∧W.cell? ⟨b,15,none⟩=some (.int .u32 (x15:Nat)):=
 ⟨Lib.cell_of_heap h 0,Lib.cell_of_heap h 1,Lib.cell_of_heap h 2,Lib.cell_of_heap h 3,Lib.cell_of_heap h 4,Lib.cell_of_heap h 5,Lib.cell_of_heap h 6,Lib.cell_of_heap h 7,Lib.cell_of_heap h 8,Lib.cell_of_heap h 9,Lib.cell_of_heap h 10,Lib.cell_of_heap h 11,Lib.cell_of_heap h 12,Lib.cell_of_heap h 13,Lib.cell_of_heap h 14,Lib.cell_of_heap h 15⟩
theorem xor_call(a b:List UInt8)(w:World)(ha:a.length≤100000)(hb:b.length≤100000) :
 Calls Tryz.prog 33 #[.string ⟨a.toArray⟩,.string ⟨b.toArray⟩] w fun e w'=>e=.returned (.string ⟨(xr a b).toArray⟩)∧Below w.heap.size w w':=by
 have h:=xor_any ⟨a.toArray⟩ ⟨b.toArray⟩ w (by show a.toArray.size≤_;simp;omega) (by show b.toArray.size≤_;simp;omega);exact h
theorem drop_cut(l:List UInt8)(p:Nat)(h:p=min l.length 64):(⟨l.toArray⟩:ByteArray).extract p l.length=⟨(l.drop 64).toArray⟩:=by
 apply ByteArray.ext;apply Array.ext';simp only[ByteArray.data_extract,Array.toList_extract,List.extract_eq_take_drop];rw[List.take_of_length_le (by rw[List.length_drop];omega)];by_cases h64:64≤l.length
 ·rw[h,Nat.min_eq_right h64]
 ·rw[h,Nat.min_eq_left (by omega),List.drop_of_length_le (by simp),List.drop_of_length_le (by omega)]
theorem stream_any(key nonce:ByteArray)(c:Nat)(s:ByteArray)(w:World)(hk:key.size≤100000)(hn:nonce.size≤100000)(hc:c<4294967296)(hs:s.size≤100000) :
 Calls Tryz.prog 10 #[.string key,.string nonce,.int .u32 c,.string s] w fun e w'=>e=.returned (.string ⟨(stream key.data.toList nonce.data.toList c s.data.toList).toArray⟩)∧Below w.heap.size w w':=by
 have CW:=zh (fun W=>wordsOf_any key nonce W hk hn);have CA:=zh (fun (d:Nat) (hd:d<4294967296) W=>at_any (ini key.data.toList nonce.data.toList 0) d W rfl hd);have CB:=zh (fun (d:Nat) (hd:d<4294967296) W=>block_any (ini key.data.toList nonce.data.toList d) W rfl (ini_32 _ _ _ hd));have STEP:=zh (stream_step key.data.toList nonce.data.toList);have BL:=zh (blk_len key.data.toList nonce.data.toList);have CB:Hid (∀(d:Nat),d<4294967296→∀W:World,Calls Tryz.prog 35 #[wv (ini key.data.toList nonce.data.toList d)] W fun e w'=>e=.returned (.string ⟨(blk key.data.toList nonce.data.toList d).toArray⟩)∧Below W.heap.size W w'):=CB;have CA:Hid (∀(d:Nat),d<4294967296→∀W:World,Calls Tryz.prog 34 #[wv (ini key.data.toList nonce.data.toList 0),.int .u32 d] W fun e w'=>e=.returned (wv (ini key.data.toList nonce.data.toList d))∧Below W.heap.size W w'):=CA;have NIL:=zh (stream_nil key.data.toList nonce.data.toList);obtain⟨R,hR⟩:∃R,stream key.data.toList nonce.data.toList c s.data.toList=R:=⟨_,rfl⟩;have hRl:R.length=s.size:=by rw[←hR,stream_length];simp
 rw[hR];have HR:=zh hR;clear hR;obtain⟨x0,x1,x2,x3,x4,x5,x6,x7,x8,x9,x10,x11,x12,x13,x14,x15,hX⟩:∃x0 x1 x2 x3 x4 x5 x6 x7 x8 x9 x10 x11 x12 x13 x14 x15:Nat,ini key.data.toList nonce.data.toList 0=[x0,x1,x2,x3,x4,x5,x6,x7,x8,x9,x10,x11,x12,x13,x14,x15]:=⟨_,_,_,_,_,_,_,_,_,_,_,_,_,_,_,_,rfl⟩;have hV:wv (ini key.data.toList nonce.data.toList 0)=.agg #[.int .u32 (x0:Nat),.int .u32 (x1:Nat),.int .u32 (x2:Nat),.int .u32 (x3:Nat),.int .u32 (x4:Nat),.int .u32 (x5:Nat),.int .u32 (x6:Nat),.int .u32 (x7:Nat),.int .u32 (x8:Nat),.int .u32 (x9:Nat),.int .u32 (x10:Nat),.int .u32 (x11:Nat),.int .u32 (x12:Nat),.int .u32 (x13:Nat),.int .u32 (x14:Nat),.int .u32 (x15:Nat)]:=by rw[hX];rfl
 rw[hV]at CW;rw[hV]at CA;clear hV hX;go_enter Tryz.func10,Tryz.ntmps10;go_wp2_with fail
 with_reducible refine (CW.out _).mono ?_
 rintro e1 w1 ⟨rfl,hb⟩;have HB1:=zh hb;clear hb;have hs1:=HB1.out.size;have HA1:Hid ((w1.alloc (.cells #[.int .u32 (x0:Nat),.int .u32 (x1:Nat),.int .u32 (x2:Nat),.int .u32 (x3:Nat),.int .u32 (x4:Nat),.int .u32 (x5:Nat),.int .u32 (x6:Nat),.int .u32 (x7:Nat),.int .u32 (x8:Nat),.int .u32 (x9:Nat),.int .u32 (x10:Nat),.int .u32 (x11:Nat),.int .u32 (x12:Nat),.int .u32 (x13:Nat),.int .u32 (x14:Nat),.int .u32 (x15:Nat)] 63)).heap[w1.heap.size]?=some (.cells #[.int .u32 (x0:Nat),.int .u32 (x1:Nat),.int .u32 (x2:Nat),.int .u32 (x3:Nat),.int .u32 (x4:Nat),.int .u32 (x5:Nat),.int .u32 (x6:Nat),.int .u32 (x7:Nat),.int .u32 (x8:Nat),.int .u32 (x9:Nat),.int .u32 (x10:Nat),.int .u32 (x11:Nat),.int .u32 (x12:Nat),.int .u32 (x13:Nat),.int .u32 (x14:Nat),.int .u32 (x15:Nat)] 63 (0,0))):=zh (heap_alloc_new w1 _);have HBA:=zh (HB1.out.alloc hs1 (.cells #[.int .u32 (x0:Nat),.int .u32 (x1:Nat),.int .u32 (x2:Nat),.int .u32 (x3:Nat),.int .u32 (x4:Nat),.int .u32 (x5:Nat),.int .u32 (x6:Nat),.int .u32 (x7:Nat),.int .u32 (x8:Nat),.int .u32 (x9:Nat),.int .u32 (x10:Nat),.int .u32 (x11:Nat),.int .u32 (x12:Nat),.int .u32 (x13:Nat),.int .u32 (x14:Nat),.int .u32 (x15:Nat)] 63));have HI0:=zh (Lib.fresh_isBuilder 68 5 (w1.alloc (.cells #[.int .u32 (x0:Nat),.int .u32 (x1:Nat),.int .u32 (x2:Nat),.int .u32 (x3:Nat),.int .u32 (x4:Nat),.int .u32 (x5:Nat),.int .u32 (x6:Nat),.int .u32 (x7:Nat),.int .u32 (x8:Nat),.int .u32 (x9:Nat),.int .u32 (x10:Nat),.int .u32 (x11:Nat),.int .u32 (x12:Nat),.int .u32 (x13:Nat),.int .u32 (x14:Nat),.int .u32 (x15:Nat)] 63)));have HB0:=zh (HBA.out.alloc HBA.out.size (.cells #[.pointer none,.slice none 0 0] 68));have HA0:=zh ((Below.heap_alloc _ (.cells #[.pointer none,.slice none 0 0] 68) _ (show w1.heap.size<(w1.alloc (.cells #[.int .u32 (x0:Nat),.int .u32 (x1:Nat),.int .u32 (x2:Nat),.int .u32 (x3:Nat),.int .u32 (x4:Nat),.int .u32 (x5:Nat),.int .u32 (x6:Nat),.int .u32 (x7:Nat),.int .u32 (x8:Nat),.int .u32 (x9:Nat),.int .u32 (x10:Nat),.int .u32 (x11:Nat),.int .u32 (x12:Nat),.int .u32 (x13:Nat),.int .u32 (x14:Nat),.int .u32 (x15:Nat)] 63)).heap.size by simp)).trans HA1.out);have hsz0:w1.heap.size+1≤((w1.alloc (.cells #[.int .u32 (x0:Nat),.int .u32 (x1:Nat),.int .u32 (x2:Nat),.int .u32 (x3:Nat),.int .u32 (x4:Nat),.int .u32 (x5:Nat),.int .u32 (x6:Nat),.int .u32 (x7:Nat),.int .u32 (x8:Nat),.int .u32 (x9:Nat),.int .u32 (x10:Nat),.int .u32 (x11:Nat),.int .u32 (x12:Nat),.int .u32 (x13:Nat),.int .u32 (x14:Nat),.int .u32 (x15:Nat)] 63)).alloc (.cells #[.pointer none,.slice none 0 0] 68)).heap.size:=by simp
 go_wp2_with fail
 rw[World.size_alloc]at HI0;generalize (w1.alloc (.cells #[.int .u32 (x0:Nat),.int .u32 (x1:Nat),.int .u32 (x2:Nat),.int .u32 (x3:Nat),.int .u32 (x4:Nat),.int .u32 (x5:Nat),.int .u32 (x6:Nat),.int .u32 (x7:Nat),.int .u32 (x8:Nat),.int .u32 (x9:Nat),.int .u32 (x10:Nat),.int .u32 (x11:Nat),.int .u32 (x12:Nat),.int .u32 (x13:Nat),.int .u32 (x14:Nat),.int .u32 (x15:Nat)] 63)).alloc (.cells #[.pointer none,.slice none 0 0] 68)=W0 at *;clear HB1 HBA HA1;generalize hwb:w1.heap.size=wb at *;have hbb:w.heap.size<wb+1:=by omega
 clear hwb
 go_loopw [2,11] (fun cv lv wr=>∃(d:Nat) (l O:List UInt8),d<4294967296∧cv=.int .u32 d∧lv=.string ⟨l.toArray⟩∧O++stream key.data.toList nonce.data.toList d l=R∧l.length≤s.size∧IB (wb+1) (Lib.byteCells O) wr∧wr.heap[wb]?=some (.cells #[.int .u32 (x0:Nat),.int .u32 (x1:Nat),.int .u32 (x2:Nat),.int .u32 (x3:Nat),.int .u32 (x4:Nat),.int .u32 (x5:Nat),.int .u32 (x6:Nat),.int .u32 (x7:Nat),.int .u32 (x8:Nat),.int .u32 (x9:Nat),.int .u32 (x10:Nat),.int .u32 (x11:Nat),.int .u32 (x12:Nat),.int .u32 (x13:Nat),.int .u32 (x14:Nat),.int .u32 (x15:Nat)] 63 (0,0))∧Below w.heap.size w wr∧wb+1≤wr.heap.size) (fun _ lv _=>sl lv)
 case atStart=>exact⟨c,s.data.toList,[],hc,rfl,rfl,by rw[List.nil_append];exact HR.out,by simp,HI0.out,HA0.out,HB0.out,hsz0⟩
 case round=>
  clear HI0 HA0 HB0 hsz0;obtain⟨d,l,O,hd,rfl,rfl,ho,hl,hib,ha,hb,hsz⟩:=hrel;have HO:=zh ho;have HI:=zh hib;have HA:=zh ha;have HB:=zh hb;have hdI:(d:Int)<4294967296:=by omega
  have hdI0:(0:Int)≤(d:Int):=by omega
  obtain⟨c0,c1,c2,c3,c4,c5,c6,c7,c8,c9,c10,c11,c12,c13,c14,c15⟩:=W16.cells ha;clear ho hib ha hb;by_cases hne:l=[]
  ·subst hne
   have hRO:O=R:=by have h:=HO.out;rw[NIL.out,List.append_nil]at h;exact h
   subst hRO;have he:([]:List UInt8).isEmpty=true:=rfl;have CST:=zh (Tryz.Builder_String_any (wb+1) (wb+1) O wr HI.out hsz);go_wp2_with fail
   with_reducible refine CST.out.mono ?_
   rintro e2 w2 ⟨rfl,hb⟩;have HB2:=zh (HB.out.trans (hb.mono (by omega)));clear hb;go_wp2_with fail
   go_ret
   exact⟨rfl,HB2.out⟩
  ·have he:l.isEmpty=false:=by cases l with|nil=>exact absurd rfl hne|cons x l=>rfl
   have CA1:=zh (CA.out d hd);have CB1:=zh (CB.out d hd);have hbl:=BL.out d;have hst:=STEP.out d l hne;have CX:Hid (∀W:World,Calls Tryz.prog 33 #[.string ⟨l.toArray⟩,.string ⟨(blk key.data.toList nonce.data.toList d).toArray⟩] W fun e w'=>e=.returned (.string ⟨(xr l (blk key.data.toList nonce.data.toList d)).toArray⟩)∧Below W.heap.size W w'):=zh (fun W=>xor_call l _ W (by omega) (by rw[hbl];decide));have hxl:(xr l (blk key.data.toList nonce.data.toList d)).length=min l.length 64:=by rw[xr_len,hbl]
   rw[hst,←List.append_assoc]at HO;generalize wv (ini key.data.toList nonce.data.toList d)=V1 at CA1 CB1;generalize blk key.data.toList nonce.data.toList d=BB at *;generalize xr l BB=P at *;have HDC:=zh (drop_cut l P.length hxl);have HXL:=zh hxl
   have hOl:O.length+P.length≤100000:=by
    have h:=congrArg List.length HO.out;rw[List.length_append,List.length_append]at h;omega
   have hPl:(P.length:Int)≤(l.length:Int):=by omega
   clear hst hxl hbl;go_wp2_with fail
   with_reducible refine (CA1.out _).mono ?_
   rintro e2 w2 ⟨rfl,hb⟩;have HB2:=zh hb;clear hb;go_wp2_with fail
   with_reducible refine (CB1.out _).mono ?_
   rintro e3 w3 ⟨rfl,hb⟩;have HB3:=zh (HB2.out.trans (hb.mono HB2.out.size));clear hb;go_wp2_with fail
   with_reducible refine (CX.out _).mono ?_
   rintro e4 w4 ⟨rfl,hb⟩;have HB4:=zh (HB3.out.trans (hb.mono HB3.out.size));clear hb;have HI4:=zh (builder_below HI.out HB4.out);have hs4:wb+1≤w4.heap.size:=Nat.le_trans hsz HB4.out.size;have CWS:=zh (Bld.writeString (wb+1) (wb+1) (Lib.byteCells O) ⟨P.toArray⟩ w4 HI4.out (by rw[byteCells_len];show O.length+P.toArray.size≤_;simp;omega) hs4);go_wp2_with fail
   with_reducible refine CWS.out.mono ?_
   rintro e5 w5 ⟨rfl,h5,hb⟩;have HI5:Hid (IB (wb+1) (Lib.byteCells (O++P)) w5):=zh (by rw[byteCells_app];exact h5);have hs5:wb+1≤w5.heap.size:=Nat.le_trans hs4 hb.size;have HB5:Hid (Below (wb+1) wr w5):=zh ((HB4.out.mono hsz).trans hb);clear hb h5;go_wp2_with fail
   go_roundw
   case rel=>exact⟨(d+1)%4294967296,l.drop 64,O++P,Nat.mod_lt _ (by decide),by first|rfl|(congr 1;push_cast;rfl)|(congr 1;omega),by rw[←HDC.out],HO.out,by rw[List.length_drop];omega,HI5.out,(HB5.out.block wb (by omega)).trans HA.out,HB.out.trans (HB5.out.mono (by omega)),hs5⟩
   case measure=>
    have hpos:0<l.length:=List.length_pos_iff.2 hne;rw[HDC.out];show (l.drop 64).toArray.size<l.toArray.size;simp only[List.size_toArray,List.length_drop];omega
end Go.Proofs.YtagbkmoahflfdaaGreatDoor.Se
namespace Go.Proofs.YtagbkmoahflfdaaGreatDoor.Kd
open Go.Proofs.YtagbkmoahflfdaaGreatDoor.Dg
open Go.Proofs.YtagbkmoahflfdaaGreatDoor.Vm (fx fx_length)
def kl (k:List UInt8):List UInt8:=if 64<k.length then sha k else k
def kb (k:List UInt8):List UInt8:=kl k++List.replicate (64-(kl k).length) 0
def ko (k:List UInt8):List UInt8:=xorL (kb k) (List.replicate 64 92)
def ki (k:List UInt8):List UInt8:=xorL (kb k) (List.replicate 64 54)
def hm (O I s:List UInt8):List UInt8:=sha (O++sha (I++s))
def mac (k s:List UInt8):List UInt8:=hm (ko k) (ki k) s
def tk (O I info:List UInt8):Nat→List UInt8
 | 0=>[]
 | i+1=>hm O I (tk O I info i++info++fx (i+1) 1)
def outs (O I info:List UInt8):Nat→List UInt8
 | 0=>[]
 | i+1=>outs O I info i++tk O I info (i+1)
def exq (O I info:List UInt8) (n:Nat):List UInt8:=(outs O I info ((n+31)/32)).take n
def tls:List UInt8:=[116,108,115,49,51,32]
def cnt (s:List UInt8):List UInt8:=fx s.length 1++s
def inf (label ctx:List UInt8) (n:Nat):List UInt8:=fx n 2++cnt (tls++label)++cnt ctx
def lab (O I label ctx:List UInt8) (n:Nat):List UInt8:=exq O I (inf label ctx n) n
theorem kl_len(k:List UInt8):(kl k).length≤64:=by
 unfold kl
 split
 ·rw[sha_len];decide
 ·omega
theorem kb_len(k:List UInt8):(kb k).length=64:=by
 have:=kl_len k;unfold kb;rw[List.length_append,List.length_replicate];omega
theorem ko_len(k:List UInt8):(ko k).length=64:=by
 unfold ko;rw[xorL_len,kb_len,List.length_replicate];rfl
theorem ki_len(k:List UInt8):(ki k).length=64:=by
 unfold ki;rw[xorL_len,kb_len,List.length_replicate];rfl
theorem hm_len(O I s:List UInt8):(hm O I s).length=32:=sha_len _
theorem mac_len(k s:List UInt8):(mac k s).length=32:=sha_len _
theorem tk_len(O I info:List UInt8)(i:Nat):(tk O I info i).length≤32:=by
 cases i with
 | zero=>exact Nat.zero_le _
 | succ i=>exact Nat.le_of_eq (hm_len _ _ _)
theorem outs_len(O I info:List UInt8)(i:Nat):(outs O I info i).length=32*i:=by
 induction i with
 | zero=>rfl
 | succ i ih=>
  have h:(tk O I info (i+1)).length=32:=hm_len _ _ _;rw[outs,List.length_append,ih,h];omega
theorem exq_len(O I info:List UInt8)(n:Nat):(exq O I info n).length=n:=by
 unfold exq;rw[List.length_take,outs_len];omega
theorem cnt_len(s:List UInt8):(cnt s).length=1+s.length:=by
 unfold cnt;rw[List.length_append,fx_length]
theorem inf_len(label ctx:List UInt8)(n:Nat):(inf label ctx n).length=label.length+ctx.length+10:=by
 unfold inf;rw[List.length_append,List.length_append,fx_length,cnt_len,cnt_len,List.length_append];have:tls.length=6:=rfl;omega
theorem lab_len(O I label ctx:List UInt8)(n:Nat):(lab O I label ctx n).length=n:=exq_len _ _ _ _
open Tk Go.RowKit
theorem rep1(x:UInt8)(n:Nat):Lib.repeatL [x] n=List.replicate n x:=by
 induction n with
 | zero=>rfl
 | succ n ih=>rw[Lib.repeatL,ih,List.replicate_succ];rfl
theorem rep_one(x:UInt8)(Z:Nat)(w:World)(hZ:Z≤1000):Calls Tryz.prog 105 #[.string ⟨#[x]⟩,.int .i64 Z] w fun e w'=>e=.returned (.string ⟨(List.replicate Z x).toArray⟩)∧Below w.heap.size w w':=by
 have h:=Tryz.strings_Repeat ⟨#[x]⟩ Z w (by omega) (by show 1*Z≤_;omega);rw[show (⟨#[x]⟩:ByteArray).data.toList=[x] from rfl,rep1]at h;exact h
theorem two_call{b q r:Nat}{v u:Value}{w w':World}(h:w.cell? ⟨b,q,none⟩=some v∧w.cell? ⟨b,r,none⟩=some u)(hb:Below w.heap.size w w'):w'.cell? ⟨b,q,none⟩=some v∧w'.cell? ⟨b,r,none⟩=some u:=
 ⟨(hb.cell (p:=⟨b,q,none⟩) (World.block_lt_of_cell? w _ h.1)).trans h.1,(hb.cell (p:=⟨b,r,none⟩) (World.block_lt_of_cell? w _ h.2)).trans h.2⟩
theorem sum_two(x y:ByteArray)(l:List UInt8)(hl:x.data.toList++y.data.toList=l)(hn:l.length≤100000)(W:World) :
 Calls Tryz.prog 108 #[.slice (some ⟨W.heap.size,0,none⟩) 2 2] (W.alloc (.cells #[.string x,.string y] 9)) fun e w'=>e=.returned (.string ⟨(sha l).toArray⟩)∧Below W.heap.size W w':=by
 have hc:cat [x,y]=l:=by rw[←hl];simp[cat]
 have h:=sum_row W.heap.size 0 2 [x,y] _ (rows_made W _ _ rfl 9) (by show 2≤_;omega) zle (by rw[hc];exact hn);rw[hc]at h;exact h.mono (by rintro e w' ⟨h1,h2⟩;exact⟨h1,((Below.refl _ _).alloc zle _).trans (h2.mono (by simp))⟩)
theorem sum_one(x:ByteArray)(hn:x.size≤100000)(W:World)(g:Nat)(hg:g=W.heap.size) :
 Calls Tryz.prog 108 #[.slice (some ⟨g,0,none⟩) 1 1] (W.alloc (.cells #[.string x] 9)) fun e w'=>e=.returned (.string ⟨(sha x.data.toList).toArray⟩)∧Below W.heap.size W w':=by
 subst hg;have hc:cat [x]=x.data.toList:=by simp[cat]
 have h:=sum_row W.heap.size 0 1 [x] _ (rows_made W _ _ rfl 9) (by show 1≤_;omega) zle (by rw[hc];simpa using hn);rw[hc]at h;exact h.mono (by rintro e w' ⟨h1,h2⟩;exact⟨h1,((Below.refl _ _).alloc zle _).trans (h2.mono (by simp))⟩)
theorem two_put{w:World}{b:Nat}{T:TypeId}{v0 v1 x y:Value}(h:w.heap[b]?=some (.cells #[v0,v1] T (0,0))):((w.setCell ⟨b,0,none⟩ x).setCell ⟨b,1,none⟩ y).heap[b]?=some (.cells #[x,y] T (0,0)):=by
 have h0:=Joins.block_setCell (i:=0) h x;have h1:=Joins.block_setCell (i:=1) h0 y;rw[h1];simp
theorem inf_mac:(Tryz.prog.info? 80).map (·.size)=some 2:=by kernel_rfl
theorem macOf_list(l:List UInt8)(w:World)(hl:l.length≤100000) :
 Calls Tryz.prog 75 #[.string ⟨l.toArray⟩] w fun e w'=>e=.returned (.agg #[.string ⟨(ko l).toArray⟩,.string ⟨(ki l).toArray⟩])∧Below w.heap.size w w':=by
 have CS:=zh (fun W g hg=>sum_one ⟨l.toArray⟩ hl W g hg);obtain⟨K,hK⟩:∃K,kl l=K:=⟨_,rfl⟩;have hm:=kl_len l;rw[hK]at hm;obtain⟨m,hmm⟩:∃m,K.length=m:=⟨_,rfl⟩;rw[hmm]at hm;obtain⟨Z,hZ⟩:∃Z,64-m=Z:=⟨_,rfl⟩;have hZi:(64:Int)-(m:Int)=(Z:Int):=by omega
 have hZw:IntKind.i64.wrap (Z:Int)=(Z:Int):=by rw[IntWalk.i64_in _ (by omega)]
 have C0:=zh (fun W=>rep_one 0 Z W (by omega));have C1:Hid (∀W:World,Calls Tryz.prog 105 #[.string ⟨#[92]⟩,.int .i64 64] W fun e w'=>e=.returned (.string ⟨(List.replicate 64 (92:UInt8)).toArray⟩)∧Below W.heap.size W w'):=zh (fun W=>rep_one 92 64 W (by decide));have C2:Hid (∀W:World,Calls Tryz.prog 105 #[.string ⟨#[54]⟩,.int .i64 64] W fun e w'=>e=.returned (.string ⟨(List.replicate 64 (54:UInt8)).toArray⟩)∧Below W.heap.size W w'):=zh (fun W=>rep_one 54 64 W (by decide));obtain⟨B,hB⟩:∃B,kb l=B:=⟨_,rfl⟩;have hBl:B.length=64:=by rw[←hB];exact kb_len l
 have hcat:(⟨K.toArray⟩:ByteArray)++⟨(List.replicate Z (0:UInt8)).toArray⟩=⟨B.toArray⟩:=by
  rw[app_two,←hB];unfold kb;rw[hK,hmm,hZ]
 have hsz:(⟨K.toArray⟩:ByteArray).size=m:=hmm;have hsz2:(⟨(List.replicate Z (0:UInt8)).toArray⟩:ByteArray).size=Z:=by show (List.replicate Z (0:UInt8)).length=Z;simp
 have g1:¬9223372036854775807<m+Z:=by omega
 have X1:Hid (∀W:World,Calls Tryz.prog 33 #[.string ⟨B.toArray⟩,.string ⟨(List.replicate 64 (92:UInt8)).toArray⟩] W fun e w'=>e=.returned (.string ⟨(ko l).toArray⟩)∧Below W.heap.size W w'):=zh (fun W=>by
  have h:=xor_any ⟨B.toArray⟩ ⟨(List.replicate 64 (92:UInt8)).toArray⟩ W (by show B.length≤_;omega) (by show (List.replicate 64 _).length≤_;rw[List.length_replicate];omega);rw[show (⟨B.toArray⟩:ByteArray).data.toList=B from rfl,←hB]at h;rw[←hB]
  exact h)
 have X2:Hid (∀W:World,Calls Tryz.prog 33 #[.string ⟨B.toArray⟩,.string ⟨(List.replicate 64 (54:UInt8)).toArray⟩] W fun e w'=>e=.returned (.string ⟨(ki l).toArray⟩)∧Below W.heap.size W w'):=zh (fun W=>by
  have h:=xor_any ⟨B.toArray⟩ ⟨(List.replicate 64 (54:UInt8)).toArray⟩ W (by show B.length≤_;omega) (by show (List.replicate 64 _).length≤_;rw[List.length_replicate];omega);rw[show (⟨B.toArray⟩:ByteArray).data.toList=B from rfl,←hB]at h;rw[←hB]
  exact h)
 have hlsz:(⟨l.toArray⟩:ByteArray).size=l.length:=rfl;generalize List.replicate Z (0:UInt8)=r0 at *;generalize List.replicate 64 (92:UInt8)=r92 at *;generalize List.replicate 64 (54:UInt8)=r54 at *;generalize ko l=KO at *;generalize ki l=KI at *;by_cases h64:64<l.length
 ·have hKs:K=sha l:=by rw[←hK];exact if_pos h64
  have h64i:(64:Int)<(l.length:Int):=by omega
  subst hKs;clear hK hmm hB hZ;go_enter Tryz.func75,Tryz.ntmps75;go_wp2_with fail
  with_reducible refine (CS.out (w.alloc (.cells #[.string ⟨#[]⟩,.string ⟨#[]⟩] 80)) _ ?_).mono ?_
  ·simp
  rintro e w1 ⟨rfl,hb⟩;have HB1:=zh (((Below.refl w.heap.size w).alloc zle (.cells #[.string ⟨#[]⟩,.string ⟨#[]⟩] 80)).trans (hb.mono (by simp)));have hs1:=HB1.out.size;have hlt1:w.heap.size<w1.heap.size:=by have:=hb.size;simp at this;omega
  have HZ1:Hid (w1.heap[w.heap.size]?=some (.cells #[.string ⟨#[]⟩,.string ⟨#[]⟩] 80 (0,0))):=zh ((hb.block w.heap.size (by simp)).trans (heap_alloc_new w _));clear hb;go_wp2_with fail
  with_reducible refine (C0.out _).mono ?_
  rintro e wA ⟨rfl,hb⟩;have HBA:=zh (HB1.out.trans (hb.mono hs1));have hsA:=HBA.out.size;have HZA:=zh ((hb.block w.heap.size hlt1).trans HZ1.out);have hltA:w.heap.size<wA.heap.size:=Nat.lt_of_lt_of_le hlt1 hb.size;clear hb HB1 HZ1;go_wp2_with fail
  with_reducible refine (C1.out _).mono ?_
  rintro e wB ⟨rfl,hb⟩;have HBB:=zh (HBA.out.trans (hb.mono hsA));have hsB:=HBB.out.size;have HZB:=zh ((hb.block w.heap.size hltA).trans HZA.out);have hltB:w.heap.size<wB.heap.size:=Nat.lt_of_lt_of_le hltA hb.size;clear hb HBA HZA;go_wp2_with fail
  with_reducible refine (X1.out _).mono ?_
  rintro e wC ⟨rfl,hb⟩;have HBC:=zh (HBB.out.trans (hb.mono hsB));have hsC:=HBC.out.size;have HZC:=zh ((hb.block w.heap.size hltB).trans HZB.out);have hltC:w.heap.size<wC.heap.size:=Nat.lt_of_lt_of_le hltB hb.size;clear hb HBB HZB;go_wp2_with fail
  with_reducible refine (C2.out _).mono ?_
  rintro e wD ⟨rfl,hb⟩;have HBD:=zh (HBC.out.trans (hb.mono hsC));have hsD:=HBD.out.size;have HZD:=zh ((hb.block w.heap.size hltC).trans HZC.out);have hltD:w.heap.size<wD.heap.size:=Nat.lt_of_lt_of_le hltC hb.size;clear hb HBC HZC;go_wp2_with fail
  with_reducible refine (X2.out _).mono ?_
  rintro e wE ⟨rfl,hb⟩;have HBE:=zh (HBD.out.trans (hb.mono hsD));have HZE:=zh ((hb.block w.heap.size hltD).trans HZD.out);have hz0:wE.cell? ⟨w.heap.size,0,none⟩=some (.string ⟨#[]⟩):=by rw[Lib.cell_of_heap HZE.out];rfl
  have hz1:wE.cell? ⟨w.heap.size,1,none⟩=some (.string ⟨#[]⟩):=by rw[Lib.cell_of_heap HZE.out];rfl
  have hf:∀j,wE.frozen? ⟨w.heap.size,j,none⟩=false:=fun j=>Lib.frozen_of_heap HZE.out j
  clear hb HBD HZD;go_wp2_with fail
  exact bodyPost_ret (v:=.agg #[.string ⟨KO.toArray⟩,.string ⟨KI.toArray⟩]) (results_cell_row Tryz.results75 _ _ w.heap.size _ _ _ _ rfl (two_put HZE.out) Tryz.underlying80 rfl inf_mac) rfl ⟨rfl,Below.setCell (p:=⟨w.heap.size,1,none⟩) (Below.setCell (p:=⟨w.heap.size,0,none⟩) HBE.out zle _) zle _⟩
 ·have hKs:K=l:=by rw[←hK];exact if_neg h64
  have h64i:¬(64:Int)<(l.length:Int):=by omega
  subst hKs;clear hK hB hZ;have HB1:=zh ((Below.refl w.heap.size w).alloc zle (.cells #[.string ⟨#[]⟩,.string ⟨#[]⟩] 80));have hs1:=HB1.out.size;have hlt1:w.heap.size<(w.alloc (.cells #[.string ⟨#[]⟩,.string ⟨#[]⟩] 80)).heap.size:=by simp
  have HZ1:Hid ((w.alloc (.cells #[.string ⟨#[]⟩,.string ⟨#[]⟩] 80)).heap[w.heap.size]?=some (.cells #[.string ⟨#[]⟩,.string ⟨#[]⟩] 80 (0,0))):=zh (heap_alloc_new w _);go_enter Tryz.func75,Tryz.ntmps75;go_wp2_with fail
  with_reducible refine (C0.out _).mono ?_
  rintro e wA ⟨rfl,hb⟩;have HBA:=zh (HB1.out.trans (hb.mono hs1));have hsA:=HBA.out.size;have HZA:=zh ((hb.block w.heap.size hlt1).trans HZ1.out);have hltA:w.heap.size<wA.heap.size:=Nat.lt_of_lt_of_le hlt1 hb.size;clear hb HB1 HZ1;go_wp2_with fail
  with_reducible refine (C1.out _).mono ?_
  rintro e wB ⟨rfl,hb⟩;have HBB:=zh (HBA.out.trans (hb.mono hsA));have hsB:=HBB.out.size;have HZB:=zh ((hb.block w.heap.size hltA).trans HZA.out);have hltB:w.heap.size<wB.heap.size:=Nat.lt_of_lt_of_le hltA hb.size;clear hb HBA HZA;go_wp2_with fail
  with_reducible refine (X1.out _).mono ?_
  rintro e wC ⟨rfl,hb⟩;have HBC:=zh (HBB.out.trans (hb.mono hsB));have hsC:=HBC.out.size;have HZC:=zh ((hb.block w.heap.size hltB).trans HZB.out);have hltC:w.heap.size<wC.heap.size:=Nat.lt_of_lt_of_le hltB hb.size;clear hb HBB HZB;go_wp2_with fail
  with_reducible refine (C2.out _).mono ?_
  rintro e wD ⟨rfl,hb⟩;have HBD:=zh (HBC.out.trans (hb.mono hsC));have hsD:=HBD.out.size;have HZD:=zh ((hb.block w.heap.size hltC).trans HZC.out);have hltD:w.heap.size<wD.heap.size:=Nat.lt_of_lt_of_le hltC hb.size;clear hb HBC HZC;go_wp2_with fail
  with_reducible refine (X2.out _).mono ?_
  rintro e wE ⟨rfl,hb⟩;have HBE:=zh (HBD.out.trans (hb.mono hsD));have HZE:=zh ((hb.block w.heap.size hltD).trans HZD.out);have hz0:wE.cell? ⟨w.heap.size,0,none⟩=some (.string ⟨#[]⟩):=by rw[Lib.cell_of_heap HZE.out];rfl
  have hz1:wE.cell? ⟨w.heap.size,1,none⟩=some (.string ⟨#[]⟩):=by rw[Lib.cell_of_heap HZE.out];rfl
  have hf:∀j,wE.frozen? ⟨w.heap.size,j,none⟩=false:=fun j=>Lib.frozen_of_heap HZE.out j
  clear hb HBD HZD;go_wp2_with fail
  exact bodyPost_ret (v:=.agg #[.string ⟨KO.toArray⟩,.string ⟨KI.toArray⟩]) (results_cell_row Tryz.results75 _ _ w.heap.size _ _ _ _ rfl (two_put HZE.out) Tryz.underlying80 rfl inf_mac) rfl ⟨rfl,Below.setCell (p:=⟨w.heap.size,1,none⟩) (Below.setCell (p:=⟨w.heap.size,0,none⟩) HBE.out zle _) zle _⟩
theorem of_of(O I:ByteArray)(vs:Value)(l L:List UInt8)(w:World)(hO:O.size≤100)(hI:I.size≤100)(hl:l.length≤50000)(hL:hm O.data.toList I.data.toList l=L)
 (CJ:Hid (∀W:World,Below w.heap.size w W→Calls Tryz.prog 142 #[vs,.string ⟨#[]⟩] W fun e w'=>e=.returned (.string ⟨l.toArray⟩)∧Below W.heap.size W w')) :
 Calls Tryz.prog 145 #[.agg #[.string O,.string I],vs] w fun e w'=>e=.returned (.string ⟨L.toArray⟩)∧Below w.heap.size w w':=by
 have hOl:O.data.toList.length=O.size:=by simp
 have hIl:I.data.toList.length=I.size:=by simp
 have CS1:=zh (fun W=>sum_two I ⟨l.toArray⟩ (I.data.toList++l) rfl (by rw[List.length_append,hIl];omega) W)
 have CS2:Hid (∀W:World,Calls Tryz.prog 108 #[.slice (some ⟨W.heap.size,0,none⟩) 2 2] (W.alloc (.cells #[.string O,.string ⟨(sha (I.data.toList++l)).toArray⟩] 9)) fun e w'=>e=.returned (.string ⟨L.toArray⟩)∧Below W.heap.size W w'):=zh (fun W=>by
  rw[←hL]
  exact sum_two O ⟨(sha (I.data.toList++l)).toArray⟩ (O.data.toList++sha (I.data.toList++l)) rfl (by rw[List.length_append,hOl,sha_len];omega) W)
 have HS0:Hid ((w.alloc (.cells #[.string O,.string I] 80)).drew.cell? ⟨w.heap.size,0,none⟩=some (.string O)∧(w.alloc (.cells #[.string O,.string I] 80)).drew.cell? ⟨w.heap.size,1,none⟩=some (.string I)):=zh (by constructor<;>simp[go_sem])
 have HW0:Hid (Below w.heap.size w (w.alloc (.cells #[.string O,.string I] 80)).drew):=zh (below_drew ((Below.refl _ _).alloc zle _));clear hL hOl hIl;generalize sha (I.data.toList++l)=Y at *;go_enter Tryz.func145,Tryz.ntmps145;go_wp2;refine wp_region_noPanic ?_;refine wp_region_held_drew (S:=fun w':World=>w'.cell? ⟨w.heap.size,0,none⟩=some (.string O)∧w'.cell? ⟨w.heap.size,1,none⟩=some (.string I)) (by kernel_rfl) ?_ (fun hHeld=>?_)
 ·exact HS0.out
 iterate 5
  refine zqb [0,1,2,3,4] rfl rfl ?_ ?_ ?_;rotate_left
  ·(intro w hSw;(obtain⟨hS0,hS1⟩:=hSw);go_simp;(try with_reducible rfl))
  try simp only[Act.put,J1,J2,J3,J4,J5,J6]
 refine zqf [5] (AllReadyH.cons rfl (fun K hK=>?_) AllReadyH.nil);rw[if_pos (by rfl)];go_simp;with_reducible refine (CJ.out _ HW0.out).mono ?_
 rintro e w2 ⟨rfl,hb2⟩;have HS2:=zh (two_call HS0.out hb2);have HB2:=zh (HW0.out.trans (hb2.mono HW0.out.size));clear hb2;refine hK.out _ _ ?_ (fun hHeld=>?_)
 ·exact HS2.out
 clear hK K
 try simp only[Act.put,J1,J2,J3,J4,J5,J6]
 refine zqf [6] (AllReadyH.cons rfl (fun K hK=>?_) AllReadyH.nil);rw[if_pos (by rfl)];go_simp;refine hK.out _ _ ?_ (fun hHeld=>?_)
 ·exact two_alloc HS2.out _
 clear hK K
 try simp only[Act.put,J1,J2,J3,J4,J5,J6]
 refine zqf [7] (AllReadyH.cons rfl (fun K hK=>?_) AllReadyH.nil);rw[if_pos (by rfl)];go_simp;with_reducible refine (CS1.out w2).mono ?_
 rintro e w3 ⟨rfl,hb3⟩;have HS3:=zh (two_call HS2.out hb3);have HB3:=zh (HB2.out.trans (hb3.mono HB2.out.size));clear hb3;refine hK.out _ _ ?_ (fun hHeld=>?_)
 ·exact HS3.out
 clear hK K
 try simp only[Act.put,J1,J2,J3,J4,J5,J6]
 refine zqf [8] (AllReadyH.cons rfl (fun K hK=>?_) AllReadyH.nil);rw[if_pos (by rfl)];go_simp;refine hK.out _ _ ?_ (fun hHeld=>?_)
 ·exact two_alloc HS3.out _
 clear hK K
 try simp only[Act.put,J1,J2,J3,J4,J5,J6]
 refine zqf [9] (AllReadyH.cons rfl (fun K hK=>?_) AllReadyH.nil);rw[if_pos (by rfl)];go_simp;with_reducible refine (CS2.out w3).mono ?_
 rintro e w4 ⟨rfl,hb4⟩;have HS4:=zh (two_call HS3.out hb4);have HB4:=zh (HB3.out.trans (hb4.mono HB3.out.size));clear hb4;refine hK.out _ _ ?_ (fun hHeld=>?_)
 ·exact HS4.out
 clear hK K
 try simp only[Act.put,J1,J2,J3,J4,J5,J6]
 refine zqa 10 rfl ?_ ?_ ?_;rotate_left
 ·(intro w hSw;(obtain⟨hS0,hS1⟩:=hSw);go_simp;(try with_reducible rfl))
 try simp only[Act.put,J1,J2,J3,J4,J5,J6]
 refine zqe (NoPanic.normal ?_);go_wp2
 go_ret
 exact⟨rfl,HB4.out⟩
end Go.Proofs.YtagbkmoahflfdaaGreatDoor.Kd
namespace Go.Proofs.YtagbkmoahflfdaaGreatDoor.Dg
open Go.RowKit
def Own8 (w:World) (B:Nat) (v:Value) (l:List UInt8):Prop:=w.ownsRow B 5 1 v l.length (Lib.byteCells l)
theorem Own8.form{w:World}{B:Nat}{v:Value}{l:List UInt8}(h:Own8 w B v l):∃a c,v=.slice a l.length c:=by
 rcases h.2 with ⟨hv,hl⟩|⟨g,cap,cur,hv,_⟩
 ·exact⟨none,0,by rw[hv,hl]⟩
 ·exact⟨_,_,hv⟩
theorem Own8.of{w:World}{B:Nat}{v:Value}{l m:List UInt8}{n:Nat}(hn:n=l.length+m.length)(h:w.ownsRow B 5 1 v n (Lib.byteCells l++Lib.byteCells m)):Own8 w B v (l++m):=by
 unfold Own8;rw[byteCells_app,List.length_append,←hn];exact h
theorem bit_step(x y j:Nat):(x ^^^ y)%2^(j+1)=(x ^^^ y)%2^j+(if x/2^j%2=y/2^j%2 then 0 else 2^j):=by
 rw[Nat.mod_pow_succ]
 have h:(x ^^^ y)/2^j%2=if x/2^j%2=y/2^j%2 then 0 else 1:=by
  have e:(x ^^^ y).testBit j=(x.testBit j ^^ y.testBit j):=Nat.testBit_xor ..;rw[Nat.testBit_eq_decide_div_mod_eq,Nat.testBit_eq_decide_div_mod_eq,Nat.testBit_eq_decide_div_mod_eq]at e;have h1:=Nat.mod_two_eq_zero_or_one ((x ^^^ y)/2^j);have h2:=Nat.mod_two_eq_zero_or_one (x/2^j);have h3:=Nat.mod_two_eq_zero_or_one (y/2^j)
  rcases h1 with h1|h1<;>rcases h2 with h2|h2<;>rcases h3 with h3|h3<;>simp[h1,h2,h3]at e ⊢
 rw[h]
 split<;>simp
theorem conv_owned{wr:World}{B:Nat}{v:Value}(l:List UInt8)(h:wr.ownsRow B 5 1 v l.length (l.map fun b=>.int .u8 (b.toNat:Int))) :
 (convert 66 9 v).run Tryz.prog wr=.ok (.string ⟨l.toArray⟩) wr:=by
 have h0:=h;obtain⟨hlen,⟨rfl,hn⟩|⟨g,cap,cur,rfl,hb,hg,hnc,hcm,hcs,ht⟩⟩:=h
 ·have:l=[]:=List.eq_nil_of_length_eq_zero hn
  subst this;rw[run_convert_bytes_nil (P:=Tryz.prog) wr 66 5 Tryz.underlying66 Tryz.underlying5 0 0 9 Tryz.underlying9];rfl
 ·refine run_convert_bytes_back (P:=Tryz.prog) wr 66 9 5 _ cap l Tryz.underlying66 Tryz.underlying5 Tryz.underlying9 ?_
  intro j hj;have:=h0.cellAt j (by omega)
  have e:(⟨g,0,none⟩:Addr).add j=⟨g,j,none⟩:=by unfold Addr.add;split<;>simp_all
  rw[e,this];simp[List.getElem?_eq_getElem hj]
open Tk
theorem pow_step(k:Nat)(hk:k≤62):((2^k:Nat):Int)*2=((2^(k+1):Nat):Int):=by rw[Nat.pow_succ];push_cast;rfl
theorem pow_le(k:Nat)(hk:k≤62):((2^k:Nat):Int)≤4611686018427387904:=by
 have:2^k≤2^62:=Nat.pow_le_pow_right (by decide) hk;omega
theorem power_ref(n:Nat)(w:World)(hn:n≤63):Calls Tryz.prog 148 #[.int .i64 n] w fun e w'=>e=.returned (.int .u64 (2^n:Nat))∧w'=w:=by
 go_enter Tryz.func148,Tryz.ntmps148;go_wp2
 go_loop [3,4] (fun x i=>∃k:Nat,k≤n∧i=.int .i64 k∧x=.int .u64 (2^k:Nat)) (fun _ i=>n-(intOf i).toNat)
 case atStart=>exact⟨0,Nat.zero_le _,rfl,rfl⟩
 case round=>
  obtain⟨k,hk,rfl,rfl⟩:=hrel;by_cases hlt:k<n
  ·have hp:=pow_le k (by omega)
   have hp0:(1:Int)≤((2^k:Nat):Int):=by have:=Nat.one_le_two_pow (n:=k);omega
   have HS:=zh (pow_step k (by omega));obtain⟨K,hK⟩:∃K:Nat,2^k=K:=⟨_,rfl⟩;rw[hK]at hp hp0 HS ⊢;clear hK;go_wp2
   go_round
   case rel=>exact⟨k+1,by omega,by go_num,by rw[←HS.out]⟩
   case measure=>simp[intOf];omega
  ·obtain rfl:k=n:=by omega
   go_wp2
   go_ret
   exact⟨rfl,rfl⟩
theorem turn_ref(x n:Nat)(w:World)(hx:x<4294967296)(h1:1≤n)(h2:n≤31):Calls Tryz.prog 169 #[.int .u64 x,.int .i64 n] w fun e w'=>e=.returned (.int .u64 (rr x n:Nat))∧∃m,w'=w.drewN m:=by
 obtain⟨m,hm⟩:∃m,32-n=m:=⟨_,rfl⟩;have CA:=zh (fun w=>power_ref n w (by omega));have CB:=zh (fun w=>power_ref m w (by omega));have hr:=rr_lt hx (show n≤32 by omega);obtain⟨R,hR⟩:∃R,rr x n=R:=⟨_,rfl⟩;rw[hR]at hr ⊢;unfold rr at hR;rw[hm]at hR;have hA0:1≤2^n:=Nat.one_le_two_pow;generalize 2^n=A at *;generalize 2^m=B at *;obtain⟨d,hd⟩:∃d,x/A=d:=⟨_,rfl⟩;obtain⟨r,hr2⟩:∃r,x%A=r:=⟨_,rfl⟩;obtain⟨M,hM⟩:∃M,r*B=M:=⟨_,rfl⟩;rw[hd,hr2,hM]at hR;have e0:IntKind.i64.wrap ((32:Int)-(n:Int))=(m:Int):=by rw[IntWalk.i64_in _ (by omega)];omega
 have e0':(32:Int)-(n:Int)=(m:Int):=by omega
 have e1:(x:Int)/(A:Int)=(d:Int):=by rw[←hd];push_cast;rfl
 have e1':(x:Int).tdiv (A:Int)=(d:Int):=by rw[Int.tdiv_eq_ediv_of_nonneg (by omega)];exact e1
 have e2:(x:Int)%(A:Int)=(r:Int):=by rw[←hr2];push_cast;rfl
 have e2':(x:Int).tmod (A:Int)=(r:Int):=by rw[Int.tmod_eq_emod_of_nonneg (by omega)];exact e2
 have e3:(r:Int)*(B:Int)=(M:Int):=by rw[←hM];push_cast;rfl
 have e3':IntKind.u64.wrap (M:Int)=(M:Int):=by rw[IntKind.wrap_u64];omega
 have e4:IntKind.u64.wrap ((d:Int)+(M:Int))=(R:Int):=by rw[IntKind.wrap_u64];omega
 have e5:IntKind.u64.wrap (d:Int)=(d:Int):=by rw[IntKind.wrap_u64];omega
 have hA:((A:Int)==0)=false:=by rw[beq_eq_false_iff_ne];omega
 have hA1:(1:Int)≤(A:Int):=by omega
 have hx1:(x:Int)≤4294967295:=by omega
 clear hd hr2 hM hx hr hR hA0 hm;go_enter Tryz.func169,Tryz.ntmps169;go_wp2;go_quiet (first|(go_at_call 148;with_reducible exact Calls.quiet_of_same (CA.out _))|(go_at_call 148;with_reducible exact Calls.quiet_of_same (CB.out _)))
 go_wp2
 go_ret
 exact⟨rfl,_,rfl⟩
end Go.Proofs.YtagbkmoahflfdaaGreatDoor.Dg
