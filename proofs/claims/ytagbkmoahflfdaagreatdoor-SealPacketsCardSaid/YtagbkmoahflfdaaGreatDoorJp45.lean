import Derived.Test.YtagbkmoahflfdaaGreatDoorJp01
import Derived.Test.YtagbkmoahflfdaaGreatDoorJp44
set_option maxHeartbeats 16000000
set_option maxRecDepth 100000
set_option linter.unusedVariables false
set_option linter.unusedSimpArgs false
namespace Go.Proofs.YtagbkmoahflfdaaGreatDoor.Se
open Tk Go.RowKit Vm Dg Kd
structure Okk (s:Sst):Prop where
 sec:s.sec.length≤1000
 wk:s.w.k.length≤1000
 wv:s.w.v.length≤1000
 nk:s.n.k.length≤1000
 nv:s.n.v.length≤1000
 nm:s.n.m.length≤1000
 tk:s.t.k.length≤1000
 tv:s.t.v.length≤1000
theorem okk_new(l:List UInt8):Okk (newS l):=
 ⟨by show (nxt l).length≤1000;rw[nxt_len];decide,Nat.zero_le _,Nat.zero_le _,by show (ofK l).k.length≤1000;rw[ofK_k];decide,by show (ofK l).v.length≤1000;rw[ofK_v];decide,by show (ofK l).m.length≤1000;rw[ofK_m];decide,
  by show (ofK (nxt l)).k.length≤1000;rw[ofK_k];decide,by show (ofK (nxt l)).v.length≤1000;rw[ofK_v];decide⟩
theorem okk_turn(s:Sst)(h:Okk s):Okk (turnS s):=
 ⟨by show (nxt s.sec).length≤1000;rw[nxt_len];decide,h.nk,h.nv,h.tk,h.tv,h.nm,by show (ofK (nxt s.sec)).k.length≤1000;rw[ofK_k];decide,by show (ofK (nxt s.sec)).v.length≤1000;rw[ofK_v];decide⟩
theorem okk_tn(l:List UInt8)(k:Nat):Okk (tn (newS l) k):=by
 induction k with
 | zero=>exact okk_new l
 | succ k ih=>exact okk_turn _ ih
theorem pro_both(s:Sst)(h:Okk s)(num acked:Nat)(any:Bool)(cid plain:List UInt8)(hn:num≤4611686018427387903)(hp2:plain.length≤5000):∃(P:ByteArray) (er:Int),
 (∀W:World,Tab W→Calls Tryz.prog 27 #[.agg s.arr,.int .u64 num,.int .u64 acked,.bool any,.string ⟨cid.toArray⟩,.string ⟨plain.toArray⟩] W fun e w'=>e=.returned (.tuple #[.string P,.int .i64 er])∧Below W.heap.size W w') ∧
 (∀W:World,Calls Tryz.prog 28 #[.agg s.arr,.int .u64 num,.int .u64 acked,.bool any,.string ⟨cid.toArray⟩,.string ⟨plain.toArray⟩] W fun e w'=>e=.returned (.tuple #[.string P,.int .i64 er])∧Below W.heap.size W w'):=by
 by_cases hc:cid.length=8∧4≤plain.length
 ·exact⟨_,_,fun W hW=>protect_any s num acked any cid plain W hW h.nk h.nv h.nm hn hc.1 hc.2 hp2,fun W=>dprotect_any s num acked any cid plain W h.nk h.nv h.nm hn hc.1 hc.2 hp2⟩
 ·have hno:(4611686018427387903:Int)<(num:Int)∨(num:Int)≤4611686018427387903∧((⟨cid.toArray⟩:ByteArray).size≠8∨(⟨cid.toArray⟩:ByteArray).size=8∧(⟨plain.toArray⟩:ByteArray).size<4):=by
   rw[ba_size,ba_size];omega
  exact⟨_,_,fun W hW=>protect_no _ _ _ _ _ _ _ _ _ _ s.old s.phase num acked any _ _ W hno,fun W=>dprotect_no _ _ _ _ _ _ _ _ _ _ s.old s.phase num acked any _ _ W hno⟩
theorem packets_k(sec cid plain packet:ByteArray)(turns num other:Int)(known:Bool)(w:World)(ht:Tab w)(h:60<(sec.size:Int)) :
 Calls Tryz.prog 6 #[.string sec,.int .u8 turns,.int .u64 num,.int .u64 other,.bool known,.string cid,.string plain,.string packet] w fun e w'=>e=.returned (.bool true)∧Below w.heap.size w w':=by
 have f0:(sec.size:Int) > 60:=by omega
 have CS:=zh (shown_any w ht);clear h ht;go_enter Tryz.func6,Tryz.ntmps6;go_wp2_with fail
 with_reducible refine CS.out.mono ?_
 rintro e1 w1 ⟨rfl,hb⟩;have HB1:=zh hb;clear hb;go_wp2_with fail
 go_ret
 exact⟨rfl,HB1.out⟩
theorem packets_c(sec cid plain packet:ByteArray)(turns num other:Int)(known:Bool)(w:World)(ht:Tab w)(h:(sec.size:Int)≤60∧20<(cid.size:Int)) :
 Calls Tryz.prog 6 #[.string sec,.int .u8 turns,.int .u64 num,.int .u64 other,.bool known,.string cid,.string plain,.string packet] w fun e w'=>e=.returned (.bool true)∧Below w.heap.size w w':=by
 have f0:¬(sec.size:Int) > 60:=by omega
 have f1:(cid.size:Int) > 20:=by omega
 have CS:=zh (shown_any w ht);clear h ht;go_enter Tryz.func6,Tryz.ntmps6;go_wp2_with fail
 with_reducible refine CS.out.mono ?_
 rintro e1 w1 ⟨rfl,hb⟩;have HB1:=zh hb;clear hb;go_wp2_with fail
 go_ret
 exact⟨rfl,HB1.out⟩
theorem packets_p(sec cid plain packet:ByteArray)(turns num other:Int)(known:Bool)(w:World)(ht:Tab w)(h:(sec.size:Int)≤60∧(cid.size:Int)≤20∧300<(plain.size:Int)) :
 Calls Tryz.prog 6 #[.string sec,.int .u8 turns,.int .u64 num,.int .u64 other,.bool known,.string cid,.string plain,.string packet] w fun e w'=>e=.returned (.bool true)∧Below w.heap.size w w':=by
 have f0:¬(sec.size:Int) > 60:=by omega
 have f1:¬(cid.size:Int) > 20:=by omega
 have f2:(plain.size:Int) > 300:=by omega
 have CS:=zh (shown_any w ht);clear h ht;go_enter Tryz.func6,Tryz.ntmps6;go_wp2_with fail
 with_reducible refine CS.out.mono ?_
 rintro e1 w1 ⟨rfl,hb⟩;have HB1:=zh hb;clear hb;go_wp2_with fail
 go_ret
 exact⟨rfl,HB1.out⟩
theorem packets_q(sec cid plain packet:ByteArray)(turns num other:Int)(known:Bool)(w:World)(ht:Tab w)(h:(sec.size:Int)≤60∧(cid.size:Int)≤20∧(plain.size:Int)≤300∧400<(packet.size:Int)) :
 Calls Tryz.prog 6 #[.string sec,.int .u8 turns,.int .u64 num,.int .u64 other,.bool known,.string cid,.string plain,.string packet] w fun e w'=>e=.returned (.bool true)∧Below w.heap.size w w':=by
 have f0:¬(sec.size:Int) > 60:=by omega
 have f1:¬(cid.size:Int) > 20:=by omega
 have f2:¬(plain.size:Int) > 300:=by omega
 have f3:(packet.size:Int) > 400:=by omega
 have CS:=zh (shown_any w ht);clear h ht;go_enter Tryz.func6,Tryz.ntmps6;go_wp2_with fail
 with_reducible refine CS.out.mono ?_
 rintro e1 w1 ⟨rfl,hb⟩;have HB1:=zh hb;clear hb;go_wp2_with fail
 go_ret
 exact⟨rfl,HB1.out⟩
theorem packets_n(sec cid plain packet:ByteArray)(turns num other:Int)(known:Bool)(w:World)(ht:Tab w)(h:(sec.size:Int)≤60∧(cid.size:Int)≤20∧(plain.size:Int)≤300∧(packet.size:Int)≤400∧4611686018427387904≤num) :
 Calls Tryz.prog 6 #[.string sec,.int .u8 turns,.int .u64 num,.int .u64 other,.bool known,.string cid,.string plain,.string packet] w fun e w'=>e=.returned (.bool true)∧Below w.heap.size w w':=by
 have f0:¬(sec.size:Int) > 60:=by omega
 have f1:¬(cid.size:Int) > 20:=by omega
 have f2:¬(plain.size:Int) > 300:=by omega
 have f3:¬(packet.size:Int) > 400:=by omega
 have f4:num≥4611686018427387904:=by omega
 have CS:=zh (shown_any w ht);clear h ht;go_enter Tryz.func6,Tryz.ntmps6;go_wp2_with fail
 with_reducible refine CS.out.mono ?_
 rintro e1 w1 ⟨rfl,hb⟩;have HB1:=zh hb;clear hb;go_wp2_with fail
 go_ret
 exact⟨rfl,HB1.out⟩
theorem packets_o(sec cid plain packet:ByteArray)(turns num other:Int)(known:Bool)(w:World)(ht:Tab w)(h:(sec.size:Int)≤60∧(cid.size:Int)≤20∧(plain.size:Int)≤300∧(packet.size:Int)≤400∧num<4611686018427387904∧4611686018427387904≤other) :
 Calls Tryz.prog 6 #[.string sec,.int .u8 turns,.int .u64 num,.int .u64 other,.bool known,.string cid,.string plain,.string packet] w fun e w'=>e=.returned (.bool true)∧Below w.heap.size w w':=by
 have f0:¬(sec.size:Int) > 60:=by omega
 have f1:¬(cid.size:Int) > 20:=by omega
 have f2:¬(plain.size:Int) > 300:=by omega
 have f3:¬(packet.size:Int) > 400:=by omega
 have f4:¬num≥4611686018427387904:=by omega
 have f5:other≥4611686018427387904:=by omega
 have CS:=zh (shown_any w ht);clear h ht;go_enter Tryz.func6,Tryz.ntmps6;go_wp2_with fail
 with_reducible refine CS.out.mono ?_
 rintro e1 w1 ⟨rfl,hb⟩;have HB1:=zh hb;clear hb;go_wp2_with fail
 go_ret
 exact⟨rfl,HB1.out⟩
theorem packets_ok(l cd pl pk:List UInt8)(turns:Int)(num other:Nat)(known:Bool)(w:World)(ht:Tab w)(h0:0≤turns)(h1:turns≤255)(hl:l.length≤60)(hc:cd.length≤20)(hp:pl.length≤300)(hk:pk.length≤400)(hn:(num:Int)<4611686018427387904)(ho:(other:Int)<4611686018427387904) :
 Calls Tryz.prog 6 #[.string ⟨l.toArray⟩,.int .u8 turns,.int .u64 num,.int .u64 other,.bool known,.string ⟨cd.toArray⟩,.string ⟨pl.toArray⟩,.string ⟨pk.toArray⟩] w fun e w'=>e=.returned (.bool true)∧Below w.heap.size w w':=by
 obtain⟨t,h6⟩:∃t:Nat,turns%3=(t:Int):=⟨(turns%3).toNat,by omega⟩;have htm:turns.tmod 3=(t:Int):=by rw[Int.tmod_eq_emod_of_nonneg h0];exact h6
 have htI:(t:Int)<3:=by omega
 have CS:=zh (shown_any w ht);have HT:=zh ht;have CN:=zh (fun W=>new_any l W (by omega));have CD:=zh (fun W=>dnew_any l W (by omega));have HSL:=zh (tn_sec l);have hok:=okk_tn l t;obtain⟨S0,hS0⟩:∃S,newS l=S:=⟨_,rfl⟩;rw[hS0]at CN CD HSL hok;obtain⟨P,er,hP1,hP2⟩:=pro_both (tn S0 t) hok num other known cd pl (by omega) (by omega);obtain⟨s2,n2,P2,er2,hU1,hU2⟩:=unp_both (tn S0 t).sec (tn S0 t).w.k (tn S0 t).w.v (tn S0 t).w.m (tn S0 t).n.k (tn S0 t).n.v (tn S0 t).n.m (tn S0 t).t.k (tn S0 t).t.v (tn S0 t).t.m (tn S0 t).old (tn S0 t).phase other known pk hok.sec (by omega) (by omega) hok.wk hok.wv hok.nk hok.nv hok.nm hok.tk hok.tv;have CP1:=zh hP1;have CP2:=zh hP2;have CITS:=zh (fun W=>its_any s2 W);have CU1:Hid (∀W:World,Tab W→Calls Tryz.prog 29 #[.agg (tn S0 t).arr,.int .u64 other,.bool known,.string ⟨pk.toArray⟩] W fun e w'=>e=.returned (.tuple #[.agg s2.arr,.int .u64 n2,.string P2,.int .i64 er2])∧Below W.heap.size W w'):=zh hU1;have CU2:Hid (∀W:World,Calls Tryz.prog 30 #[.agg (tn S0 t).arr,.int .u64 other,.bool known,.string ⟨pk.toArray⟩] W fun e w'=>e=.returned (.tuple #[.agg s2.arr,.int .u64 n2,.string P2,.int .i64 er2])∧Below W.heap.size W w'):=zh hU2;clear hP1 hP2 hU1 hU2 hok;obtain⟨sec,hsec⟩:∃s:ByteArray,⟨l.toArray⟩=s:=⟨_,rfl⟩;obtain⟨cid,hcid⟩:∃s:ByteArray,⟨cd.toArray⟩=s:=⟨_,rfl⟩;obtain⟨plain,hplain⟩:∃s:ByteArray,⟨pl.toArray⟩=s:=⟨_,rfl⟩;obtain⟨packet,hpacket⟩:∃s:ByteArray,⟨pk.toArray⟩=s:=⟨_,rfl⟩;have f0:¬(sec.size:Int) > 60:=by rw[←hsec,ba_size];omega
 have f1:¬(cid.size:Int) > 20:=by rw[←hcid,ba_size];omega
 have f2:¬(plain.size:Int) > 300:=by rw[←hplain,ba_size];omega
 have f3:¬(packet.size:Int) > 400:=by rw[←hpacket,ba_size];omega
 have f4:¬(num:Int)≥4611686018427387904:=by omega
 have f5:¬(other:Int)≥4611686018427387904:=by omega
 rw[hsec]at CN CD;rw[hcid,hplain]at CP1 CP2;rw[hpacket]at CU1 CU2;rw[hsec,hcid,hplain,hpacket];obtain⟨x0,x1,x2,x3,x4,x5,x6,x7,x8,x9,xo,xp,hX⟩:∃(x0 x1 x2 x3 x4 x5 x6 x7 x8 x9:ByteArray) (xo xp:Bool),(tn S0 t).arr=#[.string x0,.string x1,.string x2,.string x3,.string x4,.string x5,.string x6,.string x7,.string x8,.string x9,.bool xo,.bool xp]:=⟨_,_,_,_,_,_,_,_,_,_,(tn S0 t).old,(tn S0 t).phase,rfl⟩;obtain⟨y0,y1,y2,y3,y4,y5,y6,y7,y8,y9,yo,yp,hY⟩:∃(y0 y1 y2 y3 y4 y5 y6 y7 y8 y9:ByteArray) (yo yp:Bool),s2.arr=#[.string y0,.string y1,.string y2,.string y3,.string y4,.string y5,.string y6,.string y7,.string y8,.string y9,.bool yo,.bool yp]:=⟨_,_,_,_,_,_,_,_,_,_,s2.old,s2.phase,rfl⟩;rw[hX]at CP1 CP2 CU1 CU2;rw[hY]at CU1 CU2 CITS;have HX:=zh hX;have hA0:(tn S0 0).arr=S0.arr:=rfl;obtain⟨a0,a1,a2,a3,a4,a5,a6,a7,a8,a9,ao,ap,hA⟩:∃(a0 a1 a2 a3 a4 a5 a6 a7 a8 a9:ByteArray) (ao ap:Bool),S0.arr=#[.string a0,.string a1,.string a2,.string a3,.string a4,.string a5,.string a6,.string a7,.string a8,.string a9,.bool ao,.bool ap]:=⟨_,_,_,_,_,_,_,_,_,_,S0.old,S0.phase,rfl⟩;have HA:=zh (hA0.trans hA);rw[hA]at CN CD;clear hsec hcid hplain hpacket hS0 ht hA0 hA hX hY hl hc hp hk hn ho;go_enter Tryz.func6,Tryz.ntmps6;go_wp2_with fail
 with_reducible refine CS.out.mono ?_
 rintro e1 w1 ⟨rfl,hb⟩;have HB1:=zh hb;clear hb CS;go_wp2_with fail
 with_reducible refine (CN.out _).mono ?_
 rintro e2 w2 ⟨rfl,hb⟩;have HB2:=zh (HB1.out.trans (hb.mono HB1.out.size));clear hb CN;go_wp2_with fail
 have HX2:=zh (heap_alloc_new w2 (.cells #[.string a0,.string a1,.string a2,.string a3,.string a4,.string a5,.string a6,.string a7,.string a8,.string a9,.bool ao,.bool ap] 43));have HB2':=zh (HB2.out.alloc HB2.out.size (.cells #[.string a0,.string a1,.string a2,.string a3,.string a4,.string a5,.string a6,.string a7,.string a8,.string a9,.bool ao,.bool ap] 43));with_reducible refine (CD.out _).mono ?_
 rintro e3 w3 ⟨rfl,hb⟩;have HX3:=zh ((hb.block _ (Array.getElem?_eq_some_iff.1 HX2.out).1).trans HX2.out);have HB3:=zh (HB2'.out.trans (hb.mono HB2'.out.size));have hlt3:w2.heap.size<w3.heap.size:=(Array.getElem?_eq_some_iff.1 HX3.out).1;have hws:w.heap.size≤w2.heap.size:=HB2.out.size;clear hb CD HX2 HB2';have HD3:Hid (((w3.alloc (.cells #[.string a0,.string a1,.string a2,.string a3,.string a4,.string a5,.string a6,.string a7,.string a8,.string a9,.bool ao,.bool ap] 46)).heap[w2.heap.size]?=some (.cells (tn S0 0).arr 43 (0,0))∧(w3.alloc (.cells #[.string a0,.string a1,.string a2,.string a3,.string a4,.string a5,.string a6,.string a7,.string a8,.string a9,.bool ao,.bool ap] 46)).heap[w3.heap.size]?=some (.cells (tn S0 0).arr 46 (0,0)))∧Below w.heap.size w (w3.alloc (.cells #[.string a0,.string a1,.string a2,.string a3,.string a4,.string a5,.string a6,.string a7,.string a8,.string a9,.bool ao,.bool ap] 46))):=zh ⟨⟨by rw[HA.out];exact (Below.heap_alloc w3 _ _ hlt3).trans HX3.out,by rw[HA.out];exact heap_alloc_new w3 _⟩,HB3.out.alloc HB3.out.size _⟩;go_upto_region 5 with (fail)
 generalize w3.alloc (.cells #[.string a0,.string a1,.string a2,.string a3,.string a4,.string a5,.string a6,.string a7,.string a8,.string a9,.bool ao,.bool ap] 46)=W3 at *;clear HX3 HB3 HA;generalize hb5:w2.heap.size=b5 at *;generalize hb6:w3.heap.size=b6 at *;have h56:b5≠b6:=by omega
 have hwb5:w.heap.size≤b5:=hws;have hwb6:w.heap.size≤b6:=by omega
 clear hb5 hb6 hlt3 hws HB1 HB2;go_wp2_with fail
 go_loopw [19] (fun iv wr=>∃i:Nat,i≤t∧iv=.int .i64 i∧(wr.heap[b5]?=some (.cells (tn S0 i).arr 43 (0,0))∧wr.heap[b6]?=some (.cells (tn S0 i).arr 46 (0,0)))∧Below w.heap.size w wr) (fun iv _=>t-(intOf iv).toNat)
 case atStart=>exact⟨0,Nat.zero_le _,rfl,HD3.out.1,HD3.out.2⟩
 case round=>
  clear HD3;obtain⟨i,hi,rfl,hx,hB⟩:=hrel;by_cases hlt:i<t
  ·have CT:=zh (fun W=>turn_any (tn S0 i) W (by rw[HSL.out];decide))
   have CU:=zh (fun W=>dturn_any (tn S0 i) W (by rw[HSL.out];decide));obtain⟨c0,c1,c2,c3,c4,c5,c6,c7,c8,c9,co,cp,hAY⟩:∃(c0 c1 c2 c3 c4 c5 c6 c7 c8 c9:ByteArray) (co cp:Bool),(tn S0 (i+1)).arr=#[.string c0,.string c1,.string c2,.string c3,.string c4,.string c5,.string c6,.string c7,.string c8,.string c9,.bool co,.bool cp]:=⟨_,_,_,_,_,_,_,_,_,_,(tn S0 (i+1)).old,(tn S0 (i+1)).phase,rfl⟩;have hAY0:(turnS (tn S0 i)).arr=(tn S0 (i+1)).arr:=rfl;rw[hAY0,hAY]at CT CU;obtain⟨a0,a1,a2,a3,a4,a5,a6,a7,a8,a9,ao,ap,hAA⟩:∃(a0 a1 a2 a3 a4 a5 a6 a7 a8 a9:ByteArray) (ao ap:Bool),(tn S0 i).arr=#[.string a0,.string a1,.string a2,.string a3,.string a4,.string a5,.string a6,.string a7,.string a8,.string a9,.bool ao,.bool ap]:=⟨_,_,_,_,_,_,_,_,_,_,(tn S0 i).old,(tn S0 i).phase,rfl⟩;rw[hAA]at hx CT CU;have HH:=zh (And.intro hx hB);have HAY:=zh hAY;clear hAA hAY hAY0 hx hB CP1 CP2 CU1 CU2 CITS HX;have hltI:(i:Int)<(t:Int):=by omega
   obtain⟨p0,p1,p2,p3,p4,p5,p6,p7,p8,p9,p10,p11⟩:=cells12 HH.out.1.1;obtain⟨g0,g1,g2,g3,g4,g5,g6,g7,g8,g9,g10,g11⟩:=fz12 HH.out.1.1;go_wp2_with fail
   with_reducible refine (CT.out _).mono ?_
   rintro e2 v2 ⟨rfl,hb⟩;have HX2:Hid (v2.heap[b5]?=some (.cells #[.string a0,.string a1,.string a2,.string a3,.string a4,.string a5,.string a6,.string a7,.string a8,.string a9,.bool ao,.bool ap] 43 (0,0))):=zh ((hb.block b5 (Array.getElem?_eq_some_iff.1 HH.out.1.1).1).trans HH.out.1.1);have HR2:Hid (v2.heap[b6]?=some (.cells #[.string a0,.string a1,.string a2,.string a3,.string a4,.string a5,.string a6,.string a7,.string a8,.string a9,.bool ao,.bool ap] 46 (0,0))):=zh ((hb.block b6 (Array.getElem?_eq_some_iff.1 HH.out.1.2).1).trans HH.out.1.2);have HB2:=zh (HH.out.2.trans (hb.mono HH.out.2.size));clear hb p0 g0 p1 g1 p2 g2 p3 g3 p4 g4 p5 g5 p6 g6 p7 g7 p8 g8 p9 g9 p10 g10 p11 g11;obtain⟨p0,p1,p2,p3,p4,p5,p6,p7,p8,p9,p10,p11⟩:=cells12 HX2.out;obtain⟨g0,g1,g2,g3,g4,g5,g6,g7,g8,g9,g10,g11⟩:=fz12 HX2.out;go_upto_region 9 with (fail)
   have HX3:=zh (put12 HX2.out (.string c0) (.string c1) (.string c2) (.string c3) (.string c4) (.string c5) (.string c6) (.string c7) (.string c8) (.string c9) (.bool co) (.bool cp));have HR3:=zh (other12 HR2.out (Ne.symm h56) (.string c0) (.string c1) (.string c2) (.string c3) (.string c4) (.string c5) (.string c6) (.string c7) (.string c8) (.string c9) (.bool co) (.bool cp));have HB3:=zh (below12 HB2.out hwb5 (.string c0) (.string c1) (.string c2) (.string c3) (.string c4) (.string c5) (.string c6) (.string c7) (.string c8) (.string c9) (.bool co) (.bool cp));clear p0 g0 p1 g1 p2 g2 p3 g3 p4 g4 p5 g5 p6 g6 p7 g7 p8 g8 p9 g9 p10 g10 p11 g11;generalize ((((((((((((v2.setCell ⟨b5,0,none⟩ (.string c0)).setCell ⟨b5,1,none⟩ (.string c1)).setCell ⟨b5,2,none⟩ (.string c2)).setCell ⟨b5,3,none⟩ (.string c3)).setCell ⟨b5,4,none⟩ (.string c4)).setCell ⟨b5,5,none⟩ (.string c5)).setCell ⟨b5,6,none⟩ (.string c6)).setCell ⟨b5,7,none⟩ (.string c7)).setCell ⟨b5,8,none⟩ (.string c8)).setCell ⟨b5,9,none⟩ (.string c9)).setCell ⟨b5,10,none⟩ (.bool co)).setCell ⟨b5,11,none⟩ (.bool cp))=V2 at *;obtain⟨p0,p1,p2,p3,p4,p5,p6,p7,p8,p9,p10,p11⟩:=cells12 HR3.out;go_wp2_with fail
   with_reducible refine (CU.out _).mono ?_
   rintro e3 v3 ⟨rfl,hb⟩;have HX4:Hid (v3.heap[b5]?=some (.cells #[.string c0,.string c1,.string c2,.string c3,.string c4,.string c5,.string c6,.string c7,.string c8,.string c9,.bool co,.bool cp] 43 (0,0))):=zh ((hb.block b5 (Array.getElem?_eq_some_iff.1 HX3.out).1).trans HX3.out);have HR4:Hid (v3.heap[b6]?=some (.cells #[.string a0,.string a1,.string a2,.string a3,.string a4,.string a5,.string a6,.string a7,.string a8,.string a9,.bool ao,.bool ap] 46 (0,0))):=zh ((hb.block b6 (Array.getElem?_eq_some_iff.1 HR3.out).1).trans HR3.out);have HB4:=zh (HB3.out.trans (hb.mono HB3.out.size));clear hb p0 p1 p2 p3 p4 p5 p6 p7 p8 p9 p10 p11 HX2 HR2 HB2 HX3 HR3 HB3;obtain⟨p0,p1,p2,p3,p4,p5,p6,p7,p8,p9,p10,p11⟩:=cells12 HR4.out;obtain⟨g0,g1,g2,g3,g4,g5,g6,g7,g8,g9,g10,g11⟩:=fz12 HR4.out;go_wp2_with fail
   go_roundw
   case rel=>
    have h5:=other12 HX4.out h56 (.string c0) (.string c1) (.string c2) (.string c3) (.string c4) (.string c5) (.string c6) (.string c7) (.string c8) (.string c9) (.bool co) (.bool cp);have h6:=put12 HR4.out (.string c0) (.string c1) (.string c2) (.string c3) (.string c4) (.string c5) (.string c6) (.string c7) (.string c8) (.string c9) (.bool co) (.bool cp);rw[←HAY.out]at h5 h6;exact⟨i+1,by omega,by go_num,⟨h5,h6⟩,below12 HB4.out hwb6 (.string c0) (.string c1) (.string c2) (.string c3) (.string c4) (.string c5) (.string c6) (.string c7) (.string c8) (.string c9) (.bool co) (.bool cp)⟩
   case measure=>simp only[intOf];omega
  ·obtain rfl:i=t:=by omega
   have hltI:¬(i:Int)<(i:Int):=by omega
   rw[HX.out]at hx;have HH:=zh (And.intro hx hB);clear hx hB;obtain⟨p0,p1,p2,p3,p4,p5,p6,p7,p8,p9,p10,p11⟩:=cells12 HH.out.1.1;go_wp2_with fail
   with_reducible refine (CP1.out _ (HT.out.below HH.out.2 HT.out.lt)).mono ?_
   rintro e2 v2 ⟨rfl,hb⟩;have HX2:Hid (v2.heap[b5]?=some (.cells #[.string x0,.string x1,.string x2,.string x3,.string x4,.string x5,.string x6,.string x7,.string x8,.string x9,.bool xo,.bool xp] 43 (0,0))):=zh ((hb.block b5 (Array.getElem?_eq_some_iff.1 HH.out.1.1).1).trans HH.out.1.1);have HR2:Hid (v2.heap[b6]?=some (.cells #[.string x0,.string x1,.string x2,.string x3,.string x4,.string x5,.string x6,.string x7,.string x8,.string x9,.bool xo,.bool xp] 46 (0,0))):=zh ((hb.block b6 (Array.getElem?_eq_some_iff.1 HH.out.1.2).1).trans HH.out.1.2);have HB2:=zh (HH.out.2.trans (hb.mono HH.out.2.size));clear hb p0 p1 p2 p3 p4 p5 p6 p7 p8 p9 p10 p11;obtain⟨p0,p1,p2,p3,p4,p5,p6,p7,p8,p9,p10,p11⟩:=cells12 HR2.out;go_wp2_with fail
   with_reducible refine (CP2.out _).mono ?_
   rintro e3 v3 ⟨rfl,hb⟩;have HX3:Hid (v3.heap[b5]?=some (.cells #[.string x0,.string x1,.string x2,.string x3,.string x4,.string x5,.string x6,.string x7,.string x8,.string x9,.bool xo,.bool xp] 43 (0,0))):=zh ((hb.block b5 (Array.getElem?_eq_some_iff.1 HX2.out).1).trans HX2.out);have HR3:Hid (v3.heap[b6]?=some (.cells #[.string x0,.string x1,.string x2,.string x3,.string x4,.string x5,.string x6,.string x7,.string x8,.string x9,.bool xo,.bool xp] 46 (0,0))):=zh ((hb.block b6 (Array.getElem?_eq_some_iff.1 HR2.out).1).trans HR2.out);have HB3:=zh (HB2.out.trans (hb.mono HB2.out.size));clear hb p0 p1 p2 p3 p4 p5 p6 p7 p8 p9 p10 p11 HX2 HR2 HB2;obtain⟨p0,p1,p2,p3,p4,p5,p6,p7,p8,p9,p10,p11⟩:=cells12 HX3.out;go_wp2_with fail
   with_reducible refine (CU1.out _ (HT.out.below HB3.out HT.out.lt)).mono ?_
   rintro e4 v4 ⟨rfl,hb⟩;have HR4:Hid (v4.heap[b6]?=some (.cells #[.string x0,.string x1,.string x2,.string x3,.string x4,.string x5,.string x6,.string x7,.string x8,.string x9,.bool xo,.bool xp] 46 (0,0))):=zh ((hb.block b6 (Array.getElem?_eq_some_iff.1 HR3.out).1).trans HR3.out);have HB4:=zh (HB3.out.trans (hb.mono HB3.out.size));clear hb p0 p1 p2 p3 p4 p5 p6 p7 p8 p9 p10 p11 HX3 HR3 HB3;have HY5:=zh (heap_alloc_new v4 (.cells #[.string y0,.string y1,.string y2,.string y3,.string y4,.string y5,.string y6,.string y7,.string y8,.string y9,.bool yo,.bool yp] 43));have HR5:Hid ((v4.alloc (.cells #[.string y0,.string y1,.string y2,.string y3,.string y4,.string y5,.string y6,.string y7,.string y8,.string y9,.bool yo,.bool yp] 43)).heap[b6]?=some (.cells #[.string x0,.string x1,.string x2,.string x3,.string x4,.string x5,.string x6,.string x7,.string x8,.string x9,.bool xo,.bool xp] 46 (0,0))):=zh ((Below.heap_alloc v4 _ b6 (Array.getElem?_eq_some_iff.1 HR4.out).1).trans HR4.out);have HB5:=zh (HB4.out.alloc HB4.out.size (.cells #[.string y0,.string y1,.string y2,.string y3,.string y4,.string y5,.string y6,.string y7,.string y8,.string y9,.bool yo,.bool yp] 43));go_upto_region 13 with (fail)
   generalize v4.alloc (.cells #[.string y0,.string y1,.string y2,.string y3,.string y4,.string y5,.string y6,.string y7,.string y8,.string y9,.bool yo,.bool yp] 43)=V4 at *;generalize v4.heap.size=b7 at *;obtain⟨p0,p1,p2,p3,p4,p5,p6,p7,p8,p9,p10,p11⟩:=cells12 HR5.out;go_wp2_with fail
   with_reducible refine (CU2.out _).mono ?_
   rintro e5 v5 ⟨rfl,hb⟩;have HY6:Hid (v5.heap[b7]?=some (.cells #[.string y0,.string y1,.string y2,.string y3,.string y4,.string y5,.string y6,.string y7,.string y8,.string y9,.bool yo,.bool yp] 43 (0,0))):=zh ((hb.block b7 (Array.getElem?_eq_some_iff.1 HY5.out).1).trans HY5.out);have HB6:=zh (HB5.out.trans (hb.mono HB5.out.size));clear hb p0 p1 p2 p3 p4 p5 p6 p7 p8 p9 p10 p11 HR4 HB4 HR5 HB5 HY5;have HZ7:=zh (heap_alloc_new v5 (.cells #[.string y0,.string y1,.string y2,.string y3,.string y4,.string y5,.string y6,.string y7,.string y8,.string y9,.bool yo,.bool yp] 46));have HY7:Hid ((v5.alloc (.cells #[.string y0,.string y1,.string y2,.string y3,.string y4,.string y5,.string y6,.string y7,.string y8,.string y9,.bool yo,.bool yp] 46)).heap[b7]?=some (.cells #[.string y0,.string y1,.string y2,.string y3,.string y4,.string y5,.string y6,.string y7,.string y8,.string y9,.bool yo,.bool yp] 43 (0,0))):=zh ((Below.heap_alloc v5 _ b7 (Array.getElem?_eq_some_iff.1 HY6.out).1).trans HY6.out);have HB7:=zh (HB6.out.alloc HB6.out.size (.cells #[.string y0,.string y1,.string y2,.string y3,.string y4,.string y5,.string y6,.string y7,.string y8,.string y9,.bool yo,.bool yp] 46));go_upto_region 14 with (fail)
   generalize v5.alloc (.cells #[.string y0,.string y1,.string y2,.string y3,.string y4,.string y5,.string y6,.string y7,.string y8,.string y9,.bool yo,.bool yp] 46)=V5 at *;generalize v5.heap.size=b8 at *;have HD0:Hid ((V5.drew.heap[b7]?=some (.cells #[.string y0,.string y1,.string y2,.string y3,.string y4,.string y5,.string y6,.string y7,.string y8,.string y9,.bool yo,.bool yp] 43 (0,0))∧V5.drew.heap[b8]?=some (.cells #[.string y0,.string y1,.string y2,.string y3,.string y4,.string y5,.string y6,.string y7,.string y8,.string y9,.bool yo,.bool yp] 46 (0,0)))∧Below w.heap.size w V5.drew):=zh ⟨⟨HY7.out,HZ7.out⟩,HB7.out.drew⟩;refine wp_region_noPanic ?_;refine wp_region_held_drew (S:=fun W:World=>(W.heap[b7]?=some (.cells #[.string y0,.string y1,.string y2,.string y3,.string y4,.string y5,.string y6,.string y7,.string y8,.string y9,.bool yo,.bool yp] 43 (0,0))∧W.heap[b8]?=some (.cells #[.string y0,.string y1,.string y2,.string y3,.string y4,.string y5,.string y6,.string y7,.string y8,.string y9,.bool yo,.bool yp] 46 (0,0)))∧Below w.heap.size w W) (by kernel_rfl) ?_ (fun hHeld=>?_)
   ·exact HD0.out
   iterate 11
    refine zqb [0,1,2,3,4,5,6,7,8,9,11] rfl rfl ?_ ?_ ?_;rotate_left
    ·(intro w hSw;obtain⟨⟨hs5,hs6⟩,hsb⟩:=hSw;obtain⟨q0,q1,q2,q3,q4,q5,q6,q7,q8,q9,q10,q11⟩:=cells12 hs5;obtain⟨r0,r1,r2,r3,r4,r5,r6,r7,r8,r9,r10,r11⟩:=cells12 hs6;go_simp;(try with_reducible rfl))
    try simp only[Act.put,J1,J2,J3,J4,J5,J6]
   refine zqf [10] (AllReadyH.cons rfl (fun K hK=>?_) AllReadyH.nil);rw[if_pos (by rfl)];go_simp;with_reducible refine (CITS.out _).mono ?_
   rintro e9 z9 ⟨rfl,hb⟩;have HS1:Hid ((z9.heap[b7]?=some (.cells #[.string y0,.string y1,.string y2,.string y3,.string y4,.string y5,.string y6,.string y7,.string y8,.string y9,.bool yo,.bool yp] 43 (0,0))∧z9.heap[b8]?=some (.cells #[.string y0,.string y1,.string y2,.string y3,.string y4,.string y5,.string y6,.string y7,.string y8,.string y9,.bool yo,.bool yp] 46 (0,0)))∧Below w.heap.size w z9):=zh ⟨⟨(hb.block b7 (Array.getElem?_eq_some_iff.1 HD0.out.1.1).1).trans HD0.out.1.1,(hb.block b8 (Array.getElem?_eq_some_iff.1 HD0.out.1.2).1).trans HD0.out.1.2⟩,HD0.out.2.trans (hb.mono HD0.out.2.size)⟩;clear hb;refine hK.out _ _ ?_ (fun hHeld=>?_)
   ·exact HS1.out
   clear hK K
   try simp only[Act.put,J1,J2,J3,J4,J5,J6]
   iterate 18
    refine zqb [12,13,14,15,16,17,18,19,20,21,22,23,24,25,26,27,28,29] rfl rfl ?_ ?_ ?_;rotate_left
    ·(intro w hSw;obtain⟨⟨hs5,hs6⟩,hsb⟩:=hSw;obtain⟨q0,q1,q2,q3,q4,q5,q6,q7,q8,q9,q10,q11⟩:=cells12 hs5;obtain⟨r0,r1,r2,r3,r4,r5,r6,r7,r8,r9,r10,r11⟩:=cells12 hs6;go_simp;(try with_reducible rfl))
    try simp only[Act.put,J1,J2,J3,J4,J5,J6]
   refine zqe (NoPanic.normal ?_);go_wp2_with fail
   go_ret
   exact⟨rfl,hHeld.2⟩
theorem law_packets(sec:ByteArray)(turns num other:Int)(known:Bool)(cid plain packet:ByteArray)(w:World)(ht:Tab w)(w0:sec.size≤maxLen)(w1:(Lit.int .u8 turns).wf=true)(w2:(Lit.int .u64 num).wf=true)(w3:(Lit.int .u64 other).wf=true)(w5:cid.size≤maxLen)(w6:plain.size≤maxLen)(w7:packet.size≤maxLen) :
 Calls Tryz.prog 6 #[.string sec,.int .u8 turns,.int .u64 num,.int .u64 other,.bool known,.string cid,.string plain,.string packet] w fun e w'=>e=.returned (.bool true)∧Below w.heap.size w w':=by
 simp only[Lit.wf,Bool.and_eq_true,decide_eq_true_eq]at w1 w2 w3;have hn0:0≤num:=w2.1;have ho0:0≤other:=w3.1;by_cases h1:60<sec.size
 ·exact packets_k sec cid plain packet turns num other known w ht (by omega)
 by_cases h2:20<cid.size
 ·exact packets_c sec cid plain packet turns num other known w ht (by omega)
 by_cases h3:300<plain.size
 ·exact packets_p sec cid plain packet turns num other known w ht (by omega)
 by_cases h4:400<packet.size
 ·exact packets_q sec cid plain packet turns num other known w ht (by omega)
 by_cases h5:4611686018427387904≤num
 ·exact packets_n sec cid plain packet turns num other known w ht (by omega)
 by_cases h6:4611686018427387904≤other
 ·exact packets_o sec cid plain packet turns num other known w ht (by omega)
 obtain⟨a,rfl⟩:∃m:Nat,num=(m:Int):=⟨num.toNat,by omega⟩;obtain⟨b,rfl⟩:∃m:Nat,other=(m:Int):=⟨other.toNat,by omega⟩;exact packets_ok sec.data.toList cid.data.toList plain.data.toList packet.data.toList turns a b known w ht w1.1 w1.2 (by simp;omega) (by simp;omega) (by simp;omega) (by simp;omega) (by omega) (by omega)
end Go.Proofs.YtagbkmoahflfdaaGreatDoor.Se
