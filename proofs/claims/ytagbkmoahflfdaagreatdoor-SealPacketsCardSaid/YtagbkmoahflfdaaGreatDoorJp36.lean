import Derived.Test.YtagbkmoahflfdaaGreatDoorJp32
import Derived.Test.YtagbkmoahflfdaaGreatDoorJp01
import Derived.Test.YtagbkmoahflfdaaGreatDoorJp35
import Derived.Test.YtagbkmoahflfdaaGreatDoorJp25
set_option maxHeartbeats 16000000
set_option maxRecDepth 100000
set_option linter.unusedVariables false
set_option linter.unusedSimpArgs false
namespace Go.Proofs.YtagbkmoahflfdaaGreatDoor.Se
open Tk Go.RowKit Vm Dg Kd
theorem res_dun(tmps:Array Value)(g:Nat)(a0 a1 a2 a3 a4 a5 a6 a7 a8 a9 a10 a11 u v t:Value)(w:World)(hp:tmps.getD 8 undef=.pointer (some ⟨g,0,none⟩))(hu:tmps.getD 9 undef=u)(hv:tmps.getD 10 undef=v)(ht:tmps.getD 11 undef=t)(hc:w.heap[g]?=some (.cells #[a0,a1,a2,a3,a4,a5,a6,a7,a8,a9,a10,a11] 46 (0,0))) :
 (results Tryz.f30 tmps).run Tryz.prog w=.ok (.tuple #[.agg #[a0,a1,a2,a3,a4,a5,a6,a7,a8,a9,a10,a11],u,v,t]) w:=by
 obtain⟨c0,c1,c2,c3,c4,c5,c6,c7,c8,c9,c10,c11⟩:=cells12 hc;have hp':tmps[8]?.getD undef=.pointer (some ⟨g,0,none⟩):=by simpa using hp
 have hu':tmps[9]?.getD undef=u:=by simpa using hu
 have hv':tmps[10]?.getD undef=v:=by simpa using hv
 have ht':tmps[11]?.getD undef=t:=by simpa using ht
 simp[results,Tryz.results30,hp',hu',hv',ht',go_sem,c0,c1,c2,c3,c4,c5,c6,c7,c8,c9,c10,c11]
theorem dun_pl(x0 x1 x2 x3 x4 x5 x6 x7 x8 x9 TT:ByteArray)(xo xp any:Bool)(p er:Int)(her:¬er=0)(largest:Nat)(w:World)
 (CPL:Hid (∀W:World,Calls Tryz.prog 65 #[.string TT] W fun e w'=>e=.returned (.tuple #[.int .i64 p,.int .i64 er])∧Below W.heap.size W w')) :
 Calls Tryz.prog 30 #[.agg #[.string x0,.string x1,.string x2,.string x3,.string x4,.string x5,.string x6,.string x7,.string x8,.string x9,.bool xo,.bool xp],.int .u64 largest,.bool any,.string TT] w fun e w'=>e=.returned (.tuple #[.agg #[.string x0,.string x1,.string x2,.string x3,.string x4,.string x5,.string x6,.string x7,.string x8,.string x9,.bool xo,.bool xp],.int .u64 0,.string ⟨#[]⟩,.int .i64 er])∧Below w.heap.size w w':=by
 have hr1:(er==0)=false:=by rw[beq_eq_false_iff_ne];exact her
 have hr2:(er != 0)=true:=by rw[bne_iff_ne];exact her
 have H0:=ntR w x0 x1 x2 x3 x4 x5 x6 x7 x8 x9 xo xp;go_enter Tryz.func30,Tryz.ntmps30;go_upto_region 1 with (fail)
 generalize ((w.alloc (.cells #[.string x0,.string x1,.string x2,.string x3,.string x4,.string x5,.string x6,.string x7,.string x8,.string x9,.bool xo,.bool xp] 46)).alloc (.cells #[.string ⟨#[]⟩,.string ⟨#[]⟩,.string ⟨#[]⟩,.string ⟨#[]⟩,.string ⟨#[]⟩,.string ⟨#[]⟩,.string ⟨#[]⟩,.string ⟨#[]⟩,.string ⟨#[]⟩,.string ⟨#[]⟩,.bool false,.bool false] 46))=W0 at H0 ⊢;go_wp2_with fail
 with_reducible refine (CPL.out _).mono ?_
 rintro e1 z1 ⟨rfl,hb⟩;have H1:=kpR H0 hb;clear hb;obtain⟨m0,m1,m2,m3,m4,m5,m6,m7,m8,m9,m10,m11⟩:=cellsR H1.out.1.1;obtain⟨r0,r1,r2,r3,r4,r5,r6,r7,r8,r9,r10,r11⟩:=cellsR H1.out.1.2;obtain⟨f0,f1,f2,f3,f4,f5,f6,f7,f8,f9,f10,f11⟩:=fz12 H1.out.1.2;go_wp2_with fail
 have HQ:=zh (put12 H1.out.1.2 (.string x0) (.string x1) (.string x2) (.string x3) (.string x4) (.string x5) (.string x6) (.string x7) (.string x8) (.string x9) (.bool xo) (.bool xp));refine bodyPost_ret (v:=.tuple #[.agg #[.string x0,.string x1,.string x2,.string x3,.string x4,.string x5,.string x6,.string x7,.string x8,.string x9,.bool xo,.bool xp],.int .u64 0,.string ⟨#[]⟩,.int .i64 er]) (res_dun _ (w.heap.size+1) (.string x0) (.string x1) (.string x2) (.string x3) (.string x4) (.string x5) (.string x6) (.string x7) (.string x8) (.string x9) (.bool xo) (.bool xp) _ _ _ _ ?_ ?_ ?_ ?_ ?_) ?_ ⟨rfl,?_⟩
 ·rfl
 ·rfl
 ·rfl
 ·rfl
 ·first|exact HQ.out|exact heap_drew HQ.out
 ·rfl
 ·first|exact below12 H1.out.2 (by omega) _ _ _ _ _ _ _ _ _ _ _ _|exact (below12 H1.out.2 (by omega) _ _ _ _ _ _ _ _ _ _ _ _).drew
theorem dun_long(x0 x1 x2 x3 x4 x5 x6 x7 x8 x9 TT:ByteArray)(xo xp any:Bool)(p:Int)(h0:0<TT.size)(hbig:128≤TT[0].toNat)(largest:Nat)(w:World)
 (CPL:Hid (∀W:World,Calls Tryz.prog 65 #[.string TT] W fun e w'=>e=.returned (.tuple #[.int .i64 p,.int .i64 0])∧Below W.heap.size W w')) :
 Calls Tryz.prog 30 #[.agg #[.string x0,.string x1,.string x2,.string x3,.string x4,.string x5,.string x6,.string x7,.string x8,.string x9,.bool xo,.bool xp],.int .u64 largest,.bool any,.string TT] w fun e w'=>e=.returned (.tuple #[.agg #[.string x0,.string x1,.string x2,.string x3,.string x4,.string x5,.string x6,.string x7,.string x8,.string x9,.bool xo,.bool xp],.int .u64 0,.string ⟨#[]⟩,.int .i64 40])∧Below w.heap.size w w':=by
 have h0I:(0:Int)<(TT.size:Int):=by omega
 have hgI:(TT[0].toNat:Int)≥128:=by omega
 have H0:=ntR w x0 x1 x2 x3 x4 x5 x6 x7 x8 x9 xo xp;go_enter Tryz.func30,Tryz.ntmps30;go_upto_region 1 with (fail)
 generalize ((w.alloc (.cells #[.string x0,.string x1,.string x2,.string x3,.string x4,.string x5,.string x6,.string x7,.string x8,.string x9,.bool xo,.bool xp] 46)).alloc (.cells #[.string ⟨#[]⟩,.string ⟨#[]⟩,.string ⟨#[]⟩,.string ⟨#[]⟩,.string ⟨#[]⟩,.string ⟨#[]⟩,.string ⟨#[]⟩,.string ⟨#[]⟩,.string ⟨#[]⟩,.string ⟨#[]⟩,.bool false,.bool false] 46))=W0 at H0 ⊢;go_wp2_with fail
 with_reducible refine (CPL.out _).mono ?_
 rintro e1 z1 ⟨rfl,hb⟩;have H1:=kpR H0 hb;clear hb;obtain⟨m0,m1,m2,m3,m4,m5,m6,m7,m8,m9,m10,m11⟩:=cellsR H1.out.1.1;obtain⟨r0,r1,r2,r3,r4,r5,r6,r7,r8,r9,r10,r11⟩:=cellsR H1.out.1.2;obtain⟨f0,f1,f2,f3,f4,f5,f6,f7,f8,f9,f10,f11⟩:=fz12 H1.out.1.2;go_wp2_with fail
 have HQ:=zh (put12 H1.out.1.2 (.string x0) (.string x1) (.string x2) (.string x3) (.string x4) (.string x5) (.string x6) (.string x7) (.string x8) (.string x9) (.bool xo) (.bool xp));refine bodyPost_ret (v:=.tuple #[.agg #[.string x0,.string x1,.string x2,.string x3,.string x4,.string x5,.string x6,.string x7,.string x8,.string x9,.bool xo,.bool xp],.int .u64 0,.string ⟨#[]⟩,.int .i64 40]) (res_dun _ (w.heap.size+1) (.string x0) (.string x1) (.string x2) (.string x3) (.string x4) (.string x5) (.string x6) (.string x7) (.string x8) (.string x9) (.bool xo) (.bool xp) _ _ _ _ ?_ ?_ ?_ ?_ ?_) ?_ ⟨rfl,?_⟩
 ·rfl
 ·rfl
 ·rfl
 ·rfl
 ·first|exact HQ.out|exact heap_drew HQ.out
 ·rfl
 ·first|exact below12 H1.out.2 (by omega) _ _ _ _ _ _ _ _ _ _ _ _|exact (below12 H1.out.2 (by omega) _ _ _ _ _ _ _ _ _ _ _ _).drew
theorem dun_short(x0 x1 x2 x3 x4 x5 x6 x7 x8 x9 TT:ByteArray)(xo xp any:Bool)(p:Nat)(h0:0<TT.size)(hbig:TT[0].toNat<128)(hs:TT.size<p+20)(hp:p≤100000)(largest:Nat)(w:World)
 (CPL:Hid (∀W:World,Calls Tryz.prog 65 #[.string TT] W fun e w'=>e=.returned (.tuple #[.int .i64 p,.int .i64 0])∧Below W.heap.size W w')) :
 Calls Tryz.prog 30 #[.agg #[.string x0,.string x1,.string x2,.string x3,.string x4,.string x5,.string x6,.string x7,.string x8,.string x9,.bool xo,.bool xp],.int .u64 largest,.bool any,.string TT] w fun e w'=>e=.returned (.tuple #[.agg #[.string x0,.string x1,.string x2,.string x3,.string x4,.string x5,.string x6,.string x7,.string x8,.string x9,.bool xo,.bool xp],.int .u64 0,.string ⟨#[]⟩,.int .i64 90])∧Below w.heap.size w w':=by
 have h0I:(0:Int)<(TT.size:Int):=by omega
 have hgI:¬(TT[0].toNat:Int)≥128:=by omega
 have hsI:(TT.size:Int)<(p:Int)+20:=by omega
 have hpI:(p:Int)≤100000:=by omega
 have H0:=ntR w x0 x1 x2 x3 x4 x5 x6 x7 x8 x9 xo xp;go_enter Tryz.func30,Tryz.ntmps30;go_upto_region 1 with (fail)
 generalize ((w.alloc (.cells #[.string x0,.string x1,.string x2,.string x3,.string x4,.string x5,.string x6,.string x7,.string x8,.string x9,.bool xo,.bool xp] 46)).alloc (.cells #[.string ⟨#[]⟩,.string ⟨#[]⟩,.string ⟨#[]⟩,.string ⟨#[]⟩,.string ⟨#[]⟩,.string ⟨#[]⟩,.string ⟨#[]⟩,.string ⟨#[]⟩,.string ⟨#[]⟩,.string ⟨#[]⟩,.bool false,.bool false] 46))=W0 at H0 ⊢;go_wp2_with fail
 with_reducible refine (CPL.out _).mono ?_
 rintro e1 z1 ⟨rfl,hb⟩;have H1:=kpR H0 hb;clear hb;obtain⟨m0,m1,m2,m3,m4,m5,m6,m7,m8,m9,m10,m11⟩:=cellsR H1.out.1.1;obtain⟨r0,r1,r2,r3,r4,r5,r6,r7,r8,r9,r10,r11⟩:=cellsR H1.out.1.2;obtain⟨f0,f1,f2,f3,f4,f5,f6,f7,f8,f9,f10,f11⟩:=fz12 H1.out.1.2;go_wp2_with fail
 have HQ:=zh (put12 H1.out.1.2 (.string x0) (.string x1) (.string x2) (.string x3) (.string x4) (.string x5) (.string x6) (.string x7) (.string x8) (.string x9) (.bool xo) (.bool xp));refine bodyPost_ret (v:=.tuple #[.agg #[.string x0,.string x1,.string x2,.string x3,.string x4,.string x5,.string x6,.string x7,.string x8,.string x9,.bool xo,.bool xp],.int .u64 0,.string ⟨#[]⟩,.int .i64 90]) (res_dun _ (w.heap.size+1) (.string x0) (.string x1) (.string x2) (.string x3) (.string x4) (.string x5) (.string x6) (.string x7) (.string x8) (.string x9) (.bool xo) (.bool xp) _ _ _ _ ?_ ?_ ?_ ?_ ?_) ?_ ⟨rfl,?_⟩
 ·rfl
 ·rfl
 ·rfl
 ·rfl
 ·first|exact HQ.out|exact heap_drew HQ.out
 ·rfl
 ·first|exact below12 H1.out.2 (by omega) _ _ _ _ _ _ _ _ _ _ _ _|exact (below12 H1.out.2 (by omega) _ _ _ _ _ _ _ _ _ _ _ _).drew
theorem dun_um(x0 x1 x2 x3 x4 x5 x6 x7 x8 x9 TT SM MK:ByteArray)(xo xp any:Bool)(p:Nat)(h0:0<TT.size)(hbig:TT[0].toNat<128)(hs:p+20≤TT.size)(hz:TT.size≤100000)(hsm:TT.extract (p+4) (p+20)=SM)(largest:Nat)(w:World)
 (CPL:Hid (∀W:World,Calls Tryz.prog 65 #[.string TT] W fun e w'=>e=.returned (.tuple #[.int .i64 p,.int .i64 0])∧Below W.heap.size W w'))
 (CM:Hid (∀W:World,Calls Tryz.prog 20 #[.agg #[.string x4,.string x5,.string x6],.string SM] W fun e w'=>e=.returned (.tuple #[.string MK,.int .i64 0])∧Below W.heap.size W w'))
 (CU:Hid (∀W:World,Calls Tryz.prog 66 #[.string TT,.string MK] W fun e w'=>e=.returned (.tuple #[.string ⟨#[]⟩,.int .i64 40])∧Below W.heap.size W w')) :
 Calls Tryz.prog 30 #[.agg #[.string x0,.string x1,.string x2,.string x3,.string x4,.string x5,.string x6,.string x7,.string x8,.string x9,.bool xo,.bool xp],.int .u64 largest,.bool any,.string TT] w fun e w'=>e=.returned (.tuple #[.agg #[.string x0,.string x1,.string x2,.string x3,.string x4,.string x5,.string x6,.string x7,.string x8,.string x9,.bool xo,.bool xp],.int .u64 0,.string ⟨#[]⟩,.int .i64 40])∧Below w.heap.size w w':=by
 have h0I:(0:Int)<(TT.size:Int):=by omega
 have hgI:¬(TT[0].toNat:Int)≥128:=by omega
 have hsI:¬(TT.size:Int)<(p:Int)+20:=by omega
 have hpI:(p:Int)+20≤(TT.size:Int):=by omega
 have hzI:(TT.size:Int)≤100000:=by omega
 obtain⟨q4,hq4⟩:∃q,p+4=q:=⟨_,rfl⟩;obtain⟨q20,hq20⟩:∃q,p+20=q:=⟨_,rfl⟩;rw[hq4,hq20]at hsm;have hp4:(q4:Int)≤(q20:Int):=by omega
 have hp5:(q20:Int)≤(TT.size:Int):=by omega
 have hw4:IntKind.i64.wrap ((p:Int)+4)=(q4:Int):=by rw[IntWalk.i64_in _ (by omega)];omega
 have hw20:IntKind.i64.wrap ((p:Int)+20)=(q20:Int):=by rw[IntWalk.i64_in _ (by omega)];omega
 have H0:=ntR w x0 x1 x2 x3 x4 x5 x6 x7 x8 x9 xo xp;go_enter Tryz.func30,Tryz.ntmps30;go_upto_region 1 with (fail)
 generalize ((w.alloc (.cells #[.string x0,.string x1,.string x2,.string x3,.string x4,.string x5,.string x6,.string x7,.string x8,.string x9,.bool xo,.bool xp] 46)).alloc (.cells #[.string ⟨#[]⟩,.string ⟨#[]⟩,.string ⟨#[]⟩,.string ⟨#[]⟩,.string ⟨#[]⟩,.string ⟨#[]⟩,.string ⟨#[]⟩,.string ⟨#[]⟩,.string ⟨#[]⟩,.string ⟨#[]⟩,.bool false,.bool false] 46))=W0 at H0 ⊢;go_wp2_with fail
 with_reducible refine (CPL.out _).mono ?_
 rintro e1 z1 ⟨rfl,hb⟩;have H1:=kpR H0 hb;clear hb;go_wp2_with fail
 have HD1:=drR H1;refine wp_region_noPanic ?_;refine wp_region_held_drew (S:=fun W:World=>(RX 46 W w.heap.size x0 x1 x2 x3 x4 x5 x6 x7 x8 x9 xo xp∧RX 46 W (w.heap.size+1) ⟨#[]⟩ ⟨#[]⟩ ⟨#[]⟩ ⟨#[]⟩ ⟨#[]⟩ ⟨#[]⟩ ⟨#[]⟩ ⟨#[]⟩ ⟨#[]⟩ ⟨#[]⟩ false false)∧Below w.heap.size w W) (by kernel_rfl) ?_ (fun hHeld=>?_)
 ·exact HD1.out
 iterate 8
  refine zqb [0,1,2,3,4,5,6,7] rfl rfl ?_ ?_ ?_;rotate_left
  ·(intro w hSw;obtain⟨⟨hs1,hs2⟩,hsb⟩:=hSw;obtain⟨q0,q1,q2,q3,q4,q5,q6,q7,q8,q9,q10,q11⟩:=cellsR hs1;go_simp;(try with_reducible rfl))
  try simp only[Act.put,J1,J2,J3,J4,J5,J6]
 refine zqf [8] (AllReadyH.cons rfl (fun K hK=>?_) AllReadyH.nil);rw[if_pos (by rfl)];go_simp;with_reducible refine (CM.out _).mono ?_
 rintro e2 z2 ⟨rfl,hb⟩;have H2:=kpR HD1 hb;clear hb;refine hK.out _ _ ?_ (fun hHeld=>?_)
 ·exact H2.out
 clear hK K
 try simp only[Act.put,J1,J2,J3,J4,J5,J6]
 iterate 5
  refine zqb [9,10,11,12,13] rfl rfl ?_ ?_ ?_;rotate_left
  ·(intro w hSw;obtain⟨⟨hs1,hs2⟩,hsb⟩:=hSw;obtain⟨q0,q1,q2,q3,q4,q5,q6,q7,q8,q9,q10,q11⟩:=cellsR hs1;go_simp;(try with_reducible rfl))
  try simp only[Act.put,J1,J2,J3,J4,J5,J6]
 refine zqe (NoPanic.normal ?_);have H3:=zh hHeld;clear hHeld H2;go_wp2_with fail
 with_reducible refine (CU.out _).mono ?_
 rintro e4 z4 ⟨rfl,hb⟩;have H4:=kpR H3 hb;clear hb;obtain⟨m0,m1,m2,m3,m4,m5,m6,m7,m8,m9,m10,m11⟩:=cellsR H4.out.1.1;obtain⟨r0,r1,r2,r3,r4,r5,r6,r7,r8,r9,r10,r11⟩:=cellsR H4.out.1.2;obtain⟨f0,f1,f2,f3,f4,f5,f6,f7,f8,f9,f10,f11⟩:=fz12 H4.out.1.2;go_wp2_with fail
 have HQ:=zh (put12 H4.out.1.2 (.string x0) (.string x1) (.string x2) (.string x3) (.string x4) (.string x5) (.string x6) (.string x7) (.string x8) (.string x9) (.bool xo) (.bool xp));refine bodyPost_ret (v:=.tuple #[.agg #[.string x0,.string x1,.string x2,.string x3,.string x4,.string x5,.string x6,.string x7,.string x8,.string x9,.bool xo,.bool xp],.int .u64 0,.string ⟨#[]⟩,.int .i64 40]) (res_dun _ (w.heap.size+1) (.string x0) (.string x1) (.string x2) (.string x3) (.string x4) (.string x5) (.string x6) (.string x7) (.string x8) (.string x9) (.bool xo) (.bool xp) _ _ _ _ ?_ ?_ ?_ ?_ ?_) ?_ ⟨rfl,?_⟩
 ·rfl
 ·rfl
 ·rfl
 ·rfl
 ·first|exact HQ.out|exact heap_drew HQ.out
 ·rfl
 ·first|exact below12 H4.out.2 (by omega) _ _ _ _ _ _ _ _ _ _ _ _|exact (below12 H4.out.2 (by omega) _ _ _ _ _ _ _ _ _ _ _ _).drew
theorem dun_same_no(x0 x1 x2 x3 x4 x5 x6 x7 x8 x9 TT SM MK BR SL HEAD:ByteArray)(xo xp any:Bool)(lg sp:Bool)(ty ve:Int)(dc sc tk:ByteArray)(le wi nu:Int)(p n num:Nat)(h0:0<TT.size)(hbig:TT[0].toNat<128)(hs:p+20≤TT.size)(hz:TT.size≤100000)(hsm:TT.extract (p+4) (p+20)=SM)(hSL:SL.size+n=BR.size)(hBR:BR.size≤1000000)(hHD:BR.extract 0 n=HEAD) (largest:Nat)(w:World)
 (CPL:Hid (∀W:World,Calls Tryz.prog 65 #[.string TT] W fun e w'=>e=.returned (.tuple #[.int .i64 p,.int .i64 0])∧Below W.heap.size W w'))
 (CM:Hid (∀W:World,Calls Tryz.prog 20 #[.agg #[.string x4,.string x5,.string x6],.string SM] W fun e w'=>e=.returned (.tuple #[.string MK,.int .i64 0])∧Below W.heap.size W w'))
 (CU:Hid (∀W:World,Calls Tryz.prog 66 #[.string TT,.string MK] W fun e w'=>e=.returned (.tuple #[.string BR,.int .i64 0])∧Below W.heap.size W w'))
 (CG:Hid (∀W:World,Calls Tryz.prog 67 #[.string BR] W fun e w'=>e=.returned (.tuple #[.agg #[.bool lg,.bool sp,.bool xp,.int .i64 ty,.int .u32 ve,.string dc,.string sc,.string tk,.int .u64 le,.int .i64 wi,.int .u64 nu],.string SL,.int .i64 0])∧Below W.heap.size W w'))
 (CE:Hid (∀W:World,Calls Tryz.prog 68 #[.int .u64 largest,.bool any,.int .u64 nu,.int .i64 wi] W fun e w'=>e=.returned (.int .u64 num)∧Below W.heap.size W w'))
 (CO:Hid (∀W:World,Calls Tryz.prog 18 #[.agg #[.string x4,.string x5,.string x6],.int .u64 num,.string HEAD,.string SL] W fun e w'=>e=.returned (.tuple #[.string ⟨#[]⟩,.int .i64 90])∧Below W.heap.size W w')) :
 Calls Tryz.prog 30 #[.agg #[.string x0,.string x1,.string x2,.string x3,.string x4,.string x5,.string x6,.string x7,.string x8,.string x9,.bool xo,.bool xp],.int .u64 largest,.bool any,.string TT] w fun e w'=>e=.returned (.tuple #[.agg #[.string x0,.string x1,.string x2,.string x3,.string x4,.string x5,.string x6,.string x7,.string x8,.string x9,.bool xo,.bool xp],.int .u64 0,.string ⟨#[]⟩,.int .i64 90])∧Below w.heap.size w w':=by
 have hph2:(xp==xp)=true:=by simp
 have h0I:(0:Int)<(TT.size:Int):=by omega
 have hgI:¬(TT[0].toNat:Int)≥128:=by omega
 have hsI:¬(TT.size:Int)<(p:Int)+20:=by omega
 have hpI:(p:Int)+20≤(TT.size:Int):=by omega
 have hzI:(TT.size:Int)≤100000:=by omega
 obtain⟨q4,hq4⟩:∃q,p+4=q:=⟨_,rfl⟩;obtain⟨q20,hq20⟩:∃q,p+20=q:=⟨_,rfl⟩;rw[hq4,hq20]at hsm;have hp4:(q4:Int)≤(q20:Int):=by omega
 have hp5:(q20:Int)≤(TT.size:Int):=by omega
 have hw4:IntKind.i64.wrap ((p:Int)+4)=(q4:Int):=by rw[IntWalk.i64_in _ (by omega)];omega
 have hw20:IntKind.i64.wrap ((p:Int)+20)=(q20:Int):=by rw[IntWalk.i64_in _ (by omega)];omega
 have hn1:(BR.size:Int)-(SL.size:Int)=(n:Int):=by omega
 have hn2:IntKind.i64.wrap ((BR.size:Int)-(SL.size:Int))=(n:Int):=by rw[IntWalk.i64_in _ (by omega)];exact hn1
 have hn3:(n:Int)≤(BR.size:Int):=by omega
 have hn4:(0:Int)≤(n:Int):=by omega
 have hSLI:(SL.size:Int)≤1000000:=by omega
 have hBRI:(BR.size:Int)≤1000000:=by omega
 have H0:=ntR w x0 x1 x2 x3 x4 x5 x6 x7 x8 x9 xo xp;go_enter Tryz.func30,Tryz.ntmps30;go_upto_region 1 with (fail)
 generalize ((w.alloc (.cells #[.string x0,.string x1,.string x2,.string x3,.string x4,.string x5,.string x6,.string x7,.string x8,.string x9,.bool xo,.bool xp] 46)).alloc (.cells #[.string ⟨#[]⟩,.string ⟨#[]⟩,.string ⟨#[]⟩,.string ⟨#[]⟩,.string ⟨#[]⟩,.string ⟨#[]⟩,.string ⟨#[]⟩,.string ⟨#[]⟩,.string ⟨#[]⟩,.string ⟨#[]⟩,.bool false,.bool false] 46))=W0 at H0 ⊢;go_wp2_with fail
 with_reducible refine (CPL.out _).mono ?_
 rintro e1 z1 ⟨rfl,hb⟩;have H1:=kpR H0 hb;clear hb;go_wp2_with fail
 have HD1:=drR H1;refine wp_region_noPanic ?_;refine wp_region_held_drew (S:=fun W:World=>(RX 46 W w.heap.size x0 x1 x2 x3 x4 x5 x6 x7 x8 x9 xo xp∧RX 46 W (w.heap.size+1) ⟨#[]⟩ ⟨#[]⟩ ⟨#[]⟩ ⟨#[]⟩ ⟨#[]⟩ ⟨#[]⟩ ⟨#[]⟩ ⟨#[]⟩ ⟨#[]⟩ ⟨#[]⟩ false false)∧Below w.heap.size w W) (by kernel_rfl) ?_ (fun hHeld=>?_)
 ·exact HD1.out
 iterate 8
  refine zqb [0,1,2,3,4,5,6,7] rfl rfl ?_ ?_ ?_;rotate_left
  ·(intro w hSw;obtain⟨⟨hs1,hs2⟩,hsb⟩:=hSw;obtain⟨q0,q1,q2,q3,q4,q5,q6,q7,q8,q9,q10,q11⟩:=cellsR hs1;go_simp;(try with_reducible rfl))
  try simp only[Act.put,J1,J2,J3,J4,J5,J6]
 refine zqf [8] (AllReadyH.cons rfl (fun K hK=>?_) AllReadyH.nil);rw[if_pos (by rfl)];go_simp;with_reducible refine (CM.out _).mono ?_
 rintro e2 z2 ⟨rfl,hb⟩;have H2:=kpR HD1 hb;clear hb;refine hK.out _ _ ?_ (fun hHeld=>?_)
 ·exact H2.out
 clear hK K
 try simp only[Act.put,J1,J2,J3,J4,J5,J6]
 iterate 5
  refine zqb [9,10,11,12,13] rfl rfl ?_ ?_ ?_;rotate_left
  ·(intro w hSw;obtain⟨⟨hs1,hs2⟩,hsb⟩:=hSw;obtain⟨q0,q1,q2,q3,q4,q5,q6,q7,q8,q9,q10,q11⟩:=cellsR hs1;go_simp;(try with_reducible rfl))
  try simp only[Act.put,J1,J2,J3,J4,J5,J6]
 refine zqe (NoPanic.normal ?_);have H3:=zh hHeld;clear hHeld H2;go_wp2_with fail
 with_reducible refine (CU.out _).mono ?_
 rintro e4 z4 ⟨rfl,hb⟩;have H4:=kpR H3 hb;clear hb;go_wp2_with fail
 with_reducible refine (CG.out _).mono ?_
 rintro e5 z5 ⟨rfl,hb⟩;have H5:=kpR H4 hb;clear hb;have HH6:=zh (heap_alloc_new z5 (.cells #[.bool lg,.bool sp,.bool xp,.int .i64 ty,.int .u32 ve,.string dc,.string sc,.string tk,.int .u64 le,.int .i64 wi,.int .u64 nu] 104));have H6:=axR H5 (.cells #[.bool lg,.bool sp,.bool xp,.int .i64 ty,.int .u32 ve,.string dc,.string sc,.string tk,.int .u64 le,.int .i64 wi,.int .u64 nu] 104);go_upto_region 13 with (fail)
 generalize z5.alloc (.cells #[.bool lg,.bool sp,.bool xp,.int .i64 ty,.int .u32 ve,.string dc,.string sc,.string tk,.int .u64 le,.int .i64 wi,.int .u64 nu] 104)=z6 at *;generalize z5.heap.size=bh at *;have h2:z6.cell? ⟨bh,2,none⟩=some (.bool xp):=Lib.cell_of_heap HH6.out 2;have h9:z6.cell? ⟨bh,9,none⟩=some (.int .i64 wi):=Lib.cell_of_heap HH6.out 9;have h10:z6.cell? ⟨bh,10,none⟩=some (.int .u64 nu):=Lib.cell_of_heap HH6.out 10;clear H0 H1 HD1 H3 H4 H5;go_wp2_with fail
 with_reducible refine (CE.out _).mono ?_
 rintro e7 z7 ⟨rfl,hb⟩;have H7:=kpR H6 hb;have HH7:=zh ((hb.block bh (Array.getElem?_eq_some_iff.1 HH6.out).1).trans HH6.out);clear hb h2 h9 h10 HH6 H6;have h2:z7.cell? ⟨bh,2,none⟩=some (.bool xp):=Lib.cell_of_heap HH7.out 2;obtain⟨m0,m1,m2,m3,m4,m5,m6,m7,m8,m9,m10,m11⟩:=cellsR H7.out.1.1;obtain⟨r0,r1,r2,r3,r4,r5,r6,r7,r8,r9,r10,r11⟩:=cellsR H7.out.1.2;obtain⟨f0,f1,f2,f3,f4,f5,f6,f7,f8,f9,f10,f11⟩:=fz12 H7.out.1.2;go_wp2_with fail
 with_reducible refine (CO.out _).mono ?_
 rintro e8 z8 ⟨rfl,hb⟩;have H8:=kpR H7 hb;clear hb;clear m0 r0 f0 m1 r1 f1 m2 r2 f2 m3 r3 f3 m4 r4 f4 m5 r5 f5 m6 r6 f6 m7 r7 f7 m8 r8 f8 m9 r9 f9 m10 r10 f10 m11 r11 f11;obtain⟨m0,m1,m2,m3,m4,m5,m6,m7,m8,m9,m10,m11⟩:=cellsR H8.out.1.1;obtain⟨r0,r1,r2,r3,r4,r5,r6,r7,r8,r9,r10,r11⟩:=cellsR H8.out.1.2;obtain⟨f0,f1,f2,f3,f4,f5,f6,f7,f8,f9,f10,f11⟩:=fz12 H8.out.1.2;go_wp2_with fail
 have HQ:=zh (put12 H8.out.1.2 (.string x0) (.string x1) (.string x2) (.string x3) (.string x4) (.string x5) (.string x6) (.string x7) (.string x8) (.string x9) (.bool xo) (.bool xp));refine bodyPost_ret (v:=.tuple #[.agg #[.string x0,.string x1,.string x2,.string x3,.string x4,.string x5,.string x6,.string x7,.string x8,.string x9,.bool xo,.bool xp],.int .u64 0,.string ⟨#[]⟩,.int .i64 90]) (res_dun _ (w.heap.size+1) (.string x0) (.string x1) (.string x2) (.string x3) (.string x4) (.string x5) (.string x6) (.string x7) (.string x8) (.string x9) (.bool xo) (.bool xp) _ _ _ _ ?_ ?_ ?_ ?_ ?_) ?_ ⟨rfl,?_⟩
 ·rfl
 ·rfl
 ·rfl
 ·rfl
 ·first|exact HQ.out|exact heap_drew HQ.out
 ·rfl
 ·first|exact below12 H8.out.2 (by omega) _ _ _ _ _ _ _ _ _ _ _ _|exact (below12 H8.out.2 (by omega) _ _ _ _ _ _ _ _ _ _ _ _).drew
theorem dun_same_yes(x0 x1 x2 x3 x4 x5 x6 x7 x8 x9 TT SM MK BR SL HEAD P:ByteArray)(xo xp any:Bool)(lg sp:Bool)(ty ve:Int)(dc sc tk:ByteArray)(le wi nu:Int)(p n num:Nat)(h0:0<TT.size)(hbig:TT[0].toNat<128)(hs:p+20≤TT.size)(hz:TT.size≤100000)(hsm:TT.extract (p+4) (p+20)=SM)(hSL:SL.size+n=BR.size)(hBR:BR.size≤1000000)(hHD:BR.extract 0 n=HEAD) (largest:Nat)(w:World)
 (CPL:Hid (∀W:World,Calls Tryz.prog 65 #[.string TT] W fun e w'=>e=.returned (.tuple #[.int .i64 p,.int .i64 0])∧Below W.heap.size W w'))
 (CM:Hid (∀W:World,Calls Tryz.prog 20 #[.agg #[.string x4,.string x5,.string x6],.string SM] W fun e w'=>e=.returned (.tuple #[.string MK,.int .i64 0])∧Below W.heap.size W w'))
 (CU:Hid (∀W:World,Calls Tryz.prog 66 #[.string TT,.string MK] W fun e w'=>e=.returned (.tuple #[.string BR,.int .i64 0])∧Below W.heap.size W w'))
 (CG:Hid (∀W:World,Calls Tryz.prog 67 #[.string BR] W fun e w'=>e=.returned (.tuple #[.agg #[.bool lg,.bool sp,.bool xp,.int .i64 ty,.int .u32 ve,.string dc,.string sc,.string tk,.int .u64 le,.int .i64 wi,.int .u64 nu],.string SL,.int .i64 0])∧Below W.heap.size W w'))
 (CE:Hid (∀W:World,Calls Tryz.prog 68 #[.int .u64 largest,.bool any,.int .u64 nu,.int .i64 wi] W fun e w'=>e=.returned (.int .u64 num)∧Below W.heap.size W w'))
 (CO:Hid (∀W:World,Calls Tryz.prog 18 #[.agg #[.string x4,.string x5,.string x6],.int .u64 num,.string HEAD,.string SL] W fun e w'=>e=.returned (.tuple #[.string P,.int .i64 0])∧Below W.heap.size W w')) :
 Calls Tryz.prog 30 #[.agg #[.string x0,.string x1,.string x2,.string x3,.string x4,.string x5,.string x6,.string x7,.string x8,.string x9,.bool xo,.bool xp],.int .u64 largest,.bool any,.string TT] w fun e w'=>e=.returned (.tuple #[.agg #[.string x0,.string x1,.string x2,.string x3,.string x4,.string x5,.string x6,.string x7,.string x8,.string x9,.bool xo,.bool xp],.int .u64 num,.string P,.int .i64 0])∧Below w.heap.size w w':=by
 have hph2:(xp==xp)=true:=by simp
 have h0I:(0:Int)<(TT.size:Int):=by omega
 have hgI:¬(TT[0].toNat:Int)≥128:=by omega
 have hsI:¬(TT.size:Int)<(p:Int)+20:=by omega
 have hpI:(p:Int)+20≤(TT.size:Int):=by omega
 have hzI:(TT.size:Int)≤100000:=by omega
 obtain⟨q4,hq4⟩:∃q,p+4=q:=⟨_,rfl⟩;obtain⟨q20,hq20⟩:∃q,p+20=q:=⟨_,rfl⟩;rw[hq4,hq20]at hsm;have hp4:(q4:Int)≤(q20:Int):=by omega
 have hp5:(q20:Int)≤(TT.size:Int):=by omega
 have hw4:IntKind.i64.wrap ((p:Int)+4)=(q4:Int):=by rw[IntWalk.i64_in _ (by omega)];omega
 have hw20:IntKind.i64.wrap ((p:Int)+20)=(q20:Int):=by rw[IntWalk.i64_in _ (by omega)];omega
 have hn1:(BR.size:Int)-(SL.size:Int)=(n:Int):=by omega
 have hn2:IntKind.i64.wrap ((BR.size:Int)-(SL.size:Int))=(n:Int):=by rw[IntWalk.i64_in _ (by omega)];exact hn1
 have hn3:(n:Int)≤(BR.size:Int):=by omega
 have hn4:(0:Int)≤(n:Int):=by omega
 have hSLI:(SL.size:Int)≤1000000:=by omega
 have hBRI:(BR.size:Int)≤1000000:=by omega
 have H0:=ntR w x0 x1 x2 x3 x4 x5 x6 x7 x8 x9 xo xp;go_enter Tryz.func30,Tryz.ntmps30;go_upto_region 1 with (fail)
 generalize ((w.alloc (.cells #[.string x0,.string x1,.string x2,.string x3,.string x4,.string x5,.string x6,.string x7,.string x8,.string x9,.bool xo,.bool xp] 46)).alloc (.cells #[.string ⟨#[]⟩,.string ⟨#[]⟩,.string ⟨#[]⟩,.string ⟨#[]⟩,.string ⟨#[]⟩,.string ⟨#[]⟩,.string ⟨#[]⟩,.string ⟨#[]⟩,.string ⟨#[]⟩,.string ⟨#[]⟩,.bool false,.bool false] 46))=W0 at H0 ⊢;go_wp2_with fail
 with_reducible refine (CPL.out _).mono ?_
 rintro e1 z1 ⟨rfl,hb⟩;have H1:=kpR H0 hb;clear hb;go_wp2_with fail
 have HD1:=drR H1;refine wp_region_noPanic ?_;refine wp_region_held_drew (S:=fun W:World=>(RX 46 W w.heap.size x0 x1 x2 x3 x4 x5 x6 x7 x8 x9 xo xp∧RX 46 W (w.heap.size+1) ⟨#[]⟩ ⟨#[]⟩ ⟨#[]⟩ ⟨#[]⟩ ⟨#[]⟩ ⟨#[]⟩ ⟨#[]⟩ ⟨#[]⟩ ⟨#[]⟩ ⟨#[]⟩ false false)∧Below w.heap.size w W) (by kernel_rfl) ?_ (fun hHeld=>?_)
 ·exact HD1.out
 iterate 8
  refine zqb [0,1,2,3,4,5,6,7] rfl rfl ?_ ?_ ?_;rotate_left
  ·(intro w hSw;obtain⟨⟨hs1,hs2⟩,hsb⟩:=hSw;obtain⟨q0,q1,q2,q3,q4,q5,q6,q7,q8,q9,q10,q11⟩:=cellsR hs1;go_simp;(try with_reducible rfl))
  try simp only[Act.put,J1,J2,J3,J4,J5,J6]
 refine zqf [8] (AllReadyH.cons rfl (fun K hK=>?_) AllReadyH.nil);rw[if_pos (by rfl)];go_simp;with_reducible refine (CM.out _).mono ?_
 rintro e2 z2 ⟨rfl,hb⟩;have H2:=kpR HD1 hb;clear hb;refine hK.out _ _ ?_ (fun hHeld=>?_)
 ·exact H2.out
 clear hK K
 try simp only[Act.put,J1,J2,J3,J4,J5,J6]
 iterate 5
  refine zqb [9,10,11,12,13] rfl rfl ?_ ?_ ?_;rotate_left
  ·(intro w hSw;obtain⟨⟨hs1,hs2⟩,hsb⟩:=hSw;obtain⟨q0,q1,q2,q3,q4,q5,q6,q7,q8,q9,q10,q11⟩:=cellsR hs1;go_simp;(try with_reducible rfl))
  try simp only[Act.put,J1,J2,J3,J4,J5,J6]
 refine zqe (NoPanic.normal ?_);have H3:=zh hHeld;clear hHeld H2;go_wp2_with fail
 with_reducible refine (CU.out _).mono ?_
 rintro e4 z4 ⟨rfl,hb⟩;have H4:=kpR H3 hb;clear hb;go_wp2_with fail
 with_reducible refine (CG.out _).mono ?_
 rintro e5 z5 ⟨rfl,hb⟩;have H5:=kpR H4 hb;clear hb;have HH6:=zh (heap_alloc_new z5 (.cells #[.bool lg,.bool sp,.bool xp,.int .i64 ty,.int .u32 ve,.string dc,.string sc,.string tk,.int .u64 le,.int .i64 wi,.int .u64 nu] 104));have H6:=axR H5 (.cells #[.bool lg,.bool sp,.bool xp,.int .i64 ty,.int .u32 ve,.string dc,.string sc,.string tk,.int .u64 le,.int .i64 wi,.int .u64 nu] 104);go_upto_region 13 with (fail)
 generalize z5.alloc (.cells #[.bool lg,.bool sp,.bool xp,.int .i64 ty,.int .u32 ve,.string dc,.string sc,.string tk,.int .u64 le,.int .i64 wi,.int .u64 nu] 104)=z6 at *;generalize z5.heap.size=bh at *;have h2:z6.cell? ⟨bh,2,none⟩=some (.bool xp):=Lib.cell_of_heap HH6.out 2;have h9:z6.cell? ⟨bh,9,none⟩=some (.int .i64 wi):=Lib.cell_of_heap HH6.out 9;have h10:z6.cell? ⟨bh,10,none⟩=some (.int .u64 nu):=Lib.cell_of_heap HH6.out 10;clear H0 H1 HD1 H3 H4 H5;go_wp2_with fail
 with_reducible refine (CE.out _).mono ?_
 rintro e7 z7 ⟨rfl,hb⟩;have H7:=kpR H6 hb;have HH7:=zh ((hb.block bh (Array.getElem?_eq_some_iff.1 HH6.out).1).trans HH6.out);clear hb h2 h9 h10 HH6 H6;have h2:z7.cell? ⟨bh,2,none⟩=some (.bool xp):=Lib.cell_of_heap HH7.out 2;obtain⟨m0,m1,m2,m3,m4,m5,m6,m7,m8,m9,m10,m11⟩:=cellsR H7.out.1.1;obtain⟨r0,r1,r2,r3,r4,r5,r6,r7,r8,r9,r10,r11⟩:=cellsR H7.out.1.2;obtain⟨f0,f1,f2,f3,f4,f5,f6,f7,f8,f9,f10,f11⟩:=fz12 H7.out.1.2;go_wp2_with fail
 with_reducible refine (CO.out _).mono ?_
 rintro e8 z8 ⟨rfl,hb⟩;have H8:=kpR H7 hb;clear hb;clear m0 r0 f0 m1 r1 f1 m2 r2 f2 m3 r3 f3 m4 r4 f4 m5 r5 f5 m6 r6 f6 m7 r7 f7 m8 r8 f8 m9 r9 f9 m10 r10 f10 m11 r11 f11;obtain⟨m0,m1,m2,m3,m4,m5,m6,m7,m8,m9,m10,m11⟩:=cellsR H8.out.1.1;obtain⟨r0,r1,r2,r3,r4,r5,r6,r7,r8,r9,r10,r11⟩:=cellsR H8.out.1.2;obtain⟨f0,f1,f2,f3,f4,f5,f6,f7,f8,f9,f10,f11⟩:=fz12 H8.out.1.2;go_wp2_with fail
 have HQ:=zh (put12 H8.out.1.2 (.string x0) (.string x1) (.string x2) (.string x3) (.string x4) (.string x5) (.string x6) (.string x7) (.string x8) (.string x9) (.bool xo) (.bool xp));refine bodyPost_ret (v:=.tuple #[.agg #[.string x0,.string x1,.string x2,.string x3,.string x4,.string x5,.string x6,.string x7,.string x8,.string x9,.bool xo,.bool xp],.int .u64 num,.string P,.int .i64 0]) (res_dun _ (w.heap.size+1) (.string x0) (.string x1) (.string x2) (.string x3) (.string x4) (.string x5) (.string x6) (.string x7) (.string x8) (.string x9) (.bool xo) (.bool xp) _ _ _ _ ?_ ?_ ?_ ?_ ?_) ?_ ⟨rfl,?_⟩
 ·rfl
 ·rfl
 ·rfl
 ·rfl
 ·first|exact HQ.out|exact heap_drew HQ.out
 ·rfl
 ·first|exact below12 H8.out.2 (by omega) _ _ _ _ _ _ _ _ _ _ _ _|exact (below12 H8.out.2 (by omega) _ _ _ _ _ _ _ _ _ _ _ _).drew
theorem dun_old_yes(x0 x1 x2 x3 x4 x5 x6 x7 x8 x9 TT SM MK BR SL HEAD P:ByteArray)(xp any:Bool)(lg sp ph:Bool)(ty ve:Int)(dc sc tk:ByteArray)(le wi nu:Int)(p n num:Nat)(h0:0<TT.size)(hbig:TT[0].toNat<128)(hs:p+20≤TT.size)(hz:TT.size≤100000)(hsm:TT.extract (p+4) (p+20)=SM)(hSL:SL.size+n=BR.size)(hBR:BR.size≤1000000)(hHD:BR.extract 0 n=HEAD)(hph:(ph==xp)=false)(largest:Nat)(w:World)
 (CPL:Hid (∀W:World,Calls Tryz.prog 65 #[.string TT] W fun e w'=>e=.returned (.tuple #[.int .i64 p,.int .i64 0])∧Below W.heap.size W w'))
 (CM:Hid (∀W:World,Calls Tryz.prog 20 #[.agg #[.string x4,.string x5,.string x6],.string SM] W fun e w'=>e=.returned (.tuple #[.string MK,.int .i64 0])∧Below W.heap.size W w'))
 (CU:Hid (∀W:World,Calls Tryz.prog 66 #[.string TT,.string MK] W fun e w'=>e=.returned (.tuple #[.string BR,.int .i64 0])∧Below W.heap.size W w'))
 (CG:Hid (∀W:World,Calls Tryz.prog 67 #[.string BR] W fun e w'=>e=.returned (.tuple #[.agg #[.bool lg,.bool sp,.bool ph,.int .i64 ty,.int .u32 ve,.string dc,.string sc,.string tk,.int .u64 le,.int .i64 wi,.int .u64 nu],.string SL,.int .i64 0])∧Below W.heap.size W w'))
 (CE:Hid (∀W:World,Calls Tryz.prog 68 #[.int .u64 largest,.bool any,.int .u64 nu,.int .i64 wi] W fun e w'=>e=.returned (.int .u64 num)∧Below W.heap.size W w'))
 (CO:Hid (∀W:World,Calls Tryz.prog 18 #[.agg #[.string x1,.string x2,.string x3],.int .u64 num,.string HEAD,.string SL] W fun e w'=>e=.returned (.tuple #[.string P,.int .i64 0])∧Below W.heap.size W w')) :
 Calls Tryz.prog 30 #[.agg #[.string x0,.string x1,.string x2,.string x3,.string x4,.string x5,.string x6,.string x7,.string x8,.string x9,.bool true,.bool xp],.int .u64 largest,.bool any,.string TT] w fun e w'=>e=.returned (.tuple #[.agg #[.string x0,.string x1,.string x2,.string x3,.string x4,.string x5,.string x6,.string x7,.string x8,.string x9,.bool true,.bool xp],.int .u64 num,.string P,.int .i64 0])∧Below w.heap.size w w':=by
 have hph2:¬ph=xp:=by intro h;subst h;simp at hph
 have h0I:(0:Int)<(TT.size:Int):=by omega
 have hgI:¬(TT[0].toNat:Int)≥128:=by omega
 have hsI:¬(TT.size:Int)<(p:Int)+20:=by omega
 have hpI:(p:Int)+20≤(TT.size:Int):=by omega
 have hzI:(TT.size:Int)≤100000:=by omega
 obtain⟨q4,hq4⟩:∃q,p+4=q:=⟨_,rfl⟩;obtain⟨q20,hq20⟩:∃q,p+20=q:=⟨_,rfl⟩;rw[hq4,hq20]at hsm;have hp4:(q4:Int)≤(q20:Int):=by omega
 have hp5:(q20:Int)≤(TT.size:Int):=by omega
 have hw4:IntKind.i64.wrap ((p:Int)+4)=(q4:Int):=by rw[IntWalk.i64_in _ (by omega)];omega
 have hw20:IntKind.i64.wrap ((p:Int)+20)=(q20:Int):=by rw[IntWalk.i64_in _ (by omega)];omega
 have hn1:(BR.size:Int)-(SL.size:Int)=(n:Int):=by omega
 have hn2:IntKind.i64.wrap ((BR.size:Int)-(SL.size:Int))=(n:Int):=by rw[IntWalk.i64_in _ (by omega)];exact hn1
 have hn3:(n:Int)≤(BR.size:Int):=by omega
 have hn4:(0:Int)≤(n:Int):=by omega
 have hSLI:(SL.size:Int)≤1000000:=by omega
 have hBRI:(BR.size:Int)≤1000000:=by omega
 have H0:=ntR w x0 x1 x2 x3 x4 x5 x6 x7 x8 x9 true xp;go_enter Tryz.func30,Tryz.ntmps30;go_upto_region 1 with (fail)
 generalize ((w.alloc (.cells #[.string x0,.string x1,.string x2,.string x3,.string x4,.string x5,.string x6,.string x7,.string x8,.string x9,.bool true,.bool xp] 46)).alloc (.cells #[.string ⟨#[]⟩,.string ⟨#[]⟩,.string ⟨#[]⟩,.string ⟨#[]⟩,.string ⟨#[]⟩,.string ⟨#[]⟩,.string ⟨#[]⟩,.string ⟨#[]⟩,.string ⟨#[]⟩,.string ⟨#[]⟩,.bool false,.bool false] 46))=W0 at H0 ⊢;go_wp2_with fail
 with_reducible refine (CPL.out _).mono ?_
 rintro e1 z1 ⟨rfl,hb⟩;have H1:=kpR H0 hb;clear hb;go_wp2_with fail
 have HD1:=drR H1;refine wp_region_noPanic ?_;refine wp_region_held_drew (S:=fun W:World=>(RX 46 W w.heap.size x0 x1 x2 x3 x4 x5 x6 x7 x8 x9 true xp∧RX 46 W (w.heap.size+1) ⟨#[]⟩ ⟨#[]⟩ ⟨#[]⟩ ⟨#[]⟩ ⟨#[]⟩ ⟨#[]⟩ ⟨#[]⟩ ⟨#[]⟩ ⟨#[]⟩ ⟨#[]⟩ false false)∧Below w.heap.size w W) (by kernel_rfl) ?_ (fun hHeld=>?_)
 ·exact HD1.out
 iterate 8
  refine zqb [0,1,2,3,4,5,6,7] rfl rfl ?_ ?_ ?_;rotate_left
  ·(intro w hSw;obtain⟨⟨hs1,hs2⟩,hsb⟩:=hSw;obtain⟨q0,q1,q2,q3,q4,q5,q6,q7,q8,q9,q10,q11⟩:=cellsR hs1;go_simp;(try with_reducible rfl))
  try simp only[Act.put,J1,J2,J3,J4,J5,J6]
 refine zqf [8] (AllReadyH.cons rfl (fun K hK=>?_) AllReadyH.nil);rw[if_pos (by rfl)];go_simp;with_reducible refine (CM.out _).mono ?_
 rintro e2 z2 ⟨rfl,hb⟩;have H2:=kpR HD1 hb;clear hb;refine hK.out _ _ ?_ (fun hHeld=>?_)
 ·exact H2.out
 clear hK K
 try simp only[Act.put,J1,J2,J3,J4,J5,J6]
 iterate 5
  refine zqb [9,10,11,12,13] rfl rfl ?_ ?_ ?_;rotate_left
  ·(intro w hSw;obtain⟨⟨hs1,hs2⟩,hsb⟩:=hSw;obtain⟨q0,q1,q2,q3,q4,q5,q6,q7,q8,q9,q10,q11⟩:=cellsR hs1;go_simp;(try with_reducible rfl))
  try simp only[Act.put,J1,J2,J3,J4,J5,J6]
 refine zqe (NoPanic.normal ?_);have H3:=zh hHeld;clear hHeld H2;go_wp2_with fail
 with_reducible refine (CU.out _).mono ?_
 rintro e4 z4 ⟨rfl,hb⟩;have H4:=kpR H3 hb;clear hb;go_wp2_with fail
 with_reducible refine (CG.out _).mono ?_
 rintro e5 z5 ⟨rfl,hb⟩;have H5:=kpR H4 hb;clear hb;have HH6:=zh (heap_alloc_new z5 (.cells #[.bool lg,.bool sp,.bool ph,.int .i64 ty,.int .u32 ve,.string dc,.string sc,.string tk,.int .u64 le,.int .i64 wi,.int .u64 nu] 104));have H6:=axR H5 (.cells #[.bool lg,.bool sp,.bool ph,.int .i64 ty,.int .u32 ve,.string dc,.string sc,.string tk,.int .u64 le,.int .i64 wi,.int .u64 nu] 104);go_upto_region 13 with (fail)
 generalize z5.alloc (.cells #[.bool lg,.bool sp,.bool ph,.int .i64 ty,.int .u32 ve,.string dc,.string sc,.string tk,.int .u64 le,.int .i64 wi,.int .u64 nu] 104)=z6 at *;generalize z5.heap.size=bh at *;have h2:z6.cell? ⟨bh,2,none⟩=some (.bool ph):=Lib.cell_of_heap HH6.out 2;have h9:z6.cell? ⟨bh,9,none⟩=some (.int .i64 wi):=Lib.cell_of_heap HH6.out 9;have h10:z6.cell? ⟨bh,10,none⟩=some (.int .u64 nu):=Lib.cell_of_heap HH6.out 10;clear H0 H1 HD1 H3 H4 H5;go_wp2_with fail
 with_reducible refine (CE.out _).mono ?_
 rintro e7 z7 ⟨rfl,hb⟩;have H7:=kpR H6 hb;have HH7:=zh ((hb.block bh (Array.getElem?_eq_some_iff.1 HH6.out).1).trans HH6.out);clear hb h2 h9 h10 HH6 H6;have h2:z7.cell? ⟨bh,2,none⟩=some (.bool ph):=Lib.cell_of_heap HH7.out 2;obtain⟨m0,m1,m2,m3,m4,m5,m6,m7,m8,m9,m10,m11⟩:=cellsR H7.out.1.1;obtain⟨r0,r1,r2,r3,r4,r5,r6,r7,r8,r9,r10,r11⟩:=cellsR H7.out.1.2;obtain⟨f0,f1,f2,f3,f4,f5,f6,f7,f8,f9,f10,f11⟩:=fz12 H7.out.1.2;go_wp2_with fail
 with_reducible refine (CO.out _).mono ?_
 rintro e8 z8 ⟨rfl,hb⟩;have H8:=kpR H7 hb;clear hb;clear m0 r0 f0 m1 r1 f1 m2 r2 f2 m3 r3 f3 m4 r4 f4 m5 r5 f5 m6 r6 f6 m7 r7 f7 m8 r8 f8 m9 r9 f9 m10 r10 f10 m11 r11 f11;obtain⟨m0,m1,m2,m3,m4,m5,m6,m7,m8,m9,m10,m11⟩:=cellsR H8.out.1.1;obtain⟨r0,r1,r2,r3,r4,r5,r6,r7,r8,r9,r10,r11⟩:=cellsR H8.out.1.2;obtain⟨f0,f1,f2,f3,f4,f5,f6,f7,f8,f9,f10,f11⟩:=fz12 H8.out.1.2;go_wp2_with fail
 have HQ:=zh (put12 H8.out.1.2 (.string x0) (.string x1) (.string x2) (.string x3) (.string x4) (.string x5) (.string x6) (.string x7) (.string x8) (.string x9) (.bool true) (.bool xp));refine bodyPost_ret (v:=.tuple #[.agg #[.string x0,.string x1,.string x2,.string x3,.string x4,.string x5,.string x6,.string x7,.string x8,.string x9,.bool true,.bool xp],.int .u64 num,.string P,.int .i64 0]) (res_dun _ (w.heap.size+1) (.string x0) (.string x1) (.string x2) (.string x3) (.string x4) (.string x5) (.string x6) (.string x7) (.string x8) (.string x9) (.bool true) (.bool xp) _ _ _ _ ?_ ?_ ?_ ?_ ?_) ?_ ⟨rfl,?_⟩
 ·rfl
 ·rfl
 ·rfl
 ·rfl
 ·first|exact HQ.out|exact heap_drew HQ.out
 ·rfl
 ·first|exact below12 H8.out.2 (by omega) _ _ _ _ _ _ _ _ _ _ _ _|exact (below12 H8.out.2 (by omega) _ _ _ _ _ _ _ _ _ _ _ _).drew
theorem dun_old_no(x0 x1 x2 x3 x4 x5 x6 x7 x8 x9 TT SM MK BR SL HEAD:ByteArray)(xp any:Bool)(lg sp ph:Bool)(ty ve:Int)(dc sc tk:ByteArray)(le wi nu:Int)(p n num:Nat)(h0:0<TT.size)(hbig:TT[0].toNat<128)(hs:p+20≤TT.size)(hz:TT.size≤100000)(hsm:TT.extract (p+4) (p+20)=SM)(hSL:SL.size+n=BR.size)(hBR:BR.size≤1000000)(hHD:BR.extract 0 n=HEAD)(hph:(ph==xp)=false)(largest:Nat)(w:World)
 (CPL:Hid (∀W:World,Calls Tryz.prog 65 #[.string TT] W fun e w'=>e=.returned (.tuple #[.int .i64 p,.int .i64 0])∧Below W.heap.size W w'))
 (CM:Hid (∀W:World,Calls Tryz.prog 20 #[.agg #[.string x4,.string x5,.string x6],.string SM] W fun e w'=>e=.returned (.tuple #[.string MK,.int .i64 0])∧Below W.heap.size W w'))
 (CU:Hid (∀W:World,Calls Tryz.prog 66 #[.string TT,.string MK] W fun e w'=>e=.returned (.tuple #[.string BR,.int .i64 0])∧Below W.heap.size W w'))
 (CG:Hid (∀W:World,Calls Tryz.prog 67 #[.string BR] W fun e w'=>e=.returned (.tuple #[.agg #[.bool lg,.bool sp,.bool ph,.int .i64 ty,.int .u32 ve,.string dc,.string sc,.string tk,.int .u64 le,.int .i64 wi,.int .u64 nu],.string SL,.int .i64 0])∧Below W.heap.size W w'))
 (CE:Hid (∀W:World,Calls Tryz.prog 68 #[.int .u64 largest,.bool any,.int .u64 nu,.int .i64 wi] W fun e w'=>e=.returned (.int .u64 num)∧Below W.heap.size W w'))
 (CO1:Hid (∀W:World,Calls Tryz.prog 18 #[.agg #[.string x1,.string x2,.string x3],.int .u64 num,.string HEAD,.string SL] W fun e w'=>e=.returned (.tuple #[.string ⟨#[]⟩,.int .i64 90])∧Below W.heap.size W w'))
 (CO:Hid (∀W:World,Calls Tryz.prog 18 #[.agg #[.string x7,.string x8,.string x9],.int .u64 num,.string HEAD,.string SL] W fun e w'=>e=.returned (.tuple #[.string ⟨#[]⟩,.int .i64 90])∧Below W.heap.size W w')) :
 Calls Tryz.prog 30 #[.agg #[.string x0,.string x1,.string x2,.string x3,.string x4,.string x5,.string x6,.string x7,.string x8,.string x9,.bool true,.bool xp],.int .u64 largest,.bool any,.string TT] w fun e w'=>e=.returned (.tuple #[.agg #[.string x0,.string x1,.string x2,.string x3,.string x4,.string x5,.string x6,.string x7,.string x8,.string x9,.bool true,.bool xp],.int .u64 0,.string ⟨#[]⟩,.int .i64 90])∧Below w.heap.size w w':=by
 have hph2:¬ph=xp:=by intro h;subst h;simp at hph
 have h0I:(0:Int)<(TT.size:Int):=by omega
 have hgI:¬(TT[0].toNat:Int)≥128:=by omega
 have hsI:¬(TT.size:Int)<(p:Int)+20:=by omega
 have hpI:(p:Int)+20≤(TT.size:Int):=by omega
 have hzI:(TT.size:Int)≤100000:=by omega
 obtain⟨q4,hq4⟩:∃q,p+4=q:=⟨_,rfl⟩;obtain⟨q20,hq20⟩:∃q,p+20=q:=⟨_,rfl⟩;rw[hq4,hq20]at hsm;have hp4:(q4:Int)≤(q20:Int):=by omega
 have hp5:(q20:Int)≤(TT.size:Int):=by omega
 have hw4:IntKind.i64.wrap ((p:Int)+4)=(q4:Int):=by rw[IntWalk.i64_in _ (by omega)];omega
 have hw20:IntKind.i64.wrap ((p:Int)+20)=(q20:Int):=by rw[IntWalk.i64_in _ (by omega)];omega
 have hn1:(BR.size:Int)-(SL.size:Int)=(n:Int):=by omega
 have hn2:IntKind.i64.wrap ((BR.size:Int)-(SL.size:Int))=(n:Int):=by rw[IntWalk.i64_in _ (by omega)];exact hn1
 have hn3:(n:Int)≤(BR.size:Int):=by omega
 have hn4:(0:Int)≤(n:Int):=by omega
 have hSLI:(SL.size:Int)≤1000000:=by omega
 have hBRI:(BR.size:Int)≤1000000:=by omega
 have H0:=ntR w x0 x1 x2 x3 x4 x5 x6 x7 x8 x9 true xp;go_enter Tryz.func30,Tryz.ntmps30;go_upto_region 1 with (fail)
 generalize ((w.alloc (.cells #[.string x0,.string x1,.string x2,.string x3,.string x4,.string x5,.string x6,.string x7,.string x8,.string x9,.bool true,.bool xp] 46)).alloc (.cells #[.string ⟨#[]⟩,.string ⟨#[]⟩,.string ⟨#[]⟩,.string ⟨#[]⟩,.string ⟨#[]⟩,.string ⟨#[]⟩,.string ⟨#[]⟩,.string ⟨#[]⟩,.string ⟨#[]⟩,.string ⟨#[]⟩,.bool false,.bool false] 46))=W0 at H0 ⊢;go_wp2_with fail
 with_reducible refine (CPL.out _).mono ?_
 rintro e1 z1 ⟨rfl,hb⟩;have H1:=kpR H0 hb;clear hb;go_wp2_with fail
 have HD1:=drR H1;refine wp_region_noPanic ?_;refine wp_region_held_drew (S:=fun W:World=>(RX 46 W w.heap.size x0 x1 x2 x3 x4 x5 x6 x7 x8 x9 true xp∧RX 46 W (w.heap.size+1) ⟨#[]⟩ ⟨#[]⟩ ⟨#[]⟩ ⟨#[]⟩ ⟨#[]⟩ ⟨#[]⟩ ⟨#[]⟩ ⟨#[]⟩ ⟨#[]⟩ ⟨#[]⟩ false false)∧Below w.heap.size w W) (by kernel_rfl) ?_ (fun hHeld=>?_)
 ·exact HD1.out
 iterate 8
  refine zqb [0,1,2,3,4,5,6,7] rfl rfl ?_ ?_ ?_;rotate_left
  ·(intro w hSw;obtain⟨⟨hs1,hs2⟩,hsb⟩:=hSw;obtain⟨q0,q1,q2,q3,q4,q5,q6,q7,q8,q9,q10,q11⟩:=cellsR hs1;go_simp;(try with_reducible rfl))
  try simp only[Act.put,J1,J2,J3,J4,J5,J6]
 refine zqf [8] (AllReadyH.cons rfl (fun K hK=>?_) AllReadyH.nil);rw[if_pos (by rfl)];go_simp;with_reducible refine (CM.out _).mono ?_
 rintro e2 z2 ⟨rfl,hb⟩;have H2:=kpR HD1 hb;clear hb;refine hK.out _ _ ?_ (fun hHeld=>?_)
 ·exact H2.out
 clear hK K
 try simp only[Act.put,J1,J2,J3,J4,J5,J6]
 iterate 5
  refine zqb [9,10,11,12,13] rfl rfl ?_ ?_ ?_;rotate_left
  ·(intro w hSw;obtain⟨⟨hs1,hs2⟩,hsb⟩:=hSw;obtain⟨q0,q1,q2,q3,q4,q5,q6,q7,q8,q9,q10,q11⟩:=cellsR hs1;go_simp;(try with_reducible rfl))
  try simp only[Act.put,J1,J2,J3,J4,J5,J6]
 refine zqe (NoPanic.normal ?_);have H3:=zh hHeld;clear hHeld H2;go_wp2_with fail
 with_reducible refine (CU.out _).mono ?_
 rintro e4 z4 ⟨rfl,hb⟩;have H4:=kpR H3 hb;clear hb;go_wp2_with fail
 with_reducible refine (CG.out _).mono ?_
 rintro e5 z5 ⟨rfl,hb⟩;have H5:=kpR H4 hb;clear hb;have HH6:=zh (heap_alloc_new z5 (.cells #[.bool lg,.bool sp,.bool ph,.int .i64 ty,.int .u32 ve,.string dc,.string sc,.string tk,.int .u64 le,.int .i64 wi,.int .u64 nu] 104));have H6:=axR H5 (.cells #[.bool lg,.bool sp,.bool ph,.int .i64 ty,.int .u32 ve,.string dc,.string sc,.string tk,.int .u64 le,.int .i64 wi,.int .u64 nu] 104);go_upto_region 13 with (fail)
 generalize z5.alloc (.cells #[.bool lg,.bool sp,.bool ph,.int .i64 ty,.int .u32 ve,.string dc,.string sc,.string tk,.int .u64 le,.int .i64 wi,.int .u64 nu] 104)=z6 at *;generalize z5.heap.size=bh at *;have h2:z6.cell? ⟨bh,2,none⟩=some (.bool ph):=Lib.cell_of_heap HH6.out 2;have h9:z6.cell? ⟨bh,9,none⟩=some (.int .i64 wi):=Lib.cell_of_heap HH6.out 9;have h10:z6.cell? ⟨bh,10,none⟩=some (.int .u64 nu):=Lib.cell_of_heap HH6.out 10;clear H0 H1 HD1 H3 H4 H5;go_wp2_with fail
 with_reducible refine (CE.out _).mono ?_
 rintro e7 z7 ⟨rfl,hb⟩;have H7:=kpR H6 hb;have HH7:=zh ((hb.block bh (Array.getElem?_eq_some_iff.1 HH6.out).1).trans HH6.out);clear hb h2 h9 h10 HH6 H6;have h2:z7.cell? ⟨bh,2,none⟩=some (.bool ph):=Lib.cell_of_heap HH7.out 2;obtain⟨m0,m1,m2,m3,m4,m5,m6,m7,m8,m9,m10,m11⟩:=cellsR H7.out.1.1;obtain⟨r0,r1,r2,r3,r4,r5,r6,r7,r8,r9,r10,r11⟩:=cellsR H7.out.1.2;obtain⟨f0,f1,f2,f3,f4,f5,f6,f7,f8,f9,f10,f11⟩:=fz12 H7.out.1.2;go_wp2_with fail
 with_reducible refine (CO1.out _).mono ?_
 rintro e8 z8 ⟨rfl,hb⟩;have H8:=kpR H7 hb;clear hb;clear m0 r0 f0 m1 r1 f1 m2 r2 f2 m3 r3 f3 m4 r4 f4 m5 r5 f5 m6 r6 f6 m7 r7 f7 m8 r8 f8 m9 r9 f9 m10 r10 f10 m11 r11 f11;obtain⟨m0,m1,m2,m3,m4,m5,m6,m7,m8,m9,m10,m11⟩:=cellsR H8.out.1.1;obtain⟨r0,r1,r2,r3,r4,r5,r6,r7,r8,r9,r10,r11⟩:=cellsR H8.out.1.2;obtain⟨f0,f1,f2,f3,f4,f5,f6,f7,f8,f9,f10,f11⟩:=fz12 H8.out.1.2;go_wp2_with fail
 with_reducible refine (CO.out _).mono ?_
 rintro e9 z9 ⟨rfl,hb⟩;have H9:=kpR H8 hb;clear hb;clear m0 r0 f0 m1 r1 f1 m2 r2 f2 m3 r3 f3 m4 r4 f4 m5 r5 f5 m6 r6 f6 m7 r7 f7 m8 r8 f8 m9 r9 f9 m10 r10 f10 m11 r11 f11;obtain⟨m0,m1,m2,m3,m4,m5,m6,m7,m8,m9,m10,m11⟩:=cellsR H9.out.1.1;obtain⟨r0,r1,r2,r3,r4,r5,r6,r7,r8,r9,r10,r11⟩:=cellsR H9.out.1.2;obtain⟨f0,f1,f2,f3,f4,f5,f6,f7,f8,f9,f10,f11⟩:=fz12 H9.out.1.2;go_wp2_with fail
 have HQ:=zh (put12 H9.out.1.2 (.string x0) (.string x1) (.string x2) (.string x3) (.string x4) (.string x5) (.string x6) (.string x7) (.string x8) (.string x9) (.bool true) (.bool xp));refine bodyPost_ret (v:=.tuple #[.agg #[.string x0,.string x1,.string x2,.string x3,.string x4,.string x5,.string x6,.string x7,.string x8,.string x9,.bool true,.bool xp],.int .u64 0,.string ⟨#[]⟩,.int .i64 90]) (res_dun _ (w.heap.size+1) (.string x0) (.string x1) (.string x2) (.string x3) (.string x4) (.string x5) (.string x6) (.string x7) (.string x8) (.string x9) (.bool true) (.bool xp) _ _ _ _ ?_ ?_ ?_ ?_ ?_) ?_ ⟨rfl,?_⟩
 ·rfl
 ·rfl
 ·rfl
 ·rfl
 ·first|exact HQ.out|exact heap_drew HQ.out
 ·rfl
 ·first|exact below12 H9.out.2 (by omega) _ _ _ _ _ _ _ _ _ _ _ _|exact (below12 H9.out.2 (by omega) _ _ _ _ _ _ _ _ _ _ _ _).drew
theorem dun_old_turn(x0 x1 x2 x3 x4 x5 x6 x7 x8 x9 TT SM MK BR SL HEAD P na ka va:ByteArray)(xp any:Bool)(lg sp ph:Bool)(ty ve:Int)(dc sc tk:ByteArray)(le wi nu:Int)(p n num:Nat)(h0:0<TT.size)(hbig:TT[0].toNat<128)(hs:p+20≤TT.size)(hz:TT.size≤100000)(hsm:TT.extract (p+4) (p+20)=SM)(hSL:SL.size+n=BR.size)(hBR:BR.size≤1000000)(hHD:BR.extract 0 n=HEAD)(hph:(ph==xp)=false)(largest:Nat)(w:World)
 (CPL:Hid (∀W:World,Calls Tryz.prog 65 #[.string TT] W fun e w'=>e=.returned (.tuple #[.int .i64 p,.int .i64 0])∧Below W.heap.size W w'))
 (CM:Hid (∀W:World,Calls Tryz.prog 20 #[.agg #[.string x4,.string x5,.string x6],.string SM] W fun e w'=>e=.returned (.tuple #[.string MK,.int .i64 0])∧Below W.heap.size W w'))
 (CU:Hid (∀W:World,Calls Tryz.prog 66 #[.string TT,.string MK] W fun e w'=>e=.returned (.tuple #[.string BR,.int .i64 0])∧Below W.heap.size W w'))
 (CG:Hid (∀W:World,Calls Tryz.prog 67 #[.string BR] W fun e w'=>e=.returned (.tuple #[.agg #[.bool lg,.bool sp,.bool ph,.int .i64 ty,.int .u32 ve,.string dc,.string sc,.string tk,.int .u64 le,.int .i64 wi,.int .u64 nu],.string SL,.int .i64 0])∧Below W.heap.size W w'))
 (CE:Hid (∀W:World,Calls Tryz.prog 68 #[.int .u64 largest,.bool any,.int .u64 nu,.int .i64 wi] W fun e w'=>e=.returned (.int .u64 num)∧Below W.heap.size W w'))
 (CO1:Hid (∀W:World,Calls Tryz.prog 18 #[.agg #[.string x1,.string x2,.string x3],.int .u64 num,.string HEAD,.string SL] W fun e w'=>e=.returned (.tuple #[.string ⟨#[]⟩,.int .i64 90])∧Below W.heap.size W w'))
 (CO:Hid (∀W:World,Calls Tryz.prog 18 #[.agg #[.string x7,.string x8,.string x9],.int .u64 num,.string HEAD,.string SL] W fun e w'=>e=.returned (.tuple #[.string P,.int .i64 0])∧Below W.heap.size W w'))
 (CT:Hid (∀W:World,Calls Tryz.prog 26 #[.agg #[.string x0,.string x1,.string x2,.string x3,.string x4,.string x5,.string x6,.string x7,.string x8,.string x9,.bool true,.bool xp]] W fun e w'=>e=.returned (.agg #[.string na,.string x4,.string x5,.string x6,.string x7,.string x8,.string x6,.string ka,.string va,.string x6,.bool true,.bool (!xp)])∧Below W.heap.size W w')) :
 Calls Tryz.prog 30 #[.agg #[.string x0,.string x1,.string x2,.string x3,.string x4,.string x5,.string x6,.string x7,.string x8,.string x9,.bool true,.bool xp],.int .u64 largest,.bool any,.string TT] w fun e w'=>e=.returned (.tuple #[.agg #[.string na,.string x4,.string x5,.string x6,.string x7,.string x8,.string x6,.string ka,.string va,.string x6,.bool true,.bool (!xp)],.int .u64 num,.string P,.int .i64 0])∧Below w.heap.size w w':=by
 have hph2:¬ph=xp:=by intro h;subst h;simp at hph
 have h0I:(0:Int)<(TT.size:Int):=by omega
 have hgI:¬(TT[0].toNat:Int)≥128:=by omega
 have hsI:¬(TT.size:Int)<(p:Int)+20:=by omega
 have hpI:(p:Int)+20≤(TT.size:Int):=by omega
 have hzI:(TT.size:Int)≤100000:=by omega
 obtain⟨q4,hq4⟩:∃q,p+4=q:=⟨_,rfl⟩;obtain⟨q20,hq20⟩:∃q,p+20=q:=⟨_,rfl⟩;rw[hq4,hq20]at hsm;have hp4:(q4:Int)≤(q20:Int):=by omega
 have hp5:(q20:Int)≤(TT.size:Int):=by omega
 have hw4:IntKind.i64.wrap ((p:Int)+4)=(q4:Int):=by rw[IntWalk.i64_in _ (by omega)];omega
 have hw20:IntKind.i64.wrap ((p:Int)+20)=(q20:Int):=by rw[IntWalk.i64_in _ (by omega)];omega
 have hn1:(BR.size:Int)-(SL.size:Int)=(n:Int):=by omega
 have hn2:IntKind.i64.wrap ((BR.size:Int)-(SL.size:Int))=(n:Int):=by rw[IntWalk.i64_in _ (by omega)];exact hn1
 have hn3:(n:Int)≤(BR.size:Int):=by omega
 have hn4:(0:Int)≤(n:Int):=by omega
 have hSLI:(SL.size:Int)≤1000000:=by omega
 have hBRI:(BR.size:Int)≤1000000:=by omega
 have H0:=ntR w x0 x1 x2 x3 x4 x5 x6 x7 x8 x9 true xp;go_enter Tryz.func30,Tryz.ntmps30;go_upto_region 1 with (fail)
 generalize ((w.alloc (.cells #[.string x0,.string x1,.string x2,.string x3,.string x4,.string x5,.string x6,.string x7,.string x8,.string x9,.bool true,.bool xp] 46)).alloc (.cells #[.string ⟨#[]⟩,.string ⟨#[]⟩,.string ⟨#[]⟩,.string ⟨#[]⟩,.string ⟨#[]⟩,.string ⟨#[]⟩,.string ⟨#[]⟩,.string ⟨#[]⟩,.string ⟨#[]⟩,.string ⟨#[]⟩,.bool false,.bool false] 46))=W0 at H0 ⊢;go_wp2_with fail
 with_reducible refine (CPL.out _).mono ?_
 rintro e1 z1 ⟨rfl,hb⟩;have H1:=kpR H0 hb;clear hb;go_wp2_with fail
 have HD1:=drR H1;refine wp_region_noPanic ?_;refine wp_region_held_drew (S:=fun W:World=>(RX 46 W w.heap.size x0 x1 x2 x3 x4 x5 x6 x7 x8 x9 true xp∧RX 46 W (w.heap.size+1) ⟨#[]⟩ ⟨#[]⟩ ⟨#[]⟩ ⟨#[]⟩ ⟨#[]⟩ ⟨#[]⟩ ⟨#[]⟩ ⟨#[]⟩ ⟨#[]⟩ ⟨#[]⟩ false false)∧Below w.heap.size w W) (by kernel_rfl) ?_ (fun hHeld=>?_)
 ·exact HD1.out
 iterate 8
  refine zqb [0,1,2,3,4,5,6,7] rfl rfl ?_ ?_ ?_;rotate_left
  ·(intro w hSw;obtain⟨⟨hs1,hs2⟩,hsb⟩:=hSw;obtain⟨q0,q1,q2,q3,q4,q5,q6,q7,q8,q9,q10,q11⟩:=cellsR hs1;go_simp;(try with_reducible rfl))
  try simp only[Act.put,J1,J2,J3,J4,J5,J6]
 refine zqf [8] (AllReadyH.cons rfl (fun K hK=>?_) AllReadyH.nil);rw[if_pos (by rfl)];go_simp;with_reducible refine (CM.out _).mono ?_
 rintro e2 z2 ⟨rfl,hb⟩;have H2:=kpR HD1 hb;clear hb;refine hK.out _ _ ?_ (fun hHeld=>?_)
 ·exact H2.out
 clear hK K
 try simp only[Act.put,J1,J2,J3,J4,J5,J6]
 iterate 5
  refine zqb [9,10,11,12,13] rfl rfl ?_ ?_ ?_;rotate_left
  ·(intro w hSw;obtain⟨⟨hs1,hs2⟩,hsb⟩:=hSw;obtain⟨q0,q1,q2,q3,q4,q5,q6,q7,q8,q9,q10,q11⟩:=cellsR hs1;go_simp;(try with_reducible rfl))
  try simp only[Act.put,J1,J2,J3,J4,J5,J6]
 refine zqe (NoPanic.normal ?_);have H3:=zh hHeld;clear hHeld H2;go_wp2_with fail
 with_reducible refine (CU.out _).mono ?_
 rintro e4 z4 ⟨rfl,hb⟩;have H4:=kpR H3 hb;clear hb;go_wp2_with fail
 with_reducible refine (CG.out _).mono ?_
 rintro e5 z5 ⟨rfl,hb⟩;have H5:=kpR H4 hb;clear hb;have HH6:=zh (heap_alloc_new z5 (.cells #[.bool lg,.bool sp,.bool ph,.int .i64 ty,.int .u32 ve,.string dc,.string sc,.string tk,.int .u64 le,.int .i64 wi,.int .u64 nu] 104));have H6:=axR H5 (.cells #[.bool lg,.bool sp,.bool ph,.int .i64 ty,.int .u32 ve,.string dc,.string sc,.string tk,.int .u64 le,.int .i64 wi,.int .u64 nu] 104);go_upto_region 13 with (fail)
 generalize z5.alloc (.cells #[.bool lg,.bool sp,.bool ph,.int .i64 ty,.int .u32 ve,.string dc,.string sc,.string tk,.int .u64 le,.int .i64 wi,.int .u64 nu] 104)=z6 at *;generalize z5.heap.size=bh at *;have h2:z6.cell? ⟨bh,2,none⟩=some (.bool ph):=Lib.cell_of_heap HH6.out 2;have h9:z6.cell? ⟨bh,9,none⟩=some (.int .i64 wi):=Lib.cell_of_heap HH6.out 9;have h10:z6.cell? ⟨bh,10,none⟩=some (.int .u64 nu):=Lib.cell_of_heap HH6.out 10;clear H0 H1 HD1 H3 H4 H5;go_wp2_with fail
 with_reducible refine (CE.out _).mono ?_
 rintro e7 z7 ⟨rfl,hb⟩;have H7:=kpR H6 hb;have HH7:=zh ((hb.block bh (Array.getElem?_eq_some_iff.1 HH6.out).1).trans HH6.out);clear hb h2 h9 h10 HH6 H6;have h2:z7.cell? ⟨bh,2,none⟩=some (.bool ph):=Lib.cell_of_heap HH7.out 2;obtain⟨m0,m1,m2,m3,m4,m5,m6,m7,m8,m9,m10,m11⟩:=cellsR H7.out.1.1;obtain⟨r0,r1,r2,r3,r4,r5,r6,r7,r8,r9,r10,r11⟩:=cellsR H7.out.1.2;obtain⟨f0,f1,f2,f3,f4,f5,f6,f7,f8,f9,f10,f11⟩:=fz12 H7.out.1.2;go_wp2_with fail
 with_reducible refine (CO1.out _).mono ?_
 rintro e8 z8 ⟨rfl,hb⟩;have H8:=kpR H7 hb;clear hb;clear m0 r0 f0 m1 r1 f1 m2 r2 f2 m3 r3 f3 m4 r4 f4 m5 r5 f5 m6 r6 f6 m7 r7 f7 m8 r8 f8 m9 r9 f9 m10 r10 f10 m11 r11 f11;obtain⟨m0,m1,m2,m3,m4,m5,m6,m7,m8,m9,m10,m11⟩:=cellsR H8.out.1.1;obtain⟨r0,r1,r2,r3,r4,r5,r6,r7,r8,r9,r10,r11⟩:=cellsR H8.out.1.2;obtain⟨f0,f1,f2,f3,f4,f5,f6,f7,f8,f9,f10,f11⟩:=fz12 H8.out.1.2;go_wp2_with fail
 with_reducible refine (CO.out _).mono ?_
 rintro e9 z9 ⟨rfl,hb⟩;have H9:=kpR H8 hb;clear hb;clear m0 r0 f0 m1 r1 f1 m2 r2 f2 m3 r3 f3 m4 r4 f4 m5 r5 f5 m6 r6 f6 m7 r7 f7 m8 r8 f8 m9 r9 f9 m10 r10 f10 m11 r11 f11;obtain⟨m0,m1,m2,m3,m4,m5,m6,m7,m8,m9,m10,m11⟩:=cellsR H9.out.1.1;obtain⟨r0,r1,r2,r3,r4,r5,r6,r7,r8,r9,r10,r11⟩:=cellsR H9.out.1.2;obtain⟨f0,f1,f2,f3,f4,f5,f6,f7,f8,f9,f10,f11⟩:=fz12 H9.out.1.2;go_wp2_with fail
 with_reducible refine (CT.out _).mono ?_
 rintro e10 z10 ⟨rfl,hb⟩;have H10:=kpR H9 hb;clear hb;clear m0 r0 f0 m1 r1 f1 m2 r2 f2 m3 r3 f3 m4 r4 f4 m5 r5 f5 m6 r6 f6 m7 r7 f7 m8 r8 f8 m9 r9 f9 m10 r10 f10 m11 r11 f11;obtain⟨r0,r1,r2,r3,r4,r5,r6,r7,r8,r9,r10,r11⟩:=cellsR H10.out.1.2;obtain⟨f0,f1,f2,f3,f4,f5,f6,f7,f8,f9,f10,f11⟩:=fz12 H10.out.1.2;go_wp2_with fail
 have HQ:=zh (put12 H10.out.1.2 (.string na) (.string x4) (.string x5) (.string x6) (.string x7) (.string x8) (.string x6) (.string ka) (.string va) (.string x6) (.bool true) (.bool (!xp)));refine bodyPost_ret (v:=.tuple #[.agg #[.string na,.string x4,.string x5,.string x6,.string x7,.string x8,.string x6,.string ka,.string va,.string x6,.bool true,.bool (!xp)],.int .u64 num,.string P,.int .i64 0]) (res_dun _ (w.heap.size+1) (.string na) (.string x4) (.string x5) (.string x6) (.string x7) (.string x8) (.string x6) (.string ka) (.string va) (.string x6) (.bool true) (.bool (!xp)) _ _ _ _ ?_ ?_ ?_ ?_ ?_) ?_ ⟨rfl,?_⟩
 ·rfl
 ·rfl
 ·rfl
 ·rfl
 ·first|exact HQ.out|exact heap_drew HQ.out
 ·rfl
 ·first|exact below12 H10.out.2 (by omega) _ _ _ _ _ _ _ _ _ _ _ _|exact (below12 H10.out.2 (by omega) _ _ _ _ _ _ _ _ _ _ _ _).drew
theorem dun_new_no(x0 x1 x2 x3 x4 x5 x6 x7 x8 x9 TT SM MK BR SL HEAD:ByteArray)(xp any:Bool)(lg sp ph:Bool)(ty ve:Int)(dc sc tk:ByteArray)(le wi nu:Int)(p n num:Nat)(h0:0<TT.size)(hbig:TT[0].toNat<128)(hs:p+20≤TT.size)(hz:TT.size≤100000)(hsm:TT.extract (p+4) (p+20)=SM)(hSL:SL.size+n=BR.size)(hBR:BR.size≤1000000)(hHD:BR.extract 0 n=HEAD)(hph:(ph==xp)=false)(largest:Nat)(w:World)
 (CPL:Hid (∀W:World,Calls Tryz.prog 65 #[.string TT] W fun e w'=>e=.returned (.tuple #[.int .i64 p,.int .i64 0])∧Below W.heap.size W w'))
 (CM:Hid (∀W:World,Calls Tryz.prog 20 #[.agg #[.string x4,.string x5,.string x6],.string SM] W fun e w'=>e=.returned (.tuple #[.string MK,.int .i64 0])∧Below W.heap.size W w'))
 (CU:Hid (∀W:World,Calls Tryz.prog 66 #[.string TT,.string MK] W fun e w'=>e=.returned (.tuple #[.string BR,.int .i64 0])∧Below W.heap.size W w'))
 (CG:Hid (∀W:World,Calls Tryz.prog 67 #[.string BR] W fun e w'=>e=.returned (.tuple #[.agg #[.bool lg,.bool sp,.bool ph,.int .i64 ty,.int .u32 ve,.string dc,.string sc,.string tk,.int .u64 le,.int .i64 wi,.int .u64 nu],.string SL,.int .i64 0])∧Below W.heap.size W w'))
 (CE:Hid (∀W:World,Calls Tryz.prog 68 #[.int .u64 largest,.bool any,.int .u64 nu,.int .i64 wi] W fun e w'=>e=.returned (.int .u64 num)∧Below W.heap.size W w'))
 (CO:Hid (∀W:World,Calls Tryz.prog 18 #[.agg #[.string x7,.string x8,.string x9],.int .u64 num,.string HEAD,.string SL] W fun e w'=>e=.returned (.tuple #[.string ⟨#[]⟩,.int .i64 90])∧Below W.heap.size W w')) :
 Calls Tryz.prog 30 #[.agg #[.string x0,.string x1,.string x2,.string x3,.string x4,.string x5,.string x6,.string x7,.string x8,.string x9,.bool false,.bool xp],.int .u64 largest,.bool any,.string TT] w fun e w'=>e=.returned (.tuple #[.agg #[.string x0,.string x1,.string x2,.string x3,.string x4,.string x5,.string x6,.string x7,.string x8,.string x9,.bool false,.bool xp],.int .u64 0,.string ⟨#[]⟩,.int .i64 90])∧Below w.heap.size w w':=by
 have hph2:¬ph=xp:=by intro h;subst h;simp at hph
 have h0I:(0:Int)<(TT.size:Int):=by omega
 have hgI:¬(TT[0].toNat:Int)≥128:=by omega
 have hsI:¬(TT.size:Int)<(p:Int)+20:=by omega
 have hpI:(p:Int)+20≤(TT.size:Int):=by omega
 have hzI:(TT.size:Int)≤100000:=by omega
 obtain⟨q4,hq4⟩:∃q,p+4=q:=⟨_,rfl⟩;obtain⟨q20,hq20⟩:∃q,p+20=q:=⟨_,rfl⟩;rw[hq4,hq20]at hsm;have hp4:(q4:Int)≤(q20:Int):=by omega
 have hp5:(q20:Int)≤(TT.size:Int):=by omega
 have hw4:IntKind.i64.wrap ((p:Int)+4)=(q4:Int):=by rw[IntWalk.i64_in _ (by omega)];omega
 have hw20:IntKind.i64.wrap ((p:Int)+20)=(q20:Int):=by rw[IntWalk.i64_in _ (by omega)];omega
 have hn1:(BR.size:Int)-(SL.size:Int)=(n:Int):=by omega
 have hn2:IntKind.i64.wrap ((BR.size:Int)-(SL.size:Int))=(n:Int):=by rw[IntWalk.i64_in _ (by omega)];exact hn1
 have hn3:(n:Int)≤(BR.size:Int):=by omega
 have hn4:(0:Int)≤(n:Int):=by omega
 have hSLI:(SL.size:Int)≤1000000:=by omega
 have hBRI:(BR.size:Int)≤1000000:=by omega
 have H0:=ntR w x0 x1 x2 x3 x4 x5 x6 x7 x8 x9 false xp;go_enter Tryz.func30,Tryz.ntmps30;go_upto_region 1 with (fail)
 generalize ((w.alloc (.cells #[.string x0,.string x1,.string x2,.string x3,.string x4,.string x5,.string x6,.string x7,.string x8,.string x9,.bool false,.bool xp] 46)).alloc (.cells #[.string ⟨#[]⟩,.string ⟨#[]⟩,.string ⟨#[]⟩,.string ⟨#[]⟩,.string ⟨#[]⟩,.string ⟨#[]⟩,.string ⟨#[]⟩,.string ⟨#[]⟩,.string ⟨#[]⟩,.string ⟨#[]⟩,.bool false,.bool false] 46))=W0 at H0 ⊢;go_wp2_with fail
 with_reducible refine (CPL.out _).mono ?_
 rintro e1 z1 ⟨rfl,hb⟩;have H1:=kpR H0 hb;clear hb;go_wp2_with fail
 have HD1:=drR H1;refine wp_region_noPanic ?_;refine wp_region_held_drew (S:=fun W:World=>(RX 46 W w.heap.size x0 x1 x2 x3 x4 x5 x6 x7 x8 x9 false xp∧RX 46 W (w.heap.size+1) ⟨#[]⟩ ⟨#[]⟩ ⟨#[]⟩ ⟨#[]⟩ ⟨#[]⟩ ⟨#[]⟩ ⟨#[]⟩ ⟨#[]⟩ ⟨#[]⟩ ⟨#[]⟩ false false)∧Below w.heap.size w W) (by kernel_rfl) ?_ (fun hHeld=>?_)
 ·exact HD1.out
 iterate 8
  refine zqb [0,1,2,3,4,5,6,7] rfl rfl ?_ ?_ ?_;rotate_left
  ·(intro w hSw;obtain⟨⟨hs1,hs2⟩,hsb⟩:=hSw;obtain⟨q0,q1,q2,q3,q4,q5,q6,q7,q8,q9,q10,q11⟩:=cellsR hs1;go_simp;(try with_reducible rfl))
  try simp only[Act.put,J1,J2,J3,J4,J5,J6]
 refine zqf [8] (AllReadyH.cons rfl (fun K hK=>?_) AllReadyH.nil);rw[if_pos (by rfl)];go_simp;with_reducible refine (CM.out _).mono ?_
 rintro e2 z2 ⟨rfl,hb⟩;have H2:=kpR HD1 hb;clear hb;refine hK.out _ _ ?_ (fun hHeld=>?_)
 ·exact H2.out
 clear hK K
 try simp only[Act.put,J1,J2,J3,J4,J5,J6]
 iterate 5
  refine zqb [9,10,11,12,13] rfl rfl ?_ ?_ ?_;rotate_left
  ·(intro w hSw;obtain⟨⟨hs1,hs2⟩,hsb⟩:=hSw;obtain⟨q0,q1,q2,q3,q4,q5,q6,q7,q8,q9,q10,q11⟩:=cellsR hs1;go_simp;(try with_reducible rfl))
  try simp only[Act.put,J1,J2,J3,J4,J5,J6]
 refine zqe (NoPanic.normal ?_);have H3:=zh hHeld;clear hHeld H2;go_wp2_with fail
 with_reducible refine (CU.out _).mono ?_
 rintro e4 z4 ⟨rfl,hb⟩;have H4:=kpR H3 hb;clear hb;go_wp2_with fail
 with_reducible refine (CG.out _).mono ?_
 rintro e5 z5 ⟨rfl,hb⟩;have H5:=kpR H4 hb;clear hb;have HH6:=zh (heap_alloc_new z5 (.cells #[.bool lg,.bool sp,.bool ph,.int .i64 ty,.int .u32 ve,.string dc,.string sc,.string tk,.int .u64 le,.int .i64 wi,.int .u64 nu] 104));have H6:=axR H5 (.cells #[.bool lg,.bool sp,.bool ph,.int .i64 ty,.int .u32 ve,.string dc,.string sc,.string tk,.int .u64 le,.int .i64 wi,.int .u64 nu] 104);go_upto_region 13 with (fail)
 generalize z5.alloc (.cells #[.bool lg,.bool sp,.bool ph,.int .i64 ty,.int .u32 ve,.string dc,.string sc,.string tk,.int .u64 le,.int .i64 wi,.int .u64 nu] 104)=z6 at *;generalize z5.heap.size=bh at *;have h2:z6.cell? ⟨bh,2,none⟩=some (.bool ph):=Lib.cell_of_heap HH6.out 2;have h9:z6.cell? ⟨bh,9,none⟩=some (.int .i64 wi):=Lib.cell_of_heap HH6.out 9;have h10:z6.cell? ⟨bh,10,none⟩=some (.int .u64 nu):=Lib.cell_of_heap HH6.out 10;clear H0 H1 HD1 H3 H4 H5;go_wp2_with fail
 with_reducible refine (CE.out _).mono ?_
 rintro e7 z7 ⟨rfl,hb⟩;have H7:=kpR H6 hb;have HH7:=zh ((hb.block bh (Array.getElem?_eq_some_iff.1 HH6.out).1).trans HH6.out);clear hb h2 h9 h10 HH6 H6;have h2:z7.cell? ⟨bh,2,none⟩=some (.bool ph):=Lib.cell_of_heap HH7.out 2;obtain⟨m0,m1,m2,m3,m4,m5,m6,m7,m8,m9,m10,m11⟩:=cellsR H7.out.1.1;obtain⟨r0,r1,r2,r3,r4,r5,r6,r7,r8,r9,r10,r11⟩:=cellsR H7.out.1.2;obtain⟨f0,f1,f2,f3,f4,f5,f6,f7,f8,f9,f10,f11⟩:=fz12 H7.out.1.2;go_wp2_with fail
 with_reducible refine (CO.out _).mono ?_
 rintro e8 z8 ⟨rfl,hb⟩;have H8:=kpR H7 hb;clear hb;clear m0 r0 f0 m1 r1 f1 m2 r2 f2 m3 r3 f3 m4 r4 f4 m5 r5 f5 m6 r6 f6 m7 r7 f7 m8 r8 f8 m9 r9 f9 m10 r10 f10 m11 r11 f11;obtain⟨m0,m1,m2,m3,m4,m5,m6,m7,m8,m9,m10,m11⟩:=cellsR H8.out.1.1;obtain⟨r0,r1,r2,r3,r4,r5,r6,r7,r8,r9,r10,r11⟩:=cellsR H8.out.1.2;obtain⟨f0,f1,f2,f3,f4,f5,f6,f7,f8,f9,f10,f11⟩:=fz12 H8.out.1.2;go_wp2_with fail
 have HQ:=zh (put12 H8.out.1.2 (.string x0) (.string x1) (.string x2) (.string x3) (.string x4) (.string x5) (.string x6) (.string x7) (.string x8) (.string x9) (.bool false) (.bool xp));refine bodyPost_ret (v:=.tuple #[.agg #[.string x0,.string x1,.string x2,.string x3,.string x4,.string x5,.string x6,.string x7,.string x8,.string x9,.bool false,.bool xp],.int .u64 0,.string ⟨#[]⟩,.int .i64 90]) (res_dun _ (w.heap.size+1) (.string x0) (.string x1) (.string x2) (.string x3) (.string x4) (.string x5) (.string x6) (.string x7) (.string x8) (.string x9) (.bool false) (.bool xp) _ _ _ _ ?_ ?_ ?_ ?_ ?_) ?_ ⟨rfl,?_⟩
 ·rfl
 ·rfl
 ·rfl
 ·rfl
 ·first|exact HQ.out|exact heap_drew HQ.out
 ·rfl
 ·first|exact below12 H8.out.2 (by omega) _ _ _ _ _ _ _ _ _ _ _ _|exact (below12 H8.out.2 (by omega) _ _ _ _ _ _ _ _ _ _ _ _).drew
theorem dun_new_turn(x0 x1 x2 x3 x4 x5 x6 x7 x8 x9 TT SM MK BR SL HEAD P na ka va:ByteArray)(xp any:Bool)(lg sp ph:Bool)(ty ve:Int)(dc sc tk:ByteArray)(le wi nu:Int)(p n num:Nat)(h0:0<TT.size)(hbig:TT[0].toNat<128)(hs:p+20≤TT.size)(hz:TT.size≤100000)(hsm:TT.extract (p+4) (p+20)=SM)(hSL:SL.size+n=BR.size)(hBR:BR.size≤1000000)(hHD:BR.extract 0 n=HEAD)(hph:(ph==xp)=false)(largest:Nat)(w:World)
 (CPL:Hid (∀W:World,Calls Tryz.prog 65 #[.string TT] W fun e w'=>e=.returned (.tuple #[.int .i64 p,.int .i64 0])∧Below W.heap.size W w'))
 (CM:Hid (∀W:World,Calls Tryz.prog 20 #[.agg #[.string x4,.string x5,.string x6],.string SM] W fun e w'=>e=.returned (.tuple #[.string MK,.int .i64 0])∧Below W.heap.size W w'))
 (CU:Hid (∀W:World,Calls Tryz.prog 66 #[.string TT,.string MK] W fun e w'=>e=.returned (.tuple #[.string BR,.int .i64 0])∧Below W.heap.size W w'))
 (CG:Hid (∀W:World,Calls Tryz.prog 67 #[.string BR] W fun e w'=>e=.returned (.tuple #[.agg #[.bool lg,.bool sp,.bool ph,.int .i64 ty,.int .u32 ve,.string dc,.string sc,.string tk,.int .u64 le,.int .i64 wi,.int .u64 nu],.string SL,.int .i64 0])∧Below W.heap.size W w'))
 (CE:Hid (∀W:World,Calls Tryz.prog 68 #[.int .u64 largest,.bool any,.int .u64 nu,.int .i64 wi] W fun e w'=>e=.returned (.int .u64 num)∧Below W.heap.size W w'))
 (CO:Hid (∀W:World,Calls Tryz.prog 18 #[.agg #[.string x7,.string x8,.string x9],.int .u64 num,.string HEAD,.string SL] W fun e w'=>e=.returned (.tuple #[.string P,.int .i64 0])∧Below W.heap.size W w'))
 (CT:Hid (∀W:World,Calls Tryz.prog 26 #[.agg #[.string x0,.string x1,.string x2,.string x3,.string x4,.string x5,.string x6,.string x7,.string x8,.string x9,.bool false,.bool xp]] W fun e w'=>e=.returned (.agg #[.string na,.string x4,.string x5,.string x6,.string x7,.string x8,.string x6,.string ka,.string va,.string x6,.bool true,.bool (!xp)])∧Below W.heap.size W w')) :
 Calls Tryz.prog 30 #[.agg #[.string x0,.string x1,.string x2,.string x3,.string x4,.string x5,.string x6,.string x7,.string x8,.string x9,.bool false,.bool xp],.int .u64 largest,.bool any,.string TT] w fun e w'=>e=.returned (.tuple #[.agg #[.string na,.string x4,.string x5,.string x6,.string x7,.string x8,.string x6,.string ka,.string va,.string x6,.bool true,.bool (!xp)],.int .u64 num,.string P,.int .i64 0])∧Below w.heap.size w w':=by
 have hph2:¬ph=xp:=by intro h;subst h;simp at hph
 have h0I:(0:Int)<(TT.size:Int):=by omega
 have hgI:¬(TT[0].toNat:Int)≥128:=by omega
 have hsI:¬(TT.size:Int)<(p:Int)+20:=by omega
 have hpI:(p:Int)+20≤(TT.size:Int):=by omega
 have hzI:(TT.size:Int)≤100000:=by omega
 obtain⟨q4,hq4⟩:∃q,p+4=q:=⟨_,rfl⟩;obtain⟨q20,hq20⟩:∃q,p+20=q:=⟨_,rfl⟩;rw[hq4,hq20]at hsm;have hp4:(q4:Int)≤(q20:Int):=by omega
 have hp5:(q20:Int)≤(TT.size:Int):=by omega
 have hw4:IntKind.i64.wrap ((p:Int)+4)=(q4:Int):=by rw[IntWalk.i64_in _ (by omega)];omega
 have hw20:IntKind.i64.wrap ((p:Int)+20)=(q20:Int):=by rw[IntWalk.i64_in _ (by omega)];omega
 have hn1:(BR.size:Int)-(SL.size:Int)=(n:Int):=by omega
 have hn2:IntKind.i64.wrap ((BR.size:Int)-(SL.size:Int))=(n:Int):=by rw[IntWalk.i64_in _ (by omega)];exact hn1
 have hn3:(n:Int)≤(BR.size:Int):=by omega
 have hn4:(0:Int)≤(n:Int):=by omega
 have hSLI:(SL.size:Int)≤1000000:=by omega
 have hBRI:(BR.size:Int)≤1000000:=by omega
 have H0:=ntR w x0 x1 x2 x3 x4 x5 x6 x7 x8 x9 false xp;go_enter Tryz.func30,Tryz.ntmps30;go_upto_region 1 with (fail)
 generalize ((w.alloc (.cells #[.string x0,.string x1,.string x2,.string x3,.string x4,.string x5,.string x6,.string x7,.string x8,.string x9,.bool false,.bool xp] 46)).alloc (.cells #[.string ⟨#[]⟩,.string ⟨#[]⟩,.string ⟨#[]⟩,.string ⟨#[]⟩,.string ⟨#[]⟩,.string ⟨#[]⟩,.string ⟨#[]⟩,.string ⟨#[]⟩,.string ⟨#[]⟩,.string ⟨#[]⟩,.bool false,.bool false] 46))=W0 at H0 ⊢;go_wp2_with fail
 with_reducible refine (CPL.out _).mono ?_
 rintro e1 z1 ⟨rfl,hb⟩;have H1:=kpR H0 hb;clear hb;go_wp2_with fail
 have HD1:=drR H1;refine wp_region_noPanic ?_;refine wp_region_held_drew (S:=fun W:World=>(RX 46 W w.heap.size x0 x1 x2 x3 x4 x5 x6 x7 x8 x9 false xp∧RX 46 W (w.heap.size+1) ⟨#[]⟩ ⟨#[]⟩ ⟨#[]⟩ ⟨#[]⟩ ⟨#[]⟩ ⟨#[]⟩ ⟨#[]⟩ ⟨#[]⟩ ⟨#[]⟩ ⟨#[]⟩ false false)∧Below w.heap.size w W) (by kernel_rfl) ?_ (fun hHeld=>?_)
 ·exact HD1.out
 iterate 8
  refine zqb [0,1,2,3,4,5,6,7] rfl rfl ?_ ?_ ?_;rotate_left
  ·(intro w hSw;obtain⟨⟨hs1,hs2⟩,hsb⟩:=hSw;obtain⟨q0,q1,q2,q3,q4,q5,q6,q7,q8,q9,q10,q11⟩:=cellsR hs1;go_simp;(try with_reducible rfl))
  try simp only[Act.put,J1,J2,J3,J4,J5,J6]
 refine zqf [8] (AllReadyH.cons rfl (fun K hK=>?_) AllReadyH.nil);rw[if_pos (by rfl)];go_simp;with_reducible refine (CM.out _).mono ?_
 rintro e2 z2 ⟨rfl,hb⟩;have H2:=kpR HD1 hb;clear hb;refine hK.out _ _ ?_ (fun hHeld=>?_)
 ·exact H2.out
 clear hK K
 try simp only[Act.put,J1,J2,J3,J4,J5,J6]
 iterate 5
  refine zqb [9,10,11,12,13] rfl rfl ?_ ?_ ?_;rotate_left
  ·(intro w hSw;obtain⟨⟨hs1,hs2⟩,hsb⟩:=hSw;obtain⟨q0,q1,q2,q3,q4,q5,q6,q7,q8,q9,q10,q11⟩:=cellsR hs1;go_simp;(try with_reducible rfl))
  try simp only[Act.put,J1,J2,J3,J4,J5,J6]
 refine zqe (NoPanic.normal ?_);have H3:=zh hHeld;clear hHeld H2;go_wp2_with fail
 with_reducible refine (CU.out _).mono ?_
 rintro e4 z4 ⟨rfl,hb⟩;have H4:=kpR H3 hb;clear hb;go_wp2_with fail
 with_reducible refine (CG.out _).mono ?_
 rintro e5 z5 ⟨rfl,hb⟩;have H5:=kpR H4 hb;clear hb;have HH6:=zh (heap_alloc_new z5 (.cells #[.bool lg,.bool sp,.bool ph,.int .i64 ty,.int .u32 ve,.string dc,.string sc,.string tk,.int .u64 le,.int .i64 wi,.int .u64 nu] 104));have H6:=axR H5 (.cells #[.bool lg,.bool sp,.bool ph,.int .i64 ty,.int .u32 ve,.string dc,.string sc,.string tk,.int .u64 le,.int .i64 wi,.int .u64 nu] 104);go_upto_region 13 with (fail)
 generalize z5.alloc (.cells #[.bool lg,.bool sp,.bool ph,.int .i64 ty,.int .u32 ve,.string dc,.string sc,.string tk,.int .u64 le,.int .i64 wi,.int .u64 nu] 104)=z6 at *;generalize z5.heap.size=bh at *;have h2:z6.cell? ⟨bh,2,none⟩=some (.bool ph):=Lib.cell_of_heap HH6.out 2;have h9:z6.cell? ⟨bh,9,none⟩=some (.int .i64 wi):=Lib.cell_of_heap HH6.out 9;have h10:z6.cell? ⟨bh,10,none⟩=some (.int .u64 nu):=Lib.cell_of_heap HH6.out 10;clear H0 H1 HD1 H3 H4 H5;go_wp2_with fail
 with_reducible refine (CE.out _).mono ?_
 rintro e7 z7 ⟨rfl,hb⟩;have H7:=kpR H6 hb;have HH7:=zh ((hb.block bh (Array.getElem?_eq_some_iff.1 HH6.out).1).trans HH6.out);clear hb h2 h9 h10 HH6 H6;have h2:z7.cell? ⟨bh,2,none⟩=some (.bool ph):=Lib.cell_of_heap HH7.out 2;obtain⟨m0,m1,m2,m3,m4,m5,m6,m7,m8,m9,m10,m11⟩:=cellsR H7.out.1.1;obtain⟨r0,r1,r2,r3,r4,r5,r6,r7,r8,r9,r10,r11⟩:=cellsR H7.out.1.2;obtain⟨f0,f1,f2,f3,f4,f5,f6,f7,f8,f9,f10,f11⟩:=fz12 H7.out.1.2;go_wp2_with fail
 with_reducible refine (CO.out _).mono ?_
 rintro e8 z8 ⟨rfl,hb⟩;have H8:=kpR H7 hb;clear hb;clear m0 r0 f0 m1 r1 f1 m2 r2 f2 m3 r3 f3 m4 r4 f4 m5 r5 f5 m6 r6 f6 m7 r7 f7 m8 r8 f8 m9 r9 f9 m10 r10 f10 m11 r11 f11;obtain⟨m0,m1,m2,m3,m4,m5,m6,m7,m8,m9,m10,m11⟩:=cellsR H8.out.1.1;obtain⟨r0,r1,r2,r3,r4,r5,r6,r7,r8,r9,r10,r11⟩:=cellsR H8.out.1.2;obtain⟨f0,f1,f2,f3,f4,f5,f6,f7,f8,f9,f10,f11⟩:=fz12 H8.out.1.2;go_wp2_with fail
 with_reducible refine (CT.out _).mono ?_
 rintro e9 z9 ⟨rfl,hb⟩;have H9:=kpR H8 hb;clear hb;clear m0 r0 f0 m1 r1 f1 m2 r2 f2 m3 r3 f3 m4 r4 f4 m5 r5 f5 m6 r6 f6 m7 r7 f7 m8 r8 f8 m9 r9 f9 m10 r10 f10 m11 r11 f11;obtain⟨r0,r1,r2,r3,r4,r5,r6,r7,r8,r9,r10,r11⟩:=cellsR H9.out.1.2;obtain⟨f0,f1,f2,f3,f4,f5,f6,f7,f8,f9,f10,f11⟩:=fz12 H9.out.1.2;go_wp2_with fail
 have HQ:=zh (put12 H9.out.1.2 (.string na) (.string x4) (.string x5) (.string x6) (.string x7) (.string x8) (.string x6) (.string ka) (.string va) (.string x6) (.bool true) (.bool (!xp)));refine bodyPost_ret (v:=.tuple #[.agg #[.string na,.string x4,.string x5,.string x6,.string x7,.string x8,.string x6,.string ka,.string va,.string x6,.bool true,.bool (!xp)],.int .u64 num,.string P,.int .i64 0]) (res_dun _ (w.heap.size+1) (.string na) (.string x4) (.string x5) (.string x6) (.string x7) (.string x8) (.string x6) (.string ka) (.string va) (.string x6) (.bool true) (.bool (!xp)) _ _ _ _ ?_ ?_ ?_ ?_ ?_) ?_ ⟨rfl,?_⟩
 ·rfl
 ·rfl
 ·rfl
 ·rfl
 ·first|exact HQ.out|exact heap_drew HQ.out
 ·rfl
 ·first|exact below12 H9.out.2 (by omega) _ _ _ _ _ _ _ _ _ _ _ _|exact (below12 H9.out.2 (by omega) _ _ _ _ _ _ _ _ _ _ _ _).drew
end Go.Proofs.YtagbkmoahflfdaaGreatDoor.Se
