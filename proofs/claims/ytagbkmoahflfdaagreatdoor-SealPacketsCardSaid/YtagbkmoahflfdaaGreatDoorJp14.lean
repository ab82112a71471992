import Derived.Test.YtagbkmoahflfdaaGreatDoorJp01
import Derived.Test.YtagbkmoahflfdaaGreatDoorJp13
set_option maxHeartbeats 8000000
set_option maxRecDepth 20000
set_option linter.unusedVariables false
set_option linter.unusedSimpArgs false
namespace Go.Proofs.YtagbkmoahflfdaaGreatDoor.Se
open Tk Go.RowKit Vm Dg Kd
structure K3 where
 k:List UInt8
 v:List UInt8
 m:List UInt8
def ofK (s:List UInt8):K3:=⟨kKey s,kIv s,kMask s⟩
def zK:K3:=⟨[],[],[]⟩
structure Sst where
 sec:List UInt8
 w:K3
 n:K3
 t:K3
 old:Bool
 phase:Bool
def newS (s:List UInt8):Sst:=⟨nxt s,zK,ofK s,{ ofK (nxt s) with m:=kMask s },false,false⟩
def turnS (s:Sst):Sst:=⟨nxt s.sec,s.n,{ s.t with m:=s.n.m },{ ofK (nxt s.sec) with m:=s.n.m },true,!s.phase⟩
def K3.V (x:K3):Value:=.agg #[.string ⟨x.k.toArray⟩,.string ⟨x.v.toArray⟩,.string ⟨x.m.toArray⟩]
def Sst.arr (s:Sst):Array Value:=#[.string ⟨s.sec.toArray⟩,.string ⟨s.w.k.toArray⟩,.string ⟨s.w.v.toArray⟩,.string ⟨s.w.m.toArray⟩,.string ⟨s.n.k.toArray⟩,.string ⟨s.n.v.toArray⟩,.string ⟨s.n.m.toArray⟩,.string ⟨s.t.k.toArray⟩,.string ⟨s.t.v.toArray⟩,.string ⟨s.t.m.toArray⟩,.bool s.old,.bool s.phase]
theorem inf_kk:(Tryz.prog.info? 29).map (·.size)=some 3:=by kernel_rfl
theorem inf_ss:(Tryz.prog.info? 43).map (·.size)=some 12:=by kernel_rfl
theorem inf_hh:(Tryz.prog.info? 95).map (·.size)=some 15:=by kernel_rfl
theorem alike_any(k v m k2 v2 m2:ByteArray)(w:World) :
 Calls Tryz.prog 50 #[.agg #[.string k,.string v,.string m],.agg #[.string k2,.string v2,.string m2]] w fun e w'=>e=.returned (.agg #[.string k2,.string v2,.string m])∧Below w.heap.size w w':=by
 go_enter Tryz.func50,Tryz.ntmps50;go_wp2_with fail
 have hz:((w.alloc (.cells #[.string k,.string v,.string m] 88)).alloc (.cells #[.string k2,.string v2,.string m] 29)).heap.size=w.heap.size+2:=by simp
 have HQ:=heap_alloc_new ((w.alloc (.cells #[.string k,.string v,.string m] 88)).alloc (.cells #[.string k2,.string v2,.string m] 29)) (.cells #[.string k2,.string v2,.string m] 29);rw[hz]at HQ;exact bodyPost_ret (v:=.agg #[.string k2,.string v2,.string m]) (results_cell_row Tryz.results50 _ _ (w.heap.size+2) _ _ _ _ rfl HQ Tryz.underlying29 rfl inf_kk) rfl ⟨rfl,(((Below.refl _ _).alloc zle _).alloc (by simp) _).alloc (by simp;omega) _⟩
theorem holderOf_any(x0 x1 x2 x3 x4 x5 x6 x7 x8 x9:ByteArray)(xo xp:Bool)(w:World) :
 Calls Tryz.prog 52 #[.agg #[.string x0,.string x1,.string x2,.string x3,.string x4,.string x5,.string x6,.string x7,.string x8,.string x9,.bool xo,.bool xp]] w fun e w'=>e=.returned (.agg #[.string x0,.string x1,.string x2,.string x3,.string x4,.string x5,.string x6,.string x7,.string x8,.string x9,.bool xo,.bool xp,.string x4,.string x5,.string x6])∧Below w.heap.size w w':=by
 go_enter Tryz.func52,Tryz.ntmps52;go_wp2_with fail
 have HQ:=heap_alloc_new (w.alloc (.cells #[.string x0,.string x1,.string x2,.string x3,.string x4,.string x5,.string x6,.string x7,.string x8,.string x9,.bool xo,.bool xp] 43)) (.cells #[.string x0,.string x1,.string x2,.string x3,.string x4,.string x5,.string x6,.string x7,.string x8,.string x9,.bool xo,.bool xp,.string x4,.string x5,.string x6] 95);rw[World.size_alloc]at HQ;exact bodyPost_ret (v:=.agg #[.string x0,.string x1,.string x2,.string x3,.string x4,.string x5,.string x6,.string x7,.string x8,.string x9,.bool xo,.bool xp,.string x4,.string x5,.string x6]) (results_cell_row Tryz.results52 _ _ (w.heap.size+1) _ _ _ _ rfl HQ Tryz.underlying95 rfl inf_hh) rfl ⟨rfl,(((Below.refl _ _).alloc zle _).alloc (by simp) _)⟩
theorem put12{W:World}{r:Nat}{T:TypeId}{a0 a1 a2 a3 a4 a5 a6 a7 a8 a9 a10 a11:Value}(h:W.heap[r]?=some (.cells #[a0,a1,a2,a3,a4,a5,a6,a7,a8,a9,a10,a11] T (0,0)))(b0 b1 b2 b3 b4 b5 b6 b7 b8 b9 b10 b11:Value) :
 ((((((((((((W.setCell ⟨r,0,none⟩ (b0)).setCell ⟨r,1,none⟩ (b1)).setCell ⟨r,2,none⟩ (b2)).setCell ⟨r,3,none⟩ (b3)).setCell ⟨r,4,none⟩ (b4)).setCell ⟨r,5,none⟩ (b5)).setCell ⟨r,6,none⟩ (b6)).setCell ⟨r,7,none⟩ (b7)).setCell ⟨r,8,none⟩ (b8)).setCell ⟨r,9,none⟩ (b9)).setCell ⟨r,10,none⟩ (b10)).setCell ⟨r,11,none⟩ (b11)).heap[r]?=some (.cells #[b0,b1,b2,b3,b4,b5,b6,b7,b8,b9,b10,b11] T (0,0)):=by
 have h0:=Joins.block_setCell (i:=0) h b0;have h1:=Joins.block_setCell (i:=1) h0 b1;have h2:=Joins.block_setCell (i:=2) h1 b2;have h3:=Joins.block_setCell (i:=3) h2 b3;have h4:=Joins.block_setCell (i:=4) h3 b4;have h5:=Joins.block_setCell (i:=5) h4 b5;have h6:=Joins.block_setCell (i:=6) h5 b6;have h7:=Joins.block_setCell (i:=7) h6 b7;have h8:=Joins.block_setCell (i:=8) h7 b8;have h9:=Joins.block_setCell (i:=9) h8 b9;have h10:=Joins.block_setCell (i:=10) h9 b10;have h11:=Joins.block_setCell (i:=11) h10 b11;rw[h11];simp
theorem other12{W:World}{r b:Nat}{o:Obj}(h:W.heap[b]?=some o)(hb:b≠r)(b0 b1 b2 b3 b4 b5 b6 b7 b8 b9 b10 b11:Value):((((((((((((W.setCell ⟨r,0,none⟩ (b0)).setCell ⟨r,1,none⟩ (b1)).setCell ⟨r,2,none⟩ (b2)).setCell ⟨r,3,none⟩ (b3)).setCell ⟨r,4,none⟩ (b4)).setCell ⟨r,5,none⟩ (b5)).setCell ⟨r,6,none⟩ (b6)).setCell ⟨r,7,none⟩ (b7)).setCell ⟨r,8,none⟩ (b8)).setCell ⟨r,9,none⟩ (b9)).setCell ⟨r,10,none⟩ (b10)).setCell ⟨r,11,none⟩ (b11)).heap[b]?=some o:=
 (Below.heap_setCell _ _ _ b hb).trans ((Below.heap_setCell _ _ _ b hb).trans ((Below.heap_setCell _ _ _ b hb).trans ((Below.heap_setCell _ _ _ b hb).trans ((Below.heap_setCell _ _ _ b hb).trans ((Below.heap_setCell _ _ _ b hb).trans ((Below.heap_setCell _ _ _ b hb).trans ((Below.heap_setCell _ _ _ b hb).trans ((Below.heap_setCell _ _ _ b hb).trans ((Below.heap_setCell _ _ _ b hb).trans ((Below.heap_setCell _ _ _ b hb).trans ((Below.heap_setCell _ _ _ b hb).trans (h))))))))))))
theorem below12{B r:Nat}{w W:World}(h:Below B w W)(hr:B≤r)(b0 b1 b2 b3 b4 b5 b6 b7 b8 b9 b10 b11:Value):Below B w ((((((((((((W.setCell ⟨r,0,none⟩ (b0)).setCell ⟨r,1,none⟩ (b1)).setCell ⟨r,2,none⟩ (b2)).setCell ⟨r,3,none⟩ (b3)).setCell ⟨r,4,none⟩ (b4)).setCell ⟨r,5,none⟩ (b5)).setCell ⟨r,6,none⟩ (b6)).setCell ⟨r,7,none⟩ (b7)).setCell ⟨r,8,none⟩ (b8)).setCell ⟨r,9,none⟩ (b9)).setCell ⟨r,10,none⟩ (b10)).setCell ⟨r,11,none⟩ (b11)):=
 (((((((((((h.setCell (p:=⟨r,0,none⟩) hr b0).setCell (p:=⟨r,1,none⟩) hr b1).setCell (p:=⟨r,2,none⟩) hr b2).setCell (p:=⟨r,3,none⟩) hr b3).setCell (p:=⟨r,4,none⟩) hr b4).setCell (p:=⟨r,5,none⟩) hr b5).setCell (p:=⟨r,6,none⟩) hr b6).setCell (p:=⟨r,7,none⟩) hr b7).setCell (p:=⟨r,8,none⟩) hr b8).setCell (p:=⟨r,9,none⟩) hr b9).setCell (p:=⟨r,10,none⟩) hr b10).setCell (p:=⟨r,11,none⟩) hr b11
theorem cells12{W:World}{r:Nat}{T:TypeId}{a0 a1 a2 a3 a4 a5 a6 a7 a8 a9 a10 a11:Value}(h:W.heap[r]?=some (.cells #[a0,a1,a2,a3,a4,a5,a6,a7,a8,a9,a10,a11] T (0,0))):W.cell? ⟨r,0,none⟩=some a0∧W.cell? ⟨r,1,none⟩=some a1∧W.cell? ⟨r,2,none⟩=some a2∧W.cell? ⟨r,3,none⟩=some a3∧W.cell? ⟨r,4,none⟩=some a4∧W.cell? ⟨r,5,none⟩=some a5∧W.cell? ⟨r,6,none⟩=some a6∧W.cell? ⟨r,7,none⟩=some a7∧W.cell? ⟨r,8,none⟩=some a8∧W.cell? ⟨r,9,none⟩=some a9∧W.cell? ⟨r,10,none⟩=some a10∧W.cell? ⟨r,11,none⟩=some a11:=
 ⟨Lib.cell_of_heap h 0,Lib.cell_of_heap h 1,Lib.cell_of_heap h 2,Lib.cell_of_heap h 3,Lib.cell_of_heap h 4,Lib.cell_of_heap h 5,Lib.cell_of_heap h 6,Lib.cell_of_heap h 7,Lib.cell_of_heap h 8,Lib.cell_of_heap h 9,Lib.cell_of_heap h 10,Lib.cell_of_heap h 11⟩
theorem fz12{W:World}{r:Nat}{T:TypeId}{cs:Array Value}(h:W.heap[r]?=some (.cells cs T (0,0))):W.frozen? ⟨r,0,none⟩=false∧W.frozen? ⟨r,1,none⟩=false∧W.frozen? ⟨r,2,none⟩=false∧W.frozen? ⟨r,3,none⟩=false∧W.frozen? ⟨r,4,none⟩=false∧W.frozen? ⟨r,5,none⟩=false∧W.frozen? ⟨r,6,none⟩=false∧W.frozen? ⟨r,7,none⟩=false∧W.frozen? ⟨r,8,none⟩=false∧W.frozen? ⟨r,9,none⟩=false∧W.frozen? ⟨r,10,none⟩=false∧W.frozen? ⟨r,11,none⟩=false:=
 ⟨Lib.frozen_of_heap h 0,Lib.frozen_of_heap h 1,Lib.frozen_of_heap h 2,Lib.frozen_of_heap h 3,Lib.frozen_of_heap h 4,Lib.frozen_of_heap h 5,Lib.frozen_of_heap h 6,Lib.frozen_of_heap h 7,Lib.frozen_of_heap h 8,Lib.frozen_of_heap h 9,Lib.frozen_of_heap h 10,Lib.frozen_of_heap h 11⟩
theorem put3{W:World}{r:Nat}{T:TypeId}{a0 a1 a2:Value}(h:W.heap[r]?=some (.cells #[a0,a1,a2] T (0,0)))(b0 b1 b2:Value):(((W.setCell ⟨r,0,none⟩ (b0)).setCell ⟨r,1,none⟩ (b1)).setCell ⟨r,2,none⟩ (b2)).heap[r]?=some (.cells #[b0,b1,b2] T (0,0)):=by
 have h0:=Joins.block_setCell (i:=0) h b0;have h1:=Joins.block_setCell (i:=1) h0 b1;have h2:=Joins.block_setCell (i:=2) h1 b2;rw[h2];simp
theorem other3{W:World}{r b:Nat}{o:Obj}(h:W.heap[b]?=some o)(hb:b≠r)(b0 b1 b2:Value):(((W.setCell ⟨r,0,none⟩ (b0)).setCell ⟨r,1,none⟩ (b1)).setCell ⟨r,2,none⟩ (b2)).heap[b]?=some o:=
 (Below.heap_setCell _ _ _ b hb).trans ((Below.heap_setCell _ _ _ b hb).trans ((Below.heap_setCell _ _ _ b hb).trans h))
theorem below3{B r:Nat}{w W:World}(h:Below B w W)(hr:B≤r)(b0 b1 b2:Value):Below B w (((W.setCell ⟨r,0,none⟩ (b0)).setCell ⟨r,1,none⟩ (b1)).setCell ⟨r,2,none⟩ (b2)):=
 ((h.setCell (p:=⟨r,0,none⟩) hr b0).setCell (p:=⟨r,1,none⟩) hr b1).setCell (p:=⟨r,2,none⟩) hr b2
def SX (W:World) (b:Nat) (x0 x1 x2 x3 x4 x5 x6 x7 x8 x9:ByteArray) (xo xp:Bool):Prop:=W.heap[b]?=some (.cells #[.string x0,.string x1,.string x2,.string x3,.string x4,.string x5,.string x6,.string x7,.string x8,.string x9,.bool xo,.bool xp] 43 (0,0))
theorem SX.lt{W:World}{b:Nat}{x0 x1 x2 x3 x4 x5 x6 x7 x8 x9:ByteArray}{xo xp:Bool}(h:SX W b x0 x1 x2 x3 x4 x5 x6 x7 x8 x9 xo xp):b<W.heap.size:=(Array.getElem?_eq_some_iff.1 h).1
theorem SX.keep{W W':World}{b B:Nat}{x0 x1 x2 x3 x4 x5 x6 x7 x8 x9:ByteArray}{xo xp:Bool}(h:SX W b x0 x1 x2 x3 x4 x5 x6 x7 x8 x9 xo xp)(hb:Below B W W')(hB:b<B):SX W' b x0 x1 x2 x3 x4 x5 x6 x7 x8 x9 xo xp:=(hb.block b hB).trans h
theorem new_walk(x k v m n k2 v2 m2:ByteArray)(w:World)
 (CO:Hid (∀W:World,Calls Tryz.prog 14 #[.string x] W fun e w'=>e=.returned (.agg #[.string k,.string v,.string m])∧Below W.heap.size W w'))
 (CN:Hid (∀W:World,Calls Tryz.prog 49 #[.string x] W fun e w'=>e=.returned (.string n)∧Below W.heap.size W w'))
 (CO2:Hid (∀W:World,Calls Tryz.prog 14 #[.string n] W fun e w'=>e=.returned (.agg #[.string k2,.string v2,.string m2])∧Below W.heap.size W w')) :
 Calls Tryz.prog 22 #[.string x] w fun e w'=>e=.returned (.agg #[.string n,.string ⟨#[]⟩,.string ⟨#[]⟩,.string ⟨#[]⟩,.string k,.string v,.string m,.string k2,.string v2,.string m,.bool false,.bool false])∧Below w.heap.size w w':=by
 have CA:=zh (fun W=>alike_any k v m k2 v2 m2 W);go_enter Tryz.func22,Tryz.ntmps22;go_wp2_with fail
 with_reducible refine (CO.out _).mono ?_
 rintro e1 w1 ⟨rfl,hb⟩;have HR1:Hid (SX w1 w.heap.size ⟨#[]⟩ ⟨#[]⟩ ⟨#[]⟩ ⟨#[]⟩ ⟨#[]⟩ ⟨#[]⟩ ⟨#[]⟩ ⟨#[]⟩ ⟨#[]⟩ ⟨#[]⟩ false false):=zh ((hb.block w.heap.size (by simp)).trans (heap_alloc_new w _));have HB1:=zh (((Below.refl w.heap.size w).alloc zle _).trans (hb.mono (by simp)));clear hb;go_wp2_with fail
 with_reducible refine (CN.out _).mono ?_
 rintro e2 w2 ⟨rfl,hb⟩;have HR2:=zh (HR1.out.keep hb HR1.out.lt);have HB2:=zh (HB1.out.trans (hb.mono HB1.out.size));clear hb;have hz:=HR2.out.lt;have HK3:Hid (KX (w2.alloc (.cells #[.string k,.string v,.string m] 88)) w2.heap.size k v m):=zh (heap_alloc_new w2 _);have HR3:=zh (HR2.out.keep ((Below.refl _ _).alloc zle (.cells #[.string k,.string v,.string m] 88)) HR2.out.lt);have HB3:=zh (HB2.out.alloc HB2.out.size (.cells #[.string k,.string v,.string m] 88));have HD0:Hid ((KX (w2.alloc (.cells #[.string k,.string v,.string m] 88)).drew w2.heap.size k v m∧SX (w2.alloc (.cells #[.string k,.string v,.string m] 88)).drew w.heap.size ⟨#[]⟩ ⟨#[]⟩ ⟨#[]⟩ ⟨#[]⟩ ⟨#[]⟩ ⟨#[]⟩ ⟨#[]⟩ ⟨#[]⟩ ⟨#[]⟩ ⟨#[]⟩ false false)∧Below w.heap.size w (w2.alloc (.cells #[.string k,.string v,.string m] 88)).drew):=zh ⟨⟨HK3.out,HR3.out⟩,HB3.out.drew⟩;go_wp2_with fail
 generalize hb3:w2.heap.size=b3 at *;have hb3:b3≠w.heap.size:=by omega
 refine wp_region_noPanic ?_;refine wp_region_held_drew (S:=fun W:World=>KX W b3 k v m∧Below w.heap.size w W) (by kernel_rfl) ?_ (fun hHeld=>?_)
 ·exact⟨HD0.out.1.1,HD0.out.2⟩
 iterate 5
  refine zqb [0,1,2,3,4] rfl rfl ?_ ?_ ?_;rotate_left
  ·(intro w hSw;obtain⟨hsk,hsb⟩:=hSw;obtain⟨q0,q1,q2⟩:=hsk.cells;go_simp;(try with_reducible rfl))
  try simp only[Act.put,J1,J2,J3,J4,J5,J6]
 refine zqf [5] (AllReadyH.cons rfl (fun K hK=>?_) AllReadyH.nil);rw[if_pos (by rfl)];go_simp;with_reducible refine (CO2.out _).mono ?_
 rintro e1 y1 ⟨rfl,hb⟩;have HS1:Hid ((KX y1 b3 k v m∧SX y1 w.heap.size ⟨#[]⟩ ⟨#[]⟩ ⟨#[]⟩ ⟨#[]⟩ ⟨#[]⟩ ⟨#[]⟩ ⟨#[]⟩ ⟨#[]⟩ ⟨#[]⟩ ⟨#[]⟩ false false)∧Below w.heap.size w y1):=zh ⟨⟨HD0.out.1.1.keep hb HD0.out.1.1.lt,HD0.out.1.2.keep hb HD0.out.1.2.lt⟩,HD0.out.2.trans (hb.mono HD0.out.2.size)⟩;clear hb;obtain⟨r0,r1,r2,r3,r4,r5,r6,r7,r8,r9,r10,r11⟩:=cells12 HS1.out.1.2;obtain⟨f0,f1,f2,f3,f4,f5,f6,f7,f8,f9,f10,f11⟩:=fz12 HS1.out.1.2;refine hK.out _ _ ?_ (fun hHeld=>?_)
 ·exact⟨HS1.out.1.1,HS1.out.2⟩
 clear hK K
 try simp only[Act.put,J1,J2,J3,J4,J5,J6]
 refine zqf [6] (AllReadyH.cons rfl (fun K hK=>?_) AllReadyH.nil);rw[if_pos (by rfl)];go_simp;with_reducible refine (CA.out _).mono ?_
 rintro e2 y2 ⟨rfl,hb⟩;have HS2:Hid ((KX y2 b3 k v m∧SX y2 w.heap.size ⟨#[]⟩ ⟨#[]⟩ ⟨#[]⟩ ⟨#[]⟩ ⟨#[]⟩ ⟨#[]⟩ ⟨#[]⟩ ⟨#[]⟩ ⟨#[]⟩ ⟨#[]⟩ false false)∧Below w.heap.size w y2):=zh ⟨⟨HS1.out.1.1.keep hb HS1.out.1.1.lt,HS1.out.1.2.keep hb HS1.out.1.2.lt⟩,HS1.out.2.trans (hb.mono HS1.out.2.size)⟩;clear hb;obtain⟨r0,r1,r2,r3,r4,r5,r6,r7,r8,r9,r10,r11⟩:=cells12 HS2.out.1.2;obtain⟨f0,f1,f2,f3,f4,f5,f6,f7,f8,f9,f10,f11⟩:=fz12 HS2.out.1.2;refine hK.out _ _ ?_ (fun hHeld=>?_)
 ·exact⟨HS2.out.1.1,HS2.out.2⟩
 clear hK K
 try simp only[Act.put,J1,J2,J3,J4,J5,J6]
 refine zqa 7 rfl ?_ ?_ ?_;rotate_left
 ·(intro w hSw;obtain⟨hsk,hsb⟩:=hSw;obtain⟨q0,q1,q2⟩:=hsk.cells;go_simp;(try with_reducible rfl))
 try simp only[Act.put,J1,J2,J3,J4,J5,J6]
 refine zqf [8] (AllReadyH.cons rfl (fun K hK=>?_) AllReadyH.nil);rw[if_pos (by rfl)];go_simp;refine hK.out _ _ ?_ (fun hHeld=>?_)
 ·exact⟨other12 HS2.out.1.1 hb3 _ _ _ _ _ _ _ _ _ _ _ _,below12 HS2.out.2 zle _ _ _ _ _ _ _ _ _ _ _ _⟩
 clear hK K
 try simp only[Act.put,J1,J2,J3,J4,J5,J6]
 refine zqe (NoPanic.normal ?_);go_wp2_with fail
 have HQ:=zh (put12 HS2.out.1.2 (.string n) (.string ⟨#[]⟩) (.string ⟨#[]⟩) (.string ⟨#[]⟩) (.string k) (.string v) (.string m) (.string k2) (.string v2) (.string m) (.bool false) (.bool false));exact bodyPost_ret (v:=.agg #[.string n,.string ⟨#[]⟩,.string ⟨#[]⟩,.string ⟨#[]⟩,.string k,.string v,.string m,.string k2,.string v2,.string m,.bool false,.bool false]) (results_cell_row Tryz.results22 _ _ (w.heap.size) _ _ _ _ rfl HQ.out Tryz.underlying43 rfl inf_ss) rfl ⟨rfl,hHeld.2⟩
def Tn (w:World) (x0 x1 x2 x3 x4 x5 x6 x7 x8 x9 n:ByteArray) (xo xp:Bool) (b3:Nat) (W:World):Prop:=((KX W b3 x4 x5 x6∧w.heap.size+1<b3)∧SX W w.heap.size x0 x1 x2 x3 x4 x5 x6 x7 x8 x9 xo xp∧SX W (w.heap.size+1) ⟨#[]⟩ ⟨#[]⟩ ⟨#[]⟩ ⟨#[]⟩ ⟨#[]⟩ ⟨#[]⟩ ⟨#[]⟩ ⟨#[]⟩ ⟨#[]⟩ ⟨#[]⟩ false false)∧Below w.heap.size w W
theorem turn_walk(x0 x1 x2 x3 x4 x5 x6 x7 x8 x9 n k2 v2 m2:ByteArray)(xo xp:Bool)(w:World)
 (CN:Hid (∀W:World,Calls Tryz.prog 49 #[.string x0] W fun e w'=>e=.returned (.string n)∧Below W.heap.size W w'))
 (CO:Hid (∀W:World,Calls Tryz.prog 14 #[.string n] W fun e w'=>e=.returned (.agg #[.string k2,.string v2,.string m2])∧Below W.heap.size W w')) :
 Calls Tryz.prog 25 #[.agg #[.string x0,.string x1,.string x2,.string x3,.string x4,.string x5,.string x6,.string x7,.string x8,.string x9,.bool xo,.bool xp]] w fun e w'=>e=.returned (.agg #[.string n,.string x4,.string x5,.string x6,.string x7,.string x8,.string x6,.string k2,.string v2,.string x6,.bool true,.bool (!xp)])∧Below w.heap.size w w':=by
 have CA1:=zh (fun W=>alike_any x4 x5 x6 x7 x8 x9 W);have CA2:=zh (fun W=>alike_any x4 x5 x6 k2 v2 m2 W)
 have HE0:Hid ((SX ((w.alloc (.cells #[.string x0,.string x1,.string x2,.string x3,.string x4,.string x5,.string x6,.string x7,.string x8,.string x9,.bool xo,.bool xp] 43)).alloc (.cells #[.string ⟨#[]⟩,.string ⟨#[]⟩,.string ⟨#[]⟩,.string ⟨#[]⟩,.string ⟨#[]⟩,.string ⟨#[]⟩,.string ⟨#[]⟩,.string ⟨#[]⟩,.string ⟨#[]⟩,.string ⟨#[]⟩,.bool false,.bool false] 43)) w.heap.size x0 x1 x2 x3 x4 x5 x6 x7 x8 x9 xo xp∧SX ((w.alloc (.cells #[.string x0,.string x1,.string x2,.string x3,.string x4,.string x5,.string x6,.string x7,.string x8,.string x9,.bool xo,.bool xp] 43)).alloc (.cells #[.string ⟨#[]⟩,.string ⟨#[]⟩,.string ⟨#[]⟩,.string ⟨#[]⟩,.string ⟨#[]⟩,.string ⟨#[]⟩,.string ⟨#[]⟩,.string ⟨#[]⟩,.string ⟨#[]⟩,.string ⟨#[]⟩,.bool false,.bool false] 43)) (w.heap.size+1) ⟨#[]⟩ ⟨#[]⟩ ⟨#[]⟩ ⟨#[]⟩ ⟨#[]⟩ ⟨#[]⟩ ⟨#[]⟩ ⟨#[]⟩ ⟨#[]⟩ ⟨#[]⟩ false false)∧Below w.heap.size w ((w.alloc (.cells #[.string x0,.string x1,.string x2,.string x3,.string x4,.string x5,.string x6,.string x7,.string x8,.string x9,.bool xo,.bool xp] 43)).alloc (.cells #[.string ⟨#[]⟩,.string ⟨#[]⟩,.string ⟨#[]⟩,.string ⟨#[]⟩,.string ⟨#[]⟩,.string ⟨#[]⟩,.string ⟨#[]⟩,.string ⟨#[]⟩,.string ⟨#[]⟩,.string ⟨#[]⟩,.bool false,.bool false] 43))):=zh ⟨⟨(Below.heap_alloc _ _ w.heap.size (by simp)).trans (heap_alloc_new w _),by
  have h:=heap_alloc_new (w.alloc (.cells #[.string x0,.string x1,.string x2,.string x3,.string x4,.string x5,.string x6,.string x7,.string x8,.string x9,.bool xo,.bool xp] 43)) (.cells #[.string ⟨#[]⟩,.string ⟨#[]⟩,.string ⟨#[]⟩,.string ⟨#[]⟩,.string ⟨#[]⟩,.string ⟨#[]⟩,.string ⟨#[]⟩,.string ⟨#[]⟩,.string ⟨#[]⟩,.string ⟨#[]⟩,.bool false,.bool false] 43)
  rwa[World.size_alloc]at h⟩,((Below.refl _ _).alloc zle _).alloc (by simp) _⟩
 go_enter Tryz.func25,Tryz.ntmps25;go_upto_region 1 with (fail)
 generalize ((w.alloc (.cells #[.string x0,.string x1,.string x2,.string x3,.string x4,.string x5,.string x6,.string x7,.string x8,.string x9,.bool xo,.bool xp] 43)).alloc (.cells #[.string ⟨#[]⟩,.string ⟨#[]⟩,.string ⟨#[]⟩,.string ⟨#[]⟩,.string ⟨#[]⟩,.string ⟨#[]⟩,.string ⟨#[]⟩,.string ⟨#[]⟩,.string ⟨#[]⟩,.string ⟨#[]⟩,.bool false,.bool false] 43))=W0 at HE0 ⊢;have HE:Hid ((SX W0.drew w.heap.size x0 x1 x2 x3 x4 x5 x6 x7 x8 x9 xo xp∧SX W0.drew (w.heap.size+1) ⟨#[]⟩ ⟨#[]⟩ ⟨#[]⟩ ⟨#[]⟩ ⟨#[]⟩ ⟨#[]⟩ ⟨#[]⟩ ⟨#[]⟩ ⟨#[]⟩ ⟨#[]⟩ false false)∧Below w.heap.size w W0.drew):=zh ⟨HE0.out.1,HE0.out.2.drew⟩;obtain⟨q0,q1,q2,q3,q4,q5,q6,q7,q8,q9,q10,q11⟩:=cells12 HE0.out.1.1
 go_cut [3,4] from 5 to 10 (fun v3 v4 W=>∃b3:Nat,v3=.pointer (some ⟨b3,0,none⟩)∧v4=.string n∧Tn w x0 x1 x2 x3 x4 x5 x6 x7 x8 x9 n xo xp b3 W)
 case first=>
  refine wp_region_noPanic ?_;refine wp_region_held_drew (S:=fun W:World=>(SX W w.heap.size x0 x1 x2 x3 x4 x5 x6 x7 x8 x9 xo xp∧SX W (w.heap.size+1) ⟨#[]⟩ ⟨#[]⟩ ⟨#[]⟩ ⟨#[]⟩ ⟨#[]⟩ ⟨#[]⟩ ⟨#[]⟩ ⟨#[]⟩ ⟨#[]⟩ ⟨#[]⟩ false false)∧Below w.heap.size w W) (by kernel_rfl) ?_ (fun hHeld=>?_)
  ·exact HE.out
  iterate 5
   refine zqb [0,1,2,3,4] rfl rfl ?_ ?_ ?_;rotate_left
   ·(intro w hSw;obtain⟨⟨hs1,hs2⟩,hsb⟩:=hSw;obtain⟨q0,q1,q2,q3,q4,q5,q6,q7,q8,q9,q10,q11⟩:=cells12 hs1;go_simp;(try with_reducible rfl))
   try simp only[Act.put,J1,J2,J3,J4,J5,J6]
  refine zqf [5,6] ?_;refine AllReadyH.cons rfl (fun K hK=>?_) (AllReadyH.cons rfl (fun K hK=>?_) AllReadyH.nil)
  ·rw[if_pos (by rfl)]
   go_simp;with_reducible refine (CN.out _).mono ?_
   rintro e1 y1 ⟨rfl,hb⟩;have HCy:Hid ((SX y1 w.heap.size x0 x1 x2 x3 x4 x5 x6 x7 x8 x9 xo xp∧SX y1 (w.heap.size+1) ⟨#[]⟩ ⟨#[]⟩ ⟨#[]⟩ ⟨#[]⟩ ⟨#[]⟩ ⟨#[]⟩ ⟨#[]⟩ ⟨#[]⟩ ⟨#[]⟩ ⟨#[]⟩ false false)∧Below w.heap.size w y1):=zh ⟨⟨HE.out.1.1.keep hb HE.out.1.1.lt,HE.out.1.2.keep hb HE.out.1.2.lt⟩,HE.out.2.trans (hb.mono HE.out.2.size)⟩;have HBY:=zh hb;clear hb;refine hK.out _ _ ?_ (fun hHeld=>?_)
   ·exact HCy.out
   clear hK K
   try simp only[Act.put,J1,J2,J3,J4,J5,J6]
   refine zqf [6] (AllReadyH.cons rfl (fun K hK=>?_) AllReadyH.nil);rw[if_pos (by rfl)];go_simp;refine hK.out _ _ ?_ (fun hHeld=>?_)
   ·exact⟨⟨HCy.out.1.1.keep ((Below.refl _ _).alloc zle _) HCy.out.1.1.lt,HCy.out.1.2.keep ((Below.refl _ _).alloc zle _) HCy.out.1.2.lt⟩,HCy.out.2.alloc HCy.out.2.size _⟩
   clear hK K
   try simp only[Act.put,J1,J2,J3,J4,J5,J6]
   refine zqf [7] (AllReadyH.cons rfl (fun K hK=>?_) AllReadyH.nil);rw[if_pos (by rfl)];go_simp;refine hK.out _ _ ?_ (fun hHeld=>?_)
   ·exact⟨⟨HCy.out.1.1.keep ((Below.refl _ _).alloc zle _) HCy.out.1.1.lt,HCy.out.1.2.keep ((Below.refl _ _).alloc zle _) HCy.out.1.2.lt⟩,HCy.out.2.alloc HCy.out.2.size _⟩
   clear hK K
   try simp only[Act.put,J1,J2,J3,J4,J5,J6]
   refine zqa 8 rfl ?_ ?_ ?_;rotate_left
   ·(intro w hSw;obtain⟨⟨hs1,hs2⟩,hsb⟩:=hSw;obtain⟨q0,q1,q2,q3,q4,q5,q6,q7,q8,q9,q10,q11⟩:=cells12 hs1;go_simp;(try with_reducible rfl))
   try simp only[Act.put,J1,J2,J3,J4,J5,J6]
   refine zqe (NoPanic.normal ?_);go_wp2_with fail
   go_meet
   case rel=>exact⟨_,rfl,rfl,⟨⟨heap_alloc_new _ _,by have:=HCy.out.1.2.lt;omega⟩,hHeld.1.1,hHeld.1.2⟩,hHeld.2⟩
  ·rw[if_pos (by rfl)]
   go_simp;have HAL:Hid ((SX (W0.drew.alloc (.cells #[.string ⟨#[]⟩,.string ⟨#[]⟩,.string ⟨#[]⟩] 88)) w.heap.size x0 x1 x2 x3 x4 x5 x6 x7 x8 x9 xo xp∧SX (W0.drew.alloc (.cells #[.string ⟨#[]⟩,.string ⟨#[]⟩,.string ⟨#[]⟩] 88)) (w.heap.size+1) ⟨#[]⟩ ⟨#[]⟩ ⟨#[]⟩ ⟨#[]⟩ ⟨#[]⟩ ⟨#[]⟩ ⟨#[]⟩ ⟨#[]⟩ ⟨#[]⟩ ⟨#[]⟩ false false)∧Below w.heap.size w (W0.drew.alloc (.cells #[.string ⟨#[]⟩,.string ⟨#[]⟩,.string ⟨#[]⟩] 88))):=zh ⟨⟨HE.out.1.1.keep ((Below.refl _ _).alloc zle _) HE.out.1.1.lt,HE.out.1.2.keep ((Below.refl _ _).alloc zle _) HE.out.1.2.lt⟩,HE.out.2.alloc HE.out.2.size _⟩;have HKZ:Hid (KX (W0.drew.alloc (.cells #[.string ⟨#[]⟩,.string ⟨#[]⟩,.string ⟨#[]⟩] 88)) W0.heap.size ⟨#[]⟩ ⟨#[]⟩ ⟨#[]⟩):=zh (heap_alloc_new _ _);refine hK.out _ _ ?_ (fun hHeld=>?_)
   ·exact HAL.out
   clear hK K
   try simp only[Act.put,J1,J2,J3,J4,J5,J6]
   refine zqf [5] (AllReadyH.cons rfl (fun K hK=>?_) AllReadyH.nil);rw[if_pos (by rfl)];go_simp;with_reducible refine (CN.out _).mono ?_
   rintro e1 y1 ⟨rfl,hb⟩;have HCy:Hid ((SX y1 w.heap.size x0 x1 x2 x3 x4 x5 x6 x7 x8 x9 xo xp∧SX y1 (w.heap.size+1) ⟨#[]⟩ ⟨#[]⟩ ⟨#[]⟩ ⟨#[]⟩ ⟨#[]⟩ ⟨#[]⟩ ⟨#[]⟩ ⟨#[]⟩ ⟨#[]⟩ ⟨#[]⟩ false false)∧Below w.heap.size w y1):=zh ⟨⟨HAL.out.1.1.keep hb HAL.out.1.1.lt,HAL.out.1.2.keep hb HAL.out.1.2.lt⟩,HAL.out.2.trans (hb.mono HAL.out.2.size)⟩;have HBY:=zh hb;clear hb;have HKY:=zh (HKZ.out.keep HBY.out HKZ.out.lt);obtain⟨c0,c1,c2⟩:=HKY.out.cells;have f0:y1.frozen? ⟨W0.heap.size,0,none⟩=false:=Lib.frozen_of_heap HKY.out 0;have f1:y1.frozen? ⟨W0.heap.size,1,none⟩=false:=Lib.frozen_of_heap HKY.out 1;have f2:y1.frozen? ⟨W0.heap.size,2,none⟩=false:=Lib.frozen_of_heap HKY.out 2;refine hK.out _ _ ?_ (fun hHeld=>?_)
   ·exact HCy.out
   clear hK K
   try simp only[Act.put,J1,J2,J3,J4,J5,J6]
   refine zqf [7] (AllReadyH.cons rfl (fun K hK=>?_) AllReadyH.nil);rw[if_pos (by rfl)];go_simp;refine hK.out _ _ ?_ (fun hHeld=>?_)
   ·exact⟨⟨other3 HCy.out.1.1 (by have:=HE0.out.1.2.lt;omega) _ _ _,other3 HCy.out.1.2 (by have:=HE0.out.1.2.lt;omega) _ _ _⟩,below3 HCy.out.2 (by have:=HE0.out.1.2.lt;omega) _ _ _⟩
   clear hK K
   try simp only[Act.put,J1,J2,J3,J4,J5,J6]
   refine zqa 8 rfl ?_ ?_ ?_;rotate_left
   ·(intro w hSw;obtain⟨⟨hs1,hs2⟩,hsb⟩:=hSw;obtain⟨q0,q1,q2,q3,q4,q5,q6,q7,q8,q9,q10,q11⟩:=cells12 hs1;go_simp;(try with_reducible rfl))
   try simp only[Act.put,J1,J2,J3,J4,J5,J6]
   refine zqe (NoPanic.normal ?_);go_wp2_with fail
   go_meet
   case rel=>exact⟨_,rfl,rfl,⟨⟨put3 HKY.out _ _ _,by have:=HE0.out.1.2.lt;omega⟩,hHeld.1.1,hHeld.1.2⟩,hHeld.2⟩
 case rest=>
  obtain⟨b3,rfl,rfl,hT,hbt⟩:=hcut;have HD0:Hid (((KX wc.drew b3 x4 x5 x6∧w.heap.size+1<b3)∧SX wc.drew w.heap.size x0 x1 x2 x3 x4 x5 x6 x7 x8 x9 xo xp∧SX wc.drew (w.heap.size+1) ⟨#[]⟩ ⟨#[]⟩ ⟨#[]⟩ ⟨#[]⟩ ⟨#[]⟩ ⟨#[]⟩ ⟨#[]⟩ ⟨#[]⟩ ⟨#[]⟩ ⟨#[]⟩ false false)∧Below w.heap.size w wc.drew):=zh ⟨hT,hbt.drew⟩;have hb3:=hT.1.2;have hb31:b3≠w.heap.size+1:=by omega
  clear hT hbt HE HE0;go_wp2_with fail
  refine wp_region_noPanic ?_;refine wp_region_held_drew (S:=fun W:World=>(KX W b3 x4 x5 x6∧SX W w.heap.size x0 x1 x2 x3 x4 x5 x6 x7 x8 x9 xo xp)∧Below w.heap.size w W) (by kernel_rfl) ?_ (fun hHeld=>?_)
  ·exact⟨⟨HD0.out.1.1.1,HD0.out.1.2.1⟩,HD0.out.2⟩
  iterate 11
   refine zqb [0,1,2,3,4,5,7,8,11,12,13] rfl rfl ?_ ?_ ?_;rotate_left
   ·(intro w hSw;obtain⟨⟨hsk,hsx⟩,hsb⟩:=hSw;obtain⟨k0,k1,k2⟩:=hsk.cells;obtain⟨q0,q1,q2,q3,q4,q5,q6,q7,q8,q9,q10,q11⟩:=cells12 hsx;go_simp;(try with_reducible rfl))
   try simp only[Act.put,J1,J2,J3,J4,J5,J6]
  refine zqf [6] (AllReadyH.cons rfl (fun K hK=>?_) AllReadyH.nil);rw[if_pos (by rfl)];go_simp;with_reducible refine (CA1.out _).mono ?_
  rintro e1 y1 ⟨rfl,hb⟩;have HS1:Hid (((KX y1 b3 x4 x5 x6∧w.heap.size+1<b3)∧SX y1 w.heap.size x0 x1 x2 x3 x4 x5 x6 x7 x8 x9 xo xp∧SX y1 (w.heap.size+1) ⟨#[]⟩ ⟨#[]⟩ ⟨#[]⟩ ⟨#[]⟩ ⟨#[]⟩ ⟨#[]⟩ ⟨#[]⟩ ⟨#[]⟩ ⟨#[]⟩ ⟨#[]⟩ false false)∧Below w.heap.size w y1):=zh ⟨⟨⟨HD0.out.1.1.1.keep hb HD0.out.1.1.1.lt,HD0.out.1.1.2⟩,HD0.out.1.2.1.keep hb HD0.out.1.2.1.lt,HD0.out.1.2.2.keep hb HD0.out.1.2.2.lt⟩,HD0.out.2.trans (hb.mono HD0.out.2.size)⟩;clear hb;refine hK.out _ _ ?_ (fun hHeld=>?_)
  ·exact⟨⟨HS1.out.1.1.1,HS1.out.1.2.1⟩,HS1.out.2⟩
  clear hK K
  try simp only[Act.put,J1,J2,J3,J4,J5,J6]
  refine zqf [9] (AllReadyH.cons rfl (fun K hK=>?_) AllReadyH.nil);rw[if_pos (by rfl)];go_simp;with_reducible refine (CO.out _).mono ?_
  rintro e2 y2 ⟨rfl,hb⟩;have HS2:Hid (((KX y2 b3 x4 x5 x6∧w.heap.size+1<b3)∧SX y2 w.heap.size x0 x1 x2 x3 x4 x5 x6 x7 x8 x9 xo xp∧SX y2 (w.heap.size+1) ⟨#[]⟩ ⟨#[]⟩ ⟨#[]⟩ ⟨#[]⟩ ⟨#[]⟩ ⟨#[]⟩ ⟨#[]⟩ ⟨#[]⟩ ⟨#[]⟩ ⟨#[]⟩ false false)∧Below w.heap.size w y2):=zh ⟨⟨⟨HS1.out.1.1.1.keep hb HS1.out.1.1.1.lt,HS1.out.1.1.2⟩,HS1.out.1.2.1.keep hb HS1.out.1.2.1.lt,HS1.out.1.2.2.keep hb HS1.out.1.2.2.lt⟩,HS1.out.2.trans (hb.mono HS1.out.2.size)⟩;clear hb;refine hK.out _ _ ?_ (fun hHeld=>?_)
  ·exact⟨⟨HS2.out.1.1.1,HS2.out.1.2.1⟩,HS2.out.2⟩
  clear hK K
  try simp only[Act.put,J1,J2,J3,J4,J5,J6]
  refine zqf [10] (AllReadyH.cons rfl (fun K hK=>?_) AllReadyH.nil);rw[if_pos (by rfl)];go_simp;with_reducible refine (CA2.out _).mono ?_
  rintro e3 y3 ⟨rfl,hb⟩;have HS3:Hid (((KX y3 b3 x4 x5 x6∧w.heap.size+1<b3)∧SX y3 w.heap.size x0 x1 x2 x3 x4 x5 x6 x7 x8 x9 xo xp∧SX y3 (w.heap.size+1) ⟨#[]⟩ ⟨#[]⟩ ⟨#[]⟩ ⟨#[]⟩ ⟨#[]⟩ ⟨#[]⟩ ⟨#[]⟩ ⟨#[]⟩ ⟨#[]⟩ ⟨#[]⟩ false false)∧Below w.heap.size w y3):=zh ⟨⟨⟨HS2.out.1.1.1.keep hb HS2.out.1.1.1.lt,HS2.out.1.1.2⟩,HS2.out.1.2.1.keep hb HS2.out.1.2.1.lt,HS2.out.1.2.2.keep hb HS2.out.1.2.2.lt⟩,HS2.out.2.trans (hb.mono HS2.out.2.size)⟩;clear hb;obtain⟨r0,r1,r2,r3,r4,r5,r6,r7,r8,r9,r10,r11⟩:=cells12 HS3.out.1.2.2;obtain⟨f0,f1,f2,f3,f4,f5,f6,f7,f8,f9,f10,f11⟩:=fz12 HS3.out.1.2.2;refine hK.out _ _ ?_ (fun hHeld=>?_)
  ·exact⟨⟨HS3.out.1.1.1,HS3.out.1.2.1⟩,HS3.out.2⟩
  clear hK K
  try simp only[Act.put,J1,J2,J3,J4,J5,J6]
  refine zqa 14 rfl ?_ ?_ ?_;rotate_left
  ·(intro w hSw;obtain⟨⟨hsk,hsx⟩,hsb⟩:=hSw;obtain⟨k0,k1,k2⟩:=hsk.cells;obtain⟨q0,q1,q2,q3,q4,q5,q6,q7,q8,q9,q10,q11⟩:=cells12 hsx;go_simp;(try with_reducible rfl))
  try simp only[Act.put,J1,J2,J3,J4,J5,J6]
  refine zqf [15] (AllReadyH.cons rfl (fun K hK=>?_) AllReadyH.nil);rw[if_pos (by rfl)];go_simp;refine hK.out _ _ ?_ (fun hHeld=>?_)
  ·exact⟨⟨other12 HS3.out.1.1.1 hb31 _ _ _ _ _ _ _ _ _ _ _ _,other12 HS3.out.1.2.1 (by omega) _ _ _ _ _ _ _ _ _ _ _ _⟩,below12 HS3.out.2 (by omega) _ _ _ _ _ _ _ _ _ _ _ _⟩
  clear hK K
  try simp only[Act.put,J1,J2,J3,J4,J5,J6]
  refine zqe (NoPanic.normal ?_);go_wp2_with fail
  have HQ:=zh (put12 HS3.out.1.2.2 (.string n) (.string x4) (.string x5) (.string x6) (.string x7) (.string x8) (.string x6) (.string k2) (.string v2) (.string x6) (.bool true) (.bool (!xp)));exact bodyPost_ret (v:=.agg #[.string n,.string x4,.string x5,.string x6,.string x7,.string x8,.string x6,.string k2,.string v2,.string x6,.bool true,.bool (!xp)]) (results_cell_row Tryz.results25 _ _ (w.heap.size+1) _ _ _ _ rfl HQ.out Tryz.underlying43 rfl inf_ss) rfl ⟨rfl,hHeld.2⟩
theorem kpS{w z:World}{a b:Nat}{x0 x1 x2 x3 x4 x5 x6 x7 x8 x9 y0 y1 y2 y3 y4 y5 y6 y7 y8 y9:ByteArray}{xo xp yo yp:Bool}{z':World}(H:Hid (((SX z a x0 x1 x2 x3 x4 x5 x6 x7 x8 x9 xo xp∧SX z b y0 y1 y2 y3 y4 y5 y6 y7 y8 y9 yo yp)∧Tab z)∧Below w.heap.size w z))(hb:Below z.heap.size z z'):Hid (((SX z' a x0 x1 x2 x3 x4 x5 x6 x7 x8 x9 xo xp∧SX z' b y0 y1 y2 y3 y4 y5 y6 y7 y8 y9 yo yp)∧Tab z')∧Below w.heap.size w z'):=
 zh ⟨⟨⟨H.out.1.1.1.keep hb H.out.1.1.1.lt,H.out.1.1.2.keep hb H.out.1.1.2.lt⟩,H.out.1.2.below hb H.out.1.2.lt⟩,H.out.2.trans (hb.mono H.out.2.size)⟩
theorem axS{w z:World}{a b:Nat}{x0 x1 x2 x3 x4 x5 x6 x7 x8 x9 y0 y1 y2 y3 y4 y5 y6 y7 y8 y9:ByteArray}{xo xp yo yp:Bool}(H:Hid (((SX z a x0 x1 x2 x3 x4 x5 x6 x7 x8 x9 xo xp∧SX z b y0 y1 y2 y3 y4 y5 y6 y7 y8 y9 yo yp)∧Tab z)∧Below w.heap.size w z))(o:Obj):Hid (((SX (z.alloc o) a x0 x1 x2 x3 x4 x5 x6 x7 x8 x9 xo xp∧SX (z.alloc o) b y0 y1 y2 y3 y4 y5 y6 y7 y8 y9 yo yp)∧Tab (z.alloc o))∧Below w.heap.size w (z.alloc o)):=
 kpS H ((Below.refl z.heap.size z).alloc zle o)
theorem ntS(w:World)(ht:Tab w)(x0 x1 x2 x3 x4 x5 x6 x7 x8 x9:ByteArray)(xo xp:Bool):Hid (((SX ((w.alloc (.cells #[.string x0,.string x1,.string x2,.string x3,.string x4,.string x5,.string x6,.string x7,.string x8,.string x9,.bool xo,.bool xp] 43)).alloc (.cells #[.string ⟨#[]⟩,.string ⟨#[]⟩,.string ⟨#[]⟩,.string ⟨#[]⟩,.string ⟨#[]⟩,.string ⟨#[]⟩,.string ⟨#[]⟩,.string ⟨#[]⟩,.string ⟨#[]⟩,.string ⟨#[]⟩,.bool false,.bool false] 43)) w.heap.size x0 x1 x2 x3 x4 x5 x6 x7 x8 x9 xo xp∧SX ((w.alloc (.cells #[.string x0,.string x1,.string x2,.string x3,.string x4,.string x5,.string x6,.string x7,.string x8,.string x9,.bool xo,.bool xp] 43)).alloc (.cells #[.string ⟨#[]⟩,.string ⟨#[]⟩,.string ⟨#[]⟩,.string ⟨#[]⟩,.string ⟨#[]⟩,.string ⟨#[]⟩,.string ⟨#[]⟩,.string ⟨#[]⟩,.string ⟨#[]⟩,.string ⟨#[]⟩,.bool false,.bool false] 43)) (w.heap.size+1) ⟨#[]⟩ ⟨#[]⟩ ⟨#[]⟩ ⟨#[]⟩ ⟨#[]⟩ ⟨#[]⟩ ⟨#[]⟩ ⟨#[]⟩ ⟨#[]⟩ ⟨#[]⟩ false false)∧Tab ((w.alloc (.cells #[.string x0,.string x1,.string x2,.string x3,.string x4,.string x5,.string x6,.string x7,.string x8,.string x9,.bool xo,.bool xp] 43)).alloc (.cells #[.string ⟨#[]⟩,.string ⟨#[]⟩,.string ⟨#[]⟩,.string ⟨#[]⟩,.string ⟨#[]⟩,.string ⟨#[]⟩,.string ⟨#[]⟩,.string ⟨#[]⟩,.string ⟨#[]⟩,.string ⟨#[]⟩,.bool false,.bool false] 43)))∧Below w.heap.size w ((w.alloc (.cells #[.string x0,.string x1,.string x2,.string x3,.string x4,.string x5,.string x6,.string x7,.string x8,.string x9,.bool xo,.bool xp] 43)).alloc (.cells #[.string ⟨#[]⟩,.string ⟨#[]⟩,.string ⟨#[]⟩,.string ⟨#[]⟩,.string ⟨#[]⟩,.string ⟨#[]⟩,.string ⟨#[]⟩,.string ⟨#[]⟩,.string ⟨#[]⟩,.string ⟨#[]⟩,.bool false,.bool false] 43))):=by
 have hB:=((Below.refl w.heap.size w).alloc zle (.cells #[.string x0,.string x1,.string x2,.string x3,.string x4,.string x5,.string x6,.string x7,.string x8,.string x9,.bool xo,.bool xp] 43)).alloc (by simp) (.cells #[.string ⟨#[]⟩,.string ⟨#[]⟩,.string ⟨#[]⟩,.string ⟨#[]⟩,.string ⟨#[]⟩,.string ⟨#[]⟩,.string ⟨#[]⟩,.string ⟨#[]⟩,.string ⟨#[]⟩,.string ⟨#[]⟩,.bool false,.bool false] 43);have h:=heap_alloc_new (w.alloc (.cells #[.string x0,.string x1,.string x2,.string x3,.string x4,.string x5,.string x6,.string x7,.string x8,.string x9,.bool xo,.bool xp] 43)) (.cells #[.string ⟨#[]⟩,.string ⟨#[]⟩,.string ⟨#[]⟩,.string ⟨#[]⟩,.string ⟨#[]⟩,.string ⟨#[]⟩,.string ⟨#[]⟩,.string ⟨#[]⟩,.string ⟨#[]⟩,.string ⟨#[]⟩,.bool false,.bool false] 43);rw[World.size_alloc]at h;exact zh ⟨⟨⟨(Below.heap_alloc _ _ w.heap.size (by simp)).trans (heap_alloc_new w _),h⟩,ht.below hB ht.lt⟩,hB⟩
end Go.Proofs.YtagbkmoahflfdaaGreatDoor.Se
