import Derived.Test.YtagbkmoahflfdaaGreatDoorJp01
import Derived.Test.YtagbkmoahflfdaaGreatDoorJp34
import Derived.Test.YtagbkmoahflfdaaGreatDoorJp13
import Derived.Test.YtagbkmoahflfdaaGreatDoorJp07
import Derived.Deep.RegionHeld3
set_option maxHeartbeats 4000000
set_option maxRecDepth 20000
set_option linter.unusedVariables false
set_option linter.unusedSimpArgs false
namespace Go.Proofs.YtagbkmoahflfdaaGreatDoor.Se
open Tk Go.RowKit Vm Dg Kd
def DK (W:World) (b:Nat) (Kb Vb Mb:ByteArray):Prop:=W.heap[b]?=some (.cells #[.string Kb,.string Vb,.string Mb] 31 (0,0))
theorem DK.cells{W:World}{b:Nat}{Kb Vb Mb:ByteArray}(h:DK W b Kb Vb Mb):W.cell? ⟨b,0,none⟩=some (.string Kb)∧W.cell? ⟨b,1,none⟩=some (.string Vb)∧W.cell? ⟨b,2,none⟩=some (.string Mb):=
 ⟨Lib.cell_of_heap h 0,Lib.cell_of_heap h 1,Lib.cell_of_heap h 2⟩
theorem DK.lt{W:World}{b:Nat}{Kb Vb Mb:ByteArray}(h:DK W b Kb Vb Mb):b<W.heap.size:=(Array.getElem?_eq_some_iff.1 h).1
theorem DK.keep{W W':World}{b B:Nat}{Kb Vb Mb:ByteArray}(h:DK W b Kb Vb Mb)(hb:Below B W W')(hB:b<B):DK W' b Kb Vb Mb:=(hb.block b hB).trans h
theorem strong{P:Program}{md:Region.Mode}{ops:Array Oper}{Q:Exit→Act→World→Prop}{S S':World→Prop}(h:∀w,S' w→S w):∀(fuel:Nat) (listed:Array Bool) (a:Act) (w:World),wpAnyH P md ops Q S' fuel listed a w→wpAnyH P md ops Q S fuel listed a w
 | 0,_,_,_,x=>x
 | fuel+1,_,_,_,x=>⟨x.1,fun i hi=>wpOp_mono (fun a' w' h'=>⟨h _ h'.1,strong h fuel _ a' w' h'.2⟩) (x.2 i hi)⟩
theorem conv_4(V:World)(g:Nat)(h:V.heap[g]?=some (.cells #[.int .u8 0,.int .u8 0,.int .u8 0,.int .u8 0] 5 (0,0))):(convert 66 9 (.slice (some ⟨g,0,none⟩) 4 4)).run Tryz.prog V=.ok (.string ⟨#[0,0,0,0]⟩) V:=
 conv_ownM (B:=g) [0,0,0,0] rfl ⟨g,4,_,(0,0),rfl,Nat.le_refl _,h,.inr rfl,Nat.le_refl _,by decide,rfl,rfl⟩
theorem made_runS(m:Nat)(hm:m≤1000)(W:World):(Instr.makeSlice 66 (.int .i64 (m:Nat)) (.int .i64 (m:Nat))).run Tryz.prog W=.ok (.slice (some ⟨W.heap.size,0,none⟩) m m) (W.alloc (.cells (madeCells #[.int .u8 0] m) 5)):=by
 obtain⟨i0,hi,hz0,hz1,hz2⟩:=info_parts Bld.infoB;have h:=run_makeSlice (P:=Tryz.prog) W 66 5 i0 (.int .u8 0) Tryz.underlying66 hi hz0 .i64 .i64 (m:Nat) (m:Nat) (by omega) (by omega) (by rw[hz1];omega) (by rw[hz2];omega) (by omega);rw[h,hz1];simp only[Int.toNat_natCast,Nat.mul_one];rfl
theorem made_4(W:World):(Instr.makeSlice 66 (.int .i64 4) (.int .i64 4)).run Tryz.prog W=.ok (.slice (some ⟨W.heap.size,0,none⟩) 4 4) (W.alloc (.cells #[.int .u8 0,.int .u8 0,.int .u8 0,.int .u8 0] 5)):=by
 have e:madeCells #[Value.int .u8 0] 4=#[Value.int .u8 0,.int .u8 0,.int .u8 0,.int .u8 0]:=by kernel_rfl
 have h:=made_runS 4 (by decide) W;rw[e]at h;exact h
theorem vfix_r(n:Nat)(w:World)(hn:n<18446744073709551616):Calls Tryz.prog 81 #[.int .u64 n,.int .i64 8] w fun e w'=>e=.returned (.string ⟨(fx n 8).toArray⟩)∧Below w.heap.size w w':=rfixed n 8 w (by omega) (by decide) (by decide)
theorem dnonce_any(K0 V0 M0:List UInt8)(n:Nat)(w:World)(hV:V0.length≤1000)(hn:n<18446744073709551616) :
 Calls Tryz.prog 47 #[.agg #[.string ⟨K0.toArray⟩,.string ⟨V0.toArray⟩,.string ⟨M0.toArray⟩],.int .u64 n] w fun e w'=>e=.returned (.string ⟨(nonceL V0 n).toArray⟩)∧Below w.heap.size w w':=by
 have CV:=zh (fun W=>vfix_r n W hn);have CX:Hid (∀W:World,Calls Tryz.prog 40 #[.string ⟨V0.toArray⟩,.string ⟨(([0,0,0,0]:List UInt8)++fx n 8).toArray⟩] W fun e w'=>e=.returned (.string ⟨(nonceL V0 n).toArray⟩)∧Below W.heap.size W w'):=zh (fun W=>xor_ref ⟨V0.toArray⟩ ⟨(([0,0,0,0]:List UInt8)++fx n 8).toArray⟩ W (by rw[ba_size];omega) (by rw[ba_size,List.length_append,fx_length];decide));have hc:(⟨#[0,0,0,0]⟩:ByteArray)++⟨(fx n 8).toArray⟩=⟨(([0,0,0,0]:List UInt8)++fx n 8).toArray⟩:=ba_app [0,0,0,0] (fx n 8);have sB:=ba_size (fx n 8);rw[fx_length]at sB;generalize (⟨(([0,0,0,0]:List UInt8)++fx n 8).toArray⟩:ByteArray)=C at *;generalize (⟨(fx n 8).toArray⟩:ByteArray)=B at *;generalize (⟨(nonceL V0 n).toArray⟩:ByteArray)=R at *;obtain⟨Kb,hK⟩:∃x:ByteArray,⟨K0.toArray⟩=x:=⟨_,rfl⟩;obtain⟨Vb,hVV⟩:∃x:ByteArray,⟨V0.toArray⟩=x:=⟨_,rfl⟩;obtain⟨Mb,hM⟩:∃x:ByteArray,⟨M0.toArray⟩=x:=⟨_,rfl⟩;rw[hVV]at CX;rw[hK,hVV,hM];clear hK hVV hM hV hn;have HX0:Hid (DK (w.alloc (.cells #[.string Kb,.string Vb,.string Mb] 31)) w.heap.size Kb Vb Mb∧Below w.heap.size w (w.alloc (.cells #[.string Kb,.string Vb,.string Mb] 31))):=zh ⟨heap_alloc_new w _,(Below.refl _ _).alloc zle _⟩;obtain⟨p0,p1,p2⟩:=HX0.out.1.cells;have HD0:Hid (DK (w.alloc (.cells #[.string Kb,.string Vb,.string Mb] 31)).drew w.heap.size Kb Vb Mb∧Below w.heap.size w (w.alloc (.cells #[.string Kb,.string Vb,.string Mb] 31)).drew):=zh ⟨HX0.out.1,HX0.out.2.drew⟩;have HMK:=made_4;go_enter Tryz.func47,Tryz.ntmps47;go_wp2_with fail
 refine wp_region_noPanic ?_;refine wp_region_held_drew (S:=fun W:World=>DK W w.heap.size Kb Vb Mb∧Below w.heap.size w W) (by kernel_rfl) ?_ (fun hHeld=>?_)
 ·exact HD0.out
 refine zqa 0 rfl ?_ ?_ ?_;rotate_left
 ·(intro V hSw;obtain⟨hsk,hsb⟩:=hSw;obtain⟨q0,q1,q2⟩:=hsk.cells;go_simp;(try with_reducible rfl))
 try simp only[Act.put,J1,J2,J3,J4,J5,J6]
 refine zqa 1 rfl ?_ ?_ ?_;rotate_left
 ·(intro V hSw;obtain⟨hsk,hsb⟩:=hSw;obtain⟨q0,q1,q2⟩:=hsk.cells;go_simp;(try with_reducible rfl))
 try simp only[Act.put,J1,J2,J3,J4,J5,J6]
 refine zqa 4 rfl ?_ ?_ ?_;rotate_left
 ·(intro V hSw;obtain⟨hsk,hsb⟩:=hSw;obtain⟨q0,q1,q2⟩:=hsk.cells;go_simp;(try with_reducible rfl))
 try simp only[Act.put,J1,J2,J3,J4,J5,J6]
 refine zqf [2,5] ?_;refine AllReadyH.cons rfl (fun K hK=>?_) (AllReadyH.cons rfl (fun K hK=>?_) AllReadyH.nil)
 ·rw[if_pos (by rfl)]
  go_simp;have HM:Hid ((DK ((w.alloc (.cells #[.string Kb,.string Vb,.string Mb] 31)).alloc (.cells #[.int .u8 0,.int .u8 0,.int .u8 0,.int .u8 0] 5)).drew w.heap.size Kb Vb Mb∧Below w.heap.size w ((w.alloc (.cells #[.string Kb,.string Vb,.string Mb] 31)).alloc (.cells #[.int .u8 0,.int .u8 0,.int .u8 0,.int .u8 0] 5)).drew)∧((w.alloc (.cells #[.string Kb,.string Vb,.string Mb] 31)).alloc (.cells #[.int .u8 0,.int .u8 0,.int .u8 0,.int .u8 0] 5)).drew.heap[w.heap.size+1]?=some (.cells #[.int .u8 0,.int .u8 0,.int .u8 0,.int .u8 0] 5 (0,0))):=zh ⟨⟨(show DK ((w.alloc (.cells #[.string Kb,.string Vb,.string Mb] 31)).alloc (.cells #[.int .u8 0,.int .u8 0,.int .u8 0,.int .u8 0] 5)) w.heap.size Kb Vb Mb from HX0.out.1.keep (B:=(w.alloc (.cells #[.string Kb,.string Vb,.string Mb] 31)).heap.size) ((Below.refl _ _).alloc zle _) HX0.out.1.lt),(HX0.out.2.alloc HX0.out.2.size _).drew⟩,(by have h:=heap_alloc_new (w.alloc (.cells #[.string Kb,.string Vb,.string Mb] 31)) (.cells #[.int .u8 0,.int .u8 0,.int .u8 0,.int .u8 0] 5);rw[World.size_alloc]at h;exact h)⟩;refine hK.out _ _ ?_ (fun hHeld=>?_)
  ·exact HM.out.1
  clear hK K
  try simp only[Act.put,J1,J2,J3,J4,J5,J6]
  generalize ((w.alloc (.cells #[.string Kb,.string Vb,.string Mb] 31)).alloc (.cells #[.int .u8 0,.int .u8 0,.int .u8 0,.int .u8 0] 5)).drew=gAW at HM ⊢;generalize w.heap.size+1=gA at HM ⊢;refine strong (S':=fun W:World=>(DK W w.heap.size Kb Vb Mb∧Below w.heap.size w W)∧W.heap[gA]?=some (.cells #[.int .u8 0,.int .u8 0,.int .u8 0,.int .u8 0] 5 (0,0))) (fun _ h=>h.1) _ _ _ _ ?_;have hHeld:=HM.out;refine zqa 3 rfl ?_ ?_ ?_;rotate_left
  ·(intro V hSw;obtain⟨⟨hsk,hsb⟩,hs4⟩:=hSw;obtain⟨q0,q1,q2⟩:=hsk.cells;have z:=conv_4 V gA hs4;go_simp;(try with_reducible rfl))
  try simp only[Act.put,J1,J2,J3,J4,J5,J6]
  refine zqf [5] (AllReadyH.cons rfl (fun K hK=>?_) AllReadyH.nil);rw[if_pos (by rfl)];go_simp;with_reducible refine (CV.out _).mono ?_
  rintro e1 y1 ⟨rfl,hb⟩;have HS1:Hid ((DK y1 w.heap.size Kb Vb Mb∧Below w.heap.size w y1)∧y1.heap[gA]?=some (.cells #[.int .u8 0,.int .u8 0,.int .u8 0,.int .u8 0] 5 (0,0))):=zh ⟨⟨HM.out.1.1.keep hb HM.out.1.1.lt,HM.out.1.2.trans (hb.mono HM.out.1.2.size)⟩,(hb.block gA (Array.getElem?_eq_some_iff.1 HM.out.2).1).trans HM.out.2⟩;clear hb;refine hK.out _ _ ?_ (fun hHeld=>?_)
  ·exact HS1.out
  clear hK K
  try simp only[Act.put,J1,J2,J3,J4,J5,J6]
  refine zqa 6 rfl ?_ ?_ ?_;rotate_left
  ·(intro V hSw;obtain⟨⟨hsk,hsb⟩,hs4⟩:=hSw;obtain⟨q0,q1,q2⟩:=hsk.cells;have z:=conv_4 V gA hs4;go_simp;(try with_reducible rfl))
  try simp only[Act.put,J1,J2,J3,J4,J5,J6]
  refine zqf [7] (AllReadyH.cons rfl (fun K hK=>?_) AllReadyH.nil);rw[if_pos (by rfl)];go_simp;with_reducible refine (CX.out _).mono ?_
  rintro e2 y2 ⟨rfl,hb⟩;have HS2:Hid ((DK y2 w.heap.size Kb Vb Mb∧Below w.heap.size w y2)∧y2.heap[gA]?=some (.cells #[.int .u8 0,.int .u8 0,.int .u8 0,.int .u8 0] 5 (0,0))):=zh ⟨⟨HS1.out.1.1.keep hb HS1.out.1.1.lt,HS1.out.1.2.trans (hb.mono HS1.out.1.2.size)⟩,(hb.block gA (Array.getElem?_eq_some_iff.1 HS1.out.2).1).trans HS1.out.2⟩;clear hb;refine hK.out _ _ ?_ (fun hHeld=>?_)
  ·exact HS2.out
  clear hK K
  try simp only[Act.put,J1,J2,J3,J4,J5,J6]
  refine zqa 8 rfl ?_ ?_ ?_;rotate_left
  ·(intro V hSw;obtain⟨⟨hsk,hsb⟩,hs4⟩:=hSw;obtain⟨q0,q1,q2⟩:=hsk.cells;have z:=conv_4 V gA hs4;go_simp;(try with_reducible rfl))
  try simp only[Act.put,J1,J2,J3,J4,J5,J6]
  refine zqe (NoPanic.normal ?_);go_wp2_with fail
  go_ret
  exact⟨rfl,hHeld.1.2⟩
 ·rw[if_pos (by rfl)]
  go_simp;with_reducible refine (CV.out _).mono ?_
  rintro e1 y1 ⟨rfl,hb⟩;have HS1:Hid ((DK y1 w.heap.size Kb Vb Mb∧Below w.heap.size w y1)):=zh ⟨HD0.out.1.keep hb HD0.out.1.lt,HD0.out.2.trans (hb.mono HD0.out.2.size)⟩;clear hb;refine hK.out _ _ ?_ (fun hHeld=>?_)
  ·exact HS1.out
  clear hK K
  try simp only[Act.put,J1,J2,J3,J4,J5,J6]
  refine zqf [2] (AllReadyH.cons rfl (fun K hK=>?_) AllReadyH.nil);rw[if_pos (by rfl)];go_simp;have HM:Hid ((DK (y1.alloc (.cells #[.int .u8 0,.int .u8 0,.int .u8 0,.int .u8 0] 5)) w.heap.size Kb Vb Mb∧Below w.heap.size w (y1.alloc (.cells #[.int .u8 0,.int .u8 0,.int .u8 0,.int .u8 0] 5)))∧(y1.alloc (.cells #[.int .u8 0,.int .u8 0,.int .u8 0,.int .u8 0] 5)).heap[y1.heap.size]?=some (.cells #[.int .u8 0,.int .u8 0,.int .u8 0,.int .u8 0] 5 (0,0))):=zh ⟨⟨(show DK (y1.alloc (.cells #[.int .u8 0,.int .u8 0,.int .u8 0,.int .u8 0] 5)) w.heap.size Kb Vb Mb from HS1.out.1.keep (B:=y1.heap.size) ((Below.refl _ _).alloc zle _) HS1.out.1.lt),(HS1.out.2.alloc HS1.out.2.size _)⟩,heap_alloc_new _ _⟩;refine hK.out _ _ ?_ (fun hHeld=>?_)
  ·exact HM.out.1
  clear hK K
  try simp only[Act.put,J1,J2,J3,J4,J5,J6]
  generalize (y1.alloc (.cells #[.int .u8 0,.int .u8 0,.int .u8 0,.int .u8 0] 5))=gBW at HM ⊢;generalize y1.heap.size=gB at HM ⊢;refine strong (S':=fun W:World=>(DK W w.heap.size Kb Vb Mb∧Below w.heap.size w W)∧W.heap[gB]?=some (.cells #[.int .u8 0,.int .u8 0,.int .u8 0,.int .u8 0] 5 (0,0))) (fun _ h=>h.1) _ _ _ _ ?_;have hHeld:=HM.out;refine zqa 3 rfl ?_ ?_ ?_;rotate_left
  ·(intro V hSw;obtain⟨⟨hsk,hsb⟩,hs4⟩:=hSw;obtain⟨q0,q1,q2⟩:=hsk.cells;have z:=conv_4 V gB hs4;go_simp;(try with_reducible rfl))
  try simp only[Act.put,J1,J2,J3,J4,J5,J6]
  refine zqa 6 rfl ?_ ?_ ?_;rotate_left
  ·(intro V hSw;obtain⟨⟨hsk,hsb⟩,hs4⟩:=hSw;obtain⟨q0,q1,q2⟩:=hsk.cells;have z:=conv_4 V gB hs4;go_simp;(try with_reducible rfl))
  try simp only[Act.put,J1,J2,J3,J4,J5,J6]
  refine zqf [7] (AllReadyH.cons rfl (fun K hK=>?_) AllReadyH.nil);rw[if_pos (by rfl)];go_simp;with_reducible refine (CX.out _).mono ?_
  rintro e2 y2 ⟨rfl,hb⟩;have HS2:Hid ((DK y2 w.heap.size Kb Vb Mb∧Below w.heap.size w y2)∧y2.heap[gB]?=some (.cells #[.int .u8 0,.int .u8 0,.int .u8 0,.int .u8 0] 5 (0,0))):=zh ⟨⟨HM.out.1.1.keep hb HM.out.1.1.lt,HM.out.1.2.trans (hb.mono HM.out.1.2.size)⟩,(hb.block gB (Array.getElem?_eq_some_iff.1 HM.out.2).1).trans HM.out.2⟩;clear hb;refine hK.out _ _ ?_ (fun hHeld=>?_)
  ·exact HS2.out
  clear hK K
  try simp only[Act.put,J1,J2,J3,J4,J5,J6]
  refine zqa 8 rfl ?_ ?_ ?_;rotate_left
  ·(intro V hSw;obtain⟨⟨hsk,hsb⟩,hs4⟩:=hSw;obtain⟨q0,q1,q2⟩:=hsk.cells;have z:=conv_4 V gB hs4;go_simp;(try with_reducible rfl))
  try simp only[Act.put,J1,J2,J3,J4,J5,J6]
  refine zqe (NoPanic.normal ?_);go_wp2_with fail
  go_ret
  exact⟨rfl,hHeld.1.2⟩
theorem dtag_any(K0 V0 M0:List UInt8)(n:Nat)(h t:List UInt8)(w:World)(hK:K0.length≤1000)(hV:V0.length≤1000)(hn:n<18446744073709551616)(hh:h.length≤10000)(ht:t.length≤10000) :
 Calls Tryz.prog 46 #[.agg #[.string ⟨K0.toArray⟩,.string ⟨V0.toArray⟩,.string ⟨M0.toArray⟩],.int .u64 n,.string ⟨h.toArray⟩,.string ⟨t.toArray⟩] w fun e w'=>e=.returned (.string ⟨(tagL K0 V0 n h t).toArray⟩)∧Below w.heap.size w w':=by
 have CN:Hid (∀W:World,Calls Tryz.prog 47 #[.agg #[.string ⟨K0.toArray⟩,.string ⟨V0.toArray⟩,.string ⟨M0.toArray⟩],.int .u64 n] W fun e w'=>e=.returned (.string ⟨(nonceL V0 n).toArray⟩)∧Below W.heap.size W w'):=zh (fun W=>dnonce_any K0 V0 M0 n W hV hn);have CB:Hid (∀W:World,Calls Tryz.prog 12 #[.string ⟨K0.toArray⟩,.string ⟨(nonceL V0 n).toArray⟩,.int .u32 0] W fun e w'=>e=.returned (.string ⟨(blk K0 (nonceL V0 n) 0).toArray⟩)∧Below W.heap.size W w'):=zh (fun W=>dblock_any ⟨K0.toArray⟩ ⟨(nonceL V0 n).toArray⟩ 0 W (by rw[ba_size];omega) (by rw[ba_size];have:=nonceL_len V0 n;omega) (by decide));have CL1:=zh (fun W=>vfix_r h.length W (by omega));have CL2:=zh (fun W=>vfix_r t.length W (by omega));have CM:=zh (fun W=>mac_ref ((blk K0 (nonceL V0 n) 0).take 32) (((h++fx h.length 8)++t)++fx t.length 8) W (by rw[List.length_take];omega) (by simp only[List.length_append,fx_length];omega));have a1:(⟨h.toArray⟩:ByteArray)++(⟨(fx h.length 8).toArray⟩:ByteArray)=⟨(h++fx h.length 8).toArray⟩:=ba_app _ _;have a2:(⟨(h++fx h.length 8).toArray⟩:ByteArray)++(⟨t.toArray⟩:ByteArray)=⟨((h++fx h.length 8)++t).toArray⟩:=ba_app _ _;have a3:(⟨((h++fx h.length 8)++t).toArray⟩:ByteArray)++(⟨(fx t.length 8).toArray⟩:ByteArray)=⟨(((h++fx h.length 8)++t)++fx t.length 8).toArray⟩:=ba_app _ _;have e1:=ba_take (blk K0 (nonceL V0 n) 0) 32;have s1:=ba_size (blk K0 (nonceL V0 n) 0);rw[blk_len]at s1;have e2:(⟨(mac ((blk K0 (nonceL V0 n) 0).take 32) (((h++fx h.length 8)++t)++fx t.length 8)).toArray⟩:ByteArray).extract 0 16=⟨(tagL K0 V0 n h t).toArray⟩:=ba_take _ 16;have s2:=ba_size (mac ((blk K0 (nonceL V0 n) 0).take 32) (((h++fx h.length 8)++t)++fx t.length 8));rw[mac_len]at s2;have z1:=ba_size h;have z2:=ba_size t;have z3:=ba_size (fx h.length 8);have z4:=ba_size (fx t.length 8);have z5:=ba_size (h++fx h.length 8);have z6:=ba_size ((h++fx h.length 8)++t);rw[fx_length]at z3 z4;rw[List.length_append,fx_length]at z5;rw[List.length_append,List.length_append,fx_length]at z6;generalize (⟨(mac ((blk K0 (nonceL V0 n) 0).take 32) (((h++fx h.length 8)++t)++fx t.length 8)).toArray⟩:ByteArray)=MC at *;generalize (⟨((blk K0 (nonceL V0 n) 0).take 32).toArray⟩:ByteArray)=BK at *;generalize (⟨(blk K0 (nonceL V0 n) 0).toArray⟩:ByteArray)=BB at *;generalize (⟨(nonceL V0 n).toArray⟩:ByteArray)=NN at *;generalize (⟨(tagL K0 V0 n h t).toArray⟩:ByteArray)=R at *;generalize (⟨(((h++fx h.length 8)++t)++fx t.length 8).toArray⟩:ByteArray)=G3 at *;generalize (⟨((h++fx h.length 8)++t).toArray⟩:ByteArray)=G2 at *;generalize (⟨(h++fx h.length 8).toArray⟩:ByteArray)=G1 at *;generalize (⟨(fx h.length 8).toArray⟩:ByteArray)=H8 at *;generalize (⟨(fx t.length 8).toArray⟩:ByteArray)=T8 at *;generalize (⟨h.toArray⟩:ByteArray)=HH at *;generalize (⟨t.toArray⟩:ByteArray)=TT at *;rw[←z1]at CL1;rw[←z2]at CL2;rw[←z1]at z5 z6;rw[←z2]at z6;have y1:(HH.size:Int)≤10000:=by omega
 have y2:(TT.size:Int)≤10000:=by omega
 have wr1:IntKind.u64.wrap (HH.size:Int)=(HH.size:Int):=by rw[IntKind.wrap_u64];omega
 have wr2:IntKind.u64.wrap (TT.size:Int)=(TT.size:Int):=by rw[IntKind.wrap_u64];omega
 have z5':(G1.size:Int)≤20000:=by omega
 have z6':(G2.size:Int)≤40000:=by omega
 have g1:¬9223372036854775807<HH.size+8:=by omega
 have g2:¬9223372036854775807<G1.size+TT.size:=by omega
 have g3:¬9223372036854775807<G2.size+8:=by omega
 clear hK z1 z2 hh ht;obtain⟨Kb,hK⟩:∃x:ByteArray,⟨K0.toArray⟩=x:=⟨_,rfl⟩;obtain⟨Vb,hVV⟩:∃x:ByteArray,⟨V0.toArray⟩=x:=⟨_,rfl⟩;obtain⟨Mb,hM⟩:∃x:ByteArray,⟨M0.toArray⟩=x:=⟨_,rfl⟩;rw[hK,hVV,hM]at CN;rw[hK]at CB;rw[hK,hVV,hM];clear hK hVV hM hV hn z5 z6;have HX0:Hid (DK (w.alloc (.cells #[.string Kb,.string Vb,.string Mb] 31)) w.heap.size Kb Vb Mb∧Below w.heap.size w (w.alloc (.cells #[.string Kb,.string Vb,.string Mb] 31))):=zh ⟨heap_alloc_new w _,(Below.refl _ _).alloc zle _⟩;obtain⟨p0,p1,p2⟩:=HX0.out.1.cells;have HD0:Hid (DK (w.alloc (.cells #[.string Kb,.string Vb,.string Mb] 31)).drew w.heap.size Kb Vb Mb∧Below w.heap.size w (w.alloc (.cells #[.string Kb,.string Vb,.string Mb] 31)).drew):=zh ⟨HX0.out.1,HX0.out.2.drew⟩;go_enter Tryz.func46,Tryz.ntmps46;go_wp2_with fail
 refine wp_region_noPanic ?_;refine wp_region_held_drew (S:=fun W:World=>DK W w.heap.size Kb Vb Mb∧Below w.heap.size w W) (by kernel_rfl) ?_ (fun hHeld=>?_)
 ·exact HD0.out
 iterate 12
  refine zqb [0,1,2,3,7,8,9,10,13,15,16,17] rfl rfl ?_ ?_ ?_;rotate_left
  ·(intro w hSw;obtain⟨hsk,hsb⟩:=hSw;obtain⟨q0,q1,q2⟩:=hsk.cells;go_simp;(try with_reducible rfl))
  try simp only[Act.put,J1,J2,J3,J4,J5,J6]
 refine zqf [4] (AllReadyH.cons rfl (fun K hK=>?_) AllReadyH.nil);rw[if_pos (by rfl)];go_simp;with_reducible refine (CN.out _).mono ?_
 rintro e1 y1 ⟨rfl,hb⟩;have HS1:Hid (DK y1 w.heap.size Kb Vb Mb∧Below w.heap.size w y1):=zh ⟨HD0.out.1.keep hb HD0.out.1.lt,HD0.out.2.trans (hb.mono HD0.out.2.size)⟩;clear hb;refine hK.out _ _ ?_ (fun hHeld=>?_)
 ·exact HS1.out
 clear hK K
 try simp only[Act.put,J1,J2,J3,J4,J5,J6]
 refine zqf [5] (AllReadyH.cons rfl (fun K hK=>?_) AllReadyH.nil);rw[if_pos (by rfl)];go_simp;with_reducible refine (CB.out _).mono ?_
 rintro e2 y2 ⟨rfl,hb⟩;have HS2:Hid (DK y2 w.heap.size Kb Vb Mb∧Below w.heap.size w y2):=zh ⟨HS1.out.1.keep hb HS1.out.1.lt,HS1.out.2.trans (hb.mono HS1.out.2.size)⟩;clear hb;refine hK.out _ _ ?_ (fun hHeld=>?_)
 ·exact HS2.out
 clear hK K
 try simp only[Act.put,J1,J2,J3,J4,J5,J6]
 refine zqa 6 rfl ?_ ?_ ?_;rotate_left
 ·(intro w hSw;obtain⟨hsk,hsb⟩:=hSw;obtain⟨q0,q1,q2⟩:=hsk.cells;go_simp;(try with_reducible rfl))
 try simp only[Act.put,J1,J2,J3,J4,J5,J6]
 refine zqf [11] (AllReadyH.cons rfl (fun K hK=>?_) AllReadyH.nil);rw[if_pos (by rfl)];go_simp;with_reducible refine (CL1.out _).mono ?_
 rintro e3 y3 ⟨rfl,hb⟩;have HS3:Hid (DK y3 w.heap.size Kb Vb Mb∧Below w.heap.size w y3):=zh ⟨HS2.out.1.keep hb HS2.out.1.lt,HS2.out.2.trans (hb.mono HS2.out.2.size)⟩;clear hb;refine hK.out _ _ ?_ (fun hHeld=>?_)
 ·exact HS3.out
 clear hK K
 try simp only[Act.put,J1,J2,J3,J4,J5,J6]
 iterate 2
  refine zqb [12,14] rfl rfl ?_ ?_ ?_;rotate_left
  ·(intro w hSw;obtain⟨hsk,hsb⟩:=hSw;obtain⟨q0,q1,q2⟩:=hsk.cells;go_simp;(try with_reducible rfl))
  try simp only[Act.put,J1,J2,J3,J4,J5,J6]
 refine zqf [18] (AllReadyH.cons rfl (fun K hK=>?_) AllReadyH.nil);rw[if_pos (by rfl)];go_simp;with_reducible refine (CL2.out _).mono ?_
 rintro e4 y4 ⟨rfl,hb⟩;have HS4:Hid (DK y4 w.heap.size Kb Vb Mb∧Below w.heap.size w y4):=zh ⟨HS3.out.1.keep hb HS3.out.1.lt,HS3.out.2.trans (hb.mono HS3.out.2.size)⟩;clear hb;refine hK.out _ _ ?_ (fun hHeld=>?_)
 ·exact HS4.out
 clear hK K
 try simp only[Act.put,J1,J2,J3,J4,J5,J6]
 refine zqa 19 rfl ?_ ?_ ?_;rotate_left
 ·(intro w hSw;obtain⟨hsk,hsb⟩:=hSw;obtain⟨q0,q1,q2⟩:=hsk.cells;go_simp;(try with_reducible rfl))
 try simp only[Act.put,J1,J2,J3,J4,J5,J6]
 refine zqf [20] (AllReadyH.cons rfl (fun K hK=>?_) AllReadyH.nil);rw[if_pos (by rfl)];go_simp;with_reducible refine (CM.out _).mono ?_
 rintro e5 y5 ⟨rfl,hb⟩;have HS5:Hid (DK y5 w.heap.size Kb Vb Mb∧Below w.heap.size w y5):=zh ⟨HS4.out.1.keep hb HS4.out.1.lt,HS4.out.2.trans (hb.mono HS4.out.2.size)⟩;clear hb;refine hK.out _ _ ?_ (fun hHeld=>?_)
 ·exact HS5.out
 clear hK K
 try simp only[Act.put,J1,J2,J3,J4,J5,J6]
 iterate 2
  refine zqb [21,22] rfl rfl ?_ ?_ ?_;rotate_left
  ·(intro w hSw;obtain⟨hsk,hsb⟩:=hSw;obtain⟨q0,q1,q2⟩:=hsk.cells;go_simp;(try with_reducible rfl))
  try simp only[Act.put,J1,J2,J3,J4,J5,J6]
 refine zqe (NoPanic.normal ?_);go_wp2_with fail
 go_ret
 exact⟨rfl,hHeld.2⟩
theorem dseal_any(K0 V0 M0:List UInt8)(n:Nat)(h t:List UInt8)(w:World)(hK:K0.length≤1000)(hV:V0.length≤1000)(hn:n<18446744073709551616)(hh:h.length≤10000)(ht:t.length≤10000) :
 Calls Tryz.prog 21 #[.agg #[.string ⟨K0.toArray⟩,.string ⟨V0.toArray⟩,.string ⟨M0.toArray⟩],.int .u64 n,.string ⟨h.toArray⟩,.string ⟨t.toArray⟩] w fun e w'=>e=.returned (.string ⟨(sealL K0 V0 n h t).toArray⟩)∧Below w.heap.size w w':=by
 have CN:Hid (∀W:World,Calls Tryz.prog 47 #[.agg #[.string ⟨K0.toArray⟩,.string ⟨V0.toArray⟩,.string ⟨M0.toArray⟩],.int .u64 n] W fun e w'=>e=.returned (.string ⟨(nonceL V0 n).toArray⟩)∧Below W.heap.size W w'):=zh (fun W=>dnonce_any K0 V0 M0 n W hV hn);have CS:Hid (∀W:World,Calls Tryz.prog 13 #[.string ⟨K0.toArray⟩,.string ⟨(nonceL V0 n).toArray⟩,.int .u32 1,.string ⟨t.toArray⟩] W fun e w'=>e=.returned (.string ⟨(laidL K0 V0 n t).toArray⟩)∧Below W.heap.size W w'):=zh (fun W=>dstream_any ⟨K0.toArray⟩ ⟨(nonceL V0 n).toArray⟩ 1 ⟨t.toArray⟩ W (by rw[ba_size];omega) (by rw[ba_size];have:=nonceL_len V0 n;omega) (by decide) (by rw[ba_size];omega));have CT:=zh (fun W=>dtag_any K0 V0 M0 n h (laidL K0 V0 n t) W hK hV hn hh (by rw[laidL_len];omega));have e1:(⟨(laidL K0 V0 n t).toArray⟩:ByteArray)++(⟨(tagL K0 V0 n h (laidL K0 V0 n t)).toArray⟩:ByteArray)=⟨(sealL K0 V0 n h t).toArray⟩:=ba_app _ _;have s1:=ba_size (laidL K0 V0 n t);have s2:=ba_size (tagL K0 V0 n h (laidL K0 V0 n t));rw[laidL_len]at s1;rw[tagL_len]at s2;generalize (⟨(tagL K0 V0 n h (laidL K0 V0 n t)).toArray⟩:ByteArray)=TG at *;generalize (⟨(laidL K0 V0 n t).toArray⟩:ByteArray)=LD at *;generalize (⟨(sealL K0 V0 n h t).toArray⟩:ByteArray)=R at *;generalize (⟨(nonceL V0 n).toArray⟩:ByteArray)=NN at *;generalize (⟨h.toArray⟩:ByteArray)=HH at *;generalize (⟨t.toArray⟩:ByteArray)=TT at *;have s1:(LD.size:Int)≤10000:=by omega
 clear hK;obtain⟨Kb,hK⟩:∃x:ByteArray,⟨K0.toArray⟩=x:=⟨_,rfl⟩;obtain⟨Vb,hVV⟩:∃x:ByteArray,⟨V0.toArray⟩=x:=⟨_,rfl⟩;obtain⟨Mb,hM⟩:∃x:ByteArray,⟨M0.toArray⟩=x:=⟨_,rfl⟩;rw[hK,hVV,hM]at CN CT;rw[hK]at CS;rw[hK,hVV,hM];clear hK hVV hM hV hn;have HX0:Hid (DK (w.alloc (.cells #[.string Kb,.string Vb,.string Mb] 31)) w.heap.size Kb Vb Mb∧Below w.heap.size w (w.alloc (.cells #[.string Kb,.string Vb,.string Mb] 31))):=zh ⟨heap_alloc_new w _,(Below.refl _ _).alloc zle _⟩;obtain⟨p0,p1,p2⟩:=HX0.out.1.cells;have HD0:Hid (DK (w.alloc (.cells #[.string Kb,.string Vb,.string Mb] 31)).drew w.heap.size Kb Vb Mb∧Below w.heap.size w (w.alloc (.cells #[.string Kb,.string Vb,.string Mb] 31)).drew):=zh ⟨HX0.out.1,HX0.out.2.drew⟩;go_enter Tryz.func21,Tryz.ntmps21;go_wp2_with fail
 refine wp_region_noPanic ?_;refine wp_region_held_drew (S:=fun W:World=>DK W w.heap.size Kb Vb Mb∧Below w.heap.size w W) (by kernel_rfl) ?_ (fun hHeld=>?_)
 ·exact HD0.out
 iterate 5
  refine zqb [0,1,2,3,5] rfl rfl ?_ ?_ ?_;rotate_left
  ·(intro w hSw;obtain⟨hsk,hsb⟩:=hSw;obtain⟨q0,q1,q2⟩:=hsk.cells;go_simp;(try with_reducible rfl))
  try simp only[Act.put,J1,J2,J3,J4,J5,J6]
 refine zqf [4] (AllReadyH.cons rfl (fun K hK=>?_) AllReadyH.nil);rw[if_pos (by rfl)];go_simp;with_reducible refine (CN.out _).mono ?_
 rintro e1 y1 ⟨rfl,hb⟩;have HS1:Hid (DK y1 w.heap.size Kb Vb Mb∧Below w.heap.size w y1):=zh ⟨HD0.out.1.keep hb HD0.out.1.lt,HD0.out.2.trans (hb.mono HD0.out.2.size)⟩;clear hb;refine hK.out _ _ ?_ (fun hHeld=>?_)
 ·exact HS1.out
 clear hK K
 try simp only[Act.put,J1,J2,J3,J4,J5,J6]
 refine zqf [6] (AllReadyH.cons rfl (fun K hK=>?_) AllReadyH.nil);rw[if_pos (by rfl)];go_simp;with_reducible refine (CS.out _).mono ?_
 rintro e2 y2 ⟨rfl,hb⟩;have HS2:Hid (DK y2 w.heap.size Kb Vb Mb∧Below w.heap.size w y2):=zh ⟨HS1.out.1.keep hb HS1.out.1.lt,HS1.out.2.trans (hb.mono HS1.out.2.size)⟩;clear hb;refine hK.out _ _ ?_ (fun hHeld=>?_)
 ·exact HS2.out
 clear hK K
 try simp only[Act.put,J1,J2,J3,J4,J5,J6]
 refine zqa 7 rfl ?_ ?_ ?_;rotate_left
 ·(intro w hSw;obtain⟨hsk,hsb⟩:=hSw;obtain⟨q0,q1,q2⟩:=hsk.cells;go_simp;(try with_reducible rfl))
 try simp only[Act.put,J1,J2,J3,J4,J5,J6]
 refine zqe (NoPanic.normal ?_);have HX2:=zh hHeld;obtain⟨p0,p1,p2⟩:=HX2.out.1.cells;clear hHeld;go_wp2_with fail
 with_reducible refine (CT.out _).mono ?_
 rintro f3 z3 ⟨rfl,hb⟩;have HX3:Hid (DK z3 w.heap.size Kb Vb Mb∧Below w.heap.size w z3):=zh ⟨HX2.out.1.keep hb HX2.out.1.lt,HX2.out.2.trans (hb.mono HX2.out.2.size)⟩;clear hb;go_wp2_with fail
 go_ret
 exact⟨rfl,HX3.out.2⟩
theorem dopen_short(K0 V0 M0:List UInt8)(n:Nat)(h t:List UInt8)(w:World)(ht:t.length<16) :
 Calls Tryz.prog 18 #[.agg #[.string ⟨K0.toArray⟩,.string ⟨V0.toArray⟩,.string ⟨M0.toArray⟩],.int .u64 n,.string ⟨h.toArray⟩,.string ⟨t.toArray⟩] w fun e w'=>e=.returned (.tuple #[.string ⟨#[]⟩,.int .i64 90])∧Below w.heap.size w w':=by
 have s1:=ba_size t;have hI:((⟨t.toArray⟩:ByteArray).size:Int)-16<0:=by omega
 have hI0:((⟨t.toArray⟩:ByteArray).size:Int)<16:=by omega
 generalize (⟨h.toArray⟩:ByteArray)=HH at *;generalize (⟨t.toArray⟩:ByteArray)=TT at *;obtain⟨Kb,hK⟩:∃x:ByteArray,⟨K0.toArray⟩=x:=⟨_,rfl⟩;obtain⟨Vb,hVV⟩:∃x:ByteArray,⟨V0.toArray⟩=x:=⟨_,rfl⟩;obtain⟨Mb,hM⟩:∃x:ByteArray,⟨M0.toArray⟩=x:=⟨_,rfl⟩;rw[hK,hVV,hM];clear hK hVV hM s1 ht;have HX0:Hid (DK (w.alloc (.cells #[.string Kb,.string Vb,.string Mb] 31)) w.heap.size Kb Vb Mb∧Below w.heap.size w (w.alloc (.cells #[.string Kb,.string Vb,.string Mb] 31))):=zh ⟨heap_alloc_new w _,(Below.refl _ _).alloc zle _⟩;obtain⟨p0,p1,p2⟩:=HX0.out.1.cells;have HD0:Hid (DK (w.alloc (.cells #[.string Kb,.string Vb,.string Mb] 31)).drew w.heap.size Kb Vb Mb∧Below w.heap.size w (w.alloc (.cells #[.string Kb,.string Vb,.string Mb] 31)).drew):=zh ⟨HX0.out.1,HX0.out.2.drew⟩;go_enter Tryz.func18,Tryz.ntmps18;go_wp2_with fail
 refine wp_region_noPanic ?_;refine wp_region_held_drew (S:=fun W:World=>DK W w.heap.size Kb Vb Mb∧Below w.heap.size w W) (by kernel_rfl) ?_ (fun hHeld=>?_)
 ·exact HD0.out
 iterate 3
  refine zqb [0,1,2] rfl rfl ?_ ?_ ?_;rotate_left
  ·(intro w hSw;obtain⟨hsk,hsb⟩:=hSw;obtain⟨q0,q1,q2⟩:=hsk.cells;go_simp;(try with_reducible rfl))
  try simp only[Act.put,J1,J2,J3,J4,J5,J6]
 refine zqc 3 rfl ?_
 try simp only[Act.put,J1,J2,J3,J4,J5,J6]
 refine zqc 4 rfl ?_
 try simp only[Act.put,J1,J2,J3,J4,J5,J6]
 refine zqc 5 rfl ?_
 try simp only[Act.put,J1,J2,J3,J4,J5,J6]
 refine zqc 6 rfl ?_
 try simp only[Act.put,J1,J2,J3,J4,J5,J6]
 refine zqc 7 rfl ?_
 try simp only[Act.put,J1,J2,J3,J4,J5,J6]
 refine zqc 8 rfl ?_
 try simp only[Act.put,J1,J2,J3,J4,J5,J6]
 refine zqc 9 rfl ?_
 try simp only[Act.put,J1,J2,J3,J4,J5,J6]
 refine zqc 10 rfl ?_
 try simp only[Act.put,J1,J2,J3,J4,J5,J6]
 refine zqc 11 rfl ?_
 try simp only[Act.put,J1,J2,J3,J4,J5,J6]
 refine zqc 12 rfl ?_
 try simp only[Act.put,J1,J2,J3,J4,J5,J6]
 refine zqc 13 rfl ?_
 try simp only[Act.put,J1,J2,J3,J4,J5,J6]
 refine zqa 14 rfl ?_ ?_ ?_;rotate_left
 ·(intro w hSw;obtain⟨hsk,hsb⟩:=hSw;obtain⟨q0,q1,q2⟩:=hsk.cells;go_simp;(try with_reducible rfl))
 try simp only[Act.put,J1,J2,J3,J4,J5,J6]
 refine zqe (NoPanic.normal ?_);go_wp2_with fail
 go_ret2
 exact⟨rfl,hHeld.2⟩
theorem dopen_yes(K0 V0 M0:List UInt8)(n E:Nat)(h t:List UInt8)(w:World)(hK:K0.length≤1000)(hV:V0.length≤1000)(hn:n<18446744073709551616)(hh:h.length≤10000)(ht:t.length≤10000)(hE:t.length=E+16)(hc:(t.drop E==tagL K0 V0 n h (t.take E))=true) :
 Calls Tryz.prog 18 #[.agg #[.string ⟨K0.toArray⟩,.string ⟨V0.toArray⟩,.string ⟨M0.toArray⟩],.int .u64 n,.string ⟨h.toArray⟩,.string ⟨t.toArray⟩] w fun e w'=>e=.returned (.tuple #[.string ⟨(laidL K0 V0 n (t.take E)).toArray⟩,.int .i64 0])∧Below w.heap.size w w':=by
 have CT:=zh (fun W=>dtag_any K0 V0 M0 n h (t.take E) W hK hV hn hh (by rw[List.length_take];omega));have CN:Hid (∀W:World,Calls Tryz.prog 47 #[.agg #[.string ⟨K0.toArray⟩,.string ⟨V0.toArray⟩,.string ⟨M0.toArray⟩],.int .u64 n] W fun e w'=>e=.returned (.string ⟨(nonceL V0 n).toArray⟩)∧Below W.heap.size W w'):=zh (fun W=>dnonce_any K0 V0 M0 n W hV hn);have CS:Hid (∀W:World,Calls Tryz.prog 13 #[.string ⟨K0.toArray⟩,.string ⟨(nonceL V0 n).toArray⟩,.int .u32 1,.string ⟨(t.take E).toArray⟩] W fun e w'=>e=.returned (.string ⟨(laidL K0 V0 n (t.take E)).toArray⟩)∧Below W.heap.size W w'):=zh (fun W=>dstream_any ⟨K0.toArray⟩ ⟨(nonceL V0 n).toArray⟩ 1 ⟨(t.take E).toArray⟩ W (by rw[ba_size];omega) (by rw[ba_size];have:=nonceL_len V0 n;omega) (by decide) (by rw[ba_size,List.length_take];omega));have s1:=ba_size t;rw[hE]at s1;have e1:=ba_take t E;have e2:=ba_drop t E (E+16) hE.symm;have hcb0:=ba_eq (t.drop E) (tagL K0 V0 n h (t.take E));rw[hc]at hcb0;have hcb1:=(ba_eq (tagL K0 V0 n h (t.take E)) (t.drop E)).trans (BEq.comm.trans hc);generalize (⟨(laidL K0 V0 n (t.take E)).toArray⟩:ByteArray)=R at *;generalize (⟨(nonceL V0 n).toArray⟩:ByteArray)=NN at *;generalize (⟨(tagL K0 V0 n h (t.take E)).toArray⟩:ByteArray)=TG at *;generalize (⟨(t.take E).toArray⟩:ByteArray)=TE at *;generalize (⟨(t.drop E).toArray⟩:ByteArray)=TD at *;generalize (⟨h.toArray⟩:ByteArray)=HH at *;generalize (⟨t.toArray⟩:ByteArray)=TT at *;have hE2:(TT.size:Int)-16=(E:Int):=by omega
 have hE3:¬((E:Int)<0):=by omega
 have hE4:(E:Int)≤10000:=by omega
 have hE5:(E:Int)≤(E:Int)+16:=by omega
 have hE6:(0:Int)≤(E:Int):=by omega
 have hcb2:(TD.toList==TG.toList)=true:=hcb0;have hcb3:(TG.toList==TD.toList)=true:=hcb1;clear hK hc hcb0 hcb1;obtain⟨Kb,hK⟩:∃x:ByteArray,⟨K0.toArray⟩=x:=⟨_,rfl⟩;obtain⟨Vb,hVV⟩:∃x:ByteArray,⟨V0.toArray⟩=x:=⟨_,rfl⟩;obtain⟨Mb,hM⟩:∃x:ByteArray,⟨M0.toArray⟩=x:=⟨_,rfl⟩;rw[hK,hVV,hM]at CT;rw[hK,hVV,hM]at CN;rw[hK]at CS;rw[hK,hVV,hM];clear hK hVV hM hV hn hh ht hE;have HX0:Hid (DK (w.alloc (.cells #[.string Kb,.string Vb,.string Mb] 31)) w.heap.size Kb Vb Mb∧Below w.heap.size w (w.alloc (.cells #[.string Kb,.string Vb,.string Mb] 31))):=zh ⟨heap_alloc_new w _,(Below.refl _ _).alloc zle _⟩;obtain⟨p0,p1,p2⟩:=HX0.out.1.cells;have HD0:Hid (DK (w.alloc (.cells #[.string Kb,.string Vb,.string Mb] 31)).drew w.heap.size Kb Vb Mb∧Below w.heap.size w (w.alloc (.cells #[.string Kb,.string Vb,.string Mb] 31)).drew):=zh ⟨HX0.out.1,HX0.out.2.drew⟩;go_enter Tryz.func18,Tryz.ntmps18;go_wp2_with fail
 refine wp_region_noPanic ?_;refine wp_region_held_drew (S:=fun W:World=>DK W w.heap.size Kb Vb Mb∧Below w.heap.size w W) (by kernel_rfl) ?_ (fun hHeld=>?_)
 ·exact HD0.out
 iterate 12
  refine zqb [0,1,2,3,4,5,6,7,8,10,11,12] rfl rfl ?_ ?_ ?_;rotate_left
  ·(intro w hSw;obtain⟨hsk,hsb⟩:=hSw;obtain⟨q0,q1,q2⟩:=hsk.cells;go_simp;(try with_reducible rfl))
  try simp only[Act.put,J1,J2,J3,J4,J5,J6]
 refine zqf [9] (AllReadyH.cons rfl (fun K hK=>?_) AllReadyH.nil);rw[if_pos (by rfl)];go_simp;with_reducible refine (CT.out _).mono ?_
 rintro e1 y1 ⟨rfl,hb⟩;have HS1:Hid (DK y1 w.heap.size Kb Vb Mb∧Below w.heap.size w y1):=zh ⟨HD0.out.1.keep hb HD0.out.1.lt,HD0.out.2.trans (hb.mono HD0.out.2.size)⟩;clear hb;refine hK.out _ _ ?_ (fun hHeld=>?_)
 ·exact HS1.out
 clear hK K
 try simp only[Act.put,J1,J2,J3,J4,J5,J6]
 iterate 2
  refine zqb [13,14] rfl rfl ?_ ?_ ?_;rotate_left
  ·(intro w hSw;obtain⟨hsk,hsb⟩:=hSw;obtain⟨q0,q1,q2⟩:=hsk.cells;go_simp;(try with_reducible rfl))
  try simp only[Act.put,J1,J2,J3,J4,J5,J6]
 refine zqe (NoPanic.normal ?_);have HX5:=zh hHeld;obtain⟨v0,v1,v2⟩:=HX5.out.1.cells;have HD5:Hid (DK y1.drew w.heap.size Kb Vb Mb∧Below w.heap.size w y1.drew):=zh ⟨HX5.out.1,HX5.out.2.drew⟩;clear hHeld HS1;go_wp2_with fail
 refine wp_region_noPanic ?_;refine wp_region_held_drew (S:=fun W:World=>DK W w.heap.size Kb Vb Mb∧Below w.heap.size w W) (by kernel_rfl) ?_ (fun hHeld=>?_)
 ·exact HD5.out
 iterate 7
  refine zqb [0,1,2,3,5,6,7] rfl rfl ?_ ?_ ?_;rotate_left
  ·(intro w hSw;obtain⟨hsk,hsb⟩:=hSw;obtain⟨q0,q1,q2⟩:=hsk.cells;go_simp;(try with_reducible rfl))
  try simp only[Act.put,J1,J2,J3,J4,J5,J6]
 refine zqf [4] (AllReadyH.cons rfl (fun K hK=>?_) AllReadyH.nil);rw[if_pos (by rfl)];go_simp;with_reducible refine (CN.out _).mono ?_
 rintro e1 y1 ⟨rfl,hb⟩;have HS1:Hid (DK y1 w.heap.size Kb Vb Mb∧Below w.heap.size w y1):=zh ⟨HD5.out.1.keep hb HD5.out.1.lt,HD5.out.2.trans (hb.mono HD5.out.2.size)⟩;clear hb;refine hK.out _ _ ?_ (fun hHeld=>?_)
 ·exact HS1.out
 clear hK K
 try simp only[Act.put,J1,J2,J3,J4,J5,J6]
 refine zqf [8] (AllReadyH.cons rfl (fun K hK=>?_) AllReadyH.nil);rw[if_pos (by rfl)];go_simp;with_reducible refine (CS.out _).mono ?_
 rintro e2 y2 ⟨rfl,hb⟩;have HS2:Hid (DK y2 w.heap.size Kb Vb Mb∧Below w.heap.size w y2):=zh ⟨HS1.out.1.keep hb HS1.out.1.lt,HS1.out.2.trans (hb.mono HS1.out.2.size)⟩;clear hb;refine hK.out _ _ ?_ (fun hHeld=>?_)
 ·exact HS2.out
 clear hK K
 try simp only[Act.put,J1,J2,J3,J4,J5,J6]
 iterate 2
  refine zqb [9,10] rfl rfl ?_ ?_ ?_;rotate_left
  ·(intro w hSw;obtain⟨hsk,hsb⟩:=hSw;obtain⟨q0,q1,q2⟩:=hsk.cells;go_simp;(try with_reducible rfl))
  try simp only[Act.put,J1,J2,J3,J4,J5,J6]
 refine zqe (NoPanic.normal ?_);go_wp2_with fail
 go_ret2
 exact⟨rfl,hHeld.2⟩
theorem dopen_no(K0 V0 M0:List UInt8)(n E:Nat)(h t:List UInt8)(w:World)(hK:K0.length≤1000)(hV:V0.length≤1000)(hn:n<18446744073709551616)(hh:h.length≤10000)(ht:t.length≤10000)(hE:t.length=E+16)(hc:(t.drop E==tagL K0 V0 n h (t.take E))=false) :
 Calls Tryz.prog 18 #[.agg #[.string ⟨K0.toArray⟩,.string ⟨V0.toArray⟩,.string ⟨M0.toArray⟩],.int .u64 n,.string ⟨h.toArray⟩,.string ⟨t.toArray⟩] w fun e w'=>e=.returned (.tuple #[.string ⟨#[]⟩,.int .i64 90])∧Below w.heap.size w w':=by
 have CT:=zh (fun W=>dtag_any K0 V0 M0 n h (t.take E) W hK hV hn hh (by rw[List.length_take];omega));have s1:=ba_size t;rw[hE]at s1;have e1:=ba_take t E;have e2:=ba_drop t E (E+16) hE.symm;have hcb0:=ba_eq (t.drop E) (tagL K0 V0 n h (t.take E));rw[hc]at hcb0;have hcb1:=(ba_eq (tagL K0 V0 n h (t.take E)) (t.drop E)).trans (BEq.comm.trans hc);generalize (⟨(tagL K0 V0 n h (t.take E)).toArray⟩:ByteArray)=TG at *;generalize (⟨(t.take E).toArray⟩:ByteArray)=TE at *;generalize (⟨(t.drop E).toArray⟩:ByteArray)=TD at *;generalize (⟨h.toArray⟩:ByteArray)=HH at *;generalize (⟨t.toArray⟩:ByteArray)=TT at *;have hE2:(TT.size:Int)-16=(E:Int):=by omega
 have hE3:¬((E:Int)<0):=by omega
 have hE4:(E:Int)≤10000:=by omega
 have hE5:(E:Int)≤(E:Int)+16:=by omega
 have hE6:(0:Int)≤(E:Int):=by omega
 have hcb2:(TD.toList==TG.toList)=false:=hcb0;have hcb3:(TG.toList==TD.toList)=false:=hcb1;clear hK hc hcb0 hcb1;obtain⟨Kb,hK⟩:∃x:ByteArray,⟨K0.toArray⟩=x:=⟨_,rfl⟩;obtain⟨Vb,hVV⟩:∃x:ByteArray,⟨V0.toArray⟩=x:=⟨_,rfl⟩;obtain⟨Mb,hM⟩:∃x:ByteArray,⟨M0.toArray⟩=x:=⟨_,rfl⟩;rw[hK,hVV,hM]at CT;rw[hK,hVV,hM];clear hK hVV hM hV hn hh ht hE;have HX0:Hid (DK (w.alloc (.cells #[.string Kb,.string Vb,.string Mb] 31)) w.heap.size Kb Vb Mb∧Below w.heap.size w (w.alloc (.cells #[.string Kb,.string Vb,.string Mb] 31))):=zh ⟨heap_alloc_new w _,(Below.refl _ _).alloc zle _⟩;obtain⟨p0,p1,p2⟩:=HX0.out.1.cells;have HD0:Hid (DK (w.alloc (.cells #[.string Kb,.string Vb,.string Mb] 31)).drew w.heap.size Kb Vb Mb∧Below w.heap.size w (w.alloc (.cells #[.string Kb,.string Vb,.string Mb] 31)).drew):=zh ⟨HX0.out.1,HX0.out.2.drew⟩;go_enter Tryz.func18,Tryz.ntmps18;go_wp2_with fail
 refine wp_region_noPanic ?_;refine wp_region_held_drew (S:=fun W:World=>DK W w.heap.size Kb Vb Mb∧Below w.heap.size w W) (by kernel_rfl) ?_ (fun hHeld=>?_)
 ·exact HD0.out
 iterate 12
  refine zqb [0,1,2,3,4,5,6,7,8,10,11,12] rfl rfl ?_ ?_ ?_;rotate_left
  ·(intro w hSw;obtain⟨hsk,hsb⟩:=hSw;obtain⟨q0,q1,q2⟩:=hsk.cells;go_simp;(try with_reducible rfl))
  try simp only[Act.put,J1,J2,J3,J4,J5,J6]
 refine zqf [9] (AllReadyH.cons rfl (fun K hK=>?_) AllReadyH.nil);rw[if_pos (by rfl)];go_simp;with_reducible refine (CT.out _).mono ?_
 rintro e1 y1 ⟨rfl,hb⟩;have HS1:Hid (DK y1 w.heap.size Kb Vb Mb∧Below w.heap.size w y1):=zh ⟨HD0.out.1.keep hb HD0.out.1.lt,HD0.out.2.trans (hb.mono HD0.out.2.size)⟩;clear hb;refine hK.out _ _ ?_ (fun hHeld=>?_)
 ·exact HS1.out
 clear hK K
 try simp only[Act.put,J1,J2,J3,J4,J5,J6]
 iterate 2
  refine zqb [13,14] rfl rfl ?_ ?_ ?_;rotate_left
  ·(intro w hSw;obtain⟨hsk,hsb⟩:=hSw;obtain⟨q0,q1,q2⟩:=hsk.cells;go_simp;(try with_reducible rfl))
  try simp only[Act.put,J1,J2,J3,J4,J5,J6]
 refine zqe (NoPanic.normal ?_);go_wp2_with fail
 go_ret2
 exact⟨rfl,hHeld.2⟩
theorem dopen_any(K0 V0 M0:List UInt8)(n:Nat)(h t:List UInt8)(w:World)(hK:K0.length≤1000)(hV:V0.length≤1000)(hn:n<18446744073709551616)(hh:h.length≤10000)(ht:t.length≤10000) :
 Calls Tryz.prog 18 #[.agg #[.string ⟨K0.toArray⟩,.string ⟨V0.toArray⟩,.string ⟨M0.toArray⟩],.int .u64 n,.string ⟨h.toArray⟩,.string ⟨t.toArray⟩] w fun e w'=>e=.returned (onV (openL K0 V0 n h t))∧Below w.heap.size w w':=by
 by_cases hs:t.length<16
 ·rw[openL_short hs];exact dopen_short K0 V0 M0 n h t w hs
 ·have hE:t.length=(t.length-16)+16:=by omega
  by_cases hc:t.drop (t.length-16)=tagL K0 V0 n h (t.take (t.length-16))
  ·rw[openL_yes (by omega) hc]
   exact dopen_yes K0 V0 M0 n (t.length-16) h t w hK hV hn hh ht hE (beq_iff_eq.2 hc)
  ·rw[openL_no hc]
   exact dopen_no K0 V0 M0 n (t.length-16) h t w hK hV hn hh ht hE (beq_eq_false_iff_ne.2 hc)
theorem dmask_ok(K0 V0 M0 sm:List UInt8)(w:World)(hM0:M0.length≤1000)(hs:sm.length=16) :
 Calls Tryz.prog 20 #[.agg #[.string ⟨K0.toArray⟩,.string ⟨V0.toArray⟩,.string ⟨M0.toArray⟩],.string ⟨sm.toArray⟩] w fun e w'=>e=.returned (.tuple #[.string ⟨(maskL M0 sm).toArray⟩,.int .i64 0])∧Below w.heap.size w w':=by
 have CN:Hid (∀W:World,Calls Tryz.prog 38 #[.string ⟨sm.toArray⟩,.int .i64 0] W fun e w'=>e=.returned (.int .u64 (lw sm 0:Nat))∧Below W.heap.size W w'):=zh (fun W=>(word_ref ⟨sm.toArray⟩ 0 W (by rw[ba_size];omega) (by decide)).mono fun e w' ⟨h1,h2⟩=>⟨h1,by rw[h2];exact Below.refl _ _⟩);have CB:Hid (∀W:World,Calls Tryz.prog 12 #[.string ⟨M0.toArray⟩,.string ⟨(sm.drop 4).toArray⟩,.int .u32 (lw sm 0:Nat)] W fun e w'=>e=.returned (.string ⟨(blk M0 (sm.drop 4) (lw sm 0)).toArray⟩)∧Below W.heap.size W w'):=zh (fun W=>dblock_any ⟨M0.toArray⟩ ⟨(sm.drop 4).toArray⟩ (lw sm 0) W (by rw[ba_size];omega) (by rw[ba_size,List.length_drop];omega) (lw_lt _ _));have e2:=ba_drop sm 4 16 hs.symm;have s1:=ba_size sm;rw[hs]at s1;have e3:(⟨(blk M0 (sm.drop 4) (lw sm 0)).toArray⟩:ByteArray).extract 0 5=⟨(maskL M0 sm).toArray⟩:=ba_take _ 5;have s3:=ba_size (blk M0 (sm.drop 4) (lw sm 0));rw[blk_len]at s3;have hl:=lw_lt sm 0;generalize (⟨(blk M0 (sm.drop 4) (lw sm 0)).toArray⟩:ByteArray)=BB at *;generalize (⟨(maskL M0 sm).toArray⟩:ByteArray)=R at *;generalize (⟨(sm.drop 4).toArray⟩:ByteArray)=S12 at *;generalize (⟨sm.toArray⟩:ByteArray)=SM at *;generalize lw sm 0=cn at *;have hwr:IntKind.u32.wrap (cn:Int)=(cn:Int):=by rw[IntKind.wrap_u32];omega
 have hwr2:(cn:Int)%4294967296=(cn:Int):=by omega
 have hI:(SM.size:Int)=16:=by omega
 obtain⟨Kb,hK⟩:∃x:ByteArray,⟨K0.toArray⟩=x:=⟨_,rfl⟩;obtain⟨Vb,hVV⟩:∃x:ByteArray,⟨V0.toArray⟩=x:=⟨_,rfl⟩;obtain⟨Mb,hM⟩:∃x:ByteArray,⟨M0.toArray⟩=x:=⟨_,rfl⟩;rw[hM]at CB;rw[hK,hVV,hM];clear hK hVV hM hM0 hs hl;have HX0:Hid (DK (w.alloc (.cells #[.string Kb,.string Vb,.string Mb] 31)) w.heap.size Kb Vb Mb∧Below w.heap.size w (w.alloc (.cells #[.string Kb,.string Vb,.string Mb] 31))):=zh ⟨heap_alloc_new w _,(Below.refl _ _).alloc zle _⟩;obtain⟨p0,p1,p2⟩:=HX0.out.1.cells;have HD0:Hid (DK (w.alloc (.cells #[.string Kb,.string Vb,.string Mb] 31)).drew w.heap.size Kb Vb Mb∧Below w.heap.size w (w.alloc (.cells #[.string Kb,.string Vb,.string Mb] 31)).drew):=zh ⟨HX0.out.1,HX0.out.2.drew⟩;go_enter Tryz.func20,Tryz.ntmps20;go_wp2_with fail
 refine wp_region_noPanic ?_;refine wp_region_held_drew (S:=fun W:World=>DK W w.heap.size Kb Vb Mb∧Below w.heap.size w W) (by kernel_rfl) ?_ (fun hHeld=>?_)
 ·exact HD0.out
 iterate 5
  refine zqb [0,1,2,3,4] rfl rfl ?_ ?_ ?_;rotate_left
  ·(intro w hSw;obtain⟨hsk,hsb⟩:=hSw;obtain⟨q0,q1,q2⟩:=hsk.cells;go_simp;(try with_reducible rfl))
  try simp only[Act.put,J1,J2,J3,J4,J5,J6]
 refine zqf [5] (AllReadyH.cons rfl (fun K hK=>?_) AllReadyH.nil);rw[if_pos (by rfl)];go_simp;with_reducible refine (CN.out _).mono ?_
 rintro e1 y1 ⟨rfl,hb⟩;have HS1:Hid (DK y1 w.heap.size Kb Vb Mb∧Below w.heap.size w y1):=zh ⟨HD0.out.1.keep hb HD0.out.1.lt,HD0.out.2.trans (hb.mono HD0.out.2.size)⟩;clear hb;refine hK.out _ _ ?_ (fun hHeld=>?_)
 ·exact HS1.out
 clear hK K
 try simp only[Act.put,J1,J2,J3,J4,J5,J6]
 refine zqa 6 rfl ?_ ?_ ?_;rotate_left
 ·(intro w hSw;obtain⟨hsk,hsb⟩:=hSw;obtain⟨q0,q1,q2⟩:=hsk.cells;go_simp;(try with_reducible rfl))
 try simp only[Act.put,J1,J2,J3,J4,J5,J6]
 refine zqf [7] (AllReadyH.cons rfl (fun K hK=>?_) AllReadyH.nil);rw[if_pos (by rfl)];go_simp;with_reducible refine (CB.out _).mono ?_
 rintro e2 y2 ⟨rfl,hb⟩;have HS2:Hid (DK y2 w.heap.size Kb Vb Mb∧Below w.heap.size w y2):=zh ⟨HS1.out.1.keep hb HS1.out.1.lt,HS1.out.2.trans (hb.mono HS1.out.2.size)⟩;clear hb;refine hK.out _ _ ?_ (fun hHeld=>?_)
 ·exact HS2.out
 clear hK K
 try simp only[Act.put,J1,J2,J3,J4,J5,J6]
 iterate 3
  refine zqb [8,9,10] rfl rfl ?_ ?_ ?_;rotate_left
  ·(intro w hSw;obtain⟨hsk,hsb⟩:=hSw;obtain⟨q0,q1,q2⟩:=hsk.cells;go_simp;(try with_reducible rfl))
  try simp only[Act.put,J1,J2,J3,J4,J5,J6]
 refine zqe (NoPanic.normal ?_);go_wp2_with fail
 go_ret2
 exact⟨rfl,hHeld.2⟩
end Go.Proofs.YtagbkmoahflfdaaGreatDoor.Se
