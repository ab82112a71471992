import Derived.Test.YtagbkmoahflfdaaGreatDoorJp01
import Derived.Test.YtagbkmoahflfdaaGreatDoorJp19
import Derived.Test.YtagbkmoahflfdaaGreatDoorJp20
import Derived.Test.YtagbkmoahflfdaaGreatDoorJp04
import Derived.Test.YtagbkmoahflfdaaGreatDoorJp08
import Derived.Deep.RegionHeld3
import Derived.Laws.BytesArg
set_option maxHeartbeats 4000000
set_option maxRecDepth 20000
set_option linter.unusedVariables false
set_option linter.unusedSimpArgs false
namespace Go.Proofs.YtagbkmoahflfdaaGreatDoor.Hd
open Tk Go.RowKit Vm
def by1 (n:Nat):UInt8:=UInt8.ofNat n
def lpL (ty ve:Int) (dc sc tk:List UInt8) (le:Int):List UInt8:=
 fx ve.toNat 4++by1 dc.length::dc++by1 sc.length::sc++(if ty=0 then ps tk.length++tk else [])++ps le.toNat
theorem Box.lt{b:Nat}{x0 x1 x2 x3 x4 x5 x6 x7 x8 x9 x10:Value}{w0 w:World}(h:Box b x0 x1 x2 x3 x4 x5 x6 x7 x8 x9 x10 w0 w):b<w.heap.size:=h.2.2.2.2.2.2.2.2.2.2.2.2
theorem Box.up{b:Nat}{x0 x1 x2 x3 x4 x5 x6 x7 x8 x9 x10:Value}{w0 w w1:World}(h:Box b x0 x1 x2 x3 x4 x5 x6 x7 x8 x9 x10 w0 w){n:Nat}(hb:Below n w w1)(hn:b<n):Box b x0 x1 x2 x3 x4 x5 x6 x7 x8 x9 x10 w0 w1:=by
 obtain⟨h0,h1,h2,h3,h4,h5,h6,h7,h8,h9,h10,hB,hs⟩:=h;exact⟨(hb.cell (p:=⟨b,0,none⟩) hn).trans h0,(hb.cell (p:=⟨b,1,none⟩) hn).trans h1,(hb.cell (p:=⟨b,2,none⟩) hn).trans h2,(hb.cell (p:=⟨b,3,none⟩) hn).trans h3,(hb.cell (p:=⟨b,4,none⟩) hn).trans h4,(hb.cell (p:=⟨b,5,none⟩) hn).trans h5,(hb.cell (p:=⟨b,6,none⟩) hn).trans h6,(hb.cell (p:=⟨b,7,none⟩) hn).trans h7,(hb.cell (p:=⟨b,8,none⟩) hn).trans h8,(hb.cell (p:=⟨b,9,none⟩) hn).trans h9,(hb.cell (p:=⟨b,10,none⟩) hn).trans h10,hB.trans (hb.mono (by omega)),by have:=hb.size;omega⟩
theorem Box.cell0{b:Nat}{x0 x1 x2 x3 x4 x5 x6 x7 x8 x9 x10:Value}{w0 w:World}(h:Box b x0 x1 x2 x3 x4 x5 x6 x7 x8 x9 x10 w0 w):w.cell? ⟨b,0,none⟩=some x0:=h.1
theorem Box.cell3{b:Nat}{x0 x1 x2 x3 x4 x5 x6 x7 x8 x9 x10:Value}{w0 w:World}(h:Box b x0 x1 x2 x3 x4 x5 x6 x7 x8 x9 x10 w0 w):w.cell? ⟨b,3,none⟩=some x3:=h.2.2.2.1
theorem Box.cell5{b:Nat}{x0 x1 x2 x3 x4 x5 x6 x7 x8 x9 x10:Value}{w0 w:World}(h:Box b x0 x1 x2 x3 x4 x5 x6 x7 x8 x9 x10 w0 w):w.cell? ⟨b,5,none⟩=some x5:=h.2.2.2.2.2.1
theorem Box.cell6{b:Nat}{x0 x1 x2 x3 x4 x5 x6 x7 x8 x9 x10:Value}{w0 w:World}(h:Box b x0 x1 x2 x3 x4 x5 x6 x7 x8 x9 x10 w0 w):w.cell? ⟨b,6,none⟩=some x6:=h.2.2.2.2.2.2.1
theorem Box.cell7{b:Nat}{x0 x1 x2 x3 x4 x5 x6 x7 x8 x9 x10:Value}{w0 w:World}(h:Box b x0 x1 x2 x3 x4 x5 x6 x7 x8 x9 x10 w0 w):w.cell? ⟨b,7,none⟩=some x7:=h.2.2.2.2.2.2.2.1
theorem Box.cell8{b:Nat}{x0 x1 x2 x3 x4 x5 x6 x7 x8 x9 x10:Value}{w0 w:World}(h:Box b x0 x1 x2 x3 x4 x5 x6 x7 x8 x9 x10 w0 w):w.cell? ⟨b,8,none⟩=some x8:=h.2.2.2.2.2.2.2.2.1
def LP (N:Nat) (l:List UInt8) (x0 x1 x2 x3 x4 x5 x6 x7 x8 x9 x10:Value) (w W:World):Prop:=
 Lib.IsBuilder 68 5 (N+1) (N+1) (Lib.byteCells l) W∧Box N x0 x1 x2 x3 x4 x5 x6 x7 x8 x9 x10 w W∧N+1≤W.heap.size
theorem LP.keep{N:Nat}{l:List UInt8}{x0 x1 x2 x3 x4 x5 x6 x7 x8 x9 x10:Value}{w W W':World}(h:LP N l x0 x1 x2 x3 x4 x5 x6 x7 x8 x9 x10 w W)(hb:Below W.heap.size W W'):LP N l x0 x1 x2 x3 x4 x5 x6 x7 x8 x9 x10 w W':=
 ⟨builder_below h.1 hb,h.2.1.keep hb,Nat.le_trans h.2.2 hb.size⟩
theorem LP.put{N:Nat}{l m:List UInt8}{x0 x1 x2 x3 x4 x5 x6 x7 x8 x9 x10:Value}{w W W':World}(h:LP N l x0 x1 x2 x3 x4 x5 x6 x7 x8 x9 x10 w W)(hi:Lib.IsBuilder 68 5 (N+1) (N+1) (Lib.byteCells l++Lib.strCells ⟨m.toArray⟩) W')(hb:Below (N+1) W W'):LP N (l++m) x0 x1 x2 x3 x4 x5 x6 x7 x8 x9 x10 w W':=
 ⟨by rw[Lib.byteCells_append];exact hi,h.2.1.up hb (Nat.lt_succ_self _),Nat.le_trans h.2.2 hb.size⟩
theorem LP.put1{N:Nat}{l:List UInt8}{c:Nat}{x0 x1 x2 x3 x4 x5 x6 x7 x8 x9 x10:Value}{w W W':World}(h:LP N l x0 x1 x2 x3 x4 x5 x6 x7 x8 x9 x10 w W)(hc:c≤20)(hi:Lib.IsBuilder 68 5 (N+1) (N+1) (Lib.byteCells l++[.int .u8 c]) W')(hb:Below (N+1) W W'):LP N (l++[by1 c]) x0 x1 x2 x3 x4 x5 x6 x7 x8 x9 x10 w W':=by
 refine⟨?_,h.2.1.up hb (Nat.lt_succ_self _),Nat.le_trans h.2.2 hb.size⟩;rw[Lib.byteCells_append]
 have e:Lib.byteCells [by1 c]=[.int .u8 c]:=by
  show [Value.int .u8 (((by1 c).toNat:Nat):Int)]=_;have:(by1 c).toNat=c:=by show (UInt8.ofNat c).toNat=c;rw[UInt8.toNat_ofNat'];omega
  rw[this]
 rw[e];exact hi
theorem LP.cells{N:Nat}{l:List UInt8}{x0 x1 x2 x3 x4 x5 x6 x7 x8 x9 x10:Value}{w W:World}(h:LP N l x0 x1 x2 x3 x4 x5 x6 x7 x8 x9 x10 w W):W.cell? ⟨N,3,none⟩=some x3∧W.cell? ⟨N,5,none⟩=some x5∧W.cell? ⟨N,6,none⟩=some x6∧W.cell? ⟨N,7,none⟩=some x7∧W.cell? ⟨N,8,none⟩=some x8:=
 ⟨h.2.1.cell3,h.2.1.cell5,h.2.1.cell6,h.2.1.cell7,h.2.1.cell8⟩
theorem LP.len{N:Nat}{l:List UInt8}{x0 x1 x2 x3 x4 x5 x6 x7 x8 x9 x10:Value}{w W:World}(h:LP N l x0 x1 x2 x3 x4 x5 x6 x7 x8 x9 x10 w W):Hid (Tab w→w.heap.size≤N→Tab W):=zh fun ht hN=>ht.below (h.2.1.bel.mono hN) ht.lt
theorem app_two(l m:List UInt8):((⟨l.toArray⟩:ByteArray)++(⟨m.toArray⟩:ByteArray))=⟨(l++m).toArray⟩:=by
 apply ByteArray.ext;simp
theorem ix0(x y:ByteArray)(w:World):(Instr.index 164 (.agg #[.string x,.string y]) (.int .i64 0)).run Tryz.prog w=.ok (.string x) w:=by kernel_rfl
theorem ix1(x y:ByteArray)(w:World):(Instr.index 164 (.agg #[.string x,.string y]) (.int .i64 1)).run Tryz.prog w=.ok (.string y) w:=by kernel_rfl
theorem ps_len(n:Nat):(ps n).length≤8:=by
 unfold ps
 split
 ·exact Nat.zero_le _
 ·rename_i h
  exact (pt_le n (by have:=pl_le n;omega)).2
theorem vfixedL(n:Int)(w:World)(h0:0≤n)(hn:n≤18446744073709551615) :
 Calls Tryz.prog 88 #[.int .u64 n,.int .i64 4] w fun e w'=>e=.returned (.string ⟨(fx n.toNat 4).toArray⟩)∧Below w.heap.size w w':=vfixed' n 4 w h0 hn (by decide) (by decide)
theorem sizedN(n:Nat)(w:World)(ht:Tab w) :
 Calls Tryz.prog 122 #[.int .u64 n] w fun e w'=>e=.returned (.string ⟨(ps n).toArray⟩)∧Below w.heap.size w w':=sized_any (n:Nat) w ht (Int.natCast_nonneg n)
theorem longParts_0(sp ph:Bool)(ve:Int)(dc sc tk:List UInt8)(le wi nu:Int)(w:World)(ht:Tab w) (wve:0≤ve)(wve2:ve≤4294967295)(kdc:dc.length≤20)(ksc:sc.length≤20)(ktk:tk.length≤1000)(wle:0≤le) :
 Calls Tryz.prog 86 #[.agg #[.bool true,.bool sp,.bool ph,.int .i64 0,.int .u32 ve,.string ⟨dc.toArray⟩,.string ⟨sc.toArray⟩,.string ⟨tk.toArray⟩,.int .u64 le,.int .i64 wi,.int .u64 nu]] w fun e w'=>e=.returned (.string ⟨(lpL 0 ve dc sc tk le).toArray⟩)∧Below w.heap.size w w':=by
 have hlt:=ht.lt;have HT:=zh ht;clear ht;obtain⟨N,hN⟩:∃N,N=w.heap.size:=⟨_,rfl⟩
 have H:Hid (LP w.heap.size [] (.bool true) (.bool sp) (.bool ph) (.int .i64 0) (.int .u32 ve) (.string ⟨dc.toArray⟩) (.string ⟨sc.toArray⟩) (.string ⟨tk.toArray⟩) (.int .u64 le) (.int .i64 wi) (.int .u64 nu) w ((w.alloc (.cells #[.bool true,.bool sp,.bool ph,.int .i64 0,.int .u32 ve,.string ⟨dc.toArray⟩,.string ⟨sc.toArray⟩,.string ⟨tk.toArray⟩,.int .u64 le,.int .i64 wi,.int .u64 nu] 101)).alloc (.cells #[.pointer none,.slice none 0 0] 68))):=zh (by
  have h1:=Lib.fresh_isBuilder 68 5 (w.alloc (.cells #[.bool true,.bool sp,.bool ph,.int .i64 0,.int .u32 ve,.string ⟨dc.toArray⟩,.string ⟨sc.toArray⟩,.string ⟨tk.toArray⟩,.int .u64 le,.int .i64 wi,.int .u64 nu] 101));rw[show (w.alloc (.cells #[.bool true,.bool sp,.bool ph,.int .i64 0,.int .u32 ve,.string ⟨dc.toArray⟩,.string ⟨sc.toArray⟩,.string ⟨tk.toArray⟩,.int .u64 le,.int .i64 wi,.int .u64 nu] 101)).heap.size=w.heap.size+1 by simp]at h1
  exact⟨h1,(Box.made w (.bool true) (.bool sp) (.bool ph) (.int .i64 0) (.int .u32 ve) (.string ⟨dc.toArray⟩) (.string ⟨sc.toArray⟩) (.string ⟨tk.toArray⟩) (.int .u64 le) (.int .i64 wi) (.int .u64 nu) 101).keep ((Below.refl _ _).alloc zle _),by simp⟩)
 have X0:=fun w=>ix0 ⟨dc.toArray⟩ ⟨sc.toArray⟩ w
 have X1:=fun w=>ix1 ⟨dc.toArray⟩ ⟨sc.toArray⟩ w
 go_enter Tryz.func86,Tryz.ntmps86;go_wp2_with fail
 refine (vfixedL ve _ wve (by omega)).mono ?_;rintro e w1 ⟨rfl,hb⟩;replace H:=zh (H.out.keep hb);clear hb;have f1:(fx ve.toNat 4).length=4:=fx_length _ _;obtain⟨l1,E1⟩:∃l,l=fx ve.toNat 4:=⟨_,rfl⟩;rw[←E1]at f1 ⊢;replace E1:=zh E1;go_wp2_with fail
 have hh:=H.out.2.2;have HL:Hid ((Lib.byteCells ([]:List UInt8)).length+(⟨(l1).toArray⟩:ByteArray).size≤140737488355328):=zh (by rw[Lib.byteCells_length,size_len];simp;omega);refine (Bld.writeString (w.heap.size+1) (w.heap.size+1) _ ⟨(l1).toArray⟩ _ H.out.1 HL.out hh).mono ?_;rintro e w1 ⟨rfl,hi,hb⟩;replace H:=zh (H.out.put hi hb);clear hi hb HL hh;obtain⟨m1,Em1⟩:∃l,l=[]++l1:=⟨_,rfl⟩;rw[←Em1]at H
 have fm1:m1.length=4:=by rw[Em1];simp<;>omega
 replace Em1:=zh Em1;obtain⟨d3,d5,d6,d7,d8⟩:=H.out.cells;go_wp2_with fail
 clear d3 d5 d6 d7 d8;refine wp_loop_rounds 3 ?_;rw[rounds_succ];go_wp2_with fail
 have hh:=H.out.2.2;have HL:Hid ((Lib.byteCells m1).length+1≤140737488355328):=zh (by rw[Lib.byteCells_length];omega);refine (Bld.writeByte (w.heap.size+1) (w.heap.size+1) _ dc.length _ H.out.1 HL.out hh).mono ?_;rintro e w1 ⟨rfl,hi,hb⟩;replace H:=zh (H.out.put1 kdc hi hb);clear hi hb HL hh;obtain⟨m2,Em2⟩:∃l,l=m1++[by1 dc.length]:=⟨_,rfl⟩;rw[←Em2]at H
 have fm2:m2.length=5:=by rw[Em2];simp<;>omega
 replace Em2:=zh Em2;go_wp2_with fail
 have hh:=H.out.2.2;have HL:Hid ((Lib.byteCells m2).length+(⟨(dc).toArray⟩:ByteArray).size≤140737488355328):=zh (by rw[Lib.byteCells_length,size_len];simp;omega);refine (Bld.writeString (w.heap.size+1) (w.heap.size+1) _ ⟨(dc).toArray⟩ _ H.out.1 HL.out hh).mono ?_;rintro e w1 ⟨rfl,hi,hb⟩;replace H:=zh (H.out.put hi hb);clear hi hb HL hh;obtain⟨m3,Em3⟩:∃l,l=m2++dc:=⟨_,rfl⟩;rw[←Em3]at H
 have fm3:m3.length=5+dc.length:=by rw[Em3];simp<;>omega
 replace Em3:=zh Em3;go_wp2;rw[rounds_succ];go_wp2_with fail
 have hh:=H.out.2.2;have HL:Hid ((Lib.byteCells m3).length+1≤140737488355328):=zh (by rw[Lib.byteCells_length];omega);refine (Bld.writeByte (w.heap.size+1) (w.heap.size+1) _ sc.length _ H.out.1 HL.out hh).mono ?_;rintro e w1 ⟨rfl,hi,hb⟩;replace H:=zh (H.out.put1 ksc hi hb);clear hi hb HL hh;obtain⟨m4,Em4⟩:∃l,l=m3++[by1 sc.length]:=⟨_,rfl⟩;rw[←Em4]at H
 have fm4:m4.length=6+dc.length:=by rw[Em4];simp<;>omega
 replace Em4:=zh Em4;go_wp2_with fail
 have hh:=H.out.2.2;have HL:Hid ((Lib.byteCells m4).length+(⟨(sc).toArray⟩:ByteArray).size≤140737488355328):=zh (by rw[Lib.byteCells_length,size_len];simp;omega);refine (Bld.writeString (w.heap.size+1) (w.heap.size+1) _ ⟨(sc).toArray⟩ _ H.out.1 HL.out hh).mono ?_;rintro e w1 ⟨rfl,hi,hb⟩;replace H:=zh (H.out.put hi hb);clear hi hb HL hh;obtain⟨m5,Em5⟩:∃l,l=m4++sc:=⟨_,rfl⟩;rw[←Em5]at H
 have fm5:m5.length=6+dc.length+sc.length:=by rw[Em5];simp<;>omega
 replace Em5:=zh Em5;obtain⟨d3,d5,d6,d7,d8⟩:=H.out.cells;go_wp2;rw[rounds_succ];go_wp2_with fail
 clear d3 d5 d6 d7 d8;have gt:=ps_len tk.length;have wt:IntKind.u64.wrap ((tk.length:Nat):Int)=((tk.length:Nat):Int):=by rw[IntKind.wrap_u64];omega
 have HD:=zh (H.out.keep (below_drew (Below.refl _ _)));refine wp_region_noPanic ?_;refine wp_region_held_drew (S:=fun w'=>Box w.heap.size (.bool true) (.bool sp) (.bool ph) (.int .i64 0) (.int .u32 ve) (.string ⟨dc.toArray⟩) (.string ⟨sc.toArray⟩) (.string ⟨tk.toArray⟩) (.int .u64 le) (.int .i64 wi) (.int .u64 nu) w w') (by kernel_rfl) ?_ (fun hHeld=>?_)
 ·exact HD.out.2.1
 clear H
 iterate 6
  refine zqb [0,1,2,3,5,6] rfl rfl ?_ ?_ ?_;rotate_left
  ·(intro w hSw;(try (obtain⟨hS0,hS1,hS2,hS3,hS4,hS5,hS6,hS7,hS8,hS9,hS10,hSb,hSs⟩:=hSw));go_simp;(try with_reducible rfl))
  try simp only[Act.put,J1,J2,J3,J4,J5,J6]
 refine zqf [4] (AllReadyH.cons rfl (fun K hK=>?_) AllReadyH.nil);rw[if_pos (by rfl)];go_simp;have HT2:=zh (HD.out.len.out HT.out zle);refine (sizedN tk.length _ HT2.out).mono ?_;rintro e w1 ⟨rfl,hb⟩;replace HD:=zh (HD.out.keep hb);clear hb;clear HT2;obtain⟨l6,E6⟩:∃l,l=ps tk.length:=⟨_,rfl⟩;rw[←E6]at gt ⊢;replace E6:=zh E6;have gs2:¬9223372036854775807<l6.length+tk.length:=by omega
 refine hK.out _ _ ?_ (fun hHeld=>?_)
 ·exact HD.out.2.1
 clear hK K
 try simp only[Act.put,J1,J2,J3,J4,J5,J6]
 refine zqa 7 rfl ?_ ?_ ?_;rotate_left
 ·(intro w hSw;(try (obtain⟨hS0,hS1,hS2,hS3,hS4,hS5,hS6,hS7,hS8,hS9,hS10,hSb,hSs⟩:=hSw));go_simp;(try with_reducible rfl))
 try simp only[Act.put,J1,J2,J3,J4,J5,J6]
 refine zqf [8] (AllReadyH.cons rfl (fun K hK=>?_) AllReadyH.nil);rw[if_pos (by rfl)];go_simp;have hh:=HD.out.2.2;have HL:Hid ((Lib.byteCells m5).length+(⟨(l6++tk).toArray⟩:ByteArray).size≤140737488355328):=zh (by rw[Lib.byteCells_length,size_len];simp;omega);rw[app_two];refine (Bld.writeString (w.heap.size+1) (w.heap.size+1) _ ⟨(l6++tk).toArray⟩ _ HD.out.1 HL.out hh).mono ?_;rintro e w1 ⟨rfl,hi,hb⟩;replace HD:=zh (HD.out.put hi hb);clear hi hb HL hh;refine hK.out _ _ ?_ (fun hHeld=>?_)
 ·exact HD.out.2.1
 clear hK K
 try simp only[Act.put,J1,J2,J3,J4,J5,J6]
 refine zqe (NoPanic.normal ?_);clear hHeld
 rename_i _ _
 have H:=HD;clear HD;obtain⟨m6,Em6⟩:∃l,l=m5++(l6++tk):=⟨_,rfl⟩;rw[←Em6]at H
 have fm6:m6.length=6+dc.length+sc.length+(l6.length+tk.length):=by rw[Em6];simp<;>omega
 replace Em6:=zh Em6;go_wp2_with fail
 have gl:=ps_len le.toNat;have gs:¬9223372036854775807<6+dc.length+sc.length+(l6.length+tk.length)+(ps le.toNat).length:=by omega
 have HD:=zh (H.out.keep (below_drew (Below.refl _ _)));refine wp_region_noPanic ?_;refine wp_region_held_drew (S:=fun w'=>Box w.heap.size (.bool true) (.bool sp) (.bool ph) (.int .i64 0) (.int .u32 ve) (.string ⟨dc.toArray⟩) (.string ⟨sc.toArray⟩) (.string ⟨tk.toArray⟩) (.int .u64 le) (.int .i64 wi) (.int .u64 nu) w w') (by kernel_rfl) ?_ (fun hHeld=>?_)
 ·exact HD.out.2.1
 clear H
 iterate 2
  refine zqb [1,2] rfl rfl ?_ ?_ ?_;rotate_left
  ·(intro w hSw;(try (obtain⟨hS0,hS1,hS2,hS3,hS4,hS5,hS6,hS7,hS8,hS9,hS10,hSb,hSs⟩:=hSw));go_simp;(try with_reducible rfl))
  try simp only[Act.put,J1,J2,J3,J4,J5,J6]
 refine zqf [0] (AllReadyH.cons rfl (fun K hK=>?_) AllReadyH.nil);rw[if_pos (by rfl)];go_simp;have hh:=HD.out.2.2;refine (Tryz.Builder_String_any (w.heap.size+1) (w.heap.size+1) m6 _ HD.out.1 hh).mono ?_;rintro e w1 ⟨rfl,hb⟩;have HB2:=zh (HD.out.2.1.up hb (Nat.lt_succ_self _));have HT2:=zh (HT.out.below HB2.out.bel hlt);clear hh hb;refine hK.out _ _ ?_ (fun hHeld=>?_)
 ·exact HB2.out
 clear hK K
 try simp only[Act.put,J1,J2,J3,J4,J5,J6]
 refine zqf [3] (AllReadyH.cons rfl (fun K hK=>?_) AllReadyH.nil);rw[if_pos (by rfl)];go_simp;refine (sized_any le _ HT2.out wle).mono ?_;rintro e w9 ⟨rfl,hb⟩;replace HB2:=zh (HB2.out.keep hb);clear hb;refine hK.out _ _ ?_ (fun hHeld=>?_)
 ·exact HB2.out
 clear hK K
 try simp only[Act.put,J1,J2,J3,J4,J5,J6]
 iterate 2
  refine zqb [4,5] rfl rfl ?_ ?_ ?_;rotate_left
  ·(intro w hSw;(try (obtain⟨hS0,hS1,hS2,hS3,hS4,hS5,hS6,hS7,hS8,hS9,hS10,hSb,hSs⟩:=hSw));go_simp;(try with_reducible rfl))
  try simp only[Act.put,J1,J2,J3,J4,J5,J6]
 refine zqe (NoPanic.normal ?_);clear hHeld;go_wp2
 go_ret
 refine⟨?_,HB2.out.bel⟩;show Ending.returned (.string _)=_;rw[app_two,Em6.out,E6.out,Em5.out,Em4.out,Em3.out,Em2.out,Em1.out,E1.out];unfold lpL;rw[if_pos rfl];simp
theorem longParts_n(sp ph:Bool)(ty:Int)(ve:Int)(dc sc tk:List UInt8)(le wi nu:Int)(w:World)(ht:Tab w)(hty:¬ty=0)(htyb:(ty==0)=false)(wve:0≤ve)(wve2:ve≤4294967295)(kdc:dc.length≤20)(ksc:sc.length≤20)(ktk:tk.length≤1000)(wle:0≤le) :
 Calls Tryz.prog 86 #[.agg #[.bool true,.bool sp,.bool ph,.int .i64 ty,.int .u32 ve,.string ⟨dc.toArray⟩,.string ⟨sc.toArray⟩,.string ⟨tk.toArray⟩,.int .u64 le,.int .i64 wi,.int .u64 nu]] w fun e w'=>e=.returned (.string ⟨(lpL ty ve dc sc tk le).toArray⟩)∧Below w.heap.size w w':=by
 have hlt:=ht.lt;have HT:=zh ht;clear ht;obtain⟨N,hN⟩:∃N,N=w.heap.size:=⟨_,rfl⟩
 have H:Hid (LP w.heap.size [] (.bool true) (.bool sp) (.bool ph) (.int .i64 ty) (.int .u32 ve) (.string ⟨dc.toArray⟩) (.string ⟨sc.toArray⟩) (.string ⟨tk.toArray⟩) (.int .u64 le) (.int .i64 wi) (.int .u64 nu) w ((w.alloc (.cells #[.bool true,.bool sp,.bool ph,.int .i64 ty,.int .u32 ve,.string ⟨dc.toArray⟩,.string ⟨sc.toArray⟩,.string ⟨tk.toArray⟩,.int .u64 le,.int .i64 wi,.int .u64 nu] 101)).alloc (.cells #[.pointer none,.slice none 0 0] 68))):=zh (by
  have h1:=Lib.fresh_isBuilder 68 5 (w.alloc (.cells #[.bool true,.bool sp,.bool ph,.int .i64 ty,.int .u32 ve,.string ⟨dc.toArray⟩,.string ⟨sc.toArray⟩,.string ⟨tk.toArray⟩,.int .u64 le,.int .i64 wi,.int .u64 nu] 101));rw[show (w.alloc (.cells #[.bool true,.bool sp,.bool ph,.int .i64 ty,.int .u32 ve,.string ⟨dc.toArray⟩,.string ⟨sc.toArray⟩,.string ⟨tk.toArray⟩,.int .u64 le,.int .i64 wi,.int .u64 nu] 101)).heap.size=w.heap.size+1 by simp]at h1
  exact⟨h1,(Box.made w (.bool true) (.bool sp) (.bool ph) (.int .i64 ty) (.int .u32 ve) (.string ⟨dc.toArray⟩) (.string ⟨sc.toArray⟩) (.string ⟨tk.toArray⟩) (.int .u64 le) (.int .i64 wi) (.int .u64 nu) 101).keep ((Below.refl _ _).alloc zle _),by simp⟩)
 have X0:=fun w=>ix0 ⟨dc.toArray⟩ ⟨sc.toArray⟩ w
 have X1:=fun w=>ix1 ⟨dc.toArray⟩ ⟨sc.toArray⟩ w
 go_enter Tryz.func86,Tryz.ntmps86;go_wp2_with fail
 refine (vfixedL ve _ wve (by omega)).mono ?_;rintro e w1 ⟨rfl,hb⟩;replace H:=zh (H.out.keep hb);clear hb;have f1:(fx ve.toNat 4).length=4:=fx_length _ _;obtain⟨l1,E1⟩:∃l,l=fx ve.toNat 4:=⟨_,rfl⟩;rw[←E1]at f1 ⊢;replace E1:=zh E1;go_wp2_with fail
 have hh:=H.out.2.2;have HL:Hid ((Lib.byteCells ([]:List UInt8)).length+(⟨(l1).toArray⟩:ByteArray).size≤140737488355328):=zh (by rw[Lib.byteCells_length,size_len];simp;omega);refine (Bld.writeString (w.heap.size+1) (w.heap.size+1) _ ⟨(l1).toArray⟩ _ H.out.1 HL.out hh).mono ?_;rintro e w1 ⟨rfl,hi,hb⟩;replace H:=zh (H.out.put hi hb);clear hi hb HL hh;obtain⟨m1,Em1⟩:∃l,l=[]++l1:=⟨_,rfl⟩;rw[←Em1]at H
 have fm1:m1.length=4:=by rw[Em1];simp<;>omega
 replace Em1:=zh Em1;obtain⟨d3,d5,d6,d7,d8⟩:=H.out.cells;go_wp2_with fail
 clear d3 d5 d6 d7 d8;refine wp_loop_rounds 3 ?_;rw[rounds_succ];go_wp2_with fail
 have hh:=H.out.2.2;have HL:Hid ((Lib.byteCells m1).length+1≤140737488355328):=zh (by rw[Lib.byteCells_length];omega);refine (Bld.writeByte (w.heap.size+1) (w.heap.size+1) _ dc.length _ H.out.1 HL.out hh).mono ?_;rintro e w1 ⟨rfl,hi,hb⟩;replace H:=zh (H.out.put1 kdc hi hb);clear hi hb HL hh;obtain⟨m2,Em2⟩:∃l,l=m1++[by1 dc.length]:=⟨_,rfl⟩;rw[←Em2]at H
 have fm2:m2.length=5:=by rw[Em2];simp<;>omega
 replace Em2:=zh Em2;go_wp2_with fail
 have hh:=H.out.2.2;have HL:Hid ((Lib.byteCells m2).length+(⟨(dc).toArray⟩:ByteArray).size≤140737488355328):=zh (by rw[Lib.byteCells_length,size_len];simp;omega);refine (Bld.writeString (w.heap.size+1) (w.heap.size+1) _ ⟨(dc).toArray⟩ _ H.out.1 HL.out hh).mono ?_;rintro e w1 ⟨rfl,hi,hb⟩;replace H:=zh (H.out.put hi hb);clear hi hb HL hh;obtain⟨m3,Em3⟩:∃l,l=m2++dc:=⟨_,rfl⟩;rw[←Em3]at H
 have fm3:m3.length=5+dc.length:=by rw[Em3];simp<;>omega
 replace Em3:=zh Em3;go_wp2;rw[rounds_succ];go_wp2_with fail
 have hh:=H.out.2.2;have HL:Hid ((Lib.byteCells m3).length+1≤140737488355328):=zh (by rw[Lib.byteCells_length];omega);refine (Bld.writeByte (w.heap.size+1) (w.heap.size+1) _ sc.length _ H.out.1 HL.out hh).mono ?_;rintro e w1 ⟨rfl,hi,hb⟩;replace H:=zh (H.out.put1 ksc hi hb);clear hi hb HL hh;obtain⟨m4,Em4⟩:∃l,l=m3++[by1 sc.length]:=⟨_,rfl⟩;rw[←Em4]at H
 have fm4:m4.length=6+dc.length:=by rw[Em4];simp<;>omega
 replace Em4:=zh Em4;go_wp2_with fail
 have hh:=H.out.2.2;have HL:Hid ((Lib.byteCells m4).length+(⟨(sc).toArray⟩:ByteArray).size≤140737488355328):=zh (by rw[Lib.byteCells_length,size_len];simp;omega);refine (Bld.writeString (w.heap.size+1) (w.heap.size+1) _ ⟨(sc).toArray⟩ _ H.out.1 HL.out hh).mono ?_;rintro e w1 ⟨rfl,hi,hb⟩;replace H:=zh (H.out.put hi hb);clear hi hb HL hh;obtain⟨m5,Em5⟩:∃l,l=m4++sc:=⟨_,rfl⟩;rw[←Em5]at H
 have fm5:m5.length=6+dc.length+sc.length:=by rw[Em5];simp<;>omega
 replace Em5:=zh Em5;obtain⟨d3,d5,d6,d7,d8⟩:=H.out.cells;go_wp2;rw[rounds_succ];go_wp2_with fail
 clear d3 d5 d6 d7 d8;have gl:=ps_len le.toNat;have gs:¬9223372036854775807<6+dc.length+sc.length+(ps le.toNat).length:=by omega
 have HD:=zh (H.out.keep (below_drew (Below.refl _ _)));refine wp_region_noPanic ?_;refine wp_region_held_drew (S:=fun w'=>Box w.heap.size (.bool true) (.bool sp) (.bool ph) (.int .i64 ty) (.int .u32 ve) (.string ⟨dc.toArray⟩) (.string ⟨sc.toArray⟩) (.string ⟨tk.toArray⟩) (.int .u64 le) (.int .i64 wi) (.int .u64 nu) w w') (by kernel_rfl) ?_ (fun hHeld=>?_)
 ·exact HD.out.2.1
 clear H
 iterate 2
  refine zqb [1,2] rfl rfl ?_ ?_ ?_;rotate_left
  ·(intro w hSw;(try (obtain⟨hS0,hS1,hS2,hS3,hS4,hS5,hS6,hS7,hS8,hS9,hS10,hSb,hSs⟩:=hSw));go_simp;(try with_reducible rfl))
  try simp only[Act.put,J1,J2,J3,J4,J5,J6]
 refine zqf [0] (AllReadyH.cons rfl (fun K hK=>?_) AllReadyH.nil);rw[if_pos (by rfl)];go_simp;have hh:=HD.out.2.2;refine (Tryz.Builder_String_any (w.heap.size+1) (w.heap.size+1) m5 _ HD.out.1 hh).mono ?_;rintro e w1 ⟨rfl,hb⟩;have HB2:=zh (HD.out.2.1.up hb (Nat.lt_succ_self _));have HT2:=zh (HT.out.below HB2.out.bel hlt);clear hh hb;refine hK.out _ _ ?_ (fun hHeld=>?_)
 ·exact HB2.out
 clear hK K
 try simp only[Act.put,J1,J2,J3,J4,J5,J6]
 refine zqf [3] (AllReadyH.cons rfl (fun K hK=>?_) AllReadyH.nil);rw[if_pos (by rfl)];go_simp;refine (sized_any le _ HT2.out wle).mono ?_;rintro e w9 ⟨rfl,hb⟩;replace HB2:=zh (HB2.out.keep hb);clear hb;refine hK.out _ _ ?_ (fun hHeld=>?_)
 ·exact HB2.out
 clear hK K
 try simp only[Act.put,J1,J2,J3,J4,J5,J6]
 iterate 2
  refine zqb [4,5] rfl rfl ?_ ?_ ?_;rotate_left
  ·(intro w hSw;(try (obtain⟨hS0,hS1,hS2,hS3,hS4,hS5,hS6,hS7,hS8,hS9,hS10,hSb,hSs⟩:=hSw));go_simp;(try with_reducible rfl))
  try simp only[Act.put,J1,J2,J3,J4,J5,J6]
 refine zqe (NoPanic.normal ?_);clear hHeld;go_wp2
 go_ret
 refine⟨?_,HB2.out.bel⟩;show Ending.returned (.string _)=_;rw[app_two,Em5.out,Em4.out,Em3.out,Em2.out,Em1.out,E1.out];unfold lpL;rw[if_neg hty];simp
theorem conv1(n:Nat)(W:World)(g:Nat)(h:W.cell? ⟨g,0,none⟩=some (.int .u8 n)) :
 (convert 66 9 (.slice (some ⟨g,0,none⟩) 1 1)).run Tryz.prog W=.ok (.string ⟨[by1 n].toArray⟩) W:=by
 have:=run_convert_bytes_arg (P:=Tryz.prog) W 66 5 Tryz.underlying66 Tryz.underlying5 g 0 1 1 [(n:Int)] (by simp) (fun i hi=>by
  have:i=0:=by omega
  subst this
  simpa using h) 9 Tryz.underlying9
 rw[this]
 congr 2
theorem made1(n:Nat)(W:World):(W.alloc (.cells #[.int .u8 n] 5)).cell? ⟨W.heap.size,0,none⟩=some (.int .u8 n):=by simp[go_sem]
theorem lpL_len(ty ve:Int)(dc sc tk:List UInt8)(le:Int)(kdc:dc.length≤20)(ksc:sc.length≤20)(ktk:tk.length≤1000):(lpL ty ve dc sc tk le).length≤10000:=by
 have h1:=ps_len tk.length;have h2:=ps_len le.toNat;have h3:(fx ve.toNat 4).length=4:=fx_length _ _;unfold lpL
 split<;>simp<;>omega
theorem longParts_any(sp ph:Bool)(ty ve:Int)(dc sc tk:List UInt8)(le wi nu:Int)(w:World)(ht:Tab w)(kty:0≤ty)(wve:0≤ve)(wve2:ve≤4294967295)(kdc:dc.length≤20)(ksc:sc.length≤20)(ktk:tk.length≤1000)(wle:0≤le) :
 Calls Tryz.prog 86 #[.agg #[.bool true,.bool sp,.bool ph,.int .i64 ty,.int .u32 ve,.string ⟨dc.toArray⟩,.string ⟨sc.toArray⟩,.string ⟨tk.toArray⟩,.int .u64 le,.int .i64 wi,.int .u64 nu]] w fun e w'=>e=.returned (.string ⟨(lpL ty ve dc sc tk le).toArray⟩)∧Below w.heap.size w w':=by
 by_cases h:ty=0
 ·subst h;exact longParts_0 sp ph ve dc sc tk le wi nu w ht wve wve2 kdc ksc ktk wle
 ·exact longParts_n sp ph ty ve dc sc tk le wi nu w ht h (by simp[h]) wve wve2 kdc ksc ktk wle
theorem put_s(sp:Bool)(ph:Bool)(ty:Int)(ve:Int)(dc:List UInt8)(sc:List UInt8)(tk:List UInt8)(le:Int)(wi:Int)(nu:Int)(w:World)(ht:Tab w)(wty:-9223372036854775808≤ty)(wty2:ty≤9223372036854775807)(wve:0≤ve)(wve2:ve≤4294967295)(wdc:dc.length≤9223372036854775807)(wsc:sc.length≤9223372036854775807)(wtk:tk.length≤9223372036854775807)(wle:0≤le)(wle2:le≤18446744073709551615)(wwi:-9223372036854775808≤wi)(wwi2:wi≤9223372036854775807)(wnu:0≤nu)(wnu2:nu≤18446744073709551615)(EM:Hid (mayB false sp ph ty ve dc sc tk le wi nu=true))(k1:1≤wi)(k2:wi≤4)(kdc:dc.length≤20) :
 Calls Tryz.prog 54 #[.agg #[.bool false,.bool sp,.bool ph,.int .i64 ty,.int .u32 ve,.string ⟨dc.toArray⟩,.string ⟨sc.toArray⟩,.string ⟨tk.toArray⟩,.int .u64 le,.int .i64 wi,.int .u64 nu]] w fun e w'=>e=.returned (.tuple #[.string ⟨(by1 (fbN false sp ph ty wi)::dc++fx nu.toNat wi.toNat).toArray⟩,.int .i64 0])∧Below w.heap.size w w':=by
 have hlt:=ht.lt;have HT:=zh ht;clear ht;have HX:=zh (Box.made w (.bool false) (.bool sp) (.bool ph) (.int .i64 ty) (.int .u32 ve) (.string ⟨dc.toArray⟩) (.string ⟨sc.toArray⟩) (.string ⟨tk.toArray⟩) (.int .u64 le) (.int .i64 wi) (.int .u64 nu) 101);go_enter Tryz.func54,Tryz.ntmps54;go_wp2_with fail
 refine (may_any false sp ph ty ve dc sc tk le wi nu _ wty wty2 wve wve2 wdc wsc wtk wle wle2 wwi wwi2 wnu wnu2).mono ?_;rintro e w1 ⟨rfl,hb⟩;rw[EM.out];replace HX:=zh (HX.out.keep hb);clear hb;obtain⟨c0,c1,c2,c3,c4,c5,c6,c7,c8,c9,c10,hB,hs⟩:=HX.out;clear hB hs;have F1:=zh (fun w=>first_any false sp ph ty ve dc sc tk le wi nu w k1 k2 (fun h=>by cases h));have F2:=zh (fun w=>vfixed' nu wi w wnu wnu2 k1 (by omega));obtain⟨fb,Efb⟩:∃n,n=fbN false sp ph ty wi:=⟨_,rfl⟩;rw[←Efb]at F1;obtain⟨fl,Efl⟩:∃l,l=fx nu.toNat wi.toNat:=⟨_,rfl⟩;rw[←Efl]at F2;have gl:fl.length≤4:=by rw[Efl,fx_length];omega
 replace Efb:=zh Efb;replace Efl:=zh Efl;have gs1:¬9223372036854775807<1+dc.length:=by omega
 have gs2:¬9223372036854775807<1+dc.length+fl.length:=by omega
 have gs3:¬9223372036854775807<dc.length+1:=by omega
 have gs4:¬9223372036854775807<dc.length+1+fl.length:=by omega
 go_wp2_with fail
 refine wp_region_noPanic ?_;refine wp_region_held_drew (S:=fun w'=>Box w.heap.size (.bool false) (.bool sp) (.bool ph) (.int .i64 ty) (.int .u32 ve) (.string ⟨dc.toArray⟩) (.string ⟨sc.toArray⟩) (.string ⟨tk.toArray⟩) (.int .u64 le) (.int .i64 wi) (.int .u64 nu) w w') (by kernel_rfl) ?_ (fun hHeld=>?_)
 ·exact HX.out.drew
 iterate 6
  refine zqb [0,4,6,7,8,9] rfl rfl ?_ ?_ ?_;rotate_left
  ·(intro w hSw;(try (obtain⟨hS0,hS1,hS2,hS3,hS4,hS5,hS6,hS7,hS8,hS9,hS10,hSb,hSs⟩:=hSw));go_simp;(try with_reducible rfl))
  try simp only[Act.put,J1,J2,J3,J4,J5,J6]
 refine zqf [1] (AllReadyH.cons rfl (fun K hK=>?_) AllReadyH.nil);rw[if_pos (by rfl)];go_simp;refine (F1.out _).mono ?_;rintro e w3 ⟨rfl,hb⟩;refine hK.out _ _ ?_ (fun hHeld=>?_)
 ·exact hHeld.keep hb
 clear hK K
 try simp only[Act.put,J1,J2,J3,J4,J5,J6]
 refine zqf [2,10] ?_;refine AllReadyH.cons rfl (fun K hK=>?_) (AllReadyH.cons rfl (fun K hK=>?_) AllReadyH.nil)
 ·rw[if_pos (by rfl)]
  go_simp;have CV:=zh (made1 fb w3);refine hK.out _ _ ?_ (fun hHeld=>?_)
  ·exact hHeld.keep ((Below.refl _ _).alloc zle _)
  clear hK K
  try simp only[Act.put,J1,J2,J3,J4,J5,J6]
  refine zqf [3,10] ?_;refine AllReadyH.cons rfl (fun K hK=>?_) (AllReadyH.cons rfl (fun K hK=>?_) AllReadyH.nil)
  ·rw[if_pos (by rfl)]
   go_simp;rw[conv1 _ _ _ CV.out];go_simp;refine hK.out _ _ ?_ (fun hHeld=>?_)
   ·exact hHeld
   clear hK K
   try simp only[Act.put,J1,J2,J3,J4,J5,J6]
   refine zqa 5 rfl ?_ ?_ ?_;rotate_left
   ·(intro w hSw;(try (obtain⟨hS0,hS1,hS2,hS3,hS4,hS5,hS6,hS7,hS8,hS9,hS10,hSb,hSs⟩:=hSw));go_simp;(try with_reducible rfl))
   try simp only[Act.put,J1,J2,J3,J4,J5,J6]
   refine zqf [10] (AllReadyH.cons rfl (fun K hK=>?_) AllReadyH.nil);rw[if_pos (by rfl)];go_simp;refine (F2.out _).mono ?_;rintro e w4 ⟨rfl,hb⟩;refine hK.out _ _ ?_ (fun hHeld=>?_)
   ·exact hHeld.keep hb
   clear hK K
   try simp only[Act.put,J1,J2,J3,J4,J5,J6]
   iterate 3
    refine zqb [11,12,13] rfl rfl ?_ ?_ ?_;rotate_left
    ·(intro w hSw;(try (obtain⟨hS0,hS1,hS2,hS3,hS4,hS5,hS6,hS7,hS8,hS9,hS10,hSb,hSs⟩:=hSw));go_simp;(try with_reducible rfl))
    try simp only[Act.put,J1,J2,J3,J4,J5,J6]
   refine zqe (NoPanic.normal ?_);clear c0 c1 c2 c3 c4 c5 c6 c7 c8 c9 c10;have HB:=zh hHeld.bel;clear hHeld;go_wp2
   go_ret2
   exact⟨by rw[←Efb.out,←Efl.out,app_two,app_two];rfl,HB.out⟩
  ·rw[if_pos (by rfl)]
   go_simp;refine (F2.out _).mono ?_;rintro e w4 ⟨rfl,hb⟩;replace CV:=zh ((hb.cell (p:=⟨w3.heap.size,0,none⟩) (by simp)).trans CV.out);refine hK.out _ _ ?_ (fun hHeld=>?_)
   ·exact hHeld.keep hb
   clear hK K
   try simp only[Act.put,J1,J2,J3,J4,J5,J6]
   refine zqf [3] (AllReadyH.cons rfl (fun K hK=>?_) AllReadyH.nil);rw[if_pos (by rfl)];go_simp;rw[conv1 _ _ _ CV.out];go_simp;refine hK.out _ _ ?_ (fun hHeld=>?_)
   ·exact hHeld
   clear hK K
   try simp only[Act.put,J1,J2,J3,J4,J5,J6]
   iterate 4
    refine zqb [5,11,12,13] rfl rfl ?_ ?_ ?_;rotate_left
    ·(intro w hSw;(try (obtain⟨hS0,hS1,hS2,hS3,hS4,hS5,hS6,hS7,hS8,hS9,hS10,hSb,hSs⟩:=hSw));go_simp;(try with_reducible rfl))
    try simp only[Act.put,J1,J2,J3,J4,J5,J6]
   refine zqe (NoPanic.normal ?_);clear c0 c1 c2 c3 c4 c5 c6 c7 c8 c9 c10;have HB:=zh hHeld.bel;clear hHeld;go_wp2
   go_ret2
   exact⟨by rw[←Efb.out,←Efl.out,app_two,app_two];rfl,HB.out⟩
 ·rw[if_pos (by rfl)]
  go_simp;refine (F2.out _).mono ?_;rintro e w4 ⟨rfl,hb⟩;refine hK.out _ _ ?_ (fun hHeld=>?_)
  ·exact hHeld.keep hb
  clear hK K
  try simp only[Act.put,J1,J2,J3,J4,J5,J6]
  refine zqf [2] (AllReadyH.cons rfl (fun K hK=>?_) AllReadyH.nil);rw[if_pos (by rfl)];go_simp;have CV:=zh (made1 fb w4);refine hK.out _ _ ?_ (fun hHeld=>?_)
  ·exact hHeld.keep ((Below.refl _ _).alloc zle _)
  clear hK K
  try simp only[Act.put,J1,J2,J3,J4,J5,J6]
  refine zqf [3] (AllReadyH.cons rfl (fun K hK=>?_) AllReadyH.nil);rw[if_pos (by rfl)];go_simp;rw[conv1 _ _ _ CV.out];go_simp;refine hK.out _ _ ?_ (fun hHeld=>?_)
  ·exact hHeld
  clear hK K
  try simp only[Act.put,J1,J2,J3,J4,J5,J6]
  iterate 4
   refine zqb [5,11,12,13] rfl rfl ?_ ?_ ?_;rotate_left
   ·(intro w hSw;(try (obtain⟨hS0,hS1,hS2,hS3,hS4,hS5,hS6,hS7,hS8,hS9,hS10,hSb,hSs⟩:=hSw));go_simp;(try with_reducible rfl))
   try simp only[Act.put,J1,J2,J3,J4,J5,J6]
  refine zqe (NoPanic.normal ?_);clear c0 c1 c2 c3 c4 c5 c6 c7 c8 c9 c10;have HB:=zh hHeld.bel;clear hHeld;go_wp2
  go_ret2
  exact⟨by rw[←Efb.out,←Efl.out,app_two,app_two];rfl,HB.out⟩
theorem put_l(sp:Bool)(ph:Bool)(ty:Int)(ve:Int)(dc:List UInt8)(sc:List UInt8)(tk:List UInt8)(le:Int)(wi:Int)(nu:Int)(w:World)(ht:Tab w)(wty:-9223372036854775808≤ty)(wty2:ty≤9223372036854775807)(wve:0≤ve)(wve2:ve≤4294967295)(wdc:dc.length≤9223372036854775807)(wsc:sc.length≤9223372036854775807)(wtk:tk.length≤9223372036854775807)(wle:0≤le)(wle2:le≤18446744073709551615)(wwi:-9223372036854775808≤wi)(wwi2:wi≤9223372036854775807)(wnu:0≤nu)(wnu2:nu≤18446744073709551615)(EM:Hid (mayB true sp ph ty ve dc sc tk le wi nu=true))(k1:1≤wi)(k2:wi≤4)(kty:0≤ty)(kty2:ty≤2)(kdc:dc.length≤20)(ksc:sc.length≤20)(ktk:tk.length≤1000) :
 Calls Tryz.prog 54 #[.agg #[.bool true,.bool sp,.bool ph,.int .i64 ty,.int .u32 ve,.string ⟨dc.toArray⟩,.string ⟨sc.toArray⟩,.string ⟨tk.toArray⟩,.int .u64 le,.int .i64 wi,.int .u64 nu]] w fun e w'=>e=.returned (.tuple #[.string ⟨(by1 (fbN true sp ph ty wi)::lpL ty ve dc sc tk le++fx nu.toNat wi.toNat).toArray⟩,.int .i64 0])∧Below w.heap.size w w':=by
 have hlt:=ht.lt;have HT:=zh ht;clear ht;have HX:=zh (Box.made w (.bool true) (.bool sp) (.bool ph) (.int .i64 ty) (.int .u32 ve) (.string ⟨dc.toArray⟩) (.string ⟨sc.toArray⟩) (.string ⟨tk.toArray⟩) (.int .u64 le) (.int .i64 wi) (.int .u64 nu) 101);go_enter Tryz.func54,Tryz.ntmps54;go_wp2_with fail
 refine (may_any true sp ph ty ve dc sc tk le wi nu _ wty wty2 wve wve2 wdc wsc wtk wle wle2 wwi wwi2 wnu wnu2).mono ?_;rintro e w1 ⟨rfl,hb⟩;rw[EM.out];replace HX:=zh (HX.out.keep hb);clear hb;obtain⟨c0,c1,c2,c3,c4,c5,c6,c7,c8,c9,c10,hB,hs⟩:=HX.out;clear hB hs;have F1:=zh (fun w=>first_any true sp ph ty ve dc sc tk le wi nu w k1 k2 (fun _=>⟨kty,kty2⟩));have F2:=zh (fun w=>vfixed' nu wi w wnu wnu2 k1 (by omega));obtain⟨fb,Efb⟩:∃n,n=fbN true sp ph ty wi:=⟨_,rfl⟩;rw[←Efb]at F1;obtain⟨fl,Efl⟩:∃l,l=fx nu.toNat wi.toNat:=⟨_,rfl⟩;rw[←Efl]at F2;have gl:fl.length≤4:=by rw[Efl,fx_length];omega
 replace Efb:=zh Efb;replace Efl:=zh Efl;go_wp2_with fail
 refine (longParts_any sp ph ty ve dc sc tk le wi nu _ (HT.out.below HX.out.bel hlt) kty wve wve2 kdc ksc ktk wle).mono ?_;rintro e w2 ⟨rfl,hb⟩;replace HX:=zh (HX.out.keep hb);clear hb c0 c1 c2 c3 c4 c5 c6 c7 c8 c9 c10;obtain⟨al,Eal⟩:∃l,l=lpL ty ve dc sc tk le:=⟨_,rfl⟩;rw[←Eal];have gal:al.length≤10000:=by rw[Eal];exact lpL_len ty ve dc sc tk le kdc ksc ktk
 replace Eal:=zh Eal;obtain⟨c0,c1,c2,c3,c4,c5,c6,c7,c8,c9,c10,hB,hs⟩:=HX.out;clear hB hs;have gs1:¬9223372036854775807<1+al.length:=by omega
 have gs2:¬9223372036854775807<1+al.length+fl.length:=by omega
 have gs3:¬9223372036854775807<al.length+1:=by omega
 have gs4:¬9223372036854775807<al.length+1+fl.length:=by omega
 go_wp2_with fail
 refine wp_region_noPanic ?_;refine wp_region_held_drew (S:=fun w'=>Box w.heap.size (.bool true) (.bool sp) (.bool ph) (.int .i64 ty) (.int .u32 ve) (.string ⟨dc.toArray⟩) (.string ⟨sc.toArray⟩) (.string ⟨tk.toArray⟩) (.int .u64 le) (.int .i64 wi) (.int .u64 nu) w w') (by kernel_rfl) ?_ (fun hHeld=>?_)
 ·exact HX.out.drew
 iterate 6
  refine zqb [0,4,6,7,8,9] rfl rfl ?_ ?_ ?_;rotate_left
  ·(intro w hSw;(try (obtain⟨hS0,hS1,hS2,hS3,hS4,hS5,hS6,hS7,hS8,hS9,hS10,hSb,hSs⟩:=hSw));go_simp;(try with_reducible rfl))
  try simp only[Act.put,J1,J2,J3,J4,J5,J6]
 refine zqf [1] (AllReadyH.cons rfl (fun K hK=>?_) AllReadyH.nil);rw[if_pos (by rfl)];go_simp;refine (F1.out _).mono ?_;rintro e w3 ⟨rfl,hb⟩;refine hK.out _ _ ?_ (fun hHeld=>?_)
 ·exact hHeld.keep hb
 clear hK K
 try simp only[Act.put,J1,J2,J3,J4,J5,J6]
 refine zqf [2,10] ?_;refine AllReadyH.cons rfl (fun K hK=>?_) (AllReadyH.cons rfl (fun K hK=>?_) AllReadyH.nil)
 ·rw[if_pos (by rfl)]
  go_simp;have CV:=zh (made1 fb w3);refine hK.out _ _ ?_ (fun hHeld=>?_)
  ·exact hHeld.keep ((Below.refl _ _).alloc zle _)
  clear hK K
  try simp only[Act.put,J1,J2,J3,J4,J5,J6]
  refine zqf [3,10] ?_;refine AllReadyH.cons rfl (fun K hK=>?_) (AllReadyH.cons rfl (fun K hK=>?_) AllReadyH.nil)
  ·rw[if_pos (by rfl)]
   go_simp;rw[conv1 _ _ _ CV.out];go_simp;refine hK.out _ _ ?_ (fun hHeld=>?_)
   ·exact hHeld
   clear hK K
   try simp only[Act.put,J1,J2,J3,J4,J5,J6]
   refine zqa 5 rfl ?_ ?_ ?_;rotate_left
   ·(intro w hSw;(try (obtain⟨hS0,hS1,hS2,hS3,hS4,hS5,hS6,hS7,hS8,hS9,hS10,hSb,hSs⟩:=hSw));go_simp;(try with_reducible rfl))
   try simp only[Act.put,J1,J2,J3,J4,J5,J6]
   refine zqf [10] (AllReadyH.cons rfl (fun K hK=>?_) AllReadyH.nil);rw[if_pos (by rfl)];go_simp;refine (F2.out _).mono ?_;rintro e w4 ⟨rfl,hb⟩;refine hK.out _ _ ?_ (fun hHeld=>?_)
   ·exact hHeld.keep hb
   clear hK K
   try simp only[Act.put,J1,J2,J3,J4,J5,J6]
   iterate 3
    refine zqb [11,12,13] rfl rfl ?_ ?_ ?_;rotate_left
    ·(intro w hSw;(try (obtain⟨hS0,hS1,hS2,hS3,hS4,hS5,hS6,hS7,hS8,hS9,hS10,hSb,hSs⟩:=hSw));go_simp;(try with_reducible rfl))
    try simp only[Act.put,J1,J2,J3,J4,J5,J6]
   refine zqe (NoPanic.normal ?_);clear c0 c1 c2 c3 c4 c5 c6 c7 c8 c9 c10;have HB:=zh hHeld.bel;clear hHeld;go_wp2
   go_ret2
   exact⟨by rw[←Efb.out,←Efl.out,←Eal.out,app_two,app_two];rfl,HB.out⟩
  ·rw[if_pos (by rfl)]
   go_simp;refine (F2.out _).mono ?_;rintro e w4 ⟨rfl,hb⟩;replace CV:=zh ((hb.cell (p:=⟨w3.heap.size,0,none⟩) (by simp)).trans CV.out);refine hK.out _ _ ?_ (fun hHeld=>?_)
   ·exact hHeld.keep hb
   clear hK K
   try simp only[Act.put,J1,J2,J3,J4,J5,J6]
   refine zqf [3] (AllReadyH.cons rfl (fun K hK=>?_) AllReadyH.nil);rw[if_pos (by rfl)];go_simp;rw[conv1 _ _ _ CV.out];go_simp;refine hK.out _ _ ?_ (fun hHeld=>?_)
   ·exact hHeld
   clear hK K
   try simp only[Act.put,J1,J2,J3,J4,J5,J6]
   iterate 4
    refine zqb [5,11,12,13] rfl rfl ?_ ?_ ?_;rotate_left
    ·(intro w hSw;(try (obtain⟨hS0,hS1,hS2,hS3,hS4,hS5,hS6,hS7,hS8,hS9,hS10,hSb,hSs⟩:=hSw));go_simp;(try with_reducible rfl))
    try simp only[Act.put,J1,J2,J3,J4,J5,J6]
   refine zqe (NoPanic.normal ?_);clear c0 c1 c2 c3 c4 c5 c6 c7 c8 c9 c10;have HB:=zh hHeld.bel;clear hHeld;go_wp2
   go_ret2
   exact⟨by rw[←Efb.out,←Efl.out,←Eal.out,app_two,app_two];rfl,HB.out⟩
 ·rw[if_pos (by rfl)]
  go_simp;refine (F2.out _).mono ?_;rintro e w4 ⟨rfl,hb⟩;refine hK.out _ _ ?_ (fun hHeld=>?_)
  ·exact hHeld.keep hb
  clear hK K
  try simp only[Act.put,J1,J2,J3,J4,J5,J6]
  refine zqf [2] (AllReadyH.cons rfl (fun K hK=>?_) AllReadyH.nil);rw[if_pos (by rfl)];go_simp;have CV:=zh (made1 fb w4);refine hK.out _ _ ?_ (fun hHeld=>?_)
  ·exact hHeld.keep ((Below.refl _ _).alloc zle _)
  clear hK K
  try simp only[Act.put,J1,J2,J3,J4,J5,J6]
  refine zqf [3] (AllReadyH.cons rfl (fun K hK=>?_) AllReadyH.nil);rw[if_pos (by rfl)];go_simp;rw[conv1 _ _ _ CV.out];go_simp;refine hK.out _ _ ?_ (fun hHeld=>?_)
  ·exact hHeld
  clear hK K
  try simp only[Act.put,J1,J2,J3,J4,J5,J6]
  iterate 4
   refine zqb [5,11,12,13] rfl rfl ?_ ?_ ?_;rotate_left
   ·(intro w hSw;(try (obtain⟨hS0,hS1,hS2,hS3,hS4,hS5,hS6,hS7,hS8,hS9,hS10,hSb,hSs⟩:=hSw));go_simp;(try with_reducible rfl))
   try simp only[Act.put,J1,J2,J3,J4,J5,J6]
  refine zqe (NoPanic.normal ?_);clear c0 c1 c2 c3 c4 c5 c6 c7 c8 c9 c10;have HB:=zh hHeld.bel;clear hHeld;go_wp2
  go_ret2
  exact⟨by rw[←Efb.out,←Efl.out,←Eal.out,app_two,app_two];rfl,HB.out⟩
end Go.Proofs.YtagbkmoahflfdaaGreatDoor.Hd
