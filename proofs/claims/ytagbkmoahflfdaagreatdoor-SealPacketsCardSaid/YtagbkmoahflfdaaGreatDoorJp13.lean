import Derived.Test.YtagbkmoahflfdaaGreatDoorJp01
import Derived.Test.YtagbkmoahflfdaaGreatDoorJp09
import Derived.Test.YtagbkmoahflfdaaGreatDoorJp12
import Derived.Deep.RegionHeld3
set_option maxHeartbeats 4000000
set_option maxRecDepth 20000
set_option linter.unusedVariables false
set_option linter.unusedSimpArgs false
namespace Go.Proofs.YtagbkmoahflfdaaGreatDoor.Se
open Tk Go.RowKit Vm Dg Kd
def nonceL (V:List UInt8) (n:Nat):List UInt8:=xr V (fit [] 4++fx n 8)
def laidL (K V:List UInt8) (n:Nat) (s:List UInt8):List UInt8:=stream K (nonceL V n) 1 s
def tagL (K V:List UInt8) (n:Nat) (h t:List UInt8):List UInt8:=(mac ((blk K (nonceL V n) 0).take 32) (((h++fx h.length 8)++t)++fx t.length 8)).take 16
def sealL (K V:List UInt8) (n:Nat) (h p:List UInt8):List UInt8:=laidL K V n p++tagL K V n h (laidL K V n p)
def openL (K V:List UInt8) (n:Nat) (h s:List UInt8):Option (List UInt8):=
 if 16≤s.length∧s.drop (s.length-16)=tagL K V n h (s.take (s.length-16)) then some (laidL K V n (s.take (s.length-16))) else none
def maskL (M sample:List UInt8):List UInt8:=(blk M (sample.drop 4) (lw sample 0)).take 5
theorem laidL_len(K V:List UInt8)(n:Nat)(s:List UInt8):(laidL K V n s).length=s.length:=stream_length _ _ _ _
theorem tagL_len(K V:List UInt8)(n:Nat)(h t:List UInt8):(tagL K V n h t).length=16:=by
 unfold tagL;rw[List.length_take,mac_len];rfl
theorem sealL_len(K V:List UInt8)(n:Nat)(h p:List UInt8):(sealL K V n h p).length=p.length+16:=by
 unfold sealL;rw[List.length_append,laidL_len,tagL_len]
theorem maskL_len(M s:List UInt8):(maskL M s).length=5:=by
 unfold maskL;rw[List.length_take,blk_len];rfl
theorem nonceL_len(V:List UInt8)(n:Nat):(nonceL V n).length≤12:=by
 unfold nonceL;rw[xr_len,List.length_append,fit_len,fx_length];omega
theorem open_seal(K V:List UInt8)(n:Nat)(h p:List UInt8):openL K V n h (sealL K V n h p)=some p:=by
 have hl:=sealL_len K V n h p;have hll:=laidL_len K V n p;unfold openL;rw[hl,show p.length+16-16=p.length by omega]
 have h1:(sealL K V n h p).take p.length=laidL K V n p:=by
  unfold sealL;rw[List.take_append_of_le_length (by omega),List.take_of_length_le (by omega)]
 have h2:(sealL K V n h p).drop p.length=tagL K V n h (laidL K V n p):=by
  unfold sealL;rw[List.drop_append_of_le_length (by omega),List.drop_of_length_le (by omega),List.nil_append]
 rw[h1,h2,if_pos ⟨by omega,rfl⟩]
 congr 1
 exact stream_back K (nonceL V n) (p.length/64+1) 1 p (by omega)
def KX (W:World) (b:Nat) (Kb Vb Mb:ByteArray):Prop:=W.heap[b]?=some (.cells #[.string Kb,.string Vb,.string Mb] 88 (0,0))
theorem KX.cells{W:World}{b:Nat}{Kb Vb Mb:ByteArray}(h:KX W b Kb Vb Mb):W.cell? ⟨b,0,none⟩=some (.string Kb)∧W.cell? ⟨b,1,none⟩=some (.string Vb)∧W.cell? ⟨b,2,none⟩=some (.string Mb):=
 ⟨Lib.cell_of_heap h 0,Lib.cell_of_heap h 1,Lib.cell_of_heap h 2⟩
theorem KX.lt{W:World}{b:Nat}{Kb Vb Mb:ByteArray}(h:KX W b Kb Vb Mb):b<W.heap.size:=(Array.getElem?_eq_some_iff.1 h).1
theorem KX.keep{W W':World}{b B:Nat}{Kb Vb Mb:ByteArray}(h:KX W b Kb Vb Mb)(hb:Below B W W')(hB:b<B):KX W' b Kb Vb Mb:=(hb.block b hB).trans h
theorem ba_size(l:List UInt8):(⟨l.toArray⟩:ByteArray).size=l.length:=by show l.toArray.size=_;simp
theorem ba_app(a b:List UInt8):(⟨a.toArray⟩:ByteArray)++(⟨b.toArray⟩:ByteArray)=⟨(a++b).toArray⟩:=by
 apply ByteArray.ext;apply Array.ext';simp
theorem ba_take(l:List UInt8)(n:Nat):(⟨l.toArray⟩:ByteArray).extract 0 n=⟨(l.take n).toArray⟩:=by
 apply ByteArray.ext;apply Array.ext';simp only[ByteArray.data_extract,Array.toList_extract,List.extract_eq_take_drop];simp
theorem ba_drop(l:List UInt8)(n m:Nat)(h:m=l.length):(⟨l.toArray⟩:ByteArray).extract n m=⟨(l.drop n).toArray⟩:=by
 subst h;apply ByteArray.ext;apply Array.ext';simp only[ByteArray.data_extract,Array.toList_extract,List.extract_eq_take_drop];rw[List.take_of_length_le (by simp)]
theorem nonce_any(K0 V0 M0:List UInt8)(n:Nat)(w:World)(hV:V0.length≤1000)(hn:n<18446744073709551616) :
 Calls Tryz.prog 113 #[.agg #[.string ⟨K0.toArray⟩,.string ⟨V0.toArray⟩,.string ⟨M0.toArray⟩],.int .u64 n] w fun e w'=>e=.returned (.string ⟨(nonceL V0 n).toArray⟩)∧Below w.heap.size w w':=by
 have CF:Hid (∀W:World,Calls Tryz.prog 70 #[.string ⟨#[]⟩,.int .i64 4] W fun e w'=>e=.returned (.string ⟨(fit [] 4).toArray⟩)∧Below W.heap.size W w'):=zh (fun W=>fitted_any ⟨#[]⟩ 4 W (by decide) (by decide));have CV:Hid (∀W:World,Calls Tryz.prog 88 #[.int .u64 n,.int .i64 8] W fun e w'=>e=.returned (.string ⟨(fx n 8).toArray⟩)∧Below W.heap.size W w'):=zh (fun W=>vfixed n 8 W (by omega) (by decide) (by decide));have CX:=zh (fun W=>xor_call V0 (fit [] 4++fx n 8) W (by omega) (by rw[List.length_append,fit_len,fx_length];decide));have hc:=ba_app (fit [] 4) (fx n 8);have sA:=ba_size (fit [] 4);have sB:=ba_size (fx n 8);rw[fit_len]at sA;rw[fx_length]at sB;have CX:Hid (∀W:World,Calls Tryz.prog 33 #[.string ⟨V0.toArray⟩,.string ⟨(fit [] 4++fx n 8).toArray⟩] W fun e w'=>e=.returned (.string ⟨(nonceL V0 n).toArray⟩)∧Below W.heap.size W w'):=CX;generalize (⟨(fit [] 4++fx n 8).toArray⟩:ByteArray)=C at *;generalize (⟨(fit [] 4).toArray⟩:ByteArray)=A at *;generalize (⟨(fx n 8).toArray⟩:ByteArray)=B at *;generalize (⟨(nonceL V0 n).toArray⟩:ByteArray)=R at *;obtain⟨Kb,hK⟩:∃x:ByteArray,⟨K0.toArray⟩=x:=⟨_,rfl⟩;obtain⟨Vb,hVV⟩:∃x:ByteArray,⟨V0.toArray⟩=x:=⟨_,rfl⟩;obtain⟨Mb,hM⟩:∃x:ByteArray,⟨M0.toArray⟩=x:=⟨_,rfl⟩;rw[hVV]at CX;rw[hK,hVV,hM];clear hK hVV hM hV hn;have HX0:Hid (KX (w.alloc (.cells #[.string Kb,.string Vb,.string Mb] 88)) w.heap.size Kb Vb Mb∧Below w.heap.size w (w.alloc (.cells #[.string Kb,.string Vb,.string Mb] 88))):=zh ⟨heap_alloc_new w _,(Below.refl _ _).alloc zle _⟩;obtain⟨p0,p1,p2⟩:=HX0.out.1.cells;go_enter Tryz.func113,Tryz.ntmps113;go_wp2_with fail
 with_reducible refine (CF.out _).mono ?_
 rintro f1 z1 ⟨rfl,hb⟩;have HX1:Hid (KX z1 w.heap.size Kb Vb Mb∧Below w.heap.size w z1):=zh ⟨HX0.out.1.keep hb HX0.out.1.lt,HX0.out.2.trans (hb.mono HX0.out.2.size)⟩;clear hb;have HD0:Hid (KX z1.drew w.heap.size Kb Vb Mb∧Below w.heap.size w z1.drew):=zh ⟨HX1.out.1,HX1.out.2.drew⟩;obtain⟨p0,p1,p2⟩:=HX1.out.1.cells;go_wp2_with fail
 refine wp_region_noPanic ?_;refine wp_region_held_drew (S:=fun W:World=>KX W w.heap.size Kb Vb Mb∧Below w.heap.size w W) (by kernel_rfl) ?_ (fun hHeld=>?_)
 ·exact HD0.out
 iterate 5
  refine zqb [0,1,2,3,4] rfl rfl ?_ ?_ ?_;rotate_left
  ·(intro w hSw;obtain⟨hsk,hsb⟩:=hSw;obtain⟨q0,q1,q2⟩:=hsk.cells;go_simp;(try with_reducible rfl))
  try simp only[Act.put,J1,J2,J3,J4,J5,J6]
 refine zqf [5] (AllReadyH.cons rfl (fun K hK=>?_) AllReadyH.nil);rw[if_pos (by rfl)];go_simp;with_reducible refine (CV.out _).mono ?_
 rintro e1 y1 ⟨rfl,hb⟩;have HS1:Hid (KX y1 w.heap.size Kb Vb Mb∧Below w.heap.size w y1):=zh ⟨HD0.out.1.keep hb HD0.out.1.lt,HD0.out.2.trans (hb.mono HD0.out.2.size)⟩;clear hb;refine hK.out _ _ ?_ (fun hHeld=>?_)
 ·exact HS1.out
 clear hK K
 try simp only[Act.put,J1,J2,J3,J4,J5,J6]
 refine zqa 6 rfl ?_ ?_ ?_;rotate_left
 ·(intro w hSw;obtain⟨hsk,hsb⟩:=hSw;obtain⟨q0,q1,q2⟩:=hsk.cells;go_simp;(try with_reducible rfl))
 try simp only[Act.put,J1,J2,J3,J4,J5,J6]
 refine zqf [7] (AllReadyH.cons rfl (fun K hK=>?_) AllReadyH.nil);rw[if_pos (by rfl)];go_simp;with_reducible refine (CX.out _).mono ?_
 rintro e2 y2 ⟨rfl,hb⟩;have HS2:Hid (KX y2 w.heap.size Kb Vb Mb∧Below w.heap.size w y2):=zh ⟨HS1.out.1.keep hb HS1.out.1.lt,HS1.out.2.trans (hb.mono HS1.out.2.size)⟩;clear hb;refine hK.out _ _ ?_ (fun hHeld=>?_)
 ·exact HS2.out
 clear hK K
 try simp only[Act.put,J1,J2,J3,J4,J5,J6]
 refine zqa 8 rfl ?_ ?_ ?_;rotate_left
 ·(intro w hSw;obtain⟨hsk,hsb⟩:=hSw;obtain⟨q0,q1,q2⟩:=hsk.cells;go_simp;(try with_reducible rfl))
 try simp only[Act.put,J1,J2,J3,J4,J5,J6]
 refine zqe (NoPanic.normal ?_);go_wp2_with fail
 go_ret
 exact⟨rfl,hHeld.2⟩
theorem length_any(h:List UInt8)(w:World)(hh:h.length≤100000) :
 Calls Tryz.prog 115 #[.string ⟨h.toArray⟩] w fun e w'=>e=.returned (.string ⟨(fx h.length 8).toArray⟩)∧Below w.heap.size w w':=by
 have CV:Hid (∀W:World,Calls Tryz.prog 88 #[.int .u64 (h.length:Nat),.int .i64 8] W fun e w'=>e=.returned (.string ⟨(fx h.length 8).toArray⟩)∧Below W.heap.size W w'):=zh (fun W=>vfixed h.length 8 W (by omega) (by decide) (by decide));have hI:(h.length:Int)≤100000:=by omega
 go_enter Tryz.func115,Tryz.ntmps115;go_wp2_with fail
 with_reducible refine (CV.out _).mono ?_
 rintro e1 w1 ⟨rfl,hb⟩;have HB1:=zh hb;clear hb;go_wp2_with fail
 go_ret
 exact⟨rfl,HB1.out⟩
theorem laid_any(K0 V0 M0:List UInt8)(n:Nat)(t:List UInt8)(w:World)(hK:K0.length≤1000)(hV:V0.length≤1000)(hn:n<18446744073709551616)(ht:t.length≤50000) :
 Calls Tryz.prog 78 #[.agg #[.string ⟨K0.toArray⟩,.string ⟨V0.toArray⟩,.string ⟨M0.toArray⟩],.int .u64 n,.string ⟨t.toArray⟩] w fun e w'=>e=.returned (.string ⟨(laidL K0 V0 n t).toArray⟩)∧Below w.heap.size w w':=by
 have CN:Hid (∀W:World,Calls Tryz.prog 113 #[.agg #[.string ⟨K0.toArray⟩,.string ⟨V0.toArray⟩,.string ⟨M0.toArray⟩],.int .u64 n] W fun e w'=>e=.returned (.string ⟨(nonceL V0 n).toArray⟩)∧Below W.heap.size W w'):=zh (fun W=>nonce_any K0 V0 M0 n W hV hn);have CT:Hid (∀W:World,Calls Tryz.prog 10 #[.string ⟨K0.toArray⟩,.string ⟨(nonceL V0 n).toArray⟩,.int .u32 1,.string ⟨t.toArray⟩] W fun e w'=>e=.returned (.string ⟨(laidL K0 V0 n t).toArray⟩)∧Below W.heap.size W w'):=zh (fun W=>stream_any ⟨K0.toArray⟩ ⟨(nonceL V0 n).toArray⟩ 1 ⟨t.toArray⟩ W (by rw[ba_size];omega) (by rw[ba_size];have:=nonceL_len V0 n;omega) (by decide) (by rw[ba_size];omega));generalize (⟨(laidL K0 V0 n t).toArray⟩:ByteArray)=R at *;generalize (⟨(nonceL V0 n).toArray⟩:ByteArray)=NN at *;generalize (⟨t.toArray⟩:ByteArray)=TT at *;clear hK;obtain⟨Kb,hK⟩:∃x:ByteArray,⟨K0.toArray⟩=x:=⟨_,rfl⟩;obtain⟨Vb,hVV⟩:∃x:ByteArray,⟨V0.toArray⟩=x:=⟨_,rfl⟩;obtain⟨Mb,hM⟩:∃x:ByteArray,⟨M0.toArray⟩=x:=⟨_,rfl⟩;rw[hK,hVV,hM]at CN;rw[hK]at CT;rw[hK,hVV,hM];clear hK hVV hM hV hn;have HX0:Hid (KX (w.alloc (.cells #[.string Kb,.string Vb,.string Mb] 88)) w.heap.size Kb Vb Mb∧Below w.heap.size w (w.alloc (.cells #[.string Kb,.string Vb,.string Mb] 88))):=zh ⟨heap_alloc_new w _,(Below.refl _ _).alloc zle _⟩;obtain⟨p0,p1,p2⟩:=HX0.out.1.cells;have HD0:Hid (KX (w.alloc (.cells #[.string Kb,.string Vb,.string Mb] 88)).drew w.heap.size Kb Vb Mb∧Below w.heap.size w (w.alloc (.cells #[.string Kb,.string Vb,.string Mb] 88)).drew):=zh ⟨HX0.out.1,HX0.out.2.drew⟩;go_enter Tryz.func78,Tryz.ntmps78;go_wp2_with fail
 refine wp_region_noPanic ?_;refine wp_region_held_drew (S:=fun W:World=>KX W w.heap.size Kb Vb Mb∧Below w.heap.size w W) (by kernel_rfl) ?_ (fun hHeld=>?_)
 ·exact HD0.out
 iterate 6
  refine zqb [0,1,2,3,4,6] rfl rfl ?_ ?_ ?_;rotate_left
  ·(intro w hSw;obtain⟨hsk,hsb⟩:=hSw;obtain⟨q0,q1,q2⟩:=hsk.cells;go_simp;(try with_reducible rfl))
  try simp only[Act.put,J1,J2,J3,J4,J5,J6]
 refine zqf [5] (AllReadyH.cons rfl (fun K hK=>?_) AllReadyH.nil);rw[if_pos (by rfl)];go_simp;with_reducible refine (CN.out _).mono ?_
 rintro e1 y1 ⟨rfl,hb⟩;have HS1:Hid (KX y1 w.heap.size Kb Vb Mb∧Below w.heap.size w y1):=zh ⟨HD0.out.1.keep hb HD0.out.1.lt,HD0.out.2.trans (hb.mono HD0.out.2.size)⟩;clear hb;refine hK.out _ _ ?_ (fun hHeld=>?_)
 ·exact HS1.out
 clear hK K
 try simp only[Act.put,J1,J2,J3,J4,J5,J6]
 refine zqf [7] (AllReadyH.cons rfl (fun K hK=>?_) AllReadyH.nil);rw[if_pos (by rfl)];go_simp;with_reducible refine (CT.out _).mono ?_
 rintro e2 y2 ⟨rfl,hb⟩;have HS2:Hid (KX y2 w.heap.size Kb Vb Mb∧Below w.heap.size w y2):=zh ⟨HS1.out.1.keep hb HS1.out.1.lt,HS1.out.2.trans (hb.mono HS1.out.2.size)⟩;clear hb;refine hK.out _ _ ?_ (fun hHeld=>?_)
 ·exact HS2.out
 clear hK K
 try simp only[Act.put,J1,J2,J3,J4,J5,J6]
 refine zqa 8 rfl ?_ ?_ ?_;rotate_left
 ·(intro w hSw;obtain⟨hsk,hsb⟩:=hSw;obtain⟨q0,q1,q2⟩:=hsk.cells;go_simp;(try with_reducible rfl))
 try simp only[Act.put,J1,J2,J3,J4,J5,J6]
 refine zqe (NoPanic.normal ?_);go_wp2_with fail
 go_ret
 exact⟨rfl,hHeld.2⟩
theorem cat_4(a b c d:List UInt8):cat [⟨a.toArray⟩,⟨b.toArray⟩,⟨c.toArray⟩,⟨d.toArray⟩]=((a++b)++c)++d:=by simp[cat]
theorem mac_four(k a b c d l:List UInt8)(hk:k.length≤100000)(h4:((a++b)++c)++d=l)(hl:l.length≤50000)(W:World)(g:Nat)(hg:g=W.heap.size) :
 Calls Tryz.prog 114 #[.string ⟨k.toArray⟩,.slice (some ⟨g,0,none⟩) 4 4] (W.alloc (.cells #[.string ⟨a.toArray⟩,.string ⟨b.toArray⟩,.string ⟨c.toArray⟩,.string ⟨d.toArray⟩] 9)) fun e w'=>e=.returned (.string ⟨(mac k l).toArray⟩)∧Below W.heap.size W w':=
 (mac_of k l _ (W.alloc (.cells #[.string ⟨a.toArray⟩,.string ⟨b.toArray⟩,.string ⟨c.toArray⟩,.string ⟨d.toArray⟩] 9)) hk hl (zh fun W' hW'=>join_new [⟨a.toArray⟩,⟨b.toArray⟩,⟨c.toArray⟩,⟨d.toArray⟩] _ rfl 4 rfl (by omega) l ((cat_4 a b c d).trans h4) (by omega) W W' g hg hW')).mono (by
  rintro e w' ⟨h1,h2⟩
  exact⟨h1,((Below.refl _ _).alloc zle _).trans (h2.mono (by simp))⟩)
theorem tag_any(K0 V0 M0:List UInt8)(n:Nat)(h t:List UInt8)(w:World)(hK:K0.length≤1000)(hV:V0.length≤1000)(hn:n<18446744073709551616)(hh:h.length≤10000)(ht:t.length≤10000) :
 Calls Tryz.prog 79 #[.agg #[.string ⟨K0.toArray⟩,.string ⟨V0.toArray⟩,.string ⟨M0.toArray⟩],.int .u64 n,.string ⟨h.toArray⟩,.string ⟨t.toArray⟩] w fun e w'=>e=.returned (.string ⟨(tagL K0 V0 n h t).toArray⟩)∧Below w.heap.size w w':=by
 have CN:Hid (∀W:World,Calls Tryz.prog 113 #[.agg #[.string ⟨K0.toArray⟩,.string ⟨V0.toArray⟩,.string ⟨M0.toArray⟩],.int .u64 n] W fun e w'=>e=.returned (.string ⟨(nonceL V0 n).toArray⟩)∧Below W.heap.size W w'):=zh (fun W=>nonce_any K0 V0 M0 n W hV hn);have CB:Hid (∀W:World,Calls Tryz.prog 11 #[.string ⟨K0.toArray⟩,.string ⟨(nonceL V0 n).toArray⟩,.int .u32 0] W fun e w'=>e=.returned (.string ⟨(blk K0 (nonceL V0 n) 0).toArray⟩)∧Below W.heap.size W w'):=zh (fun W=>block_call ⟨K0.toArray⟩ ⟨(nonceL V0 n).toArray⟩ 0 W (by rw[ba_size];omega) (by rw[ba_size];have:=nonceL_len V0 n;omega) (by decide));have CL1:=zh (fun W=>length_any h W (by omega));have CL2:=zh (fun W=>length_any t W (by omega));have CM:=zh (fun W g hg=>mac_four ((blk K0 (nonceL V0 n) 0).take 32) h (fx h.length 8) t (fx t.length 8) _ (by rw[List.length_take];omega) rfl (by simp only[List.length_append,fx_length];omega) W g hg);have CM:Hid (∀(W:World) (g:Nat),g=W.heap.size→Calls Tryz.prog 114 #[.string ⟨((blk K0 (nonceL V0 n) 0).take 32).toArray⟩,.slice (some ⟨g,0,none⟩) 4 4] (W.alloc (.cells #[.string ⟨h.toArray⟩,.string ⟨(fx h.length 8).toArray⟩,.string ⟨t.toArray⟩,.string ⟨(fx t.length 8).toArray⟩] 9)) fun e w'=>e=.returned (.string ⟨(mac ((blk K0 (nonceL V0 n) 0).take 32) (((h++fx h.length 8)++t)++fx t.length 8)).toArray⟩)∧Below W.heap.size W w'):=CM;have e1:=ba_take (blk K0 (nonceL V0 n) 0) 32;have s1:=ba_size (blk K0 (nonceL V0 n) 0);rw[blk_len]at s1;have e2:(⟨(mac ((blk K0 (nonceL V0 n) 0).take 32) (((h++fx h.length 8)++t)++fx t.length 8)).toArray⟩:ByteArray).extract 0 16=⟨(tagL K0 V0 n h t).toArray⟩:=ba_take _ 16;have s2:=ba_size (mac ((blk K0 (nonceL V0 n) 0).take 32) (((h++fx h.length 8)++t)++fx t.length 8));rw[mac_len]at s2;generalize (⟨(mac ((blk K0 (nonceL V0 n) 0).take 32) (((h++fx h.length 8)++t)++fx t.length 8)).toArray⟩:ByteArray)=MC at *;generalize (⟨((blk K0 (nonceL V0 n) 0).take 32).toArray⟩:ByteArray)=BK at *;generalize (⟨(blk K0 (nonceL V0 n) 0).toArray⟩:ByteArray)=BB at *;generalize (⟨(nonceL V0 n).toArray⟩:ByteArray)=NN at *;generalize (⟨(tagL K0 V0 n h t).toArray⟩:ByteArray)=R at *;generalize (⟨h.toArray⟩:ByteArray)=HH at *;generalize (⟨t.toArray⟩:ByteArray)=TT at *;generalize (⟨(fx h.length 8).toArray⟩:ByteArray)=H8 at *;generalize (⟨(fx t.length 8).toArray⟩:ByteArray)=T8 at *;clear hK;obtain⟨Kb,hK⟩:∃x:ByteArray,⟨K0.toArray⟩=x:=⟨_,rfl⟩;obtain⟨Vb,hVV⟩:∃x:ByteArray,⟨V0.toArray⟩=x:=⟨_,rfl⟩;obtain⟨Mb,hM⟩:∃x:ByteArray,⟨M0.toArray⟩=x:=⟨_,rfl⟩;rw[hK,hVV,hM]at CN;rw[hK]at CB;rw[hK,hVV,hM];clear hK hVV hM hV hn;have HX0:Hid (KX (w.alloc (.cells #[.string Kb,.string Vb,.string Mb] 88)) w.heap.size Kb Vb Mb∧Below w.heap.size w (w.alloc (.cells #[.string Kb,.string Vb,.string Mb] 88))):=zh ⟨heap_alloc_new w _,(Below.refl _ _).alloc zle _⟩;obtain⟨p0,p1,p2⟩:=HX0.out.1.cells;have HD0:Hid (KX (w.alloc (.cells #[.string Kb,.string Vb,.string Mb] 88)).drew w.heap.size Kb Vb Mb∧Below w.heap.size w (w.alloc (.cells #[.string Kb,.string Vb,.string Mb] 88)).drew):=zh ⟨HX0.out.1,HX0.out.2.drew⟩
 go_enter Tryz.func79,Tryz.ntmps79;go_wp2_with fail
 refine wp_region_noPanic ?_;refine wp_region_held_drew (S:=fun W:World=>KX W w.heap.size Kb Vb Mb∧Below w.heap.size w W) (by kernel_rfl) ?_ (fun hHeld=>?_)
 ·exact HD0.out
 iterate 5
  refine zqb [0,1,2,3,4] rfl rfl ?_ ?_ ?_;rotate_left
  ·(intro w hSw;obtain⟨hsk,hsb⟩:=hSw;obtain⟨q0,q1,q2⟩:=hsk.cells;go_simp;(try with_reducible rfl))
  try simp only[Act.put,J1,J2,J3,J4,J5,J6]
 refine zqf [5] (AllReadyH.cons rfl (fun K hK=>?_) AllReadyH.nil);rw[if_pos (by rfl)];go_simp;with_reducible refine (CN.out _).mono ?_
 rintro e1 y1 ⟨rfl,hb⟩;have HS1:Hid (KX y1 w.heap.size Kb Vb Mb∧Below w.heap.size w y1):=zh ⟨HD0.out.1.keep hb HD0.out.1.lt,HD0.out.2.trans (hb.mono HD0.out.2.size)⟩;clear hb;refine hK.out _ _ ?_ (fun hHeld=>?_)
 ·exact HS1.out
 clear hK K
 try simp only[Act.put,J1,J2,J3,J4,J5,J6]
 refine zqf [6] (AllReadyH.cons rfl (fun K hK=>?_) AllReadyH.nil);rw[if_pos (by rfl)];go_simp;with_reducible refine (CB.out _).mono ?_
 rintro e2 y2 ⟨rfl,hb⟩;have HS2:Hid (KX y2 w.heap.size Kb Vb Mb∧Below w.heap.size w y2):=zh ⟨HS1.out.1.keep hb HS1.out.1.lt,HS1.out.2.trans (hb.mono HS1.out.2.size)⟩;clear hb;refine hK.out _ _ ?_ (fun hHeld=>?_)
 ·exact HS2.out
 clear hK K
 try simp only[Act.put,J1,J2,J3,J4,J5,J6]
 iterate 2
  refine zqb [7,8] rfl rfl ?_ ?_ ?_;rotate_left
  ·(intro w hSw;obtain⟨hsk,hsb⟩:=hSw;obtain⟨q0,q1,q2⟩:=hsk.cells;go_simp;(try with_reducible rfl))
  try simp only[Act.put,J1,J2,J3,J4,J5,J6]
 refine zqe (NoPanic.normal ?_);have HX2:=zh hHeld;clear hHeld;go_wp2_with fail
 with_reducible refine (CL1.out _).mono ?_
 rintro f3 z3 ⟨rfl,hb⟩;have HX3:Hid (KX z3 w.heap.size Kb Vb Mb∧Below w.heap.size w z3):=zh ⟨HX2.out.1.keep hb HX2.out.1.lt,HX2.out.2.trans (hb.mono HX2.out.2.size)⟩;clear hb;go_wp2_with fail
 with_reducible refine (CL2.out _).mono ?_
 rintro f4 z4 ⟨rfl,hb⟩;have HX4:Hid (KX z4 w.heap.size Kb Vb Mb∧Below w.heap.size w z4):=zh ⟨HX3.out.1.keep hb HX3.out.1.lt,HX3.out.2.trans (hb.mono HX3.out.2.size)⟩;clear hb;have CMM:=zh (CM.out z4 _ rfl);go_wp2_with fail
 with_reducible refine (CMM.out).mono ?_
 rintro f5 z5 ⟨rfl,hb⟩;have HB5:=zh (HX4.out.2.trans (hb.mono HX4.out.2.size));clear hb;go_wp2_with fail
 go_ret
 exact⟨rfl,HB5.out⟩
theorem sealed_any(K0 V0 M0:List UInt8)(n:Nat)(h t:List UInt8)(w:World)(hK:K0.length≤1000)(hV:V0.length≤1000)(hn:n<18446744073709551616)(hh:h.length≤10000)(ht:t.length≤10000) :
 Calls Tryz.prog 44 #[.agg #[.string ⟨K0.toArray⟩,.string ⟨V0.toArray⟩,.string ⟨M0.toArray⟩],.int .u64 n,.string ⟨h.toArray⟩,.string ⟨t.toArray⟩] w fun e w'=>e=.returned (.string ⟨(sealL K0 V0 n h t).toArray⟩)∧Below w.heap.size w w':=by
 have CN:=zh (fun W=>laid_any K0 V0 M0 n t W hK hV hn (by omega));have CT:=zh (fun W=>tag_any K0 V0 M0 n h (laidL K0 V0 n t) W hK hV hn hh (by rw[laidL_len];omega));have e1:(⟨(laidL K0 V0 n t).toArray⟩:ByteArray)++(⟨(tagL K0 V0 n h (laidL K0 V0 n t)).toArray⟩:ByteArray)=⟨(sealL K0 V0 n h t).toArray⟩:=ba_app _ _;have s1:=ba_size (laidL K0 V0 n t);have s2:=ba_size (tagL K0 V0 n h (laidL K0 V0 n t));rw[laidL_len]at s1;rw[tagL_len]at s2;generalize (⟨(tagL K0 V0 n h (laidL K0 V0 n t)).toArray⟩:ByteArray)=TG at *;generalize (⟨(laidL K0 V0 n t).toArray⟩:ByteArray)=LD at *;generalize (⟨(sealL K0 V0 n h t).toArray⟩:ByteArray)=R at *;generalize (⟨h.toArray⟩:ByteArray)=HH at *;generalize (⟨t.toArray⟩:ByteArray)=TT at *;have s1:(LD.size:Int)≤10000:=by omega
 clear hK;obtain⟨Kb,hK⟩:∃x:ByteArray,⟨K0.toArray⟩=x:=⟨_,rfl⟩;obtain⟨Vb,hVV⟩:∃x:ByteArray,⟨V0.toArray⟩=x:=⟨_,rfl⟩;obtain⟨Mb,hM⟩:∃x:ByteArray,⟨M0.toArray⟩=x:=⟨_,rfl⟩;rw[hK,hVV,hM]at CN;rw[hK,hVV,hM]at CT;rw[hK,hVV,hM];clear hK hVV hM hV hn;have HX0:Hid (KX (w.alloc (.cells #[.string Kb,.string Vb,.string Mb] 88)) w.heap.size Kb Vb Mb∧Below w.heap.size w (w.alloc (.cells #[.string Kb,.string Vb,.string Mb] 88))):=zh ⟨heap_alloc_new w _,(Below.refl _ _).alloc zle _⟩;obtain⟨p0,p1,p2⟩:=HX0.out.1.cells;go_enter Tryz.func44,Tryz.ntmps44;go_wp2_with fail
 with_reducible refine (CN.out _).mono ?_
 rintro f1 z1 ⟨rfl,hb⟩;have HX1:Hid (KX z1 w.heap.size Kb Vb Mb∧Below w.heap.size w z1):=zh ⟨HX0.out.1.keep hb HX0.out.1.lt,HX0.out.2.trans (hb.mono HX0.out.2.size)⟩;clear hb;obtain⟨p0,p1,p2⟩:=HX1.out.1.cells;go_wp2_with fail
 with_reducible refine (CT.out _).mono ?_
 rintro f2 z2 ⟨rfl,hb⟩;have HX2:Hid (KX z2 w.heap.size Kb Vb Mb∧Below w.heap.size w z2):=zh ⟨HX1.out.1.keep hb HX1.out.1.lt,HX1.out.2.trans (hb.mono HX1.out.2.size)⟩;clear hb;go_wp2_with fail
 go_ret
 exact⟨rfl,HX2.out.2⟩
theorem mask_any(K0 V0 M0 sm:List UInt8)(w:World)(hM0:M0.length≤1000)(hs:sm.length=16) :
 Calls Tryz.prog 48 #[.agg #[.string ⟨K0.toArray⟩,.string ⟨V0.toArray⟩,.string ⟨M0.toArray⟩],.string ⟨sm.toArray⟩] w fun e w'=>e=.returned (.string ⟨(maskL M0 sm).toArray⟩)∧Below w.heap.size w w':=by
 have hlw:lw (sm.take 4) 0=lw sm 0:=by
  have g:∀i,i<4→(sm.take 4).getD i 0=sm.getD i 0:=by
   intro i hi;rw[List.getD_eq_getElem?_getD,List.getD_eq_getElem?_getD,List.getElem?_take_of_lt hi]
  unfold lw;rw[g _ (by decide),g _ (by decide),g _ (by decide),g _ (by decide)]
 have CN:Hid (∀W:World,Calls Tryz.prog 71 #[.string ⟨(sm.take 4).toArray⟩] W fun e w'=>e=.returned (.int .u32 (lw sm 0:Nat))∧Below W.heap.size W w'):=zh (fun W=>by
  have h:=number_any ⟨(sm.take 4).toArray⟩ W (by rw[ba_size,List.length_take];omega);have e:(⟨(sm.take 4).toArray⟩:ByteArray).data.toList=sm.take 4:=rfl;rw[e,hlw]at h
  exact h.mono fun e w' ⟨h1,h2⟩=>⟨h1,by rw[h2];exact Below.refl _ _⟩)
 have CB:Hid (∀W:World,Calls Tryz.prog 11 #[.string ⟨M0.toArray⟩,.string ⟨(sm.drop 4).toArray⟩,.int .u32 (lw sm 0:Nat)] W fun e w'=>e=.returned (.string ⟨(blk M0 (sm.drop 4) (lw sm 0)).toArray⟩)∧Below W.heap.size W w'):=zh (fun W=>block_call ⟨M0.toArray⟩ ⟨(sm.drop 4).toArray⟩ (lw sm 0) W (by rw[ba_size];omega) (by rw[ba_size,List.length_drop];omega) (lw_lt _ _));have e1:=ba_take sm 4;have e2:=ba_drop sm 4 16 hs.symm;have s1:=ba_size sm;rw[hs]at s1;have e3:(⟨(blk M0 (sm.drop 4) (lw sm 0)).toArray⟩:ByteArray).extract 0 5=⟨(maskL M0 sm).toArray⟩:=ba_take _ 5;have s3:=ba_size (blk M0 (sm.drop 4) (lw sm 0));rw[blk_len]at s3;generalize (⟨(blk M0 (sm.drop 4) (lw sm 0)).toArray⟩:ByteArray)=BB at *;generalize (⟨(maskL M0 sm).toArray⟩:ByteArray)=R at *;generalize (⟨(sm.take 4).toArray⟩:ByteArray)=S4 at *;generalize (⟨(sm.drop 4).toArray⟩:ByteArray)=S12 at *;generalize (⟨sm.toArray⟩:ByteArray)=SM at *;generalize lw sm 0=cn at *;obtain⟨Kb,hK⟩:∃x:ByteArray,⟨K0.toArray⟩=x:=⟨_,rfl⟩;obtain⟨Vb,hVV⟩:∃x:ByteArray,⟨V0.toArray⟩=x:=⟨_,rfl⟩;obtain⟨Mb,hM⟩:∃x:ByteArray,⟨M0.toArray⟩=x:=⟨_,rfl⟩;rw[hM]at CB;rw[hK,hVV,hM];clear hK hVV hM hM0 hs hlw;have HX0:Hid (KX (w.alloc (.cells #[.string Kb,.string Vb,.string Mb] 88)) w.heap.size Kb Vb Mb∧Below w.heap.size w (w.alloc (.cells #[.string Kb,.string Vb,.string Mb] 88))):=zh ⟨heap_alloc_new w _,(Below.refl _ _).alloc zle _⟩;obtain⟨p0,p1,p2⟩:=HX0.out.1.cells;have HD0:Hid (KX (w.alloc (.cells #[.string Kb,.string Vb,.string Mb] 88)).drew w.heap.size Kb Vb Mb∧Below w.heap.size w (w.alloc (.cells #[.string Kb,.string Vb,.string Mb] 88)).drew):=zh ⟨HX0.out.1,HX0.out.2.drew⟩;go_enter Tryz.func48,Tryz.ntmps48;go_wp2_with fail
 go_region
 have HD1:Hid (KX (w.alloc (.cells #[.string Kb,.string Vb,.string Mb] 88)).drew.drew w.heap.size Kb Vb Mb∧Below w.heap.size w (w.alloc (.cells #[.string Kb,.string Vb,.string Mb] 88)).drew.drew):=zh ⟨HD0.out.1,HD0.out.2.drew⟩;go_wp2_with fail
 refine wp_region_noPanic ?_;refine wp_region_held_drew (S:=fun W:World=>KX W w.heap.size Kb Vb Mb∧Below w.heap.size w W) (by kernel_rfl) ?_ (fun hHeld=>?_)
 ·exact HD1.out
 iterate 5
  refine zqb [0,1,2,3,4] rfl rfl ?_ ?_ ?_;rotate_left
  ·(intro w hSw;obtain⟨hsk,hsb⟩:=hSw;obtain⟨q0,q1,q2⟩:=hsk.cells;go_simp;(try with_reducible rfl))
  try simp only[Act.put,J1,J2,J3,J4,J5,J6]
 refine zqf [5] (AllReadyH.cons rfl (fun K hK=>?_) AllReadyH.nil);rw[if_pos (by rfl)];go_simp;with_reducible refine (CN.out _).mono ?_
 rintro e1 y1 ⟨rfl,hb⟩;have HS1:Hid (KX y1 w.heap.size Kb Vb Mb∧Below w.heap.size w y1):=zh ⟨HD1.out.1.keep hb HD1.out.1.lt,HD1.out.2.trans (hb.mono HD1.out.2.size)⟩;clear hb;refine hK.out _ _ ?_ (fun hHeld=>?_)
 ·exact HS1.out
 clear hK K
 try simp only[Act.put,J1,J2,J3,J4,J5,J6]
 refine zqf [6] (AllReadyH.cons rfl (fun K hK=>?_) AllReadyH.nil);rw[if_pos (by rfl)];go_simp;with_reducible refine (CB.out _).mono ?_
 rintro e2 y2 ⟨rfl,hb⟩;have HS2:Hid (KX y2 w.heap.size Kb Vb Mb∧Below w.heap.size w y2):=zh ⟨HS1.out.1.keep hb HS1.out.1.lt,HS1.out.2.trans (hb.mono HS1.out.2.size)⟩;clear hb;refine hK.out _ _ ?_ (fun hHeld=>?_)
 ·exact HS2.out
 clear hK K
 try simp only[Act.put,J1,J2,J3,J4,J5,J6]
 iterate 2
  refine zqb [7,8] rfl rfl ?_ ?_ ?_;rotate_left
  ·(intro w hSw;obtain⟨hsk,hsb⟩:=hSw;obtain⟨q0,q1,q2⟩:=hsk.cells;go_simp;(try with_reducible rfl))
  try simp only[Act.put,J1,J2,J3,J4,J5,J6]
 refine zqe (NoPanic.normal ?_);go_wp2_with fail
 go_ret
 exact⟨rfl,hHeld.2⟩
theorem openL_short{K V:List UInt8}{n:Nat}{h s:List UInt8}(hs:s.length<16):openL K V n h s=none:=by
 unfold openL;rw[if_neg (by omega)]
theorem openL_yes{K V:List UInt8}{n:Nat}{h s:List UInt8}(hs:16≤s.length)(ht:s.drop (s.length-16)=tagL K V n h (s.take (s.length-16))):openL K V n h s=some (laidL K V n (s.take (s.length-16))):=by
 unfold openL;rw[if_pos ⟨hs,ht⟩]
theorem openL_no{K V:List UInt8}{n:Nat}{h s:List UInt8}(ht:¬s.drop (s.length-16)=tagL K V n h (s.take (s.length-16))):openL K V n h s=none:=by
 unfold openL;rw[if_neg (fun x=>ht x.2)]
def opV (o:Option (List UInt8)):Value:=match o with|some p=>.tuple #[.string ⟨p.toArray⟩,.bool true]|none=>.tuple #[.string ⟨#[]⟩,.bool false]
theorem ba_eq(a b:List UInt8):((⟨a.toArray⟩:ByteArray).toList==(⟨b.toArray⟩:ByteArray).toList)=(a==b):=by
 rw[ByteArray.toList_eq,ByteArray.toList_eq]
theorem opened_short(K0 V0 M0:List UInt8)(n:Nat)(h t:List UInt8)(w:World)(ht:t.length<16) :
 Calls Tryz.prog 45 #[.agg #[.string ⟨K0.toArray⟩,.string ⟨V0.toArray⟩,.string ⟨M0.toArray⟩],.int .u64 n,.string ⟨h.toArray⟩,.string ⟨t.toArray⟩] w fun e w'=>e=.returned (.tuple #[.string ⟨#[]⟩,.bool false])∧Below w.heap.size w w':=by
 have s1:=ba_size t;have hI:((⟨t.toArray⟩:ByteArray).size:Int)-16<0:=by omega
 have hI0:((⟨t.toArray⟩:ByteArray).size:Int)<16:=by omega
 generalize (⟨h.toArray⟩:ByteArray)=HH at *;generalize (⟨t.toArray⟩:ByteArray)=TT at *;obtain⟨Kb,hK⟩:∃x:ByteArray,⟨K0.toArray⟩=x:=⟨_,rfl⟩;obtain⟨Vb,hVV⟩:∃x:ByteArray,⟨V0.toArray⟩=x:=⟨_,rfl⟩;obtain⟨Mb,hM⟩:∃x:ByteArray,⟨M0.toArray⟩=x:=⟨_,rfl⟩;rw[hK,hVV,hM];clear hK hVV hM s1 ht;have HX0:Hid (KX (w.alloc (.cells #[.string Kb,.string Vb,.string Mb] 88)) w.heap.size Kb Vb Mb∧Below w.heap.size w (w.alloc (.cells #[.string Kb,.string Vb,.string Mb] 88))):=zh ⟨heap_alloc_new w _,(Below.refl _ _).alloc zle _⟩;obtain⟨p0,p1,p2⟩:=HX0.out.1.cells;have HD0:Hid (KX (w.alloc (.cells #[.string Kb,.string Vb,.string Mb] 88)).drew w.heap.size Kb Vb Mb∧Below w.heap.size w (w.alloc (.cells #[.string Kb,.string Vb,.string Mb] 88)).drew):=zh ⟨HX0.out.1,HX0.out.2.drew⟩;go_enter Tryz.func45,Tryz.ntmps45;go_wp2_with fail
 refine wp_region_noPanic ?_;refine wp_region_held_drew (S:=fun W:World=>KX W w.heap.size Kb Vb Mb∧Below w.heap.size w W) (by kernel_rfl) ?_ (fun hHeld=>?_)
 ·exact HD0.out
 iterate 3
  refine zqb [0,1,2] rfl rfl ?_ ?_ ?_;rotate_left
  ·(intro w hSw;obtain⟨hsk,hsb⟩:=hSw;obtain⟨q0,q1,q2⟩:=hsk.cells;go_simp;(try with_reducible rfl))
  try simp only[Act.put,J1,J2,J3,J4,J5,J6]
 refine zqc 3 rfl ?_
 try simp only[Act.put,J1,J2,J3,J4,J5,J6]
 refine zqc 4 rfl ?_
 try simp only[Act.put,J1,J2,J3,J4,J5,J6]
 refine zqc 5 rfl ?_
 try simp only[Act.put,J1,J2,J3,J4,J5,J6]
 refine zqc 6 rfl ?_
 try simp only[Act.put,J1,J2,J3,J4,J5,J6]
 refine zqc 7 rfl ?_
 try simp only[Act.put,J1,J2,J3,J4,J5,J6]
 refine zqc 8 rfl ?_
 try simp only[Act.put,J1,J2,J3,J4,J5,J6]
 refine zqc 9 rfl ?_
 try simp only[Act.put,J1,J2,J3,J4,J5,J6]
 refine zqc 10 rfl ?_
 try simp only[Act.put,J1,J2,J3,J4,J5,J6]
 refine zqc 11 rfl ?_
 try simp only[Act.put,J1,J2,J3,J4,J5,J6]
 refine zqc 12 rfl ?_
 try simp only[Act.put,J1,J2,J3,J4,J5,J6]
 refine zqc 13 rfl ?_
 try simp only[Act.put,J1,J2,J3,J4,J5,J6]
 refine zqa 14 rfl ?_ ?_ ?_;rotate_left
 ·(intro w hSw;obtain⟨hsk,hsb⟩:=hSw;obtain⟨q0,q1,q2⟩:=hsk.cells;go_simp;(try with_reducible rfl))
 try simp only[Act.put,J1,J2,J3,J4,J5,J6]
 refine zqe (NoPanic.normal ?_);go_wp2_with fail
 go_ret2
 exact⟨rfl,hHeld.2⟩
theorem opened_yes(K0 V0 M0:List UInt8)(n E:Nat)(h t:List UInt8)(w:World)(hK:K0.length≤1000)(hV:V0.length≤1000)(hn:n<18446744073709551616)(hh:h.length≤10000)(ht:t.length≤10000)(hE:t.length=E+16)(hc:(t.drop E==tagL K0 V0 n h (t.take E))=true) :
 Calls Tryz.prog 45 #[.agg #[.string ⟨K0.toArray⟩,.string ⟨V0.toArray⟩,.string ⟨M0.toArray⟩],.int .u64 n,.string ⟨h.toArray⟩,.string ⟨t.toArray⟩] w fun e w'=>e=.returned (.tuple #[.string ⟨(laidL K0 V0 n (t.take E)).toArray⟩,.bool true])∧Below w.heap.size w w':=by
 have CT:=zh (fun W=>tag_any K0 V0 M0 n h (t.take E) W hK hV hn hh (by rw[List.length_take];omega));have CL:=zh (fun W=>laid_any K0 V0 M0 n (t.take E) W hK hV hn (by rw[List.length_take];omega));have s1:=ba_size t;rw[hE]at s1;have e1:=ba_take t E;have e2:=ba_drop t E (E+16) hE.symm;have hcb:=ba_eq (t.drop E) (tagL K0 V0 n h (t.take E));rw[hc]at hcb;generalize (⟨(laidL K0 V0 n (t.take E)).toArray⟩:ByteArray)=R at *;generalize (⟨(tagL K0 V0 n h (t.take E)).toArray⟩:ByteArray)=TG at *;generalize (⟨(t.take E).toArray⟩:ByteArray)=TE at *;generalize (⟨(t.drop E).toArray⟩:ByteArray)=TD at *;generalize (⟨h.toArray⟩:ByteArray)=HH at *;generalize (⟨t.toArray⟩:ByteArray)=TT at *;have hE2:(TT.size:Int)-16=(E:Int):=by omega
 have hE3:¬((E:Int)<0):=by omega
 have hE4:(E:Int)≤10000:=by omega
 have hE5:(E:Int)≤(E:Int)+16:=by omega
 have hE6:(0:Int)≤(E:Int):=by omega
 have hcb2:(TD.toList==TG.toList)=true:=hcb;clear hK hc hcb;obtain⟨Kb,hK⟩:∃x:ByteArray,⟨K0.toArray⟩=x:=⟨_,rfl⟩;obtain⟨Vb,hVV⟩:∃x:ByteArray,⟨V0.toArray⟩=x:=⟨_,rfl⟩;obtain⟨Mb,hM⟩:∃x:ByteArray,⟨M0.toArray⟩=x:=⟨_,rfl⟩;rw[hK,hVV,hM]at CT;rw[hK,hVV,hM]at CL;rw[hK,hVV,hM];clear hK hVV hM hV hn hh ht hE;have HX0:Hid (KX (w.alloc (.cells #[.string Kb,.string Vb,.string Mb] 88)) w.heap.size Kb Vb Mb∧Below w.heap.size w (w.alloc (.cells #[.string Kb,.string Vb,.string Mb] 88))):=zh ⟨heap_alloc_new w _,(Below.refl _ _).alloc zle _⟩;obtain⟨p0,p1,p2⟩:=HX0.out.1.cells;have HD0:Hid (KX (w.alloc (.cells #[.string Kb,.string Vb,.string Mb] 88)).drew w.heap.size Kb Vb Mb∧Below w.heap.size w (w.alloc (.cells #[.string Kb,.string Vb,.string Mb] 88)).drew):=zh ⟨HX0.out.1,HX0.out.2.drew⟩;go_enter Tryz.func45,Tryz.ntmps45;go_wp2_with fail
 refine wp_region_noPanic ?_;refine wp_region_held_drew (S:=fun W:World=>KX W w.heap.size Kb Vb Mb∧Below w.heap.size w W) (by kernel_rfl) ?_ (fun hHeld=>?_)
 ·exact HD0.out
 iterate 12
  refine zqb [0,1,2,3,4,5,6,7,8,9,10,11] rfl rfl ?_ ?_ ?_;rotate_left
  ·(intro w hSw;obtain⟨hsk,hsb⟩:=hSw;obtain⟨q0,q1,q2⟩:=hsk.cells;go_simp;(try with_reducible rfl))
  try simp only[Act.put,J1,J2,J3,J4,J5,J6]
 refine zqf [12] (AllReadyH.cons rfl (fun K hK=>?_) AllReadyH.nil);rw[if_pos (by rfl)];go_simp;with_reducible refine (CT.out _).mono ?_
 rintro e1 y1 ⟨rfl,hb⟩;have HS1:Hid (KX y1 w.heap.size Kb Vb Mb∧Below w.heap.size w y1):=zh ⟨HD0.out.1.keep hb HD0.out.1.lt,HD0.out.2.trans (hb.mono HD0.out.2.size)⟩;clear hb;refine hK.out _ _ ?_ (fun hHeld=>?_)
 ·exact HS1.out
 clear hK K
 try simp only[Act.put,J1,J2,J3,J4,J5,J6]
 iterate 2
  refine zqb [13,14] rfl rfl ?_ ?_ ?_;rotate_left
  ·(intro w hSw;obtain⟨hsk,hsb⟩:=hSw;obtain⟨q0,q1,q2⟩:=hsk.cells;go_simp;(try with_reducible rfl))
  try simp only[Act.put,J1,J2,J3,J4,J5,J6]
 refine zqe (NoPanic.normal ?_);have HX5:=zh hHeld;obtain⟨v0,v1,v2⟩:=HX5.out.1.cells;have HD5:Hid (KX y1.drew w.heap.size Kb Vb Mb∧Below w.heap.size w y1.drew):=zh ⟨HX5.out.1,HX5.out.2.drew⟩;clear hHeld;go_wp2_with fail
 refine wp_region_noPanic ?_;refine wp_region_held_drew (S:=fun W:World=>KX W w.heap.size Kb Vb Mb∧Below w.heap.size w W) (by kernel_rfl) ?_ (fun hHeld=>?_)
 ·exact HD5.out
 iterate 5
  refine zqb [0,1,2,3,4] rfl rfl ?_ ?_ ?_;rotate_left
  ·(intro w hSw;obtain⟨hsk,hsb⟩:=hSw;obtain⟨q0,q1,q2⟩:=hsk.cells;go_simp;(try with_reducible rfl))
  try simp only[Act.put,J1,J2,J3,J4,J5,J6]
 refine zqf [5] (AllReadyH.cons rfl (fun K hK=>?_) AllReadyH.nil);rw[if_pos (by rfl)];go_simp;with_reducible refine (CL.out _).mono ?_
 rintro e6 y6 ⟨rfl,hb⟩;have HS6:Hid (KX y6 w.heap.size Kb Vb Mb∧Below w.heap.size w y6):=zh ⟨HD5.out.1.keep hb HD5.out.1.lt,HD5.out.2.trans (hb.mono HD5.out.2.size)⟩;clear hb;refine hK.out _ _ ?_ (fun hHeld=>?_)
 ·exact HS6.out
 clear hK K
 try simp only[Act.put,J1,J2,J3,J4,J5,J6]
 iterate 2
  refine zqb [6,7] rfl rfl ?_ ?_ ?_;rotate_left
  ·(intro w hSw;obtain⟨hsk,hsb⟩:=hSw;obtain⟨q0,q1,q2⟩:=hsk.cells;go_simp;(try with_reducible rfl))
  try simp only[Act.put,J1,J2,J3,J4,J5,J6]
 refine zqe (NoPanic.normal ?_);go_wp2_with fail
 go_ret2
 exact⟨rfl,hHeld.2⟩
theorem opened_no(K0 V0 M0:List UInt8)(n E:Nat)(h t:List UInt8)(w:World)(hK:K0.length≤1000)(hV:V0.length≤1000)(hn:n<18446744073709551616)(hh:h.length≤10000)(ht:t.length≤10000)(hE:t.length=E+16)(hc:(t.drop E==tagL K0 V0 n h (t.take E))=false) :
 Calls Tryz.prog 45 #[.agg #[.string ⟨K0.toArray⟩,.string ⟨V0.toArray⟩,.string ⟨M0.toArray⟩],.int .u64 n,.string ⟨h.toArray⟩,.string ⟨t.toArray⟩] w fun e w'=>e=.returned (.tuple #[.string ⟨#[]⟩,.bool false])∧Below w.heap.size w w':=by
 have CT:=zh (fun W=>tag_any K0 V0 M0 n h (t.take E) W hK hV hn hh (by rw[List.length_take];omega));have s1:=ba_size t;rw[hE]at s1;have e1:=ba_take t E;have e2:=ba_drop t E (E+16) hE.symm;have hcb:=ba_eq (t.drop E) (tagL K0 V0 n h (t.take E));rw[hc]at hcb;generalize (⟨(tagL K0 V0 n h (t.take E)).toArray⟩:ByteArray)=TG at *;generalize (⟨(t.take E).toArray⟩:ByteArray)=TE at *;generalize (⟨(t.drop E).toArray⟩:ByteArray)=TD at *;generalize (⟨h.toArray⟩:ByteArray)=HH at *;generalize (⟨t.toArray⟩:ByteArray)=TT at *;have hE2:(TT.size:Int)-16=(E:Int):=by omega
 have hE3:¬((E:Int)<0):=by omega
 have hE4:(E:Int)≤10000:=by omega
 have hE5:(E:Int)≤(E:Int)+16:=by omega
 have hE6:(0:Int)≤(E:Int):=by omega
 have hcb2:(TD.toList==TG.toList)=false:=hcb;clear hK hc hcb;obtain⟨Kb,hK⟩:∃x:ByteArray,⟨K0.toArray⟩=x:=⟨_,rfl⟩;obtain⟨Vb,hVV⟩:∃x:ByteArray,⟨V0.toArray⟩=x:=⟨_,rfl⟩;obtain⟨Mb,hM⟩:∃x:ByteArray,⟨M0.toArray⟩=x:=⟨_,rfl⟩;rw[hK,hVV,hM]at CT;rw[hK,hVV,hM];clear hK hVV hM hV hn hh ht hE;have HX0:Hid (KX (w.alloc (.cells #[.string Kb,.string Vb,.string Mb] 88)) w.heap.size Kb Vb Mb∧Below w.heap.size w (w.alloc (.cells #[.string Kb,.string Vb,.string Mb] 88))):=zh ⟨heap_alloc_new w _,(Below.refl _ _).alloc zle _⟩;obtain⟨p0,p1,p2⟩:=HX0.out.1.cells;have HD0:Hid (KX (w.alloc (.cells #[.string Kb,.string Vb,.string Mb] 88)).drew w.heap.size Kb Vb Mb∧Below w.heap.size w (w.alloc (.cells #[.string Kb,.string Vb,.string Mb] 88)).drew):=zh ⟨HX0.out.1,HX0.out.2.drew⟩;go_enter Tryz.func45,Tryz.ntmps45;go_wp2_with fail
 refine wp_region_noPanic ?_;refine wp_region_held_drew (S:=fun W:World=>KX W w.heap.size Kb Vb Mb∧Below w.heap.size w W) (by kernel_rfl) ?_ (fun hHeld=>?_)
 ·exact HD0.out
 iterate 12
  refine zqb [0,1,2,3,4,5,6,7,8,9,10,11] rfl rfl ?_ ?_ ?_;rotate_left
  ·(intro w hSw;obtain⟨hsk,hsb⟩:=hSw;obtain⟨q0,q1,q2⟩:=hsk.cells;go_simp;(try with_reducible rfl))
  try simp only[Act.put,J1,J2,J3,J4,J5,J6]
 refine zqf [12] (AllReadyH.cons rfl (fun K hK=>?_) AllReadyH.nil);rw[if_pos (by rfl)];go_simp;with_reducible refine (CT.out _).mono ?_
 rintro e1 y1 ⟨rfl,hb⟩;have HS1:Hid (KX y1 w.heap.size Kb Vb Mb∧Below w.heap.size w y1):=zh ⟨HD0.out.1.keep hb HD0.out.1.lt,HD0.out.2.trans (hb.mono HD0.out.2.size)⟩;clear hb;refine hK.out _ _ ?_ (fun hHeld=>?_)
 ·exact HS1.out
 clear hK K
 try simp only[Act.put,J1,J2,J3,J4,J5,J6]
 iterate 2
  refine zqb [13,14] rfl rfl ?_ ?_ ?_;rotate_left
  ·(intro w hSw;obtain⟨hsk,hsb⟩:=hSw;obtain⟨q0,q1,q2⟩:=hsk.cells;go_simp;(try with_reducible rfl))
  try simp only[Act.put,J1,J2,J3,J4,J5,J6]
 refine zqe (NoPanic.normal ?_);go_wp2_with fail
 go_ret2
 exact⟨rfl,hHeld.2⟩
theorem opened_any(K0 V0 M0:List UInt8)(n:Nat)(h t:List UInt8)(w:World)(hK:K0.length≤1000)(hV:V0.length≤1000)(hn:n<18446744073709551616)(hh:h.length≤10000)(ht:t.length≤10000) :
 Calls Tryz.prog 45 #[.agg #[.string ⟨K0.toArray⟩,.string ⟨V0.toArray⟩,.string ⟨M0.toArray⟩],.int .u64 n,.string ⟨h.toArray⟩,.string ⟨t.toArray⟩] w fun e w'=>e=.returned (opV (openL K0 V0 n h t))∧Below w.heap.size w w':=by
 by_cases hs:t.length<16
 ·rw[openL_short hs];exact opened_short K0 V0 M0 n h t w hs
 ·have hE:t.length=(t.length-16)+16:=by omega
  by_cases hc:t.drop (t.length-16)=tagL K0 V0 n h (t.take (t.length-16))
  ·rw[openL_yes (by omega) hc]
   exact opened_yes K0 V0 M0 n (t.length-16) h t w hK hV hn hh ht hE (beq_iff_eq.2 hc)
  ·rw[openL_no hc]
   exact opened_no K0 V0 M0 n (t.length-16) h t w hK hV hn hh ht hE (beq_eq_false_iff_ne.2 hc)
def onV (o:Option (List UInt8)):Value:=match o with|some p=>.tuple #[.string ⟨p.toArray⟩,.int .i64 0]|none=>.tuple #[.string ⟨#[]⟩,.int .i64 90]
def mkV (M sm:List UInt8):Value:=if sm.length=16 then .tuple #[.string ⟨(maskL M sm).toArray⟩,.int .i64 0] else .tuple #[.string ⟨#[]⟩,.int .i64 1]
theorem Mask_any(K0 V0 M0 sm:List UInt8)(w:World)(hM0:M0.length≤1000)(hl:sm.length≤100000) :
 Calls Tryz.prog 19 #[.agg #[.string ⟨K0.toArray⟩,.string ⟨V0.toArray⟩,.string ⟨M0.toArray⟩],.string ⟨sm.toArray⟩] w fun e w'=>e=.returned (mkV M0 sm)∧Below w.heap.size w w':=by
 unfold mkV;have s1:=ba_size sm;by_cases hs:sm.length=16
 ·rw[if_pos hs]
  have CS:=zh (fun W=>mask_any K0 V0 M0 sm W hM0 hs);rw[hs]at s1;generalize (⟨(maskL M0 sm).toArray⟩:ByteArray)=R at *;generalize (⟨sm.toArray⟩:ByteArray)=SM at *;have hI:(SM.size:Int)=16:=by omega
  clear hs;go_enter Tryz.func19,Tryz.ntmps19;go_wp2_with fail
  with_reducible refine (CS.out _).mono ?_
  rintro e1 w1 ⟨rfl,hb⟩;have HB1:=zh (((Below.refl w.heap.size w).alloc zle _).trans (hb.mono (by simp)));clear hb;go_wp2_with fail
  go_ret2
  exact⟨rfl,HB1.out⟩
 ·rw[if_neg hs]
  generalize (⟨sm.toArray⟩:ByteArray)=SM at *;have hI:((SM.size:Int)==16)=false:=by rw[beq_eq_false_iff_ne];omega
  have hI2:¬((SM.size:Int)=16):=by omega
  clear hs;go_enter Tryz.func19,Tryz.ntmps19;go_wp2_with fail
  go_ret2
  exact⟨rfl,(Below.refl _ _).alloc zle _⟩
end Go.Proofs.YtagbkmoahflfdaaGreatDoor.Se
