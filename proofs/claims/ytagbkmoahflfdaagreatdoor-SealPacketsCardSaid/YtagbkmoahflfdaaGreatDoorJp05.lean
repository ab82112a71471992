import Derived.Test.YtagbkmoahflfdaaGreatDoorJp01
import Derived.Test.YtagbkmoahflfdaaGreatDoorJp04
import Derived.Deep.RegionWith
import Derived.Test.YtagbkmoahflfdaaGreatDoorJp03
import Derived.Deep.WholeRow
import Derived.Great.Ranges
set_option maxHeartbeats 8000000
set_option maxRecDepth 20000
set_option linter.unusedVariables false
set_option linter.unusedSimpArgs false
namespace Go.Proofs.YtagbkmoahflfdaaGreatDoor.Dg
open Tk Go.RowKit
def Row32 (w:World) (b:Nat) (l:List Nat):Prop:=b<w.heap.size∧∀j,j<l.length→w.cell? ⟨b,j,none⟩=some (.int .u32 (l.getD j 0:Nat))
theorem Row32.below{w w':World}{b B:Nat}{l:List Nat}(h:Row32 w b l)(hb:Below B w w')(hB:b<B):Row32 w' b l:=
 ⟨Nat.lt_of_lt_of_le h.1 hb.size,fun j hj=>(hb.cell (p:=⟨b,j,none⟩) hB).trans (h.2 j hj)⟩
theorem be_cells(x:Nat):Lib.byteCells (be x)=[.int .u8 ((x:Int)/16777216%256),.int .u8 ((x:Int)/65536%256),.int .u8 ((x:Int)/256%256),.int .u8 ((x:Int)%256)]:=by
 simp[Lib.byteCells,be,UInt8.toNat_ofNat']
theorem bes_step(l:List Nat)(k:Nat)(hk:k<l.length):bes (l.take (k+1))=bes (l.take k)++be (l.getD k 0):=by
 have e:l.getD k 0=l[k]:=by simp[List.getD,hk]
 unfold bes;rw[List.take_succ_eq_append_getElem hk,e];simp only[List.flatMap_append,List.flatMap_cons,List.flatMap_nil,List.append_nil]
theorem be_len(x:Nat):(be x).length=4:=rfl
theorem bes_len(l:List Nat):(bes l).length=4*l.length:=by
 induction l with
 | nil=>rfl
 | cons x l ih=>
  have:bes (x::l)=be x++bes l:=by simp[bes]
  rw[this,List.length_append,ih,be_len,List.length_cons];omega
theorem byteCells_app(a b:List UInt8):Lib.byteCells (a++b)=Lib.byteCells a++Lib.byteCells b:=by simp[Lib.byteCells]
theorem byteCells_len(a:List UInt8):(Lib.byteCells a).length=a.length:=by simp[Lib.byteCells]
abbrev IB (B:Nat) (bs:List Value) (w:World):Prop:=Lib.IsBuilder 68 5 B B bs w
theorem written_any(b c:Nat)(l:List Nat)(w:World)(hr:Row32 w b l)(hl:l.length≤100) :
 Calls Tryz.prog 144 #[.slice (some ⟨b,0,none⟩) l.length c] w fun e w'=>e=.returned (.string ⟨(bes l).toArray⟩)∧Below w.heap.size w w':=by
 have hblt:=hr.1;have HR:=zh hr;clear hr;have HB:=zh (Lib.fresh_isBuilder 68 5 w);go_enter Tryz.func144,Tryz.ntmps144;go_wp2
 go_loopw [9] (fun iv wr=>∃k:Nat,k≤l.length∧iv=.int .i64 k∧IB w.heap.size (Lib.byteCells (bes (l.take k))) wr∧Below w.heap.size w wr) (fun iv _=>l.length-(intOf iv).toNat)
 case atStart=>exact⟨0,Nat.zero_le _,rfl,HB.out,(Below.refl _ _).alloc zle _⟩
 case round=>
  obtain⟨k,hk,rfl,hI,hb⟩:=hrel;have HI:=zh hI;clear hI;have hsz:=hb.size;have HBr:=zh hb;have HRr:=zh (HR.out.below hb hblt);clear hb;by_cases hlt:k<l.length
  ·have hc:=HRr.out.2 k hlt
   have HS:Hid (Lib.byteCells (bes (l.take (k+1)))=Lib.byteCells (bes (l.take k))++Lib.byteCells (be (l.getD k 0))):=zh (by rw[bes_step l k hlt,byteCells_app]);rw[be_cells]at HS
   have hlen:(Lib.byteCells (bes (l.take k))).length≤400:=by
    rw[byteCells_len,bes_len,List.length_take];omega
   generalize l.getD k 0=x at hc HS;generalize hbs:Lib.byteCells (bes (l.take k))=bs at HI HS hlen;have HBS:=zh hbs;clear hbs;go_wp2;refine wp_loop_rounds 5 ?_;rw[rounds_succ];go_wp2_with fail
   refine (Bld.writeByte _ _ _ _ _ HI.out (by omega) hsz).mono ?_;rintro e w1 ⟨rfl,h1,hb1⟩;have H1:=zh h1;have hs1:w.heap.size≤w1.heap.size:=Nat.le_trans hsz hb1.size;have HB1:=zh (HBr.out.trans hb1);clear h1 hb1;go_wp2_with fail
   rw[rounds_succ];go_wp2_with fail
   refine (Bld.writeByte _ _ _ _ _ H1.out (by simp;omega) hs1).mono ?_;rintro e w2 ⟨rfl,h1,hb1⟩;have H2:=zh h1;have hs2:w.heap.size≤w2.heap.size:=Nat.le_trans hs1 hb1.size;have HB2:=zh (HB1.out.trans hb1);clear h1 hb1;go_wp2_with fail
   rw[rounds_succ];go_wp2_with fail
   refine (Bld.writeByte _ _ _ _ _ H2.out (by simp;omega) hs2).mono ?_;rintro e w3 ⟨rfl,h1,hb1⟩;have H3:=zh h1;have hs3:w.heap.size≤w3.heap.size:=Nat.le_trans hs2 hb1.size;have HB3:=zh (HB2.out.trans hb1);clear h1 hb1;go_wp2_with fail
   rw[rounds_succ];go_wp2_with fail
   refine (Bld.writeByte _ _ _ _ _ H3.out (by simp;omega) hs3).mono ?_;rintro e w4 ⟨rfl,h1,hb1⟩;have H4:Hid (IB w.heap.size (Lib.byteCells (bes (l.take (k+1)))) w4):=zh (by rw[HS.out];simpa using h1);have HB4:=zh (HB3.out.trans hb1);clear h1 hb1;go_wp2_with fail
   rw[rounds_succ];go_wp2
   go_roundw
   case rel=>exact⟨k+1,by omega,by go_num,H4.out,HB4.out⟩
   case measure=>simp[intOf];omega
  ·obtain rfl:k=l.length:=by omega
   rw[List.take_length]at HI;go_wp2_with fail
   refine (Tryz.Builder_String_any w.heap.size w.heap.size (bes l) _ HI.out hsz).mono ?_;rintro e w1 ⟨rfl,hb1⟩;have HB1:=zh (HBr.out.trans hb1);clear hb1;go_wp2
   go_ret
   exact⟨rfl,HB1.out⟩
theorem app_two(l m:List UInt8):((⟨l.toArray⟩:ByteArray)++(⟨m.toArray⟩:ByteArray))=⟨(l++m).toArray⟩:=by
 apply ByteArray.ext;simp
theorem rep0(n:Nat):Lib.repeatL [0] n=List.replicate n 0:=by
 induction n with
 | zero=>rfl
 | succ n ih=>rw[Lib.repeatL,ih,List.replicate_succ];rfl
theorem rep_any(Z:Nat)(w:World)(hZ:Z≤1000):Calls Tryz.prog 105 #[.string ⟨#[0]⟩,.int .i64 Z] w fun e w'=>e=.returned (.string ⟨(List.replicate Z (0:UInt8)).toArray⟩)∧Below w.heap.size w w':=by
 have h:=Tryz.strings_Repeat ⟨#[0]⟩ Z w (by omega) (by show 1*Z≤_;omega);rw[show (⟨#[0]⟩:ByteArray).data.toList=[0] from rfl,rep0]at h;exact h
theorem two_made(w:World)(x y:Nat):Row32 (w.alloc (.cells #[.int .u32 x,.int .u32 y] 22)) w.heap.size [x,y]:=⟨by simp,fun j hj=>by
 have:j=0∨j=1:=by simp at hj;omega
 rcases this with rfl|rfl<;>simp[go_sem]⟩
theorem filled_any(l:List UInt8)(w:World)(hl:l.length≤100000) :
 Calls Tryz.prog 141 #[.string ⟨l.toArray⟩] w fun e w'=>e=.returned (.string ⟨(pad l).toArray⟩)∧Below w.heap.size w w':=by
 obtain⟨n,hn⟩:∃n,l.length=n:=⟨_,rfl⟩;have hsz:(⟨l.toArray⟩:ByteArray).size=n:=by rw[←hn];rfl
 obtain⟨O,hO⟩:∃O,(n+9)%64=O:=⟨_,rfl⟩;obtain⟨Z,hZ⟩:∃Z,(64-O)%64=Z:=⟨_,rfl⟩;have hO1:O<64:=by omega
 have hZ1:Z<64:=by omega
 have e1:((n:Int)+1+8)%64=(O:Int):=by omega
 have e1':((n:Int)+9)%64=(O:Int):=by omega
 have e2:((64:Int)-(O:Int))%64=(Z:Int):=by omega
 have hn1:n≤100000:=by omega
 obtain⟨H,hH⟩:∃H,8*n/4294967296=H:=⟨_,rfl⟩;obtain⟨L,hL⟩:∃L,8*n%4294967296=L:=⟨_,rfl⟩;have e5:8*(n:Int)=(L:Int):=by omega
 have e3:(L:Int)/4294967296%4294967296=(H:Int):=by omega
 have e3':(L:Int)/4294967296=(H:Int):=by omega
 have e4:(L:Int)%4294967296=(L:Int):=by omega
 have hH1:(H:Int)≤1:=by omega
 have HP:Hid (pad l=l++[128]++List.replicate Z 0++bes [H,L]):=zh (by unfold pad zs;rw[hn,hO,hZ,hH,hL]);obtain⟨zl,hzl⟩:∃zl,List.replicate Z (0:UInt8)=zl:=⟨_,rfl⟩;have CR:=zh (fun w=>rep_any Z w (by omega));rw[hzl]at HP CR;have hbl:(bes [H,L]).length=8:=rfl;have hrl:zl.length=Z:=by rw[←hzl];simp
 clear hn hO hzl hZ hH hL;go_enter Tryz.func141,Tryz.ntmps141;go_wp2_with fail
 refine (CR.out _).mono ?_;rintro e w1 ⟨rfl,hb1⟩;have HB1:=zh hb1;have hs1:=hb1.size;clear hb1;go_wp2_with fail
 refine (written_any _ 2 [H,L] _ (two_made _ H L) (by simp)).mono ?_;rintro e w2 ⟨rfl,hb2⟩;have HB2:=zh ((HB1.out.alloc hs1 _).trans (hb2.mono (by simp;omega)));clear hb2;go_wp2
 go_ret
 exact⟨by rw[HP.out,app_two,app_two,app_two];rfl,HB2.out⟩
theorem sv_to(l:List UInt8)(n:Nat):(⟨l.toArray⟩:ByteArray).extract 0 n=⟨(l.take n).toArray⟩:=by
 apply ByteArray.ext;simp
theorem sv_from(l:List UInt8)(n:Nat):(⟨l.toArray⟩:ByteArray).extract n l.length=⟨(l.drop n).toArray⟩:=by
 apply ByteArray.ext;apply Array.toList_inj.1;rw[Lib.extract_data];simp[List.take_of_length_le]
def slen:Value→Nat
 | .string s=>s.size
 | _=>0
theorem plus_ok(v u:V):(plus v u).ok:=⟨m32_lt _,m32_lt _,m32_lt _,m32_lt _,m32_lt _,m32_lt _,m32_lt _,m32_lt _⟩
theorem H0_ok:H0.ok:=by unfold V.ok H0;decide
theorem K0_len:K0.length=64:=rfl
theorem pad_len(l:List UInt8):∃n,(pad l).length=64*n:=by
 refine⟨(l.length+9+zs l.length)/64,?_⟩
 have e:(pad l).length=l.length+9+zs l.length:=by
  simp only[pad,List.length_append,List.length_replicate,bes_len,List.length_cons,List.length_nil];omega
 rw[e];unfold zs;omega
theorem sb_row{w:World}{b:Nat}{v:V}{ks:List Nat}(h:SB w b v ks):Row32 w b v.toL:=⟨h.lt,fun j hj=>by
 have hj8:j<8:=hj
 have e:(v.toL++ks)[j]?=some (v.toL.getD j 0):=by
  rw[List.getElem?_append_left hj,List.getElem?_eq_getElem hj];simp[List.getD,List.getElem?_eq_getElem hj]
 rw[Lib.cell_of_heap h]
 simp only[List.map_append,List.getElem?_toArray,←List.map_append,List.getElem?_map,e,Option.map_some]⟩
structure SmR (F:V) (w:World) (b n:Nat) (l:List UInt8) (v:V) (wr:World):Prop where
 len:l.length=64*n
 ok:v.ok
 st:SB wr b v K0
 res:blocks n l v=F
 bel:Below w.heap.size w wr
theorem SmR.step{F:V}{w wr w2:World}{b n:Nat}{l:List UInt8}{v:V}(h:SmR F w b (n+1) l v wr)(hb:w.heap.size≤b)(ht:Took wr b v K0 (ws (l.take 64) 48) w2):SmR F w b n (l.drop 64) (take1 v (l.take 64)) w2:=
 ⟨by rw[List.length_drop,h.len];omega,plus_ok _ _,ht.1,by rw[←blocks_step];exact h.res,h.bel.trans (It.Only.below ht.2 h.bel.size (fun k hk=>by rw[hk];exact hb))⟩
theorem sum_of(vs:Value)(l:List UInt8)(w:World)(hl:l.length≤100000)
 (CJ:Hid (∀W:World,Below w.heap.size w W→Calls Tryz.prog 142 #[vs,.string ⟨#[]⟩] W fun e w'=>e=.returned (.string ⟨l.toArray⟩)∧Below W.heap.size W w')) :
 Calls Tryz.prog 108 #[vs] w fun e w'=>e=.returned (.string ⟨(sha l).toArray⟩)∧Below w.heap.size w w':=by
 have hz:=(zero_of_info (P:=Tryz.prog) zero_state).1;go_enter Tryz.func108,Tryz.ntmps108;go_wp2_with fail
 refine (begun_any _).mono ?_;rintro e w1 ⟨rfl,hb1⟩;have HB1:=zh hb1;have hs1:=hb1.size;clear hb1
 have hst:(storeCells ⟨w1.heap.size,0,none⟩ (words (H0.toL++K0))).run Tryz.prog (w1.alloc (.cells z72.toArray 188))=.ok () (w1.alloc (.cells (words (H0.toL++K0)).toArray 188)):=by
  have h:=run_storeCells_new (P:=Tryz.prog) w1 188 z72.toArray (words (H0.toL++K0)).toArray (by rw[inf_state];decide) (by decide) (all_oneCell_toArray (words_one _));rw[List.toList_toArray]at h;exact h
 go_wp2_with fail
 have HW1:Hid (Below w.heap.size w (w1.alloc (.cells (words (H0.toL++K0)).toArray 188))):=zh (HB1.out.alloc hs1 _);have HS1:Hid (SB (w1.alloc (.cells (words (H0.toL++K0)).toArray 188)) w1.heap.size H0 K0):=zh (heap_alloc_new w1 _);refine (CJ.out _ HW1.out).mono ?_;rintro e w2 ⟨rfl,hb2⟩;have HB2:=zh (HW1.out.trans (hb2.mono HW1.out.size));have HS2:Hid (SB w2 w1.heap.size H0 K0):=zh (HS1.out.keep fun k hk=>by subst hk;exact hb2.block _ (by simp));clear hb2 hst;go_wp2_with fail
 refine (filled_any l _ hl).mono ?_;rintro e w3 ⟨rfl,hb3⟩;have hlt2:=HS2.out.lt;have HB3:=zh (HB2.out.trans (hb3.mono HB2.out.size));have HS3:Hid (SB w3 w1.heap.size H0 K0):=zh (HS2.out.keep fun k hk=>by subst hk;exact hb3.block _ hlt2);obtain⟨N,hN⟩:=pad_len l;have HF:Hid (sha l=bes (blocks N (pad l) H0).toL):=zh (by unfold sha;rw[hN,Nat.mul_div_cancel_left N (by decide)]);have HPL:Hid ((pad l).length=64*N):=zh hN;clear hb3 hN hlt2 hl;obtain⟨F,hF⟩:∃F,blocks N (pad l) H0=F:=⟨_,rfl⟩;rw[hF]at HF;have HSR:Hid (SmR F w w1.heap.size N (pad l) H0 w3):=zh ⟨HPL.out,H0_ok,HS3.out,hF,HB3.out⟩;clear HPL HS3 HB3 hF HB2 HS2 HW1 HS1;generalize pad l=p at HSR ⊢;go_wp2
 go_loopw [4] (fun sv wr=>∃(n:Nat) (q:List UInt8) (v:V),sv=.string ⟨q.toArray⟩∧SmR F w w1.heap.size n q v wr) (fun sv _=>slen sv)
 case atStart=>exact⟨N,p,H0,rfl,HSR.out⟩
 case round=>
  clear HSR;obtain⟨n,q,v,rfl,hr⟩:=hrel;have hlen:=hr.len;have hb:=hr.st.lt;have HR:=zh hr;clear hr
  cases n with
  | zero=>
   obtain rfl:q=[]:=List.eq_nil_of_length_eq_zero (by omega);have hv:v=F:=by rw[←HR.out.res,blocks_none]
   subst hv;have HRow:=zh (sb_row HR.out.st);have HBr:=zh HR.out.bel;have hsz:=HR.out.bel.size;clear HR hlen;go_wp2_with fail
   refine (written_any w1.heap.size 8 v.toL _ HRow.out (by rw[toL_len];decide)).mono ?_;rintro e w4 ⟨rfl,hb4⟩;have HB4:=zh (HBr.out.trans (hb4.mono hsz));clear hb4;go_wp2
   go_ret
   exact⟨by rw[HF.out];rfl,HB4.out⟩
  | succ n=>
   have h64:64≤q.length:=by omega
   have hne:¬q=[]:=by intro h;rw[h]at h64;simp at h64
   have hemp:q.isEmpty=false:=by simpa using hne
   have HST:Hid (∀w2,Took wr w1.heap.size v K0 (ws (q.take 64) 48) w2→SmR F w w1.heap.size n (q.drop 64) (take1 v (q.take 64)) w2):=zh fun w2 ht=>HR.out.step hs1 ht
   have CT:Hid (Calls Tryz.prog 143 #[.pointer (some ⟨w1.heap.size,0,none⟩),.string ((⟨q.toArray⟩:ByteArray).extract 0 64)] wr fun e w'=>e=.returned (.tuple #[])∧Took wr w1.heap.size v K0 (ws (q.take 64) 48) w'):=zh (by
    rw[sv_to]
    exact take_any w1.heap.size v K0 ⟨(q.take 64).toArray⟩ wr HR.out.ok K0_len (by show (q.take 64).length=64;simp;omega) HR.out.st)
   have E2:=zh (sv_from q 64);have i1:(64:Int)≤(q.length:Int):=by omega
   have hm:(q.drop 64).length<q.length:=by rw[List.length_drop];omega
   have HM:=zh hm;clear hm hlen HR;go_wp2_with fail
   refine CT.out.mono ?_;rintro e w2 ⟨rfl,ht⟩;have HT:=zh (HST.out _ ht);clear ht;go_wp2
   go_roundw
   case rel=>
    refine⟨n,q.drop 64,_,?_,HT.out⟩;rw[←E2.out]
   case measure=>
    show slen _<slen _;rw[E2.out];exact HM.out
def cat (xs:List ByteArray):List UInt8:=(xs.map (·.data.toList)).flatten
theorem join_cat(l:List (List UInt8)):Lib.join l []=l.flatten:=by
 unfold Lib.join List.intercalate
 induction l with
 | nil=>rfl
 | cons a t ih=>
  cases t with
  | nil=>simp
  | cons b t=>simp only[List.intersperse_cons_cons,List.flatten_cons,ih,List.nil_append]
def RowS (w:World) (b o:Nat) (xs:List ByteArray):Prop:=b<w.heap.size∧∀(j:Nat) x,xs[j]?=some x→w.cell? ⟨b,o+j,none⟩=some (.string x)
theorem RowS.below{w w':World}{b o B:Nat}{xs:List ByteArray}(h:RowS w b o xs)(hb:Below B w w')(hB:b<B):RowS w' b o xs:=
 ⟨Nat.lt_of_lt_of_le h.1 hb.size,fun j x hj=>(hb.cell (p:=⟨b,o+j,none⟩) hB).trans (h.2 j x hj)⟩
theorem sum_row(b o c:Nat)(xs:List ByteArray)(w:World)(hr:RowS w b o xs)(hn:xs.length≤100000)(hc:xs.length≤c)(hl:(cat xs).length≤100000) :
 Calls Tryz.prog 108 #[.slice (some ⟨b,o,none⟩) xs.length c] w fun e w'=>e=.returned (.string ⟨(sha (cat xs)).toArray⟩)∧Below w.heap.size w w':=
 sum_of _ (cat xs) w hl (zh fun W hW=>by
  have hj:Lib.join (xs.map (·.data.toList)) (⟨#[]⟩:ByteArray).data.toList=cat xs:=join_cat _;have h:=Tryz.strings_Join b o c xs ⟨#[]⟩ W (hr.below hW hr.1).2 (Nat.lt_of_lt_of_le hr.1 hW.size) (by omega) hc (by rw[hj];omega);rw[hj]at h
  exact h)
def dg (k:Nat):UInt8:=([48,49,50,51,52,53,54,55,56,57,97,98,99,100,101,102]:List UInt8).getD k 0
def hexL (l:List UInt8):List UInt8:=l.flatMap fun c=>[dg (c.toNat/16),dg (c.toNat%16)]
theorem hexL_step(l:List UInt8)(k:Nat)(c:UInt8)(hk:l[k]?=some c):hexL (l.take (k+1))=hexL (l.take k)++[dg (c.toNat/16),dg (c.toNat%16)]:=by
 obtain⟨h,hc⟩:=List.getElem?_eq_some_iff.1 hk;unfold hexL;rw[List.take_succ_eq_append_getElem h,hc];simp only[List.flatMap_append,List.flatMap_cons,List.flatMap_nil,List.append_nil]
theorem hexL_len(l:List UInt8):(hexL l).length=2*l.length:=by
 induction l with
 | nil=>rfl
 | cons x l ih=>
  have:hexL (x::l)=[dg (x.toNat/16),dg (x.toNat%16)]++hexL l:=by simp[hexL]
  rw[this,List.length_append,ih,List.length_cons,List.length_cons,List.length_cons,List.length_nil];omega
theorem index_dig(k:Nat)(hk:k<16)(w:World):(Instr.index 9 (.string ⟨#[48,49,50,51,52,53,54,55,56,57,97,98,99,100,101,102]⟩) (.int .u8 (k:Nat))).run Tryz.prog w=.ok (.int .u8 ((dg k).toNat:Nat)) w:=by
 have:k=0∨k=1∨k=2∨k=3∨k=4∨k=5∨k=6∨k=7∨k=8∨k=9∨k=10∨k=11∨k=12∨k=13∨k=14∨k=15:=by omega
 rcases this with rfl|rfl|rfl|rfl|rfl|rfl|rfl|rfl|rfl|rfl|rfl|rfl|rfl|rfl|rfl|rfl<;>(show _=_;kernel_rfl)
theorem and15(c:Nat)(hc:c<256):bits .and .u8 (c:Int) 15=((c%16:Nat):Int):=by
 have h1:(BitVec.ofInt 8 (c:Int)).toNat=c:=by
  rw[BitVec.ofInt_natCast,BitVec.toNat_ofNat];exact Nat.mod_eq_of_lt (by omega)
 have h2:(BitVec.ofInt 8 (15:Int)).toNat=15:=by decide
 show IntKind.u8.wrap ((BitVec.ofInt 8 (c:Int) &&& BitVec.ofInt 8 (15:Int)).toNat:Int)=_;rw[BitVec.toNat_and,h1,h2,IntKind.wrap_u8];have h3:c &&& 15=c%16:=Nat.and_two_pow_sub_one_eq_mod c 4;rw[h3];omega
theorem byteCells_two(a b:UInt8):Lib.byteCells [a,b]=[.int .u8 a.toNat,.int .u8 b.toNat]:=rfl
theorem hex_any(s:ByteArray)(w:World)(hs:s.size≤100000) :
 Calls Tryz.prog 31 #[.string s] w fun e w'=>e=.returned (.string ⟨(hexL s.data.toList).toArray⟩)∧Below w.heap.size w w':=by
 have HB:=zh (Lib.fresh_isBuilder 68 5 w);have hls:s.data.toList.length=s.size:=by simp
 have HLS:=zh hls;clear hls;go_enter Tryz.func31,Tryz.ntmps31;go_wp2
 go_loopw [7] (fun iv wr=>∃k:Nat,k≤s.size∧iv=.int .i64 k∧IB w.heap.size (Lib.byteCells (hexL (s.data.toList.take k))) wr∧Below w.heap.size w wr) (fun iv _=>s.size-(intOf iv).toNat)
 case atStart=>exact⟨0,Nat.zero_le _,rfl,HB.out,(Below.refl _ _).alloc zle _⟩
 case round=>
  obtain⟨k,hk,rfl,hI,hb⟩:=hrel;have HI:=zh hI;clear hI;have hsz:=hb.size;have HBr:=zh hb;clear hb;by_cases hlt:k<s.size
  ·obtain⟨c,hc⟩:∃c,s[k]=c:=⟨_,rfl⟩
   have hget:s.data.toList[k]?=some c:=by
    rw[List.getElem?_eq_getElem (by rw[HLS.out];exact hlt),←hc];rfl
   have HS:Hid (Lib.byteCells (hexL (s.data.toList.take (k+1)))=Lib.byteCells (hexL (s.data.toList.take k))++[.int .u8 (dg (c.toNat/16)).toNat,.int .u8 (dg (c.toNat%16)).toNat]):=zh (by rw[hexL_step _ _ _ hget,byteCells_app,byteCells_two])
   have hlen:(Lib.byteCells (hexL (s.data.toList.take k))).length≤200000:=by
    rw[byteCells_len,hexL_len,List.length_take];omega
   generalize hbs:Lib.byteCells (hexL (s.data.toList.take k))=bs at HI HS hlen;have HBS:=zh hbs;have hc8:=c.toNat_lt;have i1:=index_dig (c.toNat/16) (by omega);have i2:=index_dig (c.toNat%16) (by omega);have e2:=and15 c.toNat (by omega);obtain⟨h,hh⟩:∃h,c.toNat/16=h:=⟨_,rfl⟩;obtain⟨l,hl⟩:∃l,c.toNat%16=l:=⟨_,rfl⟩;have e1:(c.toNat:Int)/16=(h:Int):=by omega
   rw[hh]at i1 HS;rw[hl]at i2 HS e2;clear hbs hget hh hl;go_wp2_with fail
   refine (Bld.writeByte _ _ _ _ _ HI.out (by omega) hsz).mono ?_;rintro e w1 ⟨rfl,h1,hb1⟩;have H1:=zh h1;have hs1:w.heap.size≤w1.heap.size:=Nat.le_trans hsz hb1.size;have HB1:=zh (HBr.out.trans hb1);clear h1 hb1;go_wp2_with fail
   refine (Bld.writeByte _ _ _ _ _ H1.out (by simp;omega) hs1).mono ?_;rintro e w2 ⟨rfl,h1,hb1⟩;have H2:Hid (IB w.heap.size (Lib.byteCells (hexL (s.data.toList.take (k+1)))) w2):=zh (by rw[HS.out];simpa using h1);have HB2:=zh (HB1.out.trans hb1);clear h1 hb1;go_wp2
   go_roundw
   case rel=>exact⟨k+1,by omega,by go_num,H2.out,HB2.out⟩
   case measure=>simp[intOf];omega
  ·obtain rfl:k=s.size:=by omega
   rw[List.take_of_length_le (by rw[HLS.out];exact Nat.le_refl _)]at HI;go_wp2_with fail
   refine (Tryz.Builder_String_any w.heap.size w.heap.size _ _ HI.out hsz).mono ?_;rintro e w1 ⟨rfl,hb1⟩;have HB1:=zh (HBr.out.trans hb1);clear hb1;go_wp2
   go_ret
   exact⟨rfl,HB1.out⟩
def xorL (a b:List UInt8):List UInt8:=List.zipWith (· ^^^ ·) a b
theorem xorL_len(a b:List UInt8):(xorL a b).length=min a.length b.length:=by simp[xorL]
theorem xorL_step(a b:List UInt8)(k:Nat)(x y:UInt8)(hx:a[k]?=some x)(hy:b[k]?=some y):(xorL a b).take (k+1)=(xorL a b).take k++[x ^^^ y]:=by
 obtain⟨h1,e1⟩:=List.getElem?_eq_some_iff.1 hx;obtain⟨h2,e2⟩:=List.getElem?_eq_some_iff.1 hy;have h:k<(xorL a b).length:=by rw[xorL_len];omega
 rw[List.take_succ_eq_append_getElem h]
 congr 1
 simp[xorL,e1,e2]
theorem xor8(x y:UInt8):bits .xor .u8 (x.toNat:Int) (y.toNat:Int)=((x.toNat ^^^ y.toNat:Nat):Int):=by
 have hx:=x.toNat_lt;have hy:=y.toNat_lt
 have h1:(BitVec.ofInt 8 (x.toNat:Int)).toNat=x.toNat:=by
  rw[BitVec.ofInt_natCast,BitVec.toNat_ofNat];exact Nat.mod_eq_of_lt (by omega)
 have h2:(BitVec.ofInt 8 (y.toNat:Int)).toNat=y.toNat:=by
  rw[BitVec.ofInt_natCast,BitVec.toNat_ofNat];exact Nat.mod_eq_of_lt (by omega)
 have h3:x.toNat ^^^ y.toNat<2^8:=Nat.xor_lt_two_pow (by omega) (by omega);show IntKind.u8.wrap ((BitVec.ofInt 8 (x.toNat:Int) ^^^ BitVec.ofInt 8 (y.toNat:Int)).toNat:Int)=_;rw[BitVec.toNat_xor,h1,h2,IntKind.wrap_u8];omega
theorem min_run(x y z:Int)(h:min x y=z)(ts:Array TypeId)(t:TypeId)(w:World):(Builtin.min_ ts t #[.int .i64 x,.int .i64 y]).run Tryz.prog w=.ok (.int .i64 z) w:=by
 rw[run_min_int2,←h];by_cases h:y<x
 ·rw[if_pos h,show min x y=y by omega]
 ·rw[if_neg h,show min x y=x by omega]
theorem xor_any(a b:ByteArray)(w:World)(ha:a.size≤100000)(hb:b.size≤100000) :
 Calls Tryz.prog 33 #[.string a,.string b] w fun e w'=>e=.returned (.string ⟨(xorL a.data.toList b.data.toList).toArray⟩)∧Below w.heap.size w w':=by
 have HB:=zh (Lib.fresh_isBuilder 68 5 w);have hla:a.data.toList.length=a.size:=by simp
 have hlb:b.data.toList.length=b.size:=by simp
 obtain⟨M,hM⟩:∃M,min a.size b.size=M:=⟨_,rfl⟩;have hrun:=min_run (a.size:Nat) (b.size:Nat) (M:Nat) (by omega);have hMa:M≤a.size:=by omega
 have hMb:M≤b.size:=by omega
 obtain⟨X,hX⟩:∃X,xorL a.data.toList b.data.toList=X:=⟨_,rfl⟩;have hXl:X.length=M:=by rw[←hX,xorL_len,hla,hlb,hM]
 rw[hX];have HX:=zh hX;have HLA:=zh hla;have HLB:=zh hlb;clear hla hlb hX hM;go_enter Tryz.func33,Tryz.ntmps33;go_wp2
 go_loopw [12] (fun iv wr=>∃k:Nat,k≤M∧iv=.int .i64 k∧IB w.heap.size (Lib.byteCells (X.take k)) wr∧Below w.heap.size w wr) (fun iv _=>M-(intOf iv).toNat)
 case atStart=>exact⟨0,Nat.zero_le _,rfl,HB.out,(Below.refl _ _).alloc zle _⟩
 case round=>
  obtain⟨k,hk,rfl,hI,hb⟩:=hrel;have HI:=zh hI;clear hI;have hsz:=hb.size;have HBr:=zh hb;clear hb;by_cases hlt:k<M
  ·have hka:k<a.size:=by omega
   have hkb:k<b.size:=by omega
   obtain⟨x,hx⟩:∃x,a[k]=x:=⟨_,rfl⟩;obtain⟨y,hy⟩:∃y,b[k]=y:=⟨_,rfl⟩
   have hgx:a.data.toList[k]?=some x:=by
    rw[List.getElem?_eq_getElem (by rw[HLA.out];exact hka),←hx];rfl
   have hgy:b.data.toList[k]?=some y:=by
    rw[List.getElem?_eq_getElem (by rw[HLB.out];exact hkb),←hy];rfl
   have HS:Hid (Lib.byteCells (X.take (k+1))=Lib.byteCells (X.take k)++[.int .u8 (x ^^^ y).toNat]):=zh (by rw[←HX.out,xorL_step _ _ _ _ _ hgx hgy,byteCells_app];rfl)
   have hlen:(Lib.byteCells (X.take k)).length≤200000:=by
    rw[byteCells_len,List.length_take];omega
   generalize hbs:Lib.byteCells (X.take k)=bs at HI HS hlen;have HBS:=zh hbs;have ex:=xor8 x y
   have CW:Hid (Calls Tryz.prog 69 #[.pointer (some ⟨w.heap.size,0,none⟩),.int .u8 ((x.toNat ^^^ y.toNat:Nat):Int)] wr.drew fun e w'=>e=.returned .nilIface∧IB w.heap.size (Lib.byteCells (X.take (k+1))) w'∧Below w.heap.size w w'):=zh (by
    refine (Bld.writeByte w.heap.size w.heap.size bs ((x.toNat ^^^ y.toNat:Nat):Int) wr.drew (show IB w.heap.size bs wr.drew from (show IB w.heap.size bs wr from HI.out)) (by omega) hsz).mono ?_;rintro e w1 ⟨h0,h1,hb1⟩;refine⟨h0,?_,(below_drew HBr.out).trans hb1⟩;rw[HS.out,UInt8.toNat_xor]
    exact h1)
   clear hbs hgx hgy;go_wp2_with fail
   go_region_with (go_at_call 69;(with_reducible refine CW.out.mono ?_);rintro e w1 ⟨rfl,h1,hb1⟩;have H1:=zh h1;have HB1:=zh hb1;clear h1 hb1)
   all_goals
    go_wp2
    go_roundw
    case rel=>exact⟨k+1,by omega,by go_num,H1.out,HB1.out⟩
    case measure=>simp[intOf];omega
  ·obtain rfl:k=M:=by omega
   rw[List.take_of_length_le (by omega)]at HI;go_wp2_with fail
   refine (Tryz.Builder_String_any w.heap.size w.heap.size _ _ HI.out hsz).mono ?_;rintro e w1 ⟨rfl,hb1⟩;have HB1:=zh (HBr.out.trans hb1);clear hb1;go_wp2
   go_ret
   exact⟨rfl,HB1.out⟩
theorem rows_made(w:World)(cs:Array Value)(xs:List ByteArray)(h:cs=(xs.map Value.string).toArray)(T:TypeId):RowS (w.alloc (.cells cs T)) w.heap.size 0 xs:=⟨by simp,fun j x hj=>by
 rw[cell_of_row _ _ _ _ _ _ (heap_alloc_new w _),h]
 simp[hj]⟩
end Go.Proofs.YtagbkmoahflfdaaGreatDoor.Dg
namespace Go.Proofs.YtagbkmoahflfdaaGreatDoor.Se
open Tk Go.RowKit Vm Dg
theorem fit_short(s:ByteArray)(n:Nat)(h:n≤s.size):s.extract 0 n=⟨(fit s.data.toList n).toArray⟩:=by
 have hl:s.data.toList.length=s.size:=by simp
 apply ByteArray.ext;apply Array.ext';unfold fit;rw[if_pos (by omega)];simp only[ByteArray.data_extract,Array.toList_extract,List.extract_eq_take_drop];simp
theorem fit_far(s:ByteArray)(n:Nat)(h:¬n≤s.size):s++⟨(List.replicate (n-s.size) (0:UInt8)).toArray⟩=⟨(fit s.data.toList n).toArray⟩:=by
 have hl:s.data.toList.length=s.size:=by simp
 apply ByteArray.ext;apply Array.ext';unfold fit;rw[if_neg (by omega),ByteArray.data_append,Array.toList_append,hl]
theorem fitted_any(s:ByteArray)(n:Nat)(w:World)(hn:n≤1000)(hs:s.size≤100000):Calls Tryz.prog 70 #[.string s,.int .i64 n] w fun e w'=>e=.returned (.string ⟨(fit s.data.toList n).toArray⟩)∧Below w.heap.size w w':=by
 by_cases h:n≤s.size
 ·have hI:(s.size:Int)≥(n:Int):=by omega
  have e:=fit_short s n h;generalize fit s.data.toList n=F at e ⊢;have hnI:(n:Int)≤1000:=by omega
  clear h;go_enter Tryz.func70,Tryz.ntmps70;go_wp2
  go_ret
  exact⟨rfl,Below.refl _ _⟩
 ·have hI:¬(s.size:Int)≥(n:Int):=by omega
  have e:=fit_far s n h;obtain⟨Z,hZ⟩:∃Z,n-s.size=Z:=⟨_,rfl⟩;rw[hZ]at e;have hZI:(n:Int)-(s.size:Int)=(Z:Int):=by omega
  have CR:=zh (fun W=>rep_any Z W (by omega));generalize fit s.data.toList n=F at e ⊢;obtain⟨R,hR⟩:∃R:ByteArray,⟨(List.replicate Z (0:UInt8)).toArray⟩=R:=⟨_,rfl⟩;rw[hR]at CR e;have hnI:(n:Int)≤1000:=by omega
  have hRs:R.size=Z:=by rw[←hR];show (List.replicate Z (0:UInt8)).toArray.size=Z;simp
  have hsI:(s.size:Int)≤100000:=by omega
  clear h hZ hR;go_enter Tryz.func70,Tryz.ntmps70;go_wp2_with fail
  with_reducible refine (CR.out _).mono ?_
  rintro e1 w1 ⟨rfl,hb⟩;have HB1:=zh hb;clear hb;go_wp2_with fail
  go_ret
  exact⟨by first|rfl|(rw[←e];rfl),HB1.out⟩
def lay (T:List UInt8) (k:Nat):List Nat:=(List.range 16).map fun j=>if j<k then lw T j else 0
theorem lay_len(T:List UInt8)(k:Nat):(lay T k).length=16:=by simp[lay]
theorem lay_zero(T:List UInt8):lay T 0=List.replicate 16 0:=by
 apply List.ext_getElem
 ·simp[lay]
 ·intro i h1 h2
  rw[List.getElem_replicate];simp[lay]
theorem lay_all(T:List UInt8):lay T 16=(List.range 16).map (lw T):=by
 apply List.ext_getElem
 ·simp[lay]
 ·intro i h1 h2
  have hi:i<16:=by simpa[lay] using h1
  simp[lay,hi]
theorem lay_set(T:List UInt8)(k:Nat)(hk:k<16):(lay T k).set k (lw T k)=lay T (k+1):=by
 apply List.ext_getElem
 ·simp[lay]
 ·intro i h1 h2
  simp only[lay,List.getElem_set,List.getElem_map,List.getElem_range];by_cases hij:k=i
  ·subst hij
   rw[if_pos rfl,if_pos (by omega)]
  ·rw[if_neg hij]
   by_cases h:i<k
   ·rw[if_pos h,if_pos (by omega)]
   ·rw[if_neg h,if_neg (by omega)]
theorem lw_cut(S:ByteArray)(k:Nat)(h:4*k+4≤S.size):lw (S.extract (4*k) (4*k+4)).data.toList 0=lw S.data.toList k:=by
 have hl:S.data.toList.length=S.size:=by simp
 have e:(S.extract (4*k) (4*k+4)).data.toList=(S.data.toList.drop (4*k)).take 4:=by
  simp only[ByteArray.data_extract,Array.toList_extract,List.extract_eq_take_drop]
  congr 1
  omega
 have g:∀i,i<4→((S.data.toList.drop (4*k)).take 4).getD i 0=S.data.toList.getD (4*k+i) 0:=by
  intro i hi;rw[List.getD_eq_getElem?_getD,List.getD_eq_getElem?_getD,List.getElem?_take_of_lt hi,List.getElem?_drop]
 rw[e];unfold lw;rw[g 0 (by decide),g 1 (by decide),g 2 (by decide),g 3 (by decide)];rfl
theorem lw_cut'(S:ByteArray)(k:Nat)(h:4*k+4≤S.size):lw (S.extract (k*4) ((k+1)*4)).data.toList 0=lw S.data.toList k:=by
 rw[show k*4=4*k by omega,show (k+1)*4=4*k+4 by omega];exact lw_cut S k h
theorem cut_size'(S:ByteArray)(k:Nat)(h:4*k+4≤S.size):(S.extract (k*4) ((k+1)*4)).size=4:=by
 rw[ByteArray.size_extract];omega
theorem inf_words:(Tryz.prog.info? 63).map (·.size)=some 16:=by kernel_rfl
def wv (l:List Nat):Value:=.agg (l.map fun x:Nat=>Value.int .u32 x).toArray
theorem wordsOf_any(key nonce:ByteArray)(w:World)(hk:key.size≤100000)(hn:nonce.size≤100000) :
 Calls Tryz.prog 32 #[.string key,.string nonce] w fun e w'=>e=.returned (wv (ini key.data.toList nonce.data.toList 0))∧Below w.heap.size w w':=by
 have CK:Hid (∀W:World,Calls Tryz.prog 70 #[.string key,.int .i64 32] W fun e w'=>e=.returned (.string ⟨(fit key.data.toList 32).toArray⟩)∧Below W.heap.size W w'):=zh (fun W=>fitted_any key 32 W (by decide) hk);have CZ:Hid (∀W:World,Calls Tryz.prog 70 #[.string ⟨#[]⟩,.int .i64 4] W fun e w'=>e=.returned (.string ⟨(fit [] 4).toArray⟩)∧Below W.heap.size W w'):=zh (fun W=>fitted_any ⟨#[]⟩ 4 W (by decide) (by decide));have CN:Hid (∀W:World,Calls Tryz.prog 70 #[.string nonce,.int .i64 12] W fun e w'=>e=.returned (.string ⟨(fit nonce.data.toList 12).toArray⟩)∧Below W.heap.size W w'):=zh (fun W=>fitted_any nonce 12 W (by decide) hn)
 have hS:(((⟨#[101,120,112,97,110,100,32,51,50,45,98,121,116,101,32,107]⟩:ByteArray)++(⟨(fit key.data.toList 32).toArray⟩:ByteArray))++(⟨(fit [] 4).toArray⟩:ByteArray))++(⟨(fit nonce.data.toList 12).toArray⟩:ByteArray)=⟨(txt key.data.toList nonce.data.toList).toArray⟩:=by
  apply ByteArray.ext;apply Array.ext';simp only[ByteArray.data_append,Array.toList_append];rfl
 have hW:=txt_words key.data.toList nonce.data.toList;have hlen:=txt_len key.data.toList nonce.data.toList;generalize ini key.data.toList nonce.data.toList 0=I at hW ⊢;generalize txt key.data.toList nonce.data.toList=X at *;have s1:(⟨(fit key.data.toList 32).toArray⟩:ByteArray).size=32:=by show (fit key.data.toList 32).toArray.size=32;simp[fit_len]
 have s2:(⟨(fit [] 4).toArray⟩:ByteArray).size=4:=by show (fit [] 4).toArray.size=4;simp[fit_len]
 have s3:(⟨(fit nonce.data.toList 12).toArray⟩:ByteArray).size=12:=by show (fit nonce.data.toList 12).toArray.size=12;simp[fit_len]
 generalize (⟨(fit key.data.toList 32).toArray⟩:ByteArray)=A at *;generalize (⟨(fit [] 4).toArray⟩:ByteArray)=Z at *;generalize (⟨(fit nonce.data.toList 12).toArray⟩:ByteArray)=N at *;obtain⟨S,hSX⟩:∃S:ByteArray,⟨X.toArray⟩=S:=⟨_,rfl⟩;rw[hSX]at hS;have hXS:X=S.data.toList:=by rw[←hSX]
 have hS64:S.size=64:=by rw[←hSX];show X.toArray.size=64;simp[hlen]
 subst hXS;have HW:=zh hW;have CNB:=zh (fun (k:Nat) (h:k<16) (W:World)=>number_any (S.extract (k*4) ((k+1)*4)) W (cut_size' S k (by omega)));have HCUT:=zh (fun (k:Nat) (h:k<16)=>lw_cut' S k (by omega));have h64:(S.size:Int)=64:=by omega
 have H64:=zh hS64;clear hW hlen hSX hS64;go_enter Tryz.func32,Tryz.ntmps32;go_wp2_with fail
 with_reducible refine (CK.out _).mono ?_
 rintro e1 w1 ⟨rfl,hb⟩;have HR1:Hid (WB 63 w1 w.heap.size (List.replicate 16 0)):=zh ((hb.block w.heap.size (by simp)).trans (heap_alloc_new w _));have HB1:=zh (((Below.refl w.heap.size w).alloc zle _).trans (hb.mono (by simp)));clear hb;go_wp2_with fail
 with_reducible refine (CZ.out _).mono ?_
 rintro e2 w2 ⟨rfl,hb⟩;have HR2:=zh (HR1.out.keep hb HR1.out.lt);have HB2:=zh (HB1.out.trans (hb.mono HB1.out.size));clear hb;go_wp2_with fail
 with_reducible refine (CN.out _).mono ?_
 rintro e3 w3 ⟨rfl,hb⟩;have HR3:=zh (HR2.out.keep hb HR2.out.lt);have HB3:=zh (HB2.out.trans (hb.mono HB2.out.size));clear hb;go_wp2_with fail
 have hs3:=HB3.out.size;have hlt3:=HR3.out.lt
 go_loopw [16] (fun iv wr=>∃k:Nat,k≤16∧iv=.int .i64 k∧WB 63 wr w.heap.size (List.replicate 16 0)∧WB 63 wr w3.heap.size (lay S.data.toList k)∧Below w.heap.size w wr) (fun iv _=>16-(intOf iv).toNat)
 case atStart=>exact⟨0,by omega,rfl,HR3.out.keep ((Below.refl _ _).alloc zle _) hlt3,by rw[lay_zero];exact heap_alloc_new _ _,HB3.out.alloc hs3 _⟩
 case round=>
  obtain⟨k,hk,rfl,hr,hl,hb⟩:=hrel;have HR:=zh hr;have HL:=zh hl;have HB:=zh hb;clear hr hl hb;by_cases hlt:k<16
  ·have hkI:(k:Int)<16:=by omega
   have CB:=zh (CNB.out k hlt);have HQ:=zh (HCUT.out k hlt);have HT:=zh (lay_set S.data.toList k hlt);rw[HQ.out]at CB;have HN:=zh (HL.out.set k (lw S.data.toList k));have hc:=HL.out.cell k (by rw[lay_len];omega);have hf:=HL.out.fz k;generalize lw S.data.toList k=x at CB HT HN;go_wp2_with fail
   with_reducible refine (CB.out _).mono ?_
   rintro e4 w4 ⟨rfl,rfl⟩;go_wp2_with fail
   go_roundw
   case rel=>exact⟨k+1,by omega,by go_num,HR.out.other (by omega) _ _,by rw[←HT.out];exact HN.out,HB.out.setCell (p:=⟨w3.heap.size,k,none⟩) (by omega) _⟩
   case measure=>simp only[intOf];omega
  ·obtain rfl:k=16:=by omega
   have HI:Hid (WB 63 wr w3.heap.size I):=zh (by have h:=HL.out;rw[lay_all,HW.out]at h;exact h);have hIl:I.length=16:=by rw[←HW.out];simp
   go_upto_region 8 with (fail)
   refine wp_region_lit ?_;refine wpList_load_row rfl _ _ rfl w3.heap.size rfl _ _ _ _ HI.out Tryz.underlying63 rfl (by rw[inf_words];simp[hIl]) ?_;refine wpList_store_row rfl _ _ _ rfl w.heap.size _ rfl rfl _ _ HR.out (by rw[inf_words];simp[hIl]) (by simp[hIl]) (all_words _) ?_;have HRW:Hid (WB 63 (wr.setRow w.heap.size (I.map fun x:Nat=>Value.int .u32 x).toArray) w.heap.size I):=zh (setRow_heap wr w.heap.size _ _ _ _ HR.out);have HBW:=zh (below_setRow HB.out zle (I.map fun x:Nat=>Value.int .u32 x).toArray);generalize wr.setRow w.heap.size (I.map fun x:Nat=>Value.int .u32 x).toArray=W at *;go_wp2;exact bodyPost_ret (v:=wv I) (results_cell_row Tryz.results32 _ W w.heap.size _ _ _ _ rfl HRW.out Tryz.underlying63 rfl (by rw[inf_words];simp[hIl])) rfl ⟨rfl,HBW.out⟩
theorem at_any(l:List Nat)(c:Nat)(w:World)(hl:l.length=16)(hc:c<4294967296) :
 Calls Tryz.prog 34 #[wv l,.int .u32 c] w fun e w'=>e=.returned (wv (l.set 12 c))∧Below w.heap.size w w':=by
 unfold wv;have hcI:(c:Int)<4294967296:=by omega
 have hL:(l.set 12 c).length=16:=by simp[hl]
 have HM0:=zh (heap_alloc_new w (.cells (l.map fun x:Nat=>Value.int .u32 x).toArray 63));go_enter Tryz.func34,Tryz.ntmps34;go_upto_region 0 with (fail)
 refine wp_region_lit ?_;refine Go.Great.wpList_boxTo rfl _ _ rfl (some 2) rfl w.heap.size rfl _ rfl ?_;go_upto_region 1 with (fail)
 have HX:Hid (WB 63 ((w.alloc (.cells (l.map fun x:Nat=>Value.int .u32 x).toArray 63)).alloc (.cells ((List.replicate 16 0).map fun x:Nat=>Value.int .u32 x).toArray 63)) w.heap.size l):=zh ((Below.heap_alloc _ _ w.heap.size (by simp)).trans HM0.out)
 have HZ:Hid (WB 63 ((w.alloc (.cells (l.map fun x:Nat=>Value.int .u32 x).toArray 63)).alloc (.cells ((List.replicate 16 0).map fun x:Nat=>Value.int .u32 x).toArray 63)) (w.heap.size+1) (List.replicate 16 0)):=zh (by
  have h:=heap_alloc_new (w.alloc (.cells (l.map fun x:Nat=>Value.int .u32 x).toArray 63)) (.cells ((List.replicate 16 0).map fun x:Nat=>Value.int .u32 x).toArray 63)
  rwa[World.size_alloc]at h)
 have HB:=zh (((Below.refl w.heap.size w).alloc zle (.cells (l.map fun x:Nat=>Value.int .u32 x).toArray 63)).alloc (by simp) (.cells ((List.replicate 16 0).map fun x:Nat=>Value.int .u32 x).toArray 63));have HG:((w.alloc (.cells (l.map fun x:Nat=>Value.int .u32 x).toArray 63)).alloc (.cells ((List.replicate 16 0).map fun x:Nat=>Value.int .u32 x).toArray 63))=((w.alloc (.cells (l.map fun x:Nat=>Value.int .u32 x).toArray 63)).alloc (.cells #[.int .u32 0,.int .u32 0,.int .u32 0,.int .u32 0,.int .u32 0,.int .u32 0,.int .u32 0,.int .u32 0,.int .u32 0,.int .u32 0,.int .u32 0,.int .u32 0,.int .u32 0,.int .u32 0,.int .u32 0,.int .u32 0] 63)):=rfl;rw[HG]at HX HZ HB;clear HG;generalize ((w.alloc (.cells (l.map fun x:Nat=>Value.int .u32 x).toArray 63)).alloc (.cells #[.int .u32 0,.int .u32 0,.int .u32 0,.int .u32 0,.int .u32 0,.int .u32 0,.int .u32 0,.int .u32 0,.int .u32 0,.int .u32 0,.int .u32 0,.int .u32 0,.int .u32 0,.int .u32 0,.int .u32 0,.int .u32 0] 63))=W0 at HX HZ HB ⊢;have hc:=HX.out.cell 12 (by omega);have hf:=HX.out.fz 12;have HX2:=zh (HX.out.set 12 c);have HZ2:=zh (HZ.out.other (show w.heap.size+1≠w.heap.size by omega) 12 (.int .u32 (c:Int)));have HB2:=zh (HB.out.setCell (p:=⟨w.heap.size,12,none⟩) zle (.int .u32 (c:Int)));go_upto_region 2 with (fail)
 generalize W0.setCell ⟨w.heap.size,12,none⟩ (.int .u32 (c:Int))=W1 at HX2 HZ2 HB2 ⊢;refine wp_region_lit ?_;refine wpList_load_row rfl _ _ rfl w.heap.size rfl _ _ _ _ HX2.out Tryz.underlying63 rfl (by rw[inf_words];simp[hl]) ?_;refine wpList_store_row rfl _ _ _ rfl (w.heap.size+1) _ rfl rfl _ _ HZ2.out (by rw[inf_words];simp[hl]) (by simp[hl]) (all_words _) ?_;have HRW:Hid (WB 63 (W1.setRow (w.heap.size+1) ((l.set 12 c).map fun x:Nat=>Value.int .u32 x).toArray) (w.heap.size+1) (l.set 12 c)):=zh (setRow_heap W1 (w.heap.size+1) _ _ _ _ HZ2.out);have HBW:=zh (below_setRow HB2.out (show w.heap.size≤w.heap.size+1 by omega) ((l.set 12 c).map fun x:Nat=>Value.int .u32 x).toArray);generalize W1.setRow (w.heap.size+1) ((l.set 12 c).map fun x:Nat=>Value.int .u32 x).toArray=W at *;go_wp2;exact bodyPost_ret (v:=.agg ((l.set 12 c).map fun x:Nat=>Value.int .u32 x).toArray) (results_cell_row Tryz.results34 _ W (w.heap.size+1) _ _ _ _ rfl HRW.out Tryz.underlying63 rfl (by rw[inf_words];simp[hl])) rfl ⟨rfl,HBW.out⟩
end Go.Proofs.YtagbkmoahflfdaaGreatDoor.Se
