import Derived.Test.YtagbkmoahflfdaaGreatDoorJp01
import Derived.Test.YtagbkmoahflfdaaGreatDoorJp19
import Derived.Test.YtagbkmoahflfdaaGreatDoorJp15
import Derived.Lib.Builder
import Derived.Lib.Hide
set_option maxRecDepth 20000
set_option linter.unusedVariables false
set_option maxHeartbeats 1000000
namespace Go.Proofs.YtagbkmoahflfdaaGreatDoor.Hd
open Tk Go.RowKit Vm
def gHd (l:List UInt8):Hdr:=match getO l with
 | some x=>x.1
 | none=>⟨false,false,false,0,0,[],[],[],0,0,0⟩
def gRs (l:List UInt8):List UInt8:=match getO l with
 | some x=>x.2
 | none=>[]
def gEr (l:List UInt8):Int:=match getO l with
 | some x=>0
 | none=>40
def plN (l:List UInt8):Int:=match ahO l with
 | some p=>(l.length:Int)-(p.re.length:Int)
 | none=>0
def plE (l:List UInt8):Int:=match ahO l with
 | some p=>0
 | none=>40
theorem num_ok(b:UInt8)(l:List UInt8):numB ((1+b.toNat%4:Nat):Int) ((bk (l.take (1+b.toNat%4)):Nat):Int)=true:=by
 have h1:=bk_lt (l.take (1+b.toNat%4));have h2:(l.take (1+b.toNat%4)).length≤1+b.toNat%4:=by rw[List.length_take];omega
 have h3:=Nat.lt_of_lt_of_le h1 (Nat.pow_le_pow_right (show 0<256 by decide) h2);unfold numB;apply decide_eq_true;refine⟨by omega,by omega,?_⟩;rw[Int.toNat_natCast];have:((256^(1+b.toNat%4):Nat):Int)=(256:Int)^(1+b.toNat%4):=by rw[Int.natCast_pow];rfl
 rw[←this];exact Int.ofNat_lt.2 h3
theorem bnd_ok{b:UInt8}{r:List UInt8}{p:Pre}{pre:List UInt8}(h:Fits b r p pre):bndB p.lg (p.ty:Nat) p.dc p.sc p.tk (p.le:Nat)=true:=by
 have h1:=h.dc;have h2:=h.sc;have h3:=h.tk;have h4:=h.ty;have h5:=h.le;unfold bndB
 cases hl:p.lg with
 | false=>rw[hl]at h1;simpa using h1
 | true=>
  rw[hl]at h1;simp at h1 ⊢;omega
theorem kept_ok{b:UInt8}{r:List UInt8}{p:Pre}{pre:List UInt8}(h:Fits b r p pre)(ph:Bool)(hph:p.lg=true→ph=false):keptB p.lg p.sp ph (p.ty:Nat) (p.ve:Nat) p.sc p.tk (p.le:Nat)=true:=by
 have h1:=h.short;have h2:=h.long;have h3:=h.tt;unfold keptB
 cases hl:p.lg with
 | false=>
  obtain⟨e1,e2,e3,e4,e5⟩:=h1 hl;rw[e1,e2,e3,e4,e5];simp
 | true=>
  rw[h2 hl,hph hl];simp;by_cases h:p.ty=0
  ·exact .inl h
  ·exact .inr (h3 h)
theorem bad_lg{b:UInt8}(h:badN b.toNat=false)(h1:128≤b.toNat):decide (b.toNat/4%2=1)=false:=by
 unfold badN at h;rw[if_neg (by omega)]at h;have:=of_decide_eq_false h;exact decide_eq_false (by omega)
def gFlag (r:Rd):Bool:=!(rnS r.n r.st).w && mayB r.lg r.sp (decide (r.n/4%2=1)) (r.ty:Nat) (r.ve:Nat) r.dc r.sc r.tk (r.le:Nat) (1+r.n%4:Nat) (rnV r.n r.st:Nat)
theorem get_rel(l:List UInt8):(gFlag (ra l)=true∧getO l=some (⟨(ra l).lg,(ra l).sp,decide ((ra l).n/4%2=1),(ra l).ty,(ra l).ve,(ra l).dc,(ra l).sc,(ra l).tk,(ra l).le,(1+(ra l).n%4:Nat),(rnV (ra l).n (ra l).st:Nat)⟩,(rnS (ra l).n (ra l).st).s))∨(gFlag (ra l)=false∧getO l=none):=by
 rcases rel l with ⟨p,h1,h2⟩|⟨h1,h2⟩
 ·cases l with
  | nil=>simp[ahO]at h1
  | cons b r=>
   obtain⟨pre,hf⟩:=ahO_local h1;rw[h2,raN_cons];have e1:rn1 b.toNat ⟨p.re,false⟩=⟨p.re,badN b.toNat⟩:=rfl
   have eg:getO (b::r)=if p.re.length<wideB b∨badB b=true then none else some (hdr b p,p.re.drop (wideB b)):=by
    simp only[getO,h1]
   have ew:wideB b=1+b.toNat%4:=rfl;have eb:badB b=badN b.toNat:=rfl;unfold gFlag;simp only;have eS:rnS b.toNat ⟨p.re,false⟩=St.skip ⟨p.re,badN b.toNat⟩ (1+b.toNat%4):=rfl;have eV:rnV b.toNat ⟨p.re,false⟩=bk (St.take ⟨p.re,badN b.toNat⟩ (1+b.toNat%4)):=rfl;rw[eS,eV,eg,ew,eb];by_cases hb:badN b.toNat=true
   ·right
    refine⟨?_,if_pos (.inr hb)⟩;rw[skip_true (st:=⟨p.re,badN b.toNat⟩) hb];rfl
   ·have hb':badN b.toNat=false:=by simpa using hb
    rw[hb'];by_cases hl:p.re.length<1+b.toNat%4
    ·right
     refine⟨?_,if_pos (.inl hl)⟩;rw[St.skip_no hl];rfl
    ·left
     have hk:1+b.toNat%4≤p.re.length:=by omega
     rw[St.skip_ok hk,St.take_ok hk];refine⟨?_,?_⟩
     ·have hph:p.lg=true→decide (b.toNat/4%2=1)=false:=fun h=>bad_lg hb' (by have:=hf.lg;rw[h]at this;simpa using this.symm)
      unfold mayB;rw[kept_ok hf _ hph,bnd_ok hf,num_ok];rfl
     ·rw[if_neg (by simp;omega)]
      have hph:(!p.lg && decide (b.toNat/4%2=1))=decide (b.toNat/4%2=1):=by
       cases h:p.lg with
       | false=>rfl
       | true=>rw[bad_lg hb' (by have:=hf.lg;rw[h]at this;simpa using this.symm)];rfl
      unfold hdr;rw[hph];rfl
 ·right
  constructor
  ·unfold gFlag
   rcases h2 with h2|h2
   ·have:(rnS (ra l).n (ra l).st).w=true:=skip_true (show (rn1 (ra l).n (ra l).st).w=true by show ((ra l).st.w || _)=true;rw[h2];rfl) _
    rw[this];rfl
   ·rw[mayB_2 h2];simp
  ·cases l with
   | nil=>rfl
   | cons b r=>simp only[getO,h1]
theorem place_rel(l:List UInt8):((!(ra l).st.w && mayB (ra l).lg (ra l).sp false (ra l).ty (ra l).ve (ra l).dc (ra l).sc (ra l).tk (ra l).le 1 0)=true∧∃p,ahO l=some p∧p.re=(ra l).st.s)∨((!(ra l).st.w && mayB (ra l).lg (ra l).sp false (ra l).ty (ra l).ve (ra l).dc (ra l).sc (ra l).tk (ra l).le 1 0)=false∧ahO l=none):=by
 rcases rel l with ⟨p,h1,h2⟩|⟨h1,h2⟩
 ·cases l with
  | nil=>simp[ahO]at h1
  | cons b r=>
   obtain⟨pre,hf⟩:=ahO_local h1
   left
   rw[h2];refine⟨?_,p,h1,rfl⟩;unfold mayB;rw[kept_ok hf _ (fun _=>rfl),bnd_ok hf];rfl
 ·right
  refine⟨?_,h1⟩;rcases h2 with h2|h2
  ·rw[h2];rfl
  ·rw[mayB_2 h2];simp
theorem bk_bound(r:Nat)(st:St):((rnV r st:Nat):Int)<4294967296:=by
 unfold rnV;have h1:=bk_lt ((rn1 r st).take (1+r%4));have h2:=St.take_len (rn1 r st) (1+r%4);have h3:256^((rn1 r st).take (1+r%4)).length≤256^4:=Nat.pow_le_pow_right (by decide) (by omega);omega
theorem Get_any(l:List UInt8)(w:World)(ht:Tab w)(hl:l.length≤140737488351232) :
 Calls Tryz.prog 100 #[.string ⟨l.toArray⟩] w fun e w'=>e=.returned (.tuple #[.agg #[.bool (gHd l).lg,.bool (gHd l).sp,.bool (gHd l).ph,.int .i64 (gHd l).ty,.int .u32 (gHd l).ve,.string ⟨((gHd l).dc).toArray⟩,.string ⟨((gHd l).sc).toArray⟩,.string ⟨((gHd l).tk).toArray⟩,.int .u64 (gHd l).le,.int .i64 (gHd l).wi,.int .u64 (gHd l).nu],.string ⟨(gRs l).toArray⟩,.int .i64 (gEr l)])∧Below w.heap.size w w':=by
 have hB:=ra_bnd l;have hR:=get_rel l;rcases hr:ra l with ⟨⟨s0,wr⟩,lg,sp,ty,ve,dc,sc,tk,le,n⟩;have hb:=bk_bound n ⟨s0,wr⟩;rcases hR with ⟨h1,h2⟩|⟨h1,h2⟩
 ·rw[hr]at h1 h2
  have e1:gHd l=⟨lg,sp,decide (n/4%2=1),ty,ve,dc,sc,tk,le,(1+n%4:Nat),(rnV n ⟨s0,wr⟩:Nat)⟩:=by unfold gHd;rw[h2]
  have e2:gRs l=(rnS n ⟨s0,wr⟩).s:=by unfold gRs;rw[h2]
  have e3:gEr l=0:=by unfold gEr;rw[h2]
  rw[e1,e2,e3];exact get_g l s0 wr lg sp ty ve le n dc sc tk (1+n%4) (rnV n ⟨s0,wr⟩) (rnS n ⟨s0,wr⟩).s (rnS n ⟨s0,wr⟩).w w ht (zh hr) (zh rfl) (zh rfl) (zh rfl) (zh hB) (by omega) (zh h1) (by omega) hb
 ·rw[hr]at h1
  have e1:gHd l=⟨false,false,false,0,0,[],[],[],0,0,0⟩:=by unfold gHd;rw[h2]
  have e2:gRs l=[]:=by unfold gRs;rw[h2]
  have e3:gEr l=40:=by unfold gEr;rw[h2]
  rw[e1,e2,e3];exact get_b l s0 wr lg sp ty ve le n dc sc tk (1+n%4) (rnV n ⟨s0,wr⟩) (rnS n ⟨s0,wr⟩).s (rnS n ⟨s0,wr⟩).w w ht (zh hr) (zh rfl) (zh rfl) (zh rfl) (zh hB) (by omega) (zh h1) (by omega) hb
theorem Place_any(l:List UInt8)(w:World)(ht:Tab w)(hl:l.length≤140737488351232) :
 Calls Tryz.prog 98 #[.string ⟨l.toArray⟩] w fun e w'=>e=.returned (.tuple #[.int .i64 (plN l),.int .i64 (plE l)])∧Below w.heap.size w w':=by
 have hB:=ra_bnd l;have hR:=place_rel l;rcases hr:ra l with ⟨⟨s0,wr⟩,lg,sp,ty,ve,dc,sc,tk,le,n⟩;rcases hR with ⟨h1,p,h2,h3⟩|⟨h1,h2⟩
 ·rw[hr]at h1 h3
  have e1:plN l=(l.length:Int)-(s0.length:Int):=by unfold plN;rw[h2];simp only;rw[h3]
  have e2:plE l=0:=by unfold plE;rw[h2]
  rw[e1,e2];exact place_g l s0 wr lg sp ty ve le n dc sc tk w ht (zh hr) (zh hB) (by omega) (zh h1)
 ·rw[hr]at h1
  have e1:plN l=0:=by unfold plN;rw[h2]
  have e2:plE l=40:=by unfold plE;rw[h2]
  rw[e1,e2];exact place_b l s0 wr lg sp ty ve le n dc sc tk w ht (zh hr) (zh hB) (by omega) (zh h1)
def fbN (lg sp ph:Bool) (ty wi:Int):Nat:=if lg then (191+wi+16*ty).toNat else (63+wi).toNat+(if sp then 32 else 0)+(if ph then 4 else 0)
theorem first_l01(sp:Bool)(ph:Bool)(ve:Int)(dc:List UInt8)(sc:List UInt8)(tk:List UInt8)(le:Int)(nu:Int)(w:World) :
 Calls Tryz.prog 87 #[.agg #[.bool true,.bool sp,.bool ph,.int .i64 0,.int .u32 ve,.string ⟨dc.toArray⟩,.string ⟨sc.toArray⟩,.string ⟨tk.toArray⟩,.int .u64 le,.int .i64 1,.int .u64 nu]] w fun e w'=>e=.returned (.int .u8 192)∧Below w.heap.size w w':=by
 go_enter Tryz.func87,Tryz.ntmps87;go_wp2
 go_ret
 exact⟨by first|rfl|(congr 1),(Below.refl _ _).alloc zle _⟩
theorem first_l02(sp:Bool)(ph:Bool)(ve:Int)(dc:List UInt8)(sc:List UInt8)(tk:List UInt8)(le:Int)(nu:Int)(w:World) :
 Calls Tryz.prog 87 #[.agg #[.bool true,.bool sp,.bool ph,.int .i64 0,.int .u32 ve,.string ⟨dc.toArray⟩,.string ⟨sc.toArray⟩,.string ⟨tk.toArray⟩,.int .u64 le,.int .i64 2,.int .u64 nu]] w fun e w'=>e=.returned (.int .u8 193)∧Below w.heap.size w w':=by
 go_enter Tryz.func87,Tryz.ntmps87;go_wp2
 go_ret
 exact⟨by first|rfl|(congr 1),(Below.refl _ _).alloc zle _⟩
theorem first_l03(sp:Bool)(ph:Bool)(ve:Int)(dc:List UInt8)(sc:List UInt8)(tk:List UInt8)(le:Int)(nu:Int)(w:World) :
 Calls Tryz.prog 87 #[.agg #[.bool true,.bool sp,.bool ph,.int .i64 0,.int .u32 ve,.string ⟨dc.toArray⟩,.string ⟨sc.toArray⟩,.string ⟨tk.toArray⟩,.int .u64 le,.int .i64 3,.int .u64 nu]] w fun e w'=>e=.returned (.int .u8 194)∧Below w.heap.size w w':=by
 go_enter Tryz.func87,Tryz.ntmps87;go_wp2
 go_ret
 exact⟨by first|rfl|(congr 1),(Below.refl _ _).alloc zle _⟩
theorem first_l04(sp:Bool)(ph:Bool)(ve:Int)(dc:List UInt8)(sc:List UInt8)(tk:List UInt8)(le:Int)(nu:Int)(w:World) :
 Calls Tryz.prog 87 #[.agg #[.bool true,.bool sp,.bool ph,.int .i64 0,.int .u32 ve,.string ⟨dc.toArray⟩,.string ⟨sc.toArray⟩,.string ⟨tk.toArray⟩,.int .u64 le,.int .i64 4,.int .u64 nu]] w fun e w'=>e=.returned (.int .u8 195)∧Below w.heap.size w w':=by
 go_enter Tryz.func87,Tryz.ntmps87;go_wp2
 go_ret
 exact⟨by first|rfl|(congr 1),(Below.refl _ _).alloc zle _⟩
theorem first_l11(sp:Bool)(ph:Bool)(ve:Int)(dc:List UInt8)(sc:List UInt8)(tk:List UInt8)(le:Int)(nu:Int)(w:World) :
 Calls Tryz.prog 87 #[.agg #[.bool true,.bool sp,.bool ph,.int .i64 1,.int .u32 ve,.string ⟨dc.toArray⟩,.string ⟨sc.toArray⟩,.string ⟨tk.toArray⟩,.int .u64 le,.int .i64 1,.int .u64 nu]] w fun e w'=>e=.returned (.int .u8 208)∧Below w.heap.size w w':=by
 go_enter Tryz.func87,Tryz.ntmps87;go_wp2
 go_ret
 exact⟨by first|rfl|(congr 1),(Below.refl _ _).alloc zle _⟩
theorem first_l12(sp:Bool)(ph:Bool)(ve:Int)(dc:List UInt8)(sc:List UInt8)(tk:List UInt8)(le:Int)(nu:Int)(w:World) :
 Calls Tryz.prog 87 #[.agg #[.bool true,.bool sp,.bool ph,.int .i64 1,.int .u32 ve,.string ⟨dc.toArray⟩,.string ⟨sc.toArray⟩,.string ⟨tk.toArray⟩,.int .u64 le,.int .i64 2,.int .u64 nu]] w fun e w'=>e=.returned (.int .u8 209)∧Below w.heap.size w w':=by
 go_enter Tryz.func87,Tryz.ntmps87;go_wp2
 go_ret
 exact⟨by first|rfl|(congr 1),(Below.refl _ _).alloc zle _⟩
theorem first_l13(sp:Bool)(ph:Bool)(ve:Int)(dc:List UInt8)(sc:List UInt8)(tk:List UInt8)(le:Int)(nu:Int)(w:World) :
 Calls Tryz.prog 87 #[.agg #[.bool true,.bool sp,.bool ph,.int .i64 1,.int .u32 ve,.string ⟨dc.toArray⟩,.string ⟨sc.toArray⟩,.string ⟨tk.toArray⟩,.int .u64 le,.int .i64 3,.int .u64 nu]] w fun e w'=>e=.returned (.int .u8 210)∧Below w.heap.size w w':=by
 go_enter Tryz.func87,Tryz.ntmps87;go_wp2
 go_ret
 exact⟨by first|rfl|(congr 1),(Below.refl _ _).alloc zle _⟩
theorem first_l14(sp:Bool)(ph:Bool)(ve:Int)(dc:List UInt8)(sc:List UInt8)(tk:List UInt8)(le:Int)(nu:Int)(w:World) :
 Calls Tryz.prog 87 #[.agg #[.bool true,.bool sp,.bool ph,.int .i64 1,.int .u32 ve,.string ⟨dc.toArray⟩,.string ⟨sc.toArray⟩,.string ⟨tk.toArray⟩,.int .u64 le,.int .i64 4,.int .u64 nu]] w fun e w'=>e=.returned (.int .u8 211)∧Below w.heap.size w w':=by
 go_enter Tryz.func87,Tryz.ntmps87;go_wp2
 go_ret
 exact⟨by first|rfl|(congr 1),(Below.refl _ _).alloc zle _⟩
theorem first_l21(sp:Bool)(ph:Bool)(ve:Int)(dc:List UInt8)(sc:List UInt8)(tk:List UInt8)(le:Int)(nu:Int)(w:World) :
 Calls Tryz.prog 87 #[.agg #[.bool true,.bool sp,.bool ph,.int .i64 2,.int .u32 ve,.string ⟨dc.toArray⟩,.string ⟨sc.toArray⟩,.string ⟨tk.toArray⟩,.int .u64 le,.int .i64 1,.int .u64 nu]] w fun e w'=>e=.returned (.int .u8 224)∧Below w.heap.size w w':=by
 go_enter Tryz.func87,Tryz.ntmps87;go_wp2
 go_ret
 exact⟨by first|rfl|(congr 1),(Below.refl _ _).alloc zle _⟩
theorem first_l22(sp:Bool)(ph:Bool)(ve:Int)(dc:List UInt8)(sc:List UInt8)(tk:List UInt8)(le:Int)(nu:Int)(w:World) :
 Calls Tryz.prog 87 #[.agg #[.bool true,.bool sp,.bool ph,.int .i64 2,.int .u32 ve,.string ⟨dc.toArray⟩,.string ⟨sc.toArray⟩,.string ⟨tk.toArray⟩,.int .u64 le,.int .i64 2,.int .u64 nu]] w fun e w'=>e=.returned (.int .u8 225)∧Below w.heap.size w w':=by
 go_enter Tryz.func87,Tryz.ntmps87;go_wp2
 go_ret
 exact⟨by first|rfl|(congr 1),(Below.refl _ _).alloc zle _⟩
theorem first_l23(sp:Bool)(ph:Bool)(ve:Int)(dc:List UInt8)(sc:List UInt8)(tk:List UInt8)(le:Int)(nu:Int)(w:World) :
 Calls Tryz.prog 87 #[.agg #[.bool true,.bool sp,.bool ph,.int .i64 2,.int .u32 ve,.string ⟨dc.toArray⟩,.string ⟨sc.toArray⟩,.string ⟨tk.toArray⟩,.int .u64 le,.int .i64 3,.int .u64 nu]] w fun e w'=>e=.returned (.int .u8 226)∧Below w.heap.size w w':=by
 go_enter Tryz.func87,Tryz.ntmps87;go_wp2
 go_ret
 exact⟨by first|rfl|(congr 1),(Below.refl _ _).alloc zle _⟩
theorem first_l24(sp:Bool)(ph:Bool)(ve:Int)(dc:List UInt8)(sc:List UInt8)(tk:List UInt8)(le:Int)(nu:Int)(w:World) :
 Calls Tryz.prog 87 #[.agg #[.bool true,.bool sp,.bool ph,.int .i64 2,.int .u32 ve,.string ⟨dc.toArray⟩,.string ⟨sc.toArray⟩,.string ⟨tk.toArray⟩,.int .u64 le,.int .i64 4,.int .u64 nu]] w fun e w'=>e=.returned (.int .u8 227)∧Below w.heap.size w w':=by
 go_enter Tryz.func87,Tryz.ntmps87;go_wp2
 go_ret
 exact⟨by first|rfl|(congr 1),(Below.refl _ _).alloc zle _⟩
theorem first_sff1(ty:Int)(ve:Int)(dc:List UInt8)(sc:List UInt8)(tk:List UInt8)(le:Int)(nu:Int)(w:World) :
 Calls Tryz.prog 87 #[.agg #[.bool false,.bool false,.bool false,.int .i64 ty,.int .u32 ve,.string ⟨dc.toArray⟩,.string ⟨sc.toArray⟩,.string ⟨tk.toArray⟩,.int .u64 le,.int .i64 1,.int .u64 nu]] w fun e w'=>e=.returned (.int .u8 64)∧Below w.heap.size w w':=by
 go_enter Tryz.func87,Tryz.ntmps87;go_wp2
 go_ret
 exact⟨by first|rfl|(congr 1),(Below.refl _ _).alloc zle _⟩
theorem first_sff2(ty:Int)(ve:Int)(dc:List UInt8)(sc:List UInt8)(tk:List UInt8)(le:Int)(nu:Int)(w:World) :
 Calls Tryz.prog 87 #[.agg #[.bool false,.bool false,.bool false,.int .i64 ty,.int .u32 ve,.string ⟨dc.toArray⟩,.string ⟨sc.toArray⟩,.string ⟨tk.toArray⟩,.int .u64 le,.int .i64 2,.int .u64 nu]] w fun e w'=>e=.returned (.int .u8 65)∧Below w.heap.size w w':=by
 go_enter Tryz.func87,Tryz.ntmps87;go_wp2
 go_ret
 exact⟨by first|rfl|(congr 1),(Below.refl _ _).alloc zle _⟩
theorem first_sff3(ty:Int)(ve:Int)(dc:List UInt8)(sc:List UInt8)(tk:List UInt8)(le:Int)(nu:Int)(w:World) :
 Calls Tryz.prog 87 #[.agg #[.bool false,.bool false,.bool false,.int .i64 ty,.int .u32 ve,.string ⟨dc.toArray⟩,.string ⟨sc.toArray⟩,.string ⟨tk.toArray⟩,.int .u64 le,.int .i64 3,.int .u64 nu]] w fun e w'=>e=.returned (.int .u8 66)∧Below w.heap.size w w':=by
 go_enter Tryz.func87,Tryz.ntmps87;go_wp2
 go_ret
 exact⟨by first|rfl|(congr 1),(Below.refl _ _).alloc zle _⟩
theorem first_sff4(ty:Int)(ve:Int)(dc:List UInt8)(sc:List UInt8)(tk:List UInt8)(le:Int)(nu:Int)(w:World) :
 Calls Tryz.prog 87 #[.agg #[.bool false,.bool false,.bool false,.int .i64 ty,.int .u32 ve,.string ⟨dc.toArray⟩,.string ⟨sc.toArray⟩,.string ⟨tk.toArray⟩,.int .u64 le,.int .i64 4,.int .u64 nu]] w fun e w'=>e=.returned (.int .u8 67)∧Below w.heap.size w w':=by
 go_enter Tryz.func87,Tryz.ntmps87;go_wp2
 go_ret
 exact⟨by first|rfl|(congr 1),(Below.refl _ _).alloc zle _⟩
theorem first_sft1(ty:Int)(ve:Int)(dc:List UInt8)(sc:List UInt8)(tk:List UInt8)(le:Int)(nu:Int)(w:World) :
 Calls Tryz.prog 87 #[.agg #[.bool false,.bool false,.bool true,.int .i64 ty,.int .u32 ve,.string ⟨dc.toArray⟩,.string ⟨sc.toArray⟩,.string ⟨tk.toArray⟩,.int .u64 le,.int .i64 1,.int .u64 nu]] w fun e w'=>e=.returned (.int .u8 68)∧Below w.heap.size w w':=by
 go_enter Tryz.func87,Tryz.ntmps87;go_wp2
 go_ret
 exact⟨by first|rfl|(congr 1),(Below.refl _ _).alloc zle _⟩
theorem first_sft2(ty:Int)(ve:Int)(dc:List UInt8)(sc:List UInt8)(tk:List UInt8)(le:Int)(nu:Int)(w:World) :
 Calls Tryz.prog 87 #[.agg #[.bool false,.bool false,.bool true,.int .i64 ty,.int .u32 ve,.string ⟨dc.toArray⟩,.string ⟨sc.toArray⟩,.string ⟨tk.toArray⟩,.int .u64 le,.int .i64 2,.int .u64 nu]] w fun e w'=>e=.returned (.int .u8 69)∧Below w.heap.size w w':=by
 go_enter Tryz.func87,Tryz.ntmps87;go_wp2
 go_ret
 exact⟨by first|rfl|(congr 1),(Below.refl _ _).alloc zle _⟩
theorem first_sft3(ty:Int)(ve:Int)(dc:List UInt8)(sc:List UInt8)(tk:List UInt8)(le:Int)(nu:Int)(w:World) :
 Calls Tryz.prog 87 #[.agg #[.bool false,.bool false,.bool true,.int .i64 ty,.int .u32 ve,.string ⟨dc.toArray⟩,.string ⟨sc.toArray⟩,.string ⟨tk.toArray⟩,.int .u64 le,.int .i64 3,.int .u64 nu]] w fun e w'=>e=.returned (.int .u8 70)∧Below w.heap.size w w':=by
 go_enter Tryz.func87,Tryz.ntmps87;go_wp2
 go_ret
 exact⟨by first|rfl|(congr 1),(Below.refl _ _).alloc zle _⟩
theorem first_sft4(ty:Int)(ve:Int)(dc:List UInt8)(sc:List UInt8)(tk:List UInt8)(le:Int)(nu:Int)(w:World) :
 Calls Tryz.prog 87 #[.agg #[.bool false,.bool false,.bool true,.int .i64 ty,.int .u32 ve,.string ⟨dc.toArray⟩,.string ⟨sc.toArray⟩,.string ⟨tk.toArray⟩,.int .u64 le,.int .i64 4,.int .u64 nu]] w fun e w'=>e=.returned (.int .u8 71)∧Below w.heap.size w w':=by
 go_enter Tryz.func87,Tryz.ntmps87;go_wp2
 go_ret
 exact⟨by first|rfl|(congr 1),(Below.refl _ _).alloc zle _⟩
theorem first_stf1(ty:Int)(ve:Int)(dc:List UInt8)(sc:List UInt8)(tk:List UInt8)(le:Int)(nu:Int)(w:World) :
 Calls Tryz.prog 87 #[.agg #[.bool false,.bool true,.bool false,.int .i64 ty,.int .u32 ve,.string ⟨dc.toArray⟩,.string ⟨sc.toArray⟩,.string ⟨tk.toArray⟩,.int .u64 le,.int .i64 1,.int .u64 nu]] w fun e w'=>e=.returned (.int .u8 96)∧Below w.heap.size w w':=by
 go_enter Tryz.func87,Tryz.ntmps87;go_wp2
 go_ret
 exact⟨by first|rfl|(congr 1),(Below.refl _ _).alloc zle _⟩
theorem first_stf2(ty:Int)(ve:Int)(dc:List UInt8)(sc:List UInt8)(tk:List UInt8)(le:Int)(nu:Int)(w:World) :
 Calls Tryz.prog 87 #[.agg #[.bool false,.bool true,.bool false,.int .i64 ty,.int .u32 ve,.string ⟨dc.toArray⟩,.string ⟨sc.toArray⟩,.string ⟨tk.toArray⟩,.int .u64 le,.int .i64 2,.int .u64 nu]] w fun e w'=>e=.returned (.int .u8 97)∧Below w.heap.size w w':=by
 go_enter Tryz.func87,Tryz.ntmps87;go_wp2
 go_ret
 exact⟨by first|rfl|(congr 1),(Below.refl _ _).alloc zle _⟩
theorem first_stf3(ty:Int)(ve:Int)(dc:List UInt8)(sc:List UInt8)(tk:List UInt8)(le:Int)(nu:Int)(w:World) :
 Calls Tryz.prog 87 #[.agg #[.bool false,.bool true,.bool false,.int .i64 ty,.int .u32 ve,.string ⟨dc.toArray⟩,.string ⟨sc.toArray⟩,.string ⟨tk.toArray⟩,.int .u64 le,.int .i64 3,.int .u64 nu]] w fun e w'=>e=.returned (.int .u8 98)∧Below w.heap.size w w':=by
 go_enter Tryz.func87,Tryz.ntmps87;go_wp2
 go_ret
 exact⟨by first|rfl|(congr 1),(Below.refl _ _).alloc zle _⟩
theorem first_stf4(ty:Int)(ve:Int)(dc:List UInt8)(sc:List UInt8)(tk:List UInt8)(le:Int)(nu:Int)(w:World) :
 Calls Tryz.prog 87 #[.agg #[.bool false,.bool true,.bool false,.int .i64 ty,.int .u32 ve,.string ⟨dc.toArray⟩,.string ⟨sc.toArray⟩,.string ⟨tk.toArray⟩,.int .u64 le,.int .i64 4,.int .u64 nu]] w fun e w'=>e=.returned (.int .u8 99)∧Below w.heap.size w w':=by
 go_enter Tryz.func87,Tryz.ntmps87;go_wp2
 go_ret
 exact⟨by first|rfl|(congr 1),(Below.refl _ _).alloc zle _⟩
theorem first_stt1(ty:Int)(ve:Int)(dc:List UInt8)(sc:List UInt8)(tk:List UInt8)(le:Int)(nu:Int)(w:World) :
 Calls Tryz.prog 87 #[.agg #[.bool false,.bool true,.bool true,.int .i64 ty,.int .u32 ve,.string ⟨dc.toArray⟩,.string ⟨sc.toArray⟩,.string ⟨tk.toArray⟩,.int .u64 le,.int .i64 1,.int .u64 nu]] w fun e w'=>e=.returned (.int .u8 100)∧Below w.heap.size w w':=by
 go_enter Tryz.func87,Tryz.ntmps87;go_wp2
 go_ret
 exact⟨by first|rfl|(congr 1),(Below.refl _ _).alloc zle _⟩
theorem first_stt2(ty:Int)(ve:Int)(dc:List UInt8)(sc:List UInt8)(tk:List UInt8)(le:Int)(nu:Int)(w:World) :
 Calls Tryz.prog 87 #[.agg #[.bool false,.bool true,.bool true,.int .i64 ty,.int .u32 ve,.string ⟨dc.toArray⟩,.string ⟨sc.toArray⟩,.string ⟨tk.toArray⟩,.int .u64 le,.int .i64 2,.int .u64 nu]] w fun e w'=>e=.returned (.int .u8 101)∧Below w.heap.size w w':=by
 go_enter Tryz.func87,Tryz.ntmps87;go_wp2
 go_ret
 exact⟨by first|rfl|(congr 1),(Below.refl _ _).alloc zle _⟩
theorem first_stt3(ty:Int)(ve:Int)(dc:List UInt8)(sc:List UInt8)(tk:List UInt8)(le:Int)(nu:Int)(w:World) :
 Calls Tryz.prog 87 #[.agg #[.bool false,.bool true,.bool true,.int .i64 ty,.int .u32 ve,.string ⟨dc.toArray⟩,.string ⟨sc.toArray⟩,.string ⟨tk.toArray⟩,.int .u64 le,.int .i64 3,.int .u64 nu]] w fun e w'=>e=.returned (.int .u8 102)∧Below w.heap.size w w':=by
 go_enter Tryz.func87,Tryz.ntmps87;go_wp2
 go_ret
 exact⟨by first|rfl|(congr 1),(Below.refl _ _).alloc zle _⟩
theorem first_stt4(ty:Int)(ve:Int)(dc:List UInt8)(sc:List UInt8)(tk:List UInt8)(le:Int)(nu:Int)(w:World) :
 Calls Tryz.prog 87 #[.agg #[.bool false,.bool true,.bool true,.int .i64 ty,.int .u32 ve,.string ⟨dc.toArray⟩,.string ⟨sc.toArray⟩,.string ⟨tk.toArray⟩,.int .u64 le,.int .i64 4,.int .u64 nu]] w fun e w'=>e=.returned (.int .u8 103)∧Below w.heap.size w w':=by
 go_enter Tryz.func87,Tryz.ntmps87;go_wp2
 go_ret
 exact⟨by first|rfl|(congr 1),(Below.refl _ _).alloc zle _⟩
theorem first_any(lg sp ph:Bool)(ty ve:Int)(dc sc tk:List UInt8)(le wi nu:Int)(w:World)(h1:1≤wi)(h2:wi≤4)(h3:lg=true→0≤ty∧ty≤2) :
 Calls Tryz.prog 87 #[.agg #[.bool lg,.bool sp,.bool ph,.int .i64 ty,.int .u32 ve,.string ⟨dc.toArray⟩,.string ⟨sc.toArray⟩,.string ⟨tk.toArray⟩,.int .u64 le,.int .i64 wi,.int .u64 nu]] w fun e w'=>e=.returned (.int .u8 (fbN lg sp ph ty wi:Nat))∧Below w.heap.size w w':=by
 have hw:wi=1∨wi=2∨wi=3∨wi=4:=by omega
 cases lg with
 | true=>
  have ht:=h3 rfl;have ht:ty=0∨ty=1∨ty=2:=by omega
  rcases ht with rfl|rfl|rfl
  ·rcases hw with rfl|rfl|rfl|rfl
   ·exact first_l01 sp ph ve dc sc tk le nu w
   ·exact first_l02 sp ph ve dc sc tk le nu w
   ·exact first_l03 sp ph ve dc sc tk le nu w
   ·exact first_l04 sp ph ve dc sc tk le nu w
  ·rcases hw with rfl|rfl|rfl|rfl
   ·exact first_l11 sp ph ve dc sc tk le nu w
   ·exact first_l12 sp ph ve dc sc tk le nu w
   ·exact first_l13 sp ph ve dc sc tk le nu w
   ·exact first_l14 sp ph ve dc sc tk le nu w
  ·rcases hw with rfl|rfl|rfl|rfl
   ·exact first_l21 sp ph ve dc sc tk le nu w
   ·exact first_l22 sp ph ve dc sc tk le nu w
   ·exact first_l23 sp ph ve dc sc tk le nu w
   ·exact first_l24 sp ph ve dc sc tk le nu w
 | false=>
  cases sp<;>cases ph
  ·rcases hw with rfl|rfl|rfl|rfl
   ·exact first_sff1 ty ve dc sc tk le nu w
   ·exact first_sff2 ty ve dc sc tk le nu w
   ·exact first_sff3 ty ve dc sc tk le nu w
   ·exact first_sff4 ty ve dc sc tk le nu w
  ·rcases hw with rfl|rfl|rfl|rfl
   ·exact first_sft1 ty ve dc sc tk le nu w
   ·exact first_sft2 ty ve dc sc tk le nu w
   ·exact first_sft3 ty ve dc sc tk le nu w
   ·exact first_sft4 ty ve dc sc tk le nu w
  ·rcases hw with rfl|rfl|rfl|rfl
   ·exact first_stf1 ty ve dc sc tk le nu w
   ·exact first_stf2 ty ve dc sc tk le nu w
   ·exact first_stf3 ty ve dc sc tk le nu w
   ·exact first_stf4 ty ve dc sc tk le nu w
  ·rcases hw with rfl|rfl|rfl|rfl
   ·exact first_stt1 ty ve dc sc tk le nu w
   ·exact first_stt2 ty ve dc sc tk le nu w
   ·exact first_stt3 ty ve dc sc tk le nu w
   ·exact first_stt4 ty ve dc sc tk le nu w
theorem sized_any(n:Int)(w:World)(ht:Tab w)(h0:0≤n) :
 Calls Tryz.prog 122 #[.int .u64 n] w fun e w'=>e=.returned (.string ⟨(ps n.toNat).toArray⟩)∧Below w.heap.size w w':=by
 have HT:=zh ht;clear ht;go_enter Tryz.func122,Tryz.ntmps122;go_wp2_with fail
 refine (vput _ _ HT.out h0).mono ?_;rintro e w1 ⟨rfl,hb⟩;go_wp2
 go_ret
 exact⟨rfl,hb⟩
end Go.Proofs.YtagbkmoahflfdaaGreatDoor.Hd
