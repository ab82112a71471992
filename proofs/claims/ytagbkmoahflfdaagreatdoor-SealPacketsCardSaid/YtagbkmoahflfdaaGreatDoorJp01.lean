import Derived.OrdersHeld
import Derived.KernelRfl
import Derived.Deep.RegionHeld
import Derived.Lib.Hide
import Derived.Test.YtagbkmoahflfdaaGreatDoorRows
import Derived.WalkKit
import Derived.WalkSpells
import Derived.WalkLawsBesides
import Derived.Laws.Bits64b
import Derived.Deep.QuietTactic
import Derived.BigQuiet
set_option maxRecDepth 20000
set_option linter.unusedVariables false
set_option linter.unusedSimpArgs false
set_option maxHeartbeats 4000000
namespace Go.Proofs.YtagbkmoahflfdaaGreatDoor.Tk
open Go
theorem J1 {α : Type _} {xs : List α} {i : Nat} (h : i < xs.toArray.size) : xs.toArray[i]'h = xs[i]'(by simpa using h) := rfl
theorem J2 {α : Type _} {a : α} {ls : List α} (h : 0 < (a :: ls).length) : (a :: ls)[0]'h = a := rfl
theorem J3 {α : Type _} {a : α} {ls : List α} {i : Nat} (h : i + 1 < (a :: ls).length) : (a :: ls)[i + 1]'h = ls[i]'(by simpa using h) := rfl
theorem J4 {α : Type _} {l : List α} {i : Nat} {a : α} : l.toArray.setIfInBounds i a = (l.set i a).toArray := List.setIfInBounds_toArray ..
theorem J5 {α : Type _} {x : α} {xs : List α} {a : α} : (x :: xs).set 0 a = a :: xs := rfl
theorem J6 {α : Type _} {x : α} {xs : List α} {n : Nat} {a : α} : (x :: xs).set (n + 1) a = x :: xs.set n a := rfl
theorem J7 {α : Type _} {l : List α} {i : Nat} : l.toArray[i]? = l[i]? := List.getElem?_toArray ..
theorem J8 {α : Type _} {a : α} {l : List α} {i : Nat} : (a :: l)[i + 1]? = l[i]? := rfl
theorem J9 {α : Type _} {a : α} {l : List α} : (a :: l)[0]? = some a := rfl
theorem zqa {P : Program} {md : Region.Mode} {ops : Array Oper} {Q : Exit → Act → World → Prop} {S : World → Prop} (i : Nat) {oi : Oper} {fuel : Nat} {listed : Array Bool} {a : Act} {w : World}
    (hi : ops[i]? = some oi) (v : Value) (hy : ∀ w, S w → (execOp a.eval oi).run P w = .ok (.value v) w) (h : wpAnyH P md ops Q S fuel (listed.setIfInBounds i true) (a.put oi.dst v) w)
    (hs : Region.noSelect ops = true := by kernel_rfl) (hf : Region.free md ops listed i = true := by kernel_rfl) (hr : (Region.ready md ops listed).contains i = true := by kernel_rfl)
    (hQ : ∀ c a w, Q (.panic c) (a.put oi.dst v) w → Q (.panic c) a w := by exact fun _ _ _ h => h)
    (hx : Region.wanted oi (yielded ops a.tmps) = true := by rfl) (hS : S w := by assumption) : wpAnyH P md ops Q S (fuel + 1) listed a w :=
  wpAnyH_take hi hs hf hr hQ (Or.inl ⟨hx, hy⟩) hS h
theorem zqb {P : Program} {md : Region.Mode} {ops : Array Oper} {Q : Exit → Act → World → Prop} {S : World → Prop} {fuel : Nat} {listed : Array Bool} {a : Act} {w : World} (L : List Nat) {i : Nat} {oi : Oper}
    (_hl : L.find? (fun i => !listed.getD i true) = some i) (hi : ops[i]? = some oi) (v : Value) (hy : ∀ w, S w → (execOp a.eval oi).run P w = .ok (.value v) w) (h : wpAnyH P md ops Q S fuel (listed.setIfInBounds i true) (a.put oi.dst v) w)
    (hs : Region.noSelect ops = true := by kernel_rfl) (hf : Region.free md ops listed i = true := by kernel_rfl) (hr : (Region.ready md ops listed).contains i = true := by kernel_rfl)
    (hQ : ∀ c a w, Q (.panic c) (a.put oi.dst v) w → Q (.panic c) a w := by exact fun _ _ _ h => h)
    (hx : Region.wanted oi (yielded ops a.tmps) = true := by rfl) (hS : S w := by assumption) : wpAnyH P md ops Q S (fuel + 1) listed a w :=
  wpAnyH_take hi hs hf hr hQ (Or.inl ⟨hx, hy⟩) hS h
theorem zqc {P : Program} {md : Region.Mode} {ops : Array Oper} {Q : Exit → Act → World → Prop} {S : World → Prop} {fuel : Nat} {listed : Array Bool} {a : Act} {w : World} (i : Nat) {oi : Oper} (hi : ops[i]? = some oi) (h : wpAnyH P md ops Q S fuel (listed.setIfInBounds i true) (a.put oi.dst undef) w)
    (hs : Region.noSelect ops = true := by kernel_rfl) (hf : Region.free md ops listed i = true := by kernel_rfl) (hr : (Region.ready md ops listed).contains i = true := by kernel_rfl)
    (hQ : ∀ c a w, Q (.panic c) (a.put oi.dst undef) w → Q (.panic c) a w := by exact fun _ _ _ h => h)
    (hx : Region.wanted oi (yielded ops a.tmps) = false := by rfl) (hS : S w := by assumption) : wpAnyH P md ops Q S (fuel + 1) listed a w :=
  wpAnyH_take hi hs hf hr hQ (Or.inr ⟨hx, rfl⟩) hS h
theorem zqf {P : Program} {md : Region.Mode} {ops : Array Oper} {Q : Exit → Act → World → Prop} {S : World → Prop} {fuel : Nat} {listed : Array Bool} {a : Act} {w : World} (rs : List Nat) (h : AllReadyH P md ops Q S fuel listed a w rs) (hr : Region.ready md ops listed = rs := by kernel_rfl) (hne : rs ≠ [] := by simp) : wpAnyH P md ops Q S (fuel + 1) listed a w :=
  wpAnyH_ready hr hne h
theorem zqe {P : Program} {md : Region.Mode} {ops : Array Oper} {Q : Exit → Act → World → Prop} {S : World → Prop} {fuel : Nat} {listed : Array Bool} {a : Act} {w : World} (h : Q .normal a w) (hr : Region.ready md ops listed = [] := by kernel_rfl) : wpAnyH P md ops Q S fuel listed a w := wpAnyH_done hr h _
theorem zh {p : Prop} (h : p) : RowKit.Hid p := h
theorem zle {n : Nat} : n ≤ n := Nat.le_refl n
end Go.Proofs.YtagbkmoahflfdaaGreatDoor.Tk
namespace Go.Proofs.YtagbkmoahflfdaaGreatDoor.Vm
def fx (n:Nat):Nat→List UInt8
 | 0=>[]
 | k+1=>UInt8.ofNat (n/256^k%256)::fx n k
def bk (l:List UInt8):Nat:=l.foldl (fun a b=>a*256+b.toNat) 0
theorem fx_length(n k:Nat):(fx n k).length=k:=by
 induction k with
 | zero=>rfl
 | succ k ih=>simp[fx,ih]
theorem bk_snoc(l:List UInt8)(b:UInt8):bk (l++[b])=bk l*256+b.toNat:=by simp[bk]
theorem bk_nil:bk []=0:=rfl
theorem bk_acc(l:List UInt8)(a:Nat):l.foldl (fun a b=>a*256+b.toNat) a=a*256^l.length+bk l:=by
 unfold bk
 induction l generalizing a with
 | nil=>simp
 | cons b l ih=>
  simp only[List.foldl_cons,List.length_cons];rw[ih,ih (0*256+b.toNat),Nat.pow_succ,Nat.add_mul,Nat.zero_mul,Nat.zero_add,Nat.mul_assoc,Nat.mul_comm 256];omega
theorem bk_cons(b:UInt8)(l:List UInt8):bk (b::l)=b.toNat*256^l.length+bk l:=by
 have:=bk_acc l (0*256+b.toNat);simp only[Nat.zero_mul,Nat.zero_add]at this;show List.foldl _ (0*256+b.toNat) l=_;simp only[Nat.zero_mul,Nat.zero_add];exact this
theorem bk_lt(l:List UInt8):bk l<256^l.length:=by
 induction l with
 | nil=>simp[bk_nil]
 | cons b l ih=>
  rw[bk_cons,List.length_cons,Nat.pow_succ];have hb:=b.toNat_lt;have:b.toNat*256^l.length≤255*256^l.length:=Nat.mul_le_mul_right _ (by omega);omega
theorem bk_fx(n k:Nat):bk (fx n k)=n%256^k:=by
 induction k with
 | zero=>simp[fx,bk_nil,Nat.mod_one]
 | succ k ih=>
  rw[fx,bk_cons,fx_length,ih,Nat.pow_succ,Nat.mod_mul]
  have:(UInt8.ofNat (n/256^k%256)).toNat=n/256^k%256:=by
   rw[UInt8.toNat_ofNat'];omega
  rw[this,Nat.mul_comm];omega
theorem fx_succ(n k:Nat):fx n (k+1)=UInt8.ofNat (n/256^k%256)::fx n k:=rfl
def pl (n:Nat):Nat:=if n<64 then 0 else if n<16384 then 1 else if n<1073741824 then 2 else if n<4611686018427387904 then 3 else 4
def wd (p:Nat):Nat:=2^p
def pt (n:Nat):List UInt8:=fx (pl n*2^(8*wd (pl n)-2)+n) (wd (pl n))
def gw (b:UInt8):Nat:=wd (b.toNat/64)
def gn (l:List UInt8) (k:Nat):Nat:=bk (l.take k)%2^(8*k-2)
theorem pl_cases(n:Nat):(pl n=0∧n<64)∨(pl n=1∧64≤n∧n<16384)∨(pl n=2∧16384≤n∧n<1073741824)∨(pl n=3∧1073741824≤n∧n<4611686018427387904)∨(pl n=4∧4611686018427387904≤n):=by
 unfold pl
 split
 ·omega
 ·split
  ·omega
  ·split
   ·omega
   ·split<;>omega
theorem pl_le(n:Nat):pl n≤4:=by have:=pl_cases n;omega
theorem pt_length(n:Nat):(pt n).length=wd (pl n):=fx_length _ _
theorem pt_head(n:Nat)(h:pl n<4):∃b r,pt n=b::r∧gw b=wd (pl n)∧r.length+1=wd (pl n):=by
 unfold pt gw;have hp:=pl_cases n;rcases hp with ⟨hp,h1⟩|⟨hp,h1,h2⟩|⟨hp,h1,h2⟩|⟨hp,h1,h2⟩|⟨hp,h1⟩
 all_goals rw[hp]
 all_goals try (exfalso;omega)
 all_goals refine⟨_,_,rfl,?_,by rw[fx_length];rfl⟩
 all_goals
  rw[UInt8.toNat_ofNat'];simp only[wd]
  congr 1
  simp;omega
theorem pt_back(n:Nat)(h:pl n<4)(s:List UInt8):gn (pt n++s) (wd (pl n))=n:=by
 unfold gn;rw[show (pt n++s).take (wd (pl n))=pt n by rw[←pt_length n];simp];unfold pt;rw[bk_fx];have hp:=pl_cases n;rcases hp with ⟨hp,h1⟩|⟨hp,h1,h2⟩|⟨hp,h1,h2⟩|⟨hp,h1,h2⟩|⟨hp,h1⟩
 all_goals rw[hp]
 all_goals simp[wd]
 all_goals omega
end Go.Proofs.YtagbkmoahflfdaaGreatDoor.Vm
namespace Go.Proofs.YtagbkmoahflfdaaGreatDoor.Se
def rl (x n:Nat):Nat:=x*2^n%4294967296+x/2^(32-n)
theorem rl_lt(x n:Nat)(hx:x<4294967296)(hn:n≤32):rl x n<4294967296:=by
 unfold rl;have e:(4294967296:Nat)=2^n*2^(32-n):=by rw[←Nat.pow_add,show n+(32-n)=32 by omega]
 have h1:x*2^n%4294967296=x%2^(32-n)*2^n:=by
  rw[e,Nat.mul_comm (2^n) (2^(32-n)),Nat.mul_mod_mul_right]
 have h2:x/2^(32-n)<2^n:=by
  rw[Nat.div_lt_iff_lt_mul (Nat.two_pow_pos _),←e];exact hx
 have h3:x%2^(32-n)<2^(32-n):=Nat.mod_lt _ (Nat.two_pow_pos _);rw[h1];have h4:(x%2^(32-n)+1)*2^n≤2^(32-n)*2^n:=Nat.mul_le_mul_right _ h3;rw[Nat.add_mul,Nat.one_mul,Nat.mul_comm (2^(32-n)),←e]at h4;omega
theorem rl_step(x n:Nat)(hx:x<4294967296)(hn:n<32):rl x n*2%4294967296+rl x n/2147483648=rl x (n+1):=by
 have hlt:=rl_lt x n hx (by omega);have e:(4294967296:Nat)=2^n*2^(32-n):=by rw[←Nat.pow_add,show n+(32-n)=32 by omega]
 have e2:2^(32-n)=2*2^(31-n):=by rw[show 32-n=31-n+1 by omega,Nat.pow_succ']
 have e3:2^(n+1)=2*2^n:=Nat.pow_succ';have e4:(4294967296:Nat)=2*(2^n*2^(31-n)):=by rw[e,e2];rw[←Nat.mul_assoc,Nat.mul_comm (2^n) 2,Nat.mul_assoc]
 obtain⟨a,ha⟩:∃a,x%2^(31-n)=a:=⟨_,rfl⟩;obtain⟨q,hq⟩:∃q,x/2^(31-n)=q:=⟨_,rfl⟩;have hP:=Nat.two_pow_pos (31-n);have hQ:=Nat.two_pow_pos n;have hxe:x=2^(31-n)*q+a:=by rw[←ha,←hq];exact (Nat.div_add_mod x _).symm
 have hal:a<2^(31-n):=by rw[←ha];exact Nat.mod_lt _ hP
 have hx2:x/2^(32-n)=q/2:=by rw[e2,Nat.mul_comm,←Nat.div_div_eq_div_mul,hq]
 have hx3:x%2^(32-n)=2^(31-n)*(q%2)+a:=by
  have h1:=Nat.div_add_mod x (2^(32-n));rw[hx2,e2]at h1;have h2:=Nat.div_add_mod q 2;rw[e2]
  have h3:2^(31-n)*q=2*2^(31-n)*(q/2)+2^(31-n)*(q%2):=by
   conv=>lhs;rw[←h2]
   rw[Nat.mul_add,←Nat.mul_assoc,Nat.mul_comm (2^(31-n)) 2]
  omega
 have r1:rl x n=(2^(31-n)*(q%2)+a)*2^n+q/2:=by
  unfold rl;rw[hx2]
  congr 1
  rw[e,Nat.mul_comm (2^n) (2^(32-n)),Nat.mul_mod_mul_right,hx3]
 have r2:rl x (n+1)=a*2^(n+1)+q:=by
  unfold rl;rw[show 32-(n+1)=31-n by omega,hq]
  congr 1
  have e5:(4294967296:Nat)=2^(31-n)*2^(n+1):=by rw[←Nat.pow_add,show 31-n+(n+1)=32 by omega]
  rw[e5,Nat.mul_mod_mul_right,ha]
 have hq2:q<2^(n+1):=by
  rw[←hq,Nat.div_lt_iff_lt_mul hP,←Nat.pow_add,show n+1+(31-n)=32 by omega];exact hx
 rw[e3]at hq2;have hhalf:q/2<2^n:=by omega
 have hP31:2^(31-n)*2^n=2147483648:=by rw[←Nat.pow_add,show 31-n+n=31 by omega]
 have ha2:a*2^n+2^n≤2147483648:=by
  have:=Nat.mul_le_mul_right (2^n) hal;rw[Nat.succ_mul,hP31]at this;exact this
 have hb:=Nat.mod_two_eq_zero_or_one q;rw[r1,r2,e3]
 have hm:(2^(31-n)*(q%2)+a)*2^n=2147483648*(q%2)+a*2^n:=by
  rw[Nat.add_mul,Nat.mul_assoc,Nat.mul_comm (q%2),←Nat.mul_assoc,hP31]
 rw[hm];have ha3:a*(2*2^n)=2*(a*2^n):=by rw[←Nat.mul_assoc,Nat.mul_comm a 2,Nat.mul_assoc]
 rw[ha3];generalize a*2^n=u at *;generalize 2^n=v at *
 rcases hb with hb|hb<;>rw[hb]<;>omega
def mixW (w:List Nat) (s a o n:Nat):List Nat:=
 let w1:=w.set s ((w.getD s 0+w.getD a 0)%4294967296)
 w1.set o (rl (w1.getD o 0 ^^^ w1.getD s 0) n)
def quarterW (w:List Nat) (a b c d:Nat):List Nat:=mixW (mixW (mixW (mixW w a b d 16) c d b 12) a b d 8) c d b 7
def twiceW (w:List Nat):List Nat:=
 quarterW (quarterW (quarterW (quarterW (quarterW (quarterW (quarterW (quarterW w 0 4 8 12) 1 5 9 13) 2 6 10 14) 3 7 11 15) 0 5 10 15) 1 6 11 12) 2 7 8 13) 3 4 9 14
def rounds:Nat→List Nat→List Nat
 | 0,w=>w
 | n+1,w=>twiceW (rounds n w)
theorem mixW_len(w:List Nat)(s a o n:Nat):(mixW w s a o n).length=w.length:=by simp[mixW]
theorem quarterW_len(w:List Nat)(a b c d:Nat):(quarterW w a b c d).length=w.length:=by simp[quarterW,mixW_len]
theorem twiceW_len(w:List Nat):(twiceW w).length=w.length:=by simp[twiceW,quarterW_len]
theorem rounds_len(n:Nat)(w:List Nat):(rounds n w).length=w.length:=by
 induction n with
 | zero=>rfl
 | succ n ih=>rw[rounds,twiceW_len,ih]
def W32 (w:List Nat):Prop:=∀x ∈ w,x<4294967296
theorem W32.get{w:List Nat}(h:W32 w)(i:Nat):w.getD i 0<4294967296:=by
 rw[List.getD_eq_getElem?_getD];by_cases hi:i<w.length
 ·rw[List.getElem?_eq_getElem hi];exact h _ (List.getElem_mem hi)
 ·rw[List.getElem?_eq_none (by omega)];decide
theorem W32.set{w:List Nat}(h:W32 w)(i x:Nat)(hx:x<4294967296):W32 (w.set i x):=by
 intro y hy;rcases List.mem_or_eq_of_mem_set hy with h1|rfl
 ·exact h y h1
 ·exact hx
theorem W32.mix{w:List Nat}(h:W32 w)(s a o n:Nat)(hn:n≤32):W32 (mixW w s a o n):=by
 have h1:=h.set s ((w.getD s 0+w.getD a 0)%4294967296) (Nat.mod_lt _ (by decide));exact h1.set o _ (rl_lt _ _ (Nat.xor_lt_two_pow (n:=32) (h1.get o) (h1.get s)) hn)
theorem W32.quarter{w:List Nat}(h:W32 w)(a b c d:Nat):W32 (quarterW w a b c d):=
 (((h.mix a b d 16 (by decide)).mix c d b 12 (by decide)).mix a b d 8 (by decide)).mix c d b 7 (by decide)
theorem W32.twice{w:List Nat}(h:W32 w):W32 (twiceW w):=
 (((((((h.quarter _ _ _ _).quarter _ _ _ _).quarter _ _ _ _).quarter _ _ _ _).quarter _ _ _ _).quarter _ _ _ _).quarter _ _ _ _).quarter _ _ _ _
theorem W32.rounds{w:List Nat}(h:W32 w)(n:Nat):W32 (rounds n w):=by
 induction n with
 | zero=>exact h
 | succ n ih=>exact ih.twice
def le4 (n:Nat):List UInt8:=[UInt8.ofNat n,UInt8.ofNat (n/256),UInt8.ofNat (n/65536),UInt8.ofNat (n/16777216)]
def les (w:List Nat):List UInt8:=w.flatMap le4
theorem les_len(w:List Nat):(les w).length=4*w.length:=by
 induction w with
 | nil=>rfl
 | cons x w ih=>
  have:les (x::w)=le4 x++les w:=by simp[les]
  rw[this,List.length_append,ih,show (le4 x).length=4 from rfl,List.length_cons];omega
def lw (s:List UInt8) (i:Nat):Nat:=(s.getD (4*i) 0).toNat+256*(s.getD (4*i+1) 0).toNat+65536*(s.getD (4*i+2) 0).toNat+16777216*(s.getD (4*i+3) 0).toNat
theorem lw_lt(s:List UInt8)(i:Nat):lw s i<4294967296:=by
 unfold lw;have h0:=(s.getD (4*i) 0).toNat_lt;have h1:=(s.getD (4*i+1) 0).toNat_lt;have h2:=(s.getD (4*i+2) 0).toNat_lt;have h3:=(s.getD (4*i+3) 0).toNat_lt;omega
def ini (key nonce:List UInt8) (c:Nat):List Nat:=[1634760805,857760878,2036477234,1797285236,lw key 0,lw key 1,lw key 2,lw key 3,lw key 4,lw key 5,lw key 6,lw key 7,c,lw nonce 0,lw nonce 1,lw nonce 2]
theorem ini_32(key nonce:List UInt8)(c:Nat)(hc:c<4294967296):W32 (ini key nonce c):=by
 intro x hx;simp only[ini,List.mem_cons,List.not_mem_nil,or_false]at hx
 rcases hx with rfl|rfl|rfl|rfl|rfl|rfl|rfl|rfl|rfl|rfl|rfl|rfl|rfl|rfl|rfl|rfl<;>first|decide|exact lw_lt _ _|exact hc
def sumW (a b:List Nat):List Nat:=List.zipWith (fun x y=>(x+y)%4294967296) a b
theorem sumW_len(a b:List Nat):(sumW a b).length=min a.length b.length:=by simp[sumW]
def blk (key nonce:List UInt8) (c:Nat):List UInt8:=les (sumW (rounds 10 (ini key nonce c)) (ini key nonce c))
theorem blk_len(key nonce:List UInt8)(c:Nat):(blk key nonce c).length=64:=by
 unfold blk;rw[les_len,sumW_len,rounds_len];rfl
theorem blk_known:(blk [] [] 0).take 4=[118,184,224,173]:=by decide +kernel
def xr (a b:List UInt8):List UInt8:=List.zipWith (· ^^^ ·) a b
theorem xr_len(a b:List UInt8):(xr a b).length=min a.length b.length:=by simp[xr]
def stm (key nonce:List UInt8):Nat→Nat→List UInt8→List UInt8
 | 0,_,_=>[]
 | n+1,c,s=>if s=[] then [] else xr s (blk key nonce c)++stm key nonce n ((c+1)%4294967296) (s.drop 64)
theorem xr_xr:∀(a b:List UInt8),a.length≤b.length→xr (xr a b) b=a
 | [],_,_=>rfl
 | x::a,[],h=>by simp at h
 | x::a,y::b,h=>by
  show (x ^^^ y ^^^ y)::xr (xr a b) b=x::a;rw[xr_xr a b (by simpa using h),UInt8.xor_assoc,UInt8.xor_self,UInt8.xor_zero]
theorem xr_take:∀(k:Nat) (a b:List UInt8),(xr a b).take k=xr (a.take k) b
 | 0,_,_=>by simp[xr]
 | k+1,[],b=>by simp[xr]
 | k+1,x::a,[]=>by simp[xr]
 | k+1,x::a,y::b=>by
  show (x ^^^ y)::(xr a b).take k=(x ^^^ y)::xr (a.take k) b;rw[xr_take k a b]
theorem xr_cut(a b:List UInt8):xr a b=xr (a.take b.length) b:=by
 have h:=xr_take b.length a b;rw[List.take_of_length_le (by rw[xr_len];omega)]at h;exact h
theorem stm_more(key nonce:List UInt8):∀(n m c:Nat) (s:List UInt8),s.length≤64*n→s.length≤64*m→stm key nonce n c s=stm key nonce m c s
 | 0,0,_,_,_,_=>rfl
 | 0,m+1,c,s,h,_=>by
  have:s=[]:=List.eq_nil_of_length_eq_zero (by omega);subst this;rfl
 | n+1,0,c,s,_,h=>by
  have:s=[]:=List.eq_nil_of_length_eq_zero (by omega);subst this;rfl
 | n+1,m+1,c,s,h1,h2=>by
  unfold stm
  split
  ·rfl
  ·rw[stm_more key nonce n m _ (s.drop 64) (by rw[List.length_drop];omega) (by rw[List.length_drop];omega)]
def stream (key nonce:List UInt8) (c:Nat) (s:List UInt8):List UInt8:=stm key nonce (s.length/64+1) c s
theorem stream_of(key nonce:List UInt8)(n c:Nat)(s:List UInt8)(h:s.length≤64*n):stm key nonce n c s=stream key nonce c s:=stm_more _ _ _ _ _ _ h (by omega)
theorem stream_nil(key nonce:List UInt8)(c:Nat):stream key nonce c []=[]:=rfl
theorem stream_step(key nonce:List UInt8)(c:Nat)(s:List UInt8)(h:s≠[]):stream key nonce c s=xr s (blk key nonce c)++stream key nonce ((c+1)%4294967296) (s.drop 64):=by
 conv=>lhs;unfold stream stm
 rw[if_neg h,stream_of _ _ _ _ _ (by rw[List.length_drop];omega)]
theorem stream_len(key nonce:List UInt8):∀(n c:Nat) (s:List UInt8),s.length≤64*n→(stream key nonce c s).length=s.length
 | 0,c,s,h=>by
  have:s=[]:=List.eq_nil_of_length_eq_zero (by omega);subst this;rfl
 | n+1,c,s,h=>by
  by_cases hs:s=[]
  ·subst hs;rfl
  ·rw[stream_step _ _ _ _ hs,List.length_append,xr_len,blk_len,stream_len key nonce n _ (s.drop 64) (by rw[List.length_drop];omega),List.length_drop]
   omega
theorem stream_length(key nonce:List UInt8)(c:Nat)(s:List UInt8):(stream key nonce c s).length=s.length:=stream_len key nonce (s.length/64+1) c s (by omega)
theorem stream_drop(key nonce:List UInt8)(c:Nat)(s:List UInt8):(stream key nonce c s).drop 64=stream key nonce ((c+1)%4294967296) (s.drop 64):=by
 by_cases hs:s=[]
 ·subst hs;rfl
 ·rw[stream_step _ _ _ _ hs]
  by_cases h64:64≤s.length
  ·rw[List.drop_append_of_le_length (by rw[xr_len,blk_len];omega),List.drop_of_length_le (by rw[xr_len,blk_len];omega),List.nil_append]
  ·rw[List.drop_of_length_le (show s.length≤64 by omega),stream_nil,List.append_nil]
   exact List.drop_of_length_le (by rw[xr_len,blk_len];omega)
theorem stream_take(key nonce:List UInt8):∀(n k c:Nat) (s:List UInt8),s.length≤64*n→(stream key nonce c s).take k=stream key nonce c (s.take k)
 | 0,k,c,s,h=>by
  have:s=[]:=List.eq_nil_of_length_eq_zero (by omega);subst this;rw[stream_nil,List.take_nil,stream_nil]
 | n+1,k,c,s,h=>by
  by_cases hs:s=[]
  ·subst hs
   rw[stream_nil,List.take_nil,stream_nil]
  by_cases hk:k=0
  ·subst hk
   rw[List.take_zero,List.take_zero,stream_nil]
  have ht:s.take k≠[]:=by
   intro he;have:=congrArg List.length he;rw[List.length_take,List.length_nil]at this;have:s.length≠0:=fun h0=>hs (List.eq_nil_of_length_eq_zero h0)
   omega
  rw[stream_step _ _ _ _ hs,stream_step _ _ _ _ ht];by_cases hk64:k≤64
  ·have hd:(s.take k).drop 64=[]:=List.drop_of_length_le (by rw[List.length_take];omega)
   rw[hd,stream_nil,List.append_nil,←xr_take];by_cases h64:s.length≤64
   ·rw[List.drop_of_length_le h64,stream_nil,List.append_nil]
   ·rw[List.take_append_of_le_length (by rw[xr_len,blk_len];omega)]
  ·have e1:xr (s.take k) (blk key nonce c)=xr s (blk key nonce c):=by
    rw[xr_cut (s.take k),xr_cut s,blk_len,List.take_take,Nat.min_eq_left (by omega)]
   rw[e1,List.drop_take,←stream_take key nonce n (k-64) _ (s.drop 64) (by rw[List.length_drop];omega),List.take_append];rw[List.take_of_length_le (by rw[xr_len,blk_len];omega)];by_cases h64:64≤s.length
   ·rw[xr_len,blk_len,Nat.min_eq_right h64]
   ·rw[List.drop_of_length_le (by omega),stream_nil,List.take_nil,List.take_nil]
theorem stream_back(key nonce:List UInt8):∀(n c:Nat) (s:List UInt8),s.length≤64*n→stream key nonce c (stream key nonce c s)=s
 | 0,c,s,h=>by
  have:s=[]:=List.eq_nil_of_length_eq_zero (by omega);subst this;rfl
 | n+1,c,s,h=>by
  by_cases hs:s=[]
  ·subst hs;rfl
  have h1:stream key nonce c s≠[]:=by
   intro he;have:=stream_length key nonce c s;rw[he]at this;exact hs (List.eq_nil_of_length_eq_zero this.symm)
  rw[stream_step _ _ _ _ h1,stream_drop,stream_back key nonce n _ (s.drop 64) (by rw[List.length_drop];omega)]
  have e:xr (stream key nonce c s) (blk key nonce c)=s.take 64:=by
   rw[xr_cut,blk_len,stream_take key nonce (n+1) 64 c s h]
   have ht:s.take 64≠[]:=by
    intro he;have:=congrArg List.length he;rw[List.length_take,List.length_nil]at this;have:s.length≠0:=fun h0=>hs (List.eq_nil_of_length_eq_zero h0)
    omega
   rw[stream_step _ _ _ _ ht,List.drop_of_length_le (by rw[List.length_take];omega),stream_nil,List.append_nil];exact xr_xr _ _ (by rw[List.length_take,blk_len];omega)
  rw[e,List.take_append_drop]
end Go.Proofs.YtagbkmoahflfdaaGreatDoor.Se
namespace Go.Proofs.YtagbkmoahflfdaaGreatDoor.Dg
def rr (x n:Nat):Nat:=x/2^n+x%2^n*2^(32-n)
def sg0 (x:Nat):Nat:=rr x 7 ^^^ rr x 18 ^^^ x/8
def sg1 (x:Nat):Nat:=rr x 17 ^^^ rr x 19 ^^^ x/1024
def bs1 (x:Nat):Nat:=rr x 6 ^^^ rr x 11 ^^^ rr x 25
def bs0 (x:Nat):Nat:=rr x 2 ^^^ rr x 13 ^^^ rr x 22
def ch (e f g:Nat):Nat:=(e &&& f) ^^^ ((4294967295-e) &&& g)
def mj (a b c:Nat):Nat:=(a &&& b) ^^^ (a &&& c) ^^^ (b &&& c)
structure V where
 a:Nat
 b:Nat
 c:Nat
 d:Nat
 e:Nat
 f:Nat
 g:Nat
 h:Nat
def V.ok (v:V):Prop:=v.a<4294967296∧v.b<4294967296∧v.c<4294967296∧v.d<4294967296∧v.e<4294967296∧v.f<4294967296∧v.g<4294967296∧v.h<4294967296
def V.toL (v:V):List Nat:=[v.a,v.b,v.c,v.d,v.e,v.f,v.g,v.h]
def t1 (v:V) (x:Nat):Nat:=(v.h+bs1 v.e+ch v.e v.f v.g+x)%4294967296
def t2 (v:V):Nat:=(bs0 v.a+mj v.a v.b v.c)%4294967296
def rnd (v:V) (x:Nat):V:=⟨(t1 v x+t2 v)%4294967296,v.a,v.b,v.c,(v.d+t1 v x)%4294967296,v.e,v.f,v.g⟩
def wk (w k:Nat):Nat:=(w+k)%4294967296
def mix (ks ws:List Nat) (v:V):V:=(List.zipWith wk ws ks).foldl rnd v
theorem mix_cons(k w:Nat)(ks ws:List Nat)(v:V):mix (k::ks) (w::ws) v=mix ks ws (rnd v (wk w k)):=by
 simp only[mix,List.zipWith_cons_cons,List.foldl_cons]
theorem mix_nil(ws:List Nat)(v:V):mix [] ws v=v:=by
 simp only[mix,List.zipWith_nil_right,List.foldl_nil]
def plus (v u:V):V:=⟨(v.a+u.a)%4294967296,(v.b+u.b)%4294967296,(v.c+u.c)%4294967296,(v.d+u.d)%4294967296,(v.e+u.e)%4294967296,(v.f+u.f)%4294967296,(v.g+u.g)%4294967296,(v.h+u.h)%4294967296⟩
def pt (s:List UInt8) (j:Nat):Nat→Nat
 | 0=>0
 | m+1=>pt s j m*256+(s.getD (4*j+m) 0).toNat
def heads (s:List UInt8):List Nat:=[pt s 0 4,pt s 1 4,pt s 2 4,pt s 3 4,pt s 4 4,pt s 5 4,pt s 6 4,pt s 7 4,pt s 8 4,pt s 9 4,pt s 10 4,pt s 11 4,pt s 12 4,pt s 13 4,pt s 14 4,pt s 15 4]
def nx (l:List Nat):Nat:=(l.getD (l.length-16) 0+l.getD (l.length-7) 0+sg0 (l.getD (l.length-15) 0)+sg1 (l.getD (l.length-2) 0))%4294967296
def ws (s:List UInt8):Nat→List Nat
 | 0=>heads s
 | k+1=>ws s k++[nx (ws s k)]
def K0:List Nat:=[1116352408,1899447441,3049323471,3921009573,961987163,1508970993,2453635748,2870763221,3624381080,310598401,607225278,1426881987,1925078388,2162078206,2614888103,3248222580,3835390401,4022224774,264347078,604807628,770255983,1249150122,1555081692,1996064986,2554220882,2821834349,2952996808,3210313671,3336571891,3584528711,113926993,338241895,666307205,773529912,1294757372,1396182291,1695183700,1986661051,2177026350,2456956037,2730485921,2820302411,3259730800,3345764771,3516065817,3600352804,4094571909,275423344,430227734,506948616,659060556,883997877,958139571,1322822218,1537002063,1747873779,1955562222,2024104815,2227730452,2361852424,2428436474,2756734187,3204031479,3329325298]
def H0:V:=⟨1779033703,3144134277,1013904242,2773480762,1359893119,2600822924,528734635,1541459225⟩
def P0:List Nat:=[2,3,5,7,11,13,17,19,23,29,31,37,41,43,47,53,59,61,67,71,73,79,83,89,97,101,103,107,109,113,127,131,137,139,149,151,157,163,167,173,179,181,191,193,197,199,211,223,227,229,233,239,241,251,257,263,269,271,277,281,283,293,307,311]
def take1 (v:V) (s:List UInt8):V:=plus v (mix K0 (ws s 48) v)
def it {α:Type} (f:α→α):Nat→α→α
 | 0,a=>a
 | n+1,a=>it f n (f a)
theorem it_succ{α:Type}(f:α→α)(n:Nat)(a:α):it f (n+1) a=it f n (f a):=rfl
theorem it_zero{α:Type}(f:α→α)(a:α):it f 0 a=a:=rfl
def stepB (p:List UInt8×V):List UInt8×V:=(p.1.drop 64,take1 p.2 (p.1.take 64))
def blocks (n:Nat) (s:List UInt8) (v:V):V:=(it stepB n (s,v)).2
theorem blocks_step(n:Nat)(s:List UInt8)(v:V):blocks (n+1) s v=blocks n (s.drop 64) (take1 v (s.take 64)):=by
 simp only[blocks,it_succ,stepB]
theorem blocks_none(s:List UInt8)(v:V):blocks 0 s v=v:=by
 simp only[blocks,it_zero]
def be (x:Nat):List UInt8:=[UInt8.ofNat (x/16777216),UInt8.ofNat (x/65536),UInt8.ofNat (x/256),UInt8.ofNat x]
def bes (l:List Nat):List UInt8:=l.flatMap be
def zs (n:Nat):Nat:=(64-(n+9)%64)%64
def pad (s:List UInt8):List UInt8:=s++[128]++List.replicate (zs s.length) 0++bes [8*s.length/4294967296,8*s.length%4294967296]
def sha (s:List UInt8):List UInt8:=bes (blocks ((pad s).length/64) (pad s) H0).toL
def isP (n:Nat):List Nat→Bool
 | []=>true
 | p::t=>if n<p*p then true else if n%p=0 then false else isP n t
def goP:Nat→Nat→List Nat→List Nat
 | 0,_,l=>l
 | k+1,n,l=>if l.length<64 then goP k (n+1) (if isP n l=true then l++[n] else l) else l
theorem goP_all:goP 310 2 []=P0:=by decide +kernel
def sq (n:Nat):Nat:=n*n/18446744073709551616
def cb (n:Nat):Nat:=(n*n/18446744073709551616*n+n*n%18446744073709551616*n/18446744073709551616)/4294967296
def grt (f:Nat→Bool):Nat→Nat→Nat
 | 0,n=>n
 | k+1,n=>grt f k (if f (n ||| 2^k)=true then n ||| 2^k else n)
def rt (p:Nat→Nat) (q:Nat):Nat:=grt (fun n=>decide (p n<q)) 35 0%4294967296
theorem rt_sq:(P0.take 8).map (rt sq)=H0.toL:=by decide +kernel
theorem rt_cb:P0.map (rt cb)=K0:=by decide +kernel
theorem rr_lt{x n:Nat}(hx:x<4294967296)(hn:n≤32):rr x n<4294967296:=by
 unfold rr
 have h1:x/2^n<2^(32-n):=by
  rw[Nat.div_lt_iff_lt_mul (Nat.two_pow_pos n),←Nat.pow_add,Nat.sub_add_cancel hn];exact hx
 have h2:x%2^n*2^(32-n)≤(2^n-1)*2^(32-n):=Nat.mul_le_mul_right _ (Nat.le_sub_one_of_lt (Nat.mod_lt _ (Nat.two_pow_pos n)))
 have h3:(2^n-1)*2^(32-n)=4294967296-2^(32-n):=by
  rw[Nat.sub_mul,←Nat.pow_add,Nat.add_sub_cancel' hn,Nat.one_mul]
 have h4:2^(32-n)≤4294967296:=by
  have:2^(32-n)≤2^32:=Nat.pow_le_pow_right (by decide) (by omega);exact this
 omega
theorem xor_lt{x y:Nat}(hx:x<4294967296)(hy:y<4294967296):x ^^^ y<4294967296:=Nat.xor_lt_two_pow (n:=32) hx hy
theorem and_lt{x y:Nat}(hx:x<4294967296):x &&& y<4294967296:=Nat.lt_of_le_of_lt Nat.and_le_left hx
theorem sha_len(s:List UInt8):(sha s).length=32:=by
 simp[sha,bes,V.toL,be]
open Tk Go.RowKit
theorem and32(a b:Nat)(ha:a<4294967296)(hb:b<4294967296):bits .and .u32 (a:Int) (b:Int)=((a &&& b:Nat):Int):=by
 have hx:a &&& b<2^32:=Nat.and_lt_two_pow _ (by omega)
 have h1:(BitVec.ofInt 32 (a:Int)).toNat=a:=by
  rw[BitVec.ofInt_natCast,BitVec.toNat_ofNat];exact Nat.mod_eq_of_lt (by omega)
 have h2:(BitVec.ofInt 32 (b:Int)).toNat=b:=by
  rw[BitVec.ofInt_natCast,BitVec.toNat_ofNat];exact Nat.mod_eq_of_lt (by omega)
 show IntKind.u32.wrap ((BitVec.ofInt 32 (a:Int) &&& BitVec.ofInt 32 (b:Int)).toNat:Int)=_;rw[BitVec.toNat_and,h1,h2,IntKind.wrap_u32];omega
theorem or32(a b:Nat)(ha:a<4294967296)(hb:b<4294967296):bits .or .u32 (a:Int) (b:Int)=((a ||| b:Nat):Int):=by
 have hx:a ||| b<2^32:=Nat.or_lt_two_pow (by omega) (by omega)
 have h1:(BitVec.ofInt 32 (a:Int)).toNat=a:=by
  rw[BitVec.ofInt_natCast,BitVec.toNat_ofNat];exact Nat.mod_eq_of_lt (by omega)
 have h2:(BitVec.ofInt 32 (b:Int)).toNat=b:=by
  rw[BitVec.ofInt_natCast,BitVec.toNat_ofNat];exact Nat.mod_eq_of_lt (by omega)
 show IntKind.u32.wrap ((BitVec.ofInt 32 (a:Int) ||| BitVec.ofInt 32 (b:Int)).toNat:Int)=_;rw[BitVec.toNat_or,h1,h2,IntKind.wrap_u32];omega
theorem xor32(a b:Nat)(ha:a<4294967296)(hb:b<4294967296):bits .xor .u32 (a:Int) (b:Int)=((a ^^^ b:Nat):Int):=by
 have hx:a ^^^ b<2^32:=Nat.xor_lt_two_pow (by omega) (by omega)
 have h1:(BitVec.ofInt 32 (a:Int)).toNat=a:=by
  rw[BitVec.ofInt_natCast,BitVec.toNat_ofNat];exact Nat.mod_eq_of_lt (by omega)
 have h2:(BitVec.ofInt 32 (b:Int)).toNat=b:=by
  rw[BitVec.ofInt_natCast,BitVec.toNat_ofNat];exact Nat.mod_eq_of_lt (by omega)
 show IntKind.u32.wrap ((BitVec.ofInt 32 (a:Int) ^^^ BitVec.ofInt 32 (b:Int)).toNat:Int)=_;rw[BitVec.toNat_xor,h1,h2,IntKind.wrap_u32];omega
theorem or_add(a b m:Nat)(hb:b<2^m):a*2^m ||| b=a*2^m+b:=by
 rw[Nat.mul_comm];exact (Nat.two_pow_add_eq_or_of_lt hb a).symm
theorem rot_num(x n m:Nat)(hx:x<4294967296)(hnm:n+m=32)(h1:1≤n)(h2:1≤m) :
 bits .or .u32 (IntKind.u32.wrap ((x:Int)*2^m)) ((x:Int)/2^n)=((rr x n:Nat):Int):=by
 have e1:IntKind.u32.wrap ((x:Int)*2^m)=((x%2^n*2^m:Nat):Int):=by
  rw[IntKind.wrap_u32];have e:((x:Int)*2^m)=((x*2^m:Nat):Int):=by push_cast;rfl
  have e3:(4294967296:Nat)=2^n*2^m:=by rw[←Nat.pow_add,hnm]
  have e2:x*2^m%4294967296=x%2^n*2^m:=by rw[e3,Nat.mul_mod_mul_right]
  rw[e,←e2];omega
 have hb:x/2^n<2^m:=by
  rw[Nat.div_lt_iff_lt_mul (Nat.two_pow_pos n),←Nat.pow_add,Nat.add_comm m n,hnm];exact hx
 have e4:((x:Int)/2^n)=((x/2^n:Nat):Int):=by push_cast;rfl
 have hlt:=rr_lt hx (n:=n) (by omega);have em:32-n=m:=by omega
 unfold rr at hlt ⊢;rw[em]at hlt ⊢;rw[e1,e4,or32 _ _ (Nat.lt_of_le_of_lt (Nat.le_add_left _ _) hlt) (Nat.lt_of_le_of_lt (Nat.le_add_right _ _) hlt),or_add _ _ _ hb,Nat.add_comm]
theorem rot_any(x n:Nat)(w:World)(hx:x<4294967296)(h1:1≤n)(h2:n≤31) :
 Calls Tryz.prog 161 #[.int .u32 x,.int .i64 (-(n:Int))] w fun e w'=>e=.returned (.int .u32 (rr x n:Nat))∧w=w':=by
 obtain⟨m,hm⟩:∃m,n+m=32:=⟨32-n,by omega⟩
 have hb:bits .and .u64 (IntKind.u64.wrap (-(n:Int))) 31=(m:Int):=by
  have e:IntKind.u64.wrap (-(n:Int))=((18446744073709551616-n:Nat):Int):=by rw[IntKind.wrap_u64];omega
  have h:=bits_and_u64_nat (18446744073709551616-n) 31 (by omega) (by omega);rw[e];have e2:(18446744073709551616-n) &&& 31=(18446744073709551616-n)%32:=Nat.and_two_pow_sub_one_eq_mod _ 5;rw[e2]at h;refine h.trans ?_;omega
 have HR:=zh (rot_num x n m hx hm h1 (by omega));have hn0:(32:Int)-m=n:=by omega
 have hm1:1≤m:=by omega
 go_enter Tryz.func161,Tryz.ntmps161;go_wp2
 go_ret
 refine⟨?_,rfl⟩;rw[←HR.out,IntKind.wrap_u32];simp
theorem right2(x n m b:Nat)(w:World)(hx:x<4294967296)(h1:1≤n)(h2:n≤31)(h3:1≤m)(h4:m≤31)(c0:w.cell? ⟨b,0,none⟩=some (.int .i64 n))(c1:w.cell? ⟨b,1,none⟩=some (.int .i64 m)) :
 Calls Tryz.prog 177 #[.int .u32 x,.slice (some ⟨b,0,none⟩) 2 2] w fun e w'=>e=.returned (.int .u32 (rr x n ^^^ rr x m:Nat))∧w=w':=by
 have X1:bits .xor .u32 0 ((rr x n:Nat):Int)=((rr x n:Nat):Int):=by
  have:=xor32 0 (rr x n) (by decide) (rr_lt hx (by omega));rw[Nat.zero_xor]at this;exact this
 have X2:=xor32 (rr x n) (rr x m) (rr_lt hx (by omega)) (rr_lt hx (by omega));have C1:=zh (fun w=>rot_any x n w hx h1 h2);have C2:=zh (fun w=>rot_any x m w hx h3 h4);clear hx;go_enter Tryz.func177,Tryz.ntmps177;go_wp2;refine wp_loop_rounds 3 ?_;rw[rounds_succ];go_wp2_with fail
 refine (C1.out _).mono ?_;rintro e w1 ⟨rfl,rfl⟩;go_wp2_with fail
 rw[rounds_succ];go_wp2_with fail
 refine (C2.out _).mono ?_;rintro e w1 ⟨rfl,rfl⟩;go_wp2_with fail
 rw[rounds_succ];go_wp2_with fail
 go_ret
 exact⟨rfl,rfl⟩
theorem right3(x n m k b:Nat)(w:World)(hx:x<4294967296)(h1:1≤n)(h2:n≤31)(h3:1≤m)(h4:m≤31)(h5:1≤k)(h6:k≤31)(c0:w.cell? ⟨b,0,none⟩=some (.int .i64 n))(c1:w.cell? ⟨b,1,none⟩=some (.int .i64 m))(c2:w.cell? ⟨b,2,none⟩=some (.int .i64 k)) :
 Calls Tryz.prog 177 #[.int .u32 x,.slice (some ⟨b,0,none⟩) 3 3] w fun e w'=>e=.returned (.int .u32 (rr x n ^^^ rr x m ^^^ rr x k:Nat))∧w=w':=by
 have X1:bits .xor .u32 0 ((rr x n:Nat):Int)=((rr x n:Nat):Int):=by
  have:=xor32 0 (rr x n) (by decide) (rr_lt hx (by omega));rw[Nat.zero_xor]at this;exact this
 have X2:=xor32 (rr x n) (rr x m) (rr_lt hx (by omega)) (rr_lt hx (by omega));have X3:=xor32 (rr x n ^^^ rr x m) (rr x k) (xor_lt (rr_lt hx (by omega)) (rr_lt hx (by omega))) (rr_lt hx (by omega));have C1:=zh (fun w=>rot_any x n w hx h1 h2);have C2:=zh (fun w=>rot_any x m w hx h3 h4);have C3:=zh (fun w=>rot_any x k w hx h5 h6);clear hx;go_enter Tryz.func177,Tryz.ntmps177;go_wp2;refine wp_loop_rounds 4 ?_;rw[rounds_succ];go_wp2_with fail
 refine (C1.out _).mono ?_;rintro e w1 ⟨rfl,rfl⟩;go_wp2_with fail
 rw[rounds_succ];go_wp2_with fail
 refine (C2.out _).mono ?_;rintro e w1 ⟨rfl,rfl⟩;go_wp2_with fail
 rw[rounds_succ];go_wp2_with fail
 refine (C3.out _).mono ?_;rintro e w1 ⟨rfl,rfl⟩;go_wp2_with fail
 rw[rounds_succ];go_wp2_with fail
 go_ret
 exact⟨rfl,rfl⟩
theorem inv_nat(e:Nat)(he:e<4294967296):4294967295 ^^^ e=4294967295-e:=by
 apply Nat.eq_of_testBit_eq;intro i;have h1:(4294967295-e:Nat)=2^32-(e+1):=by omega
 have h2:(4294967295:Nat)=2^32-1:=by decide
 rw[h1,Nat.testBit_two_pow_sub_succ (by omega),h2,Nat.testBit_xor,Nat.testBit_two_pow_sub_one];by_cases hi:i<32
 ·simp[hi]
 ·have:e.testBit i=false:=Nat.testBit_lt_two_pow (Nat.lt_of_lt_of_le he (by have:2^32≤2^i:=Nat.pow_le_pow_right (by decide) (by omega);exact this))
  simp[hi,this]
theorem inv32(e:Nat)(he:e<4294967296):bits .xor .u32 IntKind.u32.max (e:Int)=((4294967295-e:Nat):Int):=by
 have h:=xor32 4294967295 e (by decide) he;rw[inv_nat e he]at h;exact h
theorem below_drewN{B:Nat}{a w:World}(h:Below B a w)(n:Nat):Below B a (w.drewN n):=h.trans ⟨rfl,rfl,rfl,Nat.le_refl _,fun _ _=>rfl⟩
theorem round_any(v:V)(x:Nat)(w:World)(hv:v.ok)(hx:x<4294967296) :
 Calls Tryz.prog 167 #[.agg #[.int .u32 v.a,.int .u32 v.b,.int .u32 v.c,.int .u32 v.d,.int .u32 v.e,.int .u32 v.f,.int .u32 v.g,.int .u32 v.h],.int .u32 x] w fun e w'=>
  e=.returned (.agg #[.int .u32 (rnd v x).a,.int .u32 (rnd v x).b,.int .u32 (rnd v x).c,.int .u32 (rnd v x).d,.int .u32 (rnd v x).e,.int .u32 (rnd v x).f,.int .u32 (rnd v x).g,.int .u32 (rnd v x).h])∧Below w.heap.size w w':=by
 obtain⟨a,b,c,d,e,f,g,h⟩:=v;obtain⟨ha,hb,hc,hd,he,hf,hg,hh⟩:=hv;simp only at ha hb hc hd he hf hg hh;have CR3:=zh (fun w b c0 c1 c2=>right3 e 6 11 25 b w he (by decide) (by decide) (by decide) (by decide) (by decide) (by decide) c0 c1 c2);have CR2:=zh (fun w b c0 c1 c2=>right3 a 2 13 22 b w ha (by decide) (by decide) (by decide) (by decide) (by decide) (by decide) c0 c1 c2);obtain⟨A,hA⟩:∃A,A=(rnd ⟨a,b,c,d,e,f,g,h⟩ x).a:=⟨_,rfl⟩;obtain⟨E,hE⟩:∃E,E=(rnd ⟨a,b,c,d,e,f,g,h⟩ x).e:=⟨_,rfl⟩;rw[←hA,←hE];show Calls _ _ _ _ fun r w'=>r=.returned (.agg #[.int .u32 A,.int .u32 a,.int .u32 b,.int .u32 c,.int .u32 E,.int .u32 e,.int .u32 f,.int .u32 g])∧Below w.heap.size w w'
 have HA:Hid (A=((h+bs1 e+ch e f g+x)%4294967296+(bs0 a+mj a b c)%4294967296)%4294967296):=zh hA;have HE:Hid (E=(d+(h+bs1 e+ch e f g+x)%4294967296)%4294967296):=zh hE;clear hA hE;unfold bs1 bs0 ch mj at HA;unfold bs1 ch at HE;have x0:=inv32 e he;have x1:=and32 e f he hf;have x3:=and32 (4294967295-e) g (by omega) hg;have x4:=xor32 (e &&& f) ((4294967295-e) &&& g) (and_lt he) (and_lt (by omega));have y1:=and32 a b ha hb;have y2:=and32 a c ha hc;have y3:=and32 b c hb hc;have y4:=xor32 (a &&& b) (a &&& c) (and_lt ha) (and_lt ha);have y5:=xor32 ((a &&& b) ^^^ (a &&& c)) (b &&& c) (xor_lt (and_lt ha) (and_lt ha)) (and_lt hb);go_enter Tryz.func167,Tryz.ntmps167;go_wp2;go_quiet (fail)
 go_wp2_with fail
 refine (CR3.out _ _ (by simp[go_sem]) (by simp[go_sem]) (by simp[go_sem])).mono ?_;rintro e1 w1 ⟨rfl,rfl⟩;go_wp2_with fail
 refine (CR2.out _ _ (by simp[go_sem]) (by simp[go_sem]) (by simp[go_sem])).mono ?_;rintro e1 w1 ⟨rfl,rfl⟩;go_wp2_with fail
 refine bodyPost_ret (v:=.agg #[.int .u32 A,.int .u32 a,.int .u32 b,.int .u32 c,.int .u32 E,.int .u32 e,.int .u32 f,.int .u32 g]) ?_ rfl ⟨rfl,?_⟩
 ·simp[results,Tryz.results167,go_sem]
  have h1:=HA.out;have h2:=HE.out;omega
 ·with_reducible refine Below.alloc ?_ (by simp;omega) _
  with_reducible refine Below.alloc ?_ (by simp;omega) _
  iterate 8 (with_reducible refine Below.setCell ?_ (Nat.le_succ _) _)
  with_reducible refine below_drewN ?_ _
  with_reducible refine Below.alloc ?_ (by simp) _
  with_reducible exact Below.alloc (Below.refl _ _) zle _
end Go.Proofs.YtagbkmoahflfdaaGreatDoor.Dg
