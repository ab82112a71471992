import Derived.Test.YtagbkmoahflfdaaGreatDoorJp01
import Derived.Test.YtagbkmoahflfdaaGreatDoorRows
import Derived.WalkKit
import Derived.WalkSpells
import Derived.WalkLawsBesides
import Derived.Lib.Hide
import Derived.Laws.BytesArg
import Derived.Laws.IdiomStrings
import Derived.Laws.Bits64
set_option maxHeartbeats 1000000
set_option maxRecDepth 20000
set_option linter.unusedVariables false
namespace Go.Proofs.YtagbkmoahflfdaaGreatDoor.Vm
open Tk Go.RowKit
def pw (n:Int):Int:=((2^n.toNat:Nat):Int)
theorem pw_succ(k:Nat):pw ((k:Int)+1)=pw k*2:=by
 unfold pw;rw[show ((k:Int)+1).toNat=k+1 from by omega,Int.toNat_natCast,Nat.pow_succ];push_cast;rfl
theorem pw_le(k:Nat)(h:k≤62):1≤pw k∧pw k≤4611686018427387904:=by
 unfold pw;have:2^k≤2^62:=Nat.pow_le_pow_right (by omega) h;have h1:1≤2^k:=Nat.one_le_two_pow;rw[Int.toNat_natCast];omega
theorem power_any(n:Int)(w:World)(h0:0≤n)(h1:n≤63) :
 Calls Tryz.prog 117 #[.int .i64 n] w fun e w'=>e=.returned (.int .u64 (pw n))∧w=w':=by
 obtain⟨m,rfl⟩:=Int.eq_ofNat_of_zero_le h0;go_enter Tryz.func117,Tryz.ntmps117;go_wp2
 go_loop [3,4] (fun x i=>∃k:Nat,k≤m∧i=.int .i64 k∧x=.int .u64 (pw k)) (fun _ i=>m-(intOf i).toNat)
 case atStart=>exact⟨0,Nat.zero_le _,rfl,rfl⟩
 case round=>
  obtain⟨k,hk,rfl,rfl⟩:=hrel;by_cases hlt:k<m
  ·have hp:=pw_le k (by omega)
   have HS:=zh (pw_succ k);go_wp2
   go_round
   case rel=>exact⟨k+1,by omega,by go_num,by rw[show ((k+1:Nat):Int)=(k:Int)+1 from by omega,HS.out]⟩
   case measure=>simp[intOf];omega
  ·obtain rfl:k=m:=by omega
   go_wp2
   go_ret
   exact⟨rfl,rfl⟩
theorem room_any(n:Int)(w:World)(h0:0≤n)(h1:n≤8) :
 Calls Tryz.prog 171 #[.int .i64 n] w fun e w'=>e=.returned (.int .i64 (8*n-2))∧w=w':=by
 go_enter Tryz.func171,Tryz.ntmps171;go_wp2
 go_ret
 exact⟨rfl,rfl⟩
def Tab (w:World):Prop:=w.cell? ⟨0,0,none⟩=some (.int .i64 1)∧w.cell? ⟨0,1,none⟩=some (.int .i64 2) ∧
 w.cell? ⟨0,2,none⟩=some (.int .i64 4)∧w.cell? ⟨0,3,none⟩=some (.int .i64 8)
theorem i0(w:World):(Instr.index 215 (.agg #[.int .i64 1,.int .i64 2,.int .i64 4,.int .i64 8]) (.int .i64 0)).run Tryz.prog w=.ok (.int .i64 1) w:=by kernel_rfl
theorem i1(w:World):(Instr.index 215 (.agg #[.int .i64 1,.int .i64 2,.int .i64 4,.int .i64 8]) (.int .i64 1)).run Tryz.prog w=.ok (.int .i64 2) w:=by kernel_rfl
theorem i2(w:World):(Instr.index 215 (.agg #[.int .i64 1,.int .i64 2,.int .i64 4,.int .i64 8]) (.int .i64 2)).run Tryz.prog w=.ok (.int .i64 4) w:=by kernel_rfl
theorem i3(w:World):(Instr.index 215 (.agg #[.int .i64 1,.int .i64 2,.int .i64 4,.int .i64 8]) (.int .i64 3)).run Tryz.prog w=.ok (.int .i64 8) w:=by kernel_rfl
theorem shortest_0(m:Nat)(w:World)(hh:m<64)(ht:Tab w) :
 Calls Tryz.prog 170 #[.int .u64 m] w fun e w'=>e=.returned (.tuple #[.int .i64 0,.bool true])∧w=w':=by
 obtain⟨t0,t1,t2,t3⟩:=ht;have i0:=i0;have i1:=i1;have i2:=i2;have i3:=i3;have q0:((m:Int)/64==0)=true:=by rw[beq_iff_eq];omega
 go_enter Tryz.func170,Tryz.ntmps170;go_wp2;refine wp_loop_rounds 5 ?_;rw[rounds_succ];go_wp2_with (go_at_call 171;refine (room_any _ _ (by omega) (by omega)).mono ?_;rintro e w' ⟨rfl,rfl⟩)
 go_ret2
 exact⟨rfl,rfl⟩
theorem shortest_1(m:Nat)(w:World)(hl:64≤m)(hh:m<16384)(ht:Tab w) :
 Calls Tryz.prog 170 #[.int .u64 m] w fun e w'=>e=.returned (.tuple #[.int .i64 1,.bool true])∧w=w':=by
 obtain⟨t0,t1,t2,t3⟩:=ht;have i0:=i0;have i1:=i1;have i2:=i2;have i3:=i3;have q0:((m:Int)/64==0)=false:=by rw[beq_eq_false_iff_ne];omega
 have q1:((m:Int)/16384==0)=true:=by rw[beq_iff_eq];omega
 go_enter Tryz.func170,Tryz.ntmps170;go_wp2;refine wp_loop_rounds 5 ?_;rw[rounds_succ];go_wp2_with (go_at_call 171;refine (room_any _ _ (by omega) (by omega)).mono ?_;rintro e w' ⟨rfl,rfl⟩)
 rw[rounds_succ];go_wp2_with (go_at_call 171;refine (room_any _ _ (by omega) (by omega)).mono ?_;rintro e w' ⟨rfl,rfl⟩)
 go_ret2
 exact⟨rfl,rfl⟩
theorem shortest_2(m:Nat)(w:World)(hl:16384≤m)(hh:m<1073741824)(ht:Tab w) :
 Calls Tryz.prog 170 #[.int .u64 m] w fun e w'=>e=.returned (.tuple #[.int .i64 2,.bool true])∧w=w':=by
 obtain⟨t0,t1,t2,t3⟩:=ht;have i0:=i0;have i1:=i1;have i2:=i2;have i3:=i3;have q0:((m:Int)/64==0)=false:=by rw[beq_eq_false_iff_ne];omega
 have q1:((m:Int)/16384==0)=false:=by rw[beq_eq_false_iff_ne];omega
 have q2:((m:Int)/1073741824==0)=true:=by rw[beq_iff_eq];omega
 go_enter Tryz.func170,Tryz.ntmps170;go_wp2;refine wp_loop_rounds 5 ?_;rw[rounds_succ];go_wp2_with (go_at_call 171;refine (room_any _ _ (by omega) (by omega)).mono ?_;rintro e w' ⟨rfl,rfl⟩)
 rw[rounds_succ];go_wp2_with (go_at_call 171;refine (room_any _ _ (by omega) (by omega)).mono ?_;rintro e w' ⟨rfl,rfl⟩)
 rw[rounds_succ];go_wp2_with (go_at_call 171;refine (room_any _ _ (by omega) (by omega)).mono ?_;rintro e w' ⟨rfl,rfl⟩)
 go_ret2
 exact⟨rfl,rfl⟩
theorem shortest_3(m:Nat)(w:World)(hl:1073741824≤m)(hh:m<4611686018427387904)(ht:Tab w) :
 Calls Tryz.prog 170 #[.int .u64 m] w fun e w'=>e=.returned (.tuple #[.int .i64 3,.bool true])∧w=w':=by
 obtain⟨t0,t1,t2,t3⟩:=ht;have i0:=i0;have i1:=i1;have i2:=i2;have i3:=i3;have q0:((m:Int)/64==0)=false:=by rw[beq_eq_false_iff_ne];omega
 have q1:((m:Int)/16384==0)=false:=by rw[beq_eq_false_iff_ne];omega
 have q2:((m:Int)/1073741824==0)=false:=by rw[beq_eq_false_iff_ne];omega
 have q3:((m:Int)/4611686018427387904==0)=true:=by rw[beq_iff_eq];omega
 go_enter Tryz.func170,Tryz.ntmps170;go_wp2;refine wp_loop_rounds 5 ?_;rw[rounds_succ];go_wp2_with (go_at_call 171;refine (room_any _ _ (by omega) (by omega)).mono ?_;rintro e w' ⟨rfl,rfl⟩)
 rw[rounds_succ];go_wp2_with (go_at_call 171;refine (room_any _ _ (by omega) (by omega)).mono ?_;rintro e w' ⟨rfl,rfl⟩)
 rw[rounds_succ];go_wp2_with (go_at_call 171;refine (room_any _ _ (by omega) (by omega)).mono ?_;rintro e w' ⟨rfl,rfl⟩)
 rw[rounds_succ];go_wp2_with (go_at_call 171;refine (room_any _ _ (by omega) (by omega)).mono ?_;rintro e w' ⟨rfl,rfl⟩)
 go_ret2
 exact⟨rfl,rfl⟩
theorem shortest_4(m:Nat)(w:World)(hl:4611686018427387904≤m)(ht:Tab w) :
 Calls Tryz.prog 170 #[.int .u64 m] w fun e w'=>e=.returned (.tuple #[.int .i64 0,.bool false])∧w=w':=by
 obtain⟨t0,t1,t2,t3⟩:=ht;have i0:=i0;have i1:=i1;have i2:=i2;have i3:=i3;have q0:((m:Int)/64==0)=false:=by rw[beq_eq_false_iff_ne];omega
 have q1:((m:Int)/16384==0)=false:=by rw[beq_eq_false_iff_ne];omega
 have q2:((m:Int)/1073741824==0)=false:=by rw[beq_eq_false_iff_ne];omega
 have q3:((m:Int)/4611686018427387904==0)=false:=by rw[beq_eq_false_iff_ne];omega
 go_enter Tryz.func170,Tryz.ntmps170;go_wp2;refine wp_loop_rounds 5 ?_;rw[rounds_succ];go_wp2_with (go_at_call 171;refine (room_any _ _ (by omega) (by omega)).mono ?_;rintro e w' ⟨rfl,rfl⟩)
 rw[rounds_succ];go_wp2_with (go_at_call 171;refine (room_any _ _ (by omega) (by omega)).mono ?_;rintro e w' ⟨rfl,rfl⟩)
 rw[rounds_succ];go_wp2_with (go_at_call 171;refine (room_any _ _ (by omega) (by omega)).mono ?_;rintro e w' ⟨rfl,rfl⟩)
 rw[rounds_succ];go_wp2_with (go_at_call 171;refine (room_any _ _ (by omega) (by omega)).mono ?_;rintro e w' ⟨rfl,rfl⟩)
 rw[rounds_succ];go_wp2_with (go_at_call 171;refine (room_any _ _ (by omega) (by omega)).mono ?_;rintro e w' ⟨rfl,rfl⟩)
 go_ret2
 exact⟨rfl,rfl⟩
theorem conv8(w:World)(c0 c1 c2 c3 c4 c5 c6 c7:Int)(j len:Nat)(hl:len+j=8) :
 (convert 66 9 (.slice (some ⟨w.heap.size,j,none⟩) len len)).run Tryz.prog (w.alloc (.cells #[.int .u8 c0,.int .u8 c1,.int .u8 c2,.int .u8 c3,.int .u8 c4,.int .u8 c5,.int .u8 c6,.int .u8 c7] 165)) =
  .ok (.string (strOfNums ([c0,c1,c2,c3,c4,c5,c6,c7].drop j))) (w.alloc (.cells #[.int .u8 c0,.int .u8 c1,.int .u8 c2,.int .u8 c3,.int .u8 c4,.int .u8 c5,.int .u8 c6,.int .u8 c7] 165)):=by
 refine run_convert_bytes_arg (P:=Tryz.prog) _ 66 5 Tryz.underlying66 Tryz.underlying5 w.heap.size j len len ([c0,c1,c2,c3,c4,c5,c6,c7].drop j) (by simp;omega) ?_ 9 Tryz.underlying9;intro i hi;have:j+i<8:=by omega
 have e:(List.drop j [c0,c1,c2,c3,c4,c5,c6,c7]).getD i 0=[c0,c1,c2,c3,c4,c5,c6,c7].getD (j+i) 0:=by
  simp[List.getD,List.getElem?_drop]
 rw[e];generalize j+i=q at *
 match q,this with
 | 0,_|1,_|2,_|3,_|4,_|5,_|6,_|7,_=>simp
theorem byte_eq(n a:Nat)(x:Int)(h:x.toNat%256=n/a%256):UInt8.ofNat x.toNat=UInt8.ofNat (n/a%256):=by
 apply UInt8.toNat_inj.1;rw[UInt8.toNat_ofNat',UInt8.toNat_ofNat'];omega
theorem fx8(n:Nat)(hn:(n:Int)≤18446744073709551615)(j k:Nat)(h:k+j=8):strOfNums ([(n:Int)/72057594037927936,(n:Int)/281474976710656%256,(n:Int)/1099511627776%256,(n:Int)/4294967296%256,(n:Int)/16777216%256,(n:Int)/65536%256,(n:Int)/256%256,(n:Int)%256].drop j)=⟨(fx n k).toArray⟩:=by
 have e:strOfNums ([(n:Int)/72057594037927936,(n:Int)/281474976710656%256,(n:Int)/1099511627776%256,(n:Int)/4294967296%256,(n:Int)/16777216%256,(n:Int)/65536%256,(n:Int)/256%256,(n:Int)%256].drop j)=⟨((fx n 8).drop j).toArray⟩:=by
  unfold strOfNums;rw[List.map_drop]
  have:List.map (fun n:Int=>UInt8.ofNat n.toNat) [(n:Int)/72057594037927936,(n:Int)/281474976710656%256,(n:Int)/1099511627776%256,(n:Int)/4294967296%256,(n:Int)/16777216%256,(n:Int)/65536%256,(n:Int)/256%256,(n:Int)%256]=fx n 8:=by
   simp only[List.map_cons,List.map_nil,fx];rw[byte_eq n (256^7) _ (by omega),byte_eq n (256^6) _ (by omega),byte_eq n (256^5) _ (by omega),byte_eq n (256^4) _ (by omega),byte_eq n (256^3) _ (by omega),byte_eq n (256^2) _ (by omega),byte_eq n (256^1) _ (by omega),byte_eq n (256^0) _ (by omega)]
  rw[this]
 rw[e]
 have:∀j k,k+j=8→(fx n 8).drop j=fx n k:=by
  intro j k h
  match j,k,h with
  | 0,8,_|1,7,_|2,6,_|3,5,_|4,4,_|5,3,_|6,2,_|7,1,_|8,0,_=>rfl
 rw[this j k h]
theorem slice8(k b:Nat)(W:World)(h1:1≤k)(h8:k≤8) :
 (Instr.sliceAt 165 (.pointer (some ⟨b,0,none⟩)) (some (.int .i64 (8-(k:Int)))) none none).run Tryz.prog W=.ok (.slice (some ⟨b,8-k,none⟩) k k) W:=by
 have:k=1∨k=2∨k=3∨k=4∨k=5∨k=6∨k=7∨k=8:=by omega
 rcases this with rfl|rfl|rfl|rfl|rfl|rfl|rfl|rfl
 all_goals (show _=_;kernel_rfl)
set_option maxRecDepth 100000 in
theorem vfixed(n k:Nat)(w:World)(hn:(n:Int)≤18446744073709551615)(h1:1≤k)(hk:k≤8) :
 Calls Tryz.prog 88 #[.int .u64 n,.int .i64 k] w fun e w'=>e=.returned (.string ⟨(fx n k).toArray⟩)∧Below w.heap.size w w':=by
 have hs:=fun W=>slice8 k w.heap.size W h1 hk
 have hc:=zh (conv8 w (n/72057594037927936) (n/281474976710656%256) (n/1099511627776%256) (n/4294967296%256) (n/16777216%256) (n/65536%256) (n/256%256) (n%256) (8-k) k (by omega));rw[fx8 n hn (8-k) k (by omega)]at hc;go_enter Tryz.func88,Tryz.ntmps88;go_wp2;refine wp_loop_rounds 9 ?_
 iterate 9 (rw[rounds_succ];go_wp2)
 rw[hc.out];go_wp2
 go_ret
 exact⟨rfl,(Below.refl _ _).alloc zle _⟩
theorem conv_owned{wr:World}{B:Nat}{v:Value}(l:List UInt8)(h:wr.ownsRow B 5 1 v l.length (l.map fun b=>.int .u8 (b.toNat:Int))) :
 (convert 66 9 v).run Tryz.prog wr=.ok (.string ⟨l.toArray⟩) wr:=by
 have h0:=h;obtain⟨hlen,⟨rfl,hn⟩|⟨g,cap,cur,rfl,hb,hg,hnc,hcm,hcs,ht⟩⟩:=h
 ·have:l=[]:=List.eq_nil_of_length_eq_zero hn
  subst this;rw[run_convert_bytes_nil (P:=Tryz.prog) wr 66 5 Tryz.underlying66 Tryz.underlying5 0 0 9 Tryz.underlying9];rfl
 ·refine run_convert_bytes_back (P:=Tryz.prog) wr 66 9 5 _ cap l Tryz.underlying66 Tryz.underlying5 Tryz.underlying9 ?_
  intro j hj;have:=h0.cellAt j (by omega)
  have e:(⟨g,0,none⟩:Addr).add j=⟨g,j,none⟩:=by unfold Addr.add;split<;>simp_all
  rw[e,this];simp[List.getElem?_eq_getElem hj]
theorem fx_get(n k j:Nat)(h:j<k):(fx n k).take (j+1)=(fx n k).take j++[UInt8.ofNat (n/256^(k-1-j)%256)]:=by
 have hl:j<(fx n k).length:=by rw[fx_length];exact h
 rw[List.take_succ_eq_append_getElem hl]
 congr 2
 induction k generalizing j with
 | zero=>omega
 | succ k ih=>
  cases j with
  | zero=>simp[fx]
  | succ j=>
   simp only[fx,List.getElem_cons_succ];rw[ih j (by omega) (by rw[fx_length];omega)];rw[show k-1-j=k+1-1-(j+1) from by omega]
theorem pw256(m:Nat):pw (8*(m:Int))=((256^m:Nat):Int):=by
 unfold pw;rw[show (8*(m:Int)).toNat=8*m from by omega,Nat.pow_mul]
theorem p256_le(m:Nat)(h:m≤7):1≤256^m∧256^m≤256^7:=⟨Nat.one_le_pow _ _ (by omega),Nat.pow_le_pow_right (by omega) h⟩
theorem info5:(Tryz.prog.info? 5).map (fun i=>(i.zero,i.size,i.bytes))=some (some (.int .u8 0),1,1):=by kernel_rfl
def OwnRel (n k B:Nat) (w:World) (v i:Value) (wr:World):Prop:=
 ∃ j:Nat,j≤k∧i=.int .i64 ((k:Int)-1-j)∧wr.ownsRow B 5 1 v j (((fx n k).take j).map fun b=>.int .u8 (b.toNat:Int))∧Below B w wr
theorem own_step{n k B j:Nat}{w1 w:World}{v':Value}{x:Int}(hj:j<k)(hx:x=((n/256^(k-1-j)%256:Nat):Int))
 (h:w1.ownsRow B 5 1 v' (j+1) (((fx n k).map (fun b=>Value.int .u8 (b.toNat:Int))).take j++[.int .u8 x]))(hb:Below B w w1) :
 OwnRel n k B w v' (.int .i64 ((k:Int)-1-j-1)) w1:=by
 refine⟨j+1,by omega,by congr 1;omega,?_,hb⟩;rw[fx_get n k j hj];have e:((UInt8.ofNat (n/256^(k-1-j)%256)).toNat:Int)=x:=by rw[hx,UInt8.toNat_ofNat'];omega
 rw[List.map_append,List.map_cons,List.map_nil,e,List.map_take];exact h
theorem rfixed(n k:Nat)(w:World)(hn:(n:Int)≤18446744073709551615)(h1:1≤k)(hk:k≤8) :
 Calls Tryz.prog 81 #[.int .u64 n,.int .i64 k] w fun e w'=>e=.returned (.string ⟨(fx n k).toArray⟩)∧Below w.heap.size w w':=by
 obtain⟨i0,hi,hz0,hz1,hz2⟩:=info_parts info5;have hz1:=zh hz1;have hz2:=zh hz2;have hz0:=zh hz0;have hi:=zh hi;go_enter Tryz.func81,Tryz.ntmps81;go_wp2
 go_loopw [5,6] (fun v i wr=>OwnRel n k w.heap.size w v i wr) (fun _ i _=>(intOf i+1).toNat)
 case atStart=>exact⟨0,Nat.zero_le _,by congr 1;omega,World.ownsRow_made w #[] 0 zle (by unfold maxLen;omega) rfl,(Below.refl _ _).alloc zle _⟩
 case round=>
  obtain⟨j,hj,rfl,hown,hb⟩:=hrel;by_cases hlt:j<k
  ·have hx:=p256_le (k-1-j) (by omega)
   have HP:=zh (pw256 (k-1-j));go_wp2_with fail
   refine (power_any _ _ (by omega) (by omega)).mono ?_;rintro e w' ⟨rfl,rfl⟩;rw[show (8:Int)*((k:Int)-1-j)=8*((k-1-j:Nat):Int) from by omega,HP.out]
   have HX:Hid ((n:Int)/((256^(k-1-j):Nat):Int)%256=((n/256^(k-1-j)%256:Nat):Int)):=by
    show (n:Int)/((256^(k-1-j):Nat):Int)%256=((n/256^(k-1-j)%256:Nat):Int);rw[Int.natCast_emod,Int.natCast_ediv];rfl
   have hP1:(1:Int)≤((256^(k-1-j):Nat):Int):=by have:=hx.1;omega
   have hx2:0≤(n:Int)/((256^(k-1-j):Nat):Int)∧(n:Int)/((256^(k-1-j):Nat):Int)≤n:=⟨Int.ediv_nonneg (by omega) (by omega),Int.ediv_le_self _ (by omega)⟩;clear hx HP;generalize ((256^(k-1-j):Nat):Int)=P at *;obtain⟨hq1,hq2⟩:=hx2;go_wp2_with (at_builtin;refine wpList_append_own _ rfl _ _ 66 rfl w.heap.size 5 i0 (.int .u8 0) 1 1 Tryz.underlying66 hi.out hz0.out hz1.out hz2.out rfl (by decide) _ _ _ rfl (hown.alloc _) ⟨wr.heap.size,0,none⟩ 1 1 [.int .u8 ((n:Int)/P%256)] rfl rfl ?c1 ?c2 ?c3 ?c4 ?c5 ?_)
   case c1=>
    intro j u hj
    match j,hj with
    | 0,hj=>simp at hj;subst hj;simp[Addr.add]
   case c2=>intro u hu;simp at hu;subst hu;rfl
   case c3=>unfold maxLen;omega
   case c4=>omega
   case c5=>have:=hb.size;simp;omega
   intro v' w1 hown' hgrow _
   have hb1:Below w.heap.size w w1:=by
    refine (hb.alloc (by have:=hb.size;omega) _).grown hgrow (by have:=hb.size;simp;omega) ?_;intro q hq;exact (hown.lt q hq).1
   go_wp2
   go_roundw
   case rel=>exact own_step hlt HX.out hown' hb1
   case measure=>simp[intOf];omega
  ·obtain rfl:j=k:=by omega
   rw[List.take_of_length_le (by rw[fx_length];exact Nat.le_refl _)]at hown;have HC:=zh (conv_owned (fx n j) (by rw[fx_length];exact hown));go_wp2;rw[HC.out];go_wp2
   go_ret
   exact⟨rfl,hb⟩
theorem bk_take_succ(s:ByteArray)(k:Nat)(h:k<s.size):bk (s.data.toList.take (k+1))=bk (s.data.toList.take k)*256+s[k].toNat:=by
 rw[List.take_succ_eq_append_getElem (by simpa using h),bk_snoc];rfl
theorem bk_take_lt(s:ByteArray)(k:Nat)(h:k≤7):bk (s.data.toList.take k)<256^7:=
 Nat.lt_of_lt_of_le (bk_lt _) (Nat.pow_le_pow_right (by omega) (by have:=List.length_take_le k s.data.toList;omega))
theorem bits_or_u64_nat(a b:Nat)(ha:a<2^64)(hb:b<2^64):bits .or .u64 (a:Int) (b:Int)=((a ||| b:Nat):Int):=by
 have hx:a ||| b<2^64:=Nat.or_lt_two_pow ha hb
 have h1:(BitVec.ofInt 64 (a:Int)).toNat=a:=by
  rw[BitVec.ofInt_natCast,BitVec.toNat_ofNat];exact Nat.mod_eq_of_lt ha
 have h2:(BitVec.ofInt 64 (b:Int)).toNat=b:=by
  rw[BitVec.ofInt_natCast,BitVec.toNat_ofNat];exact Nat.mod_eq_of_lt hb
 show IntKind.u64.wrap ((BitVec.ofInt 64 (a:Int) ||| BitVec.ofInt 64 (b:Int)).toNat:Int)=_;rw[BitVec.toNat_or,h1,h2,IntKind.wrap_u64];omega
theorem bits_and_u64_nat(a b:Nat)(ha:a<2^64)(hb:b<2^64):bits .and .u64 (a:Int) (b:Int)=((a &&& b:Nat):Int):=by
 have hx:a &&& b<2^64:=Nat.and_lt_two_pow _ hb
 have h1:(BitVec.ofInt 64 (a:Int)).toNat=a:=by
  rw[BitVec.ofInt_natCast,BitVec.toNat_ofNat];exact Nat.mod_eq_of_lt ha
 have h2:(BitVec.ofInt 64 (b:Int)).toNat=b:=by
  rw[BitVec.ofInt_natCast,BitVec.toNat_ofNat];exact Nat.mod_eq_of_lt hb
 show IntKind.u64.wrap ((BitVec.ofInt 64 (a:Int) &&& BitVec.ofInt 64 (b:Int)).toNat:Int)=_;rw[BitVec.toNat_and,h1,h2,IntKind.wrap_u64];omega
theorem or_sum(i a b:Nat)(hb:b<2^i)(h:a*2^i<2^64)(h64:2^i≤2^64):bits .or .u64 ((a*2^i:Nat):Int) (b:Int)=((a*2^i+b:Nat):Int):=by
 rw[bits_or_u64_nat _ _ h (Nat.lt_of_lt_of_le hb h64)];have:=Nat.shiftLeft_add_eq_or_of_lt hb a;rw[Nat.shiftLeft_eq]at this;rw[this]
theorem or_byte(a b:Nat)(ha:a<256^7)(hb:b<256):bits .or .u64 ((a:Int)*256) (b:Int)=((a*256+b:Nat):Int):=by
 have h:=or_sum 8 a b hb (by omega) (by decide);have e:((a*2^8:Nat):Int)=(a:Int)*256:=by omega
 rw[e]at h;exact h
theorem and_mod(i a:Nat)(ha:a<2^64)(hi:i≤63):bits .and .u64 (a:Int) ((2^i-1:Nat):Int)=((a%2^i:Nat):Int):=by
 have h1:2^i≤2^63:=Nat.pow_le_pow_right (by omega) hi;rw[bits_and_u64_nat _ _ ha (by omega),Nat.and_two_pow_sub_one_eq_mod]
theorem rback(s:ByteArray)(w:World)(hs:s.size≤8) :
 Calls Tryz.prog 104 #[.string s] w fun e w'=>e=.returned (.int .u64 (bk s.data.toList:Nat))∧w=w':=by
 go_enter Tryz.func104,Tryz.ntmps104;go_wp2
 go_loop [3,4] (fun n i=>∃k:Nat,k≤s.size∧i=.int .i64 k∧n=.int .u64 (bk (s.data.toList.take k):Nat)) (fun _ i=>s.size-(intOf i).toNat)
 case atStart=>exact⟨0,Nat.zero_le _,rfl,rfl⟩
 case round=>
  obtain⟨k,hk,rfl,rfl⟩:=hrel;by_cases hlt:k<s.size
  ·have hb:=bk_take_lt s k (by omega)
   have HS:=zh (bk_take_succ s k hlt);have hc:=s[k].toNat_lt;go_wp2
   go_round
   case rel=>exact⟨k+1,by omega,by go_num,by rw[HS.out];go_num⟩
   case measure=>simp[intOf];omega
  ·go_wp2
   go_ret
   exact⟨by rw[List.take_of_length_le (by simp;omega)];rfl,rfl⟩
theorem vback_8(s:ByteArray)(w:World)(hs:s.size=8) :
 Calls Tryz.prog 172 #[.string s] w fun e w'=>e=.returned (.int .u64 (bk s.data.toList:Nat))∧w=w':=by
 have hs1:s.size≤8:=by omega
 have HS8:=zh hs;have hs2:8≤s.size:=by omega
 clear hs;go_enter Tryz.func172,Tryz.ntmps172;go_wp2
 go_loop [3,4] (fun n i=>∃k:Nat,k≤s.size∧i=.int .i64 k∧n=.int .u64 (bk (s.data.toList.take k):Nat)) (fun _ i=>s.size-(intOf i).toNat)
 case atStart=>exact⟨0,Nat.zero_le _,by rw[HS8.out];rfl,rfl⟩
 case round=>
  obtain⟨k,hk,rfl,rfl⟩:=hrel;by_cases hlt:k<s.size
  ·have hb:=bk_take_lt s k (by omega)
   have HS:=zh (bk_take_succ s k hlt);have hc:=s[k].toNat_lt;have HO:=zh (or_byte (bk (s.data.toList.take k)) s[k].toNat hb hc);go_wp2
   go_round
   case rel=>exact⟨k+1,by omega,by go_num,by rw[HS.out,←HO.out]⟩
   case measure=>simp[intOf];omega
  ·go_wp2
   go_ret
   exact⟨by rw[List.take_of_length_le (by simp;omega)];rfl,rfl⟩
theorem vback_7(s:ByteArray)(w:World)(hs:s.size≤7) :
 Calls Tryz.prog 172 #[.string s] w fun e w'=>e=.returned (.int .u64 (bk s.data.toList:Nat))∧w=w':=by
 have hs1:s.size≤8:=by omega
 go_enter Tryz.func172,Tryz.ntmps172;go_wp2
 go_loop [3,4] (fun n i=>∃k:Nat,k≤s.size∧i=.int .i64 k∧n=.int .u64 (bk (s.data.toList.take k):Nat)) (fun _ i=>s.size-(intOf i).toNat)
 case atStart=>exact⟨0,Nat.zero_le _,rfl,rfl⟩
 case round=>
  obtain⟨k,hk,rfl,rfl⟩:=hrel;by_cases hlt:k<s.size
  ·have hb:=bk_take_lt s k (by omega)
   have HS:=zh (bk_take_succ s k hlt);have hc:=s[k].toNat_lt;have HO:=zh (or_byte (bk (s.data.toList.take k)) s[k].toNat hb hc);go_wp2
   go_round
   case rel=>exact⟨k+1,by omega,by go_num,by rw[HS.out,←HO.out]⟩
   case measure=>simp[intOf];omega
  ·go_wp2
   go_ret
   exact⟨by rw[List.take_of_length_le (by simp;omega)];rfl,rfl⟩
theorem vback(s:ByteArray)(w:World)(hs:s.size≤8) :
 Calls Tryz.prog 172 #[.string s] w fun e w'=>e=.returned (.int .u64 (bk s.data.toList:Nat))∧w=w':=by
 by_cases h:s.size=8
 ·exact vback_8 s w h
 ·exact vback_7 s w (by omega)
theorem power_6(w:World):Calls Tryz.prog 117 #[.int .i64 6] w fun e w'=>e=.returned (.int .u64 64)∧w=w':=
 (power_any 6 w (by omega) (by omega)).mono fun e w' h=>by rw[show pw 6=64 from by decide]at h;exact h
theorem power_14(w:World):Calls Tryz.prog 117 #[.int .i64 14] w fun e w'=>e=.returned (.int .u64 16384)∧w=w':=
 (power_any 14 w (by omega) (by omega)).mono fun e w' h=>by rw[show pw 14=16384 from by decide]at h;exact h
theorem power_30(w:World):Calls Tryz.prog 117 #[.int .i64 30] w fun e w'=>e=.returned (.int .u64 1073741824)∧w=w':=
 (power_any 30 w (by omega) (by omega)).mono fun e w' h=>by rw[show pw 30=1073741824 from by decide]at h;exact h
theorem power_62(w:World):Calls Tryz.prog 117 #[.int .i64 62] w fun e w'=>e=.returned (.int .u64 4611686018427387904)∧w=w':=
 (power_any 62 w (by omega) (by omega)).mono fun e w' h=>by rw[show pw 62=4611686018427387904 from by decide]at h;exact h
theorem vfixed'(n k:Int)(w:World)(h0:0≤n)(hn:n≤18446744073709551615)(h1:1≤k)(hk:k≤8) :
 Calls Tryz.prog 88 #[.int .u64 n,.int .i64 k] w fun e w'=>e=.returned (.string ⟨(fx n.toNat k.toNat).toArray⟩)∧Below w.heap.size w w':=by
 obtain⟨n,rfl⟩:=Int.eq_ofNat_of_zero_le h0;obtain⟨k,rfl⟩:=Int.eq_ofNat_of_zero_le (show 0≤k by omega);exact vfixed n k w hn (by omega) (by omega)
theorem rfixed'(n k:Int)(w:World)(h0:0≤n)(hn:n≤18446744073709551615)(h1:1≤k)(hk:k≤8) :
 Calls Tryz.prog 81 #[.int .u64 n,.int .i64 k] w fun e w'=>e=.returned (.string ⟨(fx n.toNat k.toNat).toArray⟩)∧Below w.heap.size w w':=by
 obtain⟨n,rfl⟩:=Int.eq_ofNat_of_zero_le h0;obtain⟨k,rfl⟩:=Int.eq_ofNat_of_zero_le (show 0≤k by omega);exact rfixed n k w hn (by omega) (by omega)
theorem pt_0(n:Nat)(hh:n<64):fx n 1=pt n:=by
 have hp:pl n=0:=by have:=pl_cases n;omega
 unfold pt;rw[hp,show 0*2^(8*wd 0-2)=0 from by decide,show wd 0=1 from rfl,Nat.zero_add]
theorem or_0(n:Nat)(hh:n<64):bits .or .u64 0 (n:Int)=((0+n:Nat):Int):=by
 have h:=or_sum 6 0 n (by omega) (by omega) (by omega);exact h
theorem vput_0(n:Int)(w:World)(ht:Tab w)(hl:0≤n)(hh:n<64) :
 Calls Tryz.prog 149 #[.int .u64 n] w fun e w'=>e=.returned (.tuple #[.string ⟨(pt n.toNat).toArray⟩,.int .i64 0])∧Below w.heap.size w w':=by
 obtain⟨n,rfl⟩:=Int.eq_ofNat_of_zero_le (show 0≤n by omega);have ht':=zh ht;obtain⟨t0,t1,t2,t3⟩:=ht;have HO:=zh (or_0 n (by omega));go_enter Tryz.func149,Tryz.ntmps149;go_wp2_with fail
 refine (shortest_0 _ _ (by omega) ht'.out).mono ?_;rintro e w' ⟨rfl,rfl⟩;go_wp2_with fail
 refine (room_any _ _ (by omega) (by omega)).mono ?_;rintro e w' ⟨rfl,rfl⟩;go_wp2_with fail
 rw[HO.out];refine (vfixed' _ _ _ (by omega) (by omega) (by omega) (by omega)).mono ?_;rintro e w' ⟨rfl,hb⟩;go_wp2
 go_ret2
 refine⟨?_,hb⟩;rw[Int.toNat_natCast,←pt_0 n (by omega)];rfl
theorem pt_1(n:Nat)(hl:64≤n)(hh:n<16384):fx (16384+n) 2=pt n:=by
 have hp:pl n=1:=by have:=pl_cases n;omega
 unfold pt;rw[hp,show 1*2^(8*wd 1-2)=16384 from by decide,show wd 1=2 from rfl]
theorem or_1(n:Nat)(hh:n<16384):bits .or .u64 16384 (n:Int)=((16384+n:Nat):Int):=by
 have h:=or_sum 14 1 n (by omega) (by omega) (by omega);exact h
theorem vput_1(n:Int)(w:World)(ht:Tab w)(hl:64≤n)(hh:n<16384) :
 Calls Tryz.prog 149 #[.int .u64 n] w fun e w'=>e=.returned (.tuple #[.string ⟨(pt n.toNat).toArray⟩,.int .i64 0])∧Below w.heap.size w w':=by
 obtain⟨n,rfl⟩:=Int.eq_ofNat_of_zero_le (show 0≤n by omega);have ht':=zh ht;obtain⟨t0,t1,t2,t3⟩:=ht;have HO:=zh (or_1 n (by omega));go_enter Tryz.func149,Tryz.ntmps149;go_wp2_with fail
 refine (shortest_1 _ _ (by omega) (by omega) ht'.out).mono ?_;rintro e w' ⟨rfl,rfl⟩;go_wp2_with fail
 refine (room_any _ _ (by omega) (by omega)).mono ?_;rintro e w' ⟨rfl,rfl⟩;go_wp2_with fail
 rw[HO.out];refine (vfixed' _ _ _ (by omega) (by omega) (by omega) (by omega)).mono ?_;rintro e w' ⟨rfl,hb⟩;go_wp2
 go_ret2
 refine⟨?_,hb⟩;rw[Int.toNat_natCast,←pt_1 n (by omega) (by omega)];rfl
theorem pt_2(n:Nat)(hl:16384≤n)(hh:n<1073741824):fx (2147483648+n) 4=pt n:=by
 have hp:pl n=2:=by have:=pl_cases n;omega
 unfold pt;rw[hp,show 2*2^(8*wd 2-2)=2147483648 from by decide,show wd 2=4 from rfl]
theorem or_2(n:Nat)(hh:n<1073741824):bits .or .u64 2147483648 (n:Int)=((2147483648+n:Nat):Int):=by
 have h:=or_sum 30 2 n (by omega) (by omega) (by omega);exact h
theorem vput_2(n:Int)(w:World)(ht:Tab w)(hl:16384≤n)(hh:n<1073741824) :
 Calls Tryz.prog 149 #[.int .u64 n] w fun e w'=>e=.returned (.tuple #[.string ⟨(pt n.toNat).toArray⟩,.int .i64 0])∧Below w.heap.size w w':=by
 obtain⟨n,rfl⟩:=Int.eq_ofNat_of_zero_le (show 0≤n by omega);have ht':=zh ht;obtain⟨t0,t1,t2,t3⟩:=ht;have HO:=zh (or_2 n (by omega));go_enter Tryz.func149,Tryz.ntmps149;go_wp2_with fail
 refine (shortest_2 _ _ (by omega) (by omega) ht'.out).mono ?_;rintro e w' ⟨rfl,rfl⟩;go_wp2_with fail
 refine (room_any _ _ (by omega) (by omega)).mono ?_;rintro e w' ⟨rfl,rfl⟩;go_wp2_with fail
 rw[HO.out];refine (vfixed' _ _ _ (by omega) (by omega) (by omega) (by omega)).mono ?_;rintro e w' ⟨rfl,hb⟩;go_wp2
 go_ret2
 refine⟨?_,hb⟩;rw[Int.toNat_natCast,←pt_2 n (by omega) (by omega)];rfl
theorem pt_3(n:Nat)(hl:1073741824≤n)(hh:n<4611686018427387904):fx (13835058055282163712+n) 8=pt n:=by
 have hp:pl n=3:=by have:=pl_cases n;omega
 unfold pt;rw[hp,show 3*2^(8*wd 3-2)=13835058055282163712 from by decide,show wd 3=8 from rfl]
theorem or_3(n:Nat)(hh:n<4611686018427387904):bits .or .u64 13835058055282163712 (n:Int)=((13835058055282163712+n:Nat):Int):=by
 have h:=or_sum 62 3 n (by omega) (by omega) (by omega);exact h
theorem vput_3(n:Int)(w:World)(ht:Tab w)(hl:1073741824≤n)(hh:n<4611686018427387904) :
 Calls Tryz.prog 149 #[.int .u64 n] w fun e w'=>e=.returned (.tuple #[.string ⟨(pt n.toNat).toArray⟩,.int .i64 0])∧Below w.heap.size w w':=by
 obtain⟨n,rfl⟩:=Int.eq_ofNat_of_zero_le (show 0≤n by omega);have ht':=zh ht;obtain⟨t0,t1,t2,t3⟩:=ht;have HO:=zh (or_3 n (by omega));go_enter Tryz.func149,Tryz.ntmps149;go_wp2_with fail
 refine (shortest_3 _ _ (by omega) (by omega) ht'.out).mono ?_;rintro e w' ⟨rfl,rfl⟩;go_wp2_with fail
 refine (room_any _ _ (by omega) (by omega)).mono ?_;rintro e w' ⟨rfl,rfl⟩;go_wp2_with fail
 rw[HO.out];refine (vfixed' _ _ _ (by omega) (by omega) (by omega) (by omega)).mono ?_;rintro e w' ⟨rfl,hb⟩;go_wp2
 go_ret2
 refine⟨?_,hb⟩;rw[Int.toNat_natCast,←pt_3 n (by omega) (by omega)];rfl
theorem vput_4(n:Int)(w:World)(ht:Tab w)(hl:4611686018427387904≤n) :
 Calls Tryz.prog 149 #[.int .u64 n] w fun e w'=>e=.returned (.tuple #[.string ⟨#[]⟩,.int .i64 1])∧Below w.heap.size w w':=by
 obtain⟨n,rfl⟩:=Int.eq_ofNat_of_zero_le (show 0≤n by omega);have ht':=zh ht;obtain⟨t0,t1,t2,t3⟩:=ht;go_enter Tryz.func149,Tryz.ntmps149;go_wp2_with fail
 refine (shortest_4 _ _ (by omega) ht'.out).mono ?_;rintro e w' ⟨rfl,rfl⟩;go_wp2
 go_ret2
 exact⟨rfl,Below.refl _ _⟩
end Go.Proofs.YtagbkmoahflfdaaGreatDoor.Vm
