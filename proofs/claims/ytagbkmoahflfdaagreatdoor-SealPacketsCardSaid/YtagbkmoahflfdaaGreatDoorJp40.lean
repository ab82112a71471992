import Derived.Test.YtagbkmoahflfdaaGreatDoorJp01
import Derived.Test.YtagbkmoahflfdaaGreatDoorJp22
import Derived.Test.YtagbkmoahflfdaaGreatDoorJp38
set_option maxHeartbeats 4000000
set_option maxRecDepth 20000
set_option linter.unusedVariables false
set_option linter.unusedSimpArgs false
namespace Go.Proofs.YtagbkmoahflfdaaGreatDoor.Hd
open Tk Go.RowKit Vm
theorem id_nil(s:ByteArray)(hs:s.size=0)(w:World) :
 Calls Tryz.prog 133 #[.string s] w fun e w'=>e=.returned (.tuple #[.string ⟨#[]⟩,.string ⟨#[]⟩,.bool false])∧Below w.heap.size w w':=by
 have he:=empty_yes s hs;clear hs;go_enter Tryz.func133,Tryz.ntmps133;go_wp2
 go_ret3
 exact⟨rfl,Below.refl _ _⟩
theorem id_great(s:ByteArray)(b:UInt8)(hp:0<s.size)(hl:s.size≤9223372036854775807)(I0:s[0]'hp=b)(hb0:(0:Int)≤((b.toNat:Nat):Int))(hb:((b.toNat:Nat):Int)≤255)(h:(20:Int)<((b.toNat:Nat):Int))(w:World) :
 Calls Tryz.prog 133 #[.string s] w fun e w'=>e=.returned (.tuple #[.string ⟨#[]⟩,.string ⟨#[]⟩,.bool false])∧Below w.heap.size w w':=by
 have he:=empty_no s hp;go_enter Tryz.func133,Tryz.ntmps133;go_wp2
 go_ret3
 exact⟨rfl,Below.refl _ _⟩
theorem id_short(s:ByteArray)(b:UInt8)(hp:0<s.size)(hl:s.size≤9223372036854775807)(I0:s[0]'hp=b)(hb0:(0:Int)≤((b.toNat:Nat):Int))(hb:((b.toNat:Nat):Int)≤255)(h:((b.toNat:Nat):Int)≤20)(h2:((s.size:Nat):Int)<1+((b.toNat:Nat):Int))(w:World) :
 Calls Tryz.prog 133 #[.string s] w fun e w'=>e=.returned (.tuple #[.string ⟨#[]⟩,.string ⟨#[]⟩,.bool false])∧Below w.heap.size w w':=by
 have he:=empty_no s hp;go_enter Tryz.func133,Tryz.ntmps133;go_wp2
 go_ret3
 exact⟨rfl,Below.refl _ _⟩
theorem id_ok(s:ByteArray)(b:UInt8)(d r:List UInt8)(hp:0<s.size)(hl:s.size≤9223372036854775807)(I0:s[0]'hp=b)(hb0:(0:Int)≤((b.toNat:Nat):Int))(hb:((b.toNat:Nat):Int)≤255)(h:((b.toNat:Nat):Int)≤20)(h2:¬((s.size:Nat):Int)<1+((b.toNat:Nat):Int))(X1:s.extract 1 (1+b.toNat)=⟨d.toArray⟩)(X2:s.extract (1+b.toNat) s.size=⟨r.toArray⟩)(w:World) :
 Calls Tryz.prog 133 #[.string s] w fun e w'=>e=.returned (.tuple #[.string ⟨d.toArray⟩,.string ⟨r.toArray⟩,.bool true])∧Below w.heap.size w w':=by
 have he:=empty_no s hp;have e1:(1:Int)≤1+((b.toNat:Nat):Int):=by omega
 have e2:0≤1+((b.toNat:Nat):Int):=by omega
 have e3:1+((b.toNat:Nat):Int)≤((s.size:Nat):Int):=by omega
 have e4:(1+((b.toNat:Nat):Int)).toNat=1+b.toNat:=by omega
 have e5:1+b.toNat≤s.size:=by omega
 go_enter Tryz.func133,Tryz.ntmps133;go_wp2_with fail
 refine wp_region_noPanic ?_;refine wp_region_held_drew (S:=fun w'=>Below w.heap.size w w') (by kernel_rfl) ?_ (fun hHeld=>?_)
 ·exact below_drew (Below.refl _ _)
 iterate 9
  refine zqb [0,1,2,3,4,5,6,7,8] rfl rfl ?_ ?_ ?_;rotate_left
  ·(intro w hSw;skip;go_simp;(try with_reducible rfl))
  try simp only[Act.put,J1,J2,J3,J4,J5,J6]
 refine zqe (NoPanic.normal ?_);have HB:=zh hHeld;clear hHeld;go_wp2
 go_ret3
 exact⟨rfl,HB.out⟩
def idV (l:List UInt8):Value:=match idO l with
 | some x=>.tuple #[.string ⟨x.1.toArray⟩,.string ⟨x.2.toArray⟩,.bool true]
 | none=>.tuple #[.string ⟨#[]⟩,.string ⟨#[]⟩,.bool false]
theorem id_any(l:List UInt8)(hl:l.length≤9223372036854775807)(w:World) :
 Calls Tryz.prog 133 #[.string ⟨l.toArray⟩] w fun e w'=>e=.returned (idV l)∧Below w.heap.size w w':=by
 cases l with
 | nil=>exact id_nil _ rfl w
 | cons b r=>
  have hp:0<(⟨(b::r).toArray⟩:ByteArray).size:=by rw[sv_size];simp
  have hs:(⟨(b::r).toArray⟩:ByteArray).size=r.length+1:=by rw[sv_size];simp
  have hl2:(⟨(b::r).toArray⟩:ByteArray).size≤9223372036854775807:=by rw[sv_size];exact hl
  have hbb:=b.toNat_lt;by_cases h1:b.toNat≤20
  ·by_cases h2:b.toNat≤r.length
   ·have e:idV (b::r)=.tuple #[.string ⟨(r.take b.toNat).toArray⟩,.string ⟨(r.drop b.toNat).toArray⟩,.bool true]:=by
     unfold idV;simp only[idO];rw[if_pos ⟨h1,h2⟩]
    rw[e];refine id_ok _ b _ _ hp hl2 rfl (by omega) (by omega) (by omega) (by omega) ?_ ?_ w
    ·rw[sv_sub];congr 2;rw[Nat.add_sub_cancel_left];simp
    ·rw[hs,sv_sub];congr 2;rw[Nat.add_comm 1,List.drop_succ_cons];exact List.take_of_length_le (by rw[List.length_drop];omega)
   ·have e:idV (b::r)=.tuple #[.string ⟨#[]⟩,.string ⟨#[]⟩,.bool false]:=by
     unfold idV;simp only[idO];rw[if_neg (fun h=>h2 h.2)]
    rw[e];exact id_short _ b hp hl2 rfl (by omega) (by omega) (by omega) (by omega) w
  ·have e:idV (b::r)=.tuple #[.string ⟨#[]⟩,.string ⟨#[]⟩,.bool false]:=by
    unfold idV;simp only[idO];rw[if_neg (fun h=>h1 h.1)]
   rw[e];exact id_great _ b hp hl2 rfl (by omega) (by omega) (by omega) w
theorem refGet_none(s:ByteArray)(C1:Hid (∀w:World,Calls Tryz.prog 103 #[.string s] w fun e w'=>e=.returned (.tuple #[.agg #[.bool false,.bool false,.bool false,.int .i64 0,.int .u32 0,.string ⟨#[]⟩,.string ⟨#[]⟩,.string ⟨#[]⟩,.int .u64 0,.int .i64 0,.int .u64 0],.string ⟨#[]⟩,.bool false])∧Below w.heap.size w w'))(w:World) :
 Calls Tryz.prog 67 #[.string s] w fun e w'=>e=.returned (.tuple #[.agg #[.bool false,.bool false,.bool false,.int .i64 0,.int .u32 0,.string ⟨#[]⟩,.string ⟨#[]⟩,.string ⟨#[]⟩,.int .u64 0,.int .i64 0,.int .u64 0],.string ⟨#[]⟩,.int .i64 40])∧Below w.heap.size w w':=by
 go_enter Tryz.func67,Tryz.ntmps67;go_wp2_with fail
 refine (C1.out _).mono ?_;rintro e w1 ⟨rfl,hb1⟩;have R:=zh ((RBk.made w (.bool false) (.bool false) (.bool false) (.int .i64 0) (.int .u32 0) (.string ⟨#[]⟩) (.string ⟨#[]⟩) (.string ⟨#[]⟩) (.int .u64 0) (.int .i64 0) (.int .u64 0)).up hb1 (by simp));have hz1:w.heap.size<w1.heap.size:=R.out.lt;have HB:=zh (((Below.refl w.heap.size w).alloc zle (.cells #[.bool false,.bool false,.bool false,.int .i64 0,.int .u32 0,.string ⟨#[]⟩,.string ⟨#[]⟩,.string ⟨#[]⟩,.int .u64 0,.int .i64 0,.int .u64 0] 104)).trans (hb1.mono (by simp)));have hz2:w.heap.size≤w1.heap.size:=Nat.le_of_lt hz1;clear hb1;have za:=R.out.cell;have zb:=R.out.fz;have r0:=za 0;have q0:=zb 0;have r1:=za 1;have q1:=zb 1;have r2:=za 2;have q2:=zb 2;have r3:=za 3;have q3:=zb 3;have r4:=za 4;have q4:=zb 4;have r5:=za 5;have q5:=zb 5;have r6:=za 6;have q6:=zb 6;have r7:=za 7;have q7:=zb 7;have r8:=za 8;have q8:=zb 8;have r9:=za 9;have q9:=zb 9;have r10:=za 10;have q10:=zb 10;clear za zb;simp only[J7,J8,J9]at r0 r1 r2 r3 r4 r5 r6 r7 r8 r9 r10;go_wp2
 all_goals refine bodyPost_ret (v:=.tuple #[.agg #[.bool false,.bool false,.bool false,.int .i64 0,.int .u32 0,.string ⟨#[]⟩,.string ⟨#[]⟩,.string ⟨#[]⟩,.int .u64 0,.int .i64 0,.int .u64 0],.string ⟨#[]⟩,.int .i64 40]) (by simp[results,Tryz.results67,go_sem, *]) rfl ⟨rfl,?_⟩
 all_goals repeat (first|with_reducible exact HB.out|(with_reducible refine Below.alloc ?_ ?hsz _;case hsz=>simp;omega)|(with_reducible refine Below.setCell ?_ ?hcl _;case hcl=>simp;done)|(with_reducible refine below_drew ?_))
theorem refGet_few_s(s re:ByteArray)(b:UInt8)(sp:Bool)(ty ve le:Nat)(dc sc tk:ByteArray)(hp:0<s.size)(hl:s.size≤140737488351232)(I0:s[0]'hp=b)(hb0:(0:Int)≤((b.toNat:Nat):Int))(hb:((b.toNat:Nat):Int)≤255)(hre:re.size≤140737488351232)(k:Nat)(hk1:1≤k)(hk4:k≤4)(Ek:1+((b.toNat:Nat):Int)%4=(k:Int))(C1:Hid (∀w:World,Calls Tryz.prog 103 #[.string s] w fun e w'=>e=.returned (.tuple #[.agg #[.bool false,.bool sp,.bool false,.int .i64 (ty:Nat),.int .u32 (ve:Nat),.string dc,.string sc,.string tk,.int .u64 (le:Nat),.int .i64 0,.int .u64 0],.string re,.bool true])∧Below w.heap.size w w'))(hf:re.size<k)(w:World) :
 Calls Tryz.prog 67 #[.string s] w fun e w'=>e=.returned (.tuple #[.agg #[.bool false,.bool false,.bool false,.int .i64 0,.int .u32 0,.string ⟨#[]⟩,.string ⟨#[]⟩,.string ⟨#[]⟩,.int .u64 0,.int .i64 0,.int .u64 0],.string ⟨#[]⟩,.int .i64 40])∧Below w.heap.size w w':=by
 go_enter Tryz.func67,Tryz.ntmps67;go_wp2_with fail
 refine (C1.out _).mono ?_;rintro e w1 ⟨rfl,hb1⟩;have R:=zh ((RBk.made w (.bool false) (.bool false) (.bool false) (.int .i64 0) (.int .u32 0) (.string ⟨#[]⟩) (.string ⟨#[]⟩) (.string ⟨#[]⟩) (.int .u64 0) (.int .i64 0) (.int .u64 0)).up hb1 (by simp));have hz1:w.heap.size<w1.heap.size:=R.out.lt;have HB:=zh (((Below.refl w.heap.size w).alloc zle (.cells #[.bool false,.bool false,.bool false,.int .i64 0,.int .u32 0,.string ⟨#[]⟩,.string ⟨#[]⟩,.string ⟨#[]⟩,.int .u64 0,.int .i64 0,.int .u64 0] 104)).trans (hb1.mono (by simp)));have hz2:w.heap.size≤w1.heap.size:=Nat.le_of_lt hz1;clear hb1;have za:=R.out.cell;have zb:=R.out.fz;have r0:=za 0;have q0:=zb 0;have r1:=za 1;have q1:=zb 1;have r2:=za 2;have q2:=zb 2;have r3:=za 3;have q3:=zb 3;have r4:=za 4;have q4:=zb 4;have r5:=za 5;have q5:=zb 5;have r6:=za 6;have q6:=zb 6;have r7:=za 7;have q7:=zb 7;have r8:=za 8;have q8:=zb 8;have r9:=za 9;have q9:=zb 9;have r10:=za 10;have q10:=zb 10;clear za zb;simp only[J7,J8,J9]at r0 r1 r2 r3 r4 r5 r6 r7 r8 r9 r10;go_wp2
 all_goals refine bodyPost_ret (v:=.tuple #[.agg #[.bool false,.bool false,.bool false,.int .i64 0,.int .u32 0,.string ⟨#[]⟩,.string ⟨#[]⟩,.string ⟨#[]⟩,.int .u64 0,.int .i64 0,.int .u64 0],.string ⟨#[]⟩,.int .i64 40]) (by simp[results,Tryz.results67,go_sem, *]) rfl ⟨rfl,?_⟩
 all_goals repeat (first|with_reducible exact HB.out|(with_reducible refine Below.alloc ?_ ?hsz _;case hsz=>simp;omega)|(with_reducible refine Below.setCell ?_ ?hcl _;case hcl=>simp;done)|(with_reducible refine below_drew ?_))
theorem refGet_bad_s(s re:ByteArray)(b:UInt8)(sp:Bool)(ty ve le:Nat)(dc sc tk:ByteArray)(hp:0<s.size)(hl:s.size≤140737488351232)(I0:s[0]'hp=b)(hb0:(0:Int)≤((b.toNat:Nat):Int))(hb:((b.toNat:Nat):Int)≤255)(hre:re.size≤140737488351232)(k:Nat)(hk1:1≤k)(hk4:k≤4)(Ek:1+((b.toNat:Nat):Int)%4=(k:Int))(C1:Hid (∀w:World,Calls Tryz.prog 103 #[.string s] w fun e w'=>e=.returned (.tuple #[.agg #[.bool false,.bool sp,.bool false,.int .i64 (ty:Nat),.int .u32 (ve:Nat),.string dc,.string sc,.string tk,.int .u64 (le:Nat),.int .i64 0,.int .u64 0],.string re,.bool true])∧Below w.heap.size w w'))(hf:¬re.size<k)(hbad:(((b.toNat:Nat):Int)/8%4 != 0)=true)(w:World) :
 Calls Tryz.prog 67 #[.string s] w fun e w'=>e=.returned (.tuple #[.agg #[.bool false,.bool false,.bool false,.int .i64 0,.int .u32 0,.string ⟨#[]⟩,.string ⟨#[]⟩,.string ⟨#[]⟩,.int .u64 0,.int .i64 0,.int .u64 0],.string ⟨#[]⟩,.int .i64 40])∧Below w.heap.size w w':=by
 go_enter Tryz.func67,Tryz.ntmps67;go_wp2_with fail
 refine (C1.out _).mono ?_;rintro e w1 ⟨rfl,hb1⟩;have R:=zh ((RBk.made w (.bool false) (.bool false) (.bool false) (.int .i64 0) (.int .u32 0) (.string ⟨#[]⟩) (.string ⟨#[]⟩) (.string ⟨#[]⟩) (.int .u64 0) (.int .i64 0) (.int .u64 0)).up hb1 (by simp));have hz1:w.heap.size<w1.heap.size:=R.out.lt;have HB:=zh (((Below.refl w.heap.size w).alloc zle (.cells #[.bool false,.bool false,.bool false,.int .i64 0,.int .u32 0,.string ⟨#[]⟩,.string ⟨#[]⟩,.string ⟨#[]⟩,.int .u64 0,.int .i64 0,.int .u64 0] 104)).trans (hb1.mono (by simp)));have hz2:w.heap.size≤w1.heap.size:=Nat.le_of_lt hz1;clear hb1;have za:=R.out.cell;have zb:=R.out.fz;have r0:=za 0;have q0:=zb 0;have r1:=za 1;have q1:=zb 1;have r2:=za 2;have q2:=zb 2;have r3:=za 3;have q3:=zb 3;have r4:=za 4;have q4:=zb 4;have r5:=za 5;have q5:=zb 5;have r6:=za 6;have q6:=zb 6;have r7:=za 7;have q7:=zb 7;have r8:=za 8;have q8:=zb 8;have r9:=za 9;have q9:=zb 9;have r10:=za 10;have q10:=zb 10;clear za zb;simp only[J7,J8,J9]at r0 r1 r2 r3 r4 r5 r6 r7 r8 r9 r10;go_wp2
 all_goals refine bodyPost_ret (v:=.tuple #[.agg #[.bool false,.bool false,.bool false,.int .i64 0,.int .u32 0,.string ⟨#[]⟩,.string ⟨#[]⟩,.string ⟨#[]⟩,.int .u64 0,.int .i64 0,.int .u64 0],.string ⟨#[]⟩,.int .i64 40]) (by simp[results,Tryz.results67,go_sem, *]) rfl ⟨rfl,?_⟩
 all_goals repeat (first|with_reducible exact HB.out|(with_reducible refine Below.alloc ?_ ?hsz _;case hsz=>simp;omega)|(with_reducible refine Below.setCell ?_ ?hcl _;case hcl=>simp;done)|(with_reducible refine below_drew ?_))
theorem refGet_ok_s(s re nm rest:ByteArray)(nu:Nat)(b:UInt8)(sp:Bool)(ty ve le:Nat)(dc sc tk:ByteArray)(hp:0<s.size)(hl:s.size≤140737488351232)(I0:s[0]'hp=b)(hb0:(0:Int)≤((b.toNat:Nat):Int))(hb:((b.toNat:Nat):Int)≤255)(hre:re.size≤140737488351232)(k:Nat)(hk1:1≤k)(hk4:k≤4)(Ek:1+((b.toNat:Nat):Int)%4=(k:Int))(C1:Hid (∀w:World,Calls Tryz.prog 103 #[.string s] w fun e w'=>e=.returned (.tuple #[.agg #[.bool false,.bool sp,.bool false,.int .i64 (ty:Nat),.int .u32 (ve:Nat),.string dc,.string sc,.string tk,.int .u64 (le:Nat),.int .i64 0,.int .u64 0],.string re,.bool true])∧Below w.heap.size w w'))(hf:¬re.size<k)(hf2:k≤re.size)(hbad:(((b.toNat:Nat):Int)/8%4 != 0)=false)(X1:re.extract 0 k=nm)(X2:re.extract k re.size=rest)(CB:Hid (∀w:World,Calls Tryz.prog 104 #[.string nm] w fun e w'=>e=.returned (.int .u64 (nu:Nat))∧w=w'))(w:World) :
 Calls Tryz.prog 67 #[.string s] w fun e w'=>e=.returned (.tuple #[.agg #[.bool false,.bool sp,.bool (((b.toNat:Nat):Int)/4%2==1),.int .i64 (ty:Nat),.int .u32 (ve:Nat),.string dc,.string sc,.string tk,.int .u64 (le:Nat),.int .i64 (k:Nat),.int .u64 (nu:Nat)],.string rest,.int .i64 0])∧Below w.heap.size w w':=by
 go_enter Tryz.func67,Tryz.ntmps67;go_wp2_with fail
 refine (C1.out _).mono ?_;rintro e w1 ⟨rfl,hb1⟩;have R:=zh ((RBk.made w (.bool false) (.bool false) (.bool false) (.int .i64 0) (.int .u32 0) (.string ⟨#[]⟩) (.string ⟨#[]⟩) (.string ⟨#[]⟩) (.int .u64 0) (.int .i64 0) (.int .u64 0)).up hb1 (by simp));have hz1:w.heap.size<w1.heap.size:=R.out.lt;have HB:=zh (((Below.refl w.heap.size w).alloc zle (.cells #[.bool false,.bool false,.bool false,.int .i64 0,.int .u32 0,.string ⟨#[]⟩,.string ⟨#[]⟩,.string ⟨#[]⟩,.int .u64 0,.int .i64 0,.int .u64 0] 104)).trans (hb1.mono (by simp)));have hz2:w.heap.size≤w1.heap.size:=Nat.le_of_lt hz1;clear hb1;have za:=R.out.cell;have zb:=R.out.fz;have r0:=za 0;have q0:=zb 0;have r1:=za 1;have q1:=zb 1;have r2:=za 2;have q2:=zb 2;have r3:=za 3;have q3:=zb 3;have r4:=za 4;have q4:=zb 4;have r5:=za 5;have q5:=zb 5;have r6:=za 6;have q6:=zb 6;have r7:=za 7;have q7:=zb 7;have r8:=za 8;have q8:=zb 8;have r9:=za 9;have q9:=zb 9;have r10:=za 10;have q10:=zb 10;clear za zb;simp only[J7,J8,J9]at r0 r1 r2 r3 r4 r5 r6 r7 r8 r9 r10;go_wp2_with fail
 refine (CB.out _).mono ?_;rintro e w2 ⟨rfl,rfl⟩;go_wp2_with fail
 go_region
 all_goals go_wp2
 all_goals refine bodyPost_ret (v:=.tuple #[.agg #[.bool false,.bool sp,.bool (((b.toNat:Nat):Int)/4%2==1),.int .i64 (ty:Nat),.int .u32 (ve:Nat),.string dc,.string sc,.string tk,.int .u64 (le:Nat),.int .i64 (k:Nat),.int .u64 (nu:Nat)],.string rest,.int .i64 0]) (by simp[results,Tryz.results67,go_sem, *]) rfl ⟨rfl,?_⟩
 all_goals repeat (first|with_reducible exact HB.out|(with_reducible refine Below.alloc ?_ ?hsz _;case hsz=>simp;omega)|(with_reducible refine Below.setCell ?_ ?hcl _;case hcl=>simp;done)|(with_reducible refine below_drew ?_))
theorem refGet_few_l(s re:ByteArray)(b:UInt8)(sp:Bool)(ty ve le:Nat)(dc sc tk:ByteArray)(hp:0<s.size)(hl:s.size≤140737488351232)(I0:s[0]'hp=b)(hb0:(0:Int)≤((b.toNat:Nat):Int))(hb:((b.toNat:Nat):Int)≤255)(hre:re.size≤140737488351232)(k:Nat)(hk1:1≤k)(hk4:k≤4)(Ek:1+((b.toNat:Nat):Int)%4=(k:Int))(C1:Hid (∀w:World,Calls Tryz.prog 103 #[.string s] w fun e w'=>e=.returned (.tuple #[.agg #[.bool true,.bool sp,.bool false,.int .i64 (ty:Nat),.int .u32 (ve:Nat),.string dc,.string sc,.string tk,.int .u64 (le:Nat),.int .i64 0,.int .u64 0],.string re,.bool true])∧Below w.heap.size w w'))(hf:re.size<k)(w:World) :
 Calls Tryz.prog 67 #[.string s] w fun e w'=>e=.returned (.tuple #[.agg #[.bool false,.bool false,.bool false,.int .i64 0,.int .u32 0,.string ⟨#[]⟩,.string ⟨#[]⟩,.string ⟨#[]⟩,.int .u64 0,.int .i64 0,.int .u64 0],.string ⟨#[]⟩,.int .i64 40])∧Below w.heap.size w w':=by
 go_enter Tryz.func67,Tryz.ntmps67;go_wp2_with fail
 refine (C1.out _).mono ?_;rintro e w1 ⟨rfl,hb1⟩;have R:=zh ((RBk.made w (.bool false) (.bool false) (.bool false) (.int .i64 0) (.int .u32 0) (.string ⟨#[]⟩) (.string ⟨#[]⟩) (.string ⟨#[]⟩) (.int .u64 0) (.int .i64 0) (.int .u64 0)).up hb1 (by simp));have hz1:w.heap.size<w1.heap.size:=R.out.lt;have HB:=zh (((Below.refl w.heap.size w).alloc zle (.cells #[.bool false,.bool false,.bool false,.int .i64 0,.int .u32 0,.string ⟨#[]⟩,.string ⟨#[]⟩,.string ⟨#[]⟩,.int .u64 0,.int .i64 0,.int .u64 0] 104)).trans (hb1.mono (by simp)));have hz2:w.heap.size≤w1.heap.size:=Nat.le_of_lt hz1;clear hb1;have za:=R.out.cell;have zb:=R.out.fz;have r0:=za 0;have q0:=zb 0;have r1:=za 1;have q1:=zb 1;have r2:=za 2;have q2:=zb 2;have r3:=za 3;have q3:=zb 3;have r4:=za 4;have q4:=zb 4;have r5:=za 5;have q5:=zb 5;have r6:=za 6;have q6:=zb 6;have r7:=za 7;have q7:=zb 7;have r8:=za 8;have q8:=zb 8;have r9:=za 9;have q9:=zb 9;have r10:=za 10;have q10:=zb 10;clear za zb;simp only[J7,J8,J9]at r0 r1 r2 r3 r4 r5 r6 r7 r8 r9 r10;go_wp2
 all_goals refine bodyPost_ret (v:=.tuple #[.agg #[.bool false,.bool false,.bool false,.int .i64 0,.int .u32 0,.string ⟨#[]⟩,.string ⟨#[]⟩,.string ⟨#[]⟩,.int .u64 0,.int .i64 0,.int .u64 0],.string ⟨#[]⟩,.int .i64 40]) (by simp[results,Tryz.results67,go_sem, *]) rfl ⟨rfl,?_⟩
 all_goals repeat (first|with_reducible exact HB.out|(with_reducible refine Below.alloc ?_ ?hsz _;case hsz=>simp;omega)|(with_reducible refine Below.setCell ?_ ?hcl _;case hcl=>simp;done)|(with_reducible refine below_drew ?_))
theorem refGet_bad_l(s re:ByteArray)(b:UInt8)(sp:Bool)(ty ve le:Nat)(dc sc tk:ByteArray)(hp:0<s.size)(hl:s.size≤140737488351232)(I0:s[0]'hp=b)(hb0:(0:Int)≤((b.toNat:Nat):Int))(hb:((b.toNat:Nat):Int)≤255)(hre:re.size≤140737488351232)(k:Nat)(hk1:1≤k)(hk4:k≤4)(Ek:1+((b.toNat:Nat):Int)%4=(k:Int))(C1:Hid (∀w:World,Calls Tryz.prog 103 #[.string s] w fun e w'=>e=.returned (.tuple #[.agg #[.bool true,.bool sp,.bool false,.int .i64 (ty:Nat),.int .u32 (ve:Nat),.string dc,.string sc,.string tk,.int .u64 (le:Nat),.int .i64 0,.int .u64 0],.string re,.bool true])∧Below w.heap.size w w'))(hf:¬re.size<k)(hbad:(((b.toNat:Nat):Int)/4%4 != 0)=true)(w:World) :
 Calls Tryz.prog 67 #[.string s] w fun e w'=>e=.returned (.tuple #[.agg #[.bool false,.bool false,.bool false,.int .i64 0,.int .u32 0,.string ⟨#[]⟩,.string ⟨#[]⟩,.string ⟨#[]⟩,.int .u64 0,.int .i64 0,.int .u64 0],.string ⟨#[]⟩,.int .i64 40])∧Below w.heap.size w w':=by
 go_enter Tryz.func67,Tryz.ntmps67;go_wp2_with fail
 refine (C1.out _).mono ?_;rintro e w1 ⟨rfl,hb1⟩;have R:=zh ((RBk.made w (.bool false) (.bool false) (.bool false) (.int .i64 0) (.int .u32 0) (.string ⟨#[]⟩) (.string ⟨#[]⟩) (.string ⟨#[]⟩) (.int .u64 0) (.int .i64 0) (.int .u64 0)).up hb1 (by simp));have hz1:w.heap.size<w1.heap.size:=R.out.lt;have HB:=zh (((Below.refl w.heap.size w).alloc zle (.cells #[.bool false,.bool false,.bool false,.int .i64 0,.int .u32 0,.string ⟨#[]⟩,.string ⟨#[]⟩,.string ⟨#[]⟩,.int .u64 0,.int .i64 0,.int .u64 0] 104)).trans (hb1.mono (by simp)));have hz2:w.heap.size≤w1.heap.size:=Nat.le_of_lt hz1;clear hb1;have za:=R.out.cell;have zb:=R.out.fz;have r0:=za 0;have q0:=zb 0;have r1:=za 1;have q1:=zb 1;have r2:=za 2;have q2:=zb 2;have r3:=za 3;have q3:=zb 3;have r4:=za 4;have q4:=zb 4;have r5:=za 5;have q5:=zb 5;have r6:=za 6;have q6:=zb 6;have r7:=za 7;have q7:=zb 7;have r8:=za 8;have q8:=zb 8;have r9:=za 9;have q9:=zb 9;have r10:=za 10;have q10:=zb 10;clear za zb;simp only[J7,J8,J9]at r0 r1 r2 r3 r4 r5 r6 r7 r8 r9 r10;go_wp2
 all_goals refine bodyPost_ret (v:=.tuple #[.agg #[.bool false,.bool false,.bool false,.int .i64 0,.int .u32 0,.string ⟨#[]⟩,.string ⟨#[]⟩,.string ⟨#[]⟩,.int .u64 0,.int .i64 0,.int .u64 0],.string ⟨#[]⟩,.int .i64 40]) (by simp[results,Tryz.results67,go_sem, *]) rfl ⟨rfl,?_⟩
 all_goals repeat (first|with_reducible exact HB.out|(with_reducible refine Below.alloc ?_ ?hsz _;case hsz=>simp;omega)|(with_reducible refine Below.setCell ?_ ?hcl _;case hcl=>simp;done)|(with_reducible refine below_drew ?_))
theorem refGet_ok_l(s re nm rest:ByteArray)(nu:Nat)(b:UInt8)(sp:Bool)(ty ve le:Nat)(dc sc tk:ByteArray)(hp:0<s.size)(hl:s.size≤140737488351232)(I0:s[0]'hp=b)(hb0:(0:Int)≤((b.toNat:Nat):Int))(hb:((b.toNat:Nat):Int)≤255)(hre:re.size≤140737488351232)(k:Nat)(hk1:1≤k)(hk4:k≤4)(Ek:1+((b.toNat:Nat):Int)%4=(k:Int))(C1:Hid (∀w:World,Calls Tryz.prog 103 #[.string s] w fun e w'=>e=.returned (.tuple #[.agg #[.bool true,.bool sp,.bool false,.int .i64 (ty:Nat),.int .u32 (ve:Nat),.string dc,.string sc,.string tk,.int .u64 (le:Nat),.int .i64 0,.int .u64 0],.string re,.bool true])∧Below w.heap.size w w'))(hf:¬re.size<k)(hf2:k≤re.size)(hbad:(((b.toNat:Nat):Int)/4%4 != 0)=false)(X1:re.extract 0 k=nm)(X2:re.extract k re.size=rest)(CB:Hid (∀w:World,Calls Tryz.prog 104 #[.string nm] w fun e w'=>e=.returned (.int .u64 (nu:Nat))∧w=w'))(w:World) :
 Calls Tryz.prog 67 #[.string s] w fun e w'=>e=.returned (.tuple #[.agg #[.bool true,.bool sp,.bool false,.int .i64 (ty:Nat),.int .u32 (ve:Nat),.string dc,.string sc,.string tk,.int .u64 (le:Nat),.int .i64 (k:Nat),.int .u64 (nu:Nat)],.string rest,.int .i64 0])∧Below w.heap.size w w':=by
 go_enter Tryz.func67,Tryz.ntmps67;go_wp2_with fail
 refine (C1.out _).mono ?_;rintro e w1 ⟨rfl,hb1⟩;have R:=zh ((RBk.made w (.bool false) (.bool false) (.bool false) (.int .i64 0) (.int .u32 0) (.string ⟨#[]⟩) (.string ⟨#[]⟩) (.string ⟨#[]⟩) (.int .u64 0) (.int .i64 0) (.int .u64 0)).up hb1 (by simp));have hz1:w.heap.size<w1.heap.size:=R.out.lt;have HB:=zh (((Below.refl w.heap.size w).alloc zle (.cells #[.bool false,.bool false,.bool false,.int .i64 0,.int .u32 0,.string ⟨#[]⟩,.string ⟨#[]⟩,.string ⟨#[]⟩,.int .u64 0,.int .i64 0,.int .u64 0] 104)).trans (hb1.mono (by simp)));have hz2:w.heap.size≤w1.heap.size:=Nat.le_of_lt hz1;clear hb1;have za:=R.out.cell;have zb:=R.out.fz;have r0:=za 0;have q0:=zb 0;have r1:=za 1;have q1:=zb 1;have r2:=za 2;have q2:=zb 2;have r3:=za 3;have q3:=zb 3;have r4:=za 4;have q4:=zb 4;have r5:=za 5;have q5:=zb 5;have r6:=za 6;have q6:=zb 6;have r7:=za 7;have q7:=zb 7;have r8:=za 8;have q8:=zb 8;have r9:=za 9;have q9:=zb 9;have r10:=za 10;have q10:=zb 10;clear za zb;simp only[J7,J8,J9]at r0 r1 r2 r3 r4 r5 r6 r7 r8 r9 r10;go_wp2_with fail
 refine (CB.out _).mono ?_;rintro e w2 ⟨rfl,rfl⟩;go_wp2_with fail
 go_region
 all_goals go_wp2
 all_goals refine bodyPost_ret (v:=.tuple #[.agg #[.bool true,.bool sp,.bool false,.int .i64 (ty:Nat),.int .u32 (ve:Nat),.string dc,.string sc,.string tk,.int .u64 (le:Nat),.int .i64 (k:Nat),.int .u64 (nu:Nat)],.string rest,.int .i64 0]) (by simp[results,Tryz.results67,go_sem, *]) rfl ⟨rfl,?_⟩
 all_goals repeat (first|with_reducible exact HB.out|(with_reducible refine Below.alloc ?_ ?hsz _;case hsz=>simp;omega)|(with_reducible refine Below.setCell ?_ ?hcl _;case hcl=>simp;done)|(with_reducible refine below_drew ?_))
theorem refPlace_none(s:ByteArray)(C1:Hid (∀w:World,Calls Tryz.prog 103 #[.string s] w fun e w'=>e=.returned (.tuple #[.agg #[.bool false,.bool false,.bool false,.int .i64 0,.int .u32 0,.string ⟨#[]⟩,.string ⟨#[]⟩,.string ⟨#[]⟩,.int .u64 0,.int .i64 0,.int .u64 0],.string ⟨#[]⟩,.bool false])∧Below w.heap.size w w'))(w:World) :
 Calls Tryz.prog 65 #[.string s] w fun e w'=>e=.returned (.tuple #[.int .i64 0,.int .i64 40])∧Below w.heap.size w w':=by
 go_enter Tryz.func65,Tryz.ntmps65;go_wp2_with fail
 refine (C1.out _).mono ?_;rintro e w1 ⟨rfl,hb1⟩;go_wp2
 go_ret2
 exact⟨rfl,hb1.alloc hb1.size _⟩
theorem refPlace_ok_s(s re:ByteArray)(sp:Bool)(ty ve le:Nat)(dc sc tk:ByteArray)(hl:s.size≤140737488351232)(hre:re.size≤140737488351232)(C1:Hid (∀w:World,Calls Tryz.prog 103 #[.string s] w fun e w'=>e=.returned (.tuple #[.agg #[.bool false,.bool sp,.bool false,.int .i64 (ty:Nat),.int .u32 (ve:Nat),.string dc,.string sc,.string tk,.int .u64 (le:Nat),.int .i64 0,.int .u64 0],.string re,.bool true])∧Below w.heap.size w w'))(w:World) :
 Calls Tryz.prog 65 #[.string s] w fun e w'=>e=.returned (.tuple #[.int .i64 ((s.size:Int)-(re.size:Int)),.int .i64 0])∧Below w.heap.size w w':=by
 go_enter Tryz.func65,Tryz.ntmps65;go_wp2_with fail
 refine (C1.out _).mono ?_;rintro e w1 ⟨rfl,hb1⟩;go_wp2
 go_ret2
 exact⟨rfl,hb1.alloc hb1.size _⟩
theorem refPlace_ok_l(s re:ByteArray)(sp:Bool)(ty ve le:Nat)(dc sc tk:ByteArray)(hl:s.size≤140737488351232)(hre:re.size≤140737488351232)(C1:Hid (∀w:World,Calls Tryz.prog 103 #[.string s] w fun e w'=>e=.returned (.tuple #[.agg #[.bool true,.bool sp,.bool false,.int .i64 (ty:Nat),.int .u32 (ve:Nat),.string dc,.string sc,.string tk,.int .u64 (le:Nat),.int .i64 0,.int .u64 0],.string re,.bool true])∧Below w.heap.size w w'))(w:World) :
 Calls Tryz.prog 65 #[.string s] w fun e w'=>e=.returned (.tuple #[.int .i64 ((s.size:Int)-(re.size:Int)),.int .i64 0])∧Below w.heap.size w w':=by
 go_enter Tryz.func65,Tryz.ntmps65;go_wp2_with fail
 refine (C1.out _).mono ?_;rintro e w1 ⟨rfl,hb1⟩;go_wp2
 go_ret2
 exact⟨rfl,hb1.alloc hb1.size _⟩
end Go.Proofs.YtagbkmoahflfdaaGreatDoor.Hd
