import Derived.Test.YtagbkmoahflfdaaGreatDoorJp01
import Derived.Test.YtagbkmoahflfdaaGreatDoorJp32
import Derived.Test.YtagbkmoahflfdaaGreatDoorJp35
import Derived.Test.YtagbkmoahflfdaaGreatDoorJp29
import Derived.Test.YtagbkmoahflfdaaGreatDoorJp38
import Derived.Test.YtagbkmoahflfdaaGreatDoorJp42
import Derived.Test.YtagbkmoahflfdaaGreatDoorJp24
import Derived.RegionTactic
set_option maxHeartbeats 16000000
set_option maxRecDepth 100000
set_option linter.unusedVariables false
set_option linter.unusedSimpArgs false
namespace Go.Proofs.YtagbkmoahflfdaaGreatDoor.Se
open Tk Go.RowKit Vm Dg Kd
theorem dprotect_no(x0 x1 x2 x3 x4 x5 x6 x7 x8 x9:ByteArray)(xo xp:Bool)(num acked:Nat)(any:Bool)(cid plain:ByteArray)(w:World)(h:(4611686018427387903:Int)<(num:Int)∨(num:Int)≤4611686018427387903∧(cid.size≠8∨cid.size=8∧plain.size<4)) :
 Calls Tryz.prog 28 #[.agg #[.string x0,.string x1,.string x2,.string x3,.string x4,.string x5,.string x6,.string x7,.string x8,.string x9,.bool xo,.bool xp],.int .u64 num,.int .u64 acked,.bool any,.string cid,.string plain] w fun e w'=>e=.returned (.tuple #[.string ⟨#[]⟩,.int .i64 1])∧Below w.heap.size w w':=by
 rcases h with h|⟨h0,h|⟨h1,h2⟩⟩
 ·have hg:(num:Int) > 4611686018427387903:=h
  clear h;go_enter Tryz.func28,Tryz.ntmps28;go_wp2
  go_ret2
  exact⟨rfl,(Below.refl _ _).alloc zle _⟩
 ·have hg:¬(num:Int) > 4611686018427387903:=by omega
  have hc:((cid.size:Int) != 8)=true:=by rw[bne_iff_ne];omega
  have hc2:((cid.size:Int)==8)=false:=by rw[beq_eq_false_iff_ne];omega
  have hc3:¬((cid.size:Int)=8):=by omega
  clear h h0;go_enter Tryz.func28,Tryz.ntmps28;go_wp2
  go_ret2
  exact⟨rfl,(Below.refl _ _).alloc zle _⟩
 ·have hg:¬(num:Int) > 4611686018427387903:=by omega
  have hc:(cid.size:Int)=8:=by omega
  have hp:(plain.size:Int)<4:=by omega
  clear h1 h0 h2;go_enter Tryz.func28,Tryz.ntmps28;go_wp2
  go_ret2
  exact⟨rfl,(Below.refl _ _).alloc zle _⟩
theorem dprotect_walk(x0 x1 x2 x3 x4 x5 x6 x7 x8 x9 cid plain HD SL SM MK PK ALL:ByteArray)(xo xp any:Bool)(num acked wide:Nat)(cn er:Int)(w:World)
 (hn:(num:Int)≤4611686018427387903)(hc:(cid.size:Int)=8)(hp:4≤(plain.size:Int))(hHD:HD.size=9+wide)(hAll:HD++SL=ALL)(hw4:wide≤4)(hsl:SL.size≤20000)(has:29≤ALL.size)(has2:ALL.size≤30000)(hsm:ALL.extract 13 29=SM)
 (CB:Hid (∀W:World,Calls Tryz.prog 57 #[.int .u64 num,.int .u64 acked,.bool any] W fun e w'=>e=.returned (.int .i64 wide)∧Below W.heap.size W w'))
 (CC:Hid (∀W:World,Calls Tryz.prog 59 #[.int .u64 num,.int .i64 wide] W fun e w'=>e=.returned (.int .u64 cn)∧Below W.heap.size W w'))
 (CP:Hid (∀W:World,Calls Tryz.prog 58 #[.agg #[.bool false,.bool false,.bool xp,.int .i64 0,.int .u32 0,.string cid,.string ⟨#[]⟩,.string ⟨#[]⟩,.int .u64 0,.int .i64 wide,.int .u64 cn]] W fun e w'=>e=.returned (.tuple #[.string HD,.int .i64 0])∧Below W.heap.size W w'))
 (CSL:Hid (∀W:World,Calls Tryz.prog 21 #[.agg #[.string x4,.string x5,.string x6],.int .u64 num,.string HD,.string plain] W fun e w'=>e=.returned (.string SL)∧Below W.heap.size W w'))
 (CM:Hid (∀W:World,Calls Tryz.prog 20 #[.agg #[.string x4,.string x5,.string x6],.string SM] W fun e w'=>e=.returned (.tuple #[.string MK,.int .i64 0])∧Below W.heap.size W w'))
 (CK:Hid (∀W:World,Calls Tryz.prog 60 #[.string ALL,.string MK] W fun e w'=>e=.returned (.tuple #[.string PK,.int .i64 er])∧Below W.heap.size W w')) :
 Calls Tryz.prog 28 #[.agg #[.string x0,.string x1,.string x2,.string x3,.string x4,.string x5,.string x6,.string x7,.string x8,.string x9,.bool xo,.bool xp],.int .u64 num,.int .u64 acked,.bool any,.string cid,.string plain] w fun e w'=>e=.returned (.tuple #[.string PK,.int .i64 er])∧Below w.heap.size w w':=by
 have hg:¬(num:Int) > 4611686018427387903:=by omega
 have hp2:¬(plain.size:Int)<4:=by omega
 have h9:(HD.size:Int)-(wide:Int)=9:=by omega
 have h9w:IntKind.i64.wrap ((HD.size:Int)-(wide:Int))=9:=by rw[IntWalk.i64_in _ (by omega)];exact h9
 have hsum:¬(9223372036854775807<9+wide+SL.size):=by omega
 have hsum2:¬(9223372036854775807<HD.size+SL.size):=by omega
 have hasI:(29:Int)≤(ALL.size:Int):=by omega
 have hasI2:(ALL.size:Int)≤30000:=by omega
 have hw29:IntKind.i64.wrap 29=29:=by decide
 have H0:Hid (RX 46 (w.alloc (.cells #[.string x0,.string x1,.string x2,.string x3,.string x4,.string x5,.string x6,.string x7,.string x8,.string x9,.bool xo,.bool xp] 46)) w.heap.size x0 x1 x2 x3 x4 x5 x6 x7 x8 x9 xo xp∧Below w.heap.size w (w.alloc (.cells #[.string x0,.string x1,.string x2,.string x3,.string x4,.string x5,.string x6,.string x7,.string x8,.string x9,.bool xo,.bool xp] 46))):=zh ⟨heap_alloc_new w _,(Below.refl _ _).alloc zle _⟩;clear has has2;go_enter Tryz.func28,Tryz.ntmps28;go_wp2_with fail
 with_reducible refine (CB.out _).mono ?_
 rintro e1 z1 ⟨rfl,hb⟩;have H1:Hid (RX 46 z1 w.heap.size x0 x1 x2 x3 x4 x5 x6 x7 x8 x9 xo xp∧Below w.heap.size w z1):=zh ⟨H0.out.1.keep hb H0.out.1.lt,H0.out.2.trans (hb.mono H0.out.2.size)⟩;clear hb;have HD1:Hid (RX 46 z1.drew w.heap.size x0 x1 x2 x3 x4 x5 x6 x7 x8 x9 xo xp∧Below w.heap.size w z1.drew):=zh ⟨H1.out.1,H1.out.2.drew⟩;go_wp2_with fail
 refine wp_region_noPanic ?_;refine wp_region_held_drew (S:=fun W:World=>RX 46 W w.heap.size x0 x1 x2 x3 x4 x5 x6 x7 x8 x9 xo xp∧Below w.heap.size w W) (by kernel_rfl) ?_ (fun hHeld=>?_)
 ·exact HD1.out
 iterate 6
  refine zqb [0,1,2,3,4,5] rfl rfl ?_ ?_ ?_;rotate_left
  ·(intro w hSw;obtain⟨hs1,hsb⟩:=hSw;obtain⟨q0,q1,q2,q3,q4,q5,q6,q7,q8,q9,q10,q11⟩:=cellsR hs1;go_simp;(try with_reducible rfl))
  try simp only[Act.put,J1,J2,J3,J4,J5,J6]
 refine zqf [6] (AllReadyH.cons rfl (fun K hK=>?_) AllReadyH.nil);rw[if_pos (by rfl)];go_simp;with_reducible refine (CC.out _).mono ?_
 rintro e2 z2 ⟨rfl,hb⟩;have H2:Hid (RX 46 z2 w.heap.size x0 x1 x2 x3 x4 x5 x6 x7 x8 x9 xo xp∧Below w.heap.size w z2):=zh ⟨HD1.out.1.keep hb HD1.out.1.lt,HD1.out.2.trans (hb.mono HD1.out.2.size)⟩;clear hb;refine hK.out _ _ ?_ (fun hHeld=>?_)
 ·exact H2.out
 clear hK K
 try simp only[Act.put,J1,J2,J3,J4,J5,J6]
 refine zqa 7 rfl ?_ ?_ ?_;rotate_left
 ·(intro w hSw;obtain⟨hs1,hsb⟩:=hSw;obtain⟨q0,q1,q2,q3,q4,q5,q6,q7,q8,q9,q10,q11⟩:=cellsR hs1;go_simp;(try with_reducible rfl))
 try simp only[Act.put,J1,J2,J3,J4,J5,J6]
 refine zqf [8] (AllReadyH.cons rfl (fun K hK=>?_) AllReadyH.nil);rw[if_pos (by rfl)];go_simp;with_reducible refine (CP.out _).mono ?_
 rintro e3 z3 ⟨rfl,hb⟩;have H3:Hid (RX 46 z3 w.heap.size x0 x1 x2 x3 x4 x5 x6 x7 x8 x9 xo xp∧Below w.heap.size w z3):=zh ⟨H2.out.1.keep hb H2.out.1.lt,H2.out.2.trans (hb.mono H2.out.2.size)⟩;clear hb;refine hK.out _ _ ?_ (fun hHeld=>?_)
 ·exact H3.out
 clear hK K
 try simp only[Act.put,J1,J2,J3,J4,J5,J6]
 iterate 5
  refine zqb [9,10,11,12,13] rfl rfl ?_ ?_ ?_;rotate_left
  ·(intro w hSw;obtain⟨hs1,hsb⟩:=hSw;obtain⟨q0,q1,q2,q3,q4,q5,q6,q7,q8,q9,q10,q11⟩:=cellsR hs1;go_simp;(try with_reducible rfl))
  try simp only[Act.put,J1,J2,J3,J4,J5,J6]
 refine zqe (NoPanic.normal ?_);have H4:=zh hHeld;clear hHeld H1 HD1 H2 H3;obtain⟨m0,m1,m2,m3,m4,m5,m6,m7,m8,m9,m10,m11⟩:=cellsR H4.out.1;go_wp2_with fail
 with_reducible refine (CSL.out _).mono ?_
 rintro e5 z5 ⟨rfl,hb⟩;have H5:Hid (RX 46 z5 w.heap.size x0 x1 x2 x3 x4 x5 x6 x7 x8 x9 xo xp∧Below w.heap.size w z5):=zh ⟨H4.out.1.keep hb H4.out.1.lt,H4.out.2.trans (hb.mono H4.out.2.size)⟩;clear hb;clear m0 m1 m2 m3 m4 m5 m6 m7 m8 m9 m10 m11;obtain⟨m0,m1,m2,m3,m4,m5,m6,m7,m8,m9,m10,m11⟩:=cellsR H5.out.1;have HD5:Hid (RX 46 z5.drew w.heap.size x0 x1 x2 x3 x4 x5 x6 x7 x8 x9 xo xp∧Below w.heap.size w z5.drew):=zh ⟨H5.out.1,H5.out.2.drew⟩;go_wp2_with fail
 refine wp_region_noPanic ?_;refine wp_region_held_drew (S:=fun W:World=>RX 46 W w.heap.size x0 x1 x2 x3 x4 x5 x6 x7 x8 x9 xo xp∧Below w.heap.size w W) (by kernel_rfl) ?_ (fun hHeld=>?_)
 ·exact HD5.out
 iterate 7
  refine zqb [0,1,2,3,4,5,6] rfl rfl ?_ ?_ ?_;rotate_left
  ·(intro w hSw;obtain⟨hs1,hsb⟩:=hSw;obtain⟨q0,q1,q2,q3,q4,q5,q6,q7,q8,q9,q10,q11⟩:=cellsR hs1;go_simp;(try with_reducible rfl))
  try simp only[Act.put,J1,J2,J3,J4,J5,J6]
 refine zqf [7] (AllReadyH.cons rfl (fun K hK=>?_) AllReadyH.nil);rw[if_pos (by rfl)];go_simp;with_reducible refine (CM.out _).mono ?_
 rintro e6 z6 ⟨rfl,hb⟩;have H6:Hid (RX 46 z6 w.heap.size x0 x1 x2 x3 x4 x5 x6 x7 x8 x9 xo xp∧Below w.heap.size w z6):=zh ⟨HD5.out.1.keep hb HD5.out.1.lt,HD5.out.2.trans (hb.mono HD5.out.2.size)⟩;clear hb;refine hK.out _ _ ?_ (fun hHeld=>?_)
 ·exact H6.out
 clear hK K
 try simp only[Act.put,J1,J2,J3,J4,J5,J6]
 iterate 5
  refine zqb [8,9,10,11,12] rfl rfl ?_ ?_ ?_;rotate_left
  ·(intro w hSw;obtain⟨hs1,hsb⟩:=hSw;obtain⟨q0,q1,q2,q3,q4,q5,q6,q7,q8,q9,q10,q11⟩:=cellsR hs1;go_simp;(try with_reducible rfl))
  try simp only[Act.put,J1,J2,J3,J4,J5,J6]
 refine zqe (NoPanic.normal ?_);have H7:=zh hHeld;clear hHeld;go_wp2_with fail
 with_reducible refine (CK.out _).mono ?_
 rintro e8 z8 ⟨rfl,hb⟩;have H8:Hid (RX 46 z8 w.heap.size x0 x1 x2 x3 x4 x5 x6 x7 x8 x9 xo xp∧Below w.heap.size w z8):=zh ⟨H7.out.1.keep hb H7.out.1.lt,H7.out.2.trans (hb.mono H7.out.2.size)⟩;clear hb;go_wp2_with fail
 go_ret2
 exact⟨rfl,H8.out.2⟩
end Go.Proofs.YtagbkmoahflfdaaGreatDoor.Se
namespace Go.Proofs.YtagbkmoahflfdaaGreatDoor.Pn
open Go.RowKit
theorem rwindow_low(w:World)(k:Int)(h0:k<1)(h1:-9223372036854775808≤k) :
 Calls Tryz.prog 92 #[.int .i64 k] w fun e w'=>e=.returned (.int .u64 256)∧w=w':=by
 go_enter Tryz.func92,Tryz.ntmps92;go_wp2_with fail
 refine wp_loop_rounds 6 ?_;rw[rounds_succ];go_wp2;rw[rounds_succ];go_wp2
 go_ret
 exact⟨rfl,rfl⟩
theorem rwindow_1(w:World) :
 Calls Tryz.prog 92 #[.int .i64 1] w fun e w'=>e=.returned (.int .u64 256)∧w=w':=by
 go_enter Tryz.func92,Tryz.ntmps92;go_wp2_with fail
 refine wp_loop_rounds 6 ?_;rw[rounds_succ];go_wp2;rw[rounds_succ];go_wp2
 go_ret
 exact⟨rfl,rfl⟩
theorem rwindow_2(w:World) :
 Calls Tryz.prog 92 #[.int .i64 2] w fun e w'=>e=.returned (.int .u64 65536)∧w=w':=by
 go_enter Tryz.func92,Tryz.ntmps92;go_wp2_with fail
 refine wp_loop_rounds 6 ?_;rw[rounds_succ];go_wp2;rw[rounds_succ];go_wp2;rw[rounds_succ];go_wp2
 go_ret
 exact⟨rfl,rfl⟩
theorem rwindow_3(w:World) :
 Calls Tryz.prog 92 #[.int .i64 3] w fun e w'=>e=.returned (.int .u64 16777216)∧w=w':=by
 go_enter Tryz.func92,Tryz.ntmps92;go_wp2_with fail
 refine wp_loop_rounds 6 ?_;rw[rounds_succ];go_wp2;rw[rounds_succ];go_wp2;rw[rounds_succ];go_wp2;rw[rounds_succ];go_wp2
 go_ret
 exact⟨rfl,rfl⟩
theorem rwindow_4(w:World) :
 Calls Tryz.prog 92 #[.int .i64 4] w fun e w'=>e=.returned (.int .u64 4294967296)∧w=w':=by
 go_enter Tryz.func92,Tryz.ntmps92;go_wp2_with fail
 refine wp_loop_rounds 6 ?_;rw[rounds_succ];go_wp2;rw[rounds_succ];go_wp2;rw[rounds_succ];go_wp2;rw[rounds_succ];go_wp2;rw[rounds_succ];go_wp2
 go_ret
 exact⟨rfl,rfl⟩
theorem rwindow_high(w:World)(k:Int)(h0:4<k)(h1:k≤9223372036854775807) :
 Calls Tryz.prog 92 #[.int .i64 k] w fun e w'=>e=.returned (.int .u64 4294967296)∧w=w':=by
 go_enter Tryz.func92,Tryz.ntmps92;go_wp2_with fail
 refine wp_loop_rounds 6 ?_;rw[rounds_succ];go_wp2;rw[rounds_succ];go_wp2;rw[rounds_succ];go_wp2;rw[rounds_succ];go_wp2;rw[rounds_succ];go_wp2
 go_ret
 exact⟨rfl,rfl⟩
theorem rwindow_any(k:Int)(w:World)(h0:-9223372036854775808≤k)(h1:k≤9223372036854775807) :
 Calls Tryz.prog 92 #[.int .i64 k] w fun e w'=>e=.returned (.int .u64 (wn (cl k)))∧w=w':=by
 by_cases h:k<1
 ·rw[cl_low h,wn_1];exact rwindow_low w k h h0
 ·by_cases h4:4<k
  ·rw[cl_high h4,wn_4];exact rwindow_high w k h4 h1
  ·rw[cl_mid (by omega) (by omega)]
   rcases four (c:=k) (by omega) (by omega) with rfl|rfl|rfl|rfl
   ·rw[wn_1];exact rwindow_1 w
   ·rw[wn_2];exact rwindow_2 w
   ·rw[wn_3];exact rwindow_3 w
   ·rw[wn_4];exact rwindow_4 w
theorem rcut_any(n k:Int)(w:World)(hn:0≤n)(hn1:n≤18446744073709551615)(h0:-9223372036854775808≤k)(h1:k≤9223372036854775807) :
 Calls Tryz.prog 59 #[.int .u64 n,.int .i64 k] w fun e w'=>e=.returned (.int .u64 (n%wn (cl k)))∧w=w':=by
 have hc:=cl_range k;have hr:=wn_range hc.1 hc.2;go_enter Tryz.func59,Tryz.ntmps59;go_wp2_with fail
 refine (rwindow_any _ _ h0 h1).mono ?_;rintro e w1 ⟨rfl,rfl⟩;go_wp2
 go_ret
 exact⟨rfl,rfl⟩
theorem rbytes_none_1(full acked:Int)(w:World)(h0:0≤full)(h1:full<4611686018427387904)(h2:0≤acked)(g1:2*(full+1)<256) :
 Calls Tryz.prog 57 #[.int .u64 full,.int .u64 acked,.bool false] w fun e w'=>e=.returned (.int .i64 1)∧w=w':=by
 go_enter Tryz.func57,Tryz.ntmps57;go_wp2_with fail
 refine wp_loop_rounds 6 ?_;rw[rounds_succ];go_wp2_with fail
 refine (rwindow_1 _).mono ?_;rintro e w1 ⟨rfl,rfl⟩;go_wp2_with fail
 go_ret
 exact⟨rfl,rfl⟩
theorem rbytes_none_2(full acked:Int)(w:World)(h0:0≤full)(h1:full<4611686018427387904)(h2:0≤acked)(g1:256≤2*(full+1))(g2:2*(full+1)<65536) :
 Calls Tryz.prog 57 #[.int .u64 full,.int .u64 acked,.bool false] w fun e w'=>e=.returned (.int .i64 2)∧w=w':=by
 go_enter Tryz.func57,Tryz.ntmps57;go_wp2_with fail
 refine wp_loop_rounds 6 ?_;rw[rounds_succ];go_wp2_with fail
 refine (rwindow_1 _).mono ?_;rintro e w1 ⟨rfl,rfl⟩;go_wp2_with fail
 rw[rounds_succ];go_wp2_with fail
 refine (rwindow_2 _).mono ?_;rintro e w1 ⟨rfl,rfl⟩;go_wp2_with fail
 go_ret
 exact⟨rfl,rfl⟩
theorem rbytes_none_3(full acked:Int)(w:World)(h0:0≤full)(h1:full<4611686018427387904)(h2:0≤acked)(g1:256≤2*(full+1))(g2:65536≤2*(full+1))(g3:2*(full+1)<16777216) :
 Calls Tryz.prog 57 #[.int .u64 full,.int .u64 acked,.bool false] w fun e w'=>e=.returned (.int .i64 3)∧w=w':=by
 go_enter Tryz.func57,Tryz.ntmps57;go_wp2_with fail
 refine wp_loop_rounds 6 ?_;rw[rounds_succ];go_wp2_with fail
 refine (rwindow_1 _).mono ?_;rintro e w1 ⟨rfl,rfl⟩;go_wp2_with fail
 rw[rounds_succ];go_wp2_with fail
 refine (rwindow_2 _).mono ?_;rintro e w1 ⟨rfl,rfl⟩;go_wp2_with fail
 rw[rounds_succ];go_wp2_with fail
 refine (rwindow_3 _).mono ?_;rintro e w1 ⟨rfl,rfl⟩;go_wp2_with fail
 go_ret
 exact⟨rfl,rfl⟩
theorem rbytes_none_4(full acked:Int)(w:World)(h0:0≤full)(h1:full<4611686018427387904)(h2:0≤acked)(g1:256≤2*(full+1))(g2:65536≤2*(full+1))(g3:16777216≤2*(full+1)) :
 Calls Tryz.prog 57 #[.int .u64 full,.int .u64 acked,.bool false] w fun e w'=>e=.returned (.int .i64 4)∧w=w':=by
 go_enter Tryz.func57,Tryz.ntmps57;go_wp2_with fail
 refine wp_loop_rounds 6 ?_;rw[rounds_succ];go_wp2_with fail
 refine (rwindow_1 _).mono ?_;rintro e w1 ⟨rfl,rfl⟩;go_wp2_with fail
 rw[rounds_succ];go_wp2_with fail
 refine (rwindow_2 _).mono ?_;rintro e w1 ⟨rfl,rfl⟩;go_wp2_with fail
 rw[rounds_succ];go_wp2_with fail
 refine (rwindow_3 _).mono ?_;rintro e w1 ⟨rfl,rfl⟩;go_wp2_with fail
 rw[rounds_succ];go_wp2
 go_ret
 exact⟨rfl,rfl⟩
theorem rbytes_far_1(full acked:Int)(w:World)(h0:0≤full)(h1:full<4611686018427387904)(h2:0≤acked)(ha:acked<full)(g1:2*(full-acked)<256) :
 Calls Tryz.prog 57 #[.int .u64 full,.int .u64 acked,.bool true] w fun e w'=>e=.returned (.int .i64 1)∧w=w':=by
 go_enter Tryz.func57,Tryz.ntmps57;go_wp2_with fail
 refine wp_loop_rounds 6 ?_;rw[rounds_succ];go_wp2_with fail
 refine (rwindow_1 _).mono ?_;rintro e w1 ⟨rfl,rfl⟩;go_wp2_with fail
 go_ret
 exact⟨rfl,rfl⟩
theorem rbytes_far_2(full acked:Int)(w:World)(h0:0≤full)(h1:full<4611686018427387904)(h2:0≤acked)(ha:acked<full)(g1:256≤2*(full-acked))(g2:2*(full-acked)<65536) :
 Calls Tryz.prog 57 #[.int .u64 full,.int .u64 acked,.bool true] w fun e w'=>e=.returned (.int .i64 2)∧w=w':=by
 go_enter Tryz.func57,Tryz.ntmps57;go_wp2_with fail
 refine wp_loop_rounds 6 ?_;rw[rounds_succ];go_wp2_with fail
 refine (rwindow_1 _).mono ?_;rintro e w1 ⟨rfl,rfl⟩;go_wp2_with fail
 rw[rounds_succ];go_wp2_with fail
 refine (rwindow_2 _).mono ?_;rintro e w1 ⟨rfl,rfl⟩;go_wp2_with fail
 go_ret
 exact⟨rfl,rfl⟩
theorem rbytes_far_3(full acked:Int)(w:World)(h0:0≤full)(h1:full<4611686018427387904)(h2:0≤acked)(ha:acked<full)(g1:256≤2*(full-acked))(g2:65536≤2*(full-acked))(g3:2*(full-acked)<16777216) :
 Calls Tryz.prog 57 #[.int .u64 full,.int .u64 acked,.bool true] w fun e w'=>e=.returned (.int .i64 3)∧w=w':=by
 go_enter Tryz.func57,Tryz.ntmps57;go_wp2_with fail
 refine wp_loop_rounds 6 ?_;rw[rounds_succ];go_wp2_with fail
 refine (rwindow_1 _).mono ?_;rintro e w1 ⟨rfl,rfl⟩;go_wp2_with fail
 rw[rounds_succ];go_wp2_with fail
 refine (rwindow_2 _).mono ?_;rintro e w1 ⟨rfl,rfl⟩;go_wp2_with fail
 rw[rounds_succ];go_wp2_with fail
 refine (rwindow_3 _).mono ?_;rintro e w1 ⟨rfl,rfl⟩;go_wp2_with fail
 go_ret
 exact⟨rfl,rfl⟩
theorem rbytes_far_4(full acked:Int)(w:World)(h0:0≤full)(h1:full<4611686018427387904)(h2:0≤acked)(ha:acked<full)(g1:256≤2*(full-acked))(g2:65536≤2*(full-acked))(g3:16777216≤2*(full-acked)) :
 Calls Tryz.prog 57 #[.int .u64 full,.int .u64 acked,.bool true] w fun e w'=>e=.returned (.int .i64 4)∧w=w':=by
 go_enter Tryz.func57,Tryz.ntmps57;go_wp2_with fail
 refine wp_loop_rounds 6 ?_;rw[rounds_succ];go_wp2_with fail
 refine (rwindow_1 _).mono ?_;rintro e w1 ⟨rfl,rfl⟩;go_wp2_with fail
 rw[rounds_succ];go_wp2_with fail
 refine (rwindow_2 _).mono ?_;rintro e w1 ⟨rfl,rfl⟩;go_wp2_with fail
 rw[rounds_succ];go_wp2_with fail
 refine (rwindow_3 _).mono ?_;rintro e w1 ⟨rfl,rfl⟩;go_wp2_with fail
 rw[rounds_succ];go_wp2
 go_ret
 exact⟨rfl,rfl⟩
theorem rbytes_near_1(full acked:Int)(w:World)(h0:0≤full)(h1:full<4611686018427387904)(h2:0≤acked)(ha:full≤acked) :
 Calls Tryz.prog 57 #[.int .u64 full,.int .u64 acked,.bool true] w fun e w'=>e=.returned (.int .i64 1)∧w=w':=by
 go_enter Tryz.func57,Tryz.ntmps57;go_wp2_with fail
 refine wp_loop_rounds 6 ?_;rw[rounds_succ];go_wp2_with fail
 refine (rwindow_1 _).mono ?_;rintro e w1 ⟨rfl,rfl⟩;go_wp2_with fail
 go_ret
 exact⟨rfl,rfl⟩
theorem by_1{d:Int}(g1:2*d<256):by' d=1:=by unfold by';rw[if_pos g1]
theorem by_2{d:Int}(g1:256≤2*d)(g2:2*d<65536):by' d=2:=by unfold by';rw[if_neg (by omega),if_pos g2]
theorem by_3{d:Int}(g1:256≤2*d)(g2:65536≤2*d)(g3:2*d<16777216):by' d=3:=by unfold by';rw[if_neg (by omega),if_neg (by omega),if_pos g3]
theorem by_4{d:Int}(g1:256≤2*d)(g2:65536≤2*d)(g3:16777216≤2*d):by' d=4:=by unfold by';rw[if_neg (by omega),if_neg (by omega),if_neg (by omega)]
theorem by_range(d:Int):1≤by' d∧by' d≤4:=by unfold by';split<;>(try split)<;>(try split)<;>omega
theorem ds_none(full acked:Int):ds full acked false=full+1:=by simp[ds]
theorem ds_far{full acked:Int}(h:acked<full):ds full acked true=full-acked:=by simp[ds,h]
theorem ds_near{full acked:Int}(h:full≤acked):ds full acked true=1:=by simp[ds];omega
theorem rbytes_any(full acked:Int)(any:Bool)(w:World)(h0:0≤full)(h1:full<4611686018427387904)(h2:0≤acked) :
 Calls Tryz.prog 57 #[.int .u64 full,.int .u64 acked,.bool any] w fun e w'=>e=.returned (.int .i64 (by' (ds full acked any)))∧w=w':=by
 cases any
 ·rw[ds_none]
  by_cases g1:2*(full+1)<256
  ·rw[by_1 g1];exact rbytes_none_1 full acked w h0 h1 h2 g1
  ·by_cases g2:2*(full+1)<65536
   ·rw[by_2 (by omega) g2];exact rbytes_none_2 full acked w h0 h1 h2 (by omega) g2
   ·by_cases g3:2*(full+1)<16777216
    ·rw[by_3 (by omega) (by omega) g3];exact rbytes_none_3 full acked w h0 h1 h2 (by omega) (by omega) g3
    ·rw[by_4 (by omega) (by omega) (by omega)];exact rbytes_none_4 full acked w h0 h1 h2 (by omega) (by omega) (by omega)
 ·by_cases ha:acked<full
  ·rw[ds_far ha]
   by_cases g1:2*(full-acked)<256
   ·rw[by_1 g1];exact rbytes_far_1 full acked w h0 h1 h2 ha g1
   ·by_cases g2:2*(full-acked)<65536
    ·rw[by_2 (by omega) g2];exact rbytes_far_2 full acked w h0 h1 h2 ha (by omega) g2
    ·by_cases g3:2*(full-acked)<16777216
     ·rw[by_3 (by omega) (by omega) g3];exact rbytes_far_3 full acked w h0 h1 h2 ha (by omega) (by omega) g3
     ·rw[by_4 (by omega) (by omega) (by omega)];exact rbytes_far_4 full acked w h0 h1 h2 ha (by omega) (by omega) (by omega)
  ·rw[ds_near (by omega),by_1 (by omega)];exact rbytes_near_1 full acked w h0 h1 h2 (by omega)
theorem rexpand_n_zero(l x k:Int)(w:World)(hl:0≤l)(hl1:l<4611686018427387904)(hx:0≤x)(hx1:x≤18446744073709551615)(h0:-9223372036854775808≤k)(h1:k≤9223372036854775807)
 (g2:wn (cl k)/2<x%wn (cl k)) :
 Calls Tryz.prog 68 #[.int .u64 l,.bool false,.int .u64 x,.int .i64 k] w fun y w'=>y=.returned (.int .u64 (x%wn (cl k)))∧Below w.heap.size w w':=by
 have hc:=cl_range k;have hr:=wn_range hc.1 hc.2;have m2:=mod_bd (n:=x) (W:=wn (cl k)) (by omega) hx;go_enter Tryz.func68,Tryz.ntmps68;go_wp2_with fail
 refine (rwindow_any _ _ h0 h1).mono ?_;rintro e w1 ⟨rfl,rfl⟩;go_wp2_with fail
 go_region
 go_wp2
 go_ret
 exact⟨rfl,below_drew (Below.refl _ _)⟩
theorem rexpand_n_here(l x k:Int)(w:World)(hl:0≤l)(hl1:l<4611686018427387904)(hx:0≤x)(hx1:x≤18446744073709551615)(h0:-9223372036854775808≤k)(h1:k≤9223372036854775807)
 (g2:x%wn (cl k)≤wn (cl k)/2) :
 Calls Tryz.prog 68 #[.int .u64 l,.bool false,.int .u64 x,.int .i64 k] w fun y w'=>y=.returned (.int .u64 (x%wn (cl k)))∧Below w.heap.size w w':=by
 have hc:=cl_range k;have hr:=wn_range hc.1 hc.2;have m2:=mod_bd (n:=x) (W:=wn (cl k)) (by omega) hx;go_enter Tryz.func68,Tryz.ntmps68;go_wp2_with fail
 refine (rwindow_any _ _ h0 h1).mono ?_;rintro e w1 ⟨rfl,rfl⟩;go_wp2_with fail
 go_region
 go_wp2
 go_ret
 exact⟨rfl,below_drew (Below.refl _ _)⟩
theorem rexpand_s_up(l x k:Int)(w:World)(hl:0≤l)(hl1:l<4611686018427387904)(hx:0≤x)(hx1:x≤18446744073709551615)(h0:-9223372036854775808≤k)(h1:k≤9223372036854775807)
 (g1:l+1-(l+1)%wn (cl k)+x%wn (cl k)+wn (cl k)/2≤l+1)(g2:l+1-(l+1)%wn (cl k)+x%wn (cl k)<4611686018427387904-wn (cl k)) :
 Calls Tryz.prog 68 #[.int .u64 l,.bool true,.int .u64 x,.int .i64 k] w fun y w'=>y=.returned (.int .u64 (l+1-(l+1)%wn (cl k)+x%wn (cl k)+wn (cl k)))∧Below w.heap.size w w':=by
 have hc:=cl_range k;have hr:=wn_range hc.1 hc.2;have m2:=mod_bd (n:=x) (W:=wn (cl k)) (by omega) hx;have m1:=mod_bd (n:=l+1) (W:=wn (cl k)) (by omega) (by omega);have e1:IntKind.u64.wrap (l+1-(l+1)%wn (cl k))=l+1-(l+1)%wn (cl k):=wr (by omega) (by omega);have e2:IntKind.u64.wrap (l+1-(l+1)%wn (cl k)+x%wn (cl k))=l+1-(l+1)%wn (cl k)+x%wn (cl k):=wr (by omega) (by omega);go_enter Tryz.func68,Tryz.ntmps68;go_wp2_with fail
 refine (rwindow_any _ _ h0 h1).mono ?_;rintro e w1 ⟨rfl,rfl⟩;go_wp2_with fail
 go_region
 go_wp2
 go_ret
 exact⟨rfl,below_drew (Below.refl _ _)⟩
theorem rexpand_s_end(l x k:Int)(w:World)(hl:0≤l)(hl1:l<4611686018427387904)(hx:0≤x)(hx1:x≤18446744073709551615)(h0:-9223372036854775808≤k)(h1:k≤9223372036854775807)
 (g1:l+1-(l+1)%wn (cl k)+x%wn (cl k)+wn (cl k)/2≤l+1)(g2:4611686018427387904-wn (cl k)≤l+1-(l+1)%wn (cl k)+x%wn (cl k)) :
 Calls Tryz.prog 68 #[.int .u64 l,.bool true,.int .u64 x,.int .i64 k] w fun y w'=>y=.returned (.int .u64 (l+1-(l+1)%wn (cl k)+x%wn (cl k)))∧Below w.heap.size w w':=by
 have hc:=cl_range k;have hr:=wn_range hc.1 hc.2;have m2:=mod_bd (n:=x) (W:=wn (cl k)) (by omega) hx;have m1:=mod_bd (n:=l+1) (W:=wn (cl k)) (by omega) (by omega);have e1:IntKind.u64.wrap (l+1-(l+1)%wn (cl k))=l+1-(l+1)%wn (cl k):=wr (by omega) (by omega);have e2:IntKind.u64.wrap (l+1-(l+1)%wn (cl k)+x%wn (cl k))=l+1-(l+1)%wn (cl k)+x%wn (cl k):=wr (by omega) (by omega);go_enter Tryz.func68,Tryz.ntmps68;go_wp2_with fail
 refine (rwindow_any _ _ h0 h1).mono ?_;rintro e w1 ⟨rfl,rfl⟩;go_wp2_with fail
 go_region
 go_wp2
 go_ret
 exact⟨rfl,below_drew (Below.refl _ _)⟩
theorem rexpand_s_down(l x k:Int)(w:World)(hl:0≤l)(hl1:l<4611686018427387904)(hx:0≤x)(hx1:x≤18446744073709551615)(h0:-9223372036854775808≤k)(h1:k≤9223372036854775807)
 (g1:l+1<l+1-(l+1)%wn (cl k)+x%wn (cl k)+wn (cl k)/2)(g2:l+1+wn (cl k)/2<l+1-(l+1)%wn (cl k)+x%wn (cl k))(g3:wn (cl k)≤l+1-(l+1)%wn (cl k)+x%wn (cl k)) :
 Calls Tryz.prog 68 #[.int .u64 l,.bool true,.int .u64 x,.int .i64 k] w fun y w'=>y=.returned (.int .u64 (l+1-(l+1)%wn (cl k)+x%wn (cl k)-wn (cl k)))∧Below w.heap.size w w':=by
 have hc:=cl_range k;have hr:=wn_range hc.1 hc.2;have m2:=mod_bd (n:=x) (W:=wn (cl k)) (by omega) hx;have m1:=mod_bd (n:=l+1) (W:=wn (cl k)) (by omega) (by omega);have e1:IntKind.u64.wrap (l+1-(l+1)%wn (cl k))=l+1-(l+1)%wn (cl k):=wr (by omega) (by omega);have e2:IntKind.u64.wrap (l+1-(l+1)%wn (cl k)+x%wn (cl k))=l+1-(l+1)%wn (cl k)+x%wn (cl k):=wr (by omega) (by omega);go_enter Tryz.func68,Tryz.ntmps68;go_wp2_with fail
 refine (rwindow_any _ _ h0 h1).mono ?_;rintro e w1 ⟨rfl,rfl⟩;go_wp2_with fail
 go_region
 go_wp2
 go_ret
 exact⟨rfl,below_drew (Below.refl _ _)⟩
theorem rexpand_s_zero(l x k:Int)(w:World)(hl:0≤l)(hl1:l<4611686018427387904)(hx:0≤x)(hx1:x≤18446744073709551615)(h0:-9223372036854775808≤k)(h1:k≤9223372036854775807)
 (g1:l+1<l+1-(l+1)%wn (cl k)+x%wn (cl k)+wn (cl k)/2)(g2:l+1+wn (cl k)/2<l+1-(l+1)%wn (cl k)+x%wn (cl k))(g3:l+1-(l+1)%wn (cl k)+x%wn (cl k)<wn (cl k)) :
 Calls Tryz.prog 68 #[.int .u64 l,.bool true,.int .u64 x,.int .i64 k] w fun y w'=>y=.returned (.int .u64 (l+1-(l+1)%wn (cl k)+x%wn (cl k)))∧Below w.heap.size w w':=by
 have hc:=cl_range k;have hr:=wn_range hc.1 hc.2;have m2:=mod_bd (n:=x) (W:=wn (cl k)) (by omega) hx;have m1:=mod_bd (n:=l+1) (W:=wn (cl k)) (by omega) (by omega);have e1:IntKind.u64.wrap (l+1-(l+1)%wn (cl k))=l+1-(l+1)%wn (cl k):=wr (by omega) (by omega);have e2:IntKind.u64.wrap (l+1-(l+1)%wn (cl k)+x%wn (cl k))=l+1-(l+1)%wn (cl k)+x%wn (cl k):=wr (by omega) (by omega);go_enter Tryz.func68,Tryz.ntmps68;go_wp2_with fail
 refine (rwindow_any _ _ h0 h1).mono ?_;rintro e w1 ⟨rfl,rfl⟩;go_wp2_with fail
 go_region
 go_wp2
 go_ret
 exact⟨rfl,below_drew (Below.refl _ _)⟩
theorem rexpand_s_here(l x k:Int)(w:World)(hl:0≤l)(hl1:l<4611686018427387904)(hx:0≤x)(hx1:x≤18446744073709551615)(h0:-9223372036854775808≤k)(h1:k≤9223372036854775807)
 (g1:l+1<l+1-(l+1)%wn (cl k)+x%wn (cl k)+wn (cl k)/2)(g2:l+1-(l+1)%wn (cl k)+x%wn (cl k)≤l+1+wn (cl k)/2) :
 Calls Tryz.prog 68 #[.int .u64 l,.bool true,.int .u64 x,.int .i64 k] w fun y w'=>y=.returned (.int .u64 (l+1-(l+1)%wn (cl k)+x%wn (cl k)))∧Below w.heap.size w w':=by
 have hc:=cl_range k;have hr:=wn_range hc.1 hc.2;have m2:=mod_bd (n:=x) (W:=wn (cl k)) (by omega) hx;have m1:=mod_bd (n:=l+1) (W:=wn (cl k)) (by omega) (by omega);have e1:IntKind.u64.wrap (l+1-(l+1)%wn (cl k))=l+1-(l+1)%wn (cl k):=wr (by omega) (by omega);have e2:IntKind.u64.wrap (l+1-(l+1)%wn (cl k)+x%wn (cl k))=l+1-(l+1)%wn (cl k)+x%wn (cl k):=wr (by omega) (by omega);go_enter Tryz.func68,Tryz.ntmps68;go_wp2_with fail
 refine (rwindow_any _ _ h0 h1).mono ?_;rintro e w1 ⟨rfl,rfl⟩;go_wp2_with fail
 go_region
 go_wp2
 go_ret
 exact⟨rfl,below_drew (Below.refl _ _)⟩
theorem cd_zero(x W:Int):cd 0 x W=x%W:=by unfold cd;rw[Int.zero_emod];omega
theorem ex_none{l x W:Int}(hW:256≤W)(hx:0≤x):ex l false x W=x%W:=by
 have m2:=mod_bd (n:=x) (W:=W) (by omega) hx;rw[show ex l false x W=nr 0 (cd 0 x W) W from rfl,cd_zero];unfold nr;rw[if_neg (by omega),if_neg (by omega)]
theorem rexpand_any(l x k:Int)(any:Bool)(w:World)(hl:0≤l)(hl1:l<4611686018427387904)(hx:0≤x)(hx1:x≤18446744073709551615)(h0:-9223372036854775808≤k)(h1:k≤9223372036854775807) :
 Calls Tryz.prog 68 #[.int .u64 l,.bool any,.int .u64 x,.int .i64 k] w fun y w'=>y=.returned (.int .u64 (ex l any x (wn (cl k))))∧Below w.heap.size w w':=by
 have hc:=cl_range k;have hr:=wn_range hc.1 hc.2
 cases any
 ·rw[ex_none hr.1 hx]
  by_cases g2:wn (cl k)/2<x%wn (cl k)
  ·exact rexpand_n_zero l x k w hl hl1 hx hx1 h0 h1 g2
  ·exact rexpand_n_here l x k w hl hl1 hx hx1 h0 h1 (by omega)
 ·rw[show ex l true x (wn (cl k))=nr (l+1) (cd (l+1) x (wn (cl k))) (wn (cl k)) from rfl,show cd (l+1) x (wn (cl k))=l+1-(l+1)%wn (cl k)+x%wn (cl k) from rfl]
  unfold nr;by_cases g1:l+1-(l+1)%wn (cl k)+x%wn (cl k)+wn (cl k)/2≤l+1
  ·by_cases g2:l+1-(l+1)%wn (cl k)+x%wn (cl k)<4611686018427387904-wn (cl k)
   ·rw[if_pos ⟨g1,g2⟩];exact rexpand_s_up l x k w hl hl1 hx hx1 h0 h1 g1 g2
   ·rw[if_neg (by omega),if_neg (by omega)];exact rexpand_s_end l x k w hl hl1 hx hx1 h0 h1 g1 (by omega)
  ·rw[if_neg (by omega)]
   by_cases g2:l+1+wn (cl k)/2<l+1-(l+1)%wn (cl k)+x%wn (cl k)
   ·by_cases g3:wn (cl k)≤l+1-(l+1)%wn (cl k)+x%wn (cl k)
    ·rw[if_pos ⟨g2,g3⟩];exact rexpand_s_down l x k w hl hl1 hx hx1 h0 h1 (by omega) g2 g3
    ·rw[if_neg (by omega)];exact rexpand_s_zero l x k w hl hl1 hx hx1 h0 h1 (by omega) g2 (by omega)
   ·rw[if_neg (by omega)];exact rexpand_s_here l x k w hl hl1 hx hx1 h0 h1 (by omega) (by omega)
end Go.Proofs.YtagbkmoahflfdaaGreatDoor.Pn
namespace Go.Proofs.YtagbkmoahflfdaaGreatDoor.Pn
def IsWin (W:Int):Prop:=W=256∨W=65536∨W=16777216∨W=4294967296
theorem isWin(k:Int):IsWin (wn (cl k)):=wn_cases (cl_range k).1 (cl_range k).2
theorem ex_some(l x W:Int):ex l true x W=nr (l+1) (cd (l+1) x W) W:=rfl
theorem nr_cases(e c W:Int):(nr e c W=c+W∧c+W/2≤e∧c<4611686018427387904-W)∨(nr e c W=c-W∧¬(c+W/2≤e∧c<4611686018427387904-W)∧e+W/2<c∧W≤c) ∨
 (nr e c W=c∧¬(c+W/2≤e∧c<4611686018427387904-W)∧¬(e+W/2<c∧W≤c)):=by
 unfold nr;by_cases g:c+W/2≤e∧c<4611686018427387904-W
 ·rw[if_pos g];exact .inl ⟨rfl,g⟩
 ·rw[if_neg g]
  by_cases g2:e+W/2<c∧W≤c
  ·rw[if_pos g2];exact .inr (.inl ⟨rfl,g,g2⟩)
  ·rw[if_neg g2];exact .inr (.inr ⟨rfl,g,g2⟩)
theorem ex_near{l x W:Int}(hW:IsWin W)(hl:0≤l)(hl1:l<4611686018427387904)(hx:0≤x) :
 ex l true x W%W=x%W∧l+1<ex l true x W+W∧ex l true x W<l+1+W∧0≤ex l true x W:=by
 rw[ex_some];have hc:=nr_cases (l+1) (cd (l+1) x W) W;unfold cd at *
 rcases hW with rfl|rfl|rfl|rfl<;>omega
end Go.Proofs.YtagbkmoahflfdaaGreatDoor.Pn
