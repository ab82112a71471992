import Derived.Test.YtagbkmoahflfdaaGreatDoorJp01
import Derived.Test.YtagbkmoahflfdaaGreatDoorJp23
import Derived.Test.YtagbkmoahflfdaaGreatDoorJp14
set_option maxHeartbeats 8000000
set_option maxRecDepth 20000
set_option linter.unusedVariables false
set_option linter.unusedSimpArgs false
namespace Go.Proofs.YtagbkmoahflfdaaGreatDoor.Pn
open Tk Go.RowKit
theorem box_drew{B:Nat}{v0 v1:Value}{w0 w:World}
 (h:w.cell? ⟨B,0,none⟩=some v0∧w.cell? ⟨B,1,none⟩=some v1∧Below B w0 w∧B<w.heap.size) :
 w.drew.cell? ⟨B,0,none⟩=some v0∧w.drew.cell? ⟨B,1,none⟩=some v1∧Below B w0 w.drew∧B<w.drew.heap.size:=
 ⟨h.1,h.2.1,below_drew h.2.2.1,h.2.2.2⟩
theorem nearest_up(c e x:Int)(w:World)(h0:1≤c)(h1:c≤4)(he:0≤e)(he1:e≤4611686018427387904)(hx:0≤x)(hx1:x≤4611686022722355200)
 (g1:x+wn c/2≤e)(g2:x<4611686018427387904-wn c) :
  Calls Tryz.prog 101 #[.agg #[.int .i64 c,.int .u64 e],.int .u64 x] w fun y w'=>y=.returned (.int .u64 (x+wn c))∧Below w.heap.size w w':=by
 have hr:=wn_range h0 h1;have LH:=zh (fun w=>half_any c w h0 h1);have LS:=zh (fun w=>size_any c w h0 h1);have e1:IntKind.u64.wrap (x+wn c/2)=x+wn c/2:=wr (by omega) (by omega);have e2:IntKind.u64.wrap (4611686018427387904-wn c)=4611686018427387904-wn c:=wr (by omega) (by omega);have e3:IntKind.u64.wrap (e+wn c/2)=e+wn c/2:=wr (by omega) (by omega);have d1:decide (x+wn c/2≤e)=true:=decide_eq_true (by omega);have d2:decide (x<4611686018427387904-wn c)=true:=decide_eq_true (by omega);go_enter Tryz.func101,Tryz.ntmps101;go_wp2_with fail
 first|go_region_held3 (fun w'=>w'.cell? ⟨w.heap.size,0,none⟩=some (.int .i64 c)∧w'.cell? ⟨w.heap.size,1,none⟩=some (.int .u64 e)∧Below w.heap.size w w'∧w.heap.size<w'.heap.size)
  (first|(refine box_keep hb ?_;assumption)|(refine box_drew ?_;assumption)|(refine⟨by simp[go_sem],by simp[go_sem],below_drew ((Below.refl _ _).alloc zle _),by simp⟩)|go_keep)
  (first | (go_at_call 132; (with_reducible refine (LH.out _).mono ?_); rintro y w1 ⟨rfl, hb⟩) | (go_at_call 118; (with_reducible refine (LS.out _).mono ?_); rintro y w1 ⟨rfl, hb⟩)) | fail "region"
 rename_i hH
 go_wp2_with fail
 obtain⟨q0,q1,qb,ql⟩:=hH;refine (LS.out _).mono ?_;rintro y w2 ⟨rfl,hb2⟩;clear e1 e2 e3;go_wp2
 go_ret
 exact⟨rfl,qb.trans (hb2.mono (by omega))⟩
theorem nearest_end(c e x:Int)(w:World)(h0:1≤c)(h1:c≤4)(he:0≤e)(he1:e≤4611686018427387904)(hx:0≤x)(hx1:x≤4611686022722355200)
 (g1:x+wn c/2≤e)(g2:4611686018427387904-wn c≤x) :
  Calls Tryz.prog 101 #[.agg #[.int .i64 c,.int .u64 e],.int .u64 x] w fun y w'=>y=.returned (.int .u64 (x))∧Below w.heap.size w w':=by
 have hr:=wn_range h0 h1;have LH:=zh (fun w=>half_any c w h0 h1);have LS:=zh (fun w=>size_any c w h0 h1);have e1:IntKind.u64.wrap (x+wn c/2)=x+wn c/2:=wr (by omega) (by omega);have e2:IntKind.u64.wrap (4611686018427387904-wn c)=4611686018427387904-wn c:=wr (by omega) (by omega);have e3:IntKind.u64.wrap (e+wn c/2)=e+wn c/2:=wr (by omega) (by omega);have d1:decide (x+wn c/2≤e)=true:=decide_eq_true (by omega);have d2:decide (x<4611686018427387904-wn c)=false:=decide_eq_false (by omega);have d3:decide (e+wn c/2<x)=false:=decide_eq_false (by omega);go_enter Tryz.func101,Tryz.ntmps101;go_wp2_with fail
 first|go_region_held3 (fun w'=>w'.cell? ⟨w.heap.size,0,none⟩=some (.int .i64 c)∧w'.cell? ⟨w.heap.size,1,none⟩=some (.int .u64 e)∧Below w.heap.size w w'∧w.heap.size<w'.heap.size)
  (first|(refine box_keep hb ?_;assumption)|(refine box_drew ?_;assumption)|(refine⟨by simp[go_sem],by simp[go_sem],below_drew ((Below.refl _ _).alloc zle _),by simp⟩)|go_keep)
  (first | (go_at_call 132; (with_reducible refine (LH.out _).mono ?_); rintro y w1 ⟨rfl, hb⟩) | (go_at_call 118; (with_reducible refine (LS.out _).mono ?_); rintro y w1 ⟨rfl, hb⟩)) | fail "region"
 rename_i hH
 go_wp2_with fail
 refine wp_region_noPanic ?_;refine wp_region_held_drew (S:=fun w'=>w'.cell? ⟨w.heap.size,0,none⟩=some (.int .i64 c)∧w'.cell? ⟨w.heap.size,1,none⟩=some (.int .u64 e)∧Below w.heap.size w w'∧w.heap.size<w'.heap.size) (by kernel_rfl) ?_ (fun hHeld=>?_)
 ·exact box_drew hH
 iterate 5
  refine zqb [0,1,2,3,4] rfl rfl ?_ ?_ ?_;rotate_left
  ·(intro w hSw;(try dsimp only at hSw);go_simp;(try with_reducible rfl))
  try simp only[Act.put,J1,J2,J3,J4,J5,J6]
 refine zqf [5] (AllReadyH.cons rfl (fun K hK=>?_) AllReadyH.nil);rw[if_pos (by rfl)];go_simp
 (refine (LH.out _).mono ?_);rintro y w1 ⟨rfl,hb⟩
 refine hK.out _ _ ?_ (fun hHeld=>?_)
 ·exact box_keep hb hHeld
 clear hK K
 try simp only[Act.put,J1,J2,J3,J4,J5,J6]
 iterate 3
  refine zqb [6,7,8] rfl rfl ?_ ?_ ?_;rotate_left
  ·(intro w hSw;(try dsimp only at hSw);go_simp;(try with_reducible rfl))
  try simp only[Act.put,J1,J2,J3,J4,J5,J6]
 refine zqc 9 rfl ?_
 try simp only[Act.put,J1,J2,J3,J4,J5,J6]
 refine zqc 10 rfl ?_
 try simp only[Act.put,J1,J2,J3,J4,J5,J6]
 refine zqc 11 rfl ?_
 try simp only[Act.put,J1,J2,J3,J4,J5,J6]
 refine zqc 12 rfl ?_
 try simp only[Act.put,J1,J2,J3,J4,J5,J6]
 refine zqc 13 rfl ?_
 try simp only[Act.put,J1,J2,J3,J4,J5,J6]
 iterate 2
  refine zqb [14,15] rfl rfl ?_ ?_ ?_;rotate_left
  ·(intro w hSw;(try dsimp only at hSw);go_simp;(try with_reducible rfl))
  try simp only[Act.put,J1,J2,J3,J4,J5,J6]
 refine zqe (NoPanic.normal ?_);have hH:=hHeld;clear hHeld;go_wp2_with fail
 obtain⟨q0,q1,qb,ql⟩:=hH;clear e1 e2 e3;go_wp2
 go_ret
 exact⟨rfl,qb⟩
theorem nearest_down(c e x:Int)(w:World)(h0:1≤c)(h1:c≤4)(he:0≤e)(he1:e≤4611686018427387904)(hx:0≤x)(hx1:x≤4611686022722355200)
 (g1:e<x+wn c/2)(g2:e+wn c/2<x)(g3:wn c≤x) :
  Calls Tryz.prog 101 #[.agg #[.int .i64 c,.int .u64 e],.int .u64 x] w fun y w'=>y=.returned (.int .u64 (x-wn c))∧Below w.heap.size w w':=by
 have hr:=wn_range h0 h1;have LH:=zh (fun w=>half_any c w h0 h1);have LS:=zh (fun w=>size_any c w h0 h1);have e1:IntKind.u64.wrap (x+wn c/2)=x+wn c/2:=wr (by omega) (by omega);have e2:IntKind.u64.wrap (4611686018427387904-wn c)=4611686018427387904-wn c:=wr (by omega) (by omega);have e3:IntKind.u64.wrap (e+wn c/2)=e+wn c/2:=wr (by omega) (by omega);have d1:decide (x+wn c/2≤e)=false:=decide_eq_false (by omega);have d3:decide (e+wn c/2<x)=true:=decide_eq_true (by omega);have d4:decide (wn c≤x)=true:=decide_eq_true (by omega);go_enter Tryz.func101,Tryz.ntmps101;go_wp2_with fail
 refine wp_region_noPanic ?_;refine wp_region_held_drew (S:=fun w'=>w'.cell? ⟨w.heap.size,0,none⟩=some (.int .i64 c)∧w'.cell? ⟨w.heap.size,1,none⟩=some (.int .u64 e)∧Below w.heap.size w w'∧w.heap.size<w'.heap.size) (by kernel_rfl) ?_ (fun hHeld=>?_)
 ·exact⟨by simp[go_sem],by simp[go_sem],below_drew ((Below.refl _ _).alloc zle _),by simp⟩
 iterate 5
  refine zqb [0,1,2,5,6] rfl rfl ?_ ?_ ?_;rotate_left
  ·(intro w hSw;(try dsimp only at hSw);go_simp;(try with_reducible rfl))
  try simp only[Act.put,J1,J2,J3,J4,J5,J6]
 refine zqf [3] (AllReadyH.cons rfl (fun K hK=>?_) AllReadyH.nil);rw[if_pos (by rfl)];go_simp
 (refine (LH.out _).mono ?_);rintro y w1 ⟨rfl,hb⟩
 refine hK.out _ _ ?_ (fun hHeld=>?_)
 ·exact box_keep hb hHeld
 clear hK K
 try simp only[Act.put,J1,J2,J3,J4,J5,J6]
 iterate 3
  refine zqb [4,7,8] rfl rfl ?_ ?_ ?_;rotate_left
  ·(intro w hSw;(try dsimp only at hSw);go_simp;(try with_reducible rfl))
  try simp only[Act.put,J1,J2,J3,J4,J5,J6]
 refine zqc 9 rfl ?_
 try simp only[Act.put,J1,J2,J3,J4,J5,J6]
 refine zqc 10 rfl ?_
 try simp only[Act.put,J1,J2,J3,J4,J5,J6]
 refine zqc 11 rfl ?_
 try simp only[Act.put,J1,J2,J3,J4,J5,J6]
 refine zqc 12 rfl ?_
 try simp only[Act.put,J1,J2,J3,J4,J5,J6]
 refine zqc 13 rfl ?_
 try simp only[Act.put,J1,J2,J3,J4,J5,J6]
 refine zqc 14 rfl ?_
 try simp only[Act.put,J1,J2,J3,J4,J5,J6]
 iterate 2
  refine zqb [15,16] rfl rfl ?_ ?_ ?_;rotate_left
  ·(intro w hSw;(try dsimp only at hSw);go_simp;(try with_reducible rfl))
  try simp only[Act.put,J1,J2,J3,J4,J5,J6]
 refine zqe (NoPanic.normal ?_);have hH:=hHeld;clear hHeld;go_wp2_with fail
 first|go_region_held3 (fun w'=>w'.cell? ⟨w.heap.size,0,none⟩=some (.int .i64 c)∧w'.cell? ⟨w.heap.size,1,none⟩=some (.int .u64 e)∧Below w.heap.size w w'∧w.heap.size<w'.heap.size)
  (first|(refine box_keep hb ?_;assumption)|(refine box_drew ?_;assumption)|(refine⟨by simp[go_sem],by simp[go_sem],below_drew ((Below.refl _ _).alloc zle _),by simp⟩)|go_keep)
  (first | (go_at_call 132; (with_reducible refine (LH.out _).mono ?_); rintro y w1 ⟨rfl, hb⟩) | (go_at_call 118; (with_reducible refine (LS.out _).mono ?_); rintro y w1 ⟨rfl, hb⟩)) | fail "region"
 rename_i hH
 go_wp2_with fail
 obtain⟨q0,q1,qb,ql⟩:=hH;refine (LS.out _).mono ?_;rintro y w2 ⟨rfl,hb2⟩;clear e1 e2 e3;go_wp2
 go_ret
 exact⟨rfl,qb.trans (hb2.mono (by omega))⟩
theorem nearest_zero(c e x:Int)(w:World)(h0:1≤c)(h1:c≤4)(he:0≤e)(he1:e≤4611686018427387904)(hx:0≤x)(hx1:x≤4611686022722355200)
 (g1:e<x+wn c/2)(g2:e+wn c/2<x)(g3:x<wn c) :
  Calls Tryz.prog 101 #[.agg #[.int .i64 c,.int .u64 e],.int .u64 x] w fun y w'=>y=.returned (.int .u64 (x))∧Below w.heap.size w w':=by
 have hr:=wn_range h0 h1;have LH:=zh (fun w=>half_any c w h0 h1);have LS:=zh (fun w=>size_any c w h0 h1);have e1:IntKind.u64.wrap (x+wn c/2)=x+wn c/2:=wr (by omega) (by omega);have e2:IntKind.u64.wrap (4611686018427387904-wn c)=4611686018427387904-wn c:=wr (by omega) (by omega);have e3:IntKind.u64.wrap (e+wn c/2)=e+wn c/2:=wr (by omega) (by omega);have d1:decide (x+wn c/2≤e)=false:=decide_eq_false (by omega);have d3:decide (e+wn c/2<x)=true:=decide_eq_true (by omega);have d4:decide (wn c≤x)=false:=decide_eq_false (by omega);go_enter Tryz.func101,Tryz.ntmps101;go_wp2_with fail
 refine wp_region_noPanic ?_;refine wp_region_held_drew (S:=fun w'=>w'.cell? ⟨w.heap.size,0,none⟩=some (.int .i64 c)∧w'.cell? ⟨w.heap.size,1,none⟩=some (.int .u64 e)∧Below w.heap.size w w'∧w.heap.size<w'.heap.size) (by kernel_rfl) ?_ (fun hHeld=>?_)
 ·exact⟨by simp[go_sem],by simp[go_sem],below_drew ((Below.refl _ _).alloc zle _),by simp⟩
 iterate 5
  refine zqb [0,1,2,5,6] rfl rfl ?_ ?_ ?_;rotate_left
  ·(intro w hSw;(try dsimp only at hSw);go_simp;(try with_reducible rfl))
  try simp only[Act.put,J1,J2,J3,J4,J5,J6]
 refine zqf [3] (AllReadyH.cons rfl (fun K hK=>?_) AllReadyH.nil);rw[if_pos (by rfl)];go_simp
 (refine (LH.out _).mono ?_);rintro y w1 ⟨rfl,hb⟩
 refine hK.out _ _ ?_ (fun hHeld=>?_)
 ·exact box_keep hb hHeld
 clear hK K
 try simp only[Act.put,J1,J2,J3,J4,J5,J6]
 iterate 3
  refine zqb [4,7,8] rfl rfl ?_ ?_ ?_;rotate_left
  ·(intro w hSw;(try dsimp only at hSw);go_simp;(try with_reducible rfl))
  try simp only[Act.put,J1,J2,J3,J4,J5,J6]
 refine zqc 9 rfl ?_
 try simp only[Act.put,J1,J2,J3,J4,J5,J6]
 refine zqc 10 rfl ?_
 try simp only[Act.put,J1,J2,J3,J4,J5,J6]
 refine zqc 11 rfl ?_
 try simp only[Act.put,J1,J2,J3,J4,J5,J6]
 refine zqc 12 rfl ?_
 try simp only[Act.put,J1,J2,J3,J4,J5,J6]
 refine zqc 13 rfl ?_
 try simp only[Act.put,J1,J2,J3,J4,J5,J6]
 refine zqc 14 rfl ?_
 try simp only[Act.put,J1,J2,J3,J4,J5,J6]
 iterate 2
  refine zqb [15,16] rfl rfl ?_ ?_ ?_;rotate_left
  ·(intro w hSw;(try dsimp only at hSw);go_simp;(try with_reducible rfl))
  try simp only[Act.put,J1,J2,J3,J4,J5,J6]
 refine zqe (NoPanic.normal ?_);have hH:=hHeld;clear hHeld;go_wp2_with fail
 first|go_region_held3 (fun w'=>w'.cell? ⟨w.heap.size,0,none⟩=some (.int .i64 c)∧w'.cell? ⟨w.heap.size,1,none⟩=some (.int .u64 e)∧Below w.heap.size w w'∧w.heap.size<w'.heap.size)
  (first|(refine box_keep hb ?_;assumption)|(refine box_drew ?_;assumption)|(refine⟨by simp[go_sem],by simp[go_sem],below_drew ((Below.refl _ _).alloc zle _),by simp⟩)|go_keep)
  (first | (go_at_call 132; (with_reducible refine (LH.out _).mono ?_); rintro y w1 ⟨rfl, hb⟩) | (go_at_call 118; (with_reducible refine (LS.out _).mono ?_); rintro y w1 ⟨rfl, hb⟩)) | fail "region"
 rename_i hH
 go_wp2_with fail
 obtain⟨q0,q1,qb,ql⟩:=hH;clear e1 e2 e3;go_wp2
 go_ret
 exact⟨rfl,qb⟩
theorem nearest_here(c e x:Int)(w:World)(h0:1≤c)(h1:c≤4)(he:0≤e)(he1:e≤4611686018427387904)(hx:0≤x)(hx1:x≤4611686022722355200)
 (g1:e<x+wn c/2)(g2:x≤e+wn c/2) :
  Calls Tryz.prog 101 #[.agg #[.int .i64 c,.int .u64 e],.int .u64 x] w fun y w'=>y=.returned (.int .u64 (x))∧Below w.heap.size w w':=by
 have hr:=wn_range h0 h1;have LH:=zh (fun w=>half_any c w h0 h1);have LS:=zh (fun w=>size_any c w h0 h1);have e1:IntKind.u64.wrap (x+wn c/2)=x+wn c/2:=wr (by omega) (by omega);have e2:IntKind.u64.wrap (4611686018427387904-wn c)=4611686018427387904-wn c:=wr (by omega) (by omega);have e3:IntKind.u64.wrap (e+wn c/2)=e+wn c/2:=wr (by omega) (by omega);have d1:decide (x+wn c/2≤e)=false:=decide_eq_false (by omega);have d3:decide (e+wn c/2<x)=false:=decide_eq_false (by omega);go_enter Tryz.func101,Tryz.ntmps101;go_wp2_with fail
 refine wp_region_noPanic ?_;refine wp_region_held_drew (S:=fun w'=>w'.cell? ⟨w.heap.size,0,none⟩=some (.int .i64 c)∧w'.cell? ⟨w.heap.size,1,none⟩=some (.int .u64 e)∧Below w.heap.size w w'∧w.heap.size<w'.heap.size) (by kernel_rfl) ?_ (fun hHeld=>?_)
 ·exact⟨by simp[go_sem],by simp[go_sem],below_drew ((Below.refl _ _).alloc zle _),by simp⟩
 iterate 5
  refine zqb [0,1,2,5,6] rfl rfl ?_ ?_ ?_;rotate_left
  ·(intro w hSw;(try dsimp only at hSw);go_simp;(try with_reducible rfl))
  try simp only[Act.put,J1,J2,J3,J4,J5,J6]
 refine zqf [3] (AllReadyH.cons rfl (fun K hK=>?_) AllReadyH.nil);rw[if_pos (by rfl)];go_simp
 (refine (LH.out _).mono ?_);rintro y w1 ⟨rfl,hb⟩
 refine hK.out _ _ ?_ (fun hHeld=>?_)
 ·exact box_keep hb hHeld
 clear hK K
 try simp only[Act.put,J1,J2,J3,J4,J5,J6]
 iterate 3
  refine zqb [4,7,8] rfl rfl ?_ ?_ ?_;rotate_left
  ·(intro w hSw;(try dsimp only at hSw);go_simp;(try with_reducible rfl))
  try simp only[Act.put,J1,J2,J3,J4,J5,J6]
 refine zqc 9 rfl ?_
 try simp only[Act.put,J1,J2,J3,J4,J5,J6]
 refine zqc 10 rfl ?_
 try simp only[Act.put,J1,J2,J3,J4,J5,J6]
 refine zqc 11 rfl ?_
 try simp only[Act.put,J1,J2,J3,J4,J5,J6]
 refine zqc 12 rfl ?_
 try simp only[Act.put,J1,J2,J3,J4,J5,J6]
 refine zqc 13 rfl ?_
 try simp only[Act.put,J1,J2,J3,J4,J5,J6]
 refine zqc 14 rfl ?_
 try simp only[Act.put,J1,J2,J3,J4,J5,J6]
 iterate 2
  refine zqb [15,16] rfl rfl ?_ ?_ ?_;rotate_left
  ·(intro w hSw;(try dsimp only at hSw);go_simp;(try with_reducible rfl))
  try simp only[Act.put,J1,J2,J3,J4,J5,J6]
 refine zqe (NoPanic.normal ?_);have hH:=hHeld;clear hHeld;go_wp2_with fail
 refine wp_region_noPanic ?_;refine wp_region_held_drew (S:=fun w'=>w'.cell? ⟨w.heap.size,0,none⟩=some (.int .i64 c)∧w'.cell? ⟨w.heap.size,1,none⟩=some (.int .u64 e)∧Below w.heap.size w w'∧w.heap.size<w'.heap.size) (by kernel_rfl) ?_ (fun hHeld=>?_)
 ·exact box_drew hH
 iterate 5
  refine zqb [0,1,2,3,4] rfl rfl ?_ ?_ ?_;rotate_left
  ·(intro w hSw;(try dsimp only at hSw);go_simp;(try with_reducible rfl))
  try simp only[Act.put,J1,J2,J3,J4,J5,J6]
 refine zqf [5] (AllReadyH.cons rfl (fun K hK=>?_) AllReadyH.nil);rw[if_pos (by rfl)];go_simp
 (refine (LH.out _).mono ?_);rintro y w1 ⟨rfl,hb⟩
 refine hK.out _ _ ?_ (fun hHeld=>?_)
 ·exact box_keep hb hHeld
 clear hK K
 try simp only[Act.put,J1,J2,J3,J4,J5,J6]
 iterate 3
  refine zqb [6,7,8] rfl rfl ?_ ?_ ?_;rotate_left
  ·(intro w hSw;(try dsimp only at hSw);go_simp;(try with_reducible rfl))
  try simp only[Act.put,J1,J2,J3,J4,J5,J6]
 refine zqc 9 rfl ?_
 try simp only[Act.put,J1,J2,J3,J4,J5,J6]
 refine zqc 10 rfl ?_
 try simp only[Act.put,J1,J2,J3,J4,J5,J6]
 refine zqc 11 rfl ?_
 try simp only[Act.put,J1,J2,J3,J4,J5,J6]
 refine zqc 12 rfl ?_
 try simp only[Act.put,J1,J2,J3,J4,J5,J6]
 refine zqc 13 rfl ?_
 try simp only[Act.put,J1,J2,J3,J4,J5,J6]
 iterate 2
  refine zqb [14,15] rfl rfl ?_ ?_ ?_;rotate_left
  ·(intro w hSw;(try dsimp only at hSw);go_simp;(try with_reducible rfl))
  try simp only[Act.put,J1,J2,J3,J4,J5,J6]
 refine zqe (NoPanic.normal ?_);have hH:=hHeld;clear hHeld;go_wp2_with fail
 obtain⟨q0,q1,qb,ql⟩:=hH;clear e1 e2 e3;go_wp2
 go_ret
 exact⟨rfl,qb⟩
theorem nearest_any(c e x:Int)(w:World)(h0:1≤c)(h1:c≤4)(he:0≤e)(he1:e≤4611686018427387904)(hx:0≤x)(hx1:x≤4611686022722355200) :
 Calls Tryz.prog 101 #[.agg #[.int .i64 c,.int .u64 e],.int .u64 x] w fun y w'=>y=.returned (.int .u64 (nr e x (wn c)))∧Below w.heap.size w w':=by
 unfold nr;by_cases g1:x+wn c/2≤e
 ·by_cases g2:x<4611686018427387904-wn c
  ·rw[if_pos ⟨g1,g2⟩];exact nearest_up c e x w h0 h1 he he1 hx hx1 g1 g2
  ·rw[if_neg (by omega),if_neg (by have:=wn_range h0 h1;omega)];exact nearest_end c e x w h0 h1 he he1 hx hx1 g1 (by omega)
 ·rw[if_neg (by omega)]
  by_cases g2:e+wn c/2<x
  ·by_cases g3:wn c≤x
   ·rw[if_pos ⟨g2,g3⟩];exact nearest_down c e x w h0 h1 he he1 hx hx1 (by omega) g2 g3
   ·rw[if_neg (by omega)];exact nearest_zero c e x w h0 h1 he he1 hx hx1 (by omega) g2 (by omega)
  ·rw[if_neg (by omega)];exact nearest_here c e x w h0 h1 he he1 hx hx1 (by omega) (by omega)
theorem cd_range{e x W:Int}(hW:256≤W)(hW1:W≤4294967296)(he:0≤e)(he1:e≤4611686018427387904)(hx:0≤x):0≤cd e x W∧cd e x W≤4611686022722355200:=by
 have m1:=mod_bd (n:=e) (W:=W) (by omega) he;have m2:=mod_bd (n:=x) (W:=W) (by omega) hx;unfold cd;omega
theorem expand_any(l x k:Int)(any:Bool)(w:World)(hl:0≤l)(hl1:l<4611686018427387904)(hx:0≤x)(hx1:x≤18446744073709551615)(h0:-9223372036854775808≤k)(h1:k≤9223372036854775807) :
 Calls Tryz.prog 62 #[.int .u64 l,.bool any,.int .u64 x,.int .i64 k] w fun y w'=>y=.returned (.int .u64 (ex l any x (wn (cl k))))∧Below w.heap.size w w':=by
 have hc:=cl_range k;have hr:=wn_range hc.1 hc.2
 cases any
 ·have L0:=zh (fun w=>windowOf_any k w h0 h1)
  have he:(0:Int)≤0∧(0:Int)≤4611686018427387904:=by omega
  have hcd:=cd_range hr.1 hr.2 he.1 he.2 hx;have LC:=zh (fun w=>candidate_any (cl k) 0 x w hc.1 hc.2 he.1 he.2 hx hx1);have LN:=zh (fun w=>nearest_any (cl k) 0 (cd 0 x (wn (cl k))) w hc.1 hc.2 he.1 he.2 hcd.1 hcd.2);rw[show ex l false x (wn (cl k))=nr 0 (cd 0 x (wn (cl k))) (wn (cl k)) from rfl];go_enter Tryz.func62,Tryz.ntmps62;go_wp2_with fail
  refine (L0.out _).mono ?_;rintro y w1 ⟨rfl,hb0⟩;go_wp2_with fail
  first|go_region_held3 (fun w'=>w'.cell? ⟨w1.heap.size,0,none⟩=some (.int .i64 (cl k))∧w'.cell? ⟨w1.heap.size,1,none⟩=some (.int .u64 0)∧Below w1.heap.size w1 w'∧w1.heap.size<w'.heap.size)
   (first|(refine box_keep hb ?_;assumption)|(refine box_drew ?_;assumption)|(refine⟨by simp[go_sem],by simp[go_sem],below_drew ((Below.refl _ _).alloc zle _),by simp⟩)|go_keep)
   (first | (go_at_call 102; (with_reducible refine (LC.out _).mono ?_); rintro y w2 ⟨rfl, hb⟩) | (go_at_call 101; (with_reducible refine (LN.out _).mono ?_); rintro y w2 ⟨rfl, hb⟩)) | fail "region"
  rename_i hH
  obtain⟨q0,q1,qb,ql⟩:=hH;go_wp2
  go_ret
  exact⟨rfl,hb0.trans (qb.mono hb0.size)⟩
 ·have L0:=zh (fun w=>windowOf_any k w h0 h1)
  have he:0≤(l+1)∧(l+1)≤4611686018427387904:=by omega
  have hcd:=cd_range hr.1 hr.2 he.1 he.2 hx;have LC:=zh (fun w=>candidate_any (cl k) (l+1) x w hc.1 hc.2 he.1 he.2 hx hx1);have LN:=zh (fun w=>nearest_any (cl k) (l+1) (cd (l+1) x (wn (cl k))) w hc.1 hc.2 he.1 he.2 hcd.1 hcd.2);rw[show ex l true x (wn (cl k))=nr (l+1) (cd (l+1) x (wn (cl k))) (wn (cl k)) from rfl];go_enter Tryz.func62,Tryz.ntmps62;go_wp2_with fail
  refine (L0.out _).mono ?_;rintro y w1 ⟨rfl,hb0⟩;go_wp2_with fail
  first|go_region_held3 (fun w'=>w'.cell? ⟨w1.heap.size,0,none⟩=some (.int .i64 (cl k))∧w'.cell? ⟨w1.heap.size,1,none⟩=some (.int .u64 (l+1))∧Below w1.heap.size w1 w'∧w1.heap.size<w'.heap.size)
   (first|(refine box_keep hb ?_;assumption)|(refine box_drew ?_;assumption)|(refine⟨by simp[go_sem],by simp[go_sem],below_drew ((Below.refl _ _).alloc zle _),by simp⟩)|go_keep)
   (first | (go_at_call 102; (with_reducible refine (LC.out _).mono ?_); rintro y w2 ⟨rfl, hb⟩) | (go_at_call 101; (with_reducible refine (LN.out _).mono ?_); rintro y w2 ⟨rfl, hb⟩)) | fail "region"
  rename_i hH
  obtain⟨q0,q1,qb,ql⟩:=hH;go_wp2
  go_ret
  exact⟨rfl,hb0.trans (qb.mono hb0.size)⟩
end Go.Proofs.YtagbkmoahflfdaaGreatDoor.Pn
namespace Go.Proofs.YtagbkmoahflfdaaGreatDoor.Se
open Tk Go.RowKit Vm Dg Kd
theorem ba_mid(l:List UInt8)(a b:Nat):(⟨l.toArray⟩:ByteArray).extract a b=⟨((l.drop a).take (b-a)).toArray⟩:=by
 apply ByteArray.ext;apply Array.ext';simp only[ByteArray.data_extract,Array.toList_extract,List.extract_eq_take_drop]
theorem sample_short(t:List UInt8)(p:Nat)(w:World)(hp:p≤100000)(h:t.length<p+20) :
 Calls Tryz.prog 90 #[.string ⟨t.toArray⟩,.int .i64 p] w fun e w'=>e=.returned (.tuple #[.string ⟨#[]⟩,.bool false])∧w'=w:=by
 have s1:=ba_size t;generalize (⟨t.toArray⟩:ByteArray)=T at *;have h1:(T.size:Int)<(p:Int)+4+16:=by omega
 have hpI:(p:Int)≤100000:=by omega
 clear h s1;go_enter Tryz.func90,Tryz.ntmps90;go_wp2
 go_ret2
 exact⟨rfl,rfl⟩
theorem sample_ok(t:List UInt8)(p:Nat)(w:World)(hp:p≤100000)(h:p+20≤t.length) :
 Calls Tryz.prog 90 #[.string ⟨t.toArray⟩,.int .i64 p] w fun e w'=>e=.returned (.tuple #[.string ⟨((t.drop (p+4)).take 16).toArray⟩,.bool true])∧w'=w:=by
 have s1:=ba_size t;have e1:=ba_mid t (p+4) (p+4+16);rw[show p+4+16-(p+4)=16 by omega]at e1;generalize (⟨((t.drop (p+4)).take 16).toArray⟩:ByteArray)=SM at *;generalize (⟨t.toArray⟩:ByteArray)=T at *;have h1:¬((T.size:Int)<(p:Int)+4+16):=by omega
 have h2:(p:Int)+4+16≤(T.size:Int):=by omega
 have hpI:(p:Int)≤100000:=by omega
 clear h s1;go_enter Tryz.func90,Tryz.ntmps90;go_wp2
 go_ret2
 exact⟨by first|rfl|(rw[←e1];rfl),rfl⟩
def HX (W:World) (b:Nat) (x0 x1 x2 x3 x4 x5 x6 x7 x8 x9:ByteArray) (xo xp:Bool):Prop:=W.heap[b]?=some (.cells #[.string x0,.string x1,.string x2,.string x3,.string x4,.string x5,.string x6,.string x7,.string x8,.string x9,.bool xo,.bool xp,.string x4,.string x5,.string x6] 95 (0,0))
theorem HX.lt{W:World}{b:Nat}{x0 x1 x2 x3 x4 x5 x6 x7 x8 x9:ByteArray}{xo xp:Bool}(h:HX W b x0 x1 x2 x3 x4 x5 x6 x7 x8 x9 xo xp):b<W.heap.size:=(Array.getElem?_eq_some_iff.1 h).1
theorem HX.keep{W W':World}{b B:Nat}{x0 x1 x2 x3 x4 x5 x6 x7 x8 x9:ByteArray}{xo xp:Bool}(h:HX W b x0 x1 x2 x3 x4 x5 x6 x7 x8 x9 xo xp)(hb:Below B W W')(hB:b<B):HX W' b x0 x1 x2 x3 x4 x5 x6 x7 x8 x9 xo xp:=(hb.block b hB).trans h
theorem HX.cells{W:World}{b:Nat}{x0 x1 x2 x3 x4 x5 x6 x7 x8 x9:ByteArray}{xo xp:Bool}(h:HX W b x0 x1 x2 x3 x4 x5 x6 x7 x8 x9 xo xp):W.cell? ⟨b,0,none⟩=some (.string x0)∧W.cell? ⟨b,1,none⟩=some (.string x1)∧W.cell? ⟨b,2,none⟩=some (.string x2)∧W.cell? ⟨b,3,none⟩=some (.string x3)∧W.cell? ⟨b,4,none⟩=some (.string x4)∧W.cell? ⟨b,5,none⟩=some (.string x5)∧W.cell? ⟨b,6,none⟩=some (.string x6)∧W.cell? ⟨b,7,none⟩=some (.string x7)∧W.cell? ⟨b,8,none⟩=some (.string x8)∧W.cell? ⟨b,9,none⟩=some (.string x9)∧W.cell? ⟨b,10,none⟩=some (.bool xo)∧W.cell? ⟨b,11,none⟩=some (.bool xp)∧W.cell? ⟨b,12,none⟩=some (.string x4)∧W.cell? ⟨b,13,none⟩=some (.string x5)∧W.cell? ⟨b,14,none⟩=some (.string x6):=
 ⟨Lib.cell_of_heap h 0,Lib.cell_of_heap h 1,Lib.cell_of_heap h 2,Lib.cell_of_heap h 3,Lib.cell_of_heap h 4,Lib.cell_of_heap h 5,Lib.cell_of_heap h 6,Lib.cell_of_heap h 7,Lib.cell_of_heap h 8,Lib.cell_of_heap h 9,Lib.cell_of_heap h 10,Lib.cell_of_heap h 11,Lib.cell_of_heap h 12,Lib.cell_of_heap h 13,Lib.cell_of_heap h 14⟩
theorem masked_walk(x0 x1 x2 x3 x4 x5 x6 x7 x8 x9 T SM MK R:ByteArray)(xo xp:Bool)(p:Nat)(er:Int)(w:World)(ht:Tab w)
 (CS:Hid (∀W:World,Calls Tryz.prog 90 #[.string T,.int .i64 p] W fun e w'=>e=.returned (.tuple #[.string SM,.bool true])∧w'=W))
 (CM:Hid (∀W:World,Calls Tryz.prog 48 #[.agg #[.string x4,.string x5,.string x6],.string SM] W fun e w'=>e=.returned (.string MK)∧Below W.heap.size W w'))
 (CH:Hid (∀W:World,Tab W→Calls Tryz.prog 91 #[.string T,.string MK] W fun e w'=>e=.returned (.tuple #[.string R,.int .i64 er])∧Below W.heap.size W w')) :
 Calls Tryz.prog 56 #[.agg #[.string x0,.string x1,.string x2,.string x3,.string x4,.string x5,.string x6,.string x7,.string x8,.string x9,.bool xo,.bool xp,.string x4,.string x5,.string x6],.string T,.int .i64 p] w fun e w'=>e=.returned (.tuple #[.string R,.int .i64 er])∧Below w.heap.size w w':=by
 have HT:=zh ht;have H0:=zh (heap_alloc_new w (.cells #[.string x0,.string x1,.string x2,.string x3,.string x4,.string x5,.string x6,.string x7,.string x8,.string x9,.bool xo,.bool xp,.string x4,.string x5,.string x6] 95));clear ht;go_enter Tryz.func56,Tryz.ntmps56;go_wp2_with fail
 with_reducible refine (CS.out _).mono ?_
 rintro e1 w1 ⟨rfl,rfl⟩;go_wp2_with fail
 with_reducible refine (CM.out _).mono ?_
 rintro e2 w2 ⟨rfl,hb⟩;have HB2:=zh (((Below.refl w.heap.size w).alloc zle _).trans (hb.mono (by simp)));clear hb;have hT2:=HT.out.below HB2.out HT.out.lt;go_wp2_with fail
 with_reducible refine (CH.out _ hT2).mono ?_
 rintro e3 w3 ⟨rfl,hb⟩;have HB3:=zh (HB2.out.trans (hb.mono HB2.out.size));clear hb;go_wp2_with fail
 go_ret2
 exact⟨rfl,HB3.out⟩
theorem protect_no(x0 x1 x2 x3 x4 x5 x6 x7 x8 x9:ByteArray)(xo xp:Bool)(num acked:Nat)(any:Bool)(cid plain:ByteArray)(w:World)(h:(4611686018427387903:Int)<(num:Int)∨(num:Int)≤4611686018427387903∧(cid.size≠8∨cid.size=8∧plain.size<4)) :
 Calls Tryz.prog 27 #[.agg #[.string x0,.string x1,.string x2,.string x3,.string x4,.string x5,.string x6,.string x7,.string x8,.string x9,.bool xo,.bool xp],.int .u64 num,.int .u64 acked,.bool any,.string cid,.string plain] w fun e w'=>e=.returned (.tuple #[.string ⟨#[]⟩,.int .i64 1])∧Below w.heap.size w w':=by
 rcases h with h|⟨h0,h|⟨h1,h2⟩⟩
 ·have hg:(num:Int) > 4611686018427387903:=h
  clear h;go_enter Tryz.func27,Tryz.ntmps27;go_wp2
  go_ret2
  exact⟨rfl,(Below.refl _ _).alloc zle _⟩
 ·have hg:¬(num:Int) > 4611686018427387903:=by omega
  have hc:((cid.size:Int) != 8)=true:=by rw[bne_iff_ne];omega
  have hc2:((cid.size:Int)==8)=false:=by rw[beq_eq_false_iff_ne];omega
  have hc3:¬((cid.size:Int)=8):=by omega
  clear h h0;go_enter Tryz.func27,Tryz.ntmps27;go_wp2
  go_ret2
  exact⟨rfl,(Below.refl _ _).alloc zle _⟩
 ·have hg:¬(num:Int) > 4611686018427387903:=by omega
  have hc:(cid.size:Int)=8:=by omega
  have hp:(plain.size:Int)<4:=by omega
  clear h1 h0 h2;go_enter Tryz.func27,Tryz.ntmps27;go_wp2
  go_ret2
  exact⟨rfl,(Below.refl _ _).alloc zle _⟩
theorem protect_walk(x0 x1 x2 x3 x4 x5 x6 x7 x8 x9 cid plain HD SL PK ALL:ByteArray)(xo xp any:Bool)(num acked wide:Nat)(cn er:Int)(w:World)(ht:Tab w)
 (hn:(num:Int)≤4611686018427387903)(hc:(cid.size:Int)=8)(hp:4≤(plain.size:Int))(hHD:HD.size=9+wide)(hAll:HD++SL=ALL)(hw4:wide≤4)(hsl:SL.size≤20000)
 (CB:Hid (∀W:World,Calls Tryz.prog 53 #[.int .u64 num,.int .u64 acked,.bool any] W fun e w'=>e=.returned (.int .i64 wide)∧Below W.heap.size W w'))
 (CC:Hid (∀W:World,Calls Tryz.prog 55 #[.int .u64 num,.int .i64 wide] W fun e w'=>e=.returned (.int .u64 cn)∧Below W.heap.size W w'))
 (CP:Hid (∀W:World,Tab W→Calls Tryz.prog 54 #[.agg #[.bool false,.bool false,.bool xp,.int .i64 0,.int .u32 0,.string cid,.string ⟨#[]⟩,.string ⟨#[]⟩,.int .u64 0,.int .i64 wide,.int .u64 cn]] W fun e w'=>e=.returned (.tuple #[.string HD,.int .i64 0])∧Below W.heap.size W w'))
 (CSL:Hid (∀W:World,Calls Tryz.prog 44 #[.agg #[.string x4,.string x5,.string x6],.int .u64 num,.string HD,.string plain] W fun e w'=>e=.returned (.string SL)∧Below W.heap.size W w'))
 (CM:Hid (∀W:World,Tab W→Calls Tryz.prog 56 #[.agg #[.string x0,.string x1,.string x2,.string x3,.string x4,.string x5,.string x6,.string x7,.string x8,.string x9,.bool xo,.bool xp,.string x4,.string x5,.string x6],.string ALL,.int .i64 9] W fun e w'=>e=.returned (.tuple #[.string PK,.int .i64 er])∧Below W.heap.size W w')) :
 Calls Tryz.prog 27 #[.agg #[.string x0,.string x1,.string x2,.string x3,.string x4,.string x5,.string x6,.string x7,.string x8,.string x9,.bool xo,.bool xp],.int .u64 num,.int .u64 acked,.bool any,.string cid,.string plain] w fun e w'=>e=.returned (.tuple #[.string PK,.int .i64 er])∧Below w.heap.size w w':=by
 have hg:¬(num:Int) > 4611686018427387903:=by omega
 have hp2:¬(plain.size:Int)<4:=by omega
 have h9:(HD.size:Int)-(wide:Int)=9:=by omega
 have h9w:IntKind.i64.wrap ((HD.size:Int)-(wide:Int))=9:=by rw[IntWalk.i64_in _ (by omega)];exact h9
 have hsum:¬(9223372036854775807<9+wide+SL.size):=by omega
 have h9b:IntKind.i64.wrap 9=9:=by decide
 have CHO:=zh (fun W=>holderOf_any x0 x1 x2 x3 x4 x5 x6 x7 x8 x9 xo xp W);have HT:=zh ht;have HX0:Hid (SX (w.alloc (.cells #[.string x0,.string x1,.string x2,.string x3,.string x4,.string x5,.string x6,.string x7,.string x8,.string x9,.bool xo,.bool xp] 43)) w.heap.size x0 x1 x2 x3 x4 x5 x6 x7 x8 x9 xo xp):=zh (heap_alloc_new w _);clear ht;go_enter Tryz.func27,Tryz.ntmps27;go_wp2_with fail
 with_reducible refine (CHO.out _).mono ?_
 rintro e1 w1 ⟨rfl,hb⟩;have HX1:=zh (HX0.out.keep hb HX0.out.lt);have HB1:=zh (((Below.refl w.heap.size w).alloc zle _).trans (hb.mono (by simp)));clear hb;go_wp2_with fail
 with_reducible refine (CB.out _).mono ?_
 rintro e2 w2 ⟨rfl,hb⟩;have HX2:=zh (HX1.out.keep hb HX1.out.lt);have HB2:=zh (HB1.out.trans (hb.mono HB1.out.size));clear hb;obtain⟨hb0,hhb0⟩:∃n,w2.heap.size=n:=⟨_,rfl⟩
 have HD0:Hid (((SX (w2.alloc (.cells #[.string x0,.string x1,.string x2,.string x3,.string x4,.string x5,.string x6,.string x7,.string x8,.string x9,.bool xo,.bool xp,.string x4,.string x5,.string x6] 95)).drew w.heap.size x0 x1 x2 x3 x4 x5 x6 x7 x8 x9 xo xp∧HX (w2.alloc (.cells #[.string x0,.string x1,.string x2,.string x3,.string x4,.string x5,.string x6,.string x7,.string x8,.string x9,.bool xo,.bool xp,.string x4,.string x5,.string x6] 95)).drew hb0 x0 x1 x2 x3 x4 x5 x6 x7 x8 x9 xo xp)∧Tab (w2.alloc (.cells #[.string x0,.string x1,.string x2,.string x3,.string x4,.string x5,.string x6,.string x7,.string x8,.string x9,.bool xo,.bool xp,.string x4,.string x5,.string x6] 95)).drew)∧Below w.heap.size w (w2.alloc (.cells #[.string x0,.string x1,.string x2,.string x3,.string x4,.string x5,.string x6,.string x7,.string x8,.string x9,.bool xo,.bool xp,.string x4,.string x5,.string x6] 95)).drew):=zh (by
  have hB:=(HB2.out.alloc HB2.out.size (.cells #[.string x0,.string x1,.string x2,.string x3,.string x4,.string x5,.string x6,.string x7,.string x8,.string x9,.bool xo,.bool xp,.string x4,.string x5,.string x6] 95)).drew;refine⟨⟨⟨HX2.out.keep ((Below.refl _ _).alloc zle _).drew HX2.out.lt,?_⟩,HT.out.below hB HT.out.lt⟩,hB⟩;rw[←hhb0]
  exact heap_alloc_new w2 _)
 clear HX0 HX1 HX2 HB1 HB2;go_wp2_with fail
 refine wp_region_noPanic ?_;refine wp_region_held_drew (S:=fun W:World=>((SX W w.heap.size x0 x1 x2 x3 x4 x5 x6 x7 x8 x9 xo xp∧HX W hb0 x0 x1 x2 x3 x4 x5 x6 x7 x8 x9 xo xp)∧Tab W)∧Below w.heap.size w W) (by kernel_rfl) ?_ (fun hHeld=>?_)
 ·exact HD0.out
 iterate 6
  refine zqb [0,1,2,3,4,5] rfl rfl ?_ ?_ ?_;rotate_left
  ·(intro w hSw;obtain⟨⟨⟨hsx,hsh⟩,hst⟩,hsb⟩:=hSw;obtain⟨q0,q1,q2,q3,q4,q5,q6,q7,q8,q9,q10,q11⟩:=cells12 hsx;obtain⟨u0,u1,u2,u3,u4,u5,u6,u7,u8,u9,u10,u11,u12,u13,u14⟩:=hsh.cells;go_simp;(try with_reducible rfl))
  try simp only[Act.put,J1,J2,J3,J4,J5,J6]
 refine zqf [6] (AllReadyH.cons rfl (fun K hK=>?_) AllReadyH.nil);rw[if_pos (by rfl)];go_simp;with_reducible refine (CC.out _).mono ?_
 rintro e3 y3 ⟨rfl,hb⟩;have HS3:Hid (((SX y3 w.heap.size x0 x1 x2 x3 x4 x5 x6 x7 x8 x9 xo xp∧HX y3 hb0 x0 x1 x2 x3 x4 x5 x6 x7 x8 x9 xo xp)∧Tab y3)∧Below w.heap.size w y3):=zh ⟨⟨⟨HD0.out.1.1.1.keep hb HD0.out.1.1.1.lt,HD0.out.1.1.2.keep hb HD0.out.1.1.2.lt⟩,HD0.out.1.2.below hb HD0.out.1.2.lt⟩,HD0.out.2.trans (hb.mono HD0.out.2.size)⟩;clear hb;refine hK.out _ _ ?_ (fun hHeld=>?_)
 ·exact HS3.out
 clear hK K
 try simp only[Act.put,J1,J2,J3,J4,J5,J6]
 refine zqa 7 rfl ?_ ?_ ?_;rotate_left
 ·(intro w hSw;obtain⟨⟨⟨hsx,hsh⟩,hst⟩,hsb⟩:=hSw;obtain⟨q0,q1,q2,q3,q4,q5,q6,q7,q8,q9,q10,q11⟩:=cells12 hsx;obtain⟨u0,u1,u2,u3,u4,u5,u6,u7,u8,u9,u10,u11,u12,u13,u14⟩:=hsh.cells;go_simp;(try with_reducible rfl))
 try simp only[Act.put,J1,J2,J3,J4,J5,J6]
 refine zqf [8] (AllReadyH.cons rfl (fun K hK=>?_) AllReadyH.nil);rw[if_pos (by rfl)];go_simp;with_reducible refine (CP.out _ HS3.out.1.2).mono ?_
 rintro e4 y4 ⟨rfl,hb⟩;have HS4:Hid (((SX y4 w.heap.size x0 x1 x2 x3 x4 x5 x6 x7 x8 x9 xo xp∧HX y4 hb0 x0 x1 x2 x3 x4 x5 x6 x7 x8 x9 xo xp)∧Tab y4)∧Below w.heap.size w y4):=zh ⟨⟨⟨HS3.out.1.1.1.keep hb HS3.out.1.1.1.lt,HS3.out.1.1.2.keep hb HS3.out.1.1.2.lt⟩,HS3.out.1.2.below hb HS3.out.1.2.lt⟩,HS3.out.2.trans (hb.mono HS3.out.2.size)⟩;clear hb;refine hK.out _ _ ?_ (fun hHeld=>?_)
 ·exact HS4.out
 clear hK K
 try simp only[Act.put,J1,J2,J3,J4,J5,J6]
 iterate 5
  refine zqb [9,10,11,12,13] rfl rfl ?_ ?_ ?_;rotate_left
  ·(intro w hSw;obtain⟨⟨⟨hsx,hsh⟩,hst⟩,hsb⟩:=hSw;obtain⟨q0,q1,q2,q3,q4,q5,q6,q7,q8,q9,q10,q11⟩:=cells12 hsx;obtain⟨u0,u1,u2,u3,u4,u5,u6,u7,u8,u9,u10,u11,u12,u13,u14⟩:=hsh.cells;go_simp;(try with_reducible rfl))
  try simp only[Act.put,J1,J2,J3,J4,J5,J6]
 refine zqe (NoPanic.normal ?_);have HE:=zh hHeld;clear hHeld;go_wp2_with fail
 have HD1:Hid (((SX y4.drew w.heap.size x0 x1 x2 x3 x4 x5 x6 x7 x8 x9 xo xp∧HX y4.drew hb0 x0 x1 x2 x3 x4 x5 x6 x7 x8 x9 xo xp)∧Tab y4.drew)∧Below w.heap.size w y4.drew):=zh ⟨⟨HE.out.1.1,HE.out.1.2.below (Below.refl _ _).drew HE.out.1.2.lt⟩,HE.out.2.drew⟩;refine wp_region_noPanic ?_;refine wp_region_held_drew (S:=fun W:World=>((SX W w.heap.size x0 x1 x2 x3 x4 x5 x6 x7 x8 x9 xo xp∧HX W hb0 x0 x1 x2 x3 x4 x5 x6 x7 x8 x9 xo xp)∧Tab W)∧Below w.heap.size w W) (by kernel_rfl) ?_ (fun hHeld=>?_)
 ·exact HD1.out
 iterate 11
  refine zqb [0,1,2,3,4,5,6,9,10,11,12] rfl rfl ?_ ?_ ?_;rotate_left
  ·(intro w hSw;obtain⟨⟨⟨hsx,hsh⟩,hst⟩,hsb⟩:=hSw;obtain⟨q0,q1,q2,q3,q4,q5,q6,q7,q8,q9,q10,q11⟩:=cells12 hsx;obtain⟨u0,u1,u2,u3,u4,u5,u6,u7,u8,u9,u10,u11,u12,u13,u14⟩:=hsh.cells;go_simp;(try with_reducible rfl))
  try simp only[Act.put,J1,J2,J3,J4,J5,J6]
 refine zqf [7] (AllReadyH.cons rfl (fun K hK=>?_) AllReadyH.nil);rw[if_pos (by rfl)];go_simp;with_reducible refine (CSL.out _).mono ?_
 rintro e5 y5 ⟨rfl,hb⟩;have HS5:Hid (((SX y5 w.heap.size x0 x1 x2 x3 x4 x5 x6 x7 x8 x9 xo xp∧HX y5 hb0 x0 x1 x2 x3 x4 x5 x6 x7 x8 x9 xo xp)∧Tab y5)∧Below w.heap.size w y5):=zh ⟨⟨⟨HD1.out.1.1.1.keep hb HD1.out.1.1.1.lt,HD1.out.1.1.2.keep hb HD1.out.1.1.2.lt⟩,HD1.out.1.2.below hb HD1.out.1.2.lt⟩,HD1.out.2.trans (hb.mono HD1.out.2.size)⟩;clear hb;refine hK.out _ _ ?_ (fun hHeld=>?_)
 ·exact HS5.out
 clear hK K
 try simp only[Act.put,J1,J2,J3,J4,J5,J6]
 refine zqa 8 rfl ?_ ?_ ?_;rotate_left
 ·(intro w hSw;obtain⟨⟨⟨hsx,hsh⟩,hst⟩,hsb⟩:=hSw;obtain⟨q0,q1,q2,q3,q4,q5,q6,q7,q8,q9,q10,q11⟩:=cells12 hsx;obtain⟨u0,u1,u2,u3,u4,u5,u6,u7,u8,u9,u10,u11,u12,u13,u14⟩:=hsh.cells;go_simp;(try with_reducible rfl))
 try simp only[Act.put,J1,J2,J3,J4,J5,J6]
 refine zqf [13] (AllReadyH.cons rfl (fun K hK=>?_) AllReadyH.nil);rw[if_pos (by rfl)];go_simp;with_reducible refine (CM.out _ HS5.out.1.2).mono ?_
 rintro e6 y6 ⟨rfl,hb⟩;have HS6:Hid (((SX y6 w.heap.size x0 x1 x2 x3 x4 x5 x6 x7 x8 x9 xo xp∧HX y6 hb0 x0 x1 x2 x3 x4 x5 x6 x7 x8 x9 xo xp)∧Tab y6)∧Below w.heap.size w y6):=zh ⟨⟨⟨HS5.out.1.1.1.keep hb HS5.out.1.1.1.lt,HS5.out.1.1.2.keep hb HS5.out.1.1.2.lt⟩,HS5.out.1.2.below hb HS5.out.1.2.lt⟩,HS5.out.2.trans (hb.mono HS5.out.2.size)⟩;clear hb;refine hK.out _ _ ?_ (fun hHeld=>?_)
 ·exact HS6.out
 clear hK K
 try simp only[Act.put,J1,J2,J3,J4,J5,J6]
 iterate 4
  refine zqb [14,15,16,17] rfl rfl ?_ ?_ ?_;rotate_left
  ·(intro w hSw;obtain⟨⟨⟨hsx,hsh⟩,hst⟩,hsb⟩:=hSw;obtain⟨q0,q1,q2,q3,q4,q5,q6,q7,q8,q9,q10,q11⟩:=cells12 hsx;obtain⟨u0,u1,u2,u3,u4,u5,u6,u7,u8,u9,u10,u11,u12,u13,u14⟩:=hsh.cells;go_simp;(try with_reducible rfl))
  try simp only[Act.put,J1,J2,J3,J4,J5,J6]
 refine zqe (NoPanic.normal ?_);go_wp2_with fail
 go_ret2
 exact⟨rfl,hHeld.2⟩
end Go.Proofs.YtagbkmoahflfdaaGreatDoor.Se
