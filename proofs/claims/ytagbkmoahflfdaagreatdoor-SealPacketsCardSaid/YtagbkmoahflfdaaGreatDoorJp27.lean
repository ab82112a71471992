import Derived.Test.YtagbkmoahflfdaaGreatDoorJp01
import Derived.Test.YtagbkmoahflfdaaGreatDoorJp26
import Derived.Test.YtagbkmoahflfdaaGreatDoorJp25
set_option maxHeartbeats 8000000
set_option maxRecDepth 20000
set_option linter.unusedVariables false
set_option linter.unusedSimpArgs false
namespace Go.Proofs.YtagbkmoahflfdaaGreatDoor.Se
open Tk Go.RowKit Vm Dg Kd
theorem tried_no(k0 v0 m0 SL HEAD:ByteArray)(t0:Bool)(lg sp ph:Bool)(ty ve:Int)(dc sc tk:ByteArray)(le wi nu:Int)(num:Nat)(v:Value)(w:World)
 (hd:RowD w v [((k0,v0,m0),t0)])
 (CO0:Hid (∀W:World,Calls Tryz.prog 45 #[.agg #[.string k0,.string v0,.string m0],.int .u64 num,.string HEAD,.string SL] W fun e w'=>e=.returned (.tuple #[.string ⟨#[]⟩,.bool false])∧Below W.heap.size W w')) :
 Calls Tryz.prog 63 #[.agg #[.bool lg,.bool sp,.bool ph,.int .i64 ty,.int .u32 ve,.string dc,.string sc,.string tk,.int .u64 le,.int .i64 wi,.int .u64 nu,.string HEAD,.string SL],.int .u64 num,v] w fun e w'=>e=.returned (.tuple #[.string ⟨#[]⟩,.bool false,.bool false])∧Below w.heap.size w w':=by
 obtain⟨g,c,rfl,hg,hcl⟩:=hd;have HC:=zh hcl;have HA0:=zh (heap_alloc_new w (.cells #[.bool lg,.bool sp,.bool ph,.int .i64 ty,.int .u32 ve,.string dc,.string sc,.string tk,.int .u64 le,.int .i64 wi,.int .u64 nu,.string HEAD,.string SL] 107));have HB0:=zh ((Below.refl w.heap.size w).alloc zle (.cells #[.bool lg,.bool sp,.bool ph,.int .i64 ty,.int .u32 ve,.string dc,.string sc,.string tk,.int .u64 le,.int .i64 wi,.int .u64 nu,.string HEAD,.string SL] 107));have hs0:w.heap.size<(w.alloc (.cells #[.bool lg,.bool sp,.bool ph,.int .i64 ty,.int .u32 ve,.string dc,.string sc,.string tk,.int .u64 le,.int .i64 wi,.int .u64 nu,.string HEAD,.string SL] 107)).heap.size:=by simp
 clear hcl;show Calls Tryz.prog 63 #[.agg #[.bool lg,.bool sp,.bool ph,.int .i64 ty,.int .u32 ve,.string dc,.string sc,.string tk,.int .u64 le,.int .i64 wi,.int .u64 nu,.string HEAD,.string SL],.int .u64 num,.slice (some ⟨g,0,none⟩) 1 c] w _;go_enter Tryz.func63,Tryz.ntmps63;go_upto_region 1 with (fail)
 generalize w.alloc (.cells #[.bool lg,.bool sp,.bool ph,.int .i64 ty,.int .u32 ve,.string dc,.string sc,.string tk,.int .u64 le,.int .i64 wi,.int .u64 nu,.string HEAD,.string SL] 107)=w0 at *;go_wp2_with fail
 refine wp_loop_rounds 2 ?_;rw[rounds_succ]
 have g0:w0.cell? ⟨g,0,none⟩=some (.string k0):=by
  have h:=HC.out 0 _ rfl;exact (HB0.out.cell (p:=⟨g,0,none⟩) hg).trans h
 have g1:w0.cell? ⟨g,1,none⟩=some (.string v0):=by
  have h:=HC.out 1 _ rfl;exact (HB0.out.cell (p:=⟨g,1,none⟩) hg).trans h
 have g2:w0.cell? ⟨g,2,none⟩=some (.string m0):=by
  have h:=HC.out 2 _ rfl;exact (HB0.out.cell (p:=⟨g,2,none⟩) hg).trans h
 have g3:w0.cell? ⟨g,3,none⟩=some (.bool t0):=by
  have h:=HC.out 3 _ rfl;exact (HB0.out.cell (p:=⟨g,3,none⟩) hg).trans h
 have p11:w0.cell? ⟨w.heap.size,11,none⟩=some (.string HEAD):=Lib.cell_of_heap HA0.out 11;have p12:w0.cell? ⟨w.heap.size,12,none⟩=some (.string SL):=Lib.cell_of_heap HA0.out 12;have n0:g<w0.heap.size:=by omega
 go_wp2_with fail
 with_reducible refine (CO0.out _).mono ?_
 rintro e0 w1 ⟨rfl,hb⟩;have HK:=zh ((hb.block w0.heap.size (by simp)).trans (heap_alloc_new w0 (.cells #[.string k0,.string v0,.string m0,.bool t0] 149)));have q3:w1.cell? ⟨w0.heap.size,3,none⟩=some (.bool t0):=Lib.cell_of_heap HK.out 3;have HA1:Hid (w1.heap[w.heap.size]?=some (.cells #[.bool lg,.bool sp,.bool ph,.int .i64 ty,.int .u32 ve,.string dc,.string sc,.string tk,.int .u64 le,.int .i64 wi,.int .u64 nu,.string HEAD,.string SL] 107 (0,0))):=zh ((hb.block w.heap.size (by simp;omega)).trans ((Below.heap_alloc w0 _ w.heap.size hs0).trans HA0.out));have HB1:Hid (Below w.heap.size w w1):=zh ((HB0.out.alloc (Nat.le_of_lt hs0) (.cells #[.string k0,.string v0,.string m0,.bool t0] 149)).trans (hb.mono (by simp;omega)));have hs1:w.heap.size<w1.heap.size:=(Array.getElem?_eq_some_iff.1 HA1.out).1;clear hb g0 g1 g2 g3 p11 p12;go_wp2_with fail
 rw[rounds_succ];go_wp2_with fail
 refine bodyPost_ret (v:=.tuple #[.string ⟨#[]⟩,.bool false,.bool false]) ?_ rfl ⟨rfl,HB1.out⟩;simp[results,Tryz.results63,go_sem]
theorem tried_one(k0 v0 m0 SL HEAD P:ByteArray)(t0:Bool)(lg sp ph:Bool)(ty ve:Int)(dc sc tk:ByteArray)(le wi nu:Int)(num:Nat)(v:Value)(w:World)
 (hd:RowD w v [((k0,v0,m0),t0)])
 (CO0:Hid (∀W:World,Calls Tryz.prog 45 #[.agg #[.string k0,.string v0,.string m0],.int .u64 num,.string HEAD,.string SL] W fun e w'=>e=.returned (.tuple #[.string P,.bool true])∧Below W.heap.size W w')) :
 Calls Tryz.prog 63 #[.agg #[.bool lg,.bool sp,.bool ph,.int .i64 ty,.int .u32 ve,.string dc,.string sc,.string tk,.int .u64 le,.int .i64 wi,.int .u64 nu,.string HEAD,.string SL],.int .u64 num,v] w fun e w'=>e=.returned (.tuple #[.string P,.bool t0,.bool true])∧Below w.heap.size w w':=by
 obtain⟨g,c,rfl,hg,hcl⟩:=hd;have HC:=zh hcl;have HA0:=zh (heap_alloc_new w (.cells #[.bool lg,.bool sp,.bool ph,.int .i64 ty,.int .u32 ve,.string dc,.string sc,.string tk,.int .u64 le,.int .i64 wi,.int .u64 nu,.string HEAD,.string SL] 107));have HB0:=zh ((Below.refl w.heap.size w).alloc zle (.cells #[.bool lg,.bool sp,.bool ph,.int .i64 ty,.int .u32 ve,.string dc,.string sc,.string tk,.int .u64 le,.int .i64 wi,.int .u64 nu,.string HEAD,.string SL] 107));have hs0:w.heap.size<(w.alloc (.cells #[.bool lg,.bool sp,.bool ph,.int .i64 ty,.int .u32 ve,.string dc,.string sc,.string tk,.int .u64 le,.int .i64 wi,.int .u64 nu,.string HEAD,.string SL] 107)).heap.size:=by simp
 clear hcl;show Calls Tryz.prog 63 #[.agg #[.bool lg,.bool sp,.bool ph,.int .i64 ty,.int .u32 ve,.string dc,.string sc,.string tk,.int .u64 le,.int .i64 wi,.int .u64 nu,.string HEAD,.string SL],.int .u64 num,.slice (some ⟨g,0,none⟩) 1 c] w _;go_enter Tryz.func63,Tryz.ntmps63;go_upto_region 1 with (fail)
 generalize w.alloc (.cells #[.bool lg,.bool sp,.bool ph,.int .i64 ty,.int .u32 ve,.string dc,.string sc,.string tk,.int .u64 le,.int .i64 wi,.int .u64 nu,.string HEAD,.string SL] 107)=w0 at *;go_wp2_with fail
 refine wp_loop_rounds 2 ?_;rw[rounds_succ]
 have g0:w0.cell? ⟨g,0,none⟩=some (.string k0):=by
  have h:=HC.out 0 _ rfl;exact (HB0.out.cell (p:=⟨g,0,none⟩) hg).trans h
 have g1:w0.cell? ⟨g,1,none⟩=some (.string v0):=by
  have h:=HC.out 1 _ rfl;exact (HB0.out.cell (p:=⟨g,1,none⟩) hg).trans h
 have g2:w0.cell? ⟨g,2,none⟩=some (.string m0):=by
  have h:=HC.out 2 _ rfl;exact (HB0.out.cell (p:=⟨g,2,none⟩) hg).trans h
 have g3:w0.cell? ⟨g,3,none⟩=some (.bool t0):=by
  have h:=HC.out 3 _ rfl;exact (HB0.out.cell (p:=⟨g,3,none⟩) hg).trans h
 have p11:w0.cell? ⟨w.heap.size,11,none⟩=some (.string HEAD):=Lib.cell_of_heap HA0.out 11;have p12:w0.cell? ⟨w.heap.size,12,none⟩=some (.string SL):=Lib.cell_of_heap HA0.out 12;have n0:g<w0.heap.size:=by omega
 go_wp2_with fail
 with_reducible refine (CO0.out _).mono ?_
 rintro e0 w1 ⟨rfl,hb⟩;have HK:=zh ((hb.block w0.heap.size (by simp)).trans (heap_alloc_new w0 (.cells #[.string k0,.string v0,.string m0,.bool t0] 149)));have q3:w1.cell? ⟨w0.heap.size,3,none⟩=some (.bool t0):=Lib.cell_of_heap HK.out 3;have HA1:Hid (w1.heap[w.heap.size]?=some (.cells #[.bool lg,.bool sp,.bool ph,.int .i64 ty,.int .u32 ve,.string dc,.string sc,.string tk,.int .u64 le,.int .i64 wi,.int .u64 nu,.string HEAD,.string SL] 107 (0,0))):=zh ((hb.block w.heap.size (by simp;omega)).trans ((Below.heap_alloc w0 _ w.heap.size hs0).trans HA0.out));have HB1:Hid (Below w.heap.size w w1):=zh ((HB0.out.alloc (Nat.le_of_lt hs0) (.cells #[.string k0,.string v0,.string m0,.bool t0] 149)).trans (hb.mono (by simp;omega)));have hs1:w.heap.size<w1.heap.size:=(Array.getElem?_eq_some_iff.1 HA1.out).1;clear hb g0 g1 g2 g3 p11 p12;go_wp2_with fail
 go_region
 go_wp2_with fail
 refine bodyPost_ret (v:=.tuple #[.string P,.bool t0,.bool true]) ?_ rfl ⟨rfl,HB1.out.drew⟩;simp[results,Tryz.results63,go_sem]
theorem tried_first(k0 v0 m0 k1 v1 m1 SL HEAD P:ByteArray)(t0 t1:Bool)(lg sp ph:Bool)(ty ve:Int)(dc sc tk:ByteArray)(le wi nu:Int)(num:Nat)(v:Value)(w:World)
 (hd:RowD w v [((k0,v0,m0),t0),((k1,v1,m1),t1)])
 (CO0:Hid (∀W:World,Calls Tryz.prog 45 #[.agg #[.string k0,.string v0,.string m0],.int .u64 num,.string HEAD,.string SL] W fun e w'=>e=.returned (.tuple #[.string P,.bool true])∧Below W.heap.size W w')) :
 Calls Tryz.prog 63 #[.agg #[.bool lg,.bool sp,.bool ph,.int .i64 ty,.int .u32 ve,.string dc,.string sc,.string tk,.int .u64 le,.int .i64 wi,.int .u64 nu,.string HEAD,.string SL],.int .u64 num,v] w fun e w'=>e=.returned (.tuple #[.string P,.bool t0,.bool true])∧Below w.heap.size w w':=by
 obtain⟨g,c,rfl,hg,hcl⟩:=hd;have HC:=zh hcl;have HA0:=zh (heap_alloc_new w (.cells #[.bool lg,.bool sp,.bool ph,.int .i64 ty,.int .u32 ve,.string dc,.string sc,.string tk,.int .u64 le,.int .i64 wi,.int .u64 nu,.string HEAD,.string SL] 107));have HB0:=zh ((Below.refl w.heap.size w).alloc zle (.cells #[.bool lg,.bool sp,.bool ph,.int .i64 ty,.int .u32 ve,.string dc,.string sc,.string tk,.int .u64 le,.int .i64 wi,.int .u64 nu,.string HEAD,.string SL] 107));have hs0:w.heap.size<(w.alloc (.cells #[.bool lg,.bool sp,.bool ph,.int .i64 ty,.int .u32 ve,.string dc,.string sc,.string tk,.int .u64 le,.int .i64 wi,.int .u64 nu,.string HEAD,.string SL] 107)).heap.size:=by simp
 clear hcl;show Calls Tryz.prog 63 #[.agg #[.bool lg,.bool sp,.bool ph,.int .i64 ty,.int .u32 ve,.string dc,.string sc,.string tk,.int .u64 le,.int .i64 wi,.int .u64 nu,.string HEAD,.string SL],.int .u64 num,.slice (some ⟨g,0,none⟩) 2 c] w _;go_enter Tryz.func63,Tryz.ntmps63;go_upto_region 1 with (fail)
 generalize w.alloc (.cells #[.bool lg,.bool sp,.bool ph,.int .i64 ty,.int .u32 ve,.string dc,.string sc,.string tk,.int .u64 le,.int .i64 wi,.int .u64 nu,.string HEAD,.string SL] 107)=w0 at *;go_wp2_with fail
 refine wp_loop_rounds 3 ?_;rw[rounds_succ]
 have g0:w0.cell? ⟨g,0,none⟩=some (.string k0):=by
  have h:=HC.out 0 _ rfl;exact (HB0.out.cell (p:=⟨g,0,none⟩) hg).trans h
 have g1:w0.cell? ⟨g,1,none⟩=some (.string v0):=by
  have h:=HC.out 1 _ rfl;exact (HB0.out.cell (p:=⟨g,1,none⟩) hg).trans h
 have g2:w0.cell? ⟨g,2,none⟩=some (.string m0):=by
  have h:=HC.out 2 _ rfl;exact (HB0.out.cell (p:=⟨g,2,none⟩) hg).trans h
 have g3:w0.cell? ⟨g,3,none⟩=some (.bool t0):=by
  have h:=HC.out 3 _ rfl;exact (HB0.out.cell (p:=⟨g,3,none⟩) hg).trans h
 have p11:w0.cell? ⟨w.heap.size,11,none⟩=some (.string HEAD):=Lib.cell_of_heap HA0.out 11;have p12:w0.cell? ⟨w.heap.size,12,none⟩=some (.string SL):=Lib.cell_of_heap HA0.out 12;have n0:g<w0.heap.size:=by omega
 go_wp2_with fail
 with_reducible refine (CO0.out _).mono ?_
 rintro e0 w1 ⟨rfl,hb⟩;have HK:=zh ((hb.block w0.heap.size (by simp)).trans (heap_alloc_new w0 (.cells #[.string k0,.string v0,.string m0,.bool t0] 149)));have q3:w1.cell? ⟨w0.heap.size,3,none⟩=some (.bool t0):=Lib.cell_of_heap HK.out 3;have HA1:Hid (w1.heap[w.heap.size]?=some (.cells #[.bool lg,.bool sp,.bool ph,.int .i64 ty,.int .u32 ve,.string dc,.string sc,.string tk,.int .u64 le,.int .i64 wi,.int .u64 nu,.string HEAD,.string SL] 107 (0,0))):=zh ((hb.block w.heap.size (by simp;omega)).trans ((Below.heap_alloc w0 _ w.heap.size hs0).trans HA0.out));have HB1:Hid (Below w.heap.size w w1):=zh ((HB0.out.alloc (Nat.le_of_lt hs0) (.cells #[.string k0,.string v0,.string m0,.bool t0] 149)).trans (hb.mono (by simp;omega)));have hs1:w.heap.size<w1.heap.size:=(Array.getElem?_eq_some_iff.1 HA1.out).1;clear hb g0 g1 g2 g3 p11 p12;go_wp2_with fail
 go_region
 go_wp2_with fail
 refine bodyPost_ret (v:=.tuple #[.string P,.bool t0,.bool true]) ?_ rfl ⟨rfl,HB1.out.drew⟩;simp[results,Tryz.results63,go_sem]
theorem tried_second(k0 v0 m0 k1 v1 m1 SL HEAD P:ByteArray)(t0 t1:Bool)(lg sp ph:Bool)(ty ve:Int)(dc sc tk:ByteArray)(le wi nu:Int)(num:Nat)(v:Value)(w:World)
 (hd:RowD w v [((k0,v0,m0),t0),((k1,v1,m1),t1)])
 (CO0:Hid (∀W:World,Calls Tryz.prog 45 #[.agg #[.string k0,.string v0,.string m0],.int .u64 num,.string HEAD,.string SL] W fun e w'=>e=.returned (.tuple #[.string ⟨#[]⟩,.bool false])∧Below W.heap.size W w'))
 (CO1:Hid (∀W:World,Calls Tryz.prog 45 #[.agg #[.string k1,.string v1,.string m1],.int .u64 num,.string HEAD,.string SL] W fun e w'=>e=.returned (.tuple #[.string P,.bool true])∧Below W.heap.size W w')) :
 Calls Tryz.prog 63 #[.agg #[.bool lg,.bool sp,.bool ph,.int .i64 ty,.int .u32 ve,.string dc,.string sc,.string tk,.int .u64 le,.int .i64 wi,.int .u64 nu,.string HEAD,.string SL],.int .u64 num,v] w fun e w'=>e=.returned (.tuple #[.string P,.bool t1,.bool true])∧Below w.heap.size w w':=by
 obtain⟨g,c,rfl,hg,hcl⟩:=hd;have HC:=zh hcl;have HA0:=zh (heap_alloc_new w (.cells #[.bool lg,.bool sp,.bool ph,.int .i64 ty,.int .u32 ve,.string dc,.string sc,.string tk,.int .u64 le,.int .i64 wi,.int .u64 nu,.string HEAD,.string SL] 107));have HB0:=zh ((Below.refl w.heap.size w).alloc zle (.cells #[.bool lg,.bool sp,.bool ph,.int .i64 ty,.int .u32 ve,.string dc,.string sc,.string tk,.int .u64 le,.int .i64 wi,.int .u64 nu,.string HEAD,.string SL] 107));have hs0:w.heap.size<(w.alloc (.cells #[.bool lg,.bool sp,.bool ph,.int .i64 ty,.int .u32 ve,.string dc,.string sc,.string tk,.int .u64 le,.int .i64 wi,.int .u64 nu,.string HEAD,.string SL] 107)).heap.size:=by simp
 clear hcl;show Calls Tryz.prog 63 #[.agg #[.bool lg,.bool sp,.bool ph,.int .i64 ty,.int .u32 ve,.string dc,.string sc,.string tk,.int .u64 le,.int .i64 wi,.int .u64 nu,.string HEAD,.string SL],.int .u64 num,.slice (some ⟨g,0,none⟩) 2 c] w _;go_enter Tryz.func63,Tryz.ntmps63;go_upto_region 1 with (fail)
 generalize w.alloc (.cells #[.bool lg,.bool sp,.bool ph,.int .i64 ty,.int .u32 ve,.string dc,.string sc,.string tk,.int .u64 le,.int .i64 wi,.int .u64 nu,.string HEAD,.string SL] 107)=w0 at *;go_wp2_with fail
 refine wp_loop_rounds 3 ?_;rw[rounds_succ]
 have g0:w0.cell? ⟨g,0,none⟩=some (.string k0):=by
  have h:=HC.out 0 _ rfl;exact (HB0.out.cell (p:=⟨g,0,none⟩) hg).trans h
 have g1:w0.cell? ⟨g,1,none⟩=some (.string v0):=by
  have h:=HC.out 1 _ rfl;exact (HB0.out.cell (p:=⟨g,1,none⟩) hg).trans h
 have g2:w0.cell? ⟨g,2,none⟩=some (.string m0):=by
  have h:=HC.out 2 _ rfl;exact (HB0.out.cell (p:=⟨g,2,none⟩) hg).trans h
 have g3:w0.cell? ⟨g,3,none⟩=some (.bool t0):=by
  have h:=HC.out 3 _ rfl;exact (HB0.out.cell (p:=⟨g,3,none⟩) hg).trans h
 have p11:w0.cell? ⟨w.heap.size,11,none⟩=some (.string HEAD):=Lib.cell_of_heap HA0.out 11;have p12:w0.cell? ⟨w.heap.size,12,none⟩=some (.string SL):=Lib.cell_of_heap HA0.out 12;have n0:g<w0.heap.size:=by omega
 go_wp2_with fail
 with_reducible refine (CO0.out _).mono ?_
 rintro e0 w1 ⟨rfl,hb⟩;have HK:=zh ((hb.block w0.heap.size (by simp)).trans (heap_alloc_new w0 (.cells #[.string k0,.string v0,.string m0,.bool t0] 149)));have q3:w1.cell? ⟨w0.heap.size,3,none⟩=some (.bool t0):=Lib.cell_of_heap HK.out 3;have HA1:Hid (w1.heap[w.heap.size]?=some (.cells #[.bool lg,.bool sp,.bool ph,.int .i64 ty,.int .u32 ve,.string dc,.string sc,.string tk,.int .u64 le,.int .i64 wi,.int .u64 nu,.string HEAD,.string SL] 107 (0,0))):=zh ((hb.block w.heap.size (by simp;omega)).trans ((Below.heap_alloc w0 _ w.heap.size hs0).trans HA0.out));have HB1:Hid (Below w.heap.size w w1):=zh ((HB0.out.alloc (Nat.le_of_lt hs0) (.cells #[.string k0,.string v0,.string m0,.bool t0] 149)).trans (hb.mono (by simp;omega)));have hs1:w.heap.size<w1.heap.size:=(Array.getElem?_eq_some_iff.1 HA1.out).1;clear hb g0 g1 g2 g3 p11 p12;go_wp2_with fail
 rw[rounds_succ]
 have g0:w1.cell? ⟨g,4,none⟩=some (.string k1):=by
  have h:=HC.out 4 _ rfl;exact (HB1.out.cell (p:=⟨g,4,none⟩) hg).trans h
 have g1:w1.cell? ⟨g,5,none⟩=some (.string v1):=by
  have h:=HC.out 5 _ rfl;exact (HB1.out.cell (p:=⟨g,5,none⟩) hg).trans h
 have g2:w1.cell? ⟨g,6,none⟩=some (.string m1):=by
  have h:=HC.out 6 _ rfl;exact (HB1.out.cell (p:=⟨g,6,none⟩) hg).trans h
 have g3:w1.cell? ⟨g,7,none⟩=some (.bool t1):=by
  have h:=HC.out 7 _ rfl;exact (HB1.out.cell (p:=⟨g,7,none⟩) hg).trans h
 have p11:w1.cell? ⟨w.heap.size,11,none⟩=some (.string HEAD):=Lib.cell_of_heap HA1.out 11;have p12:w1.cell? ⟨w.heap.size,12,none⟩=some (.string SL):=Lib.cell_of_heap HA1.out 12;have n1:g<w1.heap.size:=by omega
 go_wp2_with fail
 with_reducible refine (CO1.out _).mono ?_
 rintro e1 w2 ⟨rfl,hb⟩;have HK:=zh ((hb.block w1.heap.size (by simp)).trans (heap_alloc_new w1 (.cells #[.string k1,.string v1,.string m1,.bool t1] 149)));have q3:w2.cell? ⟨w1.heap.size,3,none⟩=some (.bool t1):=Lib.cell_of_heap HK.out 3;have HA2:Hid (w2.heap[w.heap.size]?=some (.cells #[.bool lg,.bool sp,.bool ph,.int .i64 ty,.int .u32 ve,.string dc,.string sc,.string tk,.int .u64 le,.int .i64 wi,.int .u64 nu,.string HEAD,.string SL] 107 (0,0))):=zh ((hb.block w.heap.size (by simp;omega)).trans ((Below.heap_alloc w1 _ w.heap.size hs1).trans HA1.out));have HB2:Hid (Below w.heap.size w w2):=zh ((HB1.out.alloc (Nat.le_of_lt hs1) (.cells #[.string k1,.string v1,.string m1,.bool t1] 149)).trans (hb.mono (by simp;omega)));have hs2:w.heap.size<w2.heap.size:=(Array.getElem?_eq_some_iff.1 HA2.out).1;clear hb g0 g1 g2 g3 p11 p12;go_wp2_with fail
 go_region
 go_wp2_with fail
 refine bodyPost_ret (v:=.tuple #[.string P,.bool t1,.bool true]) ?_ rfl ⟨rfl,HB2.out.drew⟩;simp[results,Tryz.results63,go_sem]
theorem tried_none(k0 v0 m0 k1 v1 m1 SL HEAD:ByteArray)(t0 t1:Bool)(lg sp ph:Bool)(ty ve:Int)(dc sc tk:ByteArray)(le wi nu:Int)(num:Nat)(v:Value)(w:World)
 (hd:RowD w v [((k0,v0,m0),t0),((k1,v1,m1),t1)])
 (CO0:Hid (∀W:World,Calls Tryz.prog 45 #[.agg #[.string k0,.string v0,.string m0],.int .u64 num,.string HEAD,.string SL] W fun e w'=>e=.returned (.tuple #[.string ⟨#[]⟩,.bool false])∧Below W.heap.size W w'))
 (CO1:Hid (∀W:World,Calls Tryz.prog 45 #[.agg #[.string k1,.string v1,.string m1],.int .u64 num,.string HEAD,.string SL] W fun e w'=>e=.returned (.tuple #[.string ⟨#[]⟩,.bool false])∧Below W.heap.size W w')) :
 Calls Tryz.prog 63 #[.agg #[.bool lg,.bool sp,.bool ph,.int .i64 ty,.int .u32 ve,.string dc,.string sc,.string tk,.int .u64 le,.int .i64 wi,.int .u64 nu,.string HEAD,.string SL],.int .u64 num,v] w fun e w'=>e=.returned (.tuple #[.string ⟨#[]⟩,.bool false,.bool false])∧Below w.heap.size w w':=by
 obtain⟨g,c,rfl,hg,hcl⟩:=hd;have HC:=zh hcl;have HA0:=zh (heap_alloc_new w (.cells #[.bool lg,.bool sp,.bool ph,.int .i64 ty,.int .u32 ve,.string dc,.string sc,.string tk,.int .u64 le,.int .i64 wi,.int .u64 nu,.string HEAD,.string SL] 107));have HB0:=zh ((Below.refl w.heap.size w).alloc zle (.cells #[.bool lg,.bool sp,.bool ph,.int .i64 ty,.int .u32 ve,.string dc,.string sc,.string tk,.int .u64 le,.int .i64 wi,.int .u64 nu,.string HEAD,.string SL] 107));have hs0:w.heap.size<(w.alloc (.cells #[.bool lg,.bool sp,.bool ph,.int .i64 ty,.int .u32 ve,.string dc,.string sc,.string tk,.int .u64 le,.int .i64 wi,.int .u64 nu,.string HEAD,.string SL] 107)).heap.size:=by simp
 clear hcl;show Calls Tryz.prog 63 #[.agg #[.bool lg,.bool sp,.bool ph,.int .i64 ty,.int .u32 ve,.string dc,.string sc,.string tk,.int .u64 le,.int .i64 wi,.int .u64 nu,.string HEAD,.string SL],.int .u64 num,.slice (some ⟨g,0,none⟩) 2 c] w _;go_enter Tryz.func63,Tryz.ntmps63;go_upto_region 1 with (fail)
 generalize w.alloc (.cells #[.bool lg,.bool sp,.bool ph,.int .i64 ty,.int .u32 ve,.string dc,.string sc,.string tk,.int .u64 le,.int .i64 wi,.int .u64 nu,.string HEAD,.string SL] 107)=w0 at *;go_wp2_with fail
 refine wp_loop_rounds 3 ?_;rw[rounds_succ]
 have g0:w0.cell? ⟨g,0,none⟩=some (.string k0):=by
  have h:=HC.out 0 _ rfl;exact (HB0.out.cell (p:=⟨g,0,none⟩) hg).trans h
 have g1:w0.cell? ⟨g,1,none⟩=some (.string v0):=by
  have h:=HC.out 1 _ rfl;exact (HB0.out.cell (p:=⟨g,1,none⟩) hg).trans h
 have g2:w0.cell? ⟨g,2,none⟩=some (.string m0):=by
  have h:=HC.out 2 _ rfl;exact (HB0.out.cell (p:=⟨g,2,none⟩) hg).trans h
 have g3:w0.cell? ⟨g,3,none⟩=some (.bool t0):=by
  have h:=HC.out 3 _ rfl;exact (HB0.out.cell (p:=⟨g,3,none⟩) hg).trans h
 have p11:w0.cell? ⟨w.heap.size,11,none⟩=some (.string HEAD):=Lib.cell_of_heap HA0.out 11;have p12:w0.cell? ⟨w.heap.size,12,none⟩=some (.string SL):=Lib.cell_of_heap HA0.out 12;have n0:g<w0.heap.size:=by omega
 go_wp2_with fail
 with_reducible refine (CO0.out _).mono ?_
 rintro e0 w1 ⟨rfl,hb⟩;have HK:=zh ((hb.block w0.heap.size (by simp)).trans (heap_alloc_new w0 (.cells #[.string k0,.string v0,.string m0,.bool t0] 149)));have q3:w1.cell? ⟨w0.heap.size,3,none⟩=some (.bool t0):=Lib.cell_of_heap HK.out 3;have HA1:Hid (w1.heap[w.heap.size]?=some (.cells #[.bool lg,.bool sp,.bool ph,.int .i64 ty,.int .u32 ve,.string dc,.string sc,.string tk,.int .u64 le,.int .i64 wi,.int .u64 nu,.string HEAD,.string SL] 107 (0,0))):=zh ((hb.block w.heap.size (by simp;omega)).trans ((Below.heap_alloc w0 _ w.heap.size hs0).trans HA0.out));have HB1:Hid (Below w.heap.size w w1):=zh ((HB0.out.alloc (Nat.le_of_lt hs0) (.cells #[.string k0,.string v0,.string m0,.bool t0] 149)).trans (hb.mono (by simp;omega)));have hs1:w.heap.size<w1.heap.size:=(Array.getElem?_eq_some_iff.1 HA1.out).1;clear hb g0 g1 g2 g3 p11 p12;go_wp2_with fail
 rw[rounds_succ]
 have g0:w1.cell? ⟨g,4,none⟩=some (.string k1):=by
  have h:=HC.out 4 _ rfl;exact (HB1.out.cell (p:=⟨g,4,none⟩) hg).trans h
 have g1:w1.cell? ⟨g,5,none⟩=some (.string v1):=by
  have h:=HC.out 5 _ rfl;exact (HB1.out.cell (p:=⟨g,5,none⟩) hg).trans h
 have g2:w1.cell? ⟨g,6,none⟩=some (.string m1):=by
  have h:=HC.out 6 _ rfl;exact (HB1.out.cell (p:=⟨g,6,none⟩) hg).trans h
 have g3:w1.cell? ⟨g,7,none⟩=some (.bool t1):=by
  have h:=HC.out 7 _ rfl;exact (HB1.out.cell (p:=⟨g,7,none⟩) hg).trans h
 have p11:w1.cell? ⟨w.heap.size,11,none⟩=some (.string HEAD):=Lib.cell_of_heap HA1.out 11;have p12:w1.cell? ⟨w.heap.size,12,none⟩=some (.string SL):=Lib.cell_of_heap HA1.out 12;have n1:g<w1.heap.size:=by omega
 go_wp2_with fail
 with_reducible refine (CO1.out _).mono ?_
 rintro e1 w2 ⟨rfl,hb⟩;have HK:=zh ((hb.block w1.heap.size (by simp)).trans (heap_alloc_new w1 (.cells #[.string k1,.string v1,.string m1,.bool t1] 149)));have q3:w2.cell? ⟨w1.heap.size,3,none⟩=some (.bool t1):=Lib.cell_of_heap HK.out 3;have HA2:Hid (w2.heap[w.heap.size]?=some (.cells #[.bool lg,.bool sp,.bool ph,.int .i64 ty,.int .u32 ve,.string dc,.string sc,.string tk,.int .u64 le,.int .i64 wi,.int .u64 nu,.string HEAD,.string SL] 107 (0,0))):=zh ((hb.block w.heap.size (by simp;omega)).trans ((Below.heap_alloc w1 _ w.heap.size hs1).trans HA1.out));have HB2:Hid (Below w.heap.size w w2):=zh ((HB1.out.alloc (Nat.le_of_lt hs1) (.cells #[.string k1,.string v1,.string m1,.bool t1] 149)).trans (hb.mono (by simp;omega)));have hs2:w.heap.size<w2.heap.size:=(Array.getElem?_eq_some_iff.1 HA2.out).1;clear hb g0 g1 g2 g3 p11 p12;go_wp2_with fail
 rw[rounds_succ];go_wp2_with fail
 refine bodyPost_ret (v:=.tuple #[.string ⟨#[]⟩,.bool false,.bool false]) ?_ rfl ⟨rfl,HB2.out⟩;simp[results,Tryz.results63,go_sem]
end Go.Proofs.YtagbkmoahflfdaaGreatDoor.Se
