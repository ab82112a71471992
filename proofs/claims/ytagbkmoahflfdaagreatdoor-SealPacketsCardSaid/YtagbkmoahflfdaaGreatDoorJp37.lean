import Derived.Test.YtagbkmoahflfdaaGreatDoorJp21
import Derived.Test.YtagbkmoahflfdaaGreatDoorJp01
import Derived.Test.YtagbkmoahflfdaaGreatDoorJp19
import Derived.Deep.QuietTactic
import Derived.BigQuiet
set_option maxHeartbeats 2000000
set_option maxRecDepth 20000
set_option linter.unusedVariables false
set_option linter.unusedSimpArgs false
namespace Go.Proofs.YtagbkmoahflfdaaGreatDoor.Hd
open Go.RowKit Vm
theorem window_1(w:World) :
 Calls Tryz.prog 124 #[.int .i64 1] w fun e w'=>e=.returned (.int .u64 256)∧w=w':=by
 go_enter Tryz.func124,Tryz.ntmps124;go_wp2;refine wp_loop_rounds 2 ?_
 iterate 2 (rw[rounds_succ];go_wp2)
 go_ret
 exact⟨rfl,rfl⟩
theorem window_2(w:World) :
 Calls Tryz.prog 124 #[.int .i64 2] w fun e w'=>e=.returned (.int .u64 65536)∧w=w':=by
 go_enter Tryz.func124,Tryz.ntmps124;go_wp2;refine wp_loop_rounds 3 ?_
 iterate 3 (rw[rounds_succ];go_wp2)
 go_ret
 exact⟨rfl,rfl⟩
theorem window_3(w:World) :
 Calls Tryz.prog 124 #[.int .i64 3] w fun e w'=>e=.returned (.int .u64 16777216)∧w=w':=by
 go_enter Tryz.func124,Tryz.ntmps124;go_wp2;refine wp_loop_rounds 4 ?_
 iterate 4 (rw[rounds_succ];go_wp2)
 go_ret
 exact⟨rfl,rfl⟩
theorem window_4(w:World) :
 Calls Tryz.prog 124 #[.int .i64 4] w fun e w'=>e=.returned (.int .u64 4294967296)∧w=w':=by
 go_enter Tryz.func124,Tryz.ntmps124;go_wp2;refine wp_loop_rounds 5 ?_
 iterate 5 (rw[rounds_succ];go_wp2)
 go_ret
 exact⟨rfl,rfl⟩
open Tk
theorem window_any(wi:Int)(h1:1≤wi)(h4:wi≤4)(w:World):Calls Tryz.prog 124 #[.int .i64 wi] w fun e w'=>e=.returned (.int .u64 (256^wi.toNat))∧w'=w:=by
 have:wi=1∨wi=2∨wi=3∨wi=4:=by omega
 rcases this with rfl|rfl|rfl|rfl
 ·exact (window_1 w).mono fun _ _ ⟨a,b⟩=>⟨a,b.symm⟩
 ·exact (window_2 w).mono fun _ _ ⟨a,b⟩=>⟨a,b.symm⟩
 ·exact (window_3 w).mono fun _ _ ⟨a,b⟩=>⟨a,b.symm⟩
 ·exact (window_4 w).mono fun _ _ ⟨a,b⟩=>⟨a,b.symm⟩
theorem pow_le(wi:Int)(h1:1≤wi)(h4:wi≤4):(0:Int)≤256^wi.toNat∧(256:Int)^wi.toNat≤4294967296:=by
 have:wi=1∨wi=2∨wi=3∨wi=4:=by omega
 rcases this with rfl|rfl|rfl|rfl<;>decide
theorem refMay_w1(lg sp ph:Bool)(ty ve:Int)(dc sc tk:ByteArray)(le wi nu:Int)(w:World)(wty:-9223372036854775808≤ty)(wty2:ty≤9223372036854775807)(wve:0≤ve)(wve2:ve≤4294967295)(wdc:dc.size≤9223372036854775807)(wsc:sc.size≤9223372036854775807)(wtk:tk.size≤9223372036854775807)(wle:0≤le)(wle2:le≤18446744073709551615)(wwi:-9223372036854775808≤wi)(wwi2:wi≤9223372036854775807)(wnu:0≤nu)(wnu2:nu≤18446744073709551615)(h:decide (wi<1)=true)(h4:decide (4<wi)=false) :
 Calls Tryz.prog 93 #[.agg #[.bool lg,.bool sp,.bool ph,.int .i64 ty,.int .u32 ve,.string dc,.string sc,.string tk,.int .u64 le,.int .i64 wi,.int .u64 nu]] w fun e w'=>e=.returned (.bool false)∧Below w.heap.size w w':=by
 go_enter Tryz.func93,Tryz.ntmps93;go_wp2_with fail
 go_quiet (fail)
 go_wp2
 go_ret
 exact⟨rfl,below_drewN ((Below.refl _ _).alloc zle _) _⟩
theorem refMay_w2(lg sp ph:Bool)(ty ve:Int)(dc sc tk:ByteArray)(le wi nu:Int)(w:World)(wty:-9223372036854775808≤ty)(wty2:ty≤9223372036854775807)(wve:0≤ve)(wve2:ve≤4294967295)(wdc:dc.size≤9223372036854775807)(wsc:sc.size≤9223372036854775807)(wtk:tk.size≤9223372036854775807)(wle:0≤le)(wle2:le≤18446744073709551615)(wwi:-9223372036854775808≤wi)(wwi2:wi≤9223372036854775807)(wnu:0≤nu)(wnu2:nu≤18446744073709551615)(h:decide (wi<1)=false)(h4:decide (4<wi)=true) :
 Calls Tryz.prog 93 #[.agg #[.bool lg,.bool sp,.bool ph,.int .i64 ty,.int .u32 ve,.string dc,.string sc,.string tk,.int .u64 le,.int .i64 wi,.int .u64 nu]] w fun e w'=>e=.returned (.bool false)∧Below w.heap.size w w':=by
 go_enter Tryz.func93,Tryz.ntmps93;go_wp2_with fail
 go_quiet (fail)
 go_wp2
 go_ret
 exact⟨rfl,below_drewN ((Below.refl _ _).alloc zle _) _⟩
theorem refMay_w3(lg sp ph:Bool)(ty ve:Int)(dc sc tk:ByteArray)(le wi nu:Int)(w:World)(wty:-9223372036854775808≤ty)(wty2:ty≤9223372036854775807)(wve:0≤ve)(wve2:ve≤4294967295)(wdc:dc.size≤9223372036854775807)(wsc:sc.size≤9223372036854775807)(wtk:tk.size≤9223372036854775807)(wle:0≤le)(wle2:le≤18446744073709551615)(wwi:-9223372036854775808≤wi)(wwi2:wi≤9223372036854775807)(wnu:0≤nu)(wnu2:nu≤18446744073709551615)(P:Int)(hP0:0≤P)(hP:P≤4294967296)(h1:1≤wi)(h2:wi≤4)(h:decide (wi<1)=false)(h4:decide (4<wi)=false)(CW:Hid (∀w:World,Calls Tryz.prog 124 #[.int .i64 wi] w fun e w'=>e=.returned (.int .u64 P)∧w'=w))(hn:decide (P≤nu)=true) :
 Calls Tryz.prog 93 #[.agg #[.bool lg,.bool sp,.bool ph,.int .i64 ty,.int .u32 ve,.string dc,.string sc,.string tk,.int .u64 le,.int .i64 wi,.int .u64 nu]] w fun e w'=>e=.returned (.bool false)∧Below w.heap.size w w':=by
 go_enter Tryz.func93,Tryz.ntmps93;go_wp2_with fail
 go_quiet ((go_at_call 124;exact Calls.quiet_of_same (CW.out _)))
 go_wp2
 go_ret
 exact⟨rfl,below_drewN ((Below.refl _ _).alloc zle _) _⟩
theorem refMay_s0(sp ph:Bool)(ty ve:Int)(dc sc tk:ByteArray)(le wi nu:Int)(w:World)(wty:-9223372036854775808≤ty)(wty2:ty≤9223372036854775807)(wve:0≤ve)(wve2:ve≤4294967295)(wdc:dc.size≤9223372036854775807)(wsc:sc.size≤9223372036854775807)(wtk:tk.size≤9223372036854775807)(wle:0≤le)(wle2:le≤18446744073709551615)(wwi:-9223372036854775808≤wi)(wwi2:wi≤9223372036854775807)(wnu:0≤nu)(wnu2:nu≤18446744073709551615)(P:Int)(hP0:0≤P)(hP:P≤4294967296)(h1:1≤wi)(h2:wi≤4)(h:decide (wi<1)=false)(h4:decide (4<wi)=false)(CW:Hid (∀w:World,Calls Tryz.prog 124 #[.int .i64 wi] w fun e w'=>e=.returned (.int .u64 P)∧w'=w))(hn:decide (P≤nu)=false)(c0:(((dc.size:Nat):Int)==8)=false) :
 Calls Tryz.prog 93 #[.agg #[.bool false,.bool sp,.bool ph,.int .i64 ty,.int .u32 ve,.string dc,.string sc,.string tk,.int .u64 le,.int .i64 wi,.int .u64 nu]] w fun e w'=>e=.returned (.bool false)∧Below w.heap.size w w':=by
 go_enter Tryz.func93,Tryz.ntmps93;go_wp2_with fail
 go_quiet ((go_at_call 124;exact Calls.quiet_of_same (CW.out _)))
 go_wp2
 go_ret
 exact⟨rfl,below_drewN ((Below.refl _ _).alloc zle _) _⟩
theorem refMay_s1(sp ph:Bool)(ty ve:Int)(dc sc tk:ByteArray)(le wi nu:Int)(w:World)(wty:-9223372036854775808≤ty)(wty2:ty≤9223372036854775807)(wve:0≤ve)(wve2:ve≤4294967295)(wdc:dc.size≤9223372036854775807)(wsc:sc.size≤9223372036854775807)(wtk:tk.size≤9223372036854775807)(wle:0≤le)(wle2:le≤18446744073709551615)(wwi:-9223372036854775808≤wi)(wwi2:wi≤9223372036854775807)(wnu:0≤nu)(wnu2:nu≤18446744073709551615)(P:Int)(hP0:0≤P)(hP:P≤4294967296)(h1:1≤wi)(h2:wi≤4)(h:decide (wi<1)=false)(h4:decide (4<wi)=false)(CW:Hid (∀w:World,Calls Tryz.prog 124 #[.int .i64 wi] w fun e w'=>e=.returned (.int .u64 P)∧w'=w))(hn:decide (P≤nu)=false)(c0:(((dc.size:Nat):Int)==8)=true)(c1:(ty==0)=false) :
 Calls Tryz.prog 93 #[.agg #[.bool false,.bool sp,.bool ph,.int .i64 ty,.int .u32 ve,.string dc,.string sc,.string tk,.int .u64 le,.int .i64 wi,.int .u64 nu]] w fun e w'=>e=.returned (.bool false)∧Below w.heap.size w w':=by
 go_enter Tryz.func93,Tryz.ntmps93;go_wp2_with fail
 go_quiet ((go_at_call 124;exact Calls.quiet_of_same (CW.out _)))
 go_wp2
 go_ret
 exact⟨rfl,below_drewN ((Below.refl _ _).alloc zle _) _⟩
theorem refMay_s2(sp ph:Bool)(ty ve:Int)(dc sc tk:ByteArray)(le wi nu:Int)(w:World)(wty:-9223372036854775808≤ty)(wty2:ty≤9223372036854775807)(wve:0≤ve)(wve2:ve≤4294967295)(wdc:dc.size≤9223372036854775807)(wsc:sc.size≤9223372036854775807)(wtk:tk.size≤9223372036854775807)(wle:0≤le)(wle2:le≤18446744073709551615)(wwi:-9223372036854775808≤wi)(wwi2:wi≤9223372036854775807)(wnu:0≤nu)(wnu2:nu≤18446744073709551615)(P:Int)(hP0:0≤P)(hP:P≤4294967296)(h1:1≤wi)(h2:wi≤4)(h:decide (wi<1)=false)(h4:decide (4<wi)=false)(CW:Hid (∀w:World,Calls Tryz.prog 124 #[.int .i64 wi] w fun e w'=>e=.returned (.int .u64 P)∧w'=w))(hn:decide (P≤nu)=false)(c0:(((dc.size:Nat):Int)==8)=true)(c1:(ty==0)=true)(c2:(ve==0)=false) :
 Calls Tryz.prog 93 #[.agg #[.bool false,.bool sp,.bool ph,.int .i64 ty,.int .u32 ve,.string dc,.string sc,.string tk,.int .u64 le,.int .i64 wi,.int .u64 nu]] w fun e w'=>e=.returned (.bool false)∧Below w.heap.size w w':=by
 go_enter Tryz.func93,Tryz.ntmps93;go_wp2_with fail
 go_quiet ((go_at_call 124;exact Calls.quiet_of_same (CW.out _)))
 go_wp2
 go_ret
 exact⟨rfl,below_drewN ((Below.refl _ _).alloc zle _) _⟩
theorem refMay_s3(sp ph:Bool)(ty ve:Int)(dc sc tk:ByteArray)(le wi nu:Int)(w:World)(wty:-9223372036854775808≤ty)(wty2:ty≤9223372036854775807)(wve:0≤ve)(wve2:ve≤4294967295)(wdc:dc.size≤9223372036854775807)(wsc:sc.size≤9223372036854775807)(wtk:tk.size≤9223372036854775807)(wle:0≤le)(wle2:le≤18446744073709551615)(wwi:-9223372036854775808≤wi)(wwi2:wi≤9223372036854775807)(wnu:0≤nu)(wnu2:nu≤18446744073709551615)(P:Int)(hP0:0≤P)(hP:P≤4294967296)(h1:1≤wi)(h2:wi≤4)(h:decide (wi<1)=false)(h4:decide (4<wi)=false)(CW:Hid (∀w:World,Calls Tryz.prog 124 #[.int .i64 wi] w fun e w'=>e=.returned (.int .u64 P)∧w'=w))(hn:decide (P≤nu)=false)(c0:(((dc.size:Nat):Int)==8)=true)(c1:(ty==0)=true)(c2:(ve==0)=true)(c3:sc.toList.isEmpty=false) :
 Calls Tryz.prog 93 #[.agg #[.bool false,.bool sp,.bool ph,.int .i64 ty,.int .u32 ve,.string dc,.string sc,.string tk,.int .u64 le,.int .i64 wi,.int .u64 nu]] w fun e w'=>e=.returned (.bool false)∧Below w.heap.size w w':=by
 go_enter Tryz.func93,Tryz.ntmps93;go_wp2_with fail
 go_quiet ((go_at_call 124;exact Calls.quiet_of_same (CW.out _)))
 go_wp2
 go_ret
 exact⟨rfl,below_drewN ((Below.refl _ _).alloc zle _) _⟩
theorem refMay_s4(sp ph:Bool)(ty ve:Int)(dc sc tk:ByteArray)(le wi nu:Int)(w:World)(wty:-9223372036854775808≤ty)(wty2:ty≤9223372036854775807)(wve:0≤ve)(wve2:ve≤4294967295)(wdc:dc.size≤9223372036854775807)(wsc:sc.size≤9223372036854775807)(wtk:tk.size≤9223372036854775807)(wle:0≤le)(wle2:le≤18446744073709551615)(wwi:-9223372036854775808≤wi)(wwi2:wi≤9223372036854775807)(wnu:0≤nu)(wnu2:nu≤18446744073709551615)(P:Int)(hP0:0≤P)(hP:P≤4294967296)(h1:1≤wi)(h2:wi≤4)(h:decide (wi<1)=false)(h4:decide (4<wi)=false)(CW:Hid (∀w:World,Calls Tryz.prog 124 #[.int .i64 wi] w fun e w'=>e=.returned (.int .u64 P)∧w'=w))(hn:decide (P≤nu)=false)(c0:(((dc.size:Nat):Int)==8)=true)(c1:(ty==0)=true)(c2:(ve==0)=true)(c3:sc.toList.isEmpty=true)(c4:tk.toList.isEmpty=false) :
 Calls Tryz.prog 93 #[.agg #[.bool false,.bool sp,.bool ph,.int .i64 ty,.int .u32 ve,.string dc,.string sc,.string tk,.int .u64 le,.int .i64 wi,.int .u64 nu]] w fun e w'=>e=.returned (.bool false)∧Below w.heap.size w w':=by
 go_enter Tryz.func93,Tryz.ntmps93;go_wp2_with fail
 go_quiet ((go_at_call 124;exact Calls.quiet_of_same (CW.out _)))
 go_wp2
 go_ret
 exact⟨rfl,below_drewN ((Below.refl _ _).alloc zle _) _⟩
theorem refMay_s5(sp ph:Bool)(ty ve:Int)(dc sc tk:ByteArray)(le wi nu:Int)(w:World)(wty:-9223372036854775808≤ty)(wty2:ty≤9223372036854775807)(wve:0≤ve)(wve2:ve≤4294967295)(wdc:dc.size≤9223372036854775807)(wsc:sc.size≤9223372036854775807)(wtk:tk.size≤9223372036854775807)(wle:0≤le)(wle2:le≤18446744073709551615)(wwi:-9223372036854775808≤wi)(wwi2:wi≤9223372036854775807)(wnu:0≤nu)(wnu2:nu≤18446744073709551615)(P:Int)(hP0:0≤P)(hP:P≤4294967296)(h1:1≤wi)(h2:wi≤4)(h:decide (wi<1)=false)(h4:decide (4<wi)=false)(CW:Hid (∀w:World,Calls Tryz.prog 124 #[.int .i64 wi] w fun e w'=>e=.returned (.int .u64 P)∧w'=w))(hn:decide (P≤nu)=false)(c0:(((dc.size:Nat):Int)==8)=true)(c1:(ty==0)=true)(c2:(ve==0)=true)(c3:sc.toList.isEmpty=true)(c4:tk.toList.isEmpty=true)(c5:(le==0)=false) :
 Calls Tryz.prog 93 #[.agg #[.bool false,.bool sp,.bool ph,.int .i64 ty,.int .u32 ve,.string dc,.string sc,.string tk,.int .u64 le,.int .i64 wi,.int .u64 nu]] w fun e w'=>e=.returned (.bool false)∧Below w.heap.size w w':=by
 go_enter Tryz.func93,Tryz.ntmps93;go_wp2_with fail
 go_quiet ((go_at_call 124;exact Calls.quiet_of_same (CW.out _)))
 go_wp2
 go_ret
 exact⟨rfl,below_drewN ((Below.refl _ _).alloc zle _) _⟩
theorem refMay_s6(sp ph:Bool)(ty ve:Int)(dc sc tk:ByteArray)(le wi nu:Int)(w:World)(wty:-9223372036854775808≤ty)(wty2:ty≤9223372036854775807)(wve:0≤ve)(wve2:ve≤4294967295)(wdc:dc.size≤9223372036854775807)(wsc:sc.size≤9223372036854775807)(wtk:tk.size≤9223372036854775807)(wle:0≤le)(wle2:le≤18446744073709551615)(wwi:-9223372036854775808≤wi)(wwi2:wi≤9223372036854775807)(wnu:0≤nu)(wnu2:nu≤18446744073709551615)(P:Int)(hP0:0≤P)(hP:P≤4294967296)(h1:1≤wi)(h2:wi≤4)(h:decide (wi<1)=false)(h4:decide (4<wi)=false)(CW:Hid (∀w:World,Calls Tryz.prog 124 #[.int .i64 wi] w fun e w'=>e=.returned (.int .u64 P)∧w'=w))(hn:decide (P≤nu)=false)(c0:(((dc.size:Nat):Int)==8)=true)(c1:(ty==0)=true)(c2:(ve==0)=true)(c3:sc.toList.isEmpty=true)(c4:tk.toList.isEmpty=true)(c5:(le==0)=true) :
 Calls Tryz.prog 93 #[.agg #[.bool false,.bool sp,.bool ph,.int .i64 ty,.int .u32 ve,.string dc,.string sc,.string tk,.int .u64 le,.int .i64 wi,.int .u64 nu]] w fun e w'=>e=.returned (.bool true)∧Below w.heap.size w w':=by
 go_enter Tryz.func93,Tryz.ntmps93;go_wp2_with fail
 go_quiet ((go_at_call 124;exact Calls.quiet_of_same (CW.out _)))
 go_wp2
 go_ret
 exact⟨rfl,below_drewN ((Below.refl _ _).alloc zle _) _⟩
theorem refMay_l_sp(ph:Bool)(ty ve:Int)(dc sc tk:ByteArray)(le wi nu:Int)(w:World)(wty:-9223372036854775808≤ty)(wty2:ty≤9223372036854775807)(wve:0≤ve)(wve2:ve≤4294967295)(wdc:dc.size≤9223372036854775807)(wsc:sc.size≤9223372036854775807)(wtk:tk.size≤9223372036854775807)(wle:0≤le)(wle2:le≤18446744073709551615)(wwi:-9223372036854775808≤wi)(wwi2:wi≤9223372036854775807)(wnu:0≤nu)(wnu2:nu≤18446744073709551615)(P:Int)(hP0:0≤P)(hP:P≤4294967296)(h1:1≤wi)(h2:wi≤4)(h:decide (wi<1)=false)(h4:decide (4<wi)=false)(CW:Hid (∀w:World,Calls Tryz.prog 124 #[.int .i64 wi] w fun e w'=>e=.returned (.int .u64 P)∧w'=w))(hn:decide (P≤nu)=false) :
 Calls Tryz.prog 93 #[.agg #[.bool true,.bool true,.bool ph,.int .i64 ty,.int .u32 ve,.string dc,.string sc,.string tk,.int .u64 le,.int .i64 wi,.int .u64 nu]] w fun e w'=>e=.returned (.bool false)∧Below w.heap.size w w':=by
 go_enter Tryz.func93,Tryz.ntmps93;go_wp2_with fail
 go_quiet ((go_at_call 124;exact Calls.quiet_of_same (CW.out _)))
 go_wp2
 go_ret
 exact⟨rfl,below_drewN ((Below.refl _ _).alloc zle _) _⟩
theorem refMay_l_ph(ty ve:Int)(dc sc tk:ByteArray)(le wi nu:Int)(w:World)(wty:-9223372036854775808≤ty)(wty2:ty≤9223372036854775807)(wve:0≤ve)(wve2:ve≤4294967295)(wdc:dc.size≤9223372036854775807)(wsc:sc.size≤9223372036854775807)(wtk:tk.size≤9223372036854775807)(wle:0≤le)(wle2:le≤18446744073709551615)(wwi:-9223372036854775808≤wi)(wwi2:wi≤9223372036854775807)(wnu:0≤nu)(wnu2:nu≤18446744073709551615)(P:Int)(hP0:0≤P)(hP:P≤4294967296)(h1:1≤wi)(h2:wi≤4)(h:decide (wi<1)=false)(h4:decide (4<wi)=false)(CW:Hid (∀w:World,Calls Tryz.prog 124 #[.int .i64 wi] w fun e w'=>e=.returned (.int .u64 P)∧w'=w))(hn:decide (P≤nu)=false) :
 Calls Tryz.prog 93 #[.agg #[.bool true,.bool false,.bool true,.int .i64 ty,.int .u32 ve,.string dc,.string sc,.string tk,.int .u64 le,.int .i64 wi,.int .u64 nu]] w fun e w'=>e=.returned (.bool false)∧Below w.heap.size w w':=by
 go_enter Tryz.func93,Tryz.ntmps93;go_wp2_with fail
 go_quiet ((go_at_call 124;exact Calls.quiet_of_same (CW.out _)))
 go_wp2
 go_ret
 exact⟨rfl,below_drewN ((Below.refl _ _).alloc zle _) _⟩
theorem refMay_lt0(ty ve:Int)(dc sc tk:ByteArray)(le wi nu:Int)(w:World)(wty:-9223372036854775808≤ty)(wty2:ty≤9223372036854775807)(wve:0≤ve)(wve2:ve≤4294967295)(wdc:dc.size≤9223372036854775807)(wsc:sc.size≤9223372036854775807)(wtk:tk.size≤9223372036854775807)(wle:0≤le)(wle2:le≤18446744073709551615)(wwi:-9223372036854775808≤wi)(wwi2:wi≤9223372036854775807)(wnu:0≤nu)(wnu2:nu≤18446744073709551615)(P:Int)(hP0:0≤P)(hP:P≤4294967296)(h1:1≤wi)(h2:wi≤4)(h:decide (wi<1)=false)(h4:decide (4<wi)=false)(CW:Hid (∀w:World,Calls Tryz.prog 124 #[.int .i64 wi] w fun e w'=>e=.returned (.int .u64 P)∧w'=w))(hn:decide (P≤nu)=false)(c0:decide (0≤ty)=false) :
 Calls Tryz.prog 93 #[.agg #[.bool true,.bool false,.bool false,.int .i64 ty,.int .u32 ve,.string dc,.string sc,.string tk,.int .u64 le,.int .i64 wi,.int .u64 nu]] w fun e w'=>e=.returned (.bool false)∧Below w.heap.size w w':=by
 go_enter Tryz.func93,Tryz.ntmps93;go_wp2_with fail
 go_quiet ((go_at_call 124;exact Calls.quiet_of_same (CW.out _)))
 go_wp2
 go_ret
 exact⟨rfl,below_drewN ((Below.refl _ _).alloc zle _) _⟩
theorem refMay_lt1(ty ve:Int)(dc sc tk:ByteArray)(le wi nu:Int)(w:World)(wty:-9223372036854775808≤ty)(wty2:ty≤9223372036854775807)(wve:0≤ve)(wve2:ve≤4294967295)(wdc:dc.size≤9223372036854775807)(wsc:sc.size≤9223372036854775807)(wtk:tk.size≤9223372036854775807)(wle:0≤le)(wle2:le≤18446744073709551615)(wwi:-9223372036854775808≤wi)(wwi2:wi≤9223372036854775807)(wnu:0≤nu)(wnu2:nu≤18446744073709551615)(P:Int)(hP0:0≤P)(hP:P≤4294967296)(h1:1≤wi)(h2:wi≤4)(h:decide (wi<1)=false)(h4:decide (4<wi)=false)(CW:Hid (∀w:World,Calls Tryz.prog 124 #[.int .i64 wi] w fun e w'=>e=.returned (.int .u64 P)∧w'=w))(hn:decide (P≤nu)=false)(c0:decide (0≤ty)=true)(c1:decide (ty≤2)=false) :
 Calls Tryz.prog 93 #[.agg #[.bool true,.bool false,.bool false,.int .i64 ty,.int .u32 ve,.string dc,.string sc,.string tk,.int .u64 le,.int .i64 wi,.int .u64 nu]] w fun e w'=>e=.returned (.bool false)∧Below w.heap.size w w':=by
 go_enter Tryz.func93,Tryz.ntmps93;go_wp2_with fail
 go_quiet ((go_at_call 124;exact Calls.quiet_of_same (CW.out _)))
 go_wp2
 go_ret
 exact⟨rfl,below_drewN ((Below.refl _ _).alloc zle _) _⟩
theorem refMay_lt2(ty ve:Int)(dc sc tk:ByteArray)(le wi nu:Int)(w:World)(wty:-9223372036854775808≤ty)(wty2:ty≤9223372036854775807)(wve:0≤ve)(wve2:ve≤4294967295)(wdc:dc.size≤9223372036854775807)(wsc:sc.size≤9223372036854775807)(wtk:tk.size≤9223372036854775807)(wle:0≤le)(wle2:le≤18446744073709551615)(wwi:-9223372036854775808≤wi)(wwi2:wi≤9223372036854775807)(wnu:0≤nu)(wnu2:nu≤18446744073709551615)(P:Int)(hP0:0≤P)(hP:P≤4294967296)(h1:1≤wi)(h2:wi≤4)(h:decide (wi<1)=false)(h4:decide (4<wi)=false)(CW:Hid (∀w:World,Calls Tryz.prog 124 #[.int .i64 wi] w fun e w'=>e=.returned (.int .u64 P)∧w'=w))(hn:decide (P≤nu)=false)(c0:decide (0≤ty)=true)(c1:decide (ty≤2)=true)(c2:decide (((dc.size:Nat):Int)≤20)=false) :
 Calls Tryz.prog 93 #[.agg #[.bool true,.bool false,.bool false,.int .i64 ty,.int .u32 ve,.string dc,.string sc,.string tk,.int .u64 le,.int .i64 wi,.int .u64 nu]] w fun e w'=>e=.returned (.bool false)∧Below w.heap.size w w':=by
 go_enter Tryz.func93,Tryz.ntmps93;go_wp2_with fail
 go_quiet ((go_at_call 124;exact Calls.quiet_of_same (CW.out _)))
 go_wp2
 go_ret
 exact⟨rfl,below_drewN ((Below.refl _ _).alloc zle _) _⟩
theorem refMay_lt3(ty ve:Int)(dc sc tk:ByteArray)(le wi nu:Int)(w:World)(wty:-9223372036854775808≤ty)(wty2:ty≤9223372036854775807)(wve:0≤ve)(wve2:ve≤4294967295)(wdc:dc.size≤9223372036854775807)(wsc:sc.size≤9223372036854775807)(wtk:tk.size≤9223372036854775807)(wle:0≤le)(wle2:le≤18446744073709551615)(wwi:-9223372036854775808≤wi)(wwi2:wi≤9223372036854775807)(wnu:0≤nu)(wnu2:nu≤18446744073709551615)(P:Int)(hP0:0≤P)(hP:P≤4294967296)(h1:1≤wi)(h2:wi≤4)(h:decide (wi<1)=false)(h4:decide (4<wi)=false)(CW:Hid (∀w:World,Calls Tryz.prog 124 #[.int .i64 wi] w fun e w'=>e=.returned (.int .u64 P)∧w'=w))(hn:decide (P≤nu)=false)(c0:decide (0≤ty)=true)(c1:decide (ty≤2)=true)(c2:decide (((dc.size:Nat):Int)≤20)=true)(c3:decide (((sc.size:Nat):Int)≤20)=false) :
 Calls Tryz.prog 93 #[.agg #[.bool true,.bool false,.bool false,.int .i64 ty,.int .u32 ve,.string dc,.string sc,.string tk,.int .u64 le,.int .i64 wi,.int .u64 nu]] w fun e w'=>e=.returned (.bool false)∧Below w.heap.size w w':=by
 go_enter Tryz.func93,Tryz.ntmps93;go_wp2_with fail
 go_quiet ((go_at_call 124;exact Calls.quiet_of_same (CW.out _)))
 go_wp2
 go_ret
 exact⟨rfl,below_drewN ((Below.refl _ _).alloc zle _) _⟩
theorem refMay_lt4(ty ve:Int)(dc sc tk:ByteArray)(le wi nu:Int)(w:World)(wty:-9223372036854775808≤ty)(wty2:ty≤9223372036854775807)(wve:0≤ve)(wve2:ve≤4294967295)(wdc:dc.size≤9223372036854775807)(wsc:sc.size≤9223372036854775807)(wtk:tk.size≤9223372036854775807)(wle:0≤le)(wle2:le≤18446744073709551615)(wwi:-9223372036854775808≤wi)(wwi2:wi≤9223372036854775807)(wnu:0≤nu)(wnu2:nu≤18446744073709551615)(P:Int)(hP0:0≤P)(hP:P≤4294967296)(h1:1≤wi)(h2:wi≤4)(h:decide (wi<1)=false)(h4:decide (4<wi)=false)(CW:Hid (∀w:World,Calls Tryz.prog 124 #[.int .i64 wi] w fun e w'=>e=.returned (.int .u64 P)∧w'=w))(hn:decide (P≤nu)=false)(c0:decide (0≤ty)=true)(c1:decide (ty≤2)=true)(c2:decide (((dc.size:Nat):Int)≤20)=true)(c3:decide (((sc.size:Nat):Int)≤20)=true)(c4:decide (((tk.size:Nat):Int)≤1000)=false) :
 Calls Tryz.prog 93 #[.agg #[.bool true,.bool false,.bool false,.int .i64 ty,.int .u32 ve,.string dc,.string sc,.string tk,.int .u64 le,.int .i64 wi,.int .u64 nu]] w fun e w'=>e=.returned (.bool false)∧Below w.heap.size w w':=by
 go_enter Tryz.func93,Tryz.ntmps93;go_wp2_with fail
 go_quiet ((go_at_call 124;exact Calls.quiet_of_same (CW.out _)))
 go_wp2
 go_ret
 exact⟨rfl,below_drewN ((Below.refl _ _).alloc zle _) _⟩
theorem refMay_l_tok(ty ve:Int)(dc sc tk:ByteArray)(le wi nu:Int)(w:World)(wty:-9223372036854775808≤ty)(wty2:ty≤9223372036854775807)(wve:0≤ve)(wve2:ve≤4294967295)(wdc:dc.size≤9223372036854775807)(wsc:sc.size≤9223372036854775807)(wtk:tk.size≤9223372036854775807)(wle:0≤le)(wle2:le≤18446744073709551615)(wwi:-9223372036854775808≤wi)(wwi2:wi≤9223372036854775807)(wnu:0≤nu)(wnu2:nu≤18446744073709551615)(P:Int)(hP0:0≤P)(hP:P≤4294967296)(h1:1≤wi)(h2:wi≤4)(h:decide (wi<1)=false)(h4:decide (4<wi)=false)(CW:Hid (∀w:World,Calls Tryz.prog 124 #[.int .i64 wi] w fun e w'=>e=.returned (.int .u64 P)∧w'=w))(hn:decide (P≤nu)=false)(c0:decide (0≤ty)=true)(c1:decide (ty≤2)=true)(c2:decide (((dc.size:Nat):Int)≤20)=true)(c3:decide (((sc.size:Nat):Int)≤20)=true)(c4:decide (((tk.size:Nat):Int)≤1000)=true)(c5:tk.toList.isEmpty=false)(c6:(ty==0)=false) :
 Calls Tryz.prog 93 #[.agg #[.bool true,.bool false,.bool false,.int .i64 ty,.int .u32 ve,.string dc,.string sc,.string tk,.int .u64 le,.int .i64 wi,.int .u64 nu]] w fun e w'=>e=.returned (.bool false)∧Below w.heap.size w w':=by
 go_enter Tryz.func93,Tryz.ntmps93;go_wp2_with fail
 go_quiet ((go_at_call 124;exact Calls.quiet_of_same (CW.out _)))
 go_wp2
 go_ret
 exact⟨rfl,below_drewN ((Below.refl _ _).alloc zle _) _⟩
theorem refMay_la_true(ty ve:Int)(dc sc tk:ByteArray)(le wi nu:Int)(w:World)(wty:-9223372036854775808≤ty)(wty2:ty≤9223372036854775807)(wve:0≤ve)(wve2:ve≤4294967295)(wdc:dc.size≤9223372036854775807)(wsc:sc.size≤9223372036854775807)(wtk:tk.size≤9223372036854775807)(wle:0≤le)(wle2:le≤18446744073709551615)(wwi:-9223372036854775808≤wi)(wwi2:wi≤9223372036854775807)(wnu:0≤nu)(wnu2:nu≤18446744073709551615)(P:Int)(hP0:0≤P)(hP:P≤4294967296)(h1:1≤wi)(h2:wi≤4)(h:decide (wi<1)=false)(h4:decide (4<wi)=false)(CW:Hid (∀w:World,Calls Tryz.prog 124 #[.int .i64 wi] w fun e w'=>e=.returned (.int .u64 P)∧w'=w))(hn:decide (P≤nu)=false)(c0:decide (0≤ty)=true)(c1:decide (ty≤2)=true)(c2:decide (((dc.size:Nat):Int)≤20)=true)(c3:decide (((sc.size:Nat):Int)≤20)=true)(c4:decide (((tk.size:Nat):Int)≤1000)=true)(c5:tk.toList.isEmpty=true)(c7:decide (le≤4611686018427387903)=true) :
 Calls Tryz.prog 93 #[.agg #[.bool true,.bool false,.bool false,.int .i64 ty,.int .u32 ve,.string dc,.string sc,.string tk,.int .u64 le,.int .i64 wi,.int .u64 nu]] w fun e w'=>e=.returned (.bool true)∧Below w.heap.size w w':=by
 go_enter Tryz.func93,Tryz.ntmps93;go_wp2_with fail
 go_quiet ((go_at_call 124;exact Calls.quiet_of_same (CW.out _)))
 go_wp2
 go_ret
 exact⟨rfl,below_drewN ((Below.refl _ _).alloc zle _) _⟩
theorem refMay_la_false(ty ve:Int)(dc sc tk:ByteArray)(le wi nu:Int)(w:World)(wty:-9223372036854775808≤ty)(wty2:ty≤9223372036854775807)(wve:0≤ve)(wve2:ve≤4294967295)(wdc:dc.size≤9223372036854775807)(wsc:sc.size≤9223372036854775807)(wtk:tk.size≤9223372036854775807)(wle:0≤le)(wle2:le≤18446744073709551615)(wwi:-9223372036854775808≤wi)(wwi2:wi≤9223372036854775807)(wnu:0≤nu)(wnu2:nu≤18446744073709551615)(P:Int)(hP0:0≤P)(hP:P≤4294967296)(h1:1≤wi)(h2:wi≤4)(h:decide (wi<1)=false)(h4:decide (4<wi)=false)(CW:Hid (∀w:World,Calls Tryz.prog 124 #[.int .i64 wi] w fun e w'=>e=.returned (.int .u64 P)∧w'=w))(hn:decide (P≤nu)=false)(c0:decide (0≤ty)=true)(c1:decide (ty≤2)=true)(c2:decide (((dc.size:Nat):Int)≤20)=true)(c3:decide (((sc.size:Nat):Int)≤20)=true)(c4:decide (((tk.size:Nat):Int)≤1000)=true)(c5:tk.toList.isEmpty=true)(c7:decide (le≤4611686018427387903)=false) :
 Calls Tryz.prog 93 #[.agg #[.bool true,.bool false,.bool false,.int .i64 ty,.int .u32 ve,.string dc,.string sc,.string tk,.int .u64 le,.int .i64 wi,.int .u64 nu]] w fun e w'=>e=.returned (.bool false)∧Below w.heap.size w w':=by
 go_enter Tryz.func93,Tryz.ntmps93;go_wp2_with fail
 go_quiet ((go_at_call 124;exact Calls.quiet_of_same (CW.out _)))
 go_wp2
 go_ret
 exact⟨rfl,below_drewN ((Below.refl _ _).alloc zle _) _⟩
theorem refMay_lb_true(ty ve:Int)(dc sc tk:ByteArray)(le wi nu:Int)(w:World)(wty:-9223372036854775808≤ty)(wty2:ty≤9223372036854775807)(wve:0≤ve)(wve2:ve≤4294967295)(wdc:dc.size≤9223372036854775807)(wsc:sc.size≤9223372036854775807)(wtk:tk.size≤9223372036854775807)(wle:0≤le)(wle2:le≤18446744073709551615)(wwi:-9223372036854775808≤wi)(wwi2:wi≤9223372036854775807)(wnu:0≤nu)(wnu2:nu≤18446744073709551615)(P:Int)(hP0:0≤P)(hP:P≤4294967296)(h1:1≤wi)(h2:wi≤4)(h:decide (wi<1)=false)(h4:decide (4<wi)=false)(CW:Hid (∀w:World,Calls Tryz.prog 124 #[.int .i64 wi] w fun e w'=>e=.returned (.int .u64 P)∧w'=w))(hn:decide (P≤nu)=false)(c0:decide (0≤ty)=true)(c1:decide (ty≤2)=true)(c2:decide (((dc.size:Nat):Int)≤20)=true)(c3:decide (((sc.size:Nat):Int)≤20)=true)(c4:decide (((tk.size:Nat):Int)≤1000)=true)(c5:tk.toList.isEmpty=false)(c6:(ty==0)=true)(c7:decide (le≤4611686018427387903)=true) :
 Calls Tryz.prog 93 #[.agg #[.bool true,.bool false,.bool false,.int .i64 ty,.int .u32 ve,.string dc,.string sc,.string tk,.int .u64 le,.int .i64 wi,.int .u64 nu]] w fun e w'=>e=.returned (.bool true)∧Below w.heap.size w w':=by
 go_enter Tryz.func93,Tryz.ntmps93;go_wp2_with fail
 go_quiet ((go_at_call 124;exact Calls.quiet_of_same (CW.out _)))
 go_wp2
 go_ret
 exact⟨rfl,below_drewN ((Below.refl _ _).alloc zle _) _⟩
theorem refMay_lb_false(ty ve:Int)(dc sc tk:ByteArray)(le wi nu:Int)(w:World)(wty:-9223372036854775808≤ty)(wty2:ty≤9223372036854775807)(wve:0≤ve)(wve2:ve≤4294967295)(wdc:dc.size≤9223372036854775807)(wsc:sc.size≤9223372036854775807)(wtk:tk.size≤9223372036854775807)(wle:0≤le)(wle2:le≤18446744073709551615)(wwi:-9223372036854775808≤wi)(wwi2:wi≤9223372036854775807)(wnu:0≤nu)(wnu2:nu≤18446744073709551615)(P:Int)(hP0:0≤P)(hP:P≤4294967296)(h1:1≤wi)(h2:wi≤4)(h:decide (wi<1)=false)(h4:decide (4<wi)=false)(CW:Hid (∀w:World,Calls Tryz.prog 124 #[.int .i64 wi] w fun e w'=>e=.returned (.int .u64 P)∧w'=w))(hn:decide (P≤nu)=false)(c0:decide (0≤ty)=true)(c1:decide (ty≤2)=true)(c2:decide (((dc.size:Nat):Int)≤20)=true)(c3:decide (((sc.size:Nat):Int)≤20)=true)(c4:decide (((tk.size:Nat):Int)≤1000)=true)(c5:tk.toList.isEmpty=false)(c6:(ty==0)=true)(c7:decide (le≤4611686018427387903)=false) :
 Calls Tryz.prog 93 #[.agg #[.bool true,.bool false,.bool false,.int .i64 ty,.int .u32 ve,.string dc,.string sc,.string tk,.int .u64 le,.int .i64 wi,.int .u64 nu]] w fun e w'=>e=.returned (.bool false)∧Below w.heap.size w w':=by
 go_enter Tryz.func93,Tryz.ntmps93;go_wp2_with fail
 go_quiet ((go_at_call 124;exact Calls.quiet_of_same (CW.out _)))
 go_wp2
 go_ret
 exact⟨rfl,below_drewN ((Below.refl _ _).alloc zle _) _⟩
theorem tl_yes(l:List UInt8)(h:l=[]):(⟨l.toArray⟩:ByteArray).toList.isEmpty=true:=by subst h;exact empty_yes _ rfl
theorem tl_no(l:List UInt8)(h:l≠[]):(⟨l.toArray⟩:ByteArray).toList.isEmpty=false:=empty_no _ (by rw[sv_size];exact List.length_pos_iff.2 h)
theorem may_short_eq(sp ph:Bool)(ty ve:Int)(dc sc tk:List UInt8)(le wi nu:Int)(hn:numB wi nu=true):mayB false sp ph ty ve dc sc tk le wi nu=decide (dc.length=8∧ty=0∧ve=0∧sc=[]∧tk=[]∧le=0):=by
 unfold mayB keptB bndB;rw[hn,if_neg (by decide),if_neg (by decide),Bool.eq_iff_iff];simp only[Bool.and_eq_true,decide_eq_true_iff,and_true];constructor
 ·rintro ⟨⟨h1,h2,h3,h4,h5⟩,h6⟩;exact⟨h6,h1,h2,h3,h4,h5⟩
 ·rintro ⟨h6,h1,h2,h3,h4,h5⟩;exact⟨⟨h1,h2,h3,h4,h5⟩,h6⟩
theorem may_long_eq(sp ph:Bool)(ty ve:Int)(dc sc tk:List UInt8)(le wi nu:Int)(hn:numB wi nu=true):mayB true sp ph ty ve dc sc tk le wi nu=decide (sp=false∧ph=false∧0≤ty∧ty≤2∧dc.length≤20∧sc.length≤20∧tk.length≤1000∧(tk=[]∨ty=0)∧le≤4611686018427387903):=by
 unfold mayB keptB bndB;rw[hn,if_pos rfl,if_pos rfl,Bool.eq_iff_iff];simp only[Bool.and_eq_true,decide_eq_true_iff,and_true];constructor
 ·rintro ⟨⟨h1,h2,h3⟩,h4,h5,h6,h7,h8,h9⟩
  refine⟨h1,h2,h4,h5,h6,h7,h8,?_,h9⟩;by_cases h:ty=0
  ·exact .inr h
  ·exact .inl (h3 h)
 ·rintro ⟨h1,h2,h4,h5,h6,h7,h8,h3,h9⟩
  refine⟨⟨h1,h2,fun h=>?_⟩,h4,h5,h6,h7,h8,h9⟩;rcases h3 with h3|h3
  ·exact h3
  ·exact absurd h3 h
theorem May_ref(lg sp ph:Bool)(ty ve:Int)(dc sc tk:List UInt8)(le wi nu:Int)(w:World)(wty:-9223372036854775808≤ty)(wty2:ty≤9223372036854775807)(wve:0≤ve)(wve2:ve≤4294967295)(wdc:dc.length≤9223372036854775807)(wsc:sc.length≤9223372036854775807)(wtk:tk.length≤9223372036854775807)(wle:0≤le)(wle2:le≤18446744073709551615)(wwi:-9223372036854775808≤wi)(wwi2:wi≤9223372036854775807)(wnu:0≤nu)(wnu2:nu≤18446744073709551615) :
 Calls Tryz.prog 93 #[.agg #[.bool lg,.bool sp,.bool ph,.int .i64 ty,.int .u32 ve,.string ⟨dc.toArray⟩,.string ⟨sc.toArray⟩,.string ⟨tk.toArray⟩,.int .u64 le,.int .i64 wi,.int .u64 nu]] w fun e w'=>e=.returned (.bool (mayB lg sp ph ty ve dc sc tk le wi nu))∧Below w.heap.size w w':=by
 have zdc:(⟨dc.toArray⟩:ByteArray).size≤9223372036854775807:=by rw[sv_size];exact wdc
 have zsc:(⟨sc.toArray⟩:ByteArray).size≤9223372036854775807:=by rw[sv_size];exact wsc
 have ztk:(⟨tk.toArray⟩:ByteArray).size≤9223372036854775807:=by rw[sv_size];exact wtk
 have ydc:(⟨dc.toArray⟩:ByteArray).size=dc.length:=sv_size _;have ysc:(⟨sc.toArray⟩:ByteArray).size=sc.length:=sv_size _;have ytk:(⟨tk.toArray⟩:ByteArray).size=tk.length:=sv_size _;have hfalse:numB wi nu=false→mayB lg sp ph ty ve dc sc tk le wi nu=false:=fun h=>by unfold mayB;rw[h];simp
 by_cases h1:wi<1
 ·rw[hfalse (numB_no (.inl h1))]
  exact refMay_w1 lg sp ph ty ve _ _ _ le wi nu w wty wty2 wve wve2 zdc zsc ztk wle wle2 wwi wwi2 wnu wnu2 (decide_eq_true h1) (decide_eq_false (by omega))
 have d1:decide (wi<1)=false:=decide_eq_false h1;by_cases h4:4<wi
 ·rw[hfalse (numB_no (.inr h4))]
  exact refMay_w2 lg sp ph ty ve _ _ _ le wi nu w wty wty2 wve wve2 zdc zsc ztk wle wle2 wwi wwi2 wnu wnu2 d1 (decide_eq_true h4)
 have d4:decide (4<wi)=false:=decide_eq_false h4;have hP:=pow_le wi (by omega) (by omega);have CW:=zh (window_any wi (by omega) (by omega));by_cases hn:(256:Int)^wi.toNat≤nu
 ·rw[hfalse (decide_eq_false (by omega))]
  exact refMay_w3 lg sp ph ty ve _ _ _ le wi nu w wty wty2 wve wve2 zdc zsc ztk wle wle2 wwi wwi2 wnu wnu2 _ hP.1 hP.2 (by omega) (by omega) d1 d4 CW (decide_eq_true hn)
 have dn:decide ((256:Int)^wi.toNat≤nu)=false:=decide_eq_false hn;have hnum:numB wi nu=true:=decide_eq_true ⟨by omega,by omega,by omega⟩
 cases lg with
 | false=>
  rw[may_short_eq _ _ _ _ _ _ _ _ _ _ hnum];by_cases k0:¬(dc.length=8)
  ·rw[decide_eq_false (fun h=>k0 h.1)]
   exact refMay_s0 sp ph ty ve _ _ _ le wi nu w wty wty2 wve wve2 zdc zsc ztk wle wle2 wwi wwi2 wnu wnu2 _ hP.1 hP.2 (by omega) (by omega) d1 d4 CW dn  (by rw[beq_eq_false_iff_ne,ydc];omega)
  replace k0:=Decidable.not_not.1 k0;have e0:((((⟨dc.toArray⟩:ByteArray).size:Nat):Int)==8)=true:=by rw[beq_iff_eq,ydc];omega
  by_cases k1:¬(ty=0)
  ·rw[decide_eq_false (fun h=>k1 h.2.1)]
   exact refMay_s1 sp ph ty ve _ _ _ le wi nu w wty wty2 wve wve2 zdc zsc ztk wle wle2 wwi wwi2 wnu wnu2 _ hP.1 hP.2 (by omega) (by omega) d1 d4 CW dn e0 (by rw[beq_eq_false_iff_ne];omega)
  replace k1:=Decidable.not_not.1 k1;have e1:(ty==0)=true:=by rw[beq_iff_eq];omega
  by_cases k2:¬(ve=0)
  ·rw[decide_eq_false (fun h=>k2 h.2.2.1)]
   exact refMay_s2 sp ph ty ve _ _ _ le wi nu w wty wty2 wve wve2 zdc zsc ztk wle wle2 wwi wwi2 wnu wnu2 _ hP.1 hP.2 (by omega) (by omega) d1 d4 CW dn e0 e1 (by rw[beq_eq_false_iff_ne];omega)
  replace k2:=Decidable.not_not.1 k2;have e2:(ve==0)=true:=by rw[beq_iff_eq];omega
  by_cases k3:¬(sc=[])
  ·rw[decide_eq_false (fun h=>k3 h.2.2.2.1)]
   exact refMay_s3 sp ph ty ve _ _ _ le wi nu w wty wty2 wve wve2 zdc zsc ztk wle wle2 wwi wwi2 wnu wnu2 _ hP.1 hP.2 (by omega) (by omega) d1 d4 CW dn e0 e1 e2 (tl_no sc k3)
  replace k3:=Decidable.not_not.1 k3;have e3:((⟨sc.toArray⟩:ByteArray).toList.isEmpty)=true:=tl_yes sc k3;by_cases k4:¬(tk=[])
  ·rw[decide_eq_false (fun h=>k4 h.2.2.2.2.1)]
   exact refMay_s4 sp ph ty ve _ _ _ le wi nu w wty wty2 wve wve2 zdc zsc ztk wle wle2 wwi wwi2 wnu wnu2 _ hP.1 hP.2 (by omega) (by omega) d1 d4 CW dn e0 e1 e2 e3 (tl_no tk k4)
  replace k4:=Decidable.not_not.1 k4;have e4:((⟨tk.toArray⟩:ByteArray).toList.isEmpty)=true:=tl_yes tk k4;by_cases k5:¬(le=0)
  ·rw[decide_eq_false (fun h=>k5 h.2.2.2.2.2)]
   exact refMay_s5 sp ph ty ve _ _ _ le wi nu w wty wty2 wve wve2 zdc zsc ztk wle wle2 wwi wwi2 wnu wnu2 _ hP.1 hP.2 (by omega) (by omega) d1 d4 CW dn e0 e1 e2 e3 e4 (by rw[beq_eq_false_iff_ne];omega)
  replace k5:=Decidable.not_not.1 k5;have e5:(le==0)=true:=by rw[beq_iff_eq];omega
  rw[decide_eq_true ⟨k0,k1,k2,k3,k4,k5⟩];exact refMay_s6 sp ph ty ve _ _ _ le wi nu w wty wty2 wve wve2 zdc zsc ztk wle wle2 wwi wwi2 wnu wnu2 _ hP.1 hP.2 (by omega) (by omega) d1 d4 CW dn e0 e1 e2 e3 e4 e5
 | true=>
  rw[may_long_eq _ _ _ _ _ _ _ _ _ _ hnum]
  cases sp with
  | true=>
   rw[decide_eq_false (fun h=>by cases h.1)];exact refMay_l_sp ph ty ve _ _ _ le wi nu w wty wty2 wve wve2 zdc zsc ztk wle wle2 wwi wwi2 wnu wnu2 _ hP.1 hP.2 (by omega) (by omega) d1 d4 CW dn
  | false=>
  cases ph with
  | true=>
   rw[decide_eq_false (fun h=>by cases h.2.1)];exact refMay_l_ph ty ve _ _ _ le wi nu w wty wty2 wve wve2 zdc zsc ztk wle wle2 wwi wwi2 wnu wnu2 _ hP.1 hP.2 (by omega) (by omega) d1 d4 CW dn
  | false=>
  by_cases k0:¬(0≤ty)
  ·rw[decide_eq_false (fun h=>k0 h.2.2.1)]
   exact refMay_lt0 ty ve _ _ _ le wi nu w wty wty2 wve wve2 zdc zsc ztk wle wle2 wwi wwi2 wnu wnu2 _ hP.1 hP.2 (by omega) (by omega) d1 d4 CW dn  (decide_eq_false (by omega))
  replace k0:=Decidable.not_not.1 k0;have e0:decide (0≤ty)=true:=decide_eq_true (by omega);by_cases k1:¬(ty≤2)
  ·rw[decide_eq_false (fun h=>k1 h.2.2.2.1)]
   exact refMay_lt1 ty ve _ _ _ le wi nu w wty wty2 wve wve2 zdc zsc ztk wle wle2 wwi wwi2 wnu wnu2 _ hP.1 hP.2 (by omega) (by omega) d1 d4 CW dn e0 (decide_eq_false (by omega))
  replace k1:=Decidable.not_not.1 k1;have e1:decide (ty≤2)=true:=decide_eq_true (by omega);by_cases k2:¬(dc.length≤20)
  ·rw[decide_eq_false (fun h=>k2 h.2.2.2.2.1)]
   exact refMay_lt2 ty ve _ _ _ le wi nu w wty wty2 wve wve2 zdc zsc ztk wle wle2 wwi wwi2 wnu wnu2 _ hP.1 hP.2 (by omega) (by omega) d1 d4 CW dn e0 e1 (decide_eq_false (by rw[ydc];omega))
  replace k2:=Decidable.not_not.1 k2;have e2:decide ((((⟨dc.toArray⟩:ByteArray).size:Nat):Int)≤20)=true:=decide_eq_true (by rw[ydc];omega);by_cases k3:¬(sc.length≤20)
  ·rw[decide_eq_false (fun h=>k3 h.2.2.2.2.2.1)]
   exact refMay_lt3 ty ve _ _ _ le wi nu w wty wty2 wve wve2 zdc zsc ztk wle wle2 wwi wwi2 wnu wnu2 _ hP.1 hP.2 (by omega) (by omega) d1 d4 CW dn e0 e1 e2 (decide_eq_false (by rw[ysc];omega))
  replace k3:=Decidable.not_not.1 k3;have e3:decide ((((⟨sc.toArray⟩:ByteArray).size:Nat):Int)≤20)=true:=decide_eq_true (by rw[ysc];omega);by_cases k4:¬(tk.length≤1000)
  ·rw[decide_eq_false (fun h=>k4 h.2.2.2.2.2.2.1)]
   exact refMay_lt4 ty ve _ _ _ le wi nu w wty wty2 wve wve2 zdc zsc ztk wle wle2 wwi wwi2 wnu wnu2 _ hP.1 hP.2 (by omega) (by omega) d1 d4 CW dn e0 e1 e2 e3 (decide_eq_false (by rw[ytk];omega))
  replace k4:=Decidable.not_not.1 k4;have e4:decide ((((⟨tk.toArray⟩:ByteArray).size:Nat):Int)≤1000)=true:=decide_eq_true (by rw[ytk];omega);by_cases k5:tk=[]
  ·have e5:=tl_yes tk k5
   by_cases k7:le≤4611686018427387903
   ·rw[decide_eq_true ⟨rfl,rfl,k0,k1,k2,k3,k4,.inl k5,k7⟩]
    exact refMay_la_true ty ve _ _ _ le wi nu w wty wty2 wve wve2 zdc zsc ztk wle wle2 wwi wwi2 wnu wnu2 _ hP.1 hP.2 (by omega) (by omega) d1 d4 CW dn e0 e1 e2 e3 e4 e5 (decide_eq_true k7)
   ·rw[decide_eq_false (fun h=>k7 h.2.2.2.2.2.2.2.2)]
    exact refMay_la_false ty ve _ _ _ le wi nu w wty wty2 wve wve2 zdc zsc ztk wle wle2 wwi wwi2 wnu wnu2 _ hP.1 hP.2 (by omega) (by omega) d1 d4 CW dn e0 e1 e2 e3 e4 e5 (decide_eq_false k7)
  ·have e5:=tl_no tk k5
   by_cases k6:ty=0
   ·have e6:(ty==0)=true:=by rw[beq_iff_eq];exact k6
    by_cases k7:le≤4611686018427387903
    ·rw[decide_eq_true ⟨rfl,rfl,k0,k1,k2,k3,k4,.inr k6,k7⟩]
     exact refMay_lb_true ty ve _ _ _ le wi nu w wty wty2 wve wve2 zdc zsc ztk wle wle2 wwi wwi2 wnu wnu2 _ hP.1 hP.2 (by omega) (by omega) d1 d4 CW dn e0 e1 e2 e3 e4 e5 e6 (decide_eq_true k7)
    ·rw[decide_eq_false (fun h=>k7 h.2.2.2.2.2.2.2.2)]
     exact refMay_lb_false ty ve _ _ _ le wi nu w wty wty2 wve wve2 zdc zsc ztk wle wle2 wwi wwi2 wnu wnu2 _ hP.1 hP.2 (by omega) (by omega) d1 d4 CW dn e0 e1 e2 e3 e4 e5 e6 (decide_eq_false k7)
   ·have e6:(ty==0)=false:=by rw[beq_eq_false_iff_ne];exact k6
    rw[decide_eq_false (fun h=>by rcases h.2.2.2.2.2.2.2.1 with h|h;exact k5 h;exact k6 h)];exact refMay_l_tok ty ve _ _ _ le wi nu w wty wty2 wve wve2 zdc zsc ztk wle wle2 wwi wwi2 wnu wnu2 _ hP.1 hP.2 (by omega) (by omega) d1 d4 CW dn e0 e1 e2 e3 e4 e5 e6
end Go.Proofs.YtagbkmoahflfdaaGreatDoor.Hd
