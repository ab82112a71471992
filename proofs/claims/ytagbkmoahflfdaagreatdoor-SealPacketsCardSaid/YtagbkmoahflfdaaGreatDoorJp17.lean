import Derived.Test.YtagbkmoahflfdaaGreatDoorJp01
import Derived.Test.YtagbkmoahflfdaaGreatDoorJp15
import Derived.Lib.Builder
import Derived.Lib.Hide
import Derived.Test.YtagbkmoahflfdaaGreatDoorJp16
import Derived.Deep.RegionWith
import Derived.Deep.RegionHeld3
set_option maxHeartbeats 4000000
set_option maxRecDepth 20000
set_option linter.unusedVariables false
set_option linter.unusedSimpArgs false
namespace Go.Proofs.YtagbkmoahflfdaaGreatDoor.Hd
open Tk Go.RowKit Vm
def numB (wi nu:Int):Bool:=decide (1≤wi∧wi≤4∧nu<256^wi.toNat)
theorem numB_no{wi nu:Int}(h:wi<1∨4<wi):numB wi nu=false:=decide_eq_false (by omega)
theorem numbered_no0(lg sp ph:Bool)(ty ve:Int)(dc sc tk:List UInt8)(le wi nu:Int)(w:World)(wty:-9223372036854775808≤ty)(wty2:ty≤9223372036854775807)(wve:0≤ve)(wve2:ve≤4294967295)(wdc:dc.length≤9223372036854775807)(wsc:sc.length≤9223372036854775807)(wtk:tk.length≤9223372036854775807)(wle:0≤le)(wle2:le≤18446744073709551615)(wwi:-9223372036854775808≤wi)(wwi2:wi≤9223372036854775807)(wnu:0≤nu)(wnu2:nu≤18446744073709551615)(h:wi<1) :
 Calls Tryz.prog 121 #[.agg #[.bool lg,.bool sp,.bool ph,.int .i64 ty,.int .u32 ve,.string ⟨dc.toArray⟩,.string ⟨sc.toArray⟩,.string ⟨tk.toArray⟩,.int .u64 le,.int .i64 wi,.int .u64 nu]] w fun e w'=>e=.returned (.bool false)∧Below w.heap.size w w':=by
 go_enter Tryz.func121,Tryz.ntmps121;go_wp2
 go_ret
 exact⟨rfl,(Below.refl _ _).alloc zle _⟩
theorem numbered_no1(lg sp ph:Bool)(ty ve:Int)(dc sc tk:List UInt8)(le wi nu:Int)(w:World)(wty:-9223372036854775808≤ty)(wty2:ty≤9223372036854775807)(wve:0≤ve)(wve2:ve≤4294967295)(wdc:dc.length≤9223372036854775807)(wsc:sc.length≤9223372036854775807)(wtk:tk.length≤9223372036854775807)(wle:0≤le)(wle2:le≤18446744073709551615)(wwi:-9223372036854775808≤wi)(wwi2:wi≤9223372036854775807)(wnu:0≤nu)(wnu2:nu≤18446744073709551615)(h:4<wi) :
 Calls Tryz.prog 121 #[.agg #[.bool lg,.bool sp,.bool ph,.int .i64 ty,.int .u32 ve,.string ⟨dc.toArray⟩,.string ⟨sc.toArray⟩,.string ⟨tk.toArray⟩,.int .u64 le,.int .i64 wi,.int .u64 nu]] w fun e w'=>e=.returned (.bool false)∧Below w.heap.size w w':=by
 go_enter Tryz.func121,Tryz.ntmps121;go_wp2
 go_ret
 exact⟨rfl,(Below.refl _ _).alloc zle _⟩
theorem numB_1(nu:Int)(h:0≤nu):(nu/256==0)=numB 1 nu:=by
 unfold numB;rw[Bool.eq_iff_iff];simp only[beq_iff_eq,decide_eq_true_eq];have:(256:Int)^(1:Int).toNat=256:=by decide
 rw[this];omega
theorem numbered_1(lg sp ph:Bool)(ty ve:Int)(dc sc tk:List UInt8)(le nu:Int)(w:World)(wty:-9223372036854775808≤ty)(wty2:ty≤9223372036854775807)(wve:0≤ve)(wve2:ve≤4294967295)(wdc:dc.length≤9223372036854775807)(wsc:sc.length≤9223372036854775807)(wtk:tk.length≤9223372036854775807)(wle:0≤le)(wle2:le≤18446744073709551615) (wnu:0≤nu)(wnu2:nu≤18446744073709551615) :
 Calls Tryz.prog 121 #[.agg #[.bool lg,.bool sp,.bool ph,.int .i64 ty,.int .u32 ve,.string ⟨dc.toArray⟩,.string ⟨sc.toArray⟩,.string ⟨tk.toArray⟩,.int .u64 le,.int .i64 1,.int .u64 nu]] w fun e w'=>e=.returned (.bool (numB 1 nu))∧Below w.heap.size w w':=by
 rw[←numB_1 nu wnu];go_enter Tryz.func121,Tryz.ntmps121;go_wp2
 go_ret
 exact⟨rfl,(Below.refl _ _).alloc zle _⟩
theorem numB_2(nu:Int)(h:0≤nu):(nu/65536==0)=numB 2 nu:=by
 unfold numB;rw[Bool.eq_iff_iff];simp only[beq_iff_eq,decide_eq_true_eq];have:(256:Int)^(2:Int).toNat=65536:=by decide
 rw[this];omega
theorem numbered_2(lg sp ph:Bool)(ty ve:Int)(dc sc tk:List UInt8)(le nu:Int)(w:World)(wty:-9223372036854775808≤ty)(wty2:ty≤9223372036854775807)(wve:0≤ve)(wve2:ve≤4294967295)(wdc:dc.length≤9223372036854775807)(wsc:sc.length≤9223372036854775807)(wtk:tk.length≤9223372036854775807)(wle:0≤le)(wle2:le≤18446744073709551615) (wnu:0≤nu)(wnu2:nu≤18446744073709551615) :
 Calls Tryz.prog 121 #[.agg #[.bool lg,.bool sp,.bool ph,.int .i64 ty,.int .u32 ve,.string ⟨dc.toArray⟩,.string ⟨sc.toArray⟩,.string ⟨tk.toArray⟩,.int .u64 le,.int .i64 2,.int .u64 nu]] w fun e w'=>e=.returned (.bool (numB 2 nu))∧Below w.heap.size w w':=by
 rw[←numB_2 nu wnu];go_enter Tryz.func121,Tryz.ntmps121;go_wp2
 go_ret
 exact⟨rfl,(Below.refl _ _).alloc zle _⟩
theorem numB_3(nu:Int)(h:0≤nu):(nu/16777216==0)=numB 3 nu:=by
 unfold numB;rw[Bool.eq_iff_iff];simp only[beq_iff_eq,decide_eq_true_eq];have:(256:Int)^(3:Int).toNat=16777216:=by decide
 rw[this];omega
theorem numbered_3(lg sp ph:Bool)(ty ve:Int)(dc sc tk:List UInt8)(le nu:Int)(w:World)(wty:-9223372036854775808≤ty)(wty2:ty≤9223372036854775807)(wve:0≤ve)(wve2:ve≤4294967295)(wdc:dc.length≤9223372036854775807)(wsc:sc.length≤9223372036854775807)(wtk:tk.length≤9223372036854775807)(wle:0≤le)(wle2:le≤18446744073709551615) (wnu:0≤nu)(wnu2:nu≤18446744073709551615) :
 Calls Tryz.prog 121 #[.agg #[.bool lg,.bool sp,.bool ph,.int .i64 ty,.int .u32 ve,.string ⟨dc.toArray⟩,.string ⟨sc.toArray⟩,.string ⟨tk.toArray⟩,.int .u64 le,.int .i64 3,.int .u64 nu]] w fun e w'=>e=.returned (.bool (numB 3 nu))∧Below w.heap.size w w':=by
 rw[←numB_3 nu wnu];go_enter Tryz.func121,Tryz.ntmps121;go_wp2
 go_ret
 exact⟨rfl,(Below.refl _ _).alloc zle _⟩
theorem numB_4(nu:Int)(h:0≤nu):(nu/4294967296==0)=numB 4 nu:=by
 unfold numB;rw[Bool.eq_iff_iff];simp only[beq_iff_eq,decide_eq_true_eq];have:(256:Int)^(4:Int).toNat=4294967296:=by decide
 rw[this];omega
theorem numbered_4(lg sp ph:Bool)(ty ve:Int)(dc sc tk:List UInt8)(le nu:Int)(w:World)(wty:-9223372036854775808≤ty)(wty2:ty≤9223372036854775807)(wve:0≤ve)(wve2:ve≤4294967295)(wdc:dc.length≤9223372036854775807)(wsc:sc.length≤9223372036854775807)(wtk:tk.length≤9223372036854775807)(wle:0≤le)(wle2:le≤18446744073709551615) (wnu:0≤nu)(wnu2:nu≤18446744073709551615) :
 Calls Tryz.prog 121 #[.agg #[.bool lg,.bool sp,.bool ph,.int .i64 ty,.int .u32 ve,.string ⟨dc.toArray⟩,.string ⟨sc.toArray⟩,.string ⟨tk.toArray⟩,.int .u64 le,.int .i64 4,.int .u64 nu]] w fun e w'=>e=.returned (.bool (numB 4 nu))∧Below w.heap.size w w':=by
 rw[←numB_4 nu wnu];go_enter Tryz.func121,Tryz.ntmps121;go_wp2
 go_ret
 exact⟨rfl,(Below.refl _ _).alloc zle _⟩
theorem numbered_any(lg sp ph:Bool)(ty ve:Int)(dc sc tk:List UInt8)(le wi nu:Int)(w:World)(wty:-9223372036854775808≤ty)(wty2:ty≤9223372036854775807)(wve:0≤ve)(wve2:ve≤4294967295)(wdc:dc.length≤9223372036854775807)(wsc:sc.length≤9223372036854775807)(wtk:tk.length≤9223372036854775807)(wle:0≤le)(wle2:le≤18446744073709551615)(wwi:-9223372036854775808≤wi)(wwi2:wi≤9223372036854775807)(wnu:0≤nu)(wnu2:nu≤18446744073709551615) :
 Calls Tryz.prog 121 #[.agg #[.bool lg,.bool sp,.bool ph,.int .i64 ty,.int .u32 ve,.string ⟨dc.toArray⟩,.string ⟨sc.toArray⟩,.string ⟨tk.toArray⟩,.int .u64 le,.int .i64 wi,.int .u64 nu]] w fun e w'=>e=.returned (.bool (numB wi nu))∧Below w.heap.size w w':=by
 by_cases h1:wi<1
 ·rw[numB_no (.inl h1)];exact numbered_no0 lg sp ph ty ve dc sc tk le wi nu w wty wty2 wve wve2 wdc wsc wtk wle wle2 wwi wwi2 wnu wnu2 h1
 by_cases h2:4<wi
 ·rw[numB_no (.inr h2)];exact numbered_no1 lg sp ph ty ve dc sc tk le wi nu w wty wty2 wve wve2 wdc wsc wtk wle wle2 wwi wwi2 wnu wnu2 h2
 have:wi=1∨wi=2∨wi=3∨wi=4:=by omega
 rcases this with rfl|rfl|rfl|rfl
 ·exact numbered_1 lg sp ph ty ve dc sc tk le nu w wty wty2 wve wve2 wdc wsc wtk wle wle2 wnu wnu2
 ·exact numbered_2 lg sp ph ty ve dc sc tk le nu w wty wty2 wve wve2 wdc wsc wtk wle wle2 wnu wnu2
 ·exact numbered_3 lg sp ph ty ve dc sc tk le nu w wty wty2 wve wve2 wdc wsc wtk wle wle2 wnu wnu2
 ·exact numbered_4 lg sp ph ty ve dc sc tk le nu w wty wty2 wve wve2 wdc wsc wtk wle wle2 wnu wnu2
def bndB (lg:Bool) (ty:Int) (dc sc tk:List UInt8) (le:Int):Bool:=
 if lg then decide (0≤ty∧ty≤2∧dc.length≤20∧sc.length≤20∧tk.length≤1000∧le≤4611686018427387903) else decide (dc.length=8)
theorem bounded_s(sp ph:Bool)(ty ve:Int)(dc sc tk:List UInt8)(le wi nu:Int)(w:World)(wty:-9223372036854775808≤ty)(wty2:ty≤9223372036854775807)(wve:0≤ve)(wve2:ve≤4294967295)(wdc:dc.length≤9223372036854775807)(wsc:sc.length≤9223372036854775807)(wtk:tk.length≤9223372036854775807)(wle:0≤le)(wle2:le≤18446744073709551615)(wwi:-9223372036854775808≤wi)(wwi2:wi≤9223372036854775807)(wnu:0≤nu)(wnu2:nu≤18446744073709551615) :
 Calls Tryz.prog 120 #[.agg #[.bool false,.bool sp,.bool ph,.int .i64 ty,.int .u32 ve,.string ⟨dc.toArray⟩,.string ⟨sc.toArray⟩,.string ⟨tk.toArray⟩,.int .u64 le,.int .i64 wi,.int .u64 nu]] w fun e w'=>e=.returned (.bool (bndB false ty dc sc tk le))∧Below w.heap.size w w':=by
 by_cases h:dc.length=8
 ·have hb:bndB false ty dc sc tk le=true:=decide_eq_true h
  rw[hb];go_enter Tryz.func120,Tryz.ntmps120;go_wp2
  go_ret
  exact⟨by simp,(Below.refl _ _).alloc zle _⟩
 ·have hb:bndB false ty dc sc tk le=false:=decide_eq_false h
  have h':(((dc.length:Nat):Int)==8)=false:=by simp;omega
  rw[hb];go_enter Tryz.func120,Tryz.ntmps120;go_wp2
  go_ret
  exact⟨by simp,(Below.refl _ _).alloc zle _⟩
theorem bounded_l0(sp ph:Bool)(ty ve:Int)(dc sc tk:List UInt8)(le wi nu:Int)(w:World)(wty:-9223372036854775808≤ty)(wty2:ty≤9223372036854775807)(wve:0≤ve)(wve2:ve≤4294967295)(wdc:dc.length≤9223372036854775807)(wsc:sc.length≤9223372036854775807)(wtk:tk.length≤9223372036854775807)(wle:0≤le)(wle2:le≤18446744073709551615)(wwi:-9223372036854775808≤wi)(wwi2:wi≤9223372036854775807)(wnu:0≤nu)(wnu2:nu≤18446744073709551615) (h0:¬0≤ty) :
 Calls Tryz.prog 120 #[.agg #[.bool true,.bool sp,.bool ph,.int .i64 ty,.int .u32 ve,.string ⟨dc.toArray⟩,.string ⟨sc.toArray⟩,.string ⟨tk.toArray⟩,.int .u64 le,.int .i64 wi,.int .u64 nu]] w fun e w'=>e=.returned (.bool false)∧Below w.heap.size w w':=by
 go_enter Tryz.func120,Tryz.ntmps120;go_wp2
 go_ret
 exact⟨by simp<;>omega,(Below.refl _ _).alloc zle _⟩
theorem bounded_l1(sp ph:Bool)(ty ve:Int)(dc sc tk:List UInt8)(le wi nu:Int)(w:World)(wty:-9223372036854775808≤ty)(wty2:ty≤9223372036854775807)(wve:0≤ve)(wve2:ve≤4294967295)(wdc:dc.length≤9223372036854775807)(wsc:sc.length≤9223372036854775807)(wtk:tk.length≤9223372036854775807)(wle:0≤le)(wle2:le≤18446744073709551615)(wwi:-9223372036854775808≤wi)(wwi2:wi≤9223372036854775807)(wnu:0≤nu)(wnu2:nu≤18446744073709551615)(h0:0≤ty)(h1:¬ty≤2) :
 Calls Tryz.prog 120 #[.agg #[.bool true,.bool sp,.bool ph,.int .i64 ty,.int .u32 ve,.string ⟨dc.toArray⟩,.string ⟨sc.toArray⟩,.string ⟨tk.toArray⟩,.int .u64 le,.int .i64 wi,.int .u64 nu]] w fun e w'=>e=.returned (.bool false)∧Below w.heap.size w w':=by
 go_enter Tryz.func120,Tryz.ntmps120;go_wp2
 go_ret
 exact⟨by simp<;>omega,(Below.refl _ _).alloc zle _⟩
theorem bounded_l2(sp ph:Bool)(ty ve:Int)(dc sc tk:List UInt8)(le wi nu:Int)(w:World)(wty:-9223372036854775808≤ty)(wty2:ty≤9223372036854775807)(wve:0≤ve)(wve2:ve≤4294967295)(wdc:dc.length≤9223372036854775807)(wsc:sc.length≤9223372036854775807)(wtk:tk.length≤9223372036854775807)(wle:0≤le)(wle2:le≤18446744073709551615)(wwi:-9223372036854775808≤wi)(wwi2:wi≤9223372036854775807)(wnu:0≤nu)(wnu2:nu≤18446744073709551615)(h0:0≤ty)(h1:ty≤2)(h2:¬dc.length≤20) :
 Calls Tryz.prog 120 #[.agg #[.bool true,.bool sp,.bool ph,.int .i64 ty,.int .u32 ve,.string ⟨dc.toArray⟩,.string ⟨sc.toArray⟩,.string ⟨tk.toArray⟩,.int .u64 le,.int .i64 wi,.int .u64 nu]] w fun e w'=>e=.returned (.bool false)∧Below w.heap.size w w':=by
 go_enter Tryz.func120,Tryz.ntmps120;go_wp2
 go_ret
 exact⟨by simp<;>omega,(Below.refl _ _).alloc zle _⟩
theorem bounded_l3(sp ph:Bool)(ty ve:Int)(dc sc tk:List UInt8)(le wi nu:Int)(w:World)(wty:-9223372036854775808≤ty)(wty2:ty≤9223372036854775807)(wve:0≤ve)(wve2:ve≤4294967295)(wdc:dc.length≤9223372036854775807)(wsc:sc.length≤9223372036854775807)(wtk:tk.length≤9223372036854775807)(wle:0≤le)(wle2:le≤18446744073709551615)(wwi:-9223372036854775808≤wi)(wwi2:wi≤9223372036854775807)(wnu:0≤nu)(wnu2:nu≤18446744073709551615)(h0:0≤ty)(h1:ty≤2)(h2:dc.length≤20)(h3:¬sc.length≤20) :
 Calls Tryz.prog 120 #[.agg #[.bool true,.bool sp,.bool ph,.int .i64 ty,.int .u32 ve,.string ⟨dc.toArray⟩,.string ⟨sc.toArray⟩,.string ⟨tk.toArray⟩,.int .u64 le,.int .i64 wi,.int .u64 nu]] w fun e w'=>e=.returned (.bool false)∧Below w.heap.size w w':=by
 go_enter Tryz.func120,Tryz.ntmps120;go_wp2
 go_ret
 exact⟨by simp<;>omega,(Below.refl _ _).alloc zle _⟩
theorem bounded_l4(sp ph:Bool)(ty ve:Int)(dc sc tk:List UInt8)(le wi nu:Int)(w:World)(wty:-9223372036854775808≤ty)(wty2:ty≤9223372036854775807)(wve:0≤ve)(wve2:ve≤4294967295)(wdc:dc.length≤9223372036854775807)(wsc:sc.length≤9223372036854775807)(wtk:tk.length≤9223372036854775807)(wle:0≤le)(wle2:le≤18446744073709551615)(wwi:-9223372036854775808≤wi)(wwi2:wi≤9223372036854775807)(wnu:0≤nu)(wnu2:nu≤18446744073709551615)(h0:0≤ty)(h1:ty≤2)(h2:dc.length≤20)(h3:sc.length≤20)(h4:¬tk.length≤1000) :
 Calls Tryz.prog 120 #[.agg #[.bool true,.bool sp,.bool ph,.int .i64 ty,.int .u32 ve,.string ⟨dc.toArray⟩,.string ⟨sc.toArray⟩,.string ⟨tk.toArray⟩,.int .u64 le,.int .i64 wi,.int .u64 nu]] w fun e w'=>e=.returned (.bool false)∧Below w.heap.size w w':=by
 go_enter Tryz.func120,Tryz.ntmps120;go_wp2
 go_ret
 exact⟨by simp<;>omega,(Below.refl _ _).alloc zle _⟩
theorem bounded_l5(sp ph:Bool)(ty ve:Int)(dc sc tk:List UInt8)(le wi nu:Int)(w:World)(wty:-9223372036854775808≤ty)(wty2:ty≤9223372036854775807)(wve:0≤ve)(wve2:ve≤4294967295)(wdc:dc.length≤9223372036854775807)(wsc:sc.length≤9223372036854775807)(wtk:tk.length≤9223372036854775807)(wle:0≤le)(wle2:le≤18446744073709551615)(wwi:-9223372036854775808≤wi)(wwi2:wi≤9223372036854775807)(wnu:0≤nu)(wnu2:nu≤18446744073709551615)(h0:0≤ty)(h1:ty≤2)(h2:dc.length≤20)(h3:sc.length≤20)(h4:tk.length≤1000)(h5:¬le≤4611686018427387903) :
 Calls Tryz.prog 120 #[.agg #[.bool true,.bool sp,.bool ph,.int .i64 ty,.int .u32 ve,.string ⟨dc.toArray⟩,.string ⟨sc.toArray⟩,.string ⟨tk.toArray⟩,.int .u64 le,.int .i64 wi,.int .u64 nu]] w fun e w'=>e=.returned (.bool false)∧Below w.heap.size w w':=by
 go_enter Tryz.func120,Tryz.ntmps120;go_wp2
 go_ret
 exact⟨by simp<;>omega,(Below.refl _ _).alloc zle _⟩
theorem bounded_l6(sp ph:Bool)(ty ve:Int)(dc sc tk:List UInt8)(le wi nu:Int)(w:World)(wty:-9223372036854775808≤ty)(wty2:ty≤9223372036854775807)(wve:0≤ve)(wve2:ve≤4294967295)(wdc:dc.length≤9223372036854775807)(wsc:sc.length≤9223372036854775807)(wtk:tk.length≤9223372036854775807)(wle:0≤le)(wle2:le≤18446744073709551615)(wwi:-9223372036854775808≤wi)(wwi2:wi≤9223372036854775807)(wnu:0≤nu)(wnu2:nu≤18446744073709551615)(h0:0≤ty)(h1:ty≤2)(h2:dc.length≤20)(h3:sc.length≤20)(h4:tk.length≤1000)(h5:le≤4611686018427387903) :
 Calls Tryz.prog 120 #[.agg #[.bool true,.bool sp,.bool ph,.int .i64 ty,.int .u32 ve,.string ⟨dc.toArray⟩,.string ⟨sc.toArray⟩,.string ⟨tk.toArray⟩,.int .u64 le,.int .i64 wi,.int .u64 nu]] w fun e w'=>e=.returned (.bool true)∧Below w.heap.size w w':=by
 go_enter Tryz.func120,Tryz.ntmps120;go_wp2
 go_ret
 exact⟨by simp<;>omega,(Below.refl _ _).alloc zle _⟩
theorem bounded_any(lg sp ph:Bool)(ty ve:Int)(dc sc tk:List UInt8)(le wi nu:Int)(w:World)(wty:-9223372036854775808≤ty)(wty2:ty≤9223372036854775807)(wve:0≤ve)(wve2:ve≤4294967295)(wdc:dc.length≤9223372036854775807)(wsc:sc.length≤9223372036854775807)(wtk:tk.length≤9223372036854775807)(wle:0≤le)(wle2:le≤18446744073709551615)(wwi:-9223372036854775808≤wi)(wwi2:wi≤9223372036854775807)(wnu:0≤nu)(wnu2:nu≤18446744073709551615) :
 Calls Tryz.prog 120 #[.agg #[.bool lg,.bool sp,.bool ph,.int .i64 ty,.int .u32 ve,.string ⟨dc.toArray⟩,.string ⟨sc.toArray⟩,.string ⟨tk.toArray⟩,.int .u64 le,.int .i64 wi,.int .u64 nu]] w fun e w'=>e=.returned (.bool (bndB lg ty dc sc tk le))∧Below w.heap.size w w':=by
 cases lg with
 | false=>exact bounded_s sp ph ty ve dc sc tk le wi nu w wty wty2 wve wve2 wdc wsc wtk wle wle2 wwi wwi2 wnu wnu2
 | true=>
  have no:∀(h:¬(0≤ty∧ty≤2∧dc.length≤20∧sc.length≤20∧tk.length≤1000∧le≤4611686018427387903)),bndB true ty dc sc tk le=false:=fun h=>decide_eq_false h
  by_cases h0:0≤ty;rotate_left
  ·rw[no (by omega)];exact bounded_l0 sp ph ty ve dc sc tk le wi nu w wty wty2 wve wve2 wdc wsc wtk wle wle2 wwi wwi2 wnu wnu2 h0
  by_cases h1:ty≤2;rotate_left
  ·rw[no (by omega)];exact bounded_l1 sp ph ty ve dc sc tk le wi nu w wty wty2 wve wve2 wdc wsc wtk wle wle2 wwi wwi2 wnu wnu2 h0 h1
  by_cases h2:dc.length≤20;rotate_left
  ·rw[no (by omega)];exact bounded_l2 sp ph ty ve dc sc tk le wi nu w wty wty2 wve wve2 wdc wsc wtk wle wle2 wwi wwi2 wnu wnu2 h0 h1 h2
  by_cases h3:sc.length≤20;rotate_left
  ·rw[no (by omega)];exact bounded_l3 sp ph ty ve dc sc tk le wi nu w wty wty2 wve wve2 wdc wsc wtk wle wle2 wwi wwi2 wnu wnu2 h0 h1 h2 h3
  by_cases h4:tk.length≤1000;rotate_left
  ·rw[no (by omega)];exact bounded_l4 sp ph ty ve dc sc tk le wi nu w wty wty2 wve wve2 wdc wsc wtk wle wle2 wwi wwi2 wnu wnu2 h0 h1 h2 h3 h4
  by_cases h5:le≤4611686018427387903;rotate_left
  ·rw[no (by omega)];exact bounded_l5 sp ph ty ve dc sc tk le wi nu w wty wty2 wve wve2 wdc wsc wtk wle wle2 wwi wwi2 wnu wnu2 h0 h1 h2 h3 h4 h5
  have yes:bndB true ty dc sc tk le=true:=decide_eq_true ⟨h0,h1,h2,h3,h4,h5⟩;rw[yes];exact bounded_l6 sp ph ty ve dc sc tk le wi nu w wty wty2 wve wve2 wdc wsc wtk wle wle2 wwi wwi2 wnu wnu2 h0 h1 h2 h3 h4 h5
theorem kept_s(sp ph:Bool)(ty ve:Int)(dc sc tk:List UInt8)(le wi nu:Int)(w:World)(wty:-9223372036854775808≤ty)(wty2:ty≤9223372036854775807)(wve:0≤ve)(wve2:ve≤4294967295)(wdc:dc.length≤9223372036854775807)(wsc:sc.length≤9223372036854775807)(wtk:tk.length≤9223372036854775807)(wle:0≤le)(wle2:le≤18446744073709551615)(wwi:-9223372036854775808≤wi)(wwi2:wi≤9223372036854775807)(wnu:0≤nu)(wnu2:nu≤18446744073709551615)  :
 Calls Tryz.prog 119 #[.agg #[.bool false,.bool sp,.bool ph,.int .i64 ty,.int .u32 ve,.string ⟨dc.toArray⟩,.string ⟨sc.toArray⟩,.string ⟨tk.toArray⟩,.int .u64 le,.int .i64 wi,.int .u64 nu]] w fun e w'=>e=.returned (.agg #[.bool false,.bool sp,.bool ph,.int .i64 0,.int .u32 0,.string ⟨dc.toArray⟩,.string ⟨#[]⟩,.string ⟨#[]⟩,.int .u64 0,.int .i64 wi,.int .u64 nu])∧Below w.heap.size w w':=by
 go_enter Tryz.func119,Tryz.ntmps119;go_wp2;refine bodyPost_ret (v:=.agg #[.bool false,.bool sp,.bool ph,.int .i64 0,.int .u32 0,.string ⟨dc.toArray⟩,.string ⟨#[]⟩,.string ⟨#[]⟩,.int .u64 0,.int .i64 wi,.int .u64 nu]) (by simp[results,Tryz.results119,go_sem, *]) rfl ⟨rfl,((Below.refl _ _).alloc zle _).alloc (by simp) _⟩
theorem kept_l0(sp ph:Bool)(ve:Int)(dc sc tk:List UInt8)(le wi nu:Int)(w:World) (wve:0≤ve)(wve2:ve≤4294967295)(wdc:dc.length≤9223372036854775807)(wsc:sc.length≤9223372036854775807)(wtk:tk.length≤9223372036854775807)(wle:0≤le)(wle2:le≤18446744073709551615)(wwi:-9223372036854775808≤wi)(wwi2:wi≤9223372036854775807)(wnu:0≤nu)(wnu2:nu≤18446744073709551615)  :
 Calls Tryz.prog 119 #[.agg #[.bool true,.bool sp,.bool ph,.int .i64 0,.int .u32 ve,.string ⟨dc.toArray⟩,.string ⟨sc.toArray⟩,.string ⟨tk.toArray⟩,.int .u64 le,.int .i64 wi,.int .u64 nu]] w fun e w'=>e=.returned (.agg #[.bool true,.bool false,.bool false,.int .i64 0,.int .u32 ve,.string ⟨dc.toArray⟩,.string ⟨sc.toArray⟩,.string ⟨tk.toArray⟩,.int .u64 le,.int .i64 wi,.int .u64 nu])∧Below w.heap.size w w':=by
 go_enter Tryz.func119,Tryz.ntmps119;go_wp2;refine bodyPost_ret (v:=.agg #[.bool true,.bool false,.bool false,.int .i64 0,.int .u32 ve,.string ⟨dc.toArray⟩,.string ⟨sc.toArray⟩,.string ⟨tk.toArray⟩,.int .u64 le,.int .i64 wi,.int .u64 nu]) (by simp[results,Tryz.results119,go_sem, *]) rfl ⟨rfl,((Below.refl _ _).alloc zle _).alloc (by simp) _⟩
theorem kept_ln(sp ph:Bool)(ty ve:Int)(dc sc tk:List UInt8)(le wi nu:Int)(w:World)(wty:-9223372036854775808≤ty)(wty2:ty≤9223372036854775807)(wve:0≤ve)(wve2:ve≤4294967295)(wdc:dc.length≤9223372036854775807)(wsc:sc.length≤9223372036854775807)(wtk:tk.length≤9223372036854775807)(wle:0≤le)(wle2:le≤18446744073709551615)(wwi:-9223372036854775808≤wi)(wwi2:wi≤9223372036854775807)(wnu:0≤nu)(wnu2:nu≤18446744073709551615)(h0:(ty != 0)=true) :
 Calls Tryz.prog 119 #[.agg #[.bool true,.bool sp,.bool ph,.int .i64 ty,.int .u32 ve,.string ⟨dc.toArray⟩,.string ⟨sc.toArray⟩,.string ⟨tk.toArray⟩,.int .u64 le,.int .i64 wi,.int .u64 nu]] w fun e w'=>e=.returned (.agg #[.bool true,.bool false,.bool false,.int .i64 ty,.int .u32 ve,.string ⟨dc.toArray⟩,.string ⟨sc.toArray⟩,.string ⟨#[]⟩,.int .u64 le,.int .i64 wi,.int .u64 nu])∧Below w.heap.size w w':=by
 go_enter Tryz.func119,Tryz.ntmps119;go_wp2;refine bodyPost_ret (v:=.agg #[.bool true,.bool false,.bool false,.int .i64 ty,.int .u32 ve,.string ⟨dc.toArray⟩,.string ⟨sc.toArray⟩,.string ⟨#[]⟩,.int .u64 le,.int .i64 wi,.int .u64 nu]) (by simp[results,Tryz.results119,go_sem, *]) rfl ⟨rfl,((Below.refl _ _).alloc zle _).alloc (by simp) _⟩
theorem t3:∀n:Nat,n<256→(bits .and .u8 (n:Int) 3+1=((1+n%4:Nat):Int)∧(0:Int)≤bits .and .u8 (n:Int) 3∧bits .and .u8 (n:Int) 3≤3):=by decide +kernel
theorem t128':∀n:Nat,n<256→(bits .and .u8 (n:Int) 128 != 0)=decide (128≤n):=by decide +kernel
theorem wideOf_any(n:Nat)(w:World)(hn:n<256) :
 Calls Tryz.prog 129 #[.int .u8 n] w fun e w'=>e=.returned (.int .i64 (1+n%4:Nat))∧w'=w:=by
 have h:=t3 n hn;have h1:=h.2.1;have h2:=h.2.2;have HE:=zh h.1;clear h;go_enter Tryz.func129,Tryz.ntmps129;go_wp2
 go_ret
 exact⟨by rw[←HE.out];rfl,rfl⟩
theorem unused_any(n:Nat)(w:World)(hn:n<256) :
 Calls Tryz.prog 156 #[.int .u8 n] w fun e w'=>e=.returned (.int .u8 (if 128≤n then 12 else 24))∧w'=w:=by
 by_cases h:128≤n
 ·have g:(bits .and .u8 (n:Int) 128 != 0)=true:=by rw[t128' n hn];exact decide_eq_true h
  rw[if_pos h];clear h;go_enter Tryz.func156,Tryz.ntmps156;go_wp2
  go_ret
  exact⟨rfl,rfl⟩
 ·have g:(bits .and .u8 (n:Int) 128 != 0)=false:=by rw[t128' n hn];exact decide_eq_false h
  rw[if_neg h];clear h;go_enter Tryz.func156,Tryz.ntmps156;go_wp2
  go_ret
  exact⟨rfl,rfl⟩
theorem hidden_any(n:Nat)(w:World)(hn:n<256) :
 Calls Tryz.prog 155 #[.int .u8 n] w fun e w'=>e=.returned (.int .u8 (if 128≤n then 15 else 31))∧w'=w:=by
 by_cases h:128≤n
 ·have g:(bits .and .u8 (n:Int) 128 != 0)=true:=by rw[t128' n hn];exact decide_eq_true h
  rw[if_pos h];clear h;go_enter Tryz.func155,Tryz.ntmps155;go_wp2
  go_ret
  exact⟨rfl,rfl⟩
 ·have g:(bits .and .u8 (n:Int) 128 != 0)=false:=by rw[t128' n hn];exact decide_eq_false h
  rw[if_neg h];clear h;go_enter Tryz.func155,Tryz.ntmps155;go_wp2
  go_ret
  exact⟨rfl,rfl⟩
theorem unusedQ(n:Nat)(w:World)(hn:n<256)(m:Int)(hm:Hid ((if 128≤n then (12:Int) else 24)=m)) :
 Calls Tryz.prog 156 #[.int .u8 n] w fun e w'=>e=.returned (.int .u8 m)∧w'=w:=by
 have h:=unused_any n w hn;rw[hm.out]at h;exact h
theorem wideQ(n k:Nat)(w:World)(hn:n<256)(hk:Hid (1+n%4=k)) :
 Calls Tryz.prog 129 #[.int .u8 n] w fun e w'=>e=.returned (.int .i64 k)∧w'=w:=by
 have h:=wideOf_any n w hn;rw[hk.out]at h;exact h
theorem numberEk(b:Nat)(st st':St)(k v:Nat)(x2 x3 x4 x5 x6 x7 x8 x9 xa xb xc xd:Value)(w:World)(e:Hid (bk (st.take k)=v∧st.skip k=st'))(h:Hid (Blk b st x2 x3 x4 x5 x6 x7 x8 x9 xa xb xc xd w))(hl:st.s.length≤9223372036854775807)(hk:k≤4) :
 Calls Tryz.prog 152 #[.pointer (some ⟨b,0,none⟩),.int .i64 k] w fun e w'=>e=.returned (.int .u64 (v:Nat))∧Blk b st' x2 x3 x4 x5 x6 x7 x8 x9 xa xb xc xd w'∧Below b w w':=by
 obtain⟨rfl,rfl⟩:=e.out;exact number_any b st x2 x3 x4 x5 x6 x7 x8 x9 xa xb xc xd k w h.out hl (by omega)
theorem readNumber_f(b n k v:Nat)(l:List UInt8)(s':St)(x2 x3 x5 x6 x7 x8 x9 xa:Value)(bad ph:Bool)(m:Int)(w:World)(h:Blk b ⟨l,false⟩ x2 x3 (.bool false) x5 x6 x7 x8 x9 xa (.int .i64 0) (.int .u64 0) (.int .u8 n) w)
 (E:Hid (bk (St.take ⟨l,bad⟩ k)=v∧St.skip ⟨l,bad⟩ k=s'))(EK:Hid (1+n%4=k))(EM:Hid ((if 128≤n then (12:Int) else 24)=m))(EB:(bits .and .u8 (n:Int) m != 0)=bad)(EP:(bits .and .u8 (n:Int) 4 != 0)=ph)(hl:l.length≤9223372036854775807)(hn:n<256)(hk:k≤4) :
 Calls Tryz.prog 131 #[.pointer (some ⟨b,0,none⟩)] w fun e w'=>e=.returned (.tuple #[])∧Blk b s' x2 x3 (.bool ph) x5 x6 x7 x8 x9 xa (.int .i64 k) (.int .u64 v) (.int .u8 n) w'∧Below b w w':=by
 have c1:w.cell? ⟨b,1,none⟩=some (.bool false):=h.cell 1;have f1:=h.fz 1;have cd:w.cell? ⟨b,13,none⟩=some (.int .u8 n):=h.cell 13;have c4:w.cell? ⟨b,4,none⟩=some (.bool false):=h.cell 4;have f4:=h.fz 4;have cb:w.cell? ⟨b,11,none⟩=some (.int .i64 0):=h.cell 11;have fb:=h.fz 11;have H:=zh h;clear h;go_enter Tryz.func131,Tryz.ntmps131;go_wp2_with fail
 go_region_with (go_at_call 156;(with_reducible refine (unusedQ n _ hn m EM).mono ?_);rintro e w1 ⟨rfl,rfl⟩)
 all_goals
  go_wp2_with fail
  refine (wideQ n k _ hn EK).mono ?_;rintro e w2 ⟨rfl,rfl⟩;have HB:=zh (below_drew (below_drew ((((Below.refl b w).setCell (p:=⟨b,1,none⟩) zle (.bool bad)).setCell (p:=⟨b,4,none⟩) zle (.bool ph)).setCell (p:=⟨b,11,none⟩) zle (.int .i64 k))));have HD:=zh (((H.out.set1 bad).set4 (.bool ph)).set11 (.int .i64 k)).drew.drew;clear H;go_wp2_with fail
  go_region_with (go_at_call 152;(with_reducible refine (numberEk b ⟨l,bad⟩ s' k v _ _ _ _ _ _ _ _ _ _ _ _ _ E HD hl hk).mono ?_);rintro e w3 ⟨rfl,h3,hb3⟩;have cc:=h3.cell 12;have fc:=h3.fz 12;simp only[List.getElem?_toArray,List.getElem?_cons_succ,List.getElem?_cons_zero]at cc;replace HB:=zh ((HB.out.trans hb3).setCell (p:=⟨b,12,none⟩) zle (.int .u64 v));have H4:=zh (h3.set12 (.int .u64 v));clear h3 hb3)
  all_goals
   go_wp2
   go_end0
   exact⟨rfl,H4.out,HB.out⟩
theorem readNumber_t(b n k v:Nat)(l:List UInt8)(s':St)(x2 x3 x5 x6 x7 x8 x9 xa:Value)(ph:Bool)(w:World)(h:Blk b ⟨l,true⟩ x2 x3 (.bool false) x5 x6 x7 x8 x9 xa (.int .i64 0) (.int .u64 0) (.int .u8 n) w)
 (E:Hid (bk (St.take ⟨l,true⟩ k)=v∧St.skip ⟨l,true⟩ k=s'))(EK:Hid (1+n%4=k))(EP:(bits .and .u8 (n:Int) 4 != 0)=ph)(hl:l.length≤9223372036854775807)(hn:n<256)(hk:k≤4) :
 Calls Tryz.prog 131 #[.pointer (some ⟨b,0,none⟩)] w fun e w'=>e=.returned (.tuple #[])∧Blk b s' x2 x3 (.bool ph) x5 x6 x7 x8 x9 xa (.int .i64 k) (.int .u64 v) (.int .u8 n) w'∧Below b w w':=by
 have d4:w.cell? ⟨b,4,none⟩=some (.bool false):=h.cell 4;have e4:=h.fz 4;have db:w.cell? ⟨b,11,none⟩=some (.int .i64 0):=h.cell 11;have eb:=h.fz 11;have dd:w.cell? ⟨b,13,none⟩=some (.int .u8 n):=h.cell 13;go_enter Tryz.func131,Tryz.ntmps131;have H:=zh h;clear h;go_wp2_with fail
 refine wp_region_noPanic ?_;refine wp_region_held_drew (S:=fun w'=>Blk b ⟨l,true⟩ x2 x3 (.bool false) x5 x6 x7 x8 x9 xa (.int .i64 0) (.int .u64 0) (.int .u8 n) w'∧Below b w w') (by kernel_rfl) ?_ (fun hHeld=>?_)
 ·exact⟨H.out.drew,below_drew (Below.refl _ _)⟩
 iterate 7
  refine zqb [0,1,2,3,4,5,6] rfl rfl ?_ ?_ ?_;rotate_left
  ·(intro w hSw;(try (have c1:w.cell? ⟨b,1,none⟩=some (.bool true):=hSw.1.cell 1));clear hSw;go_simp;(try with_reducible rfl))
  try simp only[Act.put,J1,J2,J3,J4,J5,J6]
 refine zqc 7 rfl ?_
 try simp only[Act.put,J1,J2,J3,J4,J5,J6]
 refine zqc 8 rfl ?_
 try simp only[Act.put,J1,J2,J3,J4,J5,J6]
 refine zqc 9 rfl ?_
 try simp only[Act.put,J1,J2,J3,J4,J5,J6]
 refine zqc 10 rfl ?_
 try simp only[Act.put,J1,J2,J3,J4,J5,J6]
 refine zqc 11 rfl ?_
 try simp only[Act.put,J1,J2,J3,J4,J5,J6]
 refine zqc 12 rfl ?_
 try simp only[Act.put,J1,J2,J3,J4,J5,J6]
 refine zqc 13 rfl ?_
 try simp only[Act.put,J1,J2,J3,J4,J5,J6]
 refine zqc 14 rfl ?_
 try simp only[Act.put,J1,J2,J3,J4,J5,J6]
 refine zqc 15 rfl ?_
 try simp only[Act.put,J1,J2,J3,J4,J5,J6]
 refine zqc 16 rfl ?_
 try simp only[Act.put,J1,J2,J3,J4,J5,J6]
 refine zqc 17 rfl ?_
 try simp only[Act.put,J1,J2,J3,J4,J5,J6]
 iterate 4
  refine zqb [18,19,20,21] rfl rfl ?_ ?_ ?_;rotate_left
  ·(intro w hSw;(try (have c1:w.cell? ⟨b,1,none⟩=some (.bool true):=hSw.1.cell 1));clear hSw;go_simp;(try with_reducible rfl))
  try simp only[Act.put,J1,J2,J3,J4,J5,J6]
 refine zqf [22] (AllReadyH.cons rfl (fun K hK=>?_) AllReadyH.nil);rw[if_pos (by rfl)];have HH:=zh hHeld;have c1:=hHeld.1.cell 1;have f1:=hHeld.1.fz 1;simp only[List.getElem?_toArray,List.getElem?_cons_succ,List.getElem?_cons_zero]at c1;clear hHeld;go_simp;refine hK.out _ _ ?_ (fun hHeld=>?_)
 ·exact⟨HH.out.1.set1 true,HH.out.2.setCell (p:=⟨b,1,none⟩) zle (.bool true)⟩
 clear hK K c1 f1 HH
 try simp only[Act.put,J1,J2,J3,J4,J5,J6]
 refine zqe (NoPanic.normal ?_);clear hHeld;go_wp2_with fail
 refine (wideQ n k _ hn EK).mono ?_;rintro e w2 ⟨rfl,rfl⟩;have HB:=zh (below_drew (below_drew ((((Below.refl b w).setCell (p:=⟨b,1,none⟩) zle (.bool true)).setCell (p:=⟨b,4,none⟩) zle (.bool ph)).setCell (p:=⟨b,11,none⟩) zle (.int .i64 k))));have HD:=zh (((H.out.set1 true).set4 (.bool ph)).set11 (.int .i64 k)).drew.drew;clear H;go_wp2_with fail
 go_region_with (go_at_call 152;(with_reducible refine (numberEk b ⟨l,true⟩ s' k v _ _ _ _ _ _ _ _ _ _ _ _ _ E HD hl hk).mono ?_);rintro e w3 ⟨rfl,h3,hb3⟩;have cc:=h3.cell 12;have fc:=h3.fz 12;simp only[List.getElem?_toArray,List.getElem?_cons_succ,List.getElem?_cons_zero]at cc;replace HB:=zh ((HB.out.trans hb3).setCell (p:=⟨b,12,none⟩) zle (.int .u64 v));have H4:=zh (h3.set12 (.int .u64 v));clear h3 hb3)
 all_goals
  go_wp2
  go_end0
  exact⟨rfl,H4.out,HB.out⟩
end Go.Proofs.YtagbkmoahflfdaaGreatDoor.Hd
