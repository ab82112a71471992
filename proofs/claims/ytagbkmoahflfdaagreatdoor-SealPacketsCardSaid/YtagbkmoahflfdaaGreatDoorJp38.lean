import Derived.Test.YtagbkmoahflfdaaGreatDoorJp01
import Derived.Test.YtagbkmoahflfdaaGreatDoorJp37
import Derived.Test.YtagbkmoahflfdaaGreatDoorJp22
import Derived.Deep.CutRange
import Derived.Test.YtagbkmoahflfdaaGreatDoorJp15
import Derived.OpenShut
set_option maxHeartbeats 4000000
set_option maxRecDepth 20000
set_option linter.unusedVariables false
set_option linter.unusedSimpArgs false
namespace Go.Proofs.YtagbkmoahflfdaaGreatDoor.Hd
open Tk Go.RowKit Vm
theorem putR_s_false_false(ty:Int)(ve:Int)(dc:List UInt8)(sc:List UInt8)(tk:List UInt8)(le:Int)(wi:Int)(nu:Int)(w:World)(wty:-9223372036854775808≤ty)(wty2:ty≤9223372036854775807)(wve:0≤ve)(wve2:ve≤4294967295)(wdc:dc.length≤9223372036854775807)(wsc:sc.length≤9223372036854775807)(wtk:tk.length≤9223372036854775807)(wle:0≤le)(wle2:le≤18446744073709551615)(wwi:-9223372036854775808≤wi)(wwi2:wi≤9223372036854775807)(wnu:0≤nu)(wnu2:nu≤18446744073709551615)(EM:Hid (mayB false false false ty ve dc sc tk le wi nu=true))(k1:1≤wi)(k2:wi≤4)(fb:Nat)(fl:List UInt8)(gl:fl.length≤4)(CF:Hid (∀w:World,Calls Tryz.prog 81 #[.int .u64 nu,.int .i64 wi] w fun e w'=>e=.returned (.string ⟨fl.toArray⟩)∧Below w.heap.size w w'))(Eb:wi-1+64=(fb:Int))(kdc:dc.length≤20) :
 Calls Tryz.prog 58 #[.agg #[.bool false,.bool false,.bool false,.int .i64 ty,.int .u32 ve,.string ⟨dc.toArray⟩,.string ⟨sc.toArray⟩,.string ⟨tk.toArray⟩,.int .u64 le,.int .i64 wi,.int .u64 nu]] w fun e w'=>e=.returned (.tuple #[.string ⟨(by1 fb::dc++fl).toArray⟩,.int .i64 0])∧Below w.heap.size w w':=by
 have HX:=zh (Box.made w (.bool false) (.bool false) (.bool false) (.int .i64 ty) (.int .u32 ve) (.string ⟨dc.toArray⟩) (.string ⟨sc.toArray⟩) (.string ⟨tk.toArray⟩) (.int .u64 le) (.int .i64 wi) (.int .u64 nu) 104);go_enter Tryz.func58,Tryz.ntmps58;go_wp2_with fail
 refine (May_ref false false false ty ve dc sc tk le wi nu _ wty wty2 wve wve2 wdc wsc wtk wle wle2 wwi wwi2 wnu wnu2).mono ?_;rintro e w1 ⟨rfl,hb⟩;rw[EM.out];replace HX:=zh (HX.out.keep hb);clear hb;obtain⟨c0,c1,c2,c3,c4,c5,c6,c7,c8,c9,c10,hB,hs⟩:=HX.out;clear hB hs;have CV:=zh (fun w:World=>conv1 fb (w.alloc (.cells #[.int .u8 fb] 5)) w.heap.size (made1 fb w));go_wp2_with fail
 refine (CF.out _).mono ?_;rintro e w2 ⟨rfl,hb⟩;replace HX:=zh (HX.out.keep hb);clear hb;clear c0 c1 c2 c3 c4 c5 c6 c7 c8 c9 c10;obtain⟨c0,c1,c2,c3,c4,c5,c6,c7,c8,c9,c10,hB,hs⟩:=HX.out;clear hB hs;have gs1:¬9223372036854775807<1+dc.length:=by omega
 have gs2:¬9223372036854775807<1+dc.length+fl.length:=by omega
 have gs3:¬9223372036854775807<dc.length+1:=by omega
 have gs4:¬9223372036854775807<dc.length+1+fl.length:=by omega
 have HB:=zh HX.out.bel;have hz:=HX.out.lt;clear HX;go_wp2_with fail
 rw[CV.out];go_wp2
 go_ret2
 exact⟨by rw[app_two,app_two];rfl,HB.out.alloc HB.out.size _⟩
theorem putR_s_false_true(ty:Int)(ve:Int)(dc:List UInt8)(sc:List UInt8)(tk:List UInt8)(le:Int)(wi:Int)(nu:Int)(w:World)(wty:-9223372036854775808≤ty)(wty2:ty≤9223372036854775807)(wve:0≤ve)(wve2:ve≤4294967295)(wdc:dc.length≤9223372036854775807)(wsc:sc.length≤9223372036854775807)(wtk:tk.length≤9223372036854775807)(wle:0≤le)(wle2:le≤18446744073709551615)(wwi:-9223372036854775808≤wi)(wwi2:wi≤9223372036854775807)(wnu:0≤nu)(wnu2:nu≤18446744073709551615)(EM:Hid (mayB false false true ty ve dc sc tk le wi nu=true))(k1:1≤wi)(k2:wi≤4)(fb:Nat)(fl:List UInt8)(gl:fl.length≤4)(CF:Hid (∀w:World,Calls Tryz.prog 81 #[.int .u64 nu,.int .i64 wi] w fun e w'=>e=.returned (.string ⟨fl.toArray⟩)∧Below w.heap.size w w'))(Eb:wi-1+64+4=(fb:Int))(kdc:dc.length≤20) :
 Calls Tryz.prog 58 #[.agg #[.bool false,.bool false,.bool true,.int .i64 ty,.int .u32 ve,.string ⟨dc.toArray⟩,.string ⟨sc.toArray⟩,.string ⟨tk.toArray⟩,.int .u64 le,.int .i64 wi,.int .u64 nu]] w fun e w'=>e=.returned (.tuple #[.string ⟨(by1 fb::dc++fl).toArray⟩,.int .i64 0])∧Below w.heap.size w w':=by
 have HX:=zh (Box.made w (.bool false) (.bool false) (.bool true) (.int .i64 ty) (.int .u32 ve) (.string ⟨dc.toArray⟩) (.string ⟨sc.toArray⟩) (.string ⟨tk.toArray⟩) (.int .u64 le) (.int .i64 wi) (.int .u64 nu) 104);go_enter Tryz.func58,Tryz.ntmps58;go_wp2_with fail
 refine (May_ref false false true ty ve dc sc tk le wi nu _ wty wty2 wve wve2 wdc wsc wtk wle wle2 wwi wwi2 wnu wnu2).mono ?_;rintro e w1 ⟨rfl,hb⟩;rw[EM.out];replace HX:=zh (HX.out.keep hb);clear hb;obtain⟨c0,c1,c2,c3,c4,c5,c6,c7,c8,c9,c10,hB,hs⟩:=HX.out;clear hB hs;have CV:=zh (fun w:World=>conv1 fb (w.alloc (.cells #[.int .u8 fb] 5)) w.heap.size (made1 fb w));go_wp2_with fail
 refine (CF.out _).mono ?_;rintro e w2 ⟨rfl,hb⟩;replace HX:=zh (HX.out.keep hb);clear hb;clear c0 c1 c2 c3 c4 c5 c6 c7 c8 c9 c10;obtain⟨c0,c1,c2,c3,c4,c5,c6,c7,c8,c9,c10,hB,hs⟩:=HX.out;clear hB hs;have gs1:¬9223372036854775807<1+dc.length:=by omega
 have gs2:¬9223372036854775807<1+dc.length+fl.length:=by omega
 have gs3:¬9223372036854775807<dc.length+1:=by omega
 have gs4:¬9223372036854775807<dc.length+1+fl.length:=by omega
 have HB:=zh HX.out.bel;have hz:=HX.out.lt;clear HX;go_wp2_with fail
 rw[CV.out];go_wp2
 go_ret2
 exact⟨by rw[app_two,app_two];rfl,HB.out.alloc HB.out.size _⟩
end Go.Proofs.YtagbkmoahflfdaaGreatDoor.Hd
namespace Go.Proofs.YtagbkmoahflfdaaGreatDoor.Hd
open Go.RowKit Vm
def RBk (b:Nat) (x0 x1 x2 x3 x4 x5 x6 x7 x8 x9 x10:Value) (w:World):Prop:=w.heap[b]?=some (.cells #[x0,x1,x2,x3,x4,x5,x6,x7,x8,x9,x10] 104 (0,0))
theorem RBk.made(w:World)(x0 x1 x2 x3 x4 x5 x6 x7 x8 x9 x10:Value):RBk w.heap.size x0 x1 x2 x3 x4 x5 x6 x7 x8 x9 x10 (w.alloc (.cells #[x0,x1,x2,x3,x4,x5,x6,x7,x8,x9,x10] 104)):=by
 unfold RBk World.alloc;simp
theorem RBk.made2(w:World)(o:Obj)(x0 x1 x2 x3 x4 x5 x6 x7 x8 x9 x10:Value):RBk (w.heap.size+1) x0 x1 x2 x3 x4 x5 x6 x7 x8 x9 x10 ((w.alloc o).alloc (.cells #[x0,x1,x2,x3,x4,x5,x6,x7,x8,x9,x10] 104)):=by
 have h:=RBk.made (w.alloc o) x0 x1 x2 x3 x4 x5 x6 x7 x8 x9 x10;have e:(w.alloc o).heap.size=w.heap.size+1:=by simp
 rw[e]at h;exact h
theorem RBk.up{b:Nat}{x0 x1 x2 x3 x4 x5 x6 x7 x8 x9 x10:Value}{w w':World}(h:RBk b x0 x1 x2 x3 x4 x5 x6 x7 x8 x9 x10 w){n:Nat}(hb:Below n w w')(hn:b<n):RBk b x0 x1 x2 x3 x4 x5 x6 x7 x8 x9 x10 w':=by
 unfold RBk at *;rw[hb.block b hn];exact h
theorem RBk.lt{b:Nat}{x0 x1 x2 x3 x4 x5 x6 x7 x8 x9 x10:Value}{w:World}(h:RBk b x0 x1 x2 x3 x4 x5 x6 x7 x8 x9 x10 w):b<w.heap.size:=by
 rcases Nat.lt_or_ge b w.heap.size with h1|h1
 ·exact h1
 ·unfold RBk at h;rw[Array.getElem?_eq_none h1]at h;cases h
theorem RBk.keep{b:Nat}{x0 x1 x2 x3 x4 x5 x6 x7 x8 x9 x10:Value}{w w':World}(h:RBk b x0 x1 x2 x3 x4 x5 x6 x7 x8 x9 x10 w)(hb:Below w.heap.size w w'):RBk b x0 x1 x2 x3 x4 x5 x6 x7 x8 x9 x10 w':=h.up hb h.lt
theorem RBk.cell{b:Nat}{x0 x1 x2 x3 x4 x5 x6 x7 x8 x9 x10:Value}{w:World}(h:RBk b x0 x1 x2 x3 x4 x5 x6 x7 x8 x9 x10 w)(j:Nat):w.cell? ⟨b,j,none⟩=(#[x0,x1,x2,x3,x4,x5,x6,x7,x8,x9,x10]:Array Value)[j]?:=Lib.cell_of_heap h j
theorem RBk.fz{b:Nat}{x0 x1 x2 x3 x4 x5 x6 x7 x8 x9 x10:Value}{w:World}(h:RBk b x0 x1 x2 x3 x4 x5 x6 x7 x8 x9 x10 w)(j:Nat):w.frozen? ⟨b,j,none⟩=false:=Lib.frozen_of_heap h j
theorem RBk.set0{b:Nat}{x0 x1 x2 x3 x4 x5 x6 x7 x8 x9 x10:Value}{w:World}(h:RBk b x0 x1 x2 x3 x4 x5 x6 x7 x8 x9 x10 w)(v:Value):RBk b v x1 x2 x3 x4 x5 x6 x7 x8 x9 x10 (w.setCell ⟨b,0,none⟩ v):=Joins.block_setCell (i:=0) h _
theorem RBk.set1{b:Nat}{x0 x1 x2 x3 x4 x5 x6 x7 x8 x9 x10:Value}{w:World}(h:RBk b x0 x1 x2 x3 x4 x5 x6 x7 x8 x9 x10 w)(v:Value):RBk b x0 v x2 x3 x4 x5 x6 x7 x8 x9 x10 (w.setCell ⟨b,1,none⟩ v):=Joins.block_setCell (i:=1) h _
theorem RBk.set2{b:Nat}{x0 x1 x2 x3 x4 x5 x6 x7 x8 x9 x10:Value}{w:World}(h:RBk b x0 x1 x2 x3 x4 x5 x6 x7 x8 x9 x10 w)(v:Value):RBk b x0 x1 v x3 x4 x5 x6 x7 x8 x9 x10 (w.setCell ⟨b,2,none⟩ v):=Joins.block_setCell (i:=2) h _
theorem RBk.set3{b:Nat}{x0 x1 x2 x3 x4 x5 x6 x7 x8 x9 x10:Value}{w:World}(h:RBk b x0 x1 x2 x3 x4 x5 x6 x7 x8 x9 x10 w)(v:Value):RBk b x0 x1 x2 v x4 x5 x6 x7 x8 x9 x10 (w.setCell ⟨b,3,none⟩ v):=Joins.block_setCell (i:=3) h _
theorem RBk.set4{b:Nat}{x0 x1 x2 x3 x4 x5 x6 x7 x8 x9 x10:Value}{w:World}(h:RBk b x0 x1 x2 x3 x4 x5 x6 x7 x8 x9 x10 w)(v:Value):RBk b x0 x1 x2 x3 v x5 x6 x7 x8 x9 x10 (w.setCell ⟨b,4,none⟩ v):=Joins.block_setCell (i:=4) h _
theorem RBk.set5{b:Nat}{x0 x1 x2 x3 x4 x5 x6 x7 x8 x9 x10:Value}{w:World}(h:RBk b x0 x1 x2 x3 x4 x5 x6 x7 x8 x9 x10 w)(v:Value):RBk b x0 x1 x2 x3 x4 v x6 x7 x8 x9 x10 (w.setCell ⟨b,5,none⟩ v):=Joins.block_setCell (i:=5) h _
theorem RBk.set6{b:Nat}{x0 x1 x2 x3 x4 x5 x6 x7 x8 x9 x10:Value}{w:World}(h:RBk b x0 x1 x2 x3 x4 x5 x6 x7 x8 x9 x10 w)(v:Value):RBk b x0 x1 x2 x3 x4 x5 v x7 x8 x9 x10 (w.setCell ⟨b,6,none⟩ v):=Joins.block_setCell (i:=6) h _
theorem RBk.set7{b:Nat}{x0 x1 x2 x3 x4 x5 x6 x7 x8 x9 x10:Value}{w:World}(h:RBk b x0 x1 x2 x3 x4 x5 x6 x7 x8 x9 x10 w)(v:Value):RBk b x0 x1 x2 x3 x4 x5 x6 v x8 x9 x10 (w.setCell ⟨b,7,none⟩ v):=Joins.block_setCell (i:=7) h _
theorem RBk.set8{b:Nat}{x0 x1 x2 x3 x4 x5 x6 x7 x8 x9 x10:Value}{w:World}(h:RBk b x0 x1 x2 x3 x4 x5 x6 x7 x8 x9 x10 w)(v:Value):RBk b x0 x1 x2 x3 x4 x5 x6 x7 v x9 x10 (w.setCell ⟨b,8,none⟩ v):=Joins.block_setCell (i:=8) h _
theorem RBk.set9{b:Nat}{x0 x1 x2 x3 x4 x5 x6 x7 x8 x9 x10:Value}{w:World}(h:RBk b x0 x1 x2 x3 x4 x5 x6 x7 x8 x9 x10 w)(v:Value):RBk b x0 x1 x2 x3 x4 x5 x6 x7 x8 v x10 (w.setCell ⟨b,9,none⟩ v):=Joins.block_setCell (i:=9) h _
theorem RBk.set10{b:Nat}{x0 x1 x2 x3 x4 x5 x6 x7 x8 x9 x10:Value}{w:World}(h:RBk b x0 x1 x2 x3 x4 x5 x6 x7 x8 x9 x10 w)(v:Value):RBk b x0 x1 x2 x3 x4 x5 x6 x7 x8 x9 v (w.setCell ⟨b,10,none⟩ v):=Joins.block_setCell (i:=10) h _
theorem ahead_nil(s:ByteArray)(hs:s.size=0)(w:World) :
 Calls Tryz.prog 103 #[.string s] w fun e w'=>e=.returned (.tuple #[.agg #[.bool false,.bool false,.bool false,.int .i64 0,.int .u32 0,.string ⟨#[]⟩,.string ⟨#[]⟩,.string ⟨#[]⟩,.int .u64 0,.int .i64 0,.int .u64 0],.string ⟨#[]⟩,.bool false])∧Below w.heap.size w w':=by
 have he:=empty_yes s hs;clear hs;go_enter Tryz.func103,Tryz.ntmps103;go_wp2;refine bodyPost_ret (v:=.tuple #[.agg #[.bool false,.bool false,.bool false,.int .i64 0,.int .u32 0,.string ⟨#[]⟩,.string ⟨#[]⟩,.string ⟨#[]⟩,.int .u64 0,.int .i64 0,.int .u64 0],.string ⟨#[]⟩,.bool false]) (by simp[results,Tryz.results103,go_sem, *]) rfl ⟨rfl,?_⟩
 repeat (first|exact Below.refl _ _|refine Below.setCell ?_ (by simp) _|refine below_drew ?_|refine Below.alloc ?_ (by simp) _)
theorem ahead_bit(s:ByteArray)(b:UInt8)(hp:0<s.size)(hl:s.size≤9223372036854775807)(I0:s[0]'hp=b)(hb0:(0:Int)≤((b.toNat:Nat):Int))(hb:((b.toNat:Nat):Int)≤255)(h64:(((b.toNat:Nat):Int)/64%2==0)=true)(w:World) :
 Calls Tryz.prog 103 #[.string s] w fun e w'=>e=.returned (.tuple #[.agg #[.bool false,.bool false,.bool false,.int .i64 0,.int .u32 0,.string ⟨#[]⟩,.string ⟨#[]⟩,.string ⟨#[]⟩,.int .u64 0,.int .i64 0,.int .u64 0],.string ⟨#[]⟩,.bool false])∧Below w.heap.size w w':=by
 have he:=empty_no s hp;go_enter Tryz.func103,Tryz.ntmps103;go_wp2;refine bodyPost_ret (v:=.tuple #[.agg #[.bool false,.bool false,.bool false,.int .i64 0,.int .u32 0,.string ⟨#[]⟩,.string ⟨#[]⟩,.string ⟨#[]⟩,.int .u64 0,.int .i64 0,.int .u64 0],.string ⟨#[]⟩,.bool false]) (by simp[results,Tryz.results103,go_sem, *]) rfl ⟨rfl,?_⟩
 repeat (first|exact Below.refl _ _|refine Below.setCell ?_ (by simp) _|refine below_drew ?_|refine Below.alloc ?_ (by simp) _)
theorem ahead_few(s:ByteArray)(b:UInt8)(hp:0<s.size)(hl:s.size≤9223372036854775807)(I0:s[0]'hp=b)(hb0:(0:Int)≤((b.toNat:Nat):Int))(hb:((b.toNat:Nat):Int)≤255)(h64:(((b.toNat:Nat):Int)/64%2==0)=false)(h128:decide (128≤((b.toNat:Nat):Int))=false)(hf:((s.size:Nat):Int)<9)(w:World) :
 Calls Tryz.prog 103 #[.string s] w fun e w'=>e=.returned (.tuple #[.agg #[.bool false,.bool false,.bool false,.int .i64 0,.int .u32 0,.string ⟨#[]⟩,.string ⟨#[]⟩,.string ⟨#[]⟩,.int .u64 0,.int .i64 0,.int .u64 0],.string ⟨#[]⟩,.bool false])∧Below w.heap.size w w':=by
 have he:=empty_no s hp;go_enter Tryz.func103,Tryz.ntmps103;go_wp2;refine bodyPost_ret (v:=.tuple #[.agg #[.bool false,.bool false,.bool false,.int .i64 0,.int .u32 0,.string ⟨#[]⟩,.string ⟨#[]⟩,.string ⟨#[]⟩,.int .u64 0,.int .i64 0,.int .u64 0],.string ⟨#[]⟩,.bool false]) (by simp[results,Tryz.results103,go_sem, *]) rfl ⟨rfl,?_⟩
 repeat (first|exact Below.refl _ _|refine Below.setCell ?_ (by simp) _|refine below_drew ?_|refine Below.alloc ?_ (by simp) _)
theorem ahead_short(s:ByteArray)(d r:ByteArray)(b:UInt8)(hp:0<s.size)(hl:s.size≤9223372036854775807)(I0:s[0]'hp=b)(hb0:(0:Int)≤((b.toNat:Nat):Int))(hb:((b.toNat:Nat):Int)≤255)(h64:(((b.toNat:Nat):Int)/64%2==0)=false)(h128:decide (128≤((b.toNat:Nat):Int))=false)(hf:¬((s.size:Nat):Int)<9)(hf9:9≤s.size)(X1:s.extract 1 9=d)(X2:s.extract 9 s.size=r)(w:World) :
 Calls Tryz.prog 103 #[.string s] w fun e w'=>e=.returned (.tuple #[.agg #[.bool false,.bool (((b.toNat:Nat):Int)/32%2==1),.bool false,.int .i64 0,.int .u32 0,.string d,.string ⟨#[]⟩,.string ⟨#[]⟩,.int .u64 0,.int .i64 0,.int .u64 0],.string r,.bool true])∧Below w.heap.size w w':=by
 have he:=empty_no s hp;go_enter Tryz.func103,Tryz.ntmps103;go_wp2_with fail
 go_region
 all_goals go_wp2
 all_goals refine bodyPost_ret (v:=.tuple #[.agg #[.bool false,.bool (((b.toNat:Nat):Int)/32%2==1),.bool false,.int .i64 0,.int .u32 0,.string d,.string ⟨#[]⟩,.string ⟨#[]⟩,.int .u64 0,.int .i64 0,.int .u64 0],.string r,.bool true]) (by simp[results,Tryz.results103,go_sem, *]) rfl ⟨rfl,?_⟩
 all_goals repeat (first|exact Below.refl _ _|refine Below.setCell ?_ (by simp) _|refine below_drew ?_|refine Below.alloc ?_ (by simp) _)
theorem ahead_l4(s:ByteArray)(b:UInt8)(hp:0<s.size)(hl:s.size≤9223372036854775807)(I0:s[0]'hp=b)(hb0:(0:Int)≤((b.toNat:Nat):Int))(hb:((b.toNat:Nat):Int)≤255)(h64:(((b.toNat:Nat):Int)/64%2==0)=false)(h128:decide (128≤((b.toNat:Nat):Int))=true)(hf:((s.size:Nat):Int)<5)(w:World) :
 Calls Tryz.prog 103 #[.string s] w fun e w'=>e=.returned (.tuple #[.agg #[.bool false,.bool false,.bool false,.int .i64 0,.int .u32 0,.string ⟨#[]⟩,.string ⟨#[]⟩,.string ⟨#[]⟩,.int .u64 0,.int .i64 0,.int .u64 0],.string ⟨#[]⟩,.bool false])∧Below w.heap.size w w':=by
 have he:=empty_no s hp;go_enter Tryz.func103,Tryz.ntmps103;go_wp2;refine bodyPost_ret (v:=.tuple #[.agg #[.bool false,.bool false,.bool false,.int .i64 0,.int .u32 0,.string ⟨#[]⟩,.string ⟨#[]⟩,.string ⟨#[]⟩,.int .u64 0,.int .i64 0,.int .u64 0],.string ⟨#[]⟩,.bool false]) (by simp[results,Tryz.results103,go_sem, *]) rfl ⟨rfl,?_⟩
 repeat (first|exact Below.refl _ _|refine Below.setCell ?_ (by simp) _|refine below_drew ?_|refine Below.alloc ?_ (by simp) _)
theorem ahead_t3(s:ByteArray)(b:UInt8)(hp:0<s.size)(hl:s.size≤9223372036854775807)(I0:s[0]'hp=b)(hb0:(0:Int)≤((b.toNat:Nat):Int))(hb:((b.toNat:Nat):Int)≤255)(h64:(((b.toNat:Nat):Int)/64%2==0)=false)(h128:decide (128≤((b.toNat:Nat):Int))=true)(hf:¬((s.size:Nat):Int)<5)(h3:(((b.toNat:Nat):Int)/16%4==3)=true)(w:World) :
 Calls Tryz.prog 103 #[.string s] w fun e w'=>e=.returned (.tuple #[.agg #[.bool false,.bool false,.bool false,.int .i64 0,.int .u32 0,.string ⟨#[]⟩,.string ⟨#[]⟩,.string ⟨#[]⟩,.int .u64 0,.int .i64 0,.int .u64 0],.string ⟨#[]⟩,.bool false])∧Below w.heap.size w w':=by
 have he:=empty_no s hp;go_enter Tryz.func103,Tryz.ntmps103;go_wp2;refine bodyPost_ret (v:=.tuple #[.agg #[.bool false,.bool false,.bool false,.int .i64 0,.int .u32 0,.string ⟨#[]⟩,.string ⟨#[]⟩,.string ⟨#[]⟩,.int .u64 0,.int .i64 0,.int .u64 0],.string ⟨#[]⟩,.bool false]) (by simp[results,Tryz.results103,go_sem, *]) rfl ⟨rfl,?_⟩
 repeat (first|exact Below.refl _ _|refine Below.setCell ?_ (by simp) _|refine below_drew ?_|refine Below.alloc ?_ (by simp) _)
end Go.Proofs.YtagbkmoahflfdaaGreatDoor.Hd
