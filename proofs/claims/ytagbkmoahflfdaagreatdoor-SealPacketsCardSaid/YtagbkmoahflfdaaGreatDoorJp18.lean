import Derived.Test.YtagbkmoahflfdaaGreatDoorJp01
import Derived.Test.YtagbkmoahflfdaaGreatDoorJp17
import Derived.Deep.RegionHeld3
set_option maxHeartbeats 2000000
set_option maxRecDepth 20000
set_option linter.unusedVariables false
set_option linter.unusedSimpArgs false
namespace Go.Proofs.YtagbkmoahflfdaaGreatDoor.Hd
open Tk Go.RowKit Vm
def Box (b:Nat) (x0 x1 x2 x3 x4 x5 x6 x7 x8 x9 x10:Value) (w0 w:World):Prop:=
 w.cell? ⟨b,0,none⟩=some x0∧w.cell? ⟨b,1,none⟩=some x1∧w.cell? ⟨b,2,none⟩=some x2∧w.cell? ⟨b,3,none⟩=some x3∧w.cell? ⟨b,4,none⟩=some x4∧w.cell? ⟨b,5,none⟩=some x5∧w.cell? ⟨b,6,none⟩=some x6∧w.cell? ⟨b,7,none⟩=some x7∧w.cell? ⟨b,8,none⟩=some x8∧w.cell? ⟨b,9,none⟩=some x9∧w.cell? ⟨b,10,none⟩=some x10∧Below b w0 w∧b<w.heap.size
theorem Box.keep{b:Nat}{x0 x1 x2 x3 x4 x5 x6 x7 x8 x9 x10:Value}{w0 w w1:World}(h:Box b x0 x1 x2 x3 x4 x5 x6 x7 x8 x9 x10 w0 w)(hb:Below w.heap.size w w1):Box b x0 x1 x2 x3 x4 x5 x6 x7 x8 x9 x10 w0 w1:=by
 obtain⟨h0,h1,h2,h3,h4,h5,h6,h7,h8,h9,h10,hB,hs⟩:=h;exact⟨(hb.cell (p:=⟨b,0,none⟩) hs).trans h0,(hb.cell (p:=⟨b,1,none⟩) hs).trans h1,(hb.cell (p:=⟨b,2,none⟩) hs).trans h2,(hb.cell (p:=⟨b,3,none⟩) hs).trans h3,(hb.cell (p:=⟨b,4,none⟩) hs).trans h4,(hb.cell (p:=⟨b,5,none⟩) hs).trans h5,(hb.cell (p:=⟨b,6,none⟩) hs).trans h6,(hb.cell (p:=⟨b,7,none⟩) hs).trans h7,(hb.cell (p:=⟨b,8,none⟩) hs).trans h8,(hb.cell (p:=⟨b,9,none⟩) hs).trans h9,(hb.cell (p:=⟨b,10,none⟩) hs).trans h10,hB.trans (hb.mono (by omega)),by have:=hb.size;omega⟩
theorem Box.drew{b:Nat}{x0 x1 x2 x3 x4 x5 x6 x7 x8 x9 x10:Value}{w0 w:World}(h:Box b x0 x1 x2 x3 x4 x5 x6 x7 x8 x9 x10 w0 w):Box b x0 x1 x2 x3 x4 x5 x6 x7 x8 x9 x10 w0 w.drew:=h.keep ((Below.refl _ _).trans ⟨rfl,rfl,rfl,Nat.le_refl _,fun _ _=>rfl⟩)
theorem Box.made(w:World)(x0 x1 x2 x3 x4 x5 x6 x7 x8 x9 x10:Value)(t:TypeId):Box w.heap.size x0 x1 x2 x3 x4 x5 x6 x7 x8 x9 x10 w (w.alloc (.cells #[x0,x1,x2,x3,x4,x5,x6,x7,x8,x9,x10] t)):=
 ⟨by simp[go_sem],by simp[go_sem],by simp[go_sem],by simp[go_sem],by simp[go_sem],by simp[go_sem],by simp[go_sem],by simp[go_sem],by simp[go_sem],by simp[go_sem],by simp[go_sem],(Below.refl _ _).alloc zle _,by simp⟩
theorem Box.bel{b:Nat}{x0 x1 x2 x3 x4 x5 x6 x7 x8 x9 x10:Value}{w0 w:World}(h:Box b x0 x1 x2 x3 x4 x5 x6 x7 x8 x9 x10 w0 w):Below b w0 w:=h.2.2.2.2.2.2.2.2.2.2.2.1
theorem may_s10(sp:Bool)(ph:Bool)(dc:List UInt8)(wi:Int)(nu:Int)(w:World)(wdc:dc.length≤9223372036854775807)(wwi:-9223372036854775808≤wi)(wwi2:wi≤9223372036854775807)(wnu:0≤nu)(wnu2:nu≤18446744073709551615) (hbd:bndB false (0) dc ([]) ([]) (0)=false) :
 Calls Tryz.prog 85 #[.agg #[.bool false,.bool sp,.bool ph,.int .i64 0,.int .u32 0,.string ⟨dc.toArray⟩,.string ⟨#[]⟩,.string ⟨#[]⟩,.int .u64 0,.int .i64 wi,.int .u64 nu]] w fun e w'=>e=.returned (.bool (false))∧Below w.heap.size w w':=by
 have HB:=zh (Box.made w (.bool false) (.bool sp) (.bool ph) (.int .i64 0) (.int .u32 0) (.string ⟨dc.toArray⟩) (.string ⟨#[]⟩) (.string ⟨#[]⟩) (.int .u64 0) (.int .i64 wi) (.int .u64 nu) 101);go_enter Tryz.func85,Tryz.ntmps85;go_wp2_with fail
 refine wp_region_noPanic ?_;refine wp_region_held_drew (S:=fun w'=>Box w.heap.size (.bool false) (.bool sp) (.bool ph) (.int .i64 0) (.int .u32 0) (.string ⟨dc.toArray⟩) (.string ⟨#[]⟩) (.string ⟨#[]⟩) (.int .u64 0) (.int .i64 wi) (.int .u64 nu) w w') (by kernel_rfl) ?_ (fun hHeld=>?_)
 ·exact HB.out.drew
 iterate 2
  refine zqb [0,1] rfl rfl ?_ ?_ ?_;rotate_left
  ·(intro w hSw;(try (obtain⟨hS0,hS1,hS2,hS3,hS4,hS5,hS6,hS7,hS8,hS9,hS10,hSb,hSs⟩:=hSw));go_simp;(try with_reducible rfl))
  try simp only[Act.put,J1,J2,J3,J4,J5,J6]
 refine zqf [2] (AllReadyH.cons rfl (fun K hK=>?_) AllReadyH.nil);rw[if_pos (by rfl)];go_simp;refine (kept_s (sp) (ph) (0) (0) (dc) ([]) ([]) (0) (wi) (nu) _ (by simp) (by simp) (by simp) (by simp) wdc (by simp) (by simp) (by simp) (by simp) wwi wwi2 wnu wnu2).mono ?_;rintro e A2 ⟨rfl,hb⟩;refine hK.out _ _ ?_ (fun hHeld=>?_)
 ·exact hHeld.keep hb
 clear hK K hb
 try simp only[Act.put,J1,J2,J3,J4,J5,J6]
 refine zqa 3 rfl (.bool true) ?_ ?_
 ·(intro w hSw;(try (obtain⟨hS0,hS1,hS2,hS3,hS4,hS5,hS6,hS7,hS8,hS9,hS10,hSb,hSs⟩:=hSw));go_simp;(try with_reducible rfl))
 try simp only[Act.put,J1,J2,J3,J4,J5,J6]
 iterate 2
  refine zqb [4,5] rfl rfl ?_ ?_ ?_;rotate_left
  ·(intro w hSw;(try (obtain⟨hS0,hS1,hS2,hS3,hS4,hS5,hS6,hS7,hS8,hS9,hS10,hSb,hSs⟩:=hSw));go_simp;(try with_reducible rfl))
  try simp only[Act.put,J1,J2,J3,J4,J5,J6]
 refine zqf [6] (AllReadyH.cons rfl (fun K hK=>?_) AllReadyH.nil);rw[if_pos (by rfl)];go_simp;refine (bounded_any (false) (sp) (ph) (0) (0) (dc) ([]) ([]) (0) (wi) (nu) _ (by simp) (by simp) (by simp) (by simp) wdc (by simp) (by simp) (by simp) (by simp) wwi wwi2 wnu wnu2).mono ?_;rintro e A6 ⟨rfl,hb⟩;rw[hbd];refine hK.out _ _ ?_ (fun hHeld=>?_)
 ·exact hHeld.keep hb
 clear hK K hb
 try simp only[Act.put,J1,J2,J3,J4,J5,J6]
 iterate 2
  refine zqb [7,8] rfl rfl ?_ ?_ ?_;rotate_left
  ·(intro w hSw;(try (obtain⟨hS0,hS1,hS2,hS3,hS4,hS5,hS6,hS7,hS8,hS9,hS10,hSb,hSs⟩:=hSw));go_simp;(try with_reducible rfl))
  try simp only[Act.put,J1,J2,J3,J4,J5,J6]
 refine zqc 9 rfl ?_
 try simp only[Act.put,J1,J2,J3,J4,J5,J6]
 refine zqc 10 rfl ?_
 try simp only[Act.put,J1,J2,J3,J4,J5,J6]
 iterate 2
  refine zqb [11,12] rfl rfl ?_ ?_ ?_;rotate_left
  ·(intro w hSw;(try (obtain⟨hS0,hS1,hS2,hS3,hS4,hS5,hS6,hS7,hS8,hS9,hS10,hSb,hSs⟩:=hSw));go_simp;(try with_reducible rfl))
  try simp only[Act.put,J1,J2,J3,J4,J5,J6]
 refine zqe (NoPanic.normal ?_);go_wp2
 go_ret
 exact⟨rfl,hHeld.bel⟩
theorem may_s11(sp:Bool)(ph:Bool)(dc:List UInt8)(wi:Int)(nu:Int)(w:World)(wdc:dc.length≤9223372036854775807)(wwi:-9223372036854775808≤wi)(wwi2:wi≤9223372036854775807)(wnu:0≤nu)(wnu2:nu≤18446744073709551615) (hbd:bndB false (0) dc ([]) ([]) (0)=true) :
 Calls Tryz.prog 85 #[.agg #[.bool false,.bool sp,.bool ph,.int .i64 0,.int .u32 0,.string ⟨dc.toArray⟩,.string ⟨#[]⟩,.string ⟨#[]⟩,.int .u64 0,.int .i64 wi,.int .u64 nu]] w fun e w'=>e=.returned (.bool (numB wi nu))∧Below w.heap.size w w':=by
 have HB:=zh (Box.made w (.bool false) (.bool sp) (.bool ph) (.int .i64 0) (.int .u32 0) (.string ⟨dc.toArray⟩) (.string ⟨#[]⟩) (.string ⟨#[]⟩) (.int .u64 0) (.int .i64 wi) (.int .u64 nu) 101);go_enter Tryz.func85,Tryz.ntmps85;go_wp2_with fail
 refine wp_region_noPanic ?_;refine wp_region_held_drew (S:=fun w'=>Box w.heap.size (.bool false) (.bool sp) (.bool ph) (.int .i64 0) (.int .u32 0) (.string ⟨dc.toArray⟩) (.string ⟨#[]⟩) (.string ⟨#[]⟩) (.int .u64 0) (.int .i64 wi) (.int .u64 nu) w w') (by kernel_rfl) ?_ (fun hHeld=>?_)
 ·exact HB.out.drew
 iterate 2
  refine zqb [0,1] rfl rfl ?_ ?_ ?_;rotate_left
  ·(intro w hSw;(try (obtain⟨hS0,hS1,hS2,hS3,hS4,hS5,hS6,hS7,hS8,hS9,hS10,hSb,hSs⟩:=hSw));go_simp;(try with_reducible rfl))
  try simp only[Act.put,J1,J2,J3,J4,J5,J6]
 refine zqf [2] (AllReadyH.cons rfl (fun K hK=>?_) AllReadyH.nil);rw[if_pos (by rfl)];go_simp;refine (kept_s (sp) (ph) (0) (0) (dc) ([]) ([]) (0) (wi) (nu) _ (by simp) (by simp) (by simp) (by simp) wdc (by simp) (by simp) (by simp) (by simp) wwi wwi2 wnu wnu2).mono ?_;rintro e A2 ⟨rfl,hb⟩;refine hK.out _ _ ?_ (fun hHeld=>?_)
 ·exact hHeld.keep hb
 clear hK K hb
 try simp only[Act.put,J1,J2,J3,J4,J5,J6]
 refine zqa 3 rfl (.bool true) ?_ ?_
 ·(intro w hSw;(try (obtain⟨hS0,hS1,hS2,hS3,hS4,hS5,hS6,hS7,hS8,hS9,hS10,hSb,hSs⟩:=hSw));go_simp;(try with_reducible rfl))
 try simp only[Act.put,J1,J2,J3,J4,J5,J6]
 iterate 2
  refine zqb [4,5] rfl rfl ?_ ?_ ?_;rotate_left
  ·(intro w hSw;(try (obtain⟨hS0,hS1,hS2,hS3,hS4,hS5,hS6,hS7,hS8,hS9,hS10,hSb,hSs⟩:=hSw));go_simp;(try with_reducible rfl))
  try simp only[Act.put,J1,J2,J3,J4,J5,J6]
 refine zqf [6] (AllReadyH.cons rfl (fun K hK=>?_) AllReadyH.nil);rw[if_pos (by rfl)];go_simp;refine (bounded_any (false) (sp) (ph) (0) (0) (dc) ([]) ([]) (0) (wi) (nu) _ (by simp) (by simp) (by simp) (by simp) wdc (by simp) (by simp) (by simp) (by simp) wwi wwi2 wnu wnu2).mono ?_;rintro e A6 ⟨rfl,hb⟩;rw[hbd];refine hK.out _ _ ?_ (fun hHeld=>?_)
 ·exact hHeld.keep hb
 clear hK K hb
 try simp only[Act.put,J1,J2,J3,J4,J5,J6]
 iterate 3
  refine zqb [7,8,9] rfl rfl ?_ ?_ ?_;rotate_left
  ·(intro w hSw;(try (obtain⟨hS0,hS1,hS2,hS3,hS4,hS5,hS6,hS7,hS8,hS9,hS10,hSb,hSs⟩:=hSw));go_simp;(try with_reducible rfl))
  try simp only[Act.put,J1,J2,J3,J4,J5,J6]
 refine zqf [10] (AllReadyH.cons rfl (fun K hK=>?_) AllReadyH.nil);rw[if_pos (by rfl)];go_simp;refine (numbered_any (false) (sp) (ph) (0) (0) (dc) ([]) ([]) (0) (wi) (nu) _ (by simp) (by simp) (by simp) (by simp) wdc (by simp) (by simp) (by simp) (by simp) wwi wwi2 wnu wnu2).mono ?_;rintro e A10 ⟨rfl,hb⟩;refine hK.out _ _ ?_ (fun hHeld=>?_)
 ·exact hHeld.keep hb
 clear hK K hb
 try simp only[Act.put,J1,J2,J3,J4,J5,J6]
 iterate 2
  refine zqb [11,12] rfl rfl ?_ ?_ ?_;rotate_left
  ·(intro w hSw;(try (obtain⟨hS0,hS1,hS2,hS3,hS4,hS5,hS6,hS7,hS8,hS9,hS10,hSb,hSs⟩:=hSw));go_simp;(try with_reducible rfl))
  try simp only[Act.put,J1,J2,J3,J4,J5,J6]
 refine zqe (NoPanic.normal ?_);go_wp2
 go_ret
 exact⟨rfl,hHeld.bel⟩
theorem may_s2(sp:Bool)(ph:Bool)(ty:Int)(ve:Int)(dc:List UInt8)(sc:List UInt8)(tk:List UInt8)(le:Int)(wi:Int)(nu:Int)(w:World)(wty:-9223372036854775808≤ty)(wty2:ty≤9223372036854775807)(wve:0≤ve)(wve2:ve≤4294967295)(wdc:dc.length≤9223372036854775807)(wsc:sc.length≤9223372036854775807)(wtk:tk.length≤9223372036854775807)(wle:0≤le)(wle2:le≤18446744073709551615)(wwi:-9223372036854775808≤wi)(wwi2:wi≤9223372036854775807)(wnu:0≤nu)(wnu2:nu≤18446744073709551615)(hne:Hid (¬(ty=0∧ve=0∧sc=[]∧tk=[]∧le=0)))  :
 Calls Tryz.prog 85 #[.agg #[.bool false,.bool sp,.bool ph,.int .i64 ty,.int .u32 ve,.string ⟨dc.toArray⟩,.string ⟨sc.toArray⟩,.string ⟨tk.toArray⟩,.int .u64 le,.int .i64 wi,.int .u64 nu]] w fun e w'=>e=.returned (.bool (false))∧Below w.heap.size w w':=by
 have HB:=zh (Box.made w (.bool false) (.bool sp) (.bool ph) (.int .i64 ty) (.int .u32 ve) (.string ⟨dc.toArray⟩) (.string ⟨sc.toArray⟩) (.string ⟨tk.toArray⟩) (.int .u64 le) (.int .i64 wi) (.int .u64 nu) 101);go_enter Tryz.func85,Tryz.ntmps85;go_wp2_with fail
 refine wp_region_noPanic ?_;refine wp_region_held_drew (S:=fun w'=>Box w.heap.size (.bool false) (.bool sp) (.bool ph) (.int .i64 ty) (.int .u32 ve) (.string ⟨dc.toArray⟩) (.string ⟨sc.toArray⟩) (.string ⟨tk.toArray⟩) (.int .u64 le) (.int .i64 wi) (.int .u64 nu) w w') (by kernel_rfl) ?_ (fun hHeld=>?_)
 ·exact HB.out.drew
 iterate 2
  refine zqb [0,1] rfl rfl ?_ ?_ ?_;rotate_left
  ·(intro w hSw;(try (obtain⟨hS0,hS1,hS2,hS3,hS4,hS5,hS6,hS7,hS8,hS9,hS10,hSb,hSs⟩:=hSw));go_simp;(try with_reducible rfl))
  try simp only[Act.put,J1,J2,J3,J4,J5,J6]
 refine zqf [2] (AllReadyH.cons rfl (fun K hK=>?_) AllReadyH.nil);rw[if_pos (by rfl)];go_simp;refine (kept_s (sp) (ph) (ty) (ve) (dc) (sc) (tk) (le) (wi) (nu) _ wty wty2 wve wve2 wdc wsc wtk wle wle2 wwi wwi2 wnu wnu2).mono ?_;rintro e A2 ⟨rfl,hb⟩;refine hK.out _ _ ?_ (fun hHeld=>?_)
 ·exact hHeld.keep hb
 clear hK K hb
 try simp only[Act.put,J1,J2,J3,J4,J5,J6]
 refine zqa 3 rfl (.bool false) ?_ ?_
 ·(intro w hSw;(try (obtain⟨hS0,hS1,hS2,hS3,hS4,hS5,hS6,hS7,hS8,hS9,hS10,hSb,hSs⟩:=hSw));go_simp;(intro e1 e2 e3 e4 e5;exact hne.out ⟨e1,e2,e3,e4,e5⟩))
 try simp only[Act.put,J1,J2,J3,J4,J5,J6]
 refine zqa 4 rfl ?_ ?_ ?_;rotate_left
 ·(intro w hSw;(try (obtain⟨hS0,hS1,hS2,hS3,hS4,hS5,hS6,hS7,hS8,hS9,hS10,hSb,hSs⟩:=hSw));go_simp;(try with_reducible rfl))
 try simp only[Act.put,J1,J2,J3,J4,J5,J6]
 refine zqc 5 rfl ?_
 try simp only[Act.put,J1,J2,J3,J4,J5,J6]
 refine zqc 6 rfl ?_
 try simp only[Act.put,J1,J2,J3,J4,J5,J6]
 iterate 2
  refine zqb [7,8] rfl rfl ?_ ?_ ?_;rotate_left
  ·(intro w hSw;(try (obtain⟨hS0,hS1,hS2,hS3,hS4,hS5,hS6,hS7,hS8,hS9,hS10,hSb,hSs⟩:=hSw));go_simp;(try with_reducible rfl))
  try simp only[Act.put,J1,J2,J3,J4,J5,J6]
 refine zqc 9 rfl ?_
 try simp only[Act.put,J1,J2,J3,J4,J5,J6]
 refine zqc 10 rfl ?_
 try simp only[Act.put,J1,J2,J3,J4,J5,J6]
 iterate 2
  refine zqb [11,12] rfl rfl ?_ ?_ ?_;rotate_left
  ·(intro w hSw;(try (obtain⟨hS0,hS1,hS2,hS3,hS4,hS5,hS6,hS7,hS8,hS9,hS10,hSb,hSs⟩:=hSw));go_simp;(try with_reducible rfl))
  try simp only[Act.put,J1,J2,J3,J4,J5,J6]
 refine zqe (NoPanic.normal ?_);go_wp2
 go_ret
 exact⟨rfl,hHeld.bel⟩
theorem may_l10(ve:Int)(dc:List UInt8)(sc:List UInt8)(tk:List UInt8)(le:Int)(wi:Int)(nu:Int)(w:World)(wve:0≤ve)(wve2:ve≤4294967295)(wdc:dc.length≤9223372036854775807)(wsc:sc.length≤9223372036854775807)(wtk:tk.length≤9223372036854775807)(wle:0≤le)(wle2:le≤18446744073709551615)(wwi:-9223372036854775808≤wi)(wwi2:wi≤9223372036854775807)(wnu:0≤nu)(wnu2:nu≤18446744073709551615) (hbd:bndB true (0) dc (sc) (tk) (le)=false) :
 Calls Tryz.prog 85 #[.agg #[.bool true,.bool false,.bool false,.int .i64 0,.int .u32 ve,.string ⟨dc.toArray⟩,.string ⟨sc.toArray⟩,.string ⟨tk.toArray⟩,.int .u64 le,.int .i64 wi,.int .u64 nu]] w fun e w'=>e=.returned (.bool (false))∧Below w.heap.size w w':=by
 have HB:=zh (Box.made w (.bool true) (.bool false) (.bool false) (.int .i64 0) (.int .u32 ve) (.string ⟨dc.toArray⟩) (.string ⟨sc.toArray⟩) (.string ⟨tk.toArray⟩) (.int .u64 le) (.int .i64 wi) (.int .u64 nu) 101);go_enter Tryz.func85,Tryz.ntmps85;go_wp2_with fail
 refine wp_region_noPanic ?_;refine wp_region_held_drew (S:=fun w'=>Box w.heap.size (.bool true) (.bool false) (.bool false) (.int .i64 0) (.int .u32 ve) (.string ⟨dc.toArray⟩) (.string ⟨sc.toArray⟩) (.string ⟨tk.toArray⟩) (.int .u64 le) (.int .i64 wi) (.int .u64 nu) w w') (by kernel_rfl) ?_ (fun hHeld=>?_)
 ·exact HB.out.drew
 iterate 2
  refine zqb [0,1] rfl rfl ?_ ?_ ?_;rotate_left
  ·(intro w hSw;(try (obtain⟨hS0,hS1,hS2,hS3,hS4,hS5,hS6,hS7,hS8,hS9,hS10,hSb,hSs⟩:=hSw));go_simp;(try with_reducible rfl))
  try simp only[Act.put,J1,J2,J3,J4,J5,J6]
 refine zqf [2] (AllReadyH.cons rfl (fun K hK=>?_) AllReadyH.nil);rw[if_pos (by rfl)];go_simp;refine (kept_l0 (false) (false) (ve) (dc) (sc) (tk) (le) (wi) (nu) _ wve wve2 wdc wsc wtk wle wle2 wwi wwi2 wnu wnu2).mono ?_;rintro e A2 ⟨rfl,hb⟩;refine hK.out _ _ ?_ (fun hHeld=>?_)
 ·exact hHeld.keep hb
 clear hK K hb
 try simp only[Act.put,J1,J2,J3,J4,J5,J6]
 refine zqa 3 rfl (.bool true) ?_ ?_
 ·(intro w hSw;(try (obtain⟨hS0,hS1,hS2,hS3,hS4,hS5,hS6,hS7,hS8,hS9,hS10,hSb,hSs⟩:=hSw));go_simp;(try with_reducible rfl))
 try simp only[Act.put,J1,J2,J3,J4,J5,J6]
 iterate 2
  refine zqb [4,5] rfl rfl ?_ ?_ ?_;rotate_left
  ·(intro w hSw;(try (obtain⟨hS0,hS1,hS2,hS3,hS4,hS5,hS6,hS7,hS8,hS9,hS10,hSb,hSs⟩:=hSw));go_simp;(try with_reducible rfl))
  try simp only[Act.put,J1,J2,J3,J4,J5,J6]
 refine zqf [6] (AllReadyH.cons rfl (fun K hK=>?_) AllReadyH.nil);rw[if_pos (by rfl)];go_simp;refine (bounded_any (true) (false) (false) (0) (ve) (dc) (sc) (tk) (le) (wi) (nu) _ (by simp) (by simp) wve wve2 wdc wsc wtk wle wle2 wwi wwi2 wnu wnu2).mono ?_;rintro e A6 ⟨rfl,hb⟩;rw[hbd];refine hK.out _ _ ?_ (fun hHeld=>?_)
 ·exact hHeld.keep hb
 clear hK K hb
 try simp only[Act.put,J1,J2,J3,J4,J5,J6]
 iterate 2
  refine zqb [7,8] rfl rfl ?_ ?_ ?_;rotate_left
  ·(intro w hSw;(try (obtain⟨hS0,hS1,hS2,hS3,hS4,hS5,hS6,hS7,hS8,hS9,hS10,hSb,hSs⟩:=hSw));go_simp;(try with_reducible rfl))
  try simp only[Act.put,J1,J2,J3,J4,J5,J6]
 refine zqc 9 rfl ?_
 try simp only[Act.put,J1,J2,J3,J4,J5,J6]
 refine zqc 10 rfl ?_
 try simp only[Act.put,J1,J2,J3,J4,J5,J6]
 iterate 2
  refine zqb [11,12] rfl rfl ?_ ?_ ?_;rotate_left
  ·(intro w hSw;(try (obtain⟨hS0,hS1,hS2,hS3,hS4,hS5,hS6,hS7,hS8,hS9,hS10,hSb,hSs⟩:=hSw));go_simp;(try with_reducible rfl))
  try simp only[Act.put,J1,J2,J3,J4,J5,J6]
 refine zqe (NoPanic.normal ?_);go_wp2
 go_ret
 exact⟨rfl,hHeld.bel⟩
theorem may_l11(ve:Int)(dc:List UInt8)(sc:List UInt8)(tk:List UInt8)(le:Int)(wi:Int)(nu:Int)(w:World)(wve:0≤ve)(wve2:ve≤4294967295)(wdc:dc.length≤9223372036854775807)(wsc:sc.length≤9223372036854775807)(wtk:tk.length≤9223372036854775807)(wle:0≤le)(wle2:le≤18446744073709551615)(wwi:-9223372036854775808≤wi)(wwi2:wi≤9223372036854775807)(wnu:0≤nu)(wnu2:nu≤18446744073709551615) (hbd:bndB true (0) dc (sc) (tk) (le)=true) :
 Calls Tryz.prog 85 #[.agg #[.bool true,.bool false,.bool false,.int .i64 0,.int .u32 ve,.string ⟨dc.toArray⟩,.string ⟨sc.toArray⟩,.string ⟨tk.toArray⟩,.int .u64 le,.int .i64 wi,.int .u64 nu]] w fun e w'=>e=.returned (.bool (numB wi nu))∧Below w.heap.size w w':=by
 have HB:=zh (Box.made w (.bool true) (.bool false) (.bool false) (.int .i64 0) (.int .u32 ve) (.string ⟨dc.toArray⟩) (.string ⟨sc.toArray⟩) (.string ⟨tk.toArray⟩) (.int .u64 le) (.int .i64 wi) (.int .u64 nu) 101);go_enter Tryz.func85,Tryz.ntmps85;go_wp2_with fail
 refine wp_region_noPanic ?_;refine wp_region_held_drew (S:=fun w'=>Box w.heap.size (.bool true) (.bool false) (.bool false) (.int .i64 0) (.int .u32 ve) (.string ⟨dc.toArray⟩) (.string ⟨sc.toArray⟩) (.string ⟨tk.toArray⟩) (.int .u64 le) (.int .i64 wi) (.int .u64 nu) w w') (by kernel_rfl) ?_ (fun hHeld=>?_)
 ·exact HB.out.drew
 iterate 2
  refine zqb [0,1] rfl rfl ?_ ?_ ?_;rotate_left
  ·(intro w hSw;(try (obtain⟨hS0,hS1,hS2,hS3,hS4,hS5,hS6,hS7,hS8,hS9,hS10,hSb,hSs⟩:=hSw));go_simp;(try with_reducible rfl))
  try simp only[Act.put,J1,J2,J3,J4,J5,J6]
 refine zqf [2] (AllReadyH.cons rfl (fun K hK=>?_) AllReadyH.nil);rw[if_pos (by rfl)];go_simp;refine (kept_l0 (false) (false) (ve) (dc) (sc) (tk) (le) (wi) (nu) _ wve wve2 wdc wsc wtk wle wle2 wwi wwi2 wnu wnu2).mono ?_;rintro e A2 ⟨rfl,hb⟩;refine hK.out _ _ ?_ (fun hHeld=>?_)
 ·exact hHeld.keep hb
 clear hK K hb
 try simp only[Act.put,J1,J2,J3,J4,J5,J6]
 refine zqa 3 rfl (.bool true) ?_ ?_
 ·(intro w hSw;(try (obtain⟨hS0,hS1,hS2,hS3,hS4,hS5,hS6,hS7,hS8,hS9,hS10,hSb,hSs⟩:=hSw));go_simp;(try with_reducible rfl))
 try simp only[Act.put,J1,J2,J3,J4,J5,J6]
 iterate 2
  refine zqb [4,5] rfl rfl ?_ ?_ ?_;rotate_left
  ·(intro w hSw;(try (obtain⟨hS0,hS1,hS2,hS3,hS4,hS5,hS6,hS7,hS8,hS9,hS10,hSb,hSs⟩:=hSw));go_simp;(try with_reducible rfl))
  try simp only[Act.put,J1,J2,J3,J4,J5,J6]
 refine zqf [6] (AllReadyH.cons rfl (fun K hK=>?_) AllReadyH.nil);rw[if_pos (by rfl)];go_simp;refine (bounded_any (true) (false) (false) (0) (ve) (dc) (sc) (tk) (le) (wi) (nu) _ (by simp) (by simp) wve wve2 wdc wsc wtk wle wle2 wwi wwi2 wnu wnu2).mono ?_;rintro e A6 ⟨rfl,hb⟩;rw[hbd];refine hK.out _ _ ?_ (fun hHeld=>?_)
 ·exact hHeld.keep hb
 clear hK K hb
 try simp only[Act.put,J1,J2,J3,J4,J5,J6]
 iterate 3
  refine zqb [7,8,9] rfl rfl ?_ ?_ ?_;rotate_left
  ·(intro w hSw;(try (obtain⟨hS0,hS1,hS2,hS3,hS4,hS5,hS6,hS7,hS8,hS9,hS10,hSb,hSs⟩:=hSw));go_simp;(try with_reducible rfl))
  try simp only[Act.put,J1,J2,J3,J4,J5,J6]
 refine zqf [10] (AllReadyH.cons rfl (fun K hK=>?_) AllReadyH.nil);rw[if_pos (by rfl)];go_simp;refine (numbered_any (true) (false) (false) (0) (ve) (dc) (sc) (tk) (le) (wi) (nu) _ (by simp) (by simp) wve wve2 wdc wsc wtk wle wle2 wwi wwi2 wnu wnu2).mono ?_;rintro e A10 ⟨rfl,hb⟩;refine hK.out _ _ ?_ (fun hHeld=>?_)
 ·exact hHeld.keep hb
 clear hK K hb
 try simp only[Act.put,J1,J2,J3,J4,J5,J6]
 iterate 2
  refine zqb [11,12] rfl rfl ?_ ?_ ?_;rotate_left
  ·(intro w hSw;(try (obtain⟨hS0,hS1,hS2,hS3,hS4,hS5,hS6,hS7,hS8,hS9,hS10,hSb,hSs⟩:=hSw));go_simp;(try with_reducible rfl))
  try simp only[Act.put,J1,J2,J3,J4,J5,J6]
 refine zqe (NoPanic.normal ?_);go_wp2
 go_ret
 exact⟨rfl,hHeld.bel⟩
theorem may_l2(ph:Bool)(ve:Int)(dc:List UInt8)(sc:List UInt8)(tk:List UInt8)(le:Int)(wi:Int)(nu:Int)(w:World)(wve:0≤ve)(wve2:ve≤4294967295)(wdc:dc.length≤9223372036854775807)(wsc:sc.length≤9223372036854775807)(wtk:tk.length≤9223372036854775807)(wle:0≤le)(wle2:le≤18446744073709551615)(wwi:-9223372036854775808≤wi)(wwi2:wi≤9223372036854775807)(wnu:0≤nu)(wnu2:nu≤18446744073709551615)   :
 Calls Tryz.prog 85 #[.agg #[.bool true,.bool true,.bool ph,.int .i64 0,.int .u32 ve,.string ⟨dc.toArray⟩,.string ⟨sc.toArray⟩,.string ⟨tk.toArray⟩,.int .u64 le,.int .i64 wi,.int .u64 nu]] w fun e w'=>e=.returned (.bool (false))∧Below w.heap.size w w':=by
 have HB:=zh (Box.made w (.bool true) (.bool true) (.bool ph) (.int .i64 0) (.int .u32 ve) (.string ⟨dc.toArray⟩) (.string ⟨sc.toArray⟩) (.string ⟨tk.toArray⟩) (.int .u64 le) (.int .i64 wi) (.int .u64 nu) 101);go_enter Tryz.func85,Tryz.ntmps85;go_wp2_with fail
 refine wp_region_noPanic ?_;refine wp_region_held_drew (S:=fun w'=>Box w.heap.size (.bool true) (.bool true) (.bool ph) (.int .i64 0) (.int .u32 ve) (.string ⟨dc.toArray⟩) (.string ⟨sc.toArray⟩) (.string ⟨tk.toArray⟩) (.int .u64 le) (.int .i64 wi) (.int .u64 nu) w w') (by kernel_rfl) ?_ (fun hHeld=>?_)
 ·exact HB.out.drew
 iterate 2
  refine zqb [0,1] rfl rfl ?_ ?_ ?_;rotate_left
  ·(intro w hSw;(try (obtain⟨hS0,hS1,hS2,hS3,hS4,hS5,hS6,hS7,hS8,hS9,hS10,hSb,hSs⟩:=hSw));go_simp;(try with_reducible rfl))
  try simp only[Act.put,J1,J2,J3,J4,J5,J6]
 refine zqf [2] (AllReadyH.cons rfl (fun K hK=>?_) AllReadyH.nil);rw[if_pos (by rfl)];go_simp;refine (kept_l0 (true) (ph) (ve) (dc) (sc) (tk) (le) (wi) (nu) _ wve wve2 wdc wsc wtk wle wle2 wwi wwi2 wnu wnu2).mono ?_;rintro e A2 ⟨rfl,hb⟩;refine hK.out _ _ ?_ (fun hHeld=>?_)
 ·exact hHeld.keep hb
 clear hK K hb
 try simp only[Act.put,J1,J2,J3,J4,J5,J6]
 refine zqa 3 rfl (.bool false) ?_ ?_
 ·(intro w hSw;(try (obtain⟨hS0,hS1,hS2,hS3,hS4,hS5,hS6,hS7,hS8,hS9,hS10,hSb,hSs⟩:=hSw));go_simp;(try with_reducible rfl))
 try simp only[Act.put,J1,J2,J3,J4,J5,J6]
 refine zqa 4 rfl ?_ ?_ ?_;rotate_left
 ·(intro w hSw;(try (obtain⟨hS0,hS1,hS2,hS3,hS4,hS5,hS6,hS7,hS8,hS9,hS10,hSb,hSs⟩:=hSw));go_simp;(try with_reducible rfl))
 try simp only[Act.put,J1,J2,J3,J4,J5,J6]
 refine zqc 5 rfl ?_
 try simp only[Act.put,J1,J2,J3,J4,J5,J6]
 refine zqc 6 rfl ?_
 try simp only[Act.put,J1,J2,J3,J4,J5,J6]
 iterate 2
  refine zqb [7,8] rfl rfl ?_ ?_ ?_;rotate_left
  ·(intro w hSw;(try (obtain⟨hS0,hS1,hS2,hS3,hS4,hS5,hS6,hS7,hS8,hS9,hS10,hSb,hSs⟩:=hSw));go_simp;(try with_reducible rfl))
  try simp only[Act.put,J1,J2,J3,J4,J5,J6]
 refine zqc 9 rfl ?_
 try simp only[Act.put,J1,J2,J3,J4,J5,J6]
 refine zqc 10 rfl ?_
 try simp only[Act.put,J1,J2,J3,J4,J5,J6]
 iterate 2
  refine zqb [11,12] rfl rfl ?_ ?_ ?_;rotate_left
  ·(intro w hSw;(try (obtain⟨hS0,hS1,hS2,hS3,hS4,hS5,hS6,hS7,hS8,hS9,hS10,hSb,hSs⟩:=hSw));go_simp;(try with_reducible rfl))
  try simp only[Act.put,J1,J2,J3,J4,J5,J6]
 refine zqe (NoPanic.normal ?_);go_wp2
 go_ret
 exact⟨rfl,hHeld.bel⟩
theorem may_l3(ve:Int)(dc:List UInt8)(sc:List UInt8)(tk:List UInt8)(le:Int)(wi:Int)(nu:Int)(w:World)(wve:0≤ve)(wve2:ve≤4294967295)(wdc:dc.length≤9223372036854775807)(wsc:sc.length≤9223372036854775807)(wtk:tk.length≤9223372036854775807)(wle:0≤le)(wle2:le≤18446744073709551615)(wwi:-9223372036854775808≤wi)(wwi2:wi≤9223372036854775807)(wnu:0≤nu)(wnu2:nu≤18446744073709551615)   :
 Calls Tryz.prog 85 #[.agg #[.bool true,.bool false,.bool true,.int .i64 0,.int .u32 ve,.string ⟨dc.toArray⟩,.string ⟨sc.toArray⟩,.string ⟨tk.toArray⟩,.int .u64 le,.int .i64 wi,.int .u64 nu]] w fun e w'=>e=.returned (.bool (false))∧Below w.heap.size w w':=by
 have HB:=zh (Box.made w (.bool true) (.bool false) (.bool true) (.int .i64 0) (.int .u32 ve) (.string ⟨dc.toArray⟩) (.string ⟨sc.toArray⟩) (.string ⟨tk.toArray⟩) (.int .u64 le) (.int .i64 wi) (.int .u64 nu) 101);go_enter Tryz.func85,Tryz.ntmps85;go_wp2_with fail
 refine wp_region_noPanic ?_;refine wp_region_held_drew (S:=fun w'=>Box w.heap.size (.bool true) (.bool false) (.bool true) (.int .i64 0) (.int .u32 ve) (.string ⟨dc.toArray⟩) (.string ⟨sc.toArray⟩) (.string ⟨tk.toArray⟩) (.int .u64 le) (.int .i64 wi) (.int .u64 nu) w w') (by kernel_rfl) ?_ (fun hHeld=>?_)
 ·exact HB.out.drew
 iterate 2
  refine zqb [0,1] rfl rfl ?_ ?_ ?_;rotate_left
  ·(intro w hSw;(try (obtain⟨hS0,hS1,hS2,hS3,hS4,hS5,hS6,hS7,hS8,hS9,hS10,hSb,hSs⟩:=hSw));go_simp;(try with_reducible rfl))
  try simp only[Act.put,J1,J2,J3,J4,J5,J6]
 refine zqf [2] (AllReadyH.cons rfl (fun K hK=>?_) AllReadyH.nil);rw[if_pos (by rfl)];go_simp;refine (kept_l0 (false) (true) (ve) (dc) (sc) (tk) (le) (wi) (nu) _ wve wve2 wdc wsc wtk wle wle2 wwi wwi2 wnu wnu2).mono ?_;rintro e A2 ⟨rfl,hb⟩;refine hK.out _ _ ?_ (fun hHeld=>?_)
 ·exact hHeld.keep hb
 clear hK K hb
 try simp only[Act.put,J1,J2,J3,J4,J5,J6]
 refine zqa 3 rfl (.bool false) ?_ ?_
 ·(intro w hSw;(try (obtain⟨hS0,hS1,hS2,hS3,hS4,hS5,hS6,hS7,hS8,hS9,hS10,hSb,hSs⟩:=hSw));go_simp;(try with_reducible rfl))
 try simp only[Act.put,J1,J2,J3,J4,J5,J6]
 refine zqa 4 rfl ?_ ?_ ?_;rotate_left
 ·(intro w hSw;(try (obtain⟨hS0,hS1,hS2,hS3,hS4,hS5,hS6,hS7,hS8,hS9,hS10,hSb,hSs⟩:=hSw));go_simp;(try with_reducible rfl))
 try simp only[Act.put,J1,J2,J3,J4,J5,J6]
 refine zqc 5 rfl ?_
 try simp only[Act.put,J1,J2,J3,J4,J5,J6]
 refine zqc 6 rfl ?_
 try simp only[Act.put,J1,J2,J3,J4,J5,J6]
 iterate 2
  refine zqb [7,8] rfl rfl ?_ ?_ ?_;rotate_left
  ·(intro w hSw;(try (obtain⟨hS0,hS1,hS2,hS3,hS4,hS5,hS6,hS7,hS8,hS9,hS10,hSb,hSs⟩:=hSw));go_simp;(try with_reducible rfl))
  try simp only[Act.put,J1,J2,J3,J4,J5,J6]
 refine zqc 9 rfl ?_
 try simp only[Act.put,J1,J2,J3,J4,J5,J6]
 refine zqc 10 rfl ?_
 try simp only[Act.put,J1,J2,J3,J4,J5,J6]
 iterate 2
  refine zqb [11,12] rfl rfl ?_ ?_ ?_;rotate_left
  ·(intro w hSw;(try (obtain⟨hS0,hS1,hS2,hS3,hS4,hS5,hS6,hS7,hS8,hS9,hS10,hSb,hSs⟩:=hSw));go_simp;(try with_reducible rfl))
  try simp only[Act.put,J1,J2,J3,J4,J5,J6]
 refine zqe (NoPanic.normal ?_);go_wp2
 go_ret
 exact⟨rfl,hHeld.bel⟩
theorem may_n10(ty:Int)(ve:Int)(dc:List UInt8)(sc:List UInt8)(le:Int)(wi:Int)(nu:Int)(w:World)(wty:-9223372036854775808≤ty)(wty2:ty≤9223372036854775807)(wve:0≤ve)(wve2:ve≤4294967295)(wdc:dc.length≤9223372036854775807)(wsc:sc.length≤9223372036854775807)(wle:0≤le)(wle2:le≤18446744073709551615)(wwi:-9223372036854775808≤wi)(wwi2:wi≤9223372036854775807)(wnu:0≤nu)(wnu2:nu≤18446744073709551615)(h0:(ty != 0)=true)(hbd:bndB true (ty) dc (sc) ([]) (le)=false) :
 Calls Tryz.prog 85 #[.agg #[.bool true,.bool false,.bool false,.int .i64 ty,.int .u32 ve,.string ⟨dc.toArray⟩,.string ⟨sc.toArray⟩,.string ⟨#[]⟩,.int .u64 le,.int .i64 wi,.int .u64 nu]] w fun e w'=>e=.returned (.bool (false))∧Below w.heap.size w w':=by
 have HB:=zh (Box.made w (.bool true) (.bool false) (.bool false) (.int .i64 ty) (.int .u32 ve) (.string ⟨dc.toArray⟩) (.string ⟨sc.toArray⟩) (.string ⟨#[]⟩) (.int .u64 le) (.int .i64 wi) (.int .u64 nu) 101);go_enter Tryz.func85,Tryz.ntmps85;go_wp2_with fail
 refine wp_region_noPanic ?_;refine wp_region_held_drew (S:=fun w'=>Box w.heap.size (.bool true) (.bool false) (.bool false) (.int .i64 ty) (.int .u32 ve) (.string ⟨dc.toArray⟩) (.string ⟨sc.toArray⟩) (.string ⟨#[]⟩) (.int .u64 le) (.int .i64 wi) (.int .u64 nu) w w') (by kernel_rfl) ?_ (fun hHeld=>?_)
 ·exact HB.out.drew
 iterate 2
  refine zqb [0,1] rfl rfl ?_ ?_ ?_;rotate_left
  ·(intro w hSw;(try (obtain⟨hS0,hS1,hS2,hS3,hS4,hS5,hS6,hS7,hS8,hS9,hS10,hSb,hSs⟩:=hSw));go_simp;(try with_reducible rfl))
  try simp only[Act.put,J1,J2,J3,J4,J5,J6]
 refine zqf [2] (AllReadyH.cons rfl (fun K hK=>?_) AllReadyH.nil);rw[if_pos (by rfl)];go_simp;refine (kept_ln (false) (false) (ty) (ve) (dc) (sc) ([]) (le) (wi) (nu) _ wty wty2 wve wve2 wdc wsc (by simp) wle wle2 wwi wwi2 wnu wnu2 h0).mono ?_;rintro e A2 ⟨rfl,hb⟩;refine hK.out _ _ ?_ (fun hHeld=>?_)
 ·exact hHeld.keep hb
 clear hK K hb
 try simp only[Act.put,J1,J2,J3,J4,J5,J6]
 refine zqa 3 rfl (.bool true) ?_ ?_
 ·(intro w hSw;(try (obtain⟨hS0,hS1,hS2,hS3,hS4,hS5,hS6,hS7,hS8,hS9,hS10,hSb,hSs⟩:=hSw));go_simp;(try with_reducible rfl))
 try simp only[Act.put,J1,J2,J3,J4,J5,J6]
 iterate 2
  refine zqb [4,5] rfl rfl ?_ ?_ ?_;rotate_left
  ·(intro w hSw;(try (obtain⟨hS0,hS1,hS2,hS3,hS4,hS5,hS6,hS7,hS8,hS9,hS10,hSb,hSs⟩:=hSw));go_simp;(try with_reducible rfl))
  try simp only[Act.put,J1,J2,J3,J4,J5,J6]
 refine zqf [6] (AllReadyH.cons rfl (fun K hK=>?_) AllReadyH.nil);rw[if_pos (by rfl)];go_simp;refine (bounded_any (true) (false) (false) (ty) (ve) (dc) (sc) ([]) (le) (wi) (nu) _ wty wty2 wve wve2 wdc wsc (by simp) wle wle2 wwi wwi2 wnu wnu2).mono ?_;rintro e A6 ⟨rfl,hb⟩;rw[hbd];refine hK.out _ _ ?_ (fun hHeld=>?_)
 ·exact hHeld.keep hb
 clear hK K hb
 try simp only[Act.put,J1,J2,J3,J4,J5,J6]
 iterate 2
  refine zqb [7,8] rfl rfl ?_ ?_ ?_;rotate_left
  ·(intro w hSw;(try (obtain⟨hS0,hS1,hS2,hS3,hS4,hS5,hS6,hS7,hS8,hS9,hS10,hSb,hSs⟩:=hSw));go_simp;(try with_reducible rfl))
  try simp only[Act.put,J1,J2,J3,J4,J5,J6]
 refine zqc 9 rfl ?_
 try simp only[Act.put,J1,J2,J3,J4,J5,J6]
 refine zqc 10 rfl ?_
 try simp only[Act.put,J1,J2,J3,J4,J5,J6]
 iterate 2
  refine zqb [11,12] rfl rfl ?_ ?_ ?_;rotate_left
  ·(intro w hSw;(try (obtain⟨hS0,hS1,hS2,hS3,hS4,hS5,hS6,hS7,hS8,hS9,hS10,hSb,hSs⟩:=hSw));go_simp;(try with_reducible rfl))
  try simp only[Act.put,J1,J2,J3,J4,J5,J6]
 refine zqe (NoPanic.normal ?_);go_wp2
 go_ret
 exact⟨rfl,hHeld.bel⟩
theorem may_n11(ty:Int)(ve:Int)(dc:List UInt8)(sc:List UInt8)(le:Int)(wi:Int)(nu:Int)(w:World)(wty:-9223372036854775808≤ty)(wty2:ty≤9223372036854775807)(wve:0≤ve)(wve2:ve≤4294967295)(wdc:dc.length≤9223372036854775807)(wsc:sc.length≤9223372036854775807)(wle:0≤le)(wle2:le≤18446744073709551615)(wwi:-9223372036854775808≤wi)(wwi2:wi≤9223372036854775807)(wnu:0≤nu)(wnu2:nu≤18446744073709551615)(h0:(ty != 0)=true)(hbd:bndB true (ty) dc (sc) ([]) (le)=true) :
 Calls Tryz.prog 85 #[.agg #[.bool true,.bool false,.bool false,.int .i64 ty,.int .u32 ve,.string ⟨dc.toArray⟩,.string ⟨sc.toArray⟩,.string ⟨#[]⟩,.int .u64 le,.int .i64 wi,.int .u64 nu]] w fun e w'=>e=.returned (.bool (numB wi nu))∧Below w.heap.size w w':=by
 have HB:=zh (Box.made w (.bool true) (.bool false) (.bool false) (.int .i64 ty) (.int .u32 ve) (.string ⟨dc.toArray⟩) (.string ⟨sc.toArray⟩) (.string ⟨#[]⟩) (.int .u64 le) (.int .i64 wi) (.int .u64 nu) 101);go_enter Tryz.func85,Tryz.ntmps85;go_wp2_with fail
 refine wp_region_noPanic ?_;refine wp_region_held_drew (S:=fun w'=>Box w.heap.size (.bool true) (.bool false) (.bool false) (.int .i64 ty) (.int .u32 ve) (.string ⟨dc.toArray⟩) (.string ⟨sc.toArray⟩) (.string ⟨#[]⟩) (.int .u64 le) (.int .i64 wi) (.int .u64 nu) w w') (by kernel_rfl) ?_ (fun hHeld=>?_)
 ·exact HB.out.drew
 iterate 2
  refine zqb [0,1] rfl rfl ?_ ?_ ?_;rotate_left
  ·(intro w hSw;(try (obtain⟨hS0,hS1,hS2,hS3,hS4,hS5,hS6,hS7,hS8,hS9,hS10,hSb,hSs⟩:=hSw));go_simp;(try with_reducible rfl))
  try simp only[Act.put,J1,J2,J3,J4,J5,J6]
 refine zqf [2] (AllReadyH.cons rfl (fun K hK=>?_) AllReadyH.nil);rw[if_pos (by rfl)];go_simp;refine (kept_ln (false) (false) (ty) (ve) (dc) (sc) ([]) (le) (wi) (nu) _ wty wty2 wve wve2 wdc wsc (by simp) wle wle2 wwi wwi2 wnu wnu2 h0).mono ?_;rintro e A2 ⟨rfl,hb⟩;refine hK.out _ _ ?_ (fun hHeld=>?_)
 ·exact hHeld.keep hb
 clear hK K hb
 try simp only[Act.put,J1,J2,J3,J4,J5,J6]
 refine zqa 3 rfl (.bool true) ?_ ?_
 ·(intro w hSw;(try (obtain⟨hS0,hS1,hS2,hS3,hS4,hS5,hS6,hS7,hS8,hS9,hS10,hSb,hSs⟩:=hSw));go_simp;(try with_reducible rfl))
 try simp only[Act.put,J1,J2,J3,J4,J5,J6]
 iterate 2
  refine zqb [4,5] rfl rfl ?_ ?_ ?_;rotate_left
  ·(intro w hSw;(try (obtain⟨hS0,hS1,hS2,hS3,hS4,hS5,hS6,hS7,hS8,hS9,hS10,hSb,hSs⟩:=hSw));go_simp;(try with_reducible rfl))
  try simp only[Act.put,J1,J2,J3,J4,J5,J6]
 refine zqf [6] (AllReadyH.cons rfl (fun K hK=>?_) AllReadyH.nil);rw[if_pos (by rfl)];go_simp;refine (bounded_any (true) (false) (false) (ty) (ve) (dc) (sc) ([]) (le) (wi) (nu) _ wty wty2 wve wve2 wdc wsc (by simp) wle wle2 wwi wwi2 wnu wnu2).mono ?_;rintro e A6 ⟨rfl,hb⟩;rw[hbd];refine hK.out _ _ ?_ (fun hHeld=>?_)
 ·exact hHeld.keep hb
 clear hK K hb
 try simp only[Act.put,J1,J2,J3,J4,J5,J6]
 iterate 3
  refine zqb [7,8,9] rfl rfl ?_ ?_ ?_;rotate_left
  ·(intro w hSw;(try (obtain⟨hS0,hS1,hS2,hS3,hS4,hS5,hS6,hS7,hS8,hS9,hS10,hSb,hSs⟩:=hSw));go_simp;(try with_reducible rfl))
  try simp only[Act.put,J1,J2,J3,J4,J5,J6]
 refine zqf [10] (AllReadyH.cons rfl (fun K hK=>?_) AllReadyH.nil);rw[if_pos (by rfl)];go_simp;refine (numbered_any (true) (false) (false) (ty) (ve) (dc) (sc) ([]) (le) (wi) (nu) _ wty wty2 wve wve2 wdc wsc (by simp) wle wle2 wwi wwi2 wnu wnu2).mono ?_;rintro e A10 ⟨rfl,hb⟩;refine hK.out _ _ ?_ (fun hHeld=>?_)
 ·exact hHeld.keep hb
 clear hK K hb
 try simp only[Act.put,J1,J2,J3,J4,J5,J6]
 iterate 2
  refine zqb [11,12] rfl rfl ?_ ?_ ?_;rotate_left
  ·(intro w hSw;(try (obtain⟨hS0,hS1,hS2,hS3,hS4,hS5,hS6,hS7,hS8,hS9,hS10,hSb,hSs⟩:=hSw));go_simp;(try with_reducible rfl))
  try simp only[Act.put,J1,J2,J3,J4,J5,J6]
 refine zqe (NoPanic.normal ?_);go_wp2
 go_ret
 exact⟨rfl,hHeld.bel⟩
theorem may_n2(ph:Bool)(ty:Int)(ve:Int)(dc:List UInt8)(sc:List UInt8)(tk:List UInt8)(le:Int)(wi:Int)(nu:Int)(w:World)(wty:-9223372036854775808≤ty)(wty2:ty≤9223372036854775807)(wve:0≤ve)(wve2:ve≤4294967295)(wdc:dc.length≤9223372036854775807)(wsc:sc.length≤9223372036854775807)(wtk:tk.length≤9223372036854775807)(wle:0≤le)(wle2:le≤18446744073709551615)(wwi:-9223372036854775808≤wi)(wwi2:wi≤9223372036854775807)(wnu:0≤nu)(wnu2:nu≤18446744073709551615)(h0:(ty != 0)=true)  :
 Calls Tryz.prog 85 #[.agg #[.bool true,.bool true,.bool ph,.int .i64 ty,.int .u32 ve,.string ⟨dc.toArray⟩,.string ⟨sc.toArray⟩,.string ⟨tk.toArray⟩,.int .u64 le,.int .i64 wi,.int .u64 nu]] w fun e w'=>e=.returned (.bool (false))∧Below w.heap.size w w':=by
 have HB:=zh (Box.made w (.bool true) (.bool true) (.bool ph) (.int .i64 ty) (.int .u32 ve) (.string ⟨dc.toArray⟩) (.string ⟨sc.toArray⟩) (.string ⟨tk.toArray⟩) (.int .u64 le) (.int .i64 wi) (.int .u64 nu) 101);go_enter Tryz.func85,Tryz.ntmps85;go_wp2_with fail
 refine wp_region_noPanic ?_;refine wp_region_held_drew (S:=fun w'=>Box w.heap.size (.bool true) (.bool true) (.bool ph) (.int .i64 ty) (.int .u32 ve) (.string ⟨dc.toArray⟩) (.string ⟨sc.toArray⟩) (.string ⟨tk.toArray⟩) (.int .u64 le) (.int .i64 wi) (.int .u64 nu) w w') (by kernel_rfl) ?_ (fun hHeld=>?_)
 ·exact HB.out.drew
 iterate 2
  refine zqb [0,1] rfl rfl ?_ ?_ ?_;rotate_left
  ·(intro w hSw;(try (obtain⟨hS0,hS1,hS2,hS3,hS4,hS5,hS6,hS7,hS8,hS9,hS10,hSb,hSs⟩:=hSw));go_simp;(try with_reducible rfl))
  try simp only[Act.put,J1,J2,J3,J4,J5,J6]
 refine zqf [2] (AllReadyH.cons rfl (fun K hK=>?_) AllReadyH.nil);rw[if_pos (by rfl)];go_simp;refine (kept_ln (true) (ph) (ty) (ve) (dc) (sc) (tk) (le) (wi) (nu) _ wty wty2 wve wve2 wdc wsc wtk wle wle2 wwi wwi2 wnu wnu2 h0).mono ?_;rintro e A2 ⟨rfl,hb⟩;refine hK.out _ _ ?_ (fun hHeld=>?_)
 ·exact hHeld.keep hb
 clear hK K hb
 try simp only[Act.put,J1,J2,J3,J4,J5,J6]
 refine zqa 3 rfl (.bool false) ?_ ?_
 ·(intro w hSw;(try (obtain⟨hS0,hS1,hS2,hS3,hS4,hS5,hS6,hS7,hS8,hS9,hS10,hSb,hSs⟩:=hSw));go_simp;(try with_reducible rfl))
 try simp only[Act.put,J1,J2,J3,J4,J5,J6]
 refine zqa 4 rfl ?_ ?_ ?_;rotate_left
 ·(intro w hSw;(try (obtain⟨hS0,hS1,hS2,hS3,hS4,hS5,hS6,hS7,hS8,hS9,hS10,hSb,hSs⟩:=hSw));go_simp;(try with_reducible rfl))
 try simp only[Act.put,J1,J2,J3,J4,J5,J6]
 refine zqc 5 rfl ?_
 try simp only[Act.put,J1,J2,J3,J4,J5,J6]
 refine zqc 6 rfl ?_
 try simp only[Act.put,J1,J2,J3,J4,J5,J6]
 iterate 2
  refine zqb [7,8] rfl rfl ?_ ?_ ?_;rotate_left
  ·(intro w hSw;(try (obtain⟨hS0,hS1,hS2,hS3,hS4,hS5,hS6,hS7,hS8,hS9,hS10,hSb,hSs⟩:=hSw));go_simp;(try with_reducible rfl))
  try simp only[Act.put,J1,J2,J3,J4,J5,J6]
 refine zqc 9 rfl ?_
 try simp only[Act.put,J1,J2,J3,J4,J5,J6]
 refine zqc 10 rfl ?_
 try simp only[Act.put,J1,J2,J3,J4,J5,J6]
 iterate 2
  refine zqb [11,12] rfl rfl ?_ ?_ ?_;rotate_left
  ·(intro w hSw;(try (obtain⟨hS0,hS1,hS2,hS3,hS4,hS5,hS6,hS7,hS8,hS9,hS10,hSb,hSs⟩:=hSw));go_simp;(try with_reducible rfl))
  try simp only[Act.put,J1,J2,J3,J4,J5,J6]
 refine zqe (NoPanic.normal ?_);go_wp2
 go_ret
 exact⟨rfl,hHeld.bel⟩
theorem may_n3(ty:Int)(ve:Int)(dc:List UInt8)(sc:List UInt8)(tk:List UInt8)(le:Int)(wi:Int)(nu:Int)(w:World)(wty:-9223372036854775808≤ty)(wty2:ty≤9223372036854775807)(wve:0≤ve)(wve2:ve≤4294967295)(wdc:dc.length≤9223372036854775807)(wsc:sc.length≤9223372036854775807)(wtk:tk.length≤9223372036854775807)(wle:0≤le)(wle2:le≤18446744073709551615)(wwi:-9223372036854775808≤wi)(wwi2:wi≤9223372036854775807)(wnu:0≤nu)(wnu2:nu≤18446744073709551615)(h0:(ty != 0)=true)  :
 Calls Tryz.prog 85 #[.agg #[.bool true,.bool false,.bool true,.int .i64 ty,.int .u32 ve,.string ⟨dc.toArray⟩,.string ⟨sc.toArray⟩,.string ⟨tk.toArray⟩,.int .u64 le,.int .i64 wi,.int .u64 nu]] w fun e w'=>e=.returned (.bool (false))∧Below w.heap.size w w':=by
 have HB:=zh (Box.made w (.bool true) (.bool false) (.bool true) (.int .i64 ty) (.int .u32 ve) (.string ⟨dc.toArray⟩) (.string ⟨sc.toArray⟩) (.string ⟨tk.toArray⟩) (.int .u64 le) (.int .i64 wi) (.int .u64 nu) 101);go_enter Tryz.func85,Tryz.ntmps85;go_wp2_with fail
 refine wp_region_noPanic ?_;refine wp_region_held_drew (S:=fun w'=>Box w.heap.size (.bool true) (.bool false) (.bool true) (.int .i64 ty) (.int .u32 ve) (.string ⟨dc.toArray⟩) (.string ⟨sc.toArray⟩) (.string ⟨tk.toArray⟩) (.int .u64 le) (.int .i64 wi) (.int .u64 nu) w w') (by kernel_rfl) ?_ (fun hHeld=>?_)
 ·exact HB.out.drew
 iterate 2
  refine zqb [0,1] rfl rfl ?_ ?_ ?_;rotate_left
  ·(intro w hSw;(try (obtain⟨hS0,hS1,hS2,hS3,hS4,hS5,hS6,hS7,hS8,hS9,hS10,hSb,hSs⟩:=hSw));go_simp;(try with_reducible rfl))
  try simp only[Act.put,J1,J2,J3,J4,J5,J6]
 refine zqf [2] (AllReadyH.cons rfl (fun K hK=>?_) AllReadyH.nil);rw[if_pos (by rfl)];go_simp;refine (kept_ln (false) (true) (ty) (ve) (dc) (sc) (tk) (le) (wi) (nu) _ wty wty2 wve wve2 wdc wsc wtk wle wle2 wwi wwi2 wnu wnu2 h0).mono ?_;rintro e A2 ⟨rfl,hb⟩;refine hK.out _ _ ?_ (fun hHeld=>?_)
 ·exact hHeld.keep hb
 clear hK K hb
 try simp only[Act.put,J1,J2,J3,J4,J5,J6]
 refine zqa 3 rfl (.bool false) ?_ ?_
 ·(intro w hSw;(try (obtain⟨hS0,hS1,hS2,hS3,hS4,hS5,hS6,hS7,hS8,hS9,hS10,hSb,hSs⟩:=hSw));go_simp;(try with_reducible rfl))
 try simp only[Act.put,J1,J2,J3,J4,J5,J6]
 refine zqa 4 rfl ?_ ?_ ?_;rotate_left
 ·(intro w hSw;(try (obtain⟨hS0,hS1,hS2,hS3,hS4,hS5,hS6,hS7,hS8,hS9,hS10,hSb,hSs⟩:=hSw));go_simp;(try with_reducible rfl))
 try simp only[Act.put,J1,J2,J3,J4,J5,J6]
 refine zqc 5 rfl ?_
 try simp only[Act.put,J1,J2,J3,J4,J5,J6]
 refine zqc 6 rfl ?_
 try simp only[Act.put,J1,J2,J3,J4,J5,J6]
 iterate 2
  refine zqb [7,8] rfl rfl ?_ ?_ ?_;rotate_left
  ·(intro w hSw;(try (obtain⟨hS0,hS1,hS2,hS3,hS4,hS5,hS6,hS7,hS8,hS9,hS10,hSb,hSs⟩:=hSw));go_simp;(try with_reducible rfl))
  try simp only[Act.put,J1,J2,J3,J4,J5,J6]
 refine zqc 9 rfl ?_
 try simp only[Act.put,J1,J2,J3,J4,J5,J6]
 refine zqc 10 rfl ?_
 try simp only[Act.put,J1,J2,J3,J4,J5,J6]
 iterate 2
  refine zqb [11,12] rfl rfl ?_ ?_ ?_;rotate_left
  ·(intro w hSw;(try (obtain⟨hS0,hS1,hS2,hS3,hS4,hS5,hS6,hS7,hS8,hS9,hS10,hSb,hSs⟩:=hSw));go_simp;(try with_reducible rfl))
  try simp only[Act.put,J1,J2,J3,J4,J5,J6]
 refine zqe (NoPanic.normal ?_);go_wp2
 go_ret
 exact⟨rfl,hHeld.bel⟩
theorem may_n4(ty:Int)(ve:Int)(dc:List UInt8)(sc:List UInt8)(tk:List UInt8)(le:Int)(wi:Int)(nu:Int)(w:World)(wty:-9223372036854775808≤ty)(wty2:ty≤9223372036854775807)(wve:0≤ve)(wve2:ve≤4294967295)(wdc:dc.length≤9223372036854775807)(wsc:sc.length≤9223372036854775807)(wtk:tk.length≤9223372036854775807)(wle:0≤le)(wle2:le≤18446744073709551615)(wwi:-9223372036854775808≤wi)(wwi2:wi≤9223372036854775807)(wnu:0≤nu)(wnu2:nu≤18446744073709551615)(h0:(ty != 0)=true)(hne:¬tk=[])  :
 Calls Tryz.prog 85 #[.agg #[.bool true,.bool false,.bool false,.int .i64 ty,.int .u32 ve,.string ⟨dc.toArray⟩,.string ⟨sc.toArray⟩,.string ⟨tk.toArray⟩,.int .u64 le,.int .i64 wi,.int .u64 nu]] w fun e w'=>e=.returned (.bool (false))∧Below w.heap.size w w':=by
 have HB:=zh (Box.made w (.bool true) (.bool false) (.bool false) (.int .i64 ty) (.int .u32 ve) (.string ⟨dc.toArray⟩) (.string ⟨sc.toArray⟩) (.string ⟨tk.toArray⟩) (.int .u64 le) (.int .i64 wi) (.int .u64 nu) 101);go_enter Tryz.func85,Tryz.ntmps85;go_wp2_with fail
 refine wp_region_noPanic ?_;refine wp_region_held_drew (S:=fun w'=>Box w.heap.size (.bool true) (.bool false) (.bool false) (.int .i64 ty) (.int .u32 ve) (.string ⟨dc.toArray⟩) (.string ⟨sc.toArray⟩) (.string ⟨tk.toArray⟩) (.int .u64 le) (.int .i64 wi) (.int .u64 nu) w w') (by kernel_rfl) ?_ (fun hHeld=>?_)
 ·exact HB.out.drew
 iterate 2
  refine zqb [0,1] rfl rfl ?_ ?_ ?_;rotate_left
  ·(intro w hSw;(try (obtain⟨hS0,hS1,hS2,hS3,hS4,hS5,hS6,hS7,hS8,hS9,hS10,hSb,hSs⟩:=hSw));go_simp;(try with_reducible rfl))
  try simp only[Act.put,J1,J2,J3,J4,J5,J6]
 refine zqf [2] (AllReadyH.cons rfl (fun K hK=>?_) AllReadyH.nil);rw[if_pos (by rfl)];go_simp;refine (kept_ln (false) (false) (ty) (ve) (dc) (sc) (tk) (le) (wi) (nu) _ wty wty2 wve wve2 wdc wsc wtk wle wle2 wwi wwi2 wnu wnu2 h0).mono ?_;rintro e A2 ⟨rfl,hb⟩;refine hK.out _ _ ?_ (fun hHeld=>?_)
 ·exact hHeld.keep hb
 clear hK K hb
 try simp only[Act.put,J1,J2,J3,J4,J5,J6]
 refine zqa 3 rfl (.bool false) ?_ ?_
 ·(intro w hSw;(try (obtain⟨hS0,hS1,hS2,hS3,hS4,hS5,hS6,hS7,hS8,hS9,hS10,hSb,hSs⟩:=hSw));go_simp;(repeat' (first|rfl|split));all_goals (exact absurd (by assumption) hne))
 try simp only[Act.put,J1,J2,J3,J4,J5,J6]
 refine zqa 4 rfl ?_ ?_ ?_;rotate_left
 ·(intro w hSw;(try (obtain⟨hS0,hS1,hS2,hS3,hS4,hS5,hS6,hS7,hS8,hS9,hS10,hSb,hSs⟩:=hSw));go_simp;(try with_reducible rfl))
 try simp only[Act.put,J1,J2,J3,J4,J5,J6]
 refine zqc 5 rfl ?_
 try simp only[Act.put,J1,J2,J3,J4,J5,J6]
 refine zqc 6 rfl ?_
 try simp only[Act.put,J1,J2,J3,J4,J5,J6]
 iterate 2
  refine zqb [7,8] rfl rfl ?_ ?_ ?_;rotate_left
  ·(intro w hSw;(try (obtain⟨hS0,hS1,hS2,hS3,hS4,hS5,hS6,hS7,hS8,hS9,hS10,hSb,hSs⟩:=hSw));go_simp;(try with_reducible rfl))
  try simp only[Act.put,J1,J2,J3,J4,J5,J6]
 refine zqc 9 rfl ?_
 try simp only[Act.put,J1,J2,J3,J4,J5,J6]
 refine zqc 10 rfl ?_
 try simp only[Act.put,J1,J2,J3,J4,J5,J6]
 iterate 2
  refine zqb [11,12] rfl rfl ?_ ?_ ?_;rotate_left
  ·(intro w hSw;(try (obtain⟨hS0,hS1,hS2,hS3,hS4,hS5,hS6,hS7,hS8,hS9,hS10,hSb,hSs⟩:=hSw));go_simp;(try with_reducible rfl))
  try simp only[Act.put,J1,J2,J3,J4,J5,J6]
 refine zqe (NoPanic.normal ?_);go_wp2
 go_ret
 exact⟨rfl,hHeld.bel⟩
end Go.Proofs.YtagbkmoahflfdaaGreatDoor.Hd
