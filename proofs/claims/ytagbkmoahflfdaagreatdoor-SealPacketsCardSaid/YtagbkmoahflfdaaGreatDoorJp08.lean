import Derived.Test.YtagbkmoahflfdaaGreatDoorJp01
import Derived.Test.YtagbkmoahflfdaaGreatDoorJp07
import Derived.Lib.Strings
import Derived.Deep.QuietTactic
import Derived.BigQuiet
import Derived.Lib.IndexBytes
import Derived.LaidMore
import Derived.Lib.LaidTab
import Derived.ProofKit
import Derived.OpenShut
import Derived.Test.YtagbkmoahflfdaaGreatDoorJp04
set_option maxHeartbeats 400000
set_option maxRecDepth 20000
set_option linter.unusedVariables false
namespace Go.Proofs.YtagbkmoahflfdaaGreatDoor.Vm
open Tk Go.RowKit
def ps (n:Nat):List UInt8:=if pl n=4 then [] else pt n
def pe (n:Nat):Int:=if pl n=4 then 1 else 0
theorem ps_ok{n:Nat}(h:pl n<4):ps n=pt n∧pe n=0:=by unfold ps pe;rw[if_neg (by omega),if_neg (by omega)];exact⟨rfl,rfl⟩
theorem ps_no{n:Nat}(h:pl n=4):ps n=[]∧pe n=1:=by unfold ps pe;rw[if_pos h,if_pos h];exact⟨rfl,rfl⟩
theorem vput(n:Int)(w:World)(ht:Tab w)(h0:0≤n) :
 Calls Tryz.prog 149 #[.int .u64 n] w fun e w'=>e=.returned (.tuple #[.string ⟨(ps n.toNat).toArray⟩,.int .i64 (pe n.toNat)])∧Below w.heap.size w w':=by
 rcases pl_cases n.toNat with ⟨hp,h1⟩|⟨hp,h1,h2⟩|⟨hp,h1,h2⟩|⟨hp,h1,h2⟩|⟨hp,h1⟩
 ·have:=ps_ok (n:=n.toNat) (by omega);rw[this.1,this.2];exact vput_0 n w ht (by omega) (by omega)
 ·have:=ps_ok (n:=n.toNat) (by omega);rw[this.1,this.2];exact vput_1 n w ht (by omega) (by omega)
 ·have:=ps_ok (n:=n.toNat) (by omega);rw[this.1,this.2];exact vput_2 n w ht (by omega) (by omega)
 ·have:=ps_ok (n:=n.toNat) (by omega);rw[this.1,this.2];exact vput_3 n w ht (by omega) (by omega)
 ·have:=ps_no hp;rw[this.1,this.2];exact vput_4 n w ht (by omega)
def gk:List UInt8→Nat|[]=>1|b::_=>gw b
theorem empty_yes(s:ByteArray)(h:s.size=0):s.toList.isEmpty=true:=by
 rw[ByteArray.toList_eq];have:s.data.toList=[]:=List.eq_nil_of_length_eq_zero (by simpa using h);rw[this];rfl
theorem empty_no(s:ByteArray)(h:0<s.size):s.toList.isEmpty=false:=by
 rw[ByteArray.toList_eq]
 cases hl:s.data.toList with
 | nil=>
  have:s.data.toList.length=s.size:=by simp
  rw[hl]at this;simp at this;omega
 | cons _ _=>rfl
theorem size_len(s:ByteArray):s.size=s.data.toList.length:=by simp
theorem take_part(s:ByteArray)(k:Nat)(h:k≤s.size):(s.extract 0 k).data.toList=s.data.toList.take k:=by
 rw[Lib.extract_data];simp
theorem drop_part(s:ByteArray)(k:Nat)(h:k≤s.size):s.extract k s.size=⟨(s.data.toList.drop k).toArray⟩:=by
 apply ByteArray.ext;apply Array.toList_inj.1;rw[Lib.extract_data];simp;exact List.take_of_length_le (by simp)
theorem vbackQ(s:ByteArray)(w:World)(hs:s.size≤8):Calls Tryz.prog 172 #[.string s] w fun e w'=>e=.returned (.int .u64 (bk s.data.toList:Nat))∧w'=w:=
 (vback s w hs).mono fun _ _ ⟨a,b⟩=>⟨a,b.symm⟩
theorem rbackQ(s:ByteArray)(w:World)(hs:s.size≤8):Calls Tryz.prog 104 #[.string s] w fun e w'=>e=.returned (.int .u64 (bk s.data.toList:Nat))∧w'=w:=
 (rback s w hs).mono fun _ _ ⟨a,b⟩=>⟨a,b.symm⟩
theorem powerQ_6(w:World):Calls Tryz.prog 117 #[.int .i64 6] w fun e w'=>e=.returned (.int .u64 64)∧w'=w:=
 (power_6 w).mono fun _ _ ⟨a,b⟩=>⟨a,b.symm⟩
theorem powerQ_14(w:World):Calls Tryz.prog 117 #[.int .i64 14] w fun e w'=>e=.returned (.int .u64 16384)∧w'=w:=
 (power_14 w).mono fun _ _ ⟨a,b⟩=>⟨a,b.symm⟩
theorem powerQ_30(w:World):Calls Tryz.prog 117 #[.int .i64 30] w fun e w'=>e=.returned (.int .u64 1073741824)∧w'=w:=
 (power_30 w).mono fun _ _ ⟨a,b⟩=>⟨a,b.symm⟩
theorem powerQ_62(w:World):Calls Tryz.prog 117 #[.int .i64 62] w fun e w'=>e=.returned (.int .u64 4611686018427387904)∧w'=w:=
 (power_62 w).mono fun _ _ ⟨a,b⟩=>⟨a,b.symm⟩
theorem vget_empty(s:ByteArray)(w:World)(hs:s.size=0) :
 Calls Tryz.prog 178 #[.string s] w fun e w'=>e=.returned (.tuple #[.int .u64 0,.string ⟨#[]⟩,.int .i64 10])∧w=w':=by
 have he:=empty_yes s hs;clear hs;go_enter Tryz.func178,Tryz.ntmps178;go_wp2
 go_ret3
 exact⟨rfl,rfl⟩
theorem vget_ok_0(s:ByteArray)(w:World)(ht:Tab w)(hs:s.size≤9223372036854775807)(h1:1≤s.size)(hq:0≤s[0].toNat∧s[0].toNat<64) :
 Calls Tryz.prog 178 #[.string s] w fun e w'=>e=.returned (.tuple #[.int .u64 (gn s.data.toList 1:Nat),.string ⟨(s.data.toList.drop 1).toArray⟩,.int .i64 0])∧∃m,w'=w.drewN m:=by
 have he:=empty_no s (by omega);have hq1:=hq.1;have hq2:=hq.2;have h0:0<s.size:=by omega
 have hc:w.cell? ⟨0,s[0].toNat/64,none⟩=some (.int .i64 1):=by rw[show s[0].toNat/64=0 from by omega];exact ht.1
 clear ht;have HD:=zh (drop_part s 1 h1);have hb:=bk_lt (s.data.toList.take 1);have hl:(s.extract 0 1).data.toList.length=1:=by rw[take_part s 1 h1,List.length_take];simp;omega
 have HL:Hid ((s.extract 0 1).size≤8):=zh (by rw[size_len,hl];omega);rw[show (s.data.toList.take 1).length=1 by rw[←take_part s 1 h1,hl]]at hb;have HB:=zh hb;have HG:Hid (gn s.data.toList 1=bk (s.data.toList.take 1)%2^6):=zh (by unfold gn;rfl);clear hl hb hq;go_enter Tryz.func178,Tryz.ntmps178;go_wp2_with fail
 refine (room_any _ _ (by omega) (by omega)).mono ?_;rintro e w' ⟨rfl,rfl⟩;have HA:Hid (bits .and .u64 ((bk (s.data.toList.take 1):Nat):Int) 63=((bk (s.data.toList.take 1)%2^6:Nat):Int)):=zh (and_mod 6 (bk (s.data.toList.take 1)) (Nat.lt_of_lt_of_le HB.out (by decide)) (by omega));go_wp2_with fail
 go_quiet ((go_at_call 172;exact Calls.quiet_of_same (vbackQ (s.extract 0 1) _ HL.out)))
 go_wp2
 go_ret3
 refine⟨?_,_,rfl⟩;rw[HG.out,←HA.out,←HD.out];rfl
theorem vget_short_1(s:ByteArray)(w:World)(ht:Tab w)(hs:s.size≤9223372036854775807)(h0:0<s.size)(hs1:s.size<2)(hq:64≤s[0].toNat∧s[0].toNat<128) :
 Calls Tryz.prog 178 #[.string s] w fun e w'=>e=.returned (.tuple #[.int .u64 0,.string ⟨#[]⟩,.int .i64 10])∧∃m,w'=w.drewN m:=by
 have he:=empty_no s (by omega);have hq1:=hq.1;have hq2:=hq.2;have hc:w.cell? ⟨0,s[0].toNat/64,none⟩=some (.int .i64 2):=by rw[show s[0].toNat/64=1 from by omega];exact ht.2.1
 clear ht;go_enter Tryz.func178,Tryz.ntmps178;go_wp2
 go_ret3
 exact⟨rfl,0,rfl⟩
theorem vget_ok_1(s:ByteArray)(w:World)(ht:Tab w)(hs:s.size≤9223372036854775807)(h1:2≤s.size)(hq:64≤s[0].toNat∧s[0].toNat<128) :
 Calls Tryz.prog 178 #[.string s] w fun e w'=>e=.returned (.tuple #[.int .u64 (gn s.data.toList 2:Nat),.string ⟨(s.data.toList.drop 2).toArray⟩,.int .i64 0])∧∃m,w'=w.drewN m:=by
 have he:=empty_no s (by omega);have hq1:=hq.1;have hq2:=hq.2;have h0:0<s.size:=by omega
 have hc:w.cell? ⟨0,s[0].toNat/64,none⟩=some (.int .i64 2):=by rw[show s[0].toNat/64=1 from by omega];exact ht.2.1
 clear ht;have HD:=zh (drop_part s 2 h1);have hb:=bk_lt (s.data.toList.take 2);have hl:(s.extract 0 2).data.toList.length=2:=by rw[take_part s 2 h1,List.length_take];simp;omega
 have HL:Hid ((s.extract 0 2).size≤8):=zh (by rw[size_len,hl];omega);rw[show (s.data.toList.take 2).length=2 by rw[←take_part s 2 h1,hl]]at hb;have HB:=zh hb;have HG:Hid (gn s.data.toList 2=bk (s.data.toList.take 2)%2^14):=zh (by unfold gn;rfl);clear hl hb hq;go_enter Tryz.func178,Tryz.ntmps178;go_wp2_with fail
 refine (room_any _ _ (by omega) (by omega)).mono ?_;rintro e w' ⟨rfl,rfl⟩;have HA:Hid (bits .and .u64 ((bk (s.data.toList.take 2):Nat):Int) 16383=((bk (s.data.toList.take 2)%2^14:Nat):Int)):=zh (and_mod 14 (bk (s.data.toList.take 2)) (Nat.lt_of_lt_of_le HB.out (by decide)) (by omega));go_wp2_with fail
 go_quiet ((go_at_call 172;exact Calls.quiet_of_same (vbackQ (s.extract 0 2) _ HL.out)))
 go_wp2
 go_ret3
 refine⟨?_,_,rfl⟩;rw[HG.out,←HA.out,←HD.out];rfl
theorem vget_short_2(s:ByteArray)(w:World)(ht:Tab w)(hs:s.size≤9223372036854775807)(h0:0<s.size)(hs1:s.size<4)(hq:128≤s[0].toNat∧s[0].toNat<192) :
 Calls Tryz.prog 178 #[.string s] w fun e w'=>e=.returned (.tuple #[.int .u64 0,.string ⟨#[]⟩,.int .i64 10])∧∃m,w'=w.drewN m:=by
 have he:=empty_no s (by omega);have hq1:=hq.1;have hq2:=hq.2;have hc:w.cell? ⟨0,s[0].toNat/64,none⟩=some (.int .i64 4):=by rw[show s[0].toNat/64=2 from by omega];exact ht.2.2.1
 clear ht;go_enter Tryz.func178,Tryz.ntmps178;go_wp2
 go_ret3
 exact⟨rfl,0,rfl⟩
theorem vget_ok_2(s:ByteArray)(w:World)(ht:Tab w)(hs:s.size≤9223372036854775807)(h1:4≤s.size)(hq:128≤s[0].toNat∧s[0].toNat<192) :
 Calls Tryz.prog 178 #[.string s] w fun e w'=>e=.returned (.tuple #[.int .u64 (gn s.data.toList 4:Nat),.string ⟨(s.data.toList.drop 4).toArray⟩,.int .i64 0])∧∃m,w'=w.drewN m:=by
 have he:=empty_no s (by omega);have hq1:=hq.1;have hq2:=hq.2;have h0:0<s.size:=by omega
 have hc:w.cell? ⟨0,s[0].toNat/64,none⟩=some (.int .i64 4):=by rw[show s[0].toNat/64=2 from by omega];exact ht.2.2.1
 clear ht;have HD:=zh (drop_part s 4 h1);have hb:=bk_lt (s.data.toList.take 4);have hl:(s.extract 0 4).data.toList.length=4:=by rw[take_part s 4 h1,List.length_take];simp;omega
 have HL:Hid ((s.extract 0 4).size≤8):=zh (by rw[size_len,hl];omega);rw[show (s.data.toList.take 4).length=4 by rw[←take_part s 4 h1,hl]]at hb;have HB:=zh hb;have HG:Hid (gn s.data.toList 4=bk (s.data.toList.take 4)%2^30):=zh (by unfold gn;rfl);clear hl hb hq;go_enter Tryz.func178,Tryz.ntmps178;go_wp2_with fail
 refine (room_any _ _ (by omega) (by omega)).mono ?_;rintro e w' ⟨rfl,rfl⟩;have HA:Hid (bits .and .u64 ((bk (s.data.toList.take 4):Nat):Int) 1073741823=((bk (s.data.toList.take 4)%2^30:Nat):Int)):=zh (and_mod 30 (bk (s.data.toList.take 4)) (Nat.lt_of_lt_of_le HB.out (by decide)) (by omega));go_wp2_with fail
 go_quiet ((go_at_call 172;exact Calls.quiet_of_same (vbackQ (s.extract 0 4) _ HL.out)))
 go_wp2
 go_ret3
 refine⟨?_,_,rfl⟩;rw[HG.out,←HA.out,←HD.out];rfl
theorem vget_short_3(s:ByteArray)(w:World)(ht:Tab w)(hs:s.size≤9223372036854775807)(h0:0<s.size)(hs1:s.size<8)(hq:192≤s[0].toNat∧s[0].toNat<256) :
 Calls Tryz.prog 178 #[.string s] w fun e w'=>e=.returned (.tuple #[.int .u64 0,.string ⟨#[]⟩,.int .i64 10])∧∃m,w'=w.drewN m:=by
 have he:=empty_no s (by omega);have hq1:=hq.1;have hq2:=hq.2;have hc:w.cell? ⟨0,s[0].toNat/64,none⟩=some (.int .i64 8):=by rw[show s[0].toNat/64=3 from by omega];exact ht.2.2.2
 clear ht;go_enter Tryz.func178,Tryz.ntmps178;go_wp2
 go_ret3
 exact⟨rfl,0,rfl⟩
theorem vget_ok_3(s:ByteArray)(w:World)(ht:Tab w)(hs:s.size≤9223372036854775807)(h1:8≤s.size)(hq:192≤s[0].toNat∧s[0].toNat<256) :
 Calls Tryz.prog 178 #[.string s] w fun e w'=>e=.returned (.tuple #[.int .u64 (gn s.data.toList 8:Nat),.string ⟨(s.data.toList.drop 8).toArray⟩,.int .i64 0])∧∃m,w'=w.drewN m:=by
 have he:=empty_no s (by omega);have hq1:=hq.1;have hq2:=hq.2;have h0:0<s.size:=by omega
 have hc:w.cell? ⟨0,s[0].toNat/64,none⟩=some (.int .i64 8):=by rw[show s[0].toNat/64=3 from by omega];exact ht.2.2.2
 clear ht;have HD:=zh (drop_part s 8 h1);have hb:=bk_lt (s.data.toList.take 8);have hl:(s.extract 0 8).data.toList.length=8:=by rw[take_part s 8 h1,List.length_take];simp;omega
 have HL:Hid ((s.extract 0 8).size≤8):=zh (by rw[size_len,hl];omega);rw[show (s.data.toList.take 8).length=8 by rw[←take_part s 8 h1,hl]]at hb;have HB:=zh hb;have HG:Hid (gn s.data.toList 8=bk (s.data.toList.take 8)%2^62):=zh (by unfold gn;rfl);clear hl hb hq;go_enter Tryz.func178,Tryz.ntmps178;go_wp2_with fail
 refine (room_any _ _ (by omega) (by omega)).mono ?_;rintro e w' ⟨rfl,rfl⟩;have HA:Hid (bits .and .u64 ((bk (s.data.toList.take 8):Nat):Int) 4611686018427387903=((bk (s.data.toList.take 8)%2^62:Nat):Int)):=zh (and_mod 62 (bk (s.data.toList.take 8)) (Nat.lt_of_lt_of_le HB.out (by decide)) (by omega));go_wp2_with fail
 go_quiet ((go_at_call 172;exact Calls.quiet_of_same (vbackQ (s.extract 0 8) _ HL.out)))
 go_wp2
 go_ret3
 refine⟨?_,_,rfl⟩;rw[HG.out,←HA.out,←HD.out];rfl
theorem rget_empty(s:ByteArray)(w:World)(hs:s.size=0) :
 Calls Tryz.prog 134 #[.string s] w fun e w'=>e=.returned (.tuple #[.int .u64 0,.string ⟨#[]⟩,.int .i64 10])∧w=w':=by
 have he:=empty_yes s hs;clear hs;go_enter Tryz.func134,Tryz.ntmps134;go_wp2
 go_ret3
 exact⟨rfl,rfl⟩
theorem rget_ok_0(s:ByteArray)(w:World)(hs:s.size≤9223372036854775807)(h1:1≤s.size)(hq:0≤s[0].toNat∧s[0].toNat<64) :
 Calls Tryz.prog 134 #[.string s] w fun e w'=>e=.returned (.tuple #[.int .u64 (gn s.data.toList 1:Nat),.string ⟨(s.data.toList.drop 1).toArray⟩,.int .i64 0])∧∃m,w'=w.drewN m:=by
 have he:=empty_no s (by omega);have hq1:=hq.1;have hq2:=hq.2;have h0:0<s.size:=by omega
 have HD:=zh (drop_part s 1 h1);have hb:=bk_lt (s.data.toList.take 1);have hl:(s.extract 0 1).data.toList.length=1:=by rw[take_part s 1 h1,List.length_take];simp;omega
 have HL:Hid ((s.extract 0 1).size≤8):=zh (by rw[size_len,hl];omega);rw[show (s.data.toList.take 1).length=1 by rw[←take_part s 1 h1,hl]]at hb;have HB:=zh hb;have HG:Hid (gn s.data.toList 1=bk (s.data.toList.take 1)%2^6):=zh (by unfold gn;rfl);clear hl hb hq;have HC:Hid ((s[0].toNat:Int)/64=0):=zh (by omega);go_enter Tryz.func134,Tryz.ntmps134;go_wp2_with fail
 rw[HC.out];refine (power_any _ _ (by omega) (by omega)).mono ?_;rintro e w' ⟨rfl,rfl⟩;rw[show pw 0=1 from by decide];go_wp2_with fail
 go_quiet ((first|(go_at_call 104;exact Calls.quiet_of_same (rbackQ (s.extract 0 1) _ HL.out))|(go_at_call 117;exact Calls.quiet_of_same (powerQ_6 _))))
 go_wp2
 go_ret3
 refine⟨?_,_,rfl⟩;rw[HG.out,←HD.out,show ((bk (s.data.toList.take 1)%2^6:Nat):Int)=(bk (s.data.toList.take 1):Int)%64 from rfl];rfl
theorem rget_short_1(s:ByteArray)(w:World)(hs:s.size≤9223372036854775807)(h0:0<s.size)(hs1:s.size<2)(hq:64≤s[0].toNat∧s[0].toNat<128) :
 Calls Tryz.prog 134 #[.string s] w fun e w'=>e=.returned (.tuple #[.int .u64 0,.string ⟨#[]⟩,.int .i64 10])∧∃m,w'=w.drewN m:=by
 have he:=empty_no s (by omega);have hq1:=hq.1;have hq2:=hq.2;have HC:Hid ((s[0].toNat:Int)/64=1):=zh (by omega);go_enter Tryz.func134,Tryz.ntmps134;go_wp2_with fail
 rw[HC.out];refine (power_any _ _ (by omega) (by omega)).mono ?_;rintro e w' ⟨rfl,rfl⟩;rw[show pw 1=2 from by decide];go_wp2
 go_ret3
 exact⟨rfl,0,rfl⟩
theorem rget_ok_1(s:ByteArray)(w:World)(hs:s.size≤9223372036854775807)(h1:2≤s.size)(hq:64≤s[0].toNat∧s[0].toNat<128) :
 Calls Tryz.prog 134 #[.string s] w fun e w'=>e=.returned (.tuple #[.int .u64 (gn s.data.toList 2:Nat),.string ⟨(s.data.toList.drop 2).toArray⟩,.int .i64 0])∧∃m,w'=w.drewN m:=by
 have he:=empty_no s (by omega);have hq1:=hq.1;have hq2:=hq.2;have h0:0<s.size:=by omega
 have HD:=zh (drop_part s 2 h1);have hb:=bk_lt (s.data.toList.take 2);have hl:(s.extract 0 2).data.toList.length=2:=by rw[take_part s 2 h1,List.length_take];simp;omega
 have HL:Hid ((s.extract 0 2).size≤8):=zh (by rw[size_len,hl];omega);rw[show (s.data.toList.take 2).length=2 by rw[←take_part s 2 h1,hl]]at hb;have HB:=zh hb;have HG:Hid (gn s.data.toList 2=bk (s.data.toList.take 2)%2^14):=zh (by unfold gn;rfl);clear hl hb hq;have HC:Hid ((s[0].toNat:Int)/64=1):=zh (by omega);go_enter Tryz.func134,Tryz.ntmps134;go_wp2_with fail
 rw[HC.out];refine (power_any _ _ (by omega) (by omega)).mono ?_;rintro e w' ⟨rfl,rfl⟩;rw[show pw 1=2 from by decide];go_wp2_with fail
 go_quiet ((first|(go_at_call 104;exact Calls.quiet_of_same (rbackQ (s.extract 0 2) _ HL.out))|(go_at_call 117;exact Calls.quiet_of_same (powerQ_14 _))))
 go_wp2
 go_ret3
 refine⟨?_,_,rfl⟩;rw[HG.out,←HD.out,show ((bk (s.data.toList.take 2)%2^14:Nat):Int)=(bk (s.data.toList.take 2):Int)%16384 from rfl];rfl
theorem rget_short_2(s:ByteArray)(w:World)(hs:s.size≤9223372036854775807)(h0:0<s.size)(hs1:s.size<4)(hq:128≤s[0].toNat∧s[0].toNat<192) :
 Calls Tryz.prog 134 #[.string s] w fun e w'=>e=.returned (.tuple #[.int .u64 0,.string ⟨#[]⟩,.int .i64 10])∧∃m,w'=w.drewN m:=by
 have he:=empty_no s (by omega);have hq1:=hq.1;have hq2:=hq.2;have HC:Hid ((s[0].toNat:Int)/64=2):=zh (by omega);go_enter Tryz.func134,Tryz.ntmps134;go_wp2_with fail
 rw[HC.out];refine (power_any _ _ (by omega) (by omega)).mono ?_;rintro e w' ⟨rfl,rfl⟩;rw[show pw 2=4 from by decide];go_wp2
 go_ret3
 exact⟨rfl,0,rfl⟩
theorem rget_ok_2(s:ByteArray)(w:World)(hs:s.size≤9223372036854775807)(h1:4≤s.size)(hq:128≤s[0].toNat∧s[0].toNat<192) :
 Calls Tryz.prog 134 #[.string s] w fun e w'=>e=.returned (.tuple #[.int .u64 (gn s.data.toList 4:Nat),.string ⟨(s.data.toList.drop 4).toArray⟩,.int .i64 0])∧∃m,w'=w.drewN m:=by
 have he:=empty_no s (by omega);have hq1:=hq.1;have hq2:=hq.2;have h0:0<s.size:=by omega
 have HD:=zh (drop_part s 4 h1);have hb:=bk_lt (s.data.toList.take 4);have hl:(s.extract 0 4).data.toList.length=4:=by rw[take_part s 4 h1,List.length_take];simp;omega
 have HL:Hid ((s.extract 0 4).size≤8):=zh (by rw[size_len,hl];omega);rw[show (s.data.toList.take 4).length=4 by rw[←take_part s 4 h1,hl]]at hb;have HB:=zh hb;have HG:Hid (gn s.data.toList 4=bk (s.data.toList.take 4)%2^30):=zh (by unfold gn;rfl);clear hl hb hq;have HC:Hid ((s[0].toNat:Int)/64=2):=zh (by omega);go_enter Tryz.func134,Tryz.ntmps134;go_wp2_with fail
 rw[HC.out];refine (power_any _ _ (by omega) (by omega)).mono ?_;rintro e w' ⟨rfl,rfl⟩;rw[show pw 2=4 from by decide];go_wp2_with fail
 go_quiet ((first|(go_at_call 104;exact Calls.quiet_of_same (rbackQ (s.extract 0 4) _ HL.out))|(go_at_call 117;exact Calls.quiet_of_same (powerQ_30 _))))
 go_wp2
 go_ret3
 refine⟨?_,_,rfl⟩;rw[HG.out,←HD.out,show ((bk (s.data.toList.take 4)%2^30:Nat):Int)=(bk (s.data.toList.take 4):Int)%1073741824 from rfl];rfl
theorem rget_short_3(s:ByteArray)(w:World)(hs:s.size≤9223372036854775807)(h0:0<s.size)(hs1:s.size<8)(hq:192≤s[0].toNat∧s[0].toNat<256) :
 Calls Tryz.prog 134 #[.string s] w fun e w'=>e=.returned (.tuple #[.int .u64 0,.string ⟨#[]⟩,.int .i64 10])∧∃m,w'=w.drewN m:=by
 have he:=empty_no s (by omega);have hq1:=hq.1;have hq2:=hq.2;have HC:Hid ((s[0].toNat:Int)/64=3):=zh (by omega);go_enter Tryz.func134,Tryz.ntmps134;go_wp2_with fail
 rw[HC.out];refine (power_any _ _ (by omega) (by omega)).mono ?_;rintro e w' ⟨rfl,rfl⟩;rw[show pw 3=8 from by decide];go_wp2
 go_ret3
 exact⟨rfl,0,rfl⟩
theorem rget_ok_3(s:ByteArray)(w:World)(hs:s.size≤9223372036854775807)(h1:8≤s.size)(hq:192≤s[0].toNat∧s[0].toNat<256) :
 Calls Tryz.prog 134 #[.string s] w fun e w'=>e=.returned (.tuple #[.int .u64 (gn s.data.toList 8:Nat),.string ⟨(s.data.toList.drop 8).toArray⟩,.int .i64 0])∧∃m,w'=w.drewN m:=by
 have he:=empty_no s (by omega);have hq1:=hq.1;have hq2:=hq.2;have h0:0<s.size:=by omega
 have HD:=zh (drop_part s 8 h1);have hb:=bk_lt (s.data.toList.take 8);have hl:(s.extract 0 8).data.toList.length=8:=by rw[take_part s 8 h1,List.length_take];simp;omega
 have HL:Hid ((s.extract 0 8).size≤8):=zh (by rw[size_len,hl];omega);rw[show (s.data.toList.take 8).length=8 by rw[←take_part s 8 h1,hl]]at hb;have HB:=zh hb;have HG:Hid (gn s.data.toList 8=bk (s.data.toList.take 8)%2^62):=zh (by unfold gn;rfl);clear hl hb hq;have HC:Hid ((s[0].toNat:Int)/64=3):=zh (by omega);go_enter Tryz.func134,Tryz.ntmps134;go_wp2_with fail
 rw[HC.out];refine (power_any _ _ (by omega) (by omega)).mono ?_;rintro e w' ⟨rfl,rfl⟩;rw[show pw 3=8 from by decide];go_wp2_with fail
 go_quiet ((first|(go_at_call 104;exact Calls.quiet_of_same (rbackQ (s.extract 0 8) _ HL.out))|(go_at_call 117;exact Calls.quiet_of_same (powerQ_62 _))))
 go_wp2
 go_ret3
 refine⟨?_,_,rfl⟩;rw[HG.out,←HD.out,show ((bk (s.data.toList.take 8)%2^62:Nat):Int)=(bk (s.data.toList.take 8):Int)%4611686018427387904 from rfl];rfl
end Go.Proofs.YtagbkmoahflfdaaGreatDoor.Vm
namespace Go.Proofs.YtagbkmoahflfdaaGreatDoor.Vm
open Go.RowKit
def gN (l:List UInt8):Nat:=if gk l≤l.length then gn l (gk l) else 0
def gR (l:List UInt8):List UInt8:=if gk l≤l.length then l.drop (gk l) else []
def gE (l:List UInt8):Int:=if gk l≤l.length then 0 else 10
theorem g_ok{l:List UInt8}(h:gk l≤l.length):gN l=gn l (gk l)∧gR l=l.drop (gk l)∧gE l=0:=by unfold gN gR gE;rw[if_pos h,if_pos h,if_pos h];exact⟨rfl,rfl,rfl⟩
theorem g_no{l:List UInt8}(h:l.length<gk l):gN l=0∧gR l=[]∧gE l=10:=by unfold gN gR gE;rw[if_neg (by omega),if_neg (by omega),if_neg (by omega)];exact⟨rfl,rfl,rfl⟩
theorem gk_of(s:ByteArray)(h:0<s.size)(c:Nat)(hc:s[0].toNat/64=c):gk s.data.toList=2^c:=by
 have h0:0<s.data.toList.length:=by rw[←size_len];exact h
 have e:s.data.toList[0]=s[0]:=rfl
 cases hl:s.data.toList with
 | nil=>rw[hl]at h0;simp at h0
 | cons b r=>
  have e2:b=s[0]:=by rw[←e];simp[hl]
  show gw b=_;unfold gw wd;rw[e2,hc]
theorem vget(s:ByteArray)(w:World)(ht:Tab w)(hs:s.size≤9223372036854775807) :
 Calls Tryz.prog 178 #[.string s] w fun e w'=>e=.returned (.tuple #[.int .u64 (gN s.data.toList:Nat),.string ⟨(gR s.data.toList).toArray⟩,.int .i64 (gE s.data.toList)])∧∃m,w'=w.drewN m:=by
 by_cases h0:s.size=0
 ·have h:=g_no (l:=s.data.toList) (by rw[List.eq_nil_of_length_eq_zero (show s.data.toList.length=0 by rw[←size_len];exact h0)];decide)
  rw[h.1,h.2.1,h.2.2];exact (vget_empty s w h0).mono fun _ _ ⟨a,b⟩=>⟨a,0,b.symm⟩
 ·have hp:0<s.size:=by omega
  have hb:=s[0].toNat_lt;have hc:s[0].toNat/64=0∨s[0].toNat/64=1∨s[0].toNat/64=2∨s[0].toNat/64=3:=by omega
  rcases hc with hc|hc|hc|hc
  ·have h:=g_ok (l:=s.data.toList) (by rw[gk_of s hp 0 hc,←size_len];omega)
   rw[h.1,h.2.1,h.2.2,gk_of s hp 0 hc];exact vget_ok_0 s w ht hs (by omega) (by omega)
  ·by_cases hk:2≤s.size
   ·have h:=g_ok (l:=s.data.toList) (by rw[gk_of s hp 1 hc,←size_len];omega)
    rw[h.1,h.2.1,h.2.2,gk_of s hp 1 hc];exact vget_ok_1 s w ht hs (by omega) (by omega)
   ·have h:=g_no (l:=s.data.toList) (by rw[gk_of s hp 1 hc,←size_len];omega)
    rw[h.1,h.2.1,h.2.2];exact vget_short_1 s w ht hs hp (by omega) (by omega)
  ·by_cases hk:4≤s.size
   ·have h:=g_ok (l:=s.data.toList) (by rw[gk_of s hp 2 hc,←size_len];omega)
    rw[h.1,h.2.1,h.2.2,gk_of s hp 2 hc];exact vget_ok_2 s w ht hs (by omega) (by omega)
   ·have h:=g_no (l:=s.data.toList) (by rw[gk_of s hp 2 hc,←size_len];omega)
    rw[h.1,h.2.1,h.2.2];exact vget_short_2 s w ht hs hp (by omega) (by omega)
  ·by_cases hk:8≤s.size
   ·have h:=g_ok (l:=s.data.toList) (by rw[gk_of s hp 3 hc,←size_len];omega)
    rw[h.1,h.2.1,h.2.2,gk_of s hp 3 hc];exact vget_ok_3 s w ht hs (by omega) (by omega)
   ·have h:=g_no (l:=s.data.toList) (by rw[gk_of s hp 3 hc,←size_len];omega)
    rw[h.1,h.2.1,h.2.2];exact vget_short_3 s w ht hs hp (by omega) (by omega)
theorem rget(s:ByteArray)(w:World)(hs:s.size≤9223372036854775807) :
 Calls Tryz.prog 134 #[.string s] w fun e w'=>e=.returned (.tuple #[.int .u64 (gN s.data.toList:Nat),.string ⟨(gR s.data.toList).toArray⟩,.int .i64 (gE s.data.toList)])∧∃m,w'=w.drewN m:=by
 by_cases h0:s.size=0
 ·have h:=g_no (l:=s.data.toList) (by rw[List.eq_nil_of_length_eq_zero (show s.data.toList.length=0 by rw[←size_len];exact h0)];decide)
  rw[h.1,h.2.1,h.2.2];exact (rget_empty s w h0).mono fun _ _ ⟨a,b⟩=>⟨a,0,b.symm⟩
 ·have hp:0<s.size:=by omega
  have hb:=s[0].toNat_lt;have hc:s[0].toNat/64=0∨s[0].toNat/64=1∨s[0].toNat/64=2∨s[0].toNat/64=3:=by omega
  rcases hc with hc|hc|hc|hc
  ·have h:=g_ok (l:=s.data.toList) (by rw[gk_of s hp 0 hc,←size_len];omega)
   rw[h.1,h.2.1,h.2.2,gk_of s hp 0 hc];exact rget_ok_0 s w hs (by omega) (by omega)
  ·by_cases hk:2≤s.size
   ·have h:=g_ok (l:=s.data.toList) (by rw[gk_of s hp 1 hc,←size_len];omega)
    rw[h.1,h.2.1,h.2.2,gk_of s hp 1 hc];exact rget_ok_1 s w hs (by omega) (by omega)
   ·have h:=g_no (l:=s.data.toList) (by rw[gk_of s hp 1 hc,←size_len];omega)
    rw[h.1,h.2.1,h.2.2];exact rget_short_1 s w hs hp (by omega) (by omega)
  ·by_cases hk:4≤s.size
   ·have h:=g_ok (l:=s.data.toList) (by rw[gk_of s hp 2 hc,←size_len];omega)
    rw[h.1,h.2.1,h.2.2,gk_of s hp 2 hc];exact rget_ok_2 s w hs (by omega) (by omega)
   ·have h:=g_no (l:=s.data.toList) (by rw[gk_of s hp 2 hc,←size_len];omega)
    rw[h.1,h.2.1,h.2.2];exact rget_short_2 s w hs hp (by omega) (by omega)
  ·by_cases hk:8≤s.size
   ·have h:=g_ok (l:=s.data.toList) (by rw[gk_of s hp 3 hc,←size_len];omega)
    rw[h.1,h.2.1,h.2.2,gk_of s hp 3 hc];exact rget_ok_3 s w hs (by omega) (by omega)
   ·have h:=g_no (l:=s.data.toList) (by rw[gk_of s hp 3 hc,←size_len];omega)
    rw[h.1,h.2.1,h.2.2];exact rget_short_3 s w hs hp (by omega) (by omega)
theorem Tab.below{B:Nat}{w w':World}(h:Tab w)(hb:Below B w w')(hB:0<B):Tab w':=
 ⟨(hb.cell (p:=⟨0,0,none⟩) hB).trans h.1,(hb.cell (p:=⟨0,1,none⟩) hB).trans h.2.1,
  (hb.cell (p:=⟨0,2,none⟩) hB).trans h.2.2.1,(hb.cell (p:=⟨0,3,none⟩) hB).trans h.2.2.2⟩
theorem Tab.lt{w:World}(h:Tab w):0<w.heap.size:=by
 rcases Nat.lt_or_ge 0 w.heap.size with h1|h1
 ·exact h1
 ·have:=h.1
  simp[World.cell?,Array.getElem?_eq_none h1]at this
theorem below_drewN{B:Nat}{a w:World}(h:Below B a w)(n:Nat):Below B a (w.drewN n):=h.trans ⟨rfl,rfl,rfl,Nat.le_refl _,fun _ _=>rfl⟩
theorem Tab.drewN{w:World}(h:Tab w)(n:Nat):Tab (w.drewN n):=h.below (below_drewN (Below.refl w.heap.size w) n) h.lt
end Go.Proofs.YtagbkmoahflfdaaGreatDoor.Vm
namespace Go.Proofs.YtagbkmoahflfdaaGreatDoor
open Go.RowKit
def IsRow (k:IntKind) (w:World) (a:Option Addr) (len cap:Nat) (zs:List Int):Prop:=
 (a=none∧len=0∧cap=0∧zs=[]) ∨
 ∃ x,a=some x∧len≤cap∧cap≤maxLen∧zs.length=cap∧(∀i,i<zs.length→w.cell? (x.add i)=some (.int k (zs.getD i 0)))∧∀n ∈ zs,(Lit.int k n).wf=true
theorem gLengths : Tryz.prog.globalNamed "domino/varint.lengths" = some 0 := by kernel_rfl
theorem tLengths:(Tryz.prog.globals[0]?).map (·.type)=some 215:=by kernel_rfl
theorem cellsInt:Tryz.prog.cellsOf 3=1:=by kernel_rfl
theorem cellsArr:Tryz.prog.cellsOf 215=4:=by kernel_rfl
theorem tab_of{W : World}(h : laidMetH Tryz.prog [("domino/varint.lengths", Rows.laid_domino_varint_lengths)] W) : Vm.Tab W := by
 rw[MakeChecks.laidMetH_plain _ _ _ (by kernel_rfl)]at h;have h1:=Lib.tabIs_of_head (zs:=[1,2,4,8]) (k:=.i64) gLengths tLengths Tryz.underlying215 Tryz.underlying3 cellsInt cellsArr h;exact⟨h1.cell gLengths 0 (by decide),h1.cell gLengths 1 (by decide),h1.cell gLengths 2 (by decide),h1.cell gLengths 3 (by decide)⟩
end Go.Proofs.YtagbkmoahflfdaaGreatDoor
namespace Go.Proofs.YtagbkmoahflfdaaGreatDoor.Vm
open Go.RowKit
theorem pt_le(n:Nat)(h:pl n<4):1≤(pt n).length∧(pt n).length≤8:=by
 rw[pt_length];have:pl n=0∨pl n=1∨pl n=2∨pl n=3:=by omega
 rcases this with h|h|h|h<;>rw[h]<;>decide
theorem back_get(n:Nat)(h:pl n<4)(l:List UInt8):gN (pt n++l)=n∧gR (pt n++l)=l∧gE (pt n++l)=0:=by
 obtain⟨b,r,e,h1,h2⟩:=pt_head n h;have hk:gk (pt n++l)=wd (pl n):=by rw[e];exact h1
 have hl:=pt_length n;have:=g_ok (l:=pt n++l) (by rw[hk,List.length_append,hl];omega);rw[this.1,this.2.1,this.2.2,hk];refine⟨pt_back n h l,?_,rfl⟩;rw[←hl];simp
theorem pl_lt(n:Nat)(h:(n:Int)<4611686018427387904):pl n<4:=by have:=pl_cases n;omega
theorem owns_below{w w':World}{B:Nat}{e:TypeId}{size:Nat}{v:Value}{n:Nat}{xs:List Value}(h:w.ownsRow B e size v n xs)(hb:Below w.heap.size w w'):w'.ownsRow B e size v n xs:=by
 refine⟨h.1,?_⟩;rcases h.2 with hn|⟨g,cap,cur,rfl,hg,hgg,rest⟩
 ·exact .inl hn
 ·refine .inr ⟨g,cap,cur,rfl,hg,?_,rest⟩
  have hlt:g<w.heap.size:=by
   rcases Nat.lt_or_ge g w.heap.size with h1|h1
   ·exact h1
   ·rw[Array.getElem?_eq_none h1]at hgg;cases hgg
  rw[hb.block g hlt];exact hgg
theorem builder_below{w w':World}{T e:TypeId}{B b:Nat}{bs:List Value}(h:Lib.IsBuilder T e B b bs w)(hb:Below w.heap.size w w'):Lib.IsBuilder T e B b bs w':=by
 have one:∀p,Lib.BuilderAt T e B b p bs w→Lib.BuilderAt T e B b p bs w':=by
  intro p h;have hlt:=h.lt;obtain⟨hB,v,hbk,hown,hne⟩:=h;exact⟨hB,v,by rw[hb.block b hlt];exact hbk,owns_below hown hb,hne⟩
 rcases h with h|h
 ·exact .inl (one _ h)
 ·exact .inr (one _ h)
end Go.Proofs.YtagbkmoahflfdaaGreatDoor.Vm
