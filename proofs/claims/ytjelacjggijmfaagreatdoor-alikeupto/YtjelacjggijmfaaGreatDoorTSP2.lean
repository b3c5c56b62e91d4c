/-
  Package plans: may the operands name what they name? the height behind an instruction.
-/
import Derived.Test.YtjelacjggijmfaaGreatDoorTPure
import Derived.LoopN
import Derived.IntWalk
import Derived.Deep.OwnRows
import Derived.RangeFuncCalls
import Derived.WalkMore
import Derived.Deep.RegionWith
import Derived.Sort.AtCall
import Derived.BigQuiet
import Derived.Deep.QuietTactic
import Derived.Lib.IndexBytes
import Derived.Maps.OwnSet
import Derived.Maps.OwnOps
import Derived.Maps.Range
set_option maxHeartbeats 1000000
set_option maxRecDepth 20000
namespace Go.Proofs.YtjelacjggijmfaaGreatDoor
open Go.RowKit
theorem wrap_in (n:Int) (h: -9223372036854775808≤n∧n≤9223372036854775807):wrap64 n=n:=by unfold wrap64;omega
theorem get_cut (s:ByteArray) (a b i:Nat) (h:i<(s.extract a b).size) (h' :a+i<s.size):(s.extract a b)[i]=s[a+i]:=by
 show(s.extract a b).data[i]=s.data[a+i];simp[ByteArray.data_extract]
theorem or_mul8 (a b:Nat) (h:b<256):(a*256)|||b=a*256+b:=by
 have:a*256=a<<<8:=by rw[Nat.shiftLeft_eq]
 rw[this,Nat.shiftLeft_add_eq_or_of_lt (by omega)]
theorem i64_or_nat (a b:Nat) (ha:a<65536) (hb:b<65536):bits .or .i64 (a:Int) (b:Int)=((a|||b:Nat):Int):=by
 have hx:a|||b<2^16:=Nat.or_lt_two_pow (by omega) (by omega)
 have e1:(BitVec.ofInt 64 (a:Int)).toNat=a:=by simp;omega
 have e2:(BitVec.ofInt 64 (b:Int)).toNat=b:=by simp;omega
 show IntKind.i64.wrap ((BitVec.ofInt 64 (a:Int)|||BitVec.ofInt 64 (b:Int)).toNat:Int)=_;rw[BitVec.toNat_or,e1,e2];have:(((a|||b:Nat):Int))<65536:=by omega
 generalize (a|||b)=c at*;simp[IntKind.wrap,IntKind.signed,IntKind.bits];omega
theorem num1 (x:UInt8):bits BinOp.or IntKind.i64 0 (wrap64 (x.toNat:Int))=x.toNat:=by
 have h:=x.toNat_lt;rw[wrap_in _ (by omega)];have:=i64_or_nat 0 x.toNat (by omega) (by omega);rw[Nat.zero_or] at this;exact this
theorem num2 (x y:UInt8):bits BinOp.or IntKind.i64 (wrap64 (bits BinOp.or IntKind.i64 0 (wrap64 (x.toNat:Int))*256)) (wrap64 (y.toNat:Int))=256*x.toNat+y.toNat:=by
 have h:=x.toNat_lt;have h' :=y.toNat_lt;rw[num1,wrap_in _ (by omega),wrap_in _ (by omega)];have e:((x.toNat:Int)*256)=((x.toNat*256:Nat):Int):=by omega
 rw[e,i64_or_nat _ _ (by omega) (by omega),or_mul8 _ _ (by omega)];omega
theorem number_0 (s:ByteArray) (w:World) (hs:s.size=0):
 Calls Tryz.prog 168 #[.string s] w fun e w' =>e= .returned (.int .i64 0)∧w=w' :=by
 go_enter Tryz.func168,Tryz.ntmps168
 go_wp2
 refine wp_loop_rounds 1 ?_;rw[rounds_succ];go_wp2
 all_goals go_ret
 all_goals exact⟨rfl,rfl⟩
theorem number_1 (s:ByteArray) (w:World) (hs:s.size=1):
 Calls Tryz.prog 168 #[.string s] w fun e w' =>e= .returned (.int .i64 (s[0].toNat))∧w=w' :=by
 have h0:0<s.size:=by omega
 go_enter Tryz.func168,Tryz.ntmps168
 go_wp2
 refine wp_loop_rounds 2 ?_;rw[rounds_succ];go_wp2;rw[rounds_succ];go_wp2
 all_goals go_ret
 all_goals exact⟨ret_int (num1 _),rfl⟩
theorem number_2 (s:ByteArray) (w:World) (hs:s.size=2):
 Calls Tryz.prog 168 #[.string s] w fun e w' =>e= .returned (.int .i64 (256*s[0].toNat+s[1].toNat:Int))∧w=w' :=by
 have h0:0<s.size:=by omega
 have h1:1<s.size:=by omega
 go_enter Tryz.func168,Tryz.ntmps168
 go_wp2
 refine wp_loop_rounds 3 ?_;rw[rounds_succ];go_wp2;rw[rounds_succ];go_wp2;rw[rounds_succ];go_wp2
 all_goals go_ret
 all_goals exact⟨ret_int (num2 _ _),rfl⟩
def numOf (t:ByteArray):Nat:=if t.size=0 then 0 else if t.size=1 then Pl.opAt t.data.toList 0 else Pl.two t.data.toList 0
theorem number_all (t:ByteArray) (w:World) (h:t.size≤2):
 Calls Tryz.prog 168 #[.string t] w fun e w' =>e= .returned (.int .i64 (numOf t:Nat))∧w=w' :=by
 unfold numOf;have:t.size=0∨t.size=1∨t.size=2:=by omega
 rcases this with h|h|h
 ·rw[if_pos h];exact number_0 _ w h
 ·rw[if_neg (by omega),if_pos h,opAt_get t 0 (by omega)];exact number_1 _ w h
 ·rw[if_neg (by omega),if_neg (by omega),two_get t 0 (by omega)]
  refine(number_2 _ w h).mono ?_
  rintro e w' ⟨rfl,rfl⟩
  exact⟨ret_int (by simp),rfl⟩
theorem numOf_cut (s:ByteArray) (a n:Nat) (h:a+n≤s.size) (hn:n≤2):numOf (s.extract a (a+n))=(if n=0 then 0 else if n=1 then Pl.opAt s.data.toList a else Pl.two s.data.toList a):=by
 have hz:(s.extract a (a+n)).size=n:=by simp[ByteArray.size_extract];omega
 unfold numOf;rw[hz]
 by_cases h0:n=0
 ·rw[if_pos h0,if_pos h0]
 rw[if_neg h0,if_neg h0]
 by_cases h1:n=1
 ·rw[if_pos h1,if_pos h1,opAt_get _ 0 (by omega),opAt_get _ a (by omega),get_cut s a (a+n) 0 (by omega) (by omega)];rfl
 ·rw[if_neg h1,if_neg h1,two_get _ 0 (by omega),two_get _ a (by omega),get_cut s a (a+n) 0 (by omega) (by omega),get_cut s a (a+n) (0+1) (by omega) (by omega)];rfl
theorem number_cut (s:ByteArray) (a n:Nat) (w:World) (hn:n≤2) (h:a+n≤s.size):
 Calls Tryz.prog 168 #[.string (s.extract a (a+n))] w fun e w' =>e= .returned (.int .i64 (if n=0 then 0 else if n=1 then Pl.opAt s.data.toList a else Pl.two s.data.toList a:Nat))∧w=w' :=by
 have hz:(s.extract a (a+n)).size=n:=by simp[ByteArray.size_extract];omega
 rw[←numOf_cut s a n h hn];exact number_all _ w (by omega)
theorem _root_.Go.Below.drewN {n:Nat} {w w' :World} (h:Below n w w') (k:Nat):Below n w (w'.drewN k):=⟨h.os,h.tape,h.output,h.size,h.block⟩
def Row (w:World) (b:Nat) (t:TypeId) (vs:List Value):Prop:=w.heap[b]?=some (.cells vs.toArray t (0,0))
theorem Row.new (w:World) (t:TypeId) (vs:List Value):Row (w.alloc (.cells vs.toArray t)) w.heap.size t vs:=by show(w.heap.push _)[w.heap.size]?=_;simp
theorem Row.lt {w:World} {b:Nat} {t:TypeId} {vs:List Value} (h:Row w b t vs):b<w.heap.size:=(Array.getElem?_eq_some_iff.1 h).1
theorem Row.later {w w' :World} {b:Nat} {t:TypeId} {vs:List Value} (h:Row w b t vs) (hb:Below w.heap.size w w'):Row w' b t vs:=(hb.block b h.lt).trans h
theorem Row.below {w w' :World} {b n:Nat} {t:TypeId} {vs:List Value} (h:Row w b t vs) (hb:Below n w w') (hn:b<n):Row w' b t vs:=(hb.block b hn).trans h
theorem Row.alloc {w:World} {b:Nat} {t:TypeId} {vs:List Value} (h:Row w b t vs) (o:Obj):Row (w.alloc o) b t vs:=(Below.heap_alloc w o b h.lt).trans h
theorem Row.drew {w:World} {b:Nat} {t:TypeId} {vs:List Value} (h:Row w b t vs):Row w.drew b t vs:=h
theorem Row.cell {w:World} {b:Nat} {t:TypeId} {vs:List Value} (h:Row w b t vs) (i:Nat) (hi:i<vs.length):w.cell? ⟨b,i,none⟩=some vs[i]:=by
 unfold Row at h;simp[World.cell?,h,hi]
theorem Row.frozen {w:World} {b:Nat} {t:TypeId} {vs:List Value} (h:Row w b t vs) (i:Nat):w.frozen? ⟨b,i,none⟩=false:=by unfold Row at h;simp[World.frozen?,h]
theorem Row.set {w:World} {b:Nat} {t:TypeId} {vs:List Value} (h:Row w b t vs) (i:Nat) (u:Value):Row (w.setCell ⟨b,i,none⟩ u) b t (vs.set i u):=by
 unfold Row at*;simp[World.setCell,Array.getElem?_modify,h]
theorem Row.other {w:World} {b c:Nat} {t:TypeId} {vs:List Value} (h:Row w b t vs) (hne:b≠c) (o:Nat) (u:Value):Row (w.setCell ⟨c,o,none⟩ u) b t vs:=
 (Below.heap_setCell w ⟨c,o,none⟩ u b hne).trans h
theorem Row.grown {w w' :World} {b:Nat} {t:TypeId} {vs:List Value} {row:Option Nat} (h:Row w b t vs) (hg:w.grownBy w' row) (hne:some b≠row):Row w' b t vs:=(hg.block b h.lt hne).trans h
theorem Row.own (B b:Nat) (t:TypeId) (vs:List Value) {β:Type}:OwnFrom B (fun (_:β) W=>Row W b t vs):=fun _ X Y row hs hg hr=>by
 refine(hg.block b (Array.getElem?_eq_some_iff.1 hs).1 (fun e=> ?_)).trans hs;obtain⟨_,o,ho,hc⟩:=hr b e.symm;unfold Row at hs;rw[hs] at ho;cases ho;cases hc
theorem made_row (z:Value) (n:Nat):madeCells #[z] n=(List.replicate n z).toArray:=by
 apply Array.ext
 ·simp[madeCells]
 ·intro i h1 h2
  simp[madeCells,Nat.mod_one]
theorem Row.made (w:World) (t:TypeId) (z:Value) (n:Nat):Row (w.alloc (.cells (madeCells #[z] n) t)) w.heap.size t (List.replicate n z):=by
 rw[made_row];exact Row.new w t _
structure Turned (S:Nat→Prop) (X Y:World):Prop where
 os:Y.os=X.os
 tape:Y.tape=X.tape
 output:Y.output=X.output
 size:X.heap.size≤Y.heap.size
 block:∀k,k<X.heap.size→¬S k→Y.heap[k]?=X.heap[k]?
theorem Turned.refl (S:Nat→Prop) (X:World):Turned S X X:=⟨rfl,rfl,rfl,Nat.le_refl _,fun _ _ _=>rfl⟩
theorem Turned.trans {S:Nat→Prop} {X Y Z:World} (h:Turned S X Y) (k:Turned S Y Z):Turned S X Z:=
 ⟨k.os.trans h.os,k.tape.trans h.tape,k.output.trans h.output,Nat.le_trans h.size k.size,fun j hj hs=>(k.block j (Nat.lt_of_lt_of_le hj h.size) hs).trans (h.block j hj hs)⟩
theorem Turned.mono {S T:Nat→Prop} {X Y:World} (h:Turned S X Y) (hs:∀k,S k→T k):Turned T X Y:=⟨h.os,h.tape,h.output,h.size,fun j hj ht=>h.block j hj (fun e=>ht (hs j e))⟩
theorem Turned.ofBelow {S:Nat→Prop} {X Y:World} (h:Below X.heap.size X Y):Turned S X Y:=⟨h.os,h.tape,h.output,h.size,fun j hj _=>h.block j hj⟩
theorem Turned.ofGrown {X Y:World} {r:Option Nat} (h:X.grownBy Y r):Turned (fun k=>some k=r) X Y:=⟨h.os,h.tape,h.output,h.size,fun j hj hs=>h.block j hj hs⟩
theorem Turned.alloc {S:Nat→Prop} {X Y:World} (h:Turned S X Y) (o:Obj):Turned S X (Y.alloc o):=
 ⟨h.os,h.tape,h.output,by rw[World.size_alloc];exact Nat.le_succ_of_le h.size,fun k hk hs=>(Below.heap_alloc Y o k (Nat.lt_of_lt_of_le hk h.size)).trans (h.block k hk hs)⟩
theorem Turned.set {S:Nat→Prop} {X Y:World} (h:Turned S X Y) {b:Nat} (hb:S b) (o:Nat) (v:Value):Turned S X (Y.setCell ⟨b,o,none⟩ v):=
 ⟨h.os,h.tape,h.output,by simpa [World.setCell] using h.size,fun k hk hs=>(Below.heap_setCell Y ⟨b,o,none⟩ v k (fun e=>hs (by rw[show k=b from e];exact hb))).trans (h.block k hk hs)⟩
theorem Turned.below {S:Nat→Prop} {n:Nat} {w X Y:World} (h:Turned S X Y) (hb:Below n w X) (hn:n≤X.heap.size) (hs:∀k,S k→n≤k):Below n w Y:=
 ⟨h.os.trans hb.os,h.tape.trans hb.tape,h.output.trans hb.output,Nat.le_trans hb.size h.size,fun k hk=>(h.block k (by omega) (fun e=>by have:=hs k e;omega)).trans (hb.block k hk)⟩
theorem Turned.row {S:Nat→Prop} {X Y:World} (h:Turned S X Y) {b:Nat} {t:TypeId} {vs:List Value} (hr:Row X b t vs) (hs:¬S b):Row Y b t vs:=(h.block b hr.lt hs).trans hr
theorem hasPrefix_any (s p:ByteArray) (w:World):
 Calls Tryz.prog 210 #[.string s,.string p] w fun e w' =>e= .returned (.bool (decide (p.size≤s.size)&&((s.extract 0 p.size).toList==p.toList)))∧w=w' :=by
 by_cases h:p.size≤s.size
 ·go_enter Tryz.func210,Tryz.ntmps210
  go_wp2
  all_goals go_ret
  all_goals exact⟨ret_bool (by simp[h]),rfl⟩
 ·go_enter Tryz.func210,Tryz.ntmps210
  go_wp2
  all_goals go_ret
  all_goals exact⟨ret_bool (by simp[h]),rfl⟩
theorem cutPrefix_yes (s p:ByteArray) (w:World) (h:p.size≤s.size) (he:((s.extract 0 p.size).toList==p.toList)=true):
 Calls Tryz.prog 126 #[.string s,.string p] w fun e w' =>e= .returned (.tuple #[.string (s.extract p.size s.size),.bool true])∧w=w' :=by
 have hc:Calls Tryz.prog 167 #[.string s,.string p] w fun e w' =>e= .returned (.tuple #[.string (s.extract p.size s.size),.bool true])∧w=w' :=by
  go_enter Tryz.func167,Tryz.ntmps167
  go_wp2_with fail
  refine(hasPrefix_any s p w).mono ?_
  rintro e w1 ⟨rfl,rfl⟩
  rw[he,decide_eq_true h]
  go_wp2_with fail
  all_goals go_ret2
  all_goals exact⟨rfl,rfl⟩
 go_enter Tryz.func126,Tryz.ntmps126
 go_wp2_with fail
 refine hc.mono ?_
 rintro e w1 ⟨rfl,rfl⟩
 go_wp2_with fail
 all_goals go_ret2
 all_goals exact⟨rfl,rfl⟩
theorem cutPrefix_no (s p:ByteArray) (w:World) (he:(decide (p.size≤s.size)&&((s.extract 0 p.size).toList==p.toList))=false):
 Calls Tryz.prog 126 #[.string s,.string p] w fun e w' =>e= .returned (.tuple #[.string s,.bool false])∧w=w' :=by
 have hc:Calls Tryz.prog 167 #[.string s,.string p] w fun e w' =>e= .returned (.tuple #[.string s,.bool false])∧w=w' :=by
  go_enter Tryz.func167,Tryz.ntmps167
  go_wp2_with fail
  refine(hasPrefix_any s p w).mono ?_
  rintro e w1 ⟨rfl,rfl⟩
  rw[he]
  go_wp2_with fail
  all_goals go_ret2
  all_goals exact⟨rfl,rfl⟩
 go_enter Tryz.func126,Tryz.ntmps126
 go_wp2_with fail
 refine hc.mono ?_
 rintro e w1 ⟨rfl,rfl⟩
 go_wp2_with fail
 all_goals go_ret2
 all_goals exact⟨rfl,rfl⟩
theorem number_ahead (s:ByteArray) (w:World) (h:2≤s.size):
 Calls Tryz.prog 168 #[.string (s.extract 0 2)] w fun e w' =>e= .returned (.int .i64 (Pl.two s.data.toList 0:Nat))∧w=w' :=number_cut s 0 2 w (Nat.le_refl _) (by omega)
theorem takeNumber_yes (s:ByteArray) (w:World) (h:2≤s.size):
 Calls Tryz.prog 127 #[.string s] w fun e w' =>e= .returned (.tuple #[.int .i64 (Pl.two s.data.toList 0:Nat),.string (s.extract 2 s.size),.bool true])∧Below w.heap.size w w' :=by
 have C:=hide (fun w=>number_ahead s w h)
 go_enter Tryz.func127,Tryz.ntmps127
 go_wp2
 go_region_with (go_at_call 168;refine(uh C _).mono ?_;rintro e w1 ⟨rfl,rfl⟩)
 all_goals go_wp2_with fail
 all_goals go_ret3
 all_goals exact⟨rfl,(Below.refl _ w).drew⟩
theorem takeNumber_no (s:ByteArray) (w:World) (h:s.size<2):
 Calls Tryz.prog 127 #[.string s] w fun e w' =>e= .returned (.tuple #[.int .i64 0,.string ⟨#[]⟩,.bool false])∧w=w' :=by
 go_enter Tryz.func127,Tryz.ntmps127
 go_wp2
 all_goals go_ret3
 all_goals exact⟨rfl,rfl⟩
theorem piece_is (l:List UInt8) (k:Nat):(((⟨l.toArray⟩:ByteArray).extract 2 (⟨l.toArray⟩:ByteArray).size).extract 0 k)=⟨((l.drop 2).take k).toArray⟩:=by
 apply mk_eq;rw[Lib.extract_data,Lib.extract_to_end];simp
theorem tail_is (l:List UInt8) (k:Nat):(((⟨l.toArray⟩:ByteArray).extract 2 (⟨l.toArray⟩:ByteArray).size).extract k ((⟨l.toArray⟩:ByteArray).extract 2 (⟨l.toArray⟩:ByteArray).size).size)=⟨(l.drop (2+k)).toArray⟩:=by
 apply mk_eq;rw[Lib.extract_to_end,Lib.extract_to_end];simp
theorem takeString_yes (l:List UInt8) (w:World) (h:2≤l.length∧2+Pl.two l 0≤l.length) (hl:l.length≤8388608):
 Calls Tryz.prog 128 #[.string ⟨l.toArray⟩] w fun e w' =>e= .returned (.tuple #[.string ⟨((l.drop 2).take (Pl.two l 0)).toArray⟩,.string ⟨(l.drop (2+Pl.two l 0)).toArray⟩,.bool true])∧Below w.heap.size w w' :=by
 have HP:=hide (piece_is l (Pl.two l 0));have HT:=hide (tail_is l (Pl.two l 0));have hz:((⟨l.toArray⟩:ByteArray).extract 2 (⟨l.toArray⟩:ByteArray).size).size=l.length-2:=by rw[ByteArray.size_extract,size_mk];omega
 have hsz:2≤(⟨l.toArray⟩:ByteArray).size:=by rw[size_mk];exact h.1
 have C:=hide (takeNumber_yes ⟨l.toArray⟩ w hsz);rw[mk_list] at C;generalize Pl.two l 0=k at*;have C' :=uh C;generalize hr:((⟨l.toArray⟩:ByteArray).extract 2 (⟨l.toArray⟩:ByteArray).size)=r at*;have h1:k≤r.size:=by omega
 have h2:r.size≤8388608:=by omega
 have HL:=hide hl;clear hr hsz hl h hz C;generalize (⟨l.toArray⟩:ByteArray)=s at*;have C:=hide C';clear C'
 go_enter Tryz.func128,Tryz.ntmps128
 go_wp2_with fail
 refine(uh C).mono ?_
 rintro e w1 ⟨rfl,hb1⟩
 go_wp2_with fail
 go_region
 all_goals go_wp2_with fail
 all_goals go_ret3
 all_goals refine⟨?_,hb1.drew⟩
 all_goals(rw [←uh HP,←uh HT];rfl)
theorem takeString_no (l:List UInt8) (w:World) (h:¬(2≤l.length∧2+Pl.two l 0≤l.length)) (hl:l.length≤8388608):
 Calls Tryz.prog 128 #[.string ⟨l.toArray⟩] w fun e w' =>e= .returned (.tuple #[.string ⟨#[]⟩,.string ⟨#[]⟩,.bool false])∧Below w.heap.size w w' :=by
 by_cases h2:2≤l.length
 ·have hz:((⟨l.toArray⟩:ByteArray).extract 2 (⟨l.toArray⟩:ByteArray).size).size=l.length-2:=by rw[ByteArray.size_extract,size_mk];omega
  have hsz:2≤(⟨l.toArray⟩:ByteArray).size:=by rw[size_mk];exact h2
  have C:=hide (takeNumber_yes ⟨l.toArray⟩ w hsz);rw[mk_list] at C;have h3:l.length<2+Pl.two l 0:=by omega
  generalize Pl.two l 0=k at*;have C' :=uh C;generalize hr:((⟨l.toArray⟩:ByteArray).extract 2 (⟨l.toArray⟩:ByteArray).size)=r at*;have h1:r.size<k:=by omega
  have HL:=hide hl;clear hr hsz hl h hz C h3 h2;generalize (⟨l.toArray⟩:ByteArray)=s at*;have C:=hide C';clear C'
  go_enter Tryz.func128,Tryz.ntmps128
  go_wp2_with fail
  refine(uh C).mono ?_
  rintro e w1 ⟨rfl,hb1⟩
  go_wp2_with fail
  all_goals go_ret3
  all_goals exact⟨rfl,hb1⟩
 ·have hsz:(⟨l.toArray⟩:ByteArray).size<2:=by rw[size_mk];omega
  generalize (⟨l.toArray⟩:ByteArray)=s at*
  go_enter Tryz.func128,Tryz.ntmps128
  go_wp2_with fail
  refine(takeNumber_no s w hsz).mono ?_
  rintro e w1 ⟨rfl,rfl⟩
  go_wp2_with fail
  all_goals go_ret3
  all_goals exact⟨rfl,Below.refl _ _⟩
def wd1 (op:Nat):Nat:=if op=1∨op=4∨op=8 then 1 else if op=2∨op=6∨op=7∨op=3 then 2 else 0
def wd2 (op:Nat):Nat:=if op=3 then 2 else 0
def isOp (op:Nat):Bool:=decide (1≤op∧op≤8)
theorem widths_any (op:Nat) (hc:op<256) (w:World):
 Calls Tryz.prog 149 #[.int .u8 op] w fun e w' =>e= .returned (.tuple #[.int .i64 (wd1 op),.int .i64 (wd2 op),.bool (isOp op)])∧w=w' :=by
 by_cases h9:op=0∨9≤op
 ·have b1:((op:Int)==1)=false:=by rw[beq_eq_false_iff_ne];omega
  have b2:((op:Int)==2)=false:=by rw[beq_eq_false_iff_ne];omega
  have b3:((op:Int)==3)=false:=by rw[beq_eq_false_iff_ne];omega
  have b4:((op:Int)==4)=false:=by rw[beq_eq_false_iff_ne];omega
  have b5:((op:Int)==5)=false:=by rw[beq_eq_false_iff_ne];omega
  have b6:((op:Int)==6)=false:=by rw[beq_eq_false_iff_ne];omega
  have b7:((op:Int)==7)=false:=by rw[beq_eq_false_iff_ne];omega
  have b8:((op:Int)==8)=false:=by rw[beq_eq_false_iff_ne];omega
  have H9:=hide h9;clear h9
  go_enter Tryz.func149,Tryz.ntmps149
  go_wp2
  all_goals go_ret3
  have h9:=uh H9;have e1:wd1 op=0:=by unfold wd1;rw[if_neg (by omega),if_neg (by omega)]
  have e2:wd2 op=0:=by unfold wd2;rw[if_neg (by omega)]
  have e3:isOp op=false:=by unfold isOp;simp only[decide_eq_false_iff_not];omega
  rw[e1,e2,e3];exact⟨rfl,rfl⟩
 ·have:op=1∨op=2∨op=3∨op=4∨op=5∨op=6∨op=7∨op=8:=by omega
  rcases this with rfl|rfl|rfl|rfl|rfl|rfl|rfl|rfl
  all_goals go_enter Tryz.func149,Tryz.ntmps149
  all_goals go_wp2
  all_goals go_ret3
  all_goals exact⟨rfl,rfl⟩
theorem uses_any (op:Nat) (h1:1≤op) (h8:op≤8) (w:World):
 Calls Tryz.prog 171 #[.int .u8 op] w fun e w' =>e= .returned (.tuple #[.int .i64 (Pl.taken op),.int .i64 (Pl.pushed op)])∧w=w' :=by
 have:op=1∨op=2∨op=3∨op=4∨op=5∨op=6∨op=7∨op=8:=by omega
 rcases this with rfl|rfl|rfl|rfl|rfl|rfl|rfl|rfl
 all_goals go_enter Tryz.func171,Tryz.ntmps171
 all_goals go_wp2
 all_goals go_ret2
 all_goals exact⟨rfl,rfl⟩
def insV (i:Pl.Ins):Value:= .agg #[.int .u8 i.op,.int .i64 i.at_,.int .i64 i.next,.int .i64 i.first,.int .i64 i.second]
theorem wd_isz (op:Nat):(isOp op=true→Pl.isz op=1+wd1 op+wd2 op)∧(isOp op=false→Pl.isz op=0):=by
 by_cases h:op≤8
 ·have:op=0∨op=1∨op=2∨op=3∨op=4∨op=5∨op=6∨op=7∨op=8:=by omega
  rcases this with rfl|rfl|rfl|rfl|rfl|rfl|rfl|rfl|rfl<;>decide
 ·have e:isOp op=false:=by unfold isOp;simp only[decide_eq_false_iff_not];omega
  rw[e];refine⟨fun h=>(by cases h),fun _=> ?_⟩;unfold Pl.isz
  repeat rw[if_neg (by omega)]
theorem wd_le (op:Nat):wd1 op≤2∧wd2 op≤2:=by
 unfold wd1 wd2
 constructor
 ·split
  ·omega
  ·split<;>omega
 ·split<;>omega
theorem mk_parts (c:Pl.Bs) (p:Nat) (h:isOp (Pl.opAt c p)=true):
 Pl.mkIns c p=⟨Pl.opAt c p,p,p+1+wd1 (Pl.opAt c p)+wd2 (Pl.opAt c p),if wd1 (Pl.opAt c p)=0 then 0 else if wd1 (Pl.opAt c p)=1 then Pl.opAt c (p+1) else Pl.two c (p+1),
  if wd2 (Pl.opAt c p)=0 then 0 else if wd2 (Pl.opAt c p)=1 then Pl.opAt c (p+1+wd1 (Pl.opAt c p)) else Pl.two c (p+1+wd1 (Pl.opAt c p))⟩:=by
 unfold Pl.mkIns
 have:Pl.opAt c p=1∨Pl.opAt c p=2∨Pl.opAt c p=3∨Pl.opAt c p=4∨Pl.opAt c p=5∨Pl.opAt c p=6∨Pl.opAt c p=7∨Pl.opAt c p=8:=by
  unfold isOp at h;simp only[decide_eq_true_eq] at h;omega
 rcases this with h|h|h|h|h|h|h|h<;>rw[h]<;>simp[Pl.isz,wd1,wd2]
theorem insAt_yes (s:ByteArray) (p:Nat) (w:World) (hp:p<s.size) (hs:s.size≤8388608) (hw:Pl.whole s.data.toList p):
 Calls Tryz.prog 170 #[.string s,.int .i64 p] w fun e w' =>e= .returned (.tuple #[insV (Pl.mkIns s.data.toList p),.bool true])∧Below w.heap.size w w' :=by
 have ho:=opAt_get s p hp;have hlt:=Pl.opAt_lt s.data.toList p
 have hop:isOp (Pl.opAt s.data.toList p)=true:=by
  cases h:isOp (Pl.opAt s.data.toList p) with
  |true=>rfl
  |false=>exact absurd ((wd_isz _).2 h) hw.1
 have hn:=(wd_isz _).1 hop;have hw2:=hw.2;rw[hn,←Lib.size_eq] at hw2;obtain⟨hl1,hl2⟩:=wd_le (Pl.opAt s.data.toList p);have HM:=hide (mk_parts s.data.toList p hop);have CW:=hide (fun w=>widths_any (Pl.opAt s.data.toList p) hlt w);have HN1:=hide (numOf_cut s (p+1) (wd1 (Pl.opAt s.data.toList p)) (by omega) hl1)
 have HN2:=hide (numOf_cut s (p+1+wd1 (Pl.opAt s.data.toList p)) (wd2 (Pl.opAt s.data.toList p)) (by omega) hl2);rw[hop] at CW;have HO:=hide ho;clear hw hn ho hlt;generalize Pl.opAt s.data.toList p=op at*;generalize wd1 op=a at*;generalize wd2 op=b at*;obtain⟨q,hq⟩:∃q,q=p+1:=⟨_,rfl⟩;obtain⟨r,hr⟩:∃r,r=p+1+a:=⟨_,rfl⟩
 obtain⟨t,ht⟩:∃t,t=p+1+a+b:=⟨_,rfl⟩;rw[←ht,←hr,←hq] at HM;rw[←hr,←hq] at HN1;rw[←ht,←hr] at HN2;have e1:IntKind.i64.wrap ((p:Int)+1)=(q:Int):=by simp[IntKind.wrap,IntKind.signed,IntKind.bits];omega
 have e2:IntKind.i64.wrap ((q:Int)+(a:Int))=(r:Int):=by simp[IntKind.wrap,IntKind.signed,IntKind.bits];omega
 have e3:((p:Int)+1+(a:Int)+(b:Int))=(t:Int):=by omega
 have E1:=hide e1;have E2:=hide e2;have E3:=hide e3;have i1:q≤r:=by omega
 have i2:r≤t:=by omega
 have i3:r≤s.size:=by omega
 have i6:t≤s.size:=by omega
 have i7:r≤q+2:=by omega
 have i8:t≤r+2:=by omega
 have HQ:=hide hq;clear e1 e2 e3
 go_enter Tryz.func170,Tryz.ntmps170
 go_wp2_with fail
 rw[←uh HO];refine(uh CW _).mono ?_
 rintro e w1 ⟨rfl,rfl⟩
 go_wp2_with fail
 rw[uh E3];have e1:=uh E1;have e2:=uh E2;clear hq hr ht
 go_region_with (go_at_call 168;refine(number_all _ _ (by simp[ByteArray.size_extract];omega)).mono ?_;rintro e w1 ⟨rfl,rfl⟩)
 all_goals go_wp2_with fail
 have HM2:Hid (insV (Pl.mkIns s.data.toList p)= .agg #[.int .u8 op,.int .i64 p,.int .i64 t,.int .i64 (numOf (s.extract q r):Nat),.int .i64 (numOf (s.extract r t):Nat)]):=by
  show _=_;rw[uh HM,uh HN1,uh HN2];rfl
 clear HM HN1 HN2;rw[uh HM2];refine bodyPost_ret (v:= .tuple #[.agg #[.int .u8 op,.int .i64 p,.int .i64 t,.int .i64 (numOf (s.extract q r):Nat),.int .i64 (numOf (s.extract r t):Nat)],.bool true]) ?_ rfl ⟨rfl,((Below.refl _ w).alloc (Nat.le_refl _) _).drew⟩;simp[results,Tryz.results170,go_sem]
theorem insAt_no (s:ByteArray) (p:Nat) (w:World) (hp:p<s.size) (hs:s.size≤8388608) (hw:¬Pl.whole s.data.toList p):
 Calls Tryz.prog 170 #[.string s,.int .i64 p] w fun e w' =>e= .returned (.tuple #[insV ⟨0,0,0,0,0⟩,.bool false])∧Below w.heap.size w w' :=by
 have ho:=opAt_get s p hp;have hlt:=Pl.opAt_lt s.data.toList p;have CW:=hide (fun w=>widths_any (Pl.opAt s.data.toList p) hlt w);obtain⟨hl1,hl2⟩:=wd_le (Pl.opAt s.data.toList p);have HO:=hide ho;unfold Pl.whole at hw;rw[←Lib.size_eq] at hw;cases hop:isOp (Pl.opAt s.data.toList p) with
 |false=>
  rw[hop] at CW;clear hw ho hlt hop;generalize Pl.opAt s.data.toList p=op at*;generalize wd1 op=a at*;generalize wd2 op=b at*
  go_enter Tryz.func170,Tryz.ntmps170
  go_wp2_with fail
  rw[←uh HO];refine(uh CW _).mono ?_
  rintro e w1 ⟨rfl,rfl⟩
  go_wp2_with fail
  refine bodyPost_ret (v:= .tuple #[insV ⟨0,0,0,0,0⟩,.bool false]) ?_ rfl ⟨rfl,(Below.refl _ w).alloc (Nat.le_refl _) _⟩;simp[results,Tryz.results170,go_sem,insV]
 |true=>
  have hn:=(wd_isz _).1 hop;rw[hop] at CW
  have hw2:s.size<p+(1+wd1 (Pl.opAt s.data.toList p)+wd2 (Pl.opAt s.data.toList p)):=by
   rw[hn] at hw;omega
  clear hw ho hlt hop hn;generalize Pl.opAt s.data.toList p=op at*;generalize wd1 op=a at*;generalize wd2 op=b at*
  go_enter Tryz.func170,Tryz.ntmps170
  go_wp2_with fail
  rw[←uh HO];refine(uh CW _).mono ?_
  rintro e w1 ⟨rfl,rfl⟩
  go_wp2_with fail
  refine bodyPost_ret (v:= .tuple #[insV ⟨0,0,0,0,0⟩,.bool false]) ?_ rfl ⟨rfl,(Below.refl _ w).alloc (Nat.le_refl _) _⟩;simp[results,Tryz.results170,go_sem,insV]
end Go.Proofs.YtjelacjggijmfaaGreatDoor
namespace Go.Proofs.YtjelacjggijmfaaGreatDoor
open Go.RowKit Go.Maps
theorem grown_undrew {w w' :World} {r:Option Nat} (h:w.drew.grownBy w' r):w.grownBy w' r:=⟨h.os,h.tape,h.output,h.size,h.block⟩
theorem lawI:Keyed Tryz.prog 3:=int_keyed Tryz.underlying3
theorem zeroI (w:World):(zeroValue 3).run Tryz.prog w= .ok (.int .i64 0) w:=by kernel_rfl
def kI (n:Nat):Lit:= .int .i64 n
theorem keyI (n:Nat) (hn:n≤9223372036854775807):keyOf Tryz.prog 3 (.int .i64 n)=some (kI n):=keyOf_int_mk Tryz.underlying3 (WalkArith.wf_i64 (by omega))
abbrev Mw (w:World) (b n:Nat) (D:DataW Unit):Prop:=w.ownsMap Tryz.prog 3 (plainElem Tryz.prog 3) b n D
structure Holds (D:DataW Unit) (A:Pl.Aw):Prop where
 at_:∀p,(A p=none→has D (kI p)=false)∧(∀h,A p=some h→has D (kI p)=true∧∀z,D.atKey (kI p) z= .lit (.int .i64 h))
 only:∀k,has D k=true→∃p,k=kI p
theorem agrees_of {D:DataW Unit} {A:Pl.Aw} (hA:Holds D A) {p h:Nat} {c:Int} (hc:D.atKey (kI p) (.lit (.int .i64 0))= .lit (.int .i64 c)):
 ((!has D (kI p))||(c==(h:Int)))=true↔Pl.agrees A p h:=by
 unfold Pl.agrees;cases e:A p with
 |none=>rw[(hA.at_ p).1 e];simp
 |some q=>
  obtain⟨h1,h2⟩:=(hA.at_ p).2 q e;rw[h2] at hc;have hcq:(q:Int)=c:=by simpa using hc
  rw[h1,←hcq];simp only[Bool.not_true,Bool.false_or,beq_iff_eq,Option.some.injEq]
  constructor
  ·rintro h3 q' rfl;omega
  ·intro h3;have:=h3 q rfl;omega
theorem arrive_any (b bm n m h p:Nat) (D:DataW Unit) (A:Pl.Aw) (w:World) (hr:Row w b 249 [.int .i64 m,.int .i64 h,.map (some bm)]) (hown:Mw w bm n D) (hA:Holds D A) (hp:p≤16777216) (hne:b≠bm):
 Calls Tryz.prog 130 #[.pointer (some ⟨b,0,none⟩),.int .i64 p] w fun e w' =>(∃r:Bool,e= .returned (.bool r)∧(r=true↔Pl.agrees A p h))∧Mw w' bm n (D.del (kI p))∧w.grownBy w' (some bm):=by
 have c0:=hr.cell 0 (by simp);have c1:=hr.cell 1 (by simp);have c2:=hr.cell 2 (by simp);simp only[List.getElem_cons_zero,List.getElem_cons_succ] at c0 c1 c2;have HR:=hide hr;have HA:=hide hA;have hk:=hide (keyI p (by omega));have HO:=hide hown;clear hr hA hown
 go_enter Tryz.func130,Tryz.ntmps130
 go_wp2_with (first
  |(at_lookup;refine wpList_lookup_own_ok_int _ rfl _ _ 247 rfl 3 3 .i64 lawI Tryz.underlying247 Tryz.underlying3 (zeroI _) bm n _ rfl (uh HO) _ _ rfl (uh hk) ?_;intro c hat hwc)
  |(at_delete;refine wpList_delete_own _ rfl _ _ 247 3 rfl 3 lawI Tryz.underlying247 _ bm n D rfl (uh HO) _ _ rfl (uh hk) ?_;intro w1 hown1 hturn1;have hr1:=(uh HR).grown hturn1.grown (fun e=>hne (Option.some.inj e));have d1:=hr1.cell 1 (by simp);simp only[List.getElem_cons_zero,List.getElem_cons_succ] at d1)
  |go_in)
 all_goals go_ret
 ·have hh:has D (kI p)=true:=by assumption
  refine⟨⟨_,rfl,?_⟩,hown1,hturn1.grown⟩;rw[←agrees_of (uh HA) hat,hh];simp
 ·have hh:has D (kI p)=false:=by rename_i hx;simpa using hx
  refine⟨⟨_,rfl,?_⟩,hown1,hturn1.grown⟩;rw[←agrees_of (uh HA) hat,hh];simp
theorem Holds.del {D:DataW Unit} {A:Pl.Aw} (hA:Holds D A) (p:Nat):Holds (D.del (kI p)) (Pl.del A p):=by
 refine⟨fun q=> ?_,fun k hk=> ?_⟩
 case refine_2=>
  by_cases h:k=kI p
  ·exact⟨p,h⟩
  ·rw[has_del_other h] at hk;exact hA.only k hk
 unfold Pl.del
 by_cases h:q=p
 ·subst h
  rw[if_pos rfl];exact⟨fun _=>has_del_same,fun _ e=>by cases e⟩
 ·rw[if_neg h]
  have hne:kI q≠kI p:=by intro e;apply h;have:=e;simp only[kI,Lit.int.injEq,true_and] at this;omega
  refine⟨fun e=>(has_del_other hne).trans ((hA.at_ q).1 e),fun x e=> ?_⟩;obtain⟨h1,h2⟩:=(hA.at_ q).2 x e;exact⟨(has_del_other hne).trans h1,fun z=>(atKey_del_other hne z).trans (h2 z)⟩
theorem Holds.put {D:DataW Unit} {A:Pl.Aw} (hA:Holds D A) (hD:IsMap D) (p h:Nat):Holds (D.put (kI p) (.lit (.int .i64 h))) (Pl.put A p h):=by
 have hk:WideAt.IsKeyLit (kI p):=trivial;refine⟨fun q=> ?_,fun k hk' => ?_⟩
 case refine_2=>
  by_cases h:k=kI p
  ·exact⟨p,h⟩
  ·rw[has_put_other h] at hk';exact hA.only k hk'
 unfold Pl.put
 by_cases hq:q=p
 ·subst hq
  rw[if_pos rfl];refine⟨fun e=>(by cases e),fun x e=> ?_⟩;cases e;exact⟨has_put_same hD hk _,fun z=>atKey_put_same hD hk _ z⟩
 ·rw[if_neg hq]
  have hne:kI q≠kI p:=by intro e;apply hq;have:=e;simp only[kI,Lit.int.injEq,true_and] at this;omega
  refine⟨fun e=>(has_put_other hne _).trans ((hA.at_ q).1 e),fun x e=> ?_⟩;obtain⟨h1,h2⟩:=(hA.at_ q).2 x e;exact⟨(has_put_other hne _).trans h1,fun z=>(atKey_put_other hne _ z).trans (h2 z)⟩
theorem Holds.start:Holds (.map []) (fun _=>none):=⟨fun _=>⟨fun _=>rfl,fun _ e=>by cases e⟩,fun _ e=>by cases e⟩
theorem Holds.empty {w:World} {b n:Nat} {D:DataW Unit} {A:Pl.Aw} (hA:Holds D A) (hown:Mw w b n D):Maps.size D=0↔∀q,A q=none:=by
 obtain⟨es,rfl,hp,hk⟩:=hown.entries lawI
 constructor
 ·intro h q
  have:es=[]:=List.length_eq_zero_iff.1 h;subst this;cases e:A q with
  |none=>rfl
  |some x=>have:=((hA.at_ q).2 x e).1;cases this
 ·intro h
  cases es with
  |nil=>rfl
  |cons x r=>
   have h0:has (.map (x::r)) x.1=true:=List.any_eq_true.2 ⟨x,by simp,WideAt.sameKey_self (hk x (by simp))⟩;obtain⟨p,hp⟩:=hA.only _ h0;have h1:=(hA.at_ p).1 (h p);rw[←hp,h0] at h1;cases h1
theorem await_any (b bm n m h p:Nat) (D:DataW Unit) (A:Pl.Aw) (w:World) (hr:Row w b 249 [.int .i64 m,.int .i64 h,.map (some bm)]) (hown:Mw w bm n D) (hA:Holds D A) (hp:p≤16777216) (hh:h≤16) (hn:n≤16777216) (hne:b≠bm):
 Calls Tryz.prog 172 #[.pointer (some ⟨b,0,none⟩),.int .i64 p] w fun e w' =>(∃r:Bool,e= .returned (.bool r)∧(r=true↔Pl.agrees A p h))∧Mw w' bm (n+1) (D.put (kI p) (.lit (.int .i64 h)))∧w.grownBy w' (some bm):=by
 have c0:=hr.cell 0 (by simp);have c1:=hr.cell 1 (by simp);have c2:=hr.cell 2 (by simp);simp only[List.getElem_cons_zero,List.getElem_cons_succ] at c0 c1 c2;have HR:=hide hr;have HA:=hide hA;have hk:=hide (keyI p (by omega));have HO:=hide hown
 obtain⟨w1,hrun,hown1,hturn1⟩:=(hown.drew).store (t:=247) (e:=3) lawI Tryz.underlying247 (by unfold maxLen;omega) (uh hk) (plainElem_int Tryz.underlying3 (WalkArith.wf_i64 (show (-9223372036854775808:Int)≤(h:Int)∧(h:Int)≤9223372036854775807 by omega)));have hr1:=hr.drew.grown hturn1.grown (fun e=>hne (Option.some.inj e));have d1:=hr1.cell 1 (by simp)
 simp only[List.getElem_cons_zero,List.getElem_cons_succ] at d1;have HO1:=hide hown1;have HT1:=hide hturn1;clear hr hA hown hr1 hown1 hturn1
 go_enter Tryz.func172,Tryz.ntmps172
 go_wp2_with (first
  |(at_lookup;refine wpList_lookup_own_ok_int _ rfl _ _ 247 rfl 3 3 .i64 lawI Tryz.underlying247 Tryz.underlying3 (zeroI _) bm n _ rfl (uh HO) _ _ rfl (uh hk) ?_;intro c hat hwc)
  |go_in)
 go_region
 go_wp2_with fail
 all_goals go_ret
 ·have hh:has D (kI p)=true:=by assumption
  refine⟨⟨_,rfl,?_⟩,uh HO1,grown_undrew (uh HT1).grown⟩;rw[←agrees_of (uh HA) hat,hh];simp
 ·have hh:has D (kI p)=false:=by rename_i hx;simpa using hx
  refine⟨⟨_,rfl,?_⟩,uh HO1,grown_undrew (uh HT1).grown⟩;rw[←agrees_of (uh HA) hat,hh];simp
theorem mayName_any (b bm m h:Nat) (i:Pl.Ins) (w:World) (hr:Row w b 249 [.int .i64 m,.int .i64 h,.map (some bm)]) (h1:1≤i.op) (h8:i.op≤8):
 Calls Tryz.prog 131 #[.pointer (some ⟨b,0,none⟩),insV i] w fun e w' =>(∃r:Bool,e= .returned (.bool r)∧(r=true↔Pl.okOps m i))∧Below w.heap.size w w' :=by
 obtain⟨op,p,nx,F,G⟩:=i;simp only at h1 h8;unfold insV;simp only;have hr1:=fun o=>hr.alloc o
 have c0:∀o,(w.alloc o).cell? ⟨b,0,none⟩=some (.int .i64 m):=fun o=>by
  have:=(hr1 o).cell 0 (by simp)
  simpa using this
 have HR:=hide hr;clear hr hr1;have:op=1∨(op=2∨op=7)∨op=3∨(op=4∨op=5∨op=6∨op=8):=by omega
 rcases this with rfl|h27|rfl|h4
 ·go_enter Tryz.func131,Tryz.ntmps131
  go_wp2_with fail
  all_goals go_ret
  all_goals refine⟨⟨_,rfl,?_⟩,(Below.refl _ w).alloc (Nat.le_refl _) _⟩
  all_goals(unfold Pl.okOps;simp;omega)
 ·rcases h27 with rfl|rfl
  all_goals go_enter Tryz.func131,Tryz.ntmps131
  all_goals go_wp2_with fail
  all_goals go_region
  all_goals go_wp2_with fail
  all_goals go_ret
  all_goals refine⟨⟨_,rfl,?_⟩,((Below.refl _ w).alloc (Nat.le_refl _) _).drew⟩
  all_goals(unfold Pl.okOps;simp)
 ·by_cases hF:F<m
  ·have d1:decide ((F:Int)<m)=true:=by rw[decide_eq_true_eq];omega
   go_enter Tryz.func131,Tryz.ntmps131
   go_wp2_with fail
   go_region
   all_goals go_wp2_with fail
   all_goals go_ret
   all_goals refine⟨⟨_,rfl,?_⟩,((Below.refl _ w).alloc (Nat.le_refl _) _).drew⟩
   all_goals(unfold Pl.okOps;simp[hF])
  ·have d1:decide ((F:Int)<m)=false:=by rw[decide_eq_false_iff_not];omega
   go_enter Tryz.func131,Tryz.ntmps131
   go_wp2_with fail
   go_region
   all_goals go_wp2_with fail
   all_goals go_ret
   all_goals refine⟨⟨_,rfl,?_⟩,((Below.refl _ w).alloc (Nat.le_refl _) _).drew⟩
   all_goals(unfold Pl.okOps;simp[hF])
 ·rcases h4 with rfl|rfl|rfl|rfl
  all_goals go_enter Tryz.func131,Tryz.ntmps131
  all_goals go_wp2_with fail
  all_goals go_ret
  all_goals refine⟨⟨_,rfl,?_⟩,(Below.refl _ w).alloc (Nat.le_refl _) _⟩
  all_goals(unfold Pl.okOps;simp)
end Go.Proofs.YtjelacjggijmfaaGreatDoor
