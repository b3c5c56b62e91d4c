/-
  Expanding, of package names: a reference.
-/
import Derived.Test.YtjelacjggijmfaaGreatDoorTNB
import Derived.Test.YtjelacjggijmfaaGreatDoorTWRB
import Derived.Test.YtjelacjggijmfaaGreatDoorTSP9
import Derived.Defers
set_option maxHeartbeats 2000000
set_option maxRecDepth 100000
namespace Go.Proofs.YtjelacjggijmfaaGreatDoor
open Go.RowKit
def Glob (w:World):Prop:=∃m,w.cell? ⟨0,0,none⟩=some (.int .i64 m)
theorem Glob.later {w w' :World} (h:Glob w) (hb:Below w.heap.size w w'):Glob w' :=by
 obtain⟨m,hm⟩:=h;exact⟨m,(hb.cell (p:=⟨0,0,none⟩) (World.block_lt_of_cell? w _ hm)).trans hm⟩
theorem below_drewN (w:World) (n:Nat):Below w.heap.size w (w.drewN n):=by
 induction n with
 |zero=>exact Below.refl _ _
 |succ k ih=>exact ih.drew
theorem lCut (c:UInt8) (s:ByteArray) (w:World) (hs:s.size≤4294967200) (hg:Glob w):
 Calls Tryz.prog 160 #[.string s,.string ⟨#[c]⟩] w fun e w' =>e= .returned (.tuple #[.string ⟨(Mk.before c s.data.toList).toArray⟩,.string ⟨(Mk.after c s.data.toList).toArray⟩,.bool (Mk.has c s.data.toList)])∧Below w.heap.size w w' :=by
 obtain⟨m,hm⟩:=hg;refine(Any.strings_Cut Tryz.lay145 s ⟨#[c]⟩ m w (by omega) hm).mono ?_
 rintro e w' ⟨rfl,n,rfl⟩
 refine⟨?_,below_drewN w n⟩;show Ending.returned (.tuple #[.string ⟨(Lib.cut s.data.toList [c]).1.toArray⟩,.string ⟨(Lib.cut s.data.toList [c]).2.1.toArray⟩,.bool (Lib.cut s.data.toList [c]).2.2])=_;rw[Mk.cut_one]
theorem lHasSuffix (s:ByteArray) (w:World) (hs:s.size≤4294967296):
 Calls Tryz.prog 123 #[.string s,.string ⟨#[92]⟩] w fun e w' =>e= .returned (.bool (Mk.endsBack s.data.toList))∧w=w' :=by
 refine(Any.strings_HasSuffix Tryz.lay100 s ⟨#[92]⟩ w (by omega)).mono ?_
 rintro e w' ⟨rfl,rfl⟩
 exact⟨ret_bool (Mk.hasSuffix_back _),rfl⟩
theorem lTrimSuffix (s:ByteArray) (w:World) (hs:s.size≤4294967296) (h:Mk.endsBack s.data.toList=true):
 Calls Tryz.prog 207 #[.string s,.string ⟨#[92]⟩] w fun e w' =>e= .returned (.string ⟨s.data.toList.dropLast.toArray⟩)∧w=w' :=by
 refine(Any.strings_TrimSuffix Tryz.lay102 s ⟨#[92]⟩ w (by omega)).mono ?_
 rintro e w' ⟨rfl,rfl⟩
 refine⟨ret_str ?_,rfl⟩;show(⟨(Lib.trimSuffix s.data.toList [92]).toArray⟩:ByteArray)=_;rw[Mk.trimSuffix_back _ h]
theorem lTrimRight (s:ByteArray) (w:World) (hs:s.size≤4294967296):
 Calls Tryz.prog 209 #[.string s,.string ⟨#[92]⟩] w fun e w' =>e= .returned (.string ⟨(Mk.noBack s.data.toList).toArray⟩)∧Below w.heap.size w w' :=by
 refine(Any.strings_TrimRight_laid Tryz.lay162 (by kernel_rfl) s ⟨#[92]⟩ w (by omega) (by decide) (ascii_of_all (by decide))).mono ?_
 rintro e w' ⟨rfl,hb⟩
 refine⟨ret_str ?_,hb⟩;show(⟨(Lib.trimRightS s.data.toList [92]).toArray⟩:ByteArray)=_;rw[Mk.trimRightS_noBack]
theorem lTrimLeft (s:ByteArray) (w:World):
 Calls Tryz.prog 250 #[.string s,.string ⟨#[32,9]⟩] w fun e w' =>e= .returned (.string ⟨(Mk.cutL s.data.toList).toArray⟩)∧Below w.heap.size w w' :=by
 refine(Any.strings_TrimLeft_laid Tryz.lay161 (by kernel_rfl) s ⟨#[32,9]⟩ w (by decide) (ascii_of_all (by decide))).mono ?_
 rintro e w' ⟨rfl,hb⟩
 refine⟨ret_str ?_,hb⟩;show(⟨(Lib.trimLeftS s.data.toList [32,9]).toArray⟩:ByteArray)=_;rw[Mk.trimLeftS_cutL]
theorem lTrim (s:ByteArray) (w:World) (hs:s.size≤4294967296):
 Calls Tryz.prog 147 #[.string s,.string ⟨#[32,9]⟩] w fun e w' =>e= .returned (.string ⟨(Mk.cut s.data.toList).toArray⟩)∧Below w.heap.size w w' :=by
 refine(Any.strings_Trim_laid Tryz.lay160 (by kernel_rfl) s ⟨#[32,9]⟩ w (by omega) (by decide) (ascii_of_all (by decide))).mono ?_
 rintro e w' ⟨rfl,hb⟩
 refine⟨ret_str ?_,hb⟩;show(⟨(Lib.trimS s.data.toList [32,9]).toArray⟩:ByteArray)=_;rw[Mk.trimS_cut]
theorem lHasPrefix (s p:ByteArray) (w:World):
 Calls Tryz.prog 158 #[.string s,.string p] w fun e w' =>e= .returned (.bool (p.data.toList.isPrefixOf s.data.toList))∧w=w' :=by
 refine(Any.strings_HasPrefix Tryz.lay99 s p w).mono ?_
 rintro e w' ⟨rfl,rfl⟩
 exact⟨rfl,rfl⟩
theorem lCutPrefix (s p:ByteArray) (w:World):
 Calls Tryz.prog 126 #[.string s,.string p] w fun e w' =>e= .returned (.tuple #[.string ⟨(Lib.trimPrefix s.data.toList p.data.toList).toArray⟩,.bool (p.data.toList.isPrefixOf s.data.toList)])∧w=w' :=by
 refine(Any.strings_CutPrefix Tryz.lay103 s p w).mono ?_
 rintro e w' ⟨rfl,rfl⟩
 exact⟨rfl,rfl⟩
theorem lCutPrefix_yes (s p t:ByteArray) (w:World) (h:p.data.toList.isPrefixOf s.data.toList=true) (ht:s.data.toList.drop p.data.toList.length=t.data.toList):
 Calls Tryz.prog 126 #[.string s,.string p] w fun e w' =>e= .returned (.tuple #[.string t,.bool true])∧w=w' :=by
 refine(lCutPrefix s p w).mono ?_
 rintro e w' ⟨rfl,rfl⟩
 refine⟨?_,rfl⟩;have:Lib.trimPrefix s.data.toList p.data.toList=t.data.toList:=by unfold Lib.trimPrefix Lib.hasPrefix;rw[if_pos h,ht]
 rw[this,h,←mk_eq (t:=t) rfl]
theorem lCutPrefix_no (s p:ByteArray) (w:World) (h:p.data.toList.isPrefixOf s.data.toList=false):
 Calls Tryz.prog 126 #[.string s,.string p] w fun e w' =>e= .returned (.tuple #[.string s,.bool false])∧w=w' :=by
 refine(lCutPrefix s p w).mono ?_
 rintro e w' ⟨rfl,rfl⟩
 refine⟨?_,rfl⟩;have:Lib.trimPrefix s.data.toList p.data.toList=s.data.toList:=by unfold Lib.trimPrefix Lib.hasPrefix;rw[h];rfl
 rw[this,h,←mk_eq (t:=s) rfl]
theorem cut_any (s:ByteArray) (w:World) (hs:s.size≤4294967296):
 Calls Tryz.prog 95 #[.string s] w fun e w' =>e= .returned (.string ⟨(Mk.cut s.data.toList).toArray⟩)∧Below w.heap.size w w' :=by
 go_enter Tryz.func95,Tryz.ntmps95
 go_wp2_with (go_at_call 147;refine(lTrim _ _ hs).mono ?_;rintro e w1 ⟨rfl,hb⟩)
 go_ret
 exact⟨rfl,hb⟩
theorem cutFront_any (s:ByteArray) (w:World):
 Calls Tryz.prog 208 #[.string s] w fun e w' =>e= .returned (.string ⟨(Mk.cutL s.data.toList).toArray⟩)∧Below w.heap.size w w' :=by
 go_enter Tryz.func208,Tryz.ntmps208
 go_wp2_with (go_at_call 250;refine(lTrimLeft _ _).mono ?_;rintro e w1 ⟨rfl,hb⟩)
 go_ret
 exact⟨rfl,hb⟩
def lnV (l:Mk.Ln):Value:= .agg #[.int .i64 l.number,.int .i64 l.kind,.string ⟨l.left.toArray⟩,.string ⟨l.right.toArray⟩]
theorem below4 {B b:Nat} {a w1:World} (h:Below B a w1) (hB:B≤b) (v0 v1 v2 v3:Value):
 Below B a ((((w1.setCell ⟨b,0,none⟩ v0).setCell ⟨b,1,none⟩ v1).setCell ⟨b,2,none⟩ v2).setCell ⟨b,3,none⟩ v3):=
 (((h.setCell (p:=⟨b,0,none⟩) hB v0).setCell (p:=⟨b,1,none⟩) hB v1).setCell (p:=⟨b,2,none⟩) hB v2).setCell (p:=⟨b,3,none⟩) hB v3
theorem below_new {w w1:World} {o:Obj} (hb:Below (w.alloc o).heap.size (w.alloc o) w1):Below w.heap.size w w1:=
 ((Below.refl _ w).alloc (Nat.le_refl _) _).trans (hb.mono (by simp))
theorem parseCommand_any (s:ByteArray) (w:World):
 Calls Tryz.prog 159 #[.string s] w fun e w' =>e= .returned (lnV (Mk.parseCmd s.data.toList))∧Below w.heap.size w w' :=by
 go_enter Tryz.func159,Tryz.ntmps159
 go_wp2_with (go_at_call 208;refine(cutFront_any _ _).mono ?_;rintro e w1 ⟨rfl,hb⟩;obtain⟨hc,hf⟩:=bcell hb)
 ·refine bodyPost_ret (v:=lnV (Mk.parseCmd s.data.toList)) ?_ rfl ⟨rfl,?_⟩
  ·rename_i he
   simp[results,Tryz.results159,go_sem,hc,lnV,Mk.parseCmd,he,Mk.Ln.zero]
  ·exact below4 (below_new hb) (Nat.le_refl _) _ _ _ _
 ·refine bodyPost_ret (v:=lnV (Mk.parseCmd s.data.toList)) ?_ rfl ⟨rfl,?_⟩
  ·rename_i he
   simp[results,Tryz.results159,go_sem,hc,lnV,Mk.parseCmd,he]
  ·exact below4 (below_new hb) (Nat.le_refl _) _ _ _ _
theorem parseInclude_any (s:ByteArray) (w:World):
 Calls Tryz.prog 162 #[.string s] w fun e w' =>e= .returned (.tuple #[lnV (Mk.parseIncl s.data.toList).1,.int .i64 (Mk.parseIncl s.data.toList).2])∧Below w.heap.size w w' :=by
 cases h0:s.toList.isEmpty with
 |true=>
  have he:s.data.toList.isEmpty=true:=by rw[←Lib.toList_data];exact h0
  go_enter Tryz.func162,Tryz.ntmps162
  go_wp2
  refine bodyPost_ret (v:= .tuple #[lnV (Mk.parseIncl s.data.toList).1,.int .i64 (Mk.parseIncl s.data.toList).2]) ?_ rfl ⟨rfl,(Below.refl _ w).alloc (Nat.le_refl _) _⟩;simp[results,Tryz.results162,go_sem,lnV,Mk.parseIncl,he,Mk.Ln.zero]
 |false=>
  have he:s.data.toList.isEmpty=false:=by rw[←Lib.toList_data];exact h0
  go_enter Tryz.func162,Tryz.ntmps162
  go_wp2
  refine bodyPost_ret (v:= .tuple #[lnV (Mk.parseIncl s.data.toList).1,.int .i64 (Mk.parseIncl s.data.toList).2]) ?_ rfl ⟨rfl,(Below.refl _ w).alloc (Nat.le_refl _) _⟩;simp[results,Tryz.results162,go_sem,lnV,Mk.parseIncl,he]
end Go.Proofs.YtjelacjggijmfaaGreatDoor
namespace Go.Proofs.YtjelacjggijmfaaGreatDoor
open Go.RowKit Go.MapKept Go.ChangeMaps Go.Maps
structure Cel where
 n:Nat
 s:Nat
 r:Nat
 m:Nat
 e:Nat
 l:Nat
 f:Nat
 nm:Nat
 mm:Nat
abbrev NL:=List (Cp.Bs×Cp.Nv)
def nvV (v:Cp.Nv):Value:= .agg #[strV v.text,.bool v.late]
def nEnts (l:NL):Ents:=l.map fun x=>(x.1,nvV x.2)
def nOf (l:NL) (k:Cp.Bs):Cp.Nv:=((l.find? (fun x=>x.1==k)).map (·.2)).getD Cp.nv0
theorem mget_n (l:NL) (k:Cp.Bs):(mget (nEnts l) k).getD (nvV Cp.nv0)=nvV (nOf l k):=by
 unfold mget nEnts nOf;rw[List.find?_map];have e:((fun x:Pl.Bs×Value=>x.1==k)∘fun x:Cp.Bs×Cp.Nv=>(x.1,nvV x.2))=fun x=>x.1==k:=rfl
 rw[e];cases List.find? (fun x=>x.1==k) l<;>rfl
def mEnts (mk:List Cp.Bs):Ents:=mk.map fun k=>(k,.agg #[])
theorem mget_m (mk:List Cp.Bs) (k:Cp.Bs):mget (mEnts mk) k=if k∈mk then some (.agg #[]) else none:=by
 unfold mget mEnts;rw[List.find?_map];have e:((fun x:Pl.Bs×Value=>x.1==k)∘fun k:Cp.Bs=>(k,Value.agg #[]))=fun x=>x==k:=rfl
 rw[e];split
 ·rename_i h
  cases hf:List.find? (fun x=>x==k) mk with
  |none=>exact absurd (List.find?_eq_none.1 hf k h) (by simp)
  |some x=>rfl
 ·rename_i h
  rw[List.find?_eq_none.2 (fun x hx=>by simp;exact fun e=>h (e▸hx))];rfl
theorem mput_m {mk:List Cp.Bs} {k:Cp.Bs} (h:k∉mk):mput (mEnts mk) k (.agg #[])=mEnts (mk++[k]):=by
 induction mk with
 |nil=>rfl
 |cons x r ih=>
  simp only[List.mem_cons,not_or] at h;show(if x==k then _ else _)=_;rw[if_neg (by simpa using fun e=>h.1 e.symm)];show(x,Value.agg #[])::mput (mEnts r) k (.agg #[])=_;rw[ih h.2];rfl
structure ExM (c:Cel) (sv:Value) (L:NL) (refs:Nat) (mk:List Cp.Bs) (W:World):Prop where
 nbox:Row W c.n 137 [.map (some c.nm)]
 sbox:Row W c.s 199 [sv]
 rbox:Row W c.r 3 [.int .i64 refs]
 mbox:Row W c.m 140 [.map (some c.mm)]
 ebox:Row W c.e 278 [.func (.func 195) #[] #[.pointer (some ⟨c.s,0,none⟩),.pointer (some ⟨c.f,0,none⟩)]]
 lbox:Row W c.l 278 [.func (.func 192) #[] #[.pointer (some ⟨c.m,0,none⟩),.pointer (some ⟨c.e,0,none⟩),.pointer (some ⟨c.n,0,none⟩)]]
 fbox:Row W c.f 278 [.func (.func 194) #[] #[.pointer (some ⟨c.r,0,none⟩),.pointer (some ⟨c.n,0,none⟩),.pointer (some ⟨c.l,0,none⟩)]]
 names:SMap W c.nm (nEnts L)
 marks:SMap W c.mm (mEnts mk)
 ne:c.nm≠c.mm
 glob:Glob W
 gr:0<c.r
def ExT (c:Cel) (W W' :World):Prop:=Tn (fun k=>k=c.r∨k=c.mm) W W'
theorem row_ne_map {W:World} {b k:Nat} {t:TypeId} {vs:List Value} {l:Ents} (h:Row W b t vs) (g:SMap W k l):b≠k:=fun e=>by
 obtain⟨es,clock,hk,_⟩:=g;subst e;unfold Row at h;rw[h] at hk;cases hk
theorem row_ne_row {W:World} {b k:Nat} {t u:TypeId} {vs us:List Value} (h:Row W b t vs) (g:Row W k u us) (ht:t≠u):b≠k:=fun e=>by
 subst e;unfold Row at h g;rw[h] at g;cases g;exact ht rfl
theorem turned_tn {w w' :World} {b:Nat} {p:Nat→Prop} (h:w.mapTurned w' b) (hp:p b):Tn p w w' :=by
 obtain⟨es,clock,es',clock',hb,rfl⟩:=h;have hbl:b<w.heap.size:=(Array.getElem?_eq_some_iff.1 hb).1;refine⟨rfl,rfl,rfl,by simp[setBlock],fun k hk hn=> ?_⟩;have:k≠b:=fun e=>hn (e▸hp)
 simp[setBlock,Ne.symm this]
section
variable {c:Cel} {sv:Value} {L:NL} {refs refs' :Nat} {mk mk' :List Cp.Bs} {W Z:World}
theorem ExM.next (h:ExM c sv L refs mk W) (ht:ExT c W Z) (hr:Row Z c.r 3 [.int .i64 refs']) (hm:SMap Z c.mm (mEnts mk')):ExM c sv L refs' mk' Z:=by
 have key:∀{b:Nat} {t:TypeId} {vs:List Value},Row W b t vs→t≠3→Row Z b t vs:=fun hb hn=>hb.tn ht (fun e=>e.elim (row_ne_row hb h.rbox hn) (row_ne_map hb h.marks))
 refine⟨key h.nbox (by decide),key h.sbox (by decide),hr,key h.mbox (by decide),key h.ebox (by decide),key h.lbox (by decide),key h.fbox (by decide),h.names.tn ht (fun e=>e.elim (fun e=>row_ne_map h.rbox h.names e.symm) h.ne),hm,h.ne,?_,h.gr⟩;obtain⟨m,hm0⟩:=h.glob;have hlt:=World.block_lt_of_cell? W _ hm0;refine⟨m,?_⟩
 rw[World.cell?_of_block (a:=⟨0,0,none⟩) (ht.block _ hlt (fun e=> ?_))]
 ·exact hm0
 ·rcases e with e|e
  ·have e' :0=c.r:=e
   have:=h.gr;omega
  ·have e' :0=c.mm:=e
   obtain⟨es,clock,hk,_⟩:=h.marks;rw[←e'] at hk;simp[World.cell?,hk] at hm0
theorem ExM.later (h:ExM c sv L refs mk W) (hb:Below W.heap.size W Z):ExM c sv L refs mk Z:=h.next (Tn.later hb) (h.rbox.later hb) (h.marks.later hb)
end
theorem unmark_any (m b mm:Nat) (mk:List Cp.Bs) (k:Cp.Bs) (u:FrameMode) (W:World) (hm:Row W m 140 [.map (some mm)]) (hn:Row W b 9 [.string ⟨k.toArray⟩]) (hs:SMap W mm (mEnts (mk++[k]))):
 CallsD Tryz.prog 193 #[.pointer (some ⟨m,0,none⟩),.pointer (some ⟨b,0,none⟩)] u W fun e u' w' =>u' =u∧(e= .returned (.tuple #[])∧SMap w' mm (mEnts mk)∧Tn (fun q=>q=mm) W w'):=by
 have c0:=hm.cell? (i:=0) rfl;have c1:=hn.cell? (i:=0) rfl
 have hs' :SMap W mm (mEnts mk++[(k,.agg #[])]):=by
  have:mEnts (mk++[k])=mEnts mk++[(k,.agg #[])]:=by unfold mEnts;rw[List.map_append];rfl
  rw[←this];exact hs
 have HS:=hide hs';clear hm hn hs hs'
 go_enter_d Tryz.func193,Tryz.ntmps193
 go_wp2_with (at_delete;refine wpList_del_last _ rfl _ _ 140 9 rfl 316 Tryz.underlying140 Tryz.underlying9 mm (mEnts mk) k (.agg #[]) rfl (uh HS) rfl ?_;intro w1 hs1 ht1)
 go_end0
 exact⟨rfl,hs1,turned_tn ht1 rfl⟩
structure Sgn (c:Cel) (sv:Value) (sg:UInt8→Option Cp.Bs) (SP:World→Prop):Prop where
 f:∃g caps,sv= .func (.func g) #[] caps∧(∀args w,(callFunc g args).run Tryz.prog w= .ok (.enter g args) w)∧∀W,SP W→∀ch:UInt8,Calls Tryz.prog g (#[.int .u8 ch.toNat]++caps) W fun e w' =>(∃(p:Cp.Bs) (ok:Bool),e= .returned (.tuple #[.string ⟨p.toArray⟩,.bool ok])∧sg ch=(if ok then some p else none)∧p.length≤1073741824)∧Below W.heap.size W w'
 keep:∀W W',SP W→ExT c W W' →SP W'
def Short (L:NL):Prop:=∀x∈L,x.2.text.length≤1073741824
theorem nOf_short {L:NL} (h:Short L) (k:Cp.Bs):(nOf L k).text.length≤1073741824:=by
 unfold nOf;cases hf:L.find? (fun x=>x.1==k) with
 |none=>simp[Cp.nv0]
 |some x=>exact h x (List.mem_of_find?_eq_some hf)
def erV (r:Cp.Er):Value:= .tuple #[.string ⟨r.txt.toArray⟩,.int .i64 r.er]
def ExpC (c:Cel) (sv:Value) (L:NL) (sg:UInt8→Option Cp.Bs) (SP:World→Prop) (d:Nat):Prop:=
 ∀(W:World) (refs:Nat) (mk:List Cp.Bs) (text:Cp.Bs),ExM c sv L refs mk W→SP W→301≤refs+d→refs≤300→mk.length≤refs→text.length≤1073741824→
  Calls Tryz.prog 195 #[.string ⟨text.toArray⟩,.pointer (some ⟨c.s,0,none⟩),.pointer (some ⟨c.f,0,none⟩)] W fun e W' =>∃r:Cp.Er,Cp.Exp (nOf L) sg mk refs [] text r∧e= .returned (erV r)∧r.txt.length≤2000∧r.refs≤301∧(r.er=0→r.refs≤300)∧refs≤r.refs∧ExM c sv L r.refs mk W' ∧ExT c W W'
theorem zeroSt (w:World):(zeroValue 316).run Tryz.prog w= .ok (.agg #[]) w:=by kernel_rfl
theorem zeroNv (w:World):(zeroValue 307).run Tryz.prog w= .ok (.agg #[.string ⟨#[]⟩,.bool false]) w:=by kernel_rfl
theorem fieldNv0 (t:ByteArray) (b:Bool) (w:World):(Instr.field 307 (.agg #[.string t,.bool b]) 0).run Tryz.prog w= .ok (.string t) w:=by
 simp[Instr.field,run_underlying Tryz.underlying307,asAgg,part]
theorem fieldNv1 (t:ByteArray) (b:Bool) (w:World):(Instr.field 307 (.agg #[.string t,.bool b]) 1).run Tryz.prog w= .ok (.bool b) w:=by
 simp[Instr.field,run_underlying Tryz.underlying307,asAgg,part]
section
variable {c:Cel} {sv:Value} {L:NL} {sg:UInt8→Option Cp.Bs} {SP:World→Prop} {d:Nat}
theorem late_no (refs:Nat) (mk:List Cp.Bs) (name:Cp.Bs) (W:World) (h:ExM c sv L refs mk W) (hin:name∈mk):
 Calls Tryz.prog 192 #[.string ⟨name.toArray⟩,.pointer (some ⟨c.m,0,none⟩),.pointer (some ⟨c.e,0,none⟩),.pointer (some ⟨c.n,0,none⟩)] W fun e W' =>e= .returned (erV ⟨[],4,refs⟩)∧Below W.heap.size W W' :=by
 have c0:=h.mbox.cell? (i:=0) rfl;have hmg:mget (mEnts mk) name=some (.agg #[]):=by rw[mget_m,if_pos hin]
 have HS:Hid (SMap (W.alloc (.cells #[.string ⟨name.toArray⟩] 9)) c.mm (mEnts mk)):=h.marks.later ((Below.refl _ W).alloc (Nat.le_refl _) _);have hl:=h.mbox.lt;clear h
 go_enter_defers Tryz.func192,Tryz.ntmps192
 go_wp2_with (first
  |(at_lookup;refine wpList_look_ok_yes _ rfl _ _ 140 rfl 9 316 Tryz.underlying140 Tryz.underlying9 (.agg #[]) (zeroSt _) c.mm (mEnts mk) rfl (uh HS) name rfl (.agg #[]) hmg ?_)
  |fail)
 exact⟨_,results_tmp2 rfl _ _ _,rfl,((Below.refl _ W).alloc (Nat.le_refl _) _).alloc (by rw[World.size_alloc];omega) _⟩
theorem late_yes (HE:ExpC c sv L sg SP d) (hSg:Sgn c sv sg SP) (hL:Short L) (refs:Nat) (mk:List Cp.Bs) (name:Cp.Bs) (W:World) (h:ExM c sv L refs mk W) (hSP:SP W) (hd:301≤refs+d) (hr:refs≤300) (hmk:mk.length+1≤refs) (hin:name∉mk):
 Calls Tryz.prog 192 #[.string ⟨name.toArray⟩,.pointer (some ⟨c.m,0,none⟩),.pointer (some ⟨c.e,0,none⟩),.pointer (some ⟨c.n,0,none⟩)] W fun e W' =>∃r:Cp.Er,Cp.Exp (nOf L) sg (mk++[name]) refs [] (nOf L name).text r∧e= .returned (erV r)∧r.txt.length≤2000∧r.refs≤301∧(r.er=0→r.refs≤300)∧refs≤r.refs∧ExM c sv L r.refs mk W' ∧ExT c W W' :=by
 have hmg:mget (mEnts mk) name=none:=by rw[mget_m,if_neg hin]
 have hb1:Below W.heap.size W (W.alloc (.cells #[.string ⟨name.toArray⟩] 9)):=(Below.refl _ W).alloc (Nat.le_refl _) _;have hb2:Below W.heap.size W ((W.alloc (.cells #[.string ⟨name.toArray⟩] 9)).alloc (.cells #[] 316)):=hb1.alloc (by rw[World.size_alloc];omega) _;have HM1:=hide (h.later hb1);have HM2:=hide (h.later hb2)
 have hR:Row ((W.alloc (.cells #[.string ⟨name.toArray⟩] 9)).alloc (.cells #[] 316)) W.heap.size 9 [.string ⟨name.toArray⟩]:=(Row.new W 9 [.string ⟨name.toArray⟩]).alloc _;have c0:=h.mbox.cell? (i:=0) rfl;have hl:=h.mbox.lt;have hrl:=h.rbox.lt
 have hSP3:Hid (∀w3,ExT c ((W.alloc (.cells #[.string ⟨name.toArray⟩] 9)).alloc (.cells #[] 316)) w3→SP w3):=fun w3 ht=>hSg.keep _ _ (hSg.keep _ _ hSP (Tn.later hb2)) ht
 have hNx:Hid (∀w3,SMap w3 c.mm (mput (mEnts mk) name (.agg #[]))→World.mapTurned ((W.alloc (.cells #[.string ⟨name.toArray⟩] 9)).alloc (.cells #[] 316)) w3 c.mm→ExM c sv L refs (mk++[name]) w3):=fun w3 h1 h2=>(h.later hb2).next (turned_tn h2 (.inr rfl)) ((h.later hb2).rbox.tn (turned_tn (p:=fun k=>k=c.mm) h2 rfl) (row_ne_map (h.later hb2).rbox (h.later hb2).marks)) (by rw[←mput_m hin];exact h1)
 have hf0:=fieldNv0;have hmf:∀(fn:Fn) (first cap:Array Value) (w:World),(Instr.makeFunc fn first cap).run Tryz.prog w= .ok (.func fn first cap) w:=fun _ _ _ _=>rfl
 have hmlt:=(uh HM1).mbox.lt;have hnb:=row_ne_map hR (uh HM2).marks;have HB2:=hide hb2;have HR:=hide hR;clear h hb1 hb2 hR
 go_enter_defers Tryz.func192,Tryz.ntmps192
 go_wp2_with (first
  |(at_lookup;refine wpList_look_ok_no _ rfl _ _ 140 rfl 9 316 Tryz.underlying140 Tryz.underlying9 (.agg #[]) (zeroSt _) c.mm (mEnts mk) rfl (uh HM1).marks name rfl hmg ?_)
  |(at_mapUpdate;refine wpList_put_s _ rfl _ _ _ 140 rfl 9 316 Tryz.underlying140 Tryz.underlying9 c.mm (mEnts mk) rfl (uh HM2).marks (by unfold mEnts maxLen;rw[List.length_map];omega) name rfl (.agg #[]) rfl ?_;intro w3 hs3 ht3;have HM3:=hide (uh hNx _ hs3 ht3);have HT3:=hide (turned_tn (p:=fun k=>k=c.r∨k=c.mm) ht3 (.inr rfl));have e0:=(uh HM3).ebox.cell? (i:=0) rfl;have n0:=(uh HM3).nbox.cell? (i:=0) rfl;have HR3:=hide ((uh HR).tn (turned_tn (p:=fun k=>k=c.mm) ht3 rfl) hnb);have b0:=(uh HR3).cell? (i:=0) rfl;clear hs3 ht3)
  |(at_lookup;refine wpList_look_one _ rfl _ _ 137 rfl 9 307 Tryz.underlying137 Tryz.underlying9 (nvV Cp.nv0) (zeroNv _) c.nm (nEnts L) rfl (uh HM3).names name rfl (nvV (nOf L name)) (mget_n L name) ?_;unfold nvV strV)
  |(go_at_call 195;refine(HE _ refs (mk++[name]) (nOf L name).text (uh HM3) (uh hSP3 _ (uh HT3)) hd hr (by simpa using hmk) (nOf_short hL name)).mono ?_;rintro e w4 ⟨r,hx,rfl,hl2,hr2,hr5,hr3,hm4,ht4⟩;unfold erV;have HM4:=hide hm4;have HT4:=hide ht4;have HX:=hide hx;clear hx hm4 ht4)
  |fail)
 have hn4:Row w4 W.heap.size 9 [.string ⟨name.toArray⟩]:=(uh HR3).tn (uh HT4) (fun e=>e.elim (fun e=>by omega) hnb);refine leaves_cons (f:=193) (args:= #[.pointer (some ⟨c.m,0,none⟩),.pointer (some ⟨W.heap.size,0,none⟩)]) (by simp) (by simp[go_sem]) ?_;refine(unmark_any c.m W.heap.size c.mm mk name .returning w4 (uh HM4).mbox hn4 (uh HM4).marks).mono ?_
 rintro e u' w5 ⟨rfl,rfl,hs5,ht5⟩
 have ht5' :ExT c w4 w5:=ht5.mono (fun k e=> .inr e);exact⟨_,results_tmp2 rfl _ _ _,r,uh HX,rfl,hl2,hr2,hr5,hr3,(uh HM4).next ht5' ((uh HM4).rbox.tn ht5 (row_ne_map (uh HM4).rbox (uh HM4).marks)) hs5,(((Tn.later (uh HB2)).trans (uh HT3)).trans (uh HT4)).trans ht5'⟩
end
end Go.Proofs.YtjelacjggijmfaaGreatDoor
namespace Go.Cp
open Go
section
variable {N:Bs→Nv} {sg:UInt8→Option Bs} {m:List Bs} {k:Nat} {a t rest:Bs} {r q:Er}
theorem Exp.nil (h:Mk.has 36 t=true) (hA:Mk.after 36 t=[]):Exp N sg m k a t ⟨[],1,k⟩:=⟨1,by rw[expF,if_neg (by rw[h];decide),hA]⟩
theorem Exp.dollar (h:Mk.has 36 t=true) (hA:Mk.after 36 t=36::rest) (hx:Exp N sg m k (addB (addB a (Mk.before 36 t)) [36]) rest r):Exp N sg m k a t r:=by
 obtain⟨f,hf⟩:=hx;refine⟨f+1,?_⟩;rw[expF,if_neg (by rw[h];decide),hA];simp only[if_true];exact hf
theorem Exp.bad (h:Mk.has 36 t=true) (hA:Mk.after 36 t=40::rest) (hb:Mk.has 41 rest=false∨Mk.isName (Mk.before 41 rest)=false):Exp N sg m k a t ⟨[],1,k⟩:=by
 refine⟨1,?_⟩;rw[expF,if_neg (by rw[h];decide),hA];simp only;rw[if_neg (by decide),if_pos trivial,if_pos hb]
theorem Exp.sign {c:UInt8} (h:Mk.has 36 t=true) (hA:Mk.after 36 t=c::rest) (h1:c≠36) (h2:c≠40):(sg c=none→Exp N sg m k a t ⟨[],1,k⟩)∧(∀p,sg c=some p→Exp N sg m k (addB (addB a (Mk.before 36 t)) p) rest r→Exp N sg m k a t r):=by
 refine⟨fun hs=>⟨1,?_⟩,fun p hs hx=> ?_⟩
 ·rw[expF,if_neg (by rw[h];decide),hA]
  simp only;rw[if_neg h1,if_neg h2,hs]
 ·obtain⟨f,hf⟩:=hx
  refine⟨f+1,?_⟩;rw[expF,if_neg (by rw[h];decide),hA];simp only;rw[if_neg h1,if_neg h2,hs];exact hf
def ReferP (N:Bs→Nv) (sg:UInt8→Option Bs) (m:List Bs) (k:Nat) (name:Bs) (r:Er):Prop:=
 (300<k+1∧r=⟨[],5,k+1⟩)∨(¬300<k+1∧(N name).late=true∧name∈m∧r=⟨[],4,k+1⟩)∨
 (¬300<k+1∧(N name).late=true∧name∉m∧Exp N sg (m++[name]) (k+1) [] (N name).text r)∨(¬300<k+1∧(N name).late=false∧r=⟨(N name).text,0,k+1⟩)
theorem Exp.ref (h:Mk.has 36 t=true) (hA:Mk.after 36 t=40::rest) (hc:Mk.has 41 rest=true) (hn:Mk.isName (Mk.before 41 rest)=true) (hr:ReferP N sg m k (Mk.before 41 rest) r):
 (r.er≠0→Exp N sg m k a t ⟨[],r.er,r.refs⟩)∧(r.er=0→∀q,Exp N sg m r.refs (addB (addB a (Mk.before 36 t)) r.txt) (Mk.after 41 rest) q→Exp N sg m k a t q):=by
 have hb:¬(Mk.has 41 rest=false∨Mk.isName (Mk.before 41 rest)=false):=by rw[hc,hn];simp
 rcases hr with⟨h1,rfl⟩|⟨h1,h2,h3,rfl⟩|⟨h1,h2,h3,f1,hf1⟩|⟨h1,h2,rfl⟩
 ·refine⟨fun _=>⟨1,?_⟩,fun e=>by simp at e⟩
  rw[expF,if_neg (by rw[h];decide),hA];simp only;rw[if_neg (by decide),if_pos trivial,if_neg hb,if_pos h1]
 ·refine⟨fun _=>⟨1,?_⟩,fun e=>by simp at e⟩
  rw[expF,if_neg (by rw[h];decide),hA];simp only;rw[if_neg (by decide),if_pos trivial,if_neg hb,if_neg h1,if_pos h2,if_pos h3]
 ·refine⟨fun e=>⟨f1+1,?_⟩,fun e q hx=> ?_⟩
  ·rw[expF,if_neg (by rw[h];decide),hA]
   simp only;rw[if_neg (by decide),if_pos trivial,if_neg hb,if_neg h1,if_pos h2,if_neg h3,hf1];simp only;rw[if_neg e]
  ·obtain⟨f2,hf2⟩:=hx
   refine⟨f1+f2+1,?_⟩;rw[expF,if_neg (by rw[h];decide),hA];simp only;rw[if_neg (by decide),if_pos trivial,if_neg hb,if_neg h1,if_pos h2,if_neg h3,expF_mono f1 (f1+f2) _ _ _ _ _ (by omega) hf1];simp only;rw[if_pos e];exact expF_mono f2 (f1+f2) _ _ _ _ _ (by omega) hf2
 ·refine⟨fun e=>by simp at e,fun _ q hx=> ?_⟩
  obtain⟨f,hf⟩:=hx;refine⟨f+1,?_⟩;rw[expF,if_neg (by rw[h];decide),hA];simp only;rw[if_neg (by decide),if_pos trivial,if_neg hb,if_neg h1,if_neg (by rw[h2];decide)];exact hf
end
end Go.Cp
namespace Go.Proofs.YtjelacjggijmfaaGreatDoor
open Go.RowKit Go.MapKept Go.ChangeMaps Go.Maps
section
variable {c:Cel} {sv:Value} {L:NL} {sg:UInt8→Option Cp.Bs} {SP:World→Prop} {d:Nat}
theorem ExM.count {refs k:Nat} {mk:List Cp.Bs} {W:World} (h:ExM c sv L refs mk W):ExM c sv L k mk (W.setCell ⟨c.r,0,none⟩ (.int .i64 k))∧ExT c W (W.setCell ⟨c.r,0,none⟩ (.int .i64 k)):=by
 have ht:ExT c W (W.setCell ⟨c.r,0,none⟩ (.int .i64 k)):=Tn.set W ⟨c.r,0,none⟩ _ (.inl rfl);exact⟨h.next ht (h.rbox.set 0 _) (h.marks.setCell (a:=⟨c.r,0,none⟩) (fun e=>row_ne_map h.rbox h.marks e.symm) _),ht⟩
theorem refer_any (HE:ExpC c sv L sg SP d) (hSg:Sgn c sv sg SP) (hL:Short L) (refs:Nat) (mk:List Cp.Bs) (name:Cp.Bs) (W:World) (h:ExM c sv L refs mk W) (hSP:SP W) (hd:301≤refs+1+d) (hr:refs≤300) (hmk:mk.length≤refs):
 Calls Tryz.prog 194 #[.string ⟨name.toArray⟩,.pointer (some ⟨c.r,0,none⟩),.pointer (some ⟨c.n,0,none⟩),.pointer (some ⟨c.l,0,none⟩)] W fun e W' =>∃r:Cp.Er,Cp.ReferP (nOf L) sg mk refs name r∧e= .returned (erV r)∧r.txt.length≤1073741824∧r.refs≤301∧(r.er=0→r.refs≤300)∧refs≤r.refs∧ExM c sv L r.refs mk W' ∧ExT c W W' :=by
 have he1:((refs+1:Nat):Int)=(refs:Int)+1:=by push_cast;rfl
 obtain⟨hM1,hT1⟩:=h.count (k:=refs+1);rw[he1] at hM1 hT1;have r0:=h.rbox.cell? (i:=0) rfl;have z0:=h.rbox.frozen 0;have r1:=hM1.rbox.cell? (i:=0) rfl;rw[he1] at r1;have n1:=hM1.nbox.cell? (i:=0) rfl;have l1:=hM1.lbox.cell? (i:=0) rfl;have HM1:=hide hM1;have HT1:=hide hT1;have hSP1:=hSg.keep _ _ hSP hT1;have hf0:=fieldNv0;have hf1:=fieldNv1
 have hw:IntKind.wrap .i64 ((refs:Int)+1)=(refs:Int)+1:=wrap_small (by omega) (by omega);clear h hM1 hT1 he1
 by_cases h3:300<refs+1
 ·have t1:(300:Int)<(refs:Int)+1:=by omega
  go_enter Tryz.func194,Tryz.ntmps194
  go_wp2_with fail
  go_ret2
  exact⟨⟨[],5,refs+1⟩,.inl ⟨h3,rfl⟩,rfl,by simp,by show refs+1≤301;omega,fun e=>by simp at e,Nat.le_succ _,uh HM1,uh HT1⟩
 ·have t1:¬(300:Int)<(refs:Int)+1:=by omega
  have hsh:=nOf_short hL name
  by_cases hlate:(nOf L name).late=true
  ·have t2:nvV (nOf L name)= .agg #[.string ⟨(nOf L name).text.toArray⟩,.bool true]:=by unfold nvV strV;rw[hlate]
   by_cases hin:name∈mk
   ·have CL:=hide (late_no (refs+1) mk name _ (uh HM1) hin)
    go_enter Tryz.func194,Tryz.ntmps194
    go_wp2_with (first
     |(at_lookup;refine wpList_look_one _ rfl _ _ 137 rfl 9 307 Tryz.underlying137 Tryz.underlying9 (nvV Cp.nv0) (zeroNv _) c.nm (nEnts L) rfl (uh HM1).names name rfl _ ((mget_n L name).trans t2) ?_)
     |(go_at_call 192;refine(uh CL).mono ?_;rintro e w2 ⟨rfl,hb2⟩;unfold erV;have HB2:=hide hb2;clear hb2)
     |fail)
    go_ret2
    exact⟨⟨[],4,refs+1⟩,.inr (.inl ⟨h3,hlate,hin,rfl⟩),rfl,by simp,by show refs+1≤301;omega,fun e=>by simp at e,Nat.le_succ _,(uh HM1).later (uh HB2),(uh HT1).trans (Tn.later (uh HB2))⟩
   ·have CL:=hide (late_yes HE hSg hL (refs+1) mk name _ (uh HM1) hSP1 hd (by omega) (by omega) hin)
    go_enter Tryz.func194,Tryz.ntmps194
    go_wp2_with (first
     |(at_lookup;refine wpList_look_one _ rfl _ _ 137 rfl 9 307 Tryz.underlying137 Tryz.underlying9 (nvV Cp.nv0) (zeroNv _) c.nm (nEnts L) rfl (uh HM1).names name rfl _ ((mget_n L name).trans t2) ?_)
     |(go_at_call 192;refine(uh CL).mono ?_;rintro e w2 ⟨r,hx,rfl,q1,q2,q3,q4,q5,q6⟩;unfold erV;have HX:=hide hx;have HQ5:=hide q5;have HQ6:=hide q6;clear hx q5 q6)
     |fail)
    go_ret2
    exact⟨r,.inr (.inr (.inl ⟨h3,hlate,hin,uh HX⟩)),rfl,by omega,q2,q3,by omega,uh HQ5,(uh HT1).trans (uh HQ6)⟩
  ·have hl0:(nOf L name).late=false:=by simpa using hlate
   have t2:nvV (nOf L name)= .agg #[.string ⟨(nOf L name).text.toArray⟩,.bool false]:=by unfold nvV strV;rw[hl0]
   go_enter Tryz.func194,Tryz.ntmps194
   go_wp2_with (first
    |(at_lookup;refine wpList_look_one _ rfl _ _ 137 rfl 9 307 Tryz.underlying137 Tryz.underlying9 (nvV Cp.nv0) (zeroNv _) c.nm (nEnts L) rfl (uh HM1).names name rfl _ ((mget_n L name).trans t2) ?_)
    |fail)
   go_ret2
   exact⟨⟨(nOf L name).text,0,refs+1⟩,.inr (.inr (.inr ⟨h3,hl0,rfl⟩)),rfl,hsh,by show refs+1≤301;omega,fun _=>by show refs+1≤300;omega,Nat.le_succ _,uh HM1,uh HT1⟩
end
end Go.Proofs.YtjelacjggijmfaaGreatDoor
