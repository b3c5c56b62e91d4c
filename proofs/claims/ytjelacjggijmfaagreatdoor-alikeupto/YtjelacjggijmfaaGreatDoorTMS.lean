/-
  The document's own answer: which of two files is newer.
-/
import Derived.Test.YtjelacjggijmfaaGreatDoorTPure
import Derived.Test.YtjelacjggijmfaaGreatDoorTSS2
import Derived.Maps.OwnSet
import Derived.Test.YtjelacjggijmfaaGreatDoorTSP2
import Derived.Deep.RegionLaw
import Derived.Maps.AppendAt
namespace Go.Proofs.YtjelacjggijmfaaGreatDoor
open Go.RowKit Go.MapKept Go.ChangeMaps Go.Maps
abbrev Ents:=List (Pl.Bs×Value)
def mget (l:Ents) (k:Pl.Bs):Option Value:=(l.find? (fun x=>x.1==k)).map (·.2)
def mput:Ents→Pl.Bs→Value→Ents
 |[],k,v=>[(k,v)]
 |x::r,k,v=>if x.1==k then(k,v)::r else x::mput r k v
def SMap (w:World) (b:Nat) (l:Ents):Prop:=
 ∃es clock,w.heap[b]?=some (.map es clock)∧Stamped es clock∧es.size≤maxLen∧es.toList.map (fun e=>(e.key,e.val))=l.map (fun x=>(strV x.1,x.2))
theorem strV_inj {a b:Pl.Bs} (h:strV a=strV b):a=b:=by
 unfold strV at h;injection h with h
 injection h with h
 simpa using h
theorem str_beq (a b:Pl.Bs):((⟨a.toArray⟩:ByteArray)==⟨b.toArray⟩)=(a==b):=by
 show(a.toArray==b.toArray)=_;simp
theorem findNow_s (k:Pl.Bs):∀(es:List MapEntry) (l:Ents) (i:Nat),es.map (fun e=>(e.key,e.val))=l.map (fun x=>(strV x.1,x.2))→
 (mget l k=none∧Instr.findNow .string (strV k) es i=some none∧(∀e∈es,e.key≠strV k)∧mput l k=fun v=>l++[(k,v)])∨
 ∃j v e,mget l k=some v∧Instr.findNow .string (strV k) es i=some (some (i+j,v))∧es[j]?=some e∧e.key=strV k∧∀v',(es.modify j (fun e=>{e with key:=strV k,val:=v' })).map (fun e=>(e.key,e.val))=(mput l k v').map (fun x=>(strV x.1,x.2))
 |[],[],i,_=> .inl ⟨rfl,rfl,by simp,rfl⟩
 |[],x::l,i,h=>by simp at h
 |e::es,[],i,h=>by simp at h
 |e::es,x::l,i,h=>by
  simp only[List.map_cons,List.cons.injEq,Prod.mk.injEq] at h;obtain⟨⟨hk,hv⟩,hr⟩:=h
  have hs:Instr.sameNow .string (strV k) e.key=some (k==x.1):=by
   rw[hk];unfold strV Instr.sameNow;simp only[str_beq]
  by_cases hx:x.1=k
  ·right
   refine⟨0,e.val,e,?_,?_,rfl,by rw[hk,hx],fun v' => ?_⟩
   ·unfold mget;simp[hx,hv]
   ·unfold Instr.findNow;rw[hs,hx];simp
   ·unfold mput;simp[hx,hr]
  ·have hx' :(x.1==k)=false:=by simpa using hx
   have hx2:(k==x.1)=false:=by simpa using fun e=>hx e.symm
   have hmg:mget (x::l) k=mget l k:=by unfold mget;simp[hx']
   have hmp:∀v,mput (x::l) k v=x::mput l k v:=fun v=>by rw[mput,hx'];rfl
   have hfn:Instr.findNow .string (strV k) (e::es) i=Instr.findNow .string (strV k) es (i+1):=by rw[Instr.findNow,hs,hx2]
   rcases findNow_s k es l (i+1) hr with⟨h1,h2,h3,h4⟩|⟨j,v,e',h1,h2,h3,h4,h5⟩
   ·refine .inl ⟨by rw[hmg,h1],by rw[hfn,h2],?_,?_⟩
    ·intro e' he'
     rcases List.mem_cons.1 he' with rfl|he'
     ·rw[hk];exact fun e=>hx (strV_inj e)
     ·exact h3 e' he'
    ·funext v;rw[hmp,h4];rfl
   ·refine .inr ⟨j+1,v,e',by rw[hmg,h1],by rw[hfn,h2];congr 3;omega,by simpa using h3,h4,fun v' => ?_⟩
    rw[hmp,List.map_cons,←h5 v'];simp[hk,hv]
section
variable {P:Program} {w:World} {b:Nat} {l:Ents} {t kt et:TypeId}
theorem check_s (hk:P.underlying kt=some .string) (em:Bool) (k:Pl.Bs):(Instr.checkKey em 10000 kt (strV k)).run P w= .ok () w:=by
 unfold strV;rw[show (10000:Nat)=9999+1 from rfl,Instr.checkKey];simp only[Sem.run_bind,run_underlying hk,Result.andThen];rfl
theorem SMap.lt (h:SMap w b l):b<w.heap.size:=by
 obtain⟨es,clock,hb,_⟩:=h;exact(Array.getElem?_eq_some_iff.1 hb).1
theorem SMap.of_block {w' :World} (h:SMap w b l) (hb:w'.heap[b]?=w.heap[b]?):SMap w' b l:=by
 obtain⟨es,clock,h1,h2⟩:=h;exact⟨es,clock,hb.trans h1,h2⟩
theorem SMap.later {w' :World} (h:SMap w b l) (hb:Below w.heap.size w w'):SMap w' b l:=h.of_block (hb.block b h.lt)
theorem SMap.below {w' :World} {B:Nat} (h:SMap w b l) (hb:Below B w w') (hl:b<B):SMap w' b l:=h.of_block (hb.block b hl)
theorem SMap.kept {w' :World} {r:Option Nat} (h:SMap w b l) (hg:w.grownBy w' r) (hr:some b≠r):SMap w' b l:=h.of_block (hg.block b h.lt hr)
theorem SMap.setCell (h:SMap w b l) {a:Addr} (ha:b≠a.block) (u:Value):SMap (w.setCell a u) b l:=h.of_block (Below.heap_setCell w a u b ha)
theorem SMap.made (w:World):SMap (w.alloc (.map #[] 0)) w.heap.size []:=⟨#[],0,heap_alloc_new w _,stamped_empty 0,Nat.zero_le _,rfl⟩
theorem SMap.look (h:SMap w b l) (ht:P.underlying t=some (.map kt et)) (hk:P.underlying kt=some .string) {z:Value} (hz:(zeroValue et).run P w= .ok z w) (k:Pl.Bs) (c:Bool):
 (Instr.lookup t (.map (some b)) (strV k) c).run P w= .ok (if c then .tuple #[(mget l k).getD z,.bool (mget l k).isSome] else(mget l k).getD z) w:=by
 obtain⟨es,clock,hb,hst,hsz,he⟩:=h
 rcases findNow_s k es.toList l 0 he with⟨h1,h2,h3,h4⟩|⟨j,v,e',h1,h2,h3,h4,h5⟩
 ·rw[h1]
  simp[Instr.lookup,run_underlying ht,MapKept.run_getObj_map hb,check_s hk,Instr.findKey,run_underlying hk,h2,hz,Result.andThen]
 ·rw[h1]
  simp[Instr.lookup,run_underlying ht,MapKept.run_getObj_map hb,check_s hk,Instr.findKey,run_underlying hk,h2,Result.andThen]
theorem SMap.put (h:SMap w b l) (ht:P.underlying t=some (.map kt et)) (hk:P.underlying kt=some .string) (hl:l.length<maxLen) (k:Pl.Bs) (v:Value):
 ∃w',(Instr.mapUpdate t (.map (some b)) (strV k) v).run P w= .ok () w' ∧SMap w' b (mput l k v)∧w.mapTurned w' b:=by
 obtain⟨es,clock,hb,hst,hsz,he⟩:=h;have hbl:b<w.heap.size:=(Array.getElem?_eq_some_iff.1 hb).1;have hlen:es.size=l.length:=by have:=congrArg List.length he;simpa using this
 rcases findNow_s k es.toList l 0 he with⟨h1,h2,h3,h4⟩|⟨j,v',e',h1,h2,h3,h4,h5⟩
 ·refine⟨setBlock w b (.map (es.push ⟨strV k,v,clock⟩) (clock+1)),?_,⟨es.push ⟨strV k,v,clock⟩,clock+1,by simp[setBlock,hbl],stamped_push hst h3,by simp;omega,?_⟩,es,clock,_,_,hb,rfl⟩
  ·simp[Instr.mapUpdate,run_underlying ht,MapKept.run_getObj_map hb,check_s hk,Instr.findKey,run_underlying hk,h2,MapKept.run_setObj_map _ hb,Result.andThen,setBlock]
  ·rw[congrFun h4 v];simp[he]
 ·rw[Nat.zero_add] at h2
  have hj:es[j]?=some e' :=by simpa using h3
  refine⟨setBlock w b (.map (es.modify j (fun e=>{e with key:=strV k,val:=v})) clock),?_,⟨es.modify j (fun e=>{e with key:=strV k,val:=v}),clock,by simp[setBlock,hbl],stamped_modify hst _ _ (fun _ _=>rfl) (fun e2 _ he2=> ?_),by simpa using hsz,?_⟩,es,clock,_,_,hb,rfl⟩
  ·have hstay:(Instr.keyThatStays (strV k) (strV k)).run P w= .ok (strV k) w:=by
    unfold strV;simp[Instr.keyThatStays,Instr.sameBits,str_beq]
   simp[Instr.mapUpdate,run_underlying ht,MapKept.run_getObj_map hb,check_s hk,Instr.findKey,run_underlying hk,h2,hj,h4,hstay,MapKept.run_setObj_map _ hb,Result.andThen,setBlock]
  ·rw[hj] at he2;cases he2;exact h4.symm
  ·rw[Array.toList_modify];exact h5 v
end
section
variable {P:Program} (w:World) {ops:Array Oper} {rest:List Oper} {o:Oper} {a:Act} {Q:Exit→Act→World→Prop}
theorem wpList_look_ok_yes (hg:o.guard=none) (m x:Operand) (t:TypeId) (hop:o.op=Op.lookup t m x true) (kt et:TypeId) (ht:P.underlying t=some (.map kt et)) (hk:P.underlying kt=some .string) (z:Value) (hz:(zeroValue et).run P w= .ok z w)
 (b:Nat) (l:Ents) (hm:a.eval m= .map (some b)) (hs:SMap w b l) (k:Pl.Bs) (hx:a.eval x= .string ⟨k.toArray⟩) (u:Value) (hu:mget l k=some u) (hK:wpList P ops Q rest (a.put o.dst (.tuple #[u,.bool true])) w):wpList P ops Q (o::rest) a w:=by
 refine wpList_plain hg fun K' hK' => ?_
 have hrun:=hs.look ht hk hz k true;rw[hu] at hrun;unfold strV at hrun;unfold Oper.wp;simp[execOp,hop,hm,hx,hrun,Result.andThen];exact hK' _ _ hK
theorem wpList_look_ok_no (hg:o.guard=none) (m x:Operand) (t:TypeId) (hop:o.op=Op.lookup t m x true) (kt et:TypeId) (ht:P.underlying t=some (.map kt et)) (hk:P.underlying kt=some .string) (z:Value) (hz:(zeroValue et).run P w= .ok z w)
 (b:Nat) (l:Ents) (hm:a.eval m= .map (some b)) (hs:SMap w b l) (k:Pl.Bs) (hx:a.eval x= .string ⟨k.toArray⟩) (hu:mget l k=none) (hK:wpList P ops Q rest (a.put o.dst (.tuple #[z,.bool false])) w):wpList P ops Q (o::rest) a w:=by
 refine wpList_plain hg fun K' hK' => ?_
 have hrun:=hs.look ht hk hz k true;rw[hu] at hrun;unfold strV at hrun;unfold Oper.wp;simp[execOp,hop,hm,hx,hrun,Result.andThen];exact hK' _ _ hK
theorem wpList_look_one (hg:o.guard=none) (m x:Operand) (t:TypeId) (hop:o.op=Op.lookup t m x false) (kt et:TypeId) (ht:P.underlying t=some (.map kt et)) (hk:P.underlying kt=some .string) (z:Value) (hz:(zeroValue et).run P w= .ok z w)
 (b:Nat) (l:Ents) (hm:a.eval m= .map (some b)) (hs:SMap w b l) (k:Pl.Bs) (hx:a.eval x= .string ⟨k.toArray⟩) (u:Value) (hu:(mget l k).getD z=u) (hK:wpList P ops Q rest (a.put o.dst u) w):wpList P ops Q (o::rest) a w:=by
 refine wpList_plain hg fun K' hK' => ?_
 have hrun:=hs.look ht hk hz k false;rw[hu] at hrun;unfold strV at hrun;unfold Oper.wp;simp[execOp,hop,hm,hx,hrun,Result.andThen];exact hK' _ _ hK
theorem wpList_put_s (hg:o.guard=none) (m x v:Operand) (t:TypeId) (hop:o.op=Op.mapUpdate t m x v) (kt et:TypeId) (ht:P.underlying t=some (.map kt et)) (hk:P.underlying kt=some .string)
 (b:Nat) (l:Ents) (hm:a.eval m= .map (some b)) (hs:SMap w b l) (hl:l.length<maxLen) (k:Pl.Bs) (hx:a.eval x= .string ⟨k.toArray⟩) (u:Value) (hv:a.eval v=u)
 (hK:∀w',SMap w' b (mput l k u)→w.mapTurned w' b→wpList P ops Q rest (a.put o.dst undef) w'):wpList P ops Q (o::rest) a w:=by
 refine wpList_plain hg fun K' hK' => ?_
 obtain⟨w',hrun,r1,r2⟩:=hs.put ht hk hl k u;unfold strV at hrun;unfold Oper.wp;simp[execOp,hop,hm,hx,hv,hrun,Result.andThen];exact hK' _ _ (hK w' r1 r2)
end
end Go.Proofs.YtjelacjggijmfaaGreatDoor
namespace Go.Proofs.YtjelacjggijmfaaGreatDoor
open Go.RowKit
theorem owns_form {w:World} {B e size:Nat} {v:Value} {n:Nat} {xs:List Value} (h:w.ownsRow B e size v n xs) (h0:0<n):∃g cap,v= .slice (some ⟨g,0,none⟩) n cap∧B≤g∧g<w.heap.size:=by
 rcases h.2 with⟨h1,h2⟩|⟨g,cap,cur,h1,h2,h3,h4,h5,h6,h7⟩
 ·omega
 ·exact⟨g,cap,h1,h2,(Array.getElem?_eq_some_iff.1 h3).1⟩
def Strs (w:World) (B:Nat) (v:Value) (ss:List Pl.Bs):Prop:=w.ownsRow B 9 1 v ss.length (ss.map strV)
theorem own_ne {w:World} {B e size:Nat} {v:Value} {n:Nat} {xs:List Value} (h:w.ownsRow B e size v n xs) {N:Nat} (hN:N<B):some N≠v.ownBlock:=fun e=>by have:=(h.lt N e.symm).1;omega
def fileC (f:Pl.File):List Value:=[strV f.path,strV f.text,.int .i64 f.time]
def filesC (fs:List Pl.File):List Value:=fs.flatMap fileC
theorem filesC_get (fs:List Pl.File):∀(i:Nat) (h:i<fs.length),(filesC fs)[i*3]?=some (strV fs[i].path)∧(filesC fs)[i*3+1]?=some (strV fs[i].text)∧(filesC fs)[i*3+2]?=some (.int .i64 fs[i].time):=by
 induction fs with
 |nil=>intro i h;simp at h
 |cons f r ih=>
  intro i h;unfold filesC;rw[List.flatMap_cons];cases i with
  |zero=>simp[fileC]
  |succ i=>
   have:=ih i (by simpa using h);unfold filesC at this;have hl:(fileC f).length=3:=rfl;rw[List.getElem?_append_right (by omega),List.getElem?_append_right (by omega),List.getElem?_append_right (by omega),hl];rw[show (i+1)*3-3=i*3 from by omega,show (i+1)*3+1-3=i*3+1 from by omega,show (i+1)*3+2-3=i*3+2 from by omega];exact this
def RdF (w:World) (b o:Nat) (fs:List Pl.File):Prop:=
 ∀i (h:i<fs.length),w.cell? ⟨b,o+i*3,none⟩=some (strV fs[i].path)∧w.cell? ⟨b,o+i*3+1,none⟩=some (strV fs[i].text)∧w.cell? ⟨b,o+i*3+2,none⟩=some (.int .i64 fs[i].time)
theorem RdF.below {w w' :World} {b o n:Nat} {fs:List Pl.File} (h:RdF w b o fs) (hb:Below n w w') (hn:b<n):RdF w' b o fs:=fun i hi=>
 ⟨(hb.cell (p:=⟨b,_,none⟩) hn).trans (h i hi).1,(hb.cell (p:=⟨b,_,none⟩) hn).trans (h i hi).2.1,(hb.cell (p:=⟨b,_,none⟩) hn).trans (h i hi).2.2⟩
theorem owns_set {w:World} {B e size n cap g:Nat} {xs:List Value} (h:w.ownsRow B e size (.slice (some ⟨g,0,none⟩) n cap) n xs) (j:Nat) (u:Value):
 (w.setCell ⟨g,j,none⟩ u).ownsRow B e size (.slice (some ⟨g,0,none⟩) n cap) n (xs.set j u):=by
 have h0:=h.1
 rcases h.2 with⟨h1,h2⟩|⟨g',cap',cur,h1,h2,h3,h4,h5,h6,h7⟩
 ·cases h1
 ·simp only[Value.slice.injEq,Option.some.injEq,Addr.mk.injEq,and_true,true_and] at h1
  obtain⟨rfl,rfl⟩:=h1;refine⟨by simpa using h0,.inr ⟨g,cap,cur.set! j u,rfl,h2,?_,h4,h5,by simpa using h6,?_⟩⟩
  ·simp[World.setCell,Array.getElem?_modify,h3]
  ·rw[←h7]
   simp[List.take_set]
theorem owns_other {w:World} {B e size n:Nat} {v:Value} {xs:List Value} (h:w.ownsRow B e size v n xs) {c:Nat} (hc:some c≠v.ownBlock) (j:Nat) (u:Value):(w.setCell ⟨c,j,none⟩ u).ownsRow B e size v n xs:=
 h.kept (row:=some c) ⟨rfl,rfl,rfl,by simp[World.setCell],fun k _ hk=>Below.heap_setCell w ⟨c,j,none⟩ u k (fun e=>hk (by rw[show k=c from e]))⟩ (.inr (fun e=>hc e.symm))
def Fls (w:World) (B:Nat) (v:Value) (fs:List Pl.File):Prop:=w.ownsRow B 89 3 v fs.length (filesC fs)
theorem apart {w:World} {B e f a b n m:Nat} {v u:Value} {xs ys:List Value} (h1:w.ownsRow B e a v n xs) (h2:w.ownsRow B f b u m ys) (hef:e≠f):v.ownBlock=none∨v.ownBlock≠u.ownBlock:=by
 rcases h1.2 with⟨rfl,_⟩|⟨g,cap,cur,rfl,_,h3,_⟩
 ·exact .inl rfl
 ·right
  rcases h2.2 with⟨rfl,_⟩|⟨g',cap',cur',rfl,_,h3',_⟩
  ·simp[Value.ownBlock]
  ·intro e1
   have:g=g' :=by simpa [Value.ownBlock] using e1
   subst this;rw[h3] at h3';cases h3';exact hef rfl
structure RdEff (w:World) (L b o:Nat) (e:Pl.Eff):Prop where
 cmd:w.cell? ⟨b,o,none⟩=some (strV e.cmd)
 exit:w.cell? ⟨b,o+2,none⟩=some (.int .i64 e.exit)
 writes:∃aw cw bw ow,w.cell? ⟨b,o+1,none⟩=some (.slice aw e.writes.length cw)∧(0<e.writes.length→aw=some ⟨bw,ow,none⟩)∧RdF w bw ow e.writes∧bw<L
def RdE (w:World) (L b o:Nat) (ef:List Pl.Eff):Prop:=b<L∧∀i (h:i<ef.length),RdEff w L b (o+i*3) ef[i]
theorem RdEff.below {w w' :World} {L b o:Nat} {e:Pl.Eff} (h:RdEff w L b o e) (hb:Below L w w') (hl:b<L):RdEff w' L b o e:=by
 obtain⟨h1,h2,aw,cw,bw,ow,h3,h4,h5,h6⟩:=h;exact⟨(hb.cell (p:=⟨b,_,none⟩) hl).trans h1,(hb.cell (p:=⟨b,_,none⟩) hl).trans h2,aw,cw,bw,ow,(hb.cell (p:=⟨b,_,none⟩) hl).trans h3,h4,h5.below hb h6,h6⟩
theorem RdE.below {w w' :World} {L b o:Nat} {ef:List Pl.Eff} (h:RdE w L b o ef) (hb:Below L w w'):RdE w' L b o ef:=⟨h.1,fun i hi=>(h.2 i hi).below hb h.1⟩
structure RW (w:World) (B bx:Nat) (ve vf vc:Value) (X:Pl.Wd):Prop where
 row:Row w bx 99 [vf,.int .i64 X.clock,ve,vc,.int .i64 X.exit]
 files:Fls w B vf X.files
 cmds:Strs w B vc X.cmds
 lt:bx<B
end Go.Proofs.YtjelacjggijmfaaGreatDoor
