/-
  Patterns: a name's stem; needs with the stem.
-/
import Derived.Test.YtjelacjggijmfaaGreatDoorTPureU
import Derived.BigQuiet
import Derived.Deep.Cut
set_option maxHeartbeats 4000000
set_option maxRecDepth 100000
namespace Go.Proofs.YtjelacjggijmfaaGreatDoor
open Go.RowKit Go.MapKept Go.ChangeMaps Go.Maps
structure Nod where
 name:Pl.Bs
 ph:Bool
 needs:List Pl.Bs
 stem:Pl.Bs
 cmds:List (Pl.Bs×Nat)
def GiveR (N:Pl.Bs→Cp.Nv) (sg:UInt8→Option Pl.Bs):List (Pl.Bs×Nat)→Nat→List Pl.Bs→(Nat×Nat)⊕(Nat×List Pl.Bs)→Prop
 |[],k,acc,R=>R= .inr (k,acc)
 |c::rest,k,acc,R=>∃r:Cp.Er,Cp.Exp N sg [] 0 [] c.1 r∧(if r.er≠0 then R= .inl (r.er,c.2) else if Mk.cut r.txt=[] then GiveR N sg rest k acc R else GiveR N sg rest (k+1) (if k+1≤500 then acc++[r.txt] else acc) R)
def Nod.sg (x:Nod):UInt8→Option Pl.Bs:=sgOf x.name (x.needs.headD []) (Lib.join x.needs [32]) x.stem
def StepsR (N:Pl.Bs→Cp.Nv):List Nod→Nat→List Stp→(Nat×Nat)⊕(Nat×List Stp)→Prop
 |[],k,acc,R=>R= .inr (k,acc)
 |x::rest,k,acc,R=>∃G,GiveR N x.sg x.cmds k [] G∧(match G with
  | .inl e=>R= .inl e
  | .inr (k',cs)=>StepsR N rest k' (acc++[⟨x.name,x.ph,x.needs,x.stem,cs⟩]) R)
def RdC (W:World) (b o:Nat) (cs:List (Pl.Bs×Nat)):Prop:=∀(j:Nat) (x:Pl.Bs×Nat),cs[j]?=some x→W.cell? ⟨b,o+j*2,none⟩=some (strV x.1)∧W.cell? ⟨b,o+j*2+1,none⟩=some (.int .i64 (x.2:Int))
theorem RdC.below {W W' :World} {b o L:Nat} {cs:List (Pl.Bs×Nat)} (h:RdC W b o cs) (hb:Below L W W') (hl:b<L):RdC W' b o cs:=fun j x hj=>⟨(hb.cell (p:=⟨b,_,none⟩) hl).trans (h j x hj).1,(hb.cell (p:=⟨b,_,none⟩) hl).trans (h j x hj).2⟩
def NdR (W:World) (L b o:Nat) (x:Nod):Prop:=∃(an am:Option Addr) (cn cm nb no mb mo:Nat),
 Row6 W b o [strV x.name,.bool x.ph,.slice an x.needs.length cn,.slice am x.cmds.length cm,strV x.stem]∧x.needs.length≤cn∧(0<x.needs.length→an=some ⟨nb,no,none⟩∧nb<L∧RdN W nb no x.needs)∧(0<x.cmds.length→am=some ⟨mb,mo,none⟩∧mb<L∧RdC W mb mo x.cmds)
def SvR (w:World) (L:Nat) (x:Stp) (c:List Value):Prop:=∃(an ac am:Option Addr) (cn cc nb no cb co nm cm:Nat),
 c=[strV x.name,.bool x.ph,.slice an x.needs.length cn,.slice am nm cm,strV x.stem,.slice ac x.cmds.length cc]∧(0<x.needs.length→an=some ⟨nb,no,none⟩∧nb<L∧RdN w nb no x.needs)∧
 (0<x.cmds.length→ac=some ⟨cb,co,none⟩∧cb<w.heap.size∧(∃cur fz,w.heap[cb]?=some (.cells cur 9 fz))∧RdN w cb co x.cmds)
theorem cell_same {w w' :World} {b o:Nat} (h:w'.heap[b]?=w.heap[b]?):w'.cell? ⟨b,o,none⟩=w.cell? ⟨b,o,none⟩:=by
 unfold World.cell?;simp only;rw[h]
theorem RdN.same {w w' :World} {b o:Nat} {ss:List Pl.Bs} (h:RdN w b o ss) (hb:w'.heap[b]?=w.heap[b]?):RdN w' b o ss:=fun j x hj=>(cell_same hb).trans (h j x hj)
theorem SvR.same {w w' :World} {L:Nat} {x:Stp} {c:List Value} (h:SvR w L x c) (hs:w.heap.size≤w'.heap.size) (h1:∀k,k<L→w'.heap[k]?=w.heap[k]?) (h2:∀(k:Nat) (cur:Array Value) (fz:Nat×Nat),w.heap[k]?=some (Obj.cells cur 9 fz)→w'.heap[k]?=w.heap[k]?):SvR w' L x c:=by
 obtain⟨an,ac,am,cn,cc,nb,no,cb,co,nm,cm,e,hn,hc⟩:=h;refine⟨an,ac,am,cn,cc,nb,no,cb,co,nm,cm,e,fun q=> ?_,fun q=> ?_⟩
 ·obtain⟨q1,q2,q3⟩:=hn q
  exact⟨q1,q2,q3.same (h1 nb q2)⟩
 ·obtain⟨q1,q2,⟨cur,fz,q3⟩,q4⟩:=hc q
  have hk:=h2 cb cur fz q3;exact⟨q1,by omega,⟨cur,fz,hk.trans q3⟩,q4.same hk⟩
def StC (w:World) (L:Nat):List Stp→List Value→Prop
 |[],c=>c=[]
 |x::r,c=>∃a b,c=a++b∧SvR w L x a∧StC w L r b
theorem StC.same {w w' :World} {L:Nat} (hs:w.heap.size≤w'.heap.size) (h1:∀k,k<L→w'.heap[k]?=w.heap[k]?) (h2:∀(k:Nat) (cur:Array Value) (fz:Nat×Nat),w.heap[k]?=some (Obj.cells cur 9 fz)→w'.heap[k]?=w.heap[k]?):∀(xs:List Stp) (c:List Value),StC w L xs c→StC w' L xs c
 |[],_,h=>h
 |_::r,_,⟨a,b,e,h3,h4⟩=>⟨a,b,e,SvR.same h3 hs h1 h2,StC.same hs h1 h2 r b h4⟩
theorem StC.snoc {w:World} {L:Nat}:∀(xs:List Stp) (c:List Value) (x:Stp) (d:List Value),StC w L xs c→SvR w L x d→StC w L (xs++[x]) (c++d)
 |[],c,x,d,h,hd=>by
  have:c=[]:=h;subst this;exact⟨d,[],by simp,hd,rfl⟩
 |y::r,_,x,d,⟨a,b,e,h1,h2⟩,hd=>by
  subst e;exact⟨a,b++d,by simp,h1,StC.snoc r b x d h2 hd⟩
theorem SvR.length {w:World} {L:Nat} {x:Stp} {c:List Value} (h:SvR w L x c):c.length=6:=by
 obtain⟨an,ac,am,cn,cc,nb,no,cb,co,nm,cm,rfl,-⟩:=h;rfl
theorem StC.at {w:World} {L:Nat}:∀(xs:List Stp) (c:List Value) (_:StC w L xs c) (i:Nat) (hi:i<xs.length),∃a,SvR w L xs[i] a∧∀j,j<6→c[i*6+j]?=a[j]?
 |x::r,_,⟨a,b,e,h1,h2⟩,0,_=>by
  subst e;refine⟨a,h1,fun j hj=> ?_⟩;rw[Nat.zero_mul,Nat.zero_add,List.getElem?_append_left (by rw[h1.length];exact hj)]
 |x::r,_,⟨a,b,e,h1,h2⟩,i+1,hi=>by
  subst e;obtain⟨a',q1,q2⟩:=StC.at r b h2 i (by simpa using hi);refine⟨a',q1,fun j hj=> ?_⟩;rw[List.getElem?_append_right (by rw[h1.length];omega),h1.length,show (i+1)*6+j-6=i*6+j by omega];exact q2 j hj
 |[],_,_,_,hi=>by simp at hi
theorem Tryz.infoStep:(Tryz.prog.info? 206).map (fun i=>(i.zero,i.size,i.bytes))=some (some (.agg #[.string ⟨#[]⟩,.bool false,.slice none 0 0,.slice none 0 0,.string ⟨#[]⟩,.slice none 0 0]),6,112):=by kernel_rfl
structure NdB (x:Nod):Prop where
 cmds:x.cmds.length≤2000000000
 texts:∀c∈x.cmds,c.1.length≤1073741824
 join:(Lib.join x.needs [32]).length≤1073741824
 needs:x.needs.length≤1073741824
 first:(x.needs.headD []).length≤1073741824
 name:x.name.length≤1073741824
 stem:x.stem.length≤1073741824
structure OutI (W:World) (N:Pl.Bs→Cp.Nv) (nodes:List Nod) (i k:Nat) (acc:List Stp) (sv:Value) (wr:World):Prop where
 below:Below W.heap.size W wr
 own:∃c,wr.ownsRow W.heap.size 206 6 sv acc.length c∧StC wr W.heap.size acc c
 cont:∀R,StepsR N (nodes.drop i) k acc R→StepsR N nodes 0 [] R
 len:acc.length=i
structure InI (ws:World) (N:Pl.Bs→Cp.Nv) (sg:UInt8→Option Pl.Bs) (cmds:List (Pl.Bs×Nat)) (k0 j k:Nat) (acc:List Pl.Bs) (cv:Value) (w:World):Prop where
 below:Below ws.heap.size ws w
 own:w.ownsRow ws.heap.size 9 1 cv acc.length (acc.map strV)
 cont:∀R,GiveR N sg (cmds.drop j) k acc R→GiveR N sg cmds k0 [] R
 len:acc.length≤j
theorem OutI.next {W wo wi w6:World} {N:Pl.Bs→Cp.Nv} {nodes:List Nod} {i k k' H cc cn nb no nm cm:Nat} {acc:List Stp} {sv v6:Value} {x:Nod} {ac' :List Pl.Bs} {c:List Value} {o:Obj} {ca an am:Option Addr} (h:OutI W N nodes i k acc sv wo) (hdr:nodes.drop i=x::nodes.drop (i+1)) (hB:Below wo.heap.size wo wi) (hG:GiveR N x.sg x.cmds k [] (.inr (k',ac'))) (hoc:wi.ownsRow H 9 1 (.slice ca ac'.length cc) ac'.length (ac'.map strV))
 (hc:StC wo W.heap.size acc c) (hos:wo.ownsRow W.heap.size 206 6 sv acc.length c) (hg:(wi.alloc o).grownBy w6 sv.ownBlock) (how:w6.ownsRow W.heap.size 206 6 v6 (acc.length+1) (c++[strV x.name,.bool x.ph,.slice an x.needs.length cn,.slice am nm cm,strV x.stem,.slice ca ac'.length cc])) (hne:0<x.needs.length→an=some ⟨nb,no,none⟩∧nb<W.heap.size∧RdN W nb no x.needs):
 OutI W N nodes (i+1) k' (acc++[⟨x.name,x.ph,x.needs,x.stem,ac'⟩]) v6 w6:=by
 have hza:(wi.alloc o).heap.size=wi.heap.size+1:=World.size_alloc _ _;have hWo:=h.below.size;have hoi:=hB.size;have hg6:=hg.size;have key:∀q,q<wi.heap.size→some q≠sv.ownBlock→w6.heap[q]?=wi.heap[q]?:=fun q h1 h2=>(hg.block q (by omega) h2).trans (Below.heap_alloc wi o q h1)
 have hlow:∀q,q<W.heap.size→some q≠sv.ownBlock:=fun q hq e=>by have:=(hos.lt q e.symm).1;omega
 have hstr:∀(q:Nat) (cur:Array Value) (fz:Nat×Nat),q<wi.heap.size→wi.heap[q]?=some (Obj.cells cur 9 fz)→some q≠sv.ownBlock:=fun q cur fz hq e1 e=>by
  obtain⟨c1,f1,e2⟩:=own_type hos q e.symm;rw[hB.block q (hos.lt q e.symm).2,e2] at e1;cases e1
 have hb6:Below W.heap.size W w6:=h.below.trans ⟨hg.os.trans hB.os,hg.tape.trans hB.tape,hg.output.trans hB.output,by omega,fun q hq=>(key q (by omega) (hlow q hq)).trans (hB.block q (by omega))⟩
 refine⟨hb6,⟨_,by rw[List.length_append];exact how,StC.snoc _ _ _ _ (StC.same (by omega) (fun q hq=>(key q (by omega) (hlow q hq)).trans (hB.block q (by omega))) (fun q cur fz e=> ?_) _ _ hc) ?_⟩,fun R hR=>h.cont R (by rw[hdr];exact⟨_,hG,hR⟩),by rw[List.length_append,h.len];rfl⟩
 ·have hq:q<wo.heap.size:=(Array.getElem?_eq_some_iff.1 e).1
  have e' :wi.heap[q]?=some (Obj.cells cur 9 fz):=(hB.block q hq).trans e;exact(key q (by omega) (hstr q cur fz (by omega) e')).trans (hB.block q hq)
 ·by_cases h0:0<ac'.length
  ·obtain⟨g,cap,hca,hg1,hg2⟩:=owns_form hoc h0
   cases hca;obtain⟨cur,fz,e1⟩:=own_type hoc g rfl;have e2:=key g hg2 (hstr g cur fz hg2 e1);refine⟨an,_,am,cn,cc,nb,no,g,0,nm,cm,rfl,fun e=>⟨(hne e).1,(hne e).2.1,(hne e).2.2.below hb6 (hne e).2.1⟩,fun _=>⟨rfl,by omega,⟨cur,fz,e2.trans e1⟩,fun j y hj=> ?_⟩⟩;rw[cell_same e2,Nat.zero_add];obtain⟨hj1,hj2⟩:=List.getElem?_eq_some_iff.1 hj
   rw[own_cell hoc j (by simpa using hj1),List.getElem_map,hj2]
  ·exact⟨an,ca,am,cn,cc,nb,no,0,0,nm,cm,rfl,fun e=>⟨(hne e).1,(hne e).2.1,(hne e).2.2.below hb6 (hne e).2.1⟩,fun e=>absurd e h0⟩
theorem six_one (a b:Pl.Bs) (ph:Bool) (x y z:Option Addr) (k1 k2 k3 k4 k5 k6:Nat):∀u∈[Value.string ⟨a.toArray⟩,.bool ph,.slice x k1 k2,.slice y k3 k4,.string ⟨b.toArray⟩,.slice z k5 k6],u.oneCell' =true:=fun u hu=>by
 simp only[List.mem_cons,List.not_mem_nil,or_false] at hu
 rcases hu with rfl|rfl|rfl|rfl|rfl|rfl<;>rfl
def StepsP (W:World) (N:Pl.Bs→Cp.Nv) (nodes:List Nod) (e:Ending) (W' :World):Prop:=∃R,StepsR N nodes 0 [] R∧Below W.heap.size W W' ∧(match R with
 | .inl (er,ln)=>e= .returned (.tuple #[.slice none 0 0,.int .i64 (er:Nat),.int .i64 (ln:Nat)])
 | .inr (k,ss)=>(500<k∧e= .returned (.tuple #[.slice none 0 0,.int .i64 5,.int .i64 0]))∨(k≤500∧∃sv c,e= .returned (.tuple #[sv,.int .i64 0,.int .i64 0])∧W'.ownsRow W.heap.size 206 6 sv ss.length c∧StC W' W.heap.size ss c))
theorem stepsOf_any (nodes:List Nod) (a:Option Addr) (cap b0 o0 nm:Nat) (L:NL) (W:World) (ha:0<nodes.length→a=some ⟨b0,o0,none⟩) (hb0:b0<W.heap.size) (hr:∀i (h:i<nodes.length),NdR W W.heap.size b0 (o0+i*5) nodes[i]) (hN:SMap W nm (nEnts L)) (hSh:Short L) (hg:Glob W) (hl:nodes.length≤1000) (hB:∀x∈nodes,NdB x):
 Calls Tryz.prog 66 #[.slice a nodes.length cap,.map (some nm)] W (StepsP W (nOf L) nodes):=by
 obtain⟨i0,hi0,hz0,hz1,hz2⟩:=info_parts Tryz.infoStep;obtain⟨i1,hi1,hy0,hy1,hy2⟩:=info_parts Tryz.infoStr;have HA:=hide ha;have HR:=hide hr;have HB:=hide hB;have HN:=hide hN;have HG:=hide hg;clear ha hr hB hN hg;have HX0:Hid (OutI W (nOf L) nodes 0 0 [] (.slice none 0 0) W):=⟨Below.refl _ _,⟨[],World.ownsRow_nil _ _ _ _,rfl⟩,fun R h=>h,rfl⟩
 go_enter Tryz.func66,Tryz.ntmps66
 go_wp2_with fail
 go_loopw [7,8,19] (fun sv kv iv wr=>∃(i k:Nat) (acc:List Stp),iv= .int .i64 i∧kv= .int .i64 k∧i≤nodes.length∧k≤i*2000000000∧Hid (OutI W (nOf L) nodes i k acc sv wr)) (fun _ _ iv _=>nodes.length-intN iv)
 case atStart=>exact⟨0,0,[],rfl,rfl,by omega,by omega,HX0⟩
 case round=>
  clear HX0;obtain⟨i,k,acc,rfl,rfl,hi2,hk,HX⟩:=hrel
  by_cases hi:i<nodes.length
  ·have t1:(i:Int)<nodes.length:=by omega
   have t0:(0:Int)≤(i:Int):=by omega
   obtain rfl:=uh HA (by omega);obtain⟨an,am,cn,cm,nb,no,mb,mo,hr6,hcn,hne,hcm⟩:=uh HR i hi;have hNB:=uh HB nodes[i] (List.getElem_mem hi);have hBl:=(uh HX).below;have hdr:nodes.drop i=nodes[i]::nodes.drop (i+1):=List.drop_eq_getElem_cons hi
   have g:∀(j:Nat) (u:Value),[strV nodes[i].name,.bool nodes[i].ph,.slice an nodes[i].needs.length cn,.slice am nodes[i].cmds.length cm,strV nodes[i].stem][j]?=some u→wr.cell? ⟨b0,o0+i*5+j,none⟩=some u:=fun j u hj=>(hBl.cell (p:=⟨b0,_,none⟩) hb0).trans (hr6 j u hj)
   have g0:wr.cell? ⟨b0,o0+i*5,none⟩=some (strV nodes[i].name):=g 0 _ rfl;have g1:=g 1 _ rfl;have g2:=g 2 _ rfl;have g3:=g 3 _ rfl;have g4:=g 4 _ rfl;have HDR:=hide hdr;clear g hr6 hdr;generalize hx:nodes[i]=x at*;obtain⟨name,ph,needs,stem,cmds⟩:=x;obtain⟨m1,m2,m3,m4,m5,m6,m7⟩:=hNB;dsimp only at*;have HNE:=hide hne;have HCM:=hide hcm;clear hne hcm
   have q1:=(Below.refl wr.heap.size wr).alloc (Nat.le_refl _) (.cells #[strV name,.bool ph,.slice an needs.length cn,.slice am cmds.length cm,strV stem] 197);have HQ1:=hide q1;have RB:=hide (Row.new wr 197 [strV name,.bool ph,.slice an needs.length cn,.slice am cmds.length cm,strV stem])
   have CG:=hide (signsOf_any name stem ph needs an am cn nb no cmds.length cm (wr.alloc (.cells #[strV name,.bool ph,.slice an needs.length cn,.slice am cmds.length cm,strV stem] 197)) (fun e=>⟨(uh HNE e).1,(uh HNE e).2.2.below (hBl.trans (q1.mono hBl.size)) (uh HNE e).2.1⟩) (fun e=>Nat.lt_of_lt_of_le (uh HNE e).2.1 (Nat.le_trans hBl.size q1.size)) hcn m3 m4);have hws:=hBl.size;clear q1 hBl
   unfold nodeV strV at*
   go_wp2_with (first
    |(go_at_call 93;refine(uh CG).mono ?_;clear CG;rintro e w2 ⟨s1,s2,s3,rfl,hsg,hb2⟩;have HSG:=hide hsg;have HB2:=hide ((uh HQ1).trans (hb2.mono (uh HQ1).size));have RB2:=hide ((uh RB).later hb2);have d3:=(uh RB2).cell? (i:=3) rfl;unfold signV;clear hsg hb2)
    |fail)
   have HBW2:=hide ((uh HX).below.trans ((uh HB2).mono hws));have HN2:=hide ((uh HN).below (uh HBW2) (uh HN).lt);have HG2:=hide ((uh HG).later (uh HBW2));have hs1:=(uh HSG).node.lt;have hs2:=(uh HSG).first.lt;have hs3:=(uh HSG).all.lt
   have HI0:Hid (InI w2 (nOf L) (Nod.sg ⟨name,ph,needs,stem,cmds⟩) cmds k 0 k [] (.slice none 0 0) w2):=⟨Below.refl _ _,World.ownsRow_nil _ _ _ _,fun R h=>h,Nat.le_refl _⟩
   go_loopw [8,12,28] (fun kv cv jv wi=>∃(j k' :Nat) (ac' :List Pl.Bs),jv= .int .i64 j∧kv= .int .i64 k' ∧j≤cmds.length∧k' ≤k+j∧Hid (InI w2 (nOf L) (Nod.sg ⟨name,ph,needs,stem,cmds⟩) cmds k j k' ac' cv wi)) (fun _ _ jv _=>cmds.length-intN jv)
   case atStart=>exact⟨0,k,[],rfl,rfl,by omega,by omega,HI0⟩
   case round=>
    clear HI0;obtain⟨j,k',ac',rfl,rfl,hj2,hk',HI⟩:=hrel
    by_cases hj:j<cmds.length
    ·have u1:(j:Int)<cmds.length:=by omega
     have u0:(0:Int)≤(j:Int):=by omega
     obtain⟨rfl,hmb,hrc⟩:=uh HCM (by omega);have hBi:=(uh HBW2).trans ((uh HI).below.mono (uh HBW2).size);obtain⟨ct,cl⟩:=hrc.below hBi hmb j cmds[j] (List.getElem?_eq_getElem hj);have hcd:cmds.drop j=cmds[j]::cmds.drop (j+1):=List.drop_eq_getElem_cons hj;have hct:=m2 cmds[j] (List.getElem_mem hj);have HCD:=hide hcd;clear hrc hcd;generalize hc:cmds[j]=c at*
     obtain⟨text,line⟩:=c;dsimp only at ct cl hct;have p1:=(Below.refl wr.heap.size wr).alloc (Nat.le_refl _) (.cells #[strV text,.int .i64 (line:Int)] 202);have p2:=(uh HI).below.trans (p1.mono (uh HI).below.size);have RC:=hide (Row.new wr 202 [strV text,.int .i64 (line:Int)]);have HP2:=hide p2
     have CE:=hide (expand_any nm (signV s1 s2 s3) L (Nod.sg ⟨name,ph,needs,stem,cmds⟩) _ text (wr.alloc (.cells #[strV text,.int .i64 (line:Int)] 202)) (fun c h1 h2=>sgn_of c s1 s2 s3 (wr.alloc (.cells #[strV text,.int .i64 (line:Int)] 202)).heap.size name (needs.headD []) (Lib.join needs [32]) stem ph _ _ (Nat.lt_of_lt_of_le hs1 p2.size) (Nat.lt_of_lt_of_le hs2 p2.size) (Nat.lt_of_lt_of_le hs3 p2.size) h1 h2 m6 m5 m3 m7) (fun W' hb=>(uh HSG).later (p2.trans (hb.mono p2.size))) hSh ((uh HN2).later p2) ((uh HG2).later p2) hct)
     have hil:=(uh HI).len;clear p1 p2;unfold signV strV at*
     go_upto_region 12 with(first
      |(go_at_call 94;refine(uh CE).mono ?_;clear CE;rintro e w4 ⟨r,hx4,rfl,hrl,hb4⟩;have HX4:=hide hx4;have HB4:=hide ((uh HP2).trans (hb4.mono (uh HP2).size));have hs4:=hb4.size;have RC4:=hide ((uh RC).later hb4);have HO4:=hide (own_same (uh HI).own (fun q hq=>by have:=((uh HI).own.lt q hq).2;exact(hb4.block q (by rw[World.size_alloc];omega)).trans (Below.heap_alloc wr _ q this)));have cl4:=(uh RC4).cell? (i:=1) rfl;unfold erV;clear hx4 hb4)
      |fail)
     obtain⟨txt,er,rf⟩:=r;dsimp only at hrl;dsimp only
     by_cases her:er=0
     ·subst her
      have CC:Hid (Calls Tryz.prog 95 #[.string ⟨txt.toArray⟩] w4 fun e w' =>e= .returned (.string ⟨(Mk.cut txt).toArray⟩)∧Below w4.heap.size w4 w'):=cut_any ⟨txt.toArray⟩ w4 (by show txt.length≤_;omega);have u7:(k' :Int)≤100000000000000:=by omega
      cases hcut:Mk.cut txt with
      |nil=>
       rw[hcut] at CC;have HCU:=hide hcut;clear hcut
       go_wp2_with (first
        |(go_at_call 95;refine(uh CC).mono ?_;clear CC;rintro e w5 ⟨rfl,hb5⟩;have HI5:Hid (InI w2 (nOf L) (Nod.sg ⟨name,ph,needs,stem,cmds⟩) cmds k (j+1) k' ac' u12 w5):=⟨(uh HB4).trans (hb5.mono (uh HB4).size),own_same (uh HO4) (fun q hq=>hb5.block q ((uh HO4).lt q hq).2),fun R h=>(uh HI).cont R (by rw[uh HCD];exact⟨_,uh HX4,by rw[if_neg (by simp),if_pos (uh HCU)];exact h⟩),by omega⟩;clear hb5)
        |fail)
       go_roundw
       case rel=>exact⟨j+1,k',ac',by go_num,rfl,by omega,by omega,HI5⟩
       case measure=>simp only[intN];omega
      |cons y ys=>
       have HCU:Hid (¬Mk.cut txt=[]):=by show ¬Mk.cut txt=[];rw[hcut];simp
       rw[hcut] at CC;clear hcut
       by_cases h5:k' +1≤500
       ·have u6:(k' :Int)+1≤500:=by omega
        have HCT:Hid (∀R,GiveR (nOf L) (Nod.sg ⟨name,ph,needs,stem,cmds⟩) (cmds.drop (j+1)) (k' +1) (ac' ++[txt]) R→GiveR (nOf L) (Nod.sg ⟨name,ph,needs,stem,cmds⟩) cmds k [] R):=fun R h=>(uh HI).cont R (by rw[uh HCD];exact⟨_,uh HX4,by rw[if_neg (by simp),if_neg (uh HCU),if_pos h5];exact h⟩)
        go_wp2_with (first
         |(go_at_call 95;refine(uh CC).mono ?_;clear CC;rintro e w5 ⟨rfl,hb5⟩;have HB5:=hide ((uh HB4).trans (hb5.mono (uh HB4).size));have HO5:=hide (own_same (uh HO4) (fun q hq=>hb5.block q ((uh HO4).lt q hq).2));have hs5:=hb5.size;clear hb5)
         |(at_builtin;refine wpList_append_own_at _ rfl (.tmp 52) (.tmp 54) 30 rfl w2.heap.size 9 i1 (.string ⟨#[]⟩) 1 16 Tryz.underlying30 hi1 hy0 hy1 hy2 rfl (by decide) _ ac'.length _ rfl (World.ownsRow.alloc (uh HO5) _) ⟨_,0,none⟩ 1 1 [.string ⟨txt.toArray⟩] rfl rfl (cells_new _ _ [_]) (one_one _) (by unfold maxLen;omega) (by omega) (by have:=(uh HB5).size;rw[World.size_alloc];omega) ?_;intro v6 w6 hown6 hgrow6 _ _;have HI6:Hid (InI w2 (nOf L) (Nod.sg ⟨name,ph,needs,stem,cmds⟩) cmds k (j+1) (k' +1) (ac' ++[txt]) v6 w6):=⟨((uh HB5).alloc (uh HB5).size (.cells #[.string ⟨txt.toArray⟩] 9)).trans ((Tn.grown (p:=fun q=>w2.heap.size≤q) hgrow6 (fun q hq=>((uh HO5).lt q hq).1)).below (by have:=(uh HB5).size;rw[World.size_alloc];omega) (fun q hq=>hq)),by rw[List.length_append,List.map_append];exact hown6,uh HCT,by rw[List.length_append,List.length_singleton];omega⟩;clear hown6 hgrow6)
         |fail)
        go_roundw
        case rel=>exact⟨j+1,k' +1,_,by go_num,by go_num,by omega,by omega,HI6⟩
        case measure=>simp only[intN];omega
       ·have u6:¬(k' :Int)+1≤500:=by omega
        have HCT:Hid (∀R,GiveR (nOf L) (Nod.sg ⟨name,ph,needs,stem,cmds⟩) (cmds.drop (j+1)) (k' +1) ac' R→GiveR (nOf L) (Nod.sg ⟨name,ph,needs,stem,cmds⟩) cmds k [] R):=fun R h=>(uh HI).cont R (by rw[uh HCD];exact⟨_,uh HX4,by rw[if_neg (by simp),if_neg (uh HCU),if_neg h5];exact h⟩)
        go_wp2_with (first
         |(go_at_call 95;refine(uh CC).mono ?_;clear CC;rintro e w5 ⟨rfl,hb5⟩;have HI5:Hid (InI w2 (nOf L) (Nod.sg ⟨name,ph,needs,stem,cmds⟩) cmds k (j+1) (k' +1) ac' u12 w5):=⟨(uh HB4).trans (hb5.mono (uh HB4).size),own_same (uh HO4) (fun q hq=>hb5.block q ((uh HO4).lt q hq).2),uh HCT,by omega⟩;clear hb5)
         |fail)
        go_roundw
        case rel=>exact⟨j+1,k' +1,ac',by go_num,by go_num,by omega,by omega,HI5⟩
        case measure=>simp only[intN];omega
     ·have u5:¬(er:Int)=0:=by omega
      have HPO:Hid (∃R,StepsR (nOf L) nodes 0 [] R∧R= .inl (er,line)):=⟨.inl (er,line),(uh HX).cont _ (by rw[uh HDR];exact⟨.inl (er,line),(uh HI).cont _ (by rw[uh HCD];exact⟨_,uh HX4,by rw[if_pos her]⟩),rfl⟩),rfl⟩
      go_wp2_with fail
      go_region
      all_goals go_wp2_with fail
      all_goals go_ret3
      all_goals
       obtain⟨R,hR,rfl⟩:=uh HPO;exact⟨_,hR,((uh HBW2).trans ((uh HB4).mono (uh HBW2).size)).drew,rfl⟩
    ·have hje:j=cmds.length:=by omega
     subst hje;have u1:¬(cmds.length:Int)<cmds.length:=by omega
     have hGR:GiveR (nOf L) (Nod.sg ⟨name,ph,needs,stem,cmds⟩) cmds k [] (.inr (k',ac')):=(uh HI).cont _ (by rw[List.drop_length];rfl);have HGR:=hide hGR;obtain⟨ca,cc,hcv⟩:=own_sh (uh HI).own;subst hcv;have RW:=(uh RB2).later (uh HI).below;have d0:=RW.cell? (i:=0) rfl;have d1:=RW.cell? (i:=1) rfl;have d2:=RW.cell? (i:=2) rfl;have d3' :=RW.cell? (i:=3) rfl
     have d4:=RW.cell? (i:=4) rfl;obtain⟨c,ho1,ho2⟩:=(uh HX).own;have HBI:=hide ((uh HB2).trans ((uh HI).below.mono (uh HB2).size));have HOS:=hide (own_same ho1 (fun q hq=>(uh HBI).block q (ho1.lt q hq).2));have HO1:=hide ho1;have HO2:=hide ho2;have hal:=(uh HX).len;have hsz9:=(uh HBI).size;clear hGR RW ho1 ho2
     go_wp2_with (first
      |(at_builtin;refine wpList_append_own_at _ rfl (.tmp 57) (.tmp 61) 133 rfl W.heap.size 206 i0 _ 6 112 Tryz.underlying133 hi0 hz0 hz1 hz2 rfl (by decide) _ acc.length _ rfl (World.ownsRow.alloc (uh HOS) _) ⟨_,0,none⟩ 1 1 [.string ⟨name.toArray⟩,.bool ph,.slice an needs.length cn,.slice am cmds.length cm,.string ⟨stem.toArray⟩,.slice ca ac'.length cc] rfl rfl (cells_new _ _ _) (six_one _ _ _ _ _ _ _ _ _ _ _ _) (by unfold maxLen;omega) (by omega) (by rw[World.size_alloc];omega) ?_;intro v6 w6 hown6 hgrow6 _ _;have HX6:=hide ((uh HX).next (x:=⟨name,ph,needs,stem,cmds⟩) (uh HDR) (uh HBI) (uh HGR) (uh HI).own (uh HO2) (uh HO1) hgrow6 hown6 (uh HNE));clear hown6 hgrow6)
      |fail)
     go_roundw
     case rel=>exact⟨i+1,k',_,by go_num,rfl,by omega,by omega,HX6⟩
     case measure=>simp only[intN];omega
  ·have hie:i=nodes.length:=by omega
   subst hie;have t1:¬(nodes.length:Int)<nodes.length:=by omega
   have hR:StepsR (nOf L) nodes 0 [] (.inr (k,acc)):=(uh HX).cont _ (by rw[List.drop_length];rfl);have HRR:=hide hR;obtain⟨c,ho1,ho2⟩:=(uh HX).own;have HO:=hide ho1;have HO2:=hide ho2;clear hR ho1 ho2
   by_cases h5:500<k
   ·have u6:(500:Int)<(k:Int):=by omega
    go_wp2_with fail
    go_ret3
    exact⟨_,uh HRR,(uh HX).below,.inl ⟨h5,rfl⟩⟩
   ·have u6:¬(500:Int)<(k:Int):=by omega
    go_wp2_with fail
    go_ret3
    exact⟨_,uh HRR,(uh HX).below,.inr ⟨by omega,_,c,rfl,uh HO,uh HO2⟩⟩
theorem worldText_any (bx bf bi:Nat) (ve:Value) (ef:List Pl.Eff) (fs:List Pl.File) (clock:Int) (nm:Pl.Bs) (w:World) (h:PW w bx bf bi ve ef fs clock):
 Calls Tryz.prog 87 #[.pointer (some ⟨bx,0,none⟩),.string ⟨nm.toArray⟩] w fun e w' =>e= .returned (match Pl.look fs nm with|some g=> .tuple #[.string ⟨g.text.toArray⟩,.bool true]|none=> .tuple #[.string ⟨#[]⟩,.bool false])∧Below w.heap.size w w' :=by
 have c0:=h.row.cell 0 (by simp);simp only[List.getElem_cons_zero] at c0;have HF:=hide h.files;cases hl:Pl.look fs nm with
 |some g=>
  have HM:Hid (mget (fEnts fs) nm=some (fileV g)):=by show _=_;rw[mget_f,hl];rfl
  clear h hl
  go_enter Tryz.func87,Tryz.ntmps87
  go_wp2_with (first
   |(at_lookup;refine wpList_look_ok_yes _ rfl _ _ 177 rfl 9 65 Tryz.underlying177 Tryz.underlying9 _ (zeroFile _) bf (fEnts fs) rfl (uh HF) nm rfl (fileV g) (uh HM) ?_;unfold fileV)
   |fail)
  go_ret2
  exact⟨rfl,(Below.refl _ w).alloc (Nat.le_refl _) _⟩
 |none=>
  have HM:Hid (mget (fEnts fs) nm=none):=by show _=_;rw[mget_f,hl];rfl
  clear h hl
  go_enter Tryz.func87,Tryz.ntmps87
  go_wp2_with (first
   |(at_lookup;refine wpList_look_ok_no _ rfl _ _ 177 rfl 9 65 Tryz.underlying177 Tryz.underlying9 _ (zeroFile _) bf (fEnts fs) rfl (uh HF) nm rfl (uh HM) ?_)
   |fail)
  go_ret2
  exact⟨rfl,(Below.refl _ w).alloc (Nat.le_refl _) _⟩
def placeB (s:Pl.Bs):Bool:=Lib.contains s [37]
def placesB (s:Pl.Bs):Bool:=decide (1<Lib.countByte s 37)
def fillB (need stem:Pl.Bs):Pl.Bs:=Lib.replaceAll need [37] stem
theorem hasPlace_any (s:Pl.Bs) (w:World) (hg:Glob w) (hs:s.length≤4294967200):Calls Tryz.prog 227 #[.string ⟨s.toArray⟩] w fun e w' =>e= .returned (.bool (placeB s))∧w' =w:=by
 obtain⟨m,hm⟩:=hg;have C1:Hid (Calls Tryz.prog 140 #[.string ⟨s.toArray⟩,.string ⟨#[37]⟩] w fun e w' =>e= .returned (.bool (placeB s))∧w' =w):=Any.strings_Contains Tryz.lay144 ⟨s.toArray⟩ ⟨#[37]⟩ m w (by show s.length<_;omega) hm
 go_enter Tryz.func227,Tryz.ntmps227
 go_wp2_with (first
  |(go_at_call 140;refine(uh C1).mono ?_;rintro e w1 ⟨rfl,rfl⟩)
  |fail)
 go_ret
 exact⟨rfl,rfl⟩
theorem hasPlaces_any (s:Pl.Bs) (w:World):Calls Tryz.prog 226 #[.string ⟨s.toArray⟩] w fun e w' =>e= .returned (.bool (placesB s))∧w' =w:=by
 have C1:Hid (Calls Tryz.prog 266 #[.string ⟨s.toArray⟩,.string ⟨#[37]⟩] w fun e w' =>e= .returned (.int .i64 (Lib.countByte s 37))∧w' =w):=Any.strings_Count_one Tryz.lay138 ⟨s.toArray⟩ 37 w;have hp:placesB s=decide (1<Lib.countByte s 37):=rfl;rw[hp];generalize Lib.countByte s 37=n at*;clear hp
 have hd:decide ((1:Int)<(n:Int))=decide (1<n):=by rw[decide_eq_decide];omega
 have HD:=hide hd;clear hd
 go_enter Tryz.func226,Tryz.ntmps226
 go_wp2_with (first
  |(go_at_call 266;refine(uh C1).mono ?_;rintro e w1 ⟨rfl,rfl⟩)
  |fail)
 go_ret
 exact⟨by rw[←uh HD];rfl,rfl⟩
theorem fill_any (need stem:Pl.Bs) (w:World) (hg:Glob w) (hs:need.length≤4294967200) (hl:need.length+Lib.countB ⟨need.toArray⟩ ⟨#[37]⟩*stem.length≤140737488355328):Calls Tryz.prog 187 #[.string ⟨need.toArray⟩,.string ⟨stem.toArray⟩] w fun e w' =>e= .returned (.string ⟨(fillB need stem).toArray⟩)∧Below w.heap.size w w' :=by
 obtain⟨m,hm⟩:=hg;have C1:Hid (Calls Tryz.prog 235 #[.string ⟨need.toArray⟩,.string ⟨#[37]⟩,.string ⟨stem.toArray⟩] w fun e w' =>e= .returned (.string ⟨(fillB need stem).toArray⟩)∧Below w.heap.size w w'):=Any.strings_ReplaceAll Tryz.lay155 Tryz.layX ⟨need.toArray⟩ ⟨#[37]⟩ ⟨stem.toArray⟩ m w (by show need.length<_;omega) hm (Nat.le_refl 1) hl
 go_enter Tryz.func187,Tryz.ntmps187
 go_wp2_with (first
  |(go_at_call 235;refine(uh C1).mono ?_;rintro e w1 ⟨rfl,hb⟩)
  |fail)
 go_ret
 exact⟨rfl,hb⟩
def stemB (name target:Pl.Bs):Pl.Bs×Bool:=
 if name.length≤(Mk.before 37 target).length+(Mk.after 37 target).length then([],false)
 else(Lib.trimSuffix (Lib.trimPrefix name (Mk.before 37 target)) (Mk.after 37 target),Lib.hasPrefix name (Mk.before 37 target)&&Lib.hasSuffix (Lib.trimPrefix name (Mk.before 37 target)) (Mk.after 37 target))
theorem trimPrefix_le (s p:Pl.Bs):(Lib.trimPrefix s p).length≤s.length:=by
 unfold Lib.trimPrefix;split
 ·rw[List.length_drop];omega
 ·exact Nat.le_refl _
theorem stemOf_any (name target:Pl.Bs) (w:World) (hg:Glob w) (h1:name.length≤1073741824) (h2:target.length≤1073741824) (h3:(Mk.before 37 target).length≤1073741824) (h4:(Mk.after 37 target).length≤1073741824):
 Calls Tryz.prog 273 #[.string ⟨name.toArray⟩,.string ⟨target.toArray⟩] w fun e w' =>e= .returned (.tuple #[.string ⟨(stemB name target).1.toArray⟩,.bool (stemB name target).2])∧Below w.heap.size w w' :=by
 have C1:Hid (Calls Tryz.prog 160 #[.string ⟨target.toArray⟩,.string ⟨#[37]⟩] w fun e w' =>e= .returned (.tuple #[.string ⟨(Mk.before 37 target).toArray⟩,.string ⟨(Mk.after 37 target).toArray⟩,.bool (Mk.has 37 target)])∧Below w.heap.size w w'):=lCut 37 ⟨target.toArray⟩ w (by show target.length≤_;omega) hg
 have HS:Hid (stemB name target=if name.length≤(Mk.before 37 target).length+(Mk.after 37 target).length then([],false)
 else(Lib.trimSuffix (Lib.trimPrefix name (Mk.before 37 target)) (Mk.after 37 target),Lib.hasPrefix name (Mk.before 37 target)&&Lib.hasSuffix (Lib.trimPrefix name (Mk.before 37 target)) (Mk.after 37 target))):=rfl
 generalize stemB name target=S at*;generalize Mk.before 37 target=A at*;generalize Mk.after 37 target=E at*;have C2:Hid (∀w,Calls Tryz.prog 126 #[.string ⟨name.toArray⟩,.string ⟨A.toArray⟩] w fun e w' =>e= .returned (.tuple #[.string ⟨(Lib.trimPrefix name A).toArray⟩,.bool (Lib.hasPrefix name A)])∧w' =w):=fun w=>Any.strings_CutPrefix Tryz.lay103 ⟨name.toArray⟩ ⟨A.toArray⟩ w
 have htp:=trimPrefix_le name A;generalize Lib.trimPrefix name A=P at*;generalize Lib.hasPrefix name A=b1 at*
 have C3:Hid (∀w,Calls Tryz.prog 291 #[.string ⟨P.toArray⟩,.string ⟨E.toArray⟩] w fun e w' =>e= .returned (.tuple #[.string ⟨(Lib.trimSuffix P E).toArray⟩,.bool (Lib.hasSuffix P E)])∧w' =w):=fun w=>Any.strings_CutSuffix Tryz.lay104 ⟨P.toArray⟩ ⟨E.toArray⟩ w (by show P.length≤_;omega)
 generalize Lib.trimSuffix P E=T at*;generalize Lib.hasSuffix P E=b2 at*;have z1:(ByteArray.mk name.toArray).size=name.length:=rfl;have z2:(ByteArray.mk A.toArray).size=A.length:=rfl;have z3:(ByteArray.mk E.toArray).size=E.length:=rfl;have i1:(name.length:Int)≤1073741824:=by omega
 have i2:(A.length:Int)≤1073741824:=by omega
 have i3:(E.length:Int)≤1073741824:=by omega
 by_cases hle:name.length≤A.length+E.length
 ·have t1:(name.length:Int)≤(A.length:Int)+(E.length:Int):=by omega
  have HE:Hid (S=([],false)):=by show S=_;rw[uh HS,if_pos hle]
  clear HS
  go_enter Tryz.func273,Tryz.ntmps273
  go_wp2_with (first
   |(go_at_call 160;refine(uh C1).mono ?_;rintro e w1 ⟨rfl,hb1⟩;have HB1:=hide hb1;clear hb1)
   |fail)
  go_ret2
  exact⟨by rw[uh HE];rfl,uh HB1⟩
 ·have t1:¬(name.length:Int)≤(A.length:Int)+(E.length:Int):=by omega
  have HE:Hid (S=(T,b1&&b2)):=by show S=_;rw[uh HS,if_neg hle]
  clear HS;cases b1 with
  |true=>
   go_enter Tryz.func273,Tryz.ntmps273
   go_wp2_with (first
    |(go_at_call 160;refine(uh C1).mono ?_;rintro e w1 ⟨rfl,hb1⟩;have HB1:=hide hb1;clear hb1)
    |(go_at_call 126;refine(uh C2 _).mono ?_;rintro e w2 ⟨rfl,rfl⟩)
    |(go_at_call 291;refine(uh C3 _).mono ?_;rintro e w3 ⟨rfl,rfl⟩)
    |fail)
   go_ret2
   exact⟨by rw[uh HE];rfl,uh HB1⟩
  |false=>
   go_enter Tryz.func273,Tryz.ntmps273
   go_wp2_with (first
    |(go_at_call 160;refine(uh C1).mono ?_;rintro e w1 ⟨rfl,hb1⟩;have HB1:=hide hb1;clear hb1)
    |(go_at_call 126;refine(uh C2 _).mono ?_;rintro e w2 ⟨rfl,rfl⟩)
    |(go_at_call 291;refine(uh C3 _).mono ?_;rintro e w3 ⟨rfl,rfl⟩)
    |fail)
   go_ret2
   exact⟨by rw[uh HE];rfl,uh HB1⟩
structure StI (W:World) (stem:Pl.Bs) (needs:List Pl.Bs) (i:Nat) (v:Value) (wr:World):Prop where
 below:Below W.heap.size W wr
 own:wr.ownsRow W.heap.size 9 1 v i ((needs.take i).map fun n=>strV (fillB n stem))
theorem withStem_any (needs:List Pl.Bs) (stem:Pl.Bs) (a:Option Addr) (cap b o:Nat) (W:World) (ha:0<needs.length→a=some ⟨b,o,none⟩∧b<W.heap.size∧RdN W b o needs) (hg:Glob W) (hn:needs.length≤1073741824) (hl:∀n∈needs,n.length≤4294967200∧n.length+Lib.countB ⟨n.toArray⟩ ⟨#[37]⟩*stem.length≤140737488355328):
 Calls Tryz.prog 241 #[.slice a needs.length cap,.string ⟨stem.toArray⟩] W fun e W' =>∃v,e= .returned v∧W'.ownsRow W.heap.size 9 1 v needs.length (needs.map fun n=>strV (fillB n stem))∧Below W.heap.size W W' :=by
 obtain⟨i0,hi0,hz0,hz1,hz2⟩:=info_parts Tryz.infoStr;have HA:=hide ha;have HL:=hide hl;have HG:=hide hg;have HX0:Hid (StI W stem needs 0 (.slice none 0 0) W):=⟨Below.refl _ _,World.ownsRow_nil _ _ _ _⟩;clear ha hl hg
 go_enter Tryz.func241,Tryz.ntmps241
 go_wp2_with fail
 go_loopw [5,10] (fun v iv wr=>∃i:Nat,iv= .int .i64 i∧i≤needs.length∧Hid (StI W stem needs i v wr)) (fun _ iv _=>needs.length-intN iv)
 case atStart=>exact⟨0,rfl,by omega,HX0⟩
 case round=>
  clear HX0;obtain⟨i,rfl,hi2,HX⟩:=hrel
  by_cases hi:i<needs.length
  ·have t1:(i:Int)<needs.length:=by omega
   have t0:(0:Int)≤(i:Int):=by omega
   obtain⟨rfl,hb,hr⟩:=uh HA (by omega);have cn:=hr.below (uh HX).below hb i needs[i] (List.getElem?_eq_getElem hi);obtain⟨l1,l2⟩:=uh HL needs[i] (List.getElem_mem hi)
   have htk:(needs.take (i+1)).map (fun n=>strV (fillB n stem))=(needs.take i).map (fun n=>strV (fillB n stem))++[strV (fillB needs[i] stem)]:=by
    rw[List.take_succ_eq_append_getElem hi,List.map_append];rfl
   have HTK:=hide htk;clear hr htk;generalize needs[i]=x at*;have CF:=hide (fill_any x stem wr ((uh HG).later (uh HX).below) l1 l2);have hws:=(uh HX).below.size;unfold strV at*
   go_wp2_with (first
    |(go_at_call 187;refine(uh CF).mono ?_;clear CF;rintro e w1 ⟨rfl,hb1⟩;have HB1:=hide ((uh HX).below.trans (hb1.mono hws));have HO1:=hide (own_same (uh HX).own (fun q hq=>hb1.block q ((uh HX).own.lt q hq).2));have hs1:=hb1.size;clear hb1)
    |(at_builtin;refine wpList_append_own_at _ rfl (.tmp 14) (.tmp 18) 30 rfl W.heap.size 9 i0 (.string ⟨#[]⟩) 1 16 Tryz.underlying30 hi0 hz0 hz1 hz2 rfl (by decide) _ i _ rfl (World.ownsRow.alloc (uh HO1) _) ⟨_,0,none⟩ 1 1 [.string ⟨(fillB x stem).toArray⟩] rfl rfl (cells_new _ _ [_]) (one_one _) (by unfold maxLen;omega) (by omega) (by rw[World.size_alloc];omega) ?_;intro v6 w6 hown6 hgrow6 _ _;have HX6:Hid (StI W stem needs (i+1) v6 w6):=⟨((uh HB1).alloc (by omega) (.cells #[.string ⟨(fillB x stem).toArray⟩] 9)).trans ((Tn.grown (p:=fun q=>W.heap.size≤q) hgrow6 (fun q hq=>((uh HO1).lt q hq).1)).below (by rw[World.size_alloc];omega) (fun q hq=>hq)),by have:=uh HTK;unfold strV;rw[this];exact hown6⟩;clear hown6 hgrow6)
    |fail)
   go_roundw
   case rel=>exact⟨i+1,by go_num,by omega,HX6⟩
   case measure=>simp only[intN];omega
  ·have hie:i=needs.length:=by omega
   subst hie;have t1:¬(needs.length:Int)<needs.length:=by omega
   have hob:=(uh HX).own;rw[List.take_length] at hob;have HO:=hide hob;clear hob
   go_wp2_with fail
   go_ret
   exact⟨_,rfl,uh HO,(uh HX).below⟩
end Go.Proofs.YtjelacjggijmfaaGreatDoor
