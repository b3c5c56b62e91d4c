/-
  A web that is handed in is one.
-/
import Derived.Test.YtjelacjggijmfaaGreatDoorTPT3
set_option maxHeartbeats 4000000
set_option maxRecDepth 20000
namespace Go.Proofs.YtjelacjggijmfaaGreatDoor
open Go.RowKit Go.MapKept Go.ChangeMaps Go.Maps
def wNm (i:Nat):Pl.Bs:=[119,32]++Mk.nmB i
def webX (J:Nat→List Nat) (i:Nat):Stp:=⟨Mk.nmB i,false,(J i).map Mk.nmB,[],[wNm i]⟩
section
variable {J:Nat→List Nat} {m g:Nat} {fs:List Pl.File}
theorem exp_cmd (N:Pl.Bs→Cp.Nv) (i:Nat):Cp.Exp N (webN J i).sg [] 0 [] wCmd ⟨wNm i,0,0⟩:=by
 have hs:(webN J i).sg 64=some (Mk.nmB i):=rfl;refine(Cp.Exp.sign (c:=64) (rest:=[]) (r:=⟨wNm i,0,0⟩) rfl rfl (by decide) (by decide)).2 (Mk.nmB i) hs ?_;exact Cp.Exp.free rfl
theorem cut_wNm:∀i,i<12→Mk.cut (wNm i)≠[]:=by decide
theorem give_web {N:Pl.Bs→Cp.Nv} {i k:Nat} (hi:i<12) (hk:k+1≤500) {G:(Nat×Nat)⊕(Nat×List Pl.Bs)} (h:GiveR N (webN J i).sg (webN J i).cmds k [] G):G= .inr (k+1,[wNm i]):=by
 obtain⟨r,h1,h2⟩:=h;obtain rfl:=h1.det (exp_cmd N i);have hc:¬Mk.cut (wNm i)=[]:=cut_wNm i hi;rw[if_neg (by simp)] at h2;simp only at h2;rw[if_neg hc,if_pos hk] at h2;exact h2
theorem steps_web {N:Pl.Bs→Cp.Nv}:∀(ov:List Nat) (k:Nat) (acc:List Stp) (R:(Nat×Nat)⊕(Nat×List Stp)),k+ov.length≤500→(∀i∈ov,i<12)→StepsR N (ov.map (webN J)) k acc R→R= .inr (k+ov.length,acc++ov.map (webX J))
 |[],k,acc,R,_,_,h=>by
  have h' :R= .inr (k,acc):=h;rw[h'];simp
 |i::r,k,acc,R,hk,hi,⟨G,h1,h2⟩=>by
  rw[List.length_cons] at hk;have:=give_web (hi i (List.mem_cons_self ..)) (by omega) h1;subst this;have ih:=steps_web r (k+1) _ R (by omega) (fun x hx=>hi x (List.mem_cons_of_mem _ hx)) h2;rw[ih,List.length_cons,List.map_cons,List.append_assoc,show k+1+r.length=k+(r.length+1) by omega];rfl
theorem goOn_goal {s:St} {us:List (Nat×List Pl.Bs)} {n:Pl.Bs} {t:Wst} {x:Nod×Nat} (ht:(∃x∈t.opn,x.1.name=n)∨flagOf t.sts n=2) (hl:t.opn.getLast?=some x):(∃x∈(goOnF s fs us t).2.opn,x.1.name=n)∨flagOf (goOnF s fs us t).2.sts n=2:=by
 obtain⟨d,hd⟩:=List.getLast?_eq_some_iff.1 hl;have hdl:t.opn.dropLast=d:=by rw[hd,List.dropLast_concat]
 have hen:∀(u:Wst) (nm:Pl.Bs),((∃x∈u.opn,x.1.name=n)∨flagOf u.sts n=2)→(∃x∈(enterF s fs us u nm).2.opn,x.1.name=n)∨flagOf (enterF s fs us u nm).2.sts n=2:=fun u nm hu=>by
  unfold enterF;split
  ·exact hu
  ·rename_i h2
   split
   ·exact hu
   ·split
    ·exact hu
    ·rcases hu with⟨y,hy,hyn⟩|hf
     ·exact .inl ⟨y,List.mem_append_left _ hy,hyn⟩
     ·refine .inr ?_
      show flagOf (flPut u.sts nm 1) n=2;rw[flagOf_put,if_neg (fun e=>h2 (by rw[e];exact hf))];exact hf
 unfold goOnF;rw[hl];simp only[hdl];split
 ·unfold leaveF
  rw[hl];simp only[hdl]
  rcases ht with⟨y,hy,hyn⟩|hf
  ·rw[hd] at hy
   rcases List.mem_append.1 hy with q|q
   ·exact .inl ⟨y,q,hyn⟩
   ·rw[List.mem_singleton.1 q] at hyn
    refine .inr ?_;rw[flagOf_put,if_pos hyn]
  ·refine .inr ?_
   rw[flagOf_put];split
   ·rfl
   ·exact hf
 ·refine hen _ _ ?_
  rcases ht with⟨y,hy,hyn⟩|hf
  ·rw[hd] at hy
   rcases List.mem_append.1 hy with q|q
   ·exact .inl ⟨y,List.mem_append_left _ q,hyn⟩
   ·rw[List.mem_singleton.1 q] at hyn
    exact .inl ⟨(x.1,x.2+1),List.mem_append_right _ (List.mem_singleton.2 rfl),hyn⟩
  ·exact .inr hf
structure WebRun (J:Nat→List Nat) (m g:Nat) (fs:List Pl.File) (r:Pl.Bs×Nat×Nat) (ov:List Nat):Prop where
 ok:r.2.1=0∧r.2.2=0
 lt:∀i∈ov,i<m
 all:∀i,i∈ov↔Rch J g i
 nd:ov.Nodup
 ah:∀a (h:a<ov.length),∀j∈J ov[a],∃b,∃hb:b<a,(ov[b]'(by omega))=j
 run:Pl.checkOf r.1∧∃T c,Pl.load r.1=some (T,c)∧∀ef X,X.exit=0→Pl.runW c T ef X=doB ef (ov.map (webX J)) [] X
theorem webN_nodup {ov:List Nat} (h:((ov.map (webN J)).map (·.name)).Nodup):ov.Nodup:=by
 induction ov with
 |nil=>exact List.nodup_nil
 |cons x r ih=>
  rw[List.map_cons,List.map_cons,List.nodup_cons] at h;rw[List.nodup_cons];exact⟨fun q=>h.1 (List.mem_map.2 ⟨webN J x,List.mem_map.2 ⟨x,q,rfl⟩,rfl⟩),ih h.2⟩
theorem web_text (h:WbOk J m) (hg:g<m) {f:Pl.File} (hl:Pl.look fs [82]=some f) (ht:f.text=webT J m) {goal:Pl.Bs} (hgl:goalF (webS J m) goal=Mk.nmB g) {r:Pl.Bs×Nat×Nat} (hr:TextR fs [82] goal r):∃ov,WebRun J m g fs r ov:=by
 have hbk:=web_book h hl ht
 have key:r.2.1=0:=by
  rcases hr with⟨h1,-⟩|⟨-,h2⟩
  ·rw[hbk] at h1;exact absurd rfl h1
  ·rw[hbk] at h2
   simp only[hgl] at h2
   rcases h2 with⟨a1,-⟩|⟨-,a2,-⟩|⟨-,-,q,a3,a4⟩
   ·cases a1
   ·exact absurd a2 (by show ¬2000<2;decide)
   ·obtain⟨w1,ov,w2,w3⟩:=web_walk h hg a3
    have hov:=(walk_ov a3 w1).1
    have hlen:q.2.over.length≤12:=by
     have:=nodupU _ ((List.range 12).map Mk.nmB) hov.ovd fun x hx=>by
      rw[w2,List.map_map] at hx;obtain⟨i,hi,rfl⟩:=List.mem_map.1 hx;exact List.mem_map.2 ⟨i,List.mem_range.2 (Nat.lt_of_lt_of_le (w3 i hi).1 h.le),rfl⟩
     simpa using this
    rcases a4 with⟨c1,-⟩|⟨-,c2,-⟩|⟨-,-,R,c3,c4⟩
    ·exact absurd w1 c1
    ·omega
    ·have hlo:ov.length≤12:=by rw[w2,List.length_map] at hlen;exact hlen
     rw[w2] at c3;have hR:=steps_web ov 0 [] R (by omega) (fun i hi=>Nat.lt_of_lt_of_le (w3 i hi).1 h.le) c3;subst hR
     have hX:∀x∈[]++ov.map (webX J),∃i∈ov,x=webX J i:=fun x hx=>by
      rw[List.nil_append] at hx;obtain⟨i,hi,rfl⟩:=List.mem_map.1 hx;exact⟨i,hi,rfl⟩
     have hcn:∀l:List Nat,cmdsN (l.map (webX J))=l.length:=fun l=>by
      induction l with
      |nil=>rfl
      |cons x r ih=>rw[List.map_cons,cmdsN,ih,List.length_cons];show 1+_=_;omega
     obtain⟨p,hp⟩:=plan_some (ss:=[]++ov.map (webX J)) (by simp;omega) (by rw[List.nil_append,hcn];omega) (fun x hx=>by
      obtain⟨i,hi,rfl⟩:=hX x hx;have hm:=(w3 i hi).1;refine⟨by show 2≤64000;decide,?_,fun n hn=> ?_,by show 1≤500;decide,fun c hc=> ?_⟩
      ·show((J i).map Mk.nmB).length≤100
       rw[List.length_map];have:=h.few hm;omega
      ·obtain⟨j,-,rfl⟩:=List.mem_map.1 hn
       show 2≤64000;decide
      ·rw[List.mem_singleton.1 hc]
       show 4≤2000;decide) (fun x hx n hn=>by
      obtain⟨i,hi,rfl⟩:=hX x hx;obtain⟨y,hy,hyn⟩:=(over_needs (ndu_book fs [82]) (by rw[hbk];exact hov) (by omega) (x:=webN J i) (by rw[w2];exact List.mem_map.2 ⟨i,hi,rfl⟩)).2 n hn;rw[w2] at hy;obtain⟨j,hj,rfl⟩:=List.mem_map.1 hy
      exact⟨webX J j,by rw[List.nil_append];exact List.mem_map.2 ⟨j,hj,rfl⟩,hyn⟩)
     rcases c4 with⟨d1,-⟩|⟨-,d2⟩
     ·omega
     ·rw[hp] at d2
      rw[d2]
 obtain⟨q,k,ss,T,c,h1,h2,h3,h4,h5,h6,h7⟩:=text_does hr key;have hz:=(hr.plan key).1;rw[hbk] at h1 h4;simp only[hgl] at h1 h4;obtain⟨-,ov,w2,w3⟩:=web_walk h hg h1;have hov:=(walk_ov h1 h2).1;have hah:=over_ahead h1 h2 h3;have hnd:ov.Nodup:=webN_nodup (J:=J) (by rw[←w2];exact hov.ovd);have hlo:ov.length≤100:=by rw[w2,List.length_map] at h3;exact h3
 rw[w2] at h4;have hR:=steps_web ov 0 [] _ (by omega) (fun i hi=>Nat.lt_of_lt_of_le (w3 i hi).1 h.le) h4;cases hR;rw[List.nil_append] at h7
 have hjn:∀i∈ov,∀j∈J i,j∈ov:=fun i hi j hj=>by
  obtain⟨y,hy,hyn⟩:=(over_needs (ndu_book fs [82]) (by rw[hbk];exact hov) h3 (x:=webN J i) (by rw[w2];exact List.mem_map.2 ⟨i,hi,rfl⟩)).2 (Mk.nmB j) (List.mem_map.2 ⟨j,hj,rfl⟩);rw[w2] at hy;obtain⟨k,hk,rfl⟩:=List.mem_map.1 hy;have hm:=(w3 i hi).1;have:=Mk.nmB_inj (Nat.lt_of_lt_of_le (w3 k hk).1 h.le) (h.small hm j hj) hyn;rw[←this];exact hk
 have hgo:g∈ov:=by
  have hop:=(walk_ov h1 h2).2;obtain⟨n,hn⟩:=h1
  have:=fromF_keep (fun t=>(∃x∈t.opn,x.1.name=Mk.nmB g)∨flagOf t.sts (Mk.nmB g)=2) (fun t x ht hl h0=>goOn_goal ht hl) n _ q hn (fun e=>by
   unfold enterF;have z2:¬flagOf wst0.sts (Mk.nmB g)=2:=fun q=>(by cases q)
   have z1:¬flagOf wst0.sts (Mk.nmB g)=1:=fun q=>(by cases q)
   rw[if_neg z2,if_neg z1,web_node h hg,if_neg (by simp)]
   exact .inl ⟨(webN J g,0),by simp,rfl⟩) h2
  rcases this with⟨x,hx,-⟩|hf
  ·rw[hop] at hx;cases hx
  ·obtain⟨x,hx,hxn⟩:=hov.all h3 _ hf
   rw[w2] at hx;obtain⟨k,hk,rfl⟩:=List.mem_map.1 hx;have:=Mk.nmB_inj (Nat.lt_of_lt_of_le (w3 k hk).1 h.le) (Nat.lt_of_lt_of_le hg h.le) hxn;rw[←this];exact hk
 refine⟨ov,⟨key,hz⟩,fun i hi=>(w3 i hi).1,fun i=>⟨fun hi=>(w3 i hi).2,fun hi=> ?_⟩,hnd,fun a ha j hj=> ?_,h6,T,c,h5,h7⟩
 ·induction hi with
  |self=>exact hgo
  |need _ hj ih=>exact hjn _ ih _ hj
 ·have ha' :a<(ov.map (webN J)).length:=by simpa using ha
  rw[w2] at hah;obtain⟨b,hb,hbn⟩:=hah a ha' (Mk.nmB j) (by rw[List.getElem_map];exact List.mem_map.2 ⟨j,hj,rfl⟩);refine⟨b,hb,?_⟩;rw[List.getElem_map] at hbn;have hm:=(w3 ov[a] (List.getElem_mem ha)).1;exact Mk.nmB_inj (Nat.lt_of_lt_of_le (w3 _ (List.getElem_mem _)).1 h.le) (h.small hm j hj) hbn
end
def WebW (m:Nat) (T:Nat→Int) (fs:List Pl.File):Prop:=∀i,i<m→(Pl.look fs (Mk.nmB i)=none∧T i<0)∨∃f,Pl.look fs (Mk.nmB i)=some f∧f.time=T i∧0≤T i
def WebE (m:Nat) (ef:List Pl.Eff) (tx:Pl.Bs) (ex:Nat→Int):Prop:=∀i,i<m→∃e tm,ef.find? (fun e=>e.cmd==wNm i)=some e∧e.writes=[⟨Mk.nmB i,tx,tm⟩]∧e.exit=ex i
def WebSt (J:Nat→List Nat) (m:Nat) (T:Nat→Int) (S:Nat→Bool):Prop:=∀i,i<m→S i=(decide (T i<0)||(J i).any fun j=>S j||decide (T i<T j))
def upToW (ex:Nat→Int):List Nat→List Nat
 |[]=>[]
 |i::r=>if ex i=0 then i::upToW ex r else [i]
def lastEx (ex:Nat→Int):List Nat→Int
 |[]=>0
 |i::r=>if ex i=0 then lastEx ex r else ex i
def mkF (tx:Pl.Bs):List Nat→Int→List Pl.File→List Pl.File
 |[],_,fs=>fs
 |i::r,k,fs=>mkF tx r (k+1) (Pl.putF fs ⟨Mk.nmB i,tx,k+1⟩)
section
variable {J:Nat→List Nat} {m:Nat} {T:Nat→Int} {S:Nat→Bool} {ef:List Pl.Eff} {tx:Pl.Bs} {ex:Nat→Int}
theorem give_node (hE:WebE m ef tx ex) {i:Nat} (hi:i<m) (X:Pl.Wd) (hk:wrap64 (X.clock+1)=X.clock+1):Pl.giveW ef X (wNm i)=⟨Pl.putF X.files ⟨Mk.nmB i,tx,X.clock+1⟩,X.clock+1,X.cmds++[wNm i],ex i⟩:=by
 obtain⟨e,tm,h1,h2,h3⟩:=hE i hi;unfold Pl.giveW;rw[h1];simp only[h2,h3,hk,List.foldl_cons,List.foldl_nil,Pl.stamp]
structure WbB (J:Nat→List Nat) (m:Nat) (S:Nat→Bool) (fs0:List Pl.File) (pre:List Nat) (D:List Pl.Bs) (X:Pl.Wd):Prop where
 ex:X.exit=0
 lt:∀j∈pre,j<m
 d:∀j∈pre,D.contains (Mk.nmB j)=S j
 in' :∀n∈D,∃j∈pre,n=Mk.nmB j∧S j=true
 lk:∀i,i<m→(i∉pre∨S i=false)→Pl.look X.files (Mk.nmB i)=Pl.look fs0 (Mk.nmB i)
theorem stale_is (h:WbOk J m) (hS:WebSt J m T S) {fs0:List Pl.File} (hW:WebW m T fs0) {pre:List Nat} {D:List Pl.Bs} {X:Pl.Wd} (hB:WbB J m S fs0 pre D X) {i:Nat} (hi:i<m) (hip:i∉pre) (hn:∀j∈J i,j∈pre):stD D X.files (webX J i)=S i:=by
 rw[hS i hi];unfold stD webX;simp only[Bool.false_or];have e0:=hB.lk i hi (.inl hip);rw[List.any_map]
 rcases hW i hi with⟨a1,a2⟩|⟨f,a1,a2,a3⟩
 ·rw[e0,a1]
  simp[a2]
 ·rw[e0,a1]
  have:¬T i<0:=by omega
  simp only[Option.isNone_some,Bool.false_or,decide_eq_false this]
  have hcong:∀(l:List Nat),(∀j∈l,j∈J i)→l.any ((fun n=>D.contains n||Pl.newer X.files (Mk.nmB i) n)∘Mk.nmB)=l.any fun j=>S j||decide (T i<T j):=fun l hl=>by
   induction l with
   |nil=>rfl
   |cons j r ih=>
    rw[List.any_cons,List.any_cons,ih fun y hy=>hl y (List.mem_cons_of_mem _ hy)]
    congr 1
    have hj:=hl j (List.mem_cons_self ..);have hjp:=hn j hj;have hjm:=(h.lt i hi j hj).2;simp only[Function.comp];rw[hB.d j hjp];cases hs:S j with
    |true=>rfl
    |false=>
     simp only[Bool.false_or];have e1:=hB.lk j hjm (.inr hs);unfold Pl.newer;rw[e0,a1,e1]
     rcases hW j hjm with⟨b1,b2⟩|⟨f',b1,b2,b3⟩
     ·have:S j=true:=by rw[hS j hjm,decide_eq_true b2];rfl
      rw[hs] at this;cases this
     ·rw[b1]
      simp only[a2,b2]
  exact hcong (J i) fun j hj=>hj
theorem web_do (h:WbOk J m) (hS:WebSt J m T S) {fs0:List Pl.File} (hW:WebW m T fs0) (hE:WebE m ef tx ex):∀(r pre:List Nat) (D:List Pl.Bs) (X:Pl.Wd),WbB J m S fs0 pre D X→(∀i∈r,i<m)→(pre++r).Nodup→(∀a (ha:a<r.length),∀j∈J r[a],j∈pre∨∃b,∃hb:b<a,(r[b]'(by omega))=j)→0≤X.clock→X.clock+r.length≤1000000→
 doB ef (r.map (webX J)) D X=⟨mkF tx (upToW ex (r.filter S)) X.clock X.files,X.clock+(upToW ex (r.filter S)).length,X.cmds++(upToW ex (r.filter S)).map wNm,lastEx ex (r.filter S)⟩
 |[],pre,D,X,hB,_,_,_,_,_=>by
  show X=_;have:=hB.ex;cases X;simp only at this;subst this;simp[upToW,lastEx,mkF]
 |i::r,pre,D,X,hB,hm,hnd,hah,h0,hc=>by
  have hi:=hm i (List.mem_cons_self ..);rw[List.length_cons] at hc
  have hip:i∉pre:=fun q=>by
   rw[List.nodup_append] at hnd;exact hnd.2.2 i q i (List.mem_cons_self ..) rfl
  have hn:∀j∈J i,j∈pre:=fun j hj=>by
   rcases hah 0 (Nat.succ_pos _) j hj with q|⟨b,hb,_⟩
   ·exact q
   ·omega
  have hst:=stale_is h hS hW hB hi hip hn
  have hah' :∀a (ha:a<r.length),∀j∈J r[a],j∈pre++[i]∨∃b,∃hb:b<a,(r[b]'(by omega))=j:=fun a ha j hj=>by
   rcases hah (a+1) (by simpa using ha) j hj with q|⟨b,hb,hbj⟩
   ·exact .inl (List.mem_append_left _ q)
   ·cases b with
    |zero=>exact .inl (List.mem_append_right _ (by simpa using hbj.symm))
    |succ b=>exact .inr ⟨b,by omega,by simpa using hbj⟩
  have hnd' :((pre++[i])++r).Nodup:=by rw[List.append_assoc];exact hnd
  have hlt:∀j∈pre++[i],j<m:=fun j hj=>by
   rcases List.mem_append.1 hj with q|q
   ·exact hB.lt j q
   ·rw[List.mem_singleton.1 q];exact hi
  rw[List.map_cons,doB,if_pos hB.ex,hst];cases hs:S i with
  |false=>
   rw[if_neg (by simp),List.filter_cons_of_neg (by simp[hs])];refine web_do h hS hW hE r (pre++[i]) D X ⟨hB.ex,hlt,fun j hj=> ?_,fun n hn' => ?_,fun k hk hc=> ?_⟩ (fun k hk=>hm k (List.mem_cons_of_mem _ hk)) hnd' hah' h0 (by omega)
   ·rcases List.mem_append.1 hj with q|q
    ·exact hB.d j q
    ·rw[List.mem_singleton.1 q,hs]
     cases hd:D.contains (Mk.nmB i) with
     |false=>rfl
     |true=>
      obtain⟨j,hj,e,-⟩:=hB.in' (Mk.nmB i) (by simpa using hd);have:i=j:=Mk.nmB_inj (Nat.lt_of_lt_of_le hi h.le) (Nat.lt_of_lt_of_le (hB.lt j hj) h.le) e;exact absurd (this▸hj) hip
   ·obtain⟨j,hj,e⟩:=hB.in' n hn'
    exact⟨j,List.mem_append_left _ hj,e⟩
   ·rcases hc with hc|hc
    ·exact hB.lk k hk (.inl fun q=>hc (List.mem_append_left _ q))
    ·exact hB.lk k hk (.inr hc)
  |true=>
   rw[if_pos rfl,List.filter_cons_of_pos (by simp[hs])];have hk:wrap64 (X.clock+1)=X.clock+1:=by unfold wrap64;omega
   have hg:gv ef (webX J i).cmds X=⟨Pl.putF X.files ⟨Mk.nmB i,tx,X.clock+1⟩,X.clock+1,X.cmds++[wNm i],ex i⟩:=by
    show gv ef [wNm i] X=_;rw[gv,if_pos hB.ex,gv];exact give_node hE hi X hk
   rw[hg]
   by_cases he:ex i=0
   ·have ih:=web_do h hS hW hE r (pre++[i]) (Mk.nmB i::D) ⟨Pl.putF X.files ⟨Mk.nmB i,tx,X.clock+1⟩,X.clock+1,X.cmds++[wNm i],ex i⟩ ⟨he,hlt,fun j hj=> ?_,fun n hn' => ?_,fun k hk hc=> ?_⟩ (fun k hk=>hm k (List.mem_cons_of_mem _ hk)) hnd' hah' (by simp only;omega) (by simp only;omega)
    ·show doB ef (r.map (webX J)) (Mk.nmB i::D) _=_
     rw[ih,upToW,if_pos he,lastEx,if_pos he,mkF];simp only[List.length_cons,List.map_cons,List.append_assoc,List.cons_append,List.nil_append]
     congr 1
     push_cast
     omega
    ·rcases List.mem_append.1 hj with q|q
     ·have hne:(Mk.nmB j==Mk.nmB i)=false:=by
       rw[beq_eq_false_iff_ne];intro e;exact hip ((Mk.nmB_inj (Nat.lt_of_lt_of_le (hB.lt j q) h.le) (Nat.lt_of_lt_of_le hi h.le) e)▸q)
      rw[List.contains_cons,hne,Bool.false_or];exact hB.d j q
     ·rw[List.mem_singleton.1 q,List.contains_cons,beq_self_eq_true,Bool.true_or,hs]
    ·rcases List.mem_cons.1 hn' with e|e
     ·exact⟨i,List.mem_append_right _ (List.mem_singleton.2 rfl),e,hs⟩
     ·obtain⟨j,hj,e2⟩:=hB.in' n e
      exact⟨j,List.mem_append_left _ hj,e2⟩
    ·simp only
     rw[Pl.look_put]
     have hki:k≠i:=fun e=>by
      rcases hc with hc|hc
      ·exact hc (List.mem_append_right _ (by rw[e];exact List.mem_singleton.2 rfl))
      ·rw[e,hs] at hc;cases hc
     rw[if_neg (fun e=>hki (Mk.nmB_inj (Nat.lt_of_lt_of_le hi h.le) (Nat.lt_of_lt_of_le hk h.le) e).symm)]
     rcases hc with hc|hc
     ·exact hB.lk k hk (.inl fun q=>hc (List.mem_append_left _ q))
     ·exact hB.lk k hk (.inr hc)
   ·rw[doB_stop _ _ _ _ he,upToW,if_neg he,lastEx,if_neg he]
    rfl
end
end Go.Proofs.YtjelacjggijmfaaGreatDoor
namespace Go.Proofs.YtjelacjggijmfaaGreatDoor
open Go.RowKit
def absI (c:Int):Int:=if c<0 then-(c+1) else c
def pickI (c:Int) (n:Nat):Nat:=(absI c % (n:Int)).toNat
theorem pick_any (c:Int) (n:Nat) (w:World) (hc: -9223372036854775808≤c∧c≤9223372036854775807) (hn:0<n) (hn2:n≤1048576):
 Calls Tryz.prog 31 #[.int .i64 c,.int .i64 (n:Int)] w fun e w' =>e= .returned (.int .i64 (pickI c n:Int))∧w' =w:=by
 have h0:0≤absI c:=by unfold absI;split<;>omega
 have hp:(pickI c n:Int)=absI c % (n:Int):=by
  unfold pickI;exact Int.toNat_of_nonneg (Int.emod_nonneg _ (by omega))
 by_cases h:c<0
 ·have t1:wrap64 (c+1)=c+1:=by unfold wrap64;omega
  have t2:wrap64 (-(c+1))= -(c+1):=by unfold wrap64;omega
  have ha:absI c= -(c+1):=by unfold absI;rw[if_pos h]
  rw[ha] at hp h0
  go_enter Tryz.func31,Tryz.ntmps31
  go_wp2_with fail
  go_ret
  have e: -(c+1).tmod (n:Int)= -(c+1) % (n:Int):=by rw[←Int.neg_tmod];exact Int.tmod_eq_emod_of_nonneg h0
  exact⟨by rw[hp,←e];rfl,rfl⟩
 ·have ha:absI c=c:=by unfold absI;rw[if_neg h]
  rw[ha] at hp h0
  go_enter Tryz.func31,Tryz.ntmps31
  go_wp2_with fail
  go_ret
  exact⟨by rfl,rfl⟩
theorem name_any (k:Nat) (w:World) (hk:k<12):Calls Tryz.prog 34 #[.int .i64 (k:Int)] w fun e w' =>e= .returned (.string ⟨(Mk.nmB k).toArray⟩)∧Below w.heap.size w w' :=by
 have hb:((UInt8.ofNat (97+k)).toNat:Int)=97+(k:Int):=by
  rw[UInt8.toNat_ofNat',Nat.mod_eq_of_lt (by omega)]
  push_cast
  rfl
 have hcv:(convert 126 9 (.slice (some ⟨w.heap.size,0,none⟩) 1 1)).run Tryz.prog (w.alloc (.cells #[.int .u8 ((UInt8.ofNat (97+k)).toNat:Int)] 5))= .ok (.string ⟨[UInt8.ofNat (97+k)].toArray⟩) (w.alloc (.cells #[.int .u8 ((UInt8.ofNat (97+k)).toNat:Int)] 5)):=by
  refine run_convert_bytes_back _ _ _ 5 _ 1 [UInt8.ofNat (97+k)] Tryz.underlying126 Tryz.underlying5 Tryz.underlying9 ?_;intro j hj;have hj0:j=0:=by simpa using hj
  subst hj0;simp[Addr.add]
 rw[hb] at hcv;clear hb;unfold Mk.nmB;generalize UInt8.ofNat (97+k)=x at*
 go_enter Tryz.func34,Tryz.ntmps34
 go_wp2_with fail
 go_ret
 exact⟨rfl,(Below.refl _ w).alloc (Nat.le_refl _) _⟩
structure WbM (W:World) (v:Value) (N T:List Int):Prop where
 at' :∃an cn bn on at' ct bt ot,v= .agg #[.slice an N.length cn,.slice at' T.length ct]∧(0<N.length→an=some ⟨bn,on,none⟩∧bn<W.heap.size∧∀i (h:i<N.length),W.cell? ⟨bn,on+i,none⟩=some (.int .i64 N[i]))∧(0<T.length→at' =some ⟨bt,ot,none⟩∧bt<W.heap.size∧∀i (h:i<T.length),W.cell? ⟨bt,ot+i,none⟩=some (.int .i64 T[i]))
 rn:∀x∈N,-9223372036854775808≤x∧x≤9223372036854775807
 rt:∀x∈T,-9223372036854775808≤x∧x≤9223372036854775807
 ln:N.length≤1048576
 lt:T.length≤1048576
theorem WbM.later {W X:World} {v:Value} {N T:List Int} (h:WbM W v N T) (hb:Below W.heap.size W X):WbM X v N T:=by
 obtain⟨⟨an,cn,bn,on,at',ct,bt,ot,h1,h2,h3⟩,r1,r2,l1,l2⟩:=h;exact⟨⟨an,cn,bn,on,at',ct,bt,ot,h1,fun q=>⟨(h2 q).1,Nat.lt_of_lt_of_le (h2 q).2.1 hb.size,fun i hi=>(hb.cell (p:=⟨bn,_,none⟩) (h2 q).2.1).trans ((h2 q).2.2 i hi)⟩,fun q=>⟨(h3 q).1,Nat.lt_of_lt_of_le (h3 q).2.1 hb.size,fun i hi=>(hb.cell (p:=⟨bt,_,none⟩) (h3 q).2.1).trans ((h3 q).2.2 i hi)⟩⟩,r1,r2,l1,l2⟩
def manyW (N:List Int):Nat:=1+N.length % 12
def needW (N:List Int) (i j:Nat):Bool:=decide (i<N.length∧i<j)&&Nat.testBit (pickI (N.getD i 0) 1048576) j
def timeW (T:List Int) (i:Nat):Int:=if i<T.length then(pickI (T.getD i 0) 40:Int)-5 else-1
theorem many_any {N T:List Int} {v:Value} {W:World} (h:WbM W v N T):Calls Tryz.prog 32 #[v] W fun e w' =>e= .returned (.int .i64 (manyW N:Int))∧Below W.heap.size W w' :=by
 obtain⟨⟨an,cn,bn,on,at',ct,bt,ot,rfl,-,-⟩,-,-,l1,-⟩:=h
 go_enter Tryz.func32,Tryz.ntmps32
 go_wp2_with fail
 go_ret
 refine⟨?_,(Below.refl _ _).alloc (Nat.le_refl _) _⟩;unfold manyW
 push_cast
 rfl
theorem time_any {N T:List Int} {v:Value} {W:World} (h:WbM W v N T) (i:Nat) (hi:i<12):Calls Tryz.prog 63 #[v,.int .i64 (i:Int)] W fun e w' =>e= .returned (.int .i64 (timeW T i))∧Below W.heap.size W w' :=by
 obtain⟨⟨an,cn,bn,on,at',ct,bt,ot,rfl,-,h3⟩,-,rt,-,l2⟩:=h;unfold timeW;have hba:Below W.heap.size W (W.alloc (.cells #[.slice an N.length cn,.slice at' T.length ct] 76)):=(Below.refl _ _).alloc (Nat.le_refl _) _
 by_cases hk:i<T.length
 ·obtain⟨rfl,h4,h5⟩:=h3 (by omega)
  have c0:=(hba.cell (p:=⟨bt,_,none⟩) h4).trans (h5 i hk);have C:=hide (fun w=>pick_any T[i] 40 w (rt _ (List.getElem_mem hk)) (by decide) (by decide));have hg:T.getD i 0=T[i]:=by rw[List.getD_eq_getElem?_getD,List.getElem?_eq_getElem hk];rfl
  rw[if_pos hk,hg]
  have hpl:pickI T[i] 40<40:=by
   unfold pickI;have:=Int.emod_lt_of_pos (absI T[i]) (show (0:Int)<(40:Nat) by decide);have:=Int.emod_nonneg (absI T[i]) (show ((40:Nat):Int)≠0 by decide);omega
  have HBA:=hide hba;clear h3 h5 hba hg;generalize T[i]=ti at*;generalize pickI ti 40=q at*;have t1:wrap64 ((q:Int)-5)=(q:Int)-5:=by unfold wrap64;omega
  go_enter Tryz.func63,Tryz.ntmps63
  go_wp2_with (first
   |(go_at_call 31;refine(uh C _).mono ?_;rintro e w1 ⟨rfl,rfl⟩)
   |fail)
  go_ret
  exact⟨rfl,uh HBA⟩
 ·rw[if_neg hk]
  have t1:(T.length:Int)≤(i:Int):=by omega
  go_enter Tryz.func63,Tryz.ntmps63
  go_wp2_with fail
  go_ret
  exact⟨rfl,hba⟩
theorem i64_and_nat (a b:Nat) (ha:a<16777216) (hb:b<16777216):bits .and .i64 (a:Int) (b:Int)=((a&&&b:Nat):Int):=by
 have hx:a&&&b<16777216:=Nat.lt_of_le_of_lt Nat.and_le_left ha;have e1:(BitVec.ofInt 64 (a:Int)).toNat=a:=by simp;omega
 have e2:(BitVec.ofInt 64 (b:Int)).toNat=b:=by simp;omega
 show IntKind.i64.wrap ((BitVec.ofInt 64 (a:Int)&&&BitVec.ofInt 64 (b:Int)).toNat:Int)=_;rw[BitVec.toNat_and,e1,e2];generalize (a&&&b)=c at*;simp[IntKind.wrap,IntKind.signed,IntKind.bits];omega
theorem bit_at (q j:Nat) (hq:q<1048576):(bits .and .i64 ((q:Int)/2^j) 1==1)=q.testBit j:=by
 have hle:q/2^j≤q:=Nat.div_le_self _ _;have e:((q:Int)/2^j)=((q/2^j:Nat):Int):=by push_cast;rfl
 rw[e];have:=i64_and_nat (q/2^j) 1 (by omega) (by decide);rw[show ((1:Nat):Int)=1 from rfl] at this;rw[this,Nat.and_one_is_mod,Nat.testBit,Nat.shiftRight_eq_div_pow,Nat.one_and_eq_mod_two]
 rcases Nat.mod_two_eq_zero_or_one (q/2^j) with h|h
 ·rw[h];rfl
 ·rw[h];rfl
theorem needs_any {N T:List Int} {v:Value} {W:World} (h:WbM W v N T) (i j:Nat) (hi:i<12) (hj:j<12):Calls Tryz.prog 39 #[v,.int .i64 (i:Int),.int .i64 (j:Int)] W fun e w' =>e= .returned (.bool (needW N i j))∧Below W.heap.size W w' :=by
 obtain⟨⟨an,cn,bn,on,at',ct,bt,ot,rfl,h3,-⟩,rn,-,l2,-⟩:=h;have hba:Below W.heap.size W (W.alloc (.cells #[.slice an N.length cn,.slice at' T.length ct] 76)):=(Below.refl _ _).alloc (Nat.le_refl _) _
 by_cases hk:i<N.length
 ·by_cases hij:i<j
  ·obtain⟨rfl,h4,h5⟩:=h3 (by omega)
   have c0:=(hba.cell (p:=⟨bn,_,none⟩) h4).trans (h5 i hk);have C:=hide (fun w=>pick_any N[i] 1048576 w (rn _ (List.getElem_mem hk)) (by decide) (by decide));have hg:N.getD i 0=N[i]:=by rw[List.getD_eq_getElem?_getD,List.getElem?_eq_getElem hk];rfl
   have hd:needW N i j=Nat.testBit (pickI N[i] 1048576) j:=by unfold needW;rw[hg,decide_eq_true ⟨hk,hij⟩,Bool.true_and]
   have hpl:pickI N[i] 1048576<1048576:=by
    unfold pickI;have:=Int.emod_lt_of_pos (absI N[i]) (show (0:Int)<(1048576:Nat) by decide);have:=Int.emod_nonneg (absI N[i]) (show ((1048576:Nat):Int)≠0 by decide);omega
   rw[hd];have HBA:=hide hba;clear h3 h5 hba hg hd;generalize N[i]=ti at*;generalize pickI ti 1048576=q at*;have t1:¬(N.length:Int)≤(i:Int):=by omega
   have t2:¬(j:Int)≤(i:Int):=by omega
   go_enter Tryz.func39,Tryz.ntmps39
   go_wp2_with (first
    |(go_at_call 31;refine(uh C _).mono ?_;rintro e w1 ⟨rfl,rfl⟩)
    |fail)
   go_ret
   exact⟨by rw[←bit_at q j hpl];rfl,uh HBA⟩
  ·have hd:needW N i j=false:=by unfold needW;rw[decide_eq_false (fun q=>hij q.2)];rfl
   rw[hd];have t1:¬(N.length:Int)≤(i:Int):=by omega
   have t2:(j:Int)≤(i:Int):=by omega
   go_enter Tryz.func39,Tryz.ntmps39
   go_wp2_with fail
   go_ret
   exact⟨rfl,hba⟩
 ·have hd:needW N i j=false:=by unfold needW;rw[decide_eq_false (fun q=>hk q.1)];rfl
  rw[hd];have t1:(N.length:Int)≤(i:Int):=by omega
  go_enter Tryz.func39,Tryz.ntmps39
  go_wp2_with fail
  go_ret
  exact⟨rfl,hba⟩
def JW (N:List Int) (i:Nat):List Nat:=(List.range (manyW N)).filter fun j=>needW N i j
def JTo (N:List Int) (i k:Nat):List Nat:=(List.range k).filter fun j=>needW N i j
theorem JTo_next (N:List Int) (i k:Nat):JTo N i (k+1)=JTo N i k++(if needW N i k then [k] else []):=by
 unfold JTo;rw[List.range_succ,List.filter_append]
 congr 1
 cases h:needW N i k<;>simp[h]
theorem needT_append (a b:List Nat):Mk.needT (a++b)=Mk.needT a++Mk.needT b:=by
 unfold Mk.needT;rw[List.flatMap_append]
def rT (N:List Int) (i:Nat):Pl.Bs:=Mk.joinLn (webL (JW N) 0 i)
theorem rT_next (N:List Int) (i:Nat):rT N (i+1)=rT N i++(Mk.nmB i++[58]++Mk.needT (JW N i)++[10,9,119,32,36,64,10]):=by
 unfold rT webL;rw[List.range'_concat,List.flatMap_append];unfold Mk.joinLn;rw[List.flatMap_append]
 congr 1
 simp only[List.flatMap_cons,List.flatMap_nil,Nat.zero_add,Nat.one_mul,List.append_nil];unfold Mk.ruleL Mk.cmdL;simp
theorem many_le (N:List Int):1≤manyW N∧manyW N≤12:=by unfold manyW;omega
theorem JW_len (N:List Int) (i:Nat):(JW N i).length≤12:=by
 unfold JW;have:=List.length_filter_le (fun j=>needW N i j) (List.range (manyW N));rw[List.length_range] at this;have:=(many_le N).2;omega
theorem JTo_len (N:List Int) (i k:Nat):(JTo N i k).length≤k:=by
 unfold JTo;have:=List.length_filter_le (fun j=>needW N i j) (List.range k);rw[List.length_range] at this;exact this
theorem nmB_len (k:Nat):(Mk.nmB k).length=2:=rfl
theorem rT_len (N:List Int):∀i,(rT N i).length≤46*i
 |0=>Nat.le_refl _
 |i+1=>by
  have ih:=rT_len N i;have h1:=JW_len N i;rw[rT_next];simp only[List.length_append,nmB_len,Mk.needT_len,List.length_cons,List.length_nil];omega
def iT (N:List Int) (i j:Nat):Pl.Bs:=rT N i++(Mk.nmB i++[58]++Mk.needT (JTo N i j))
theorem iT_len (N:List Int) (i j:Nat) (hi:i≤12) (hj:j≤12):(iT N i j).length≤700:=by
 have h1:=rT_len N i;have h2:=JTo_len N i j;unfold iT;simp only[List.length_append,nmB_len,Mk.needT_len,List.length_cons,List.length_nil];omega
theorem cat_mk (a b:Pl.Bs):(⟨a.toArray⟩:ByteArray)++⟨b.toArray⟩=⟨(a++b).toArray⟩:=by
 apply mk_eq;simp
theorem iT_next (N:List Int) (i j:Nat) (h:needW N i j=true):iT N i (j+1)=iT N i j++[32]++Mk.nmB j:=by
 unfold iT;rw[JTo_next,if_pos h,needT_append];simp[Mk.needT]
theorem iT_same (N:List Int) (i j:Nat) (h:needW N i j=false):iT N i (j+1)=iT N i j:=by
 unfold iT;rw[JTo_next,if_neg (by simp[h]),List.append_nil]
theorem iT_end (N:List Int) (i:Nat):iT N i (manyW N)++[10,9,119,32,36,64,10]=rT N (i+1):=by
 rw[rT_next];unfold iT;rw[show JTo N i (manyW N)=JW N i from rfl,List.append_assoc]
theorem rules_any {N T:List Int} {v:Value} {W:World} (h:WbM W v N T):Calls Tryz.prog 62 #[v] W fun e w' =>e= .returned (.string ⟨(webT (JW N) (manyW N)).toArray⟩)∧Below W.heap.size W w' :=by
 have h' :=h;obtain⟨⟨an,cn,bn,on,at',ct,bt,ot,rfl,-,-⟩,-,-,-,-⟩:=h';have hb0:Below W.heap.size W (W.alloc (.cells #[.slice an N.length cn,.slice at' T.length ct] 76)):=(Below.refl _ _).alloc (Nat.le_refl _) _;have hR:=Row.new W 76 [.slice an N.length cn,.slice at' T.length ct]
 have hs0:(W.alloc (.cells #[.slice an N.length cn,.slice at' T.length ct] 76)).heap.size=W.heap.size+1:=World.size_alloc _ _;generalize hW0:W.alloc (.cells #[.slice an N.length cn,.slice at' T.length ct] 76)=W0 at*;have hbw:∀w',Below W0.heap.size W0 w' →Below W.heap.size W w' :=fun w' hb=>hb0.trans (hb.mono (by omega))
 have CM:Hid (∀w',Below W0.heap.size W0 w' →Calls Tryz.prog 32 #[.agg #[.slice an N.length cn,.slice at' T.length ct]] w' fun e w2=>e= .returned (.int .i64 (manyW N:Int))∧Below W0.heap.size W0 w2):=fun w' hb=>(many_any (h.later (hbw w' hb))).mono fun e w2 ⟨a,b⟩=>⟨a,hb.trans (b.mono hb.size)⟩
 have CN:Hid (∀w' (i j:Nat),i<12→j<12→Below W0.heap.size W0 w' →Calls Tryz.prog 39 #[.agg #[.slice an N.length cn,.slice at' T.length ct],.int .i64 (i:Int),.int .i64 (j:Int)] w' fun e w2=>e= .returned (.bool (needW N i j))∧Below W0.heap.size W0 w2):=fun w' i j hi hj hb=>(needs_any (h.later (hbw w' hb)) i j hi hj).mono fun e w2 ⟨a,b⟩=>⟨a,hb.trans (b.mono hb.size)⟩
 have CA:Hid (∀w' (k:Nat),k<12→Below W0.heap.size W0 w' →Calls Tryz.prog 34 #[.int .i64 (k:Int)] w' fun e w2=>e= .returned (.string ⟨(Mk.nmB k).toArray⟩)∧Below W0.heap.size W0 w2):=fun w' k hk hb=>(name_any k w' hk).mono fun e w2 ⟨a,b⟩=>⟨a,hb.trans (b.mono hb.size)⟩
 have hm:=many_le N;have HC:Hid (∀w',Below W0.heap.size W0 w' →w'.cell? ⟨W.heap.size,0,none⟩=some (.slice an N.length cn)∧w'.cell? ⟨W.heap.size,1,none⟩=some (.slice at' T.length ct)):=fun w' hb=>⟨(hR.later hb).cell 0 (by simp),(hR.later hb).cell 1 (by simp)⟩
 have HBW:=hide hbw;have H0:=hide (Below.refl W0.heap.size W0);clear hR hb0 hs0 hbw h
 go_enter Tryz.func62,Tryz.ntmps62
 go_wp2_with fail
 clear hW0
 go_loopw [3,4] (fun sv iv wr=>∃i:Nat,iv= .int .i64 i∧i≤manyW N∧sv= .string ⟨(rT N i).toArray⟩∧Hid (Below W0.heap.size W0 wr)) (fun _ iv _=>manyW N-intN iv)
 case atStart=>exact⟨0,rfl,Nat.zero_le _,rfl,H0⟩
 case round=>
  clear H0;obtain⟨i,rfl,hi,rfl,HB⟩:=hrel;obtain⟨c0,c1⟩:=uh HC _ (uh HB)
  by_cases hk:i<manyW N
  ·have t1:(i:Int)<(manyW N:Int):=by omega
   have l1:(rT N i).length≤600:=by have:=rT_len N i;omega
   have l2:(Mk.nmB i).length=2:=rfl
   go_wp2_with (first
    |(go_at_call 32;refine(uh CM _ (uh HB)).mono ?_;rintro e w1 ⟨rfl,hb1⟩;clear HB;have HB:=hide hb1;clear hb1 c0 c1)
    |(go_at_call 34;refine(uh CA _ i (by omega) (uh HB)).mono ?_;rintro e w2 ⟨rfl,hb2⟩;clear HB;have HB:=hide hb2;clear hb2)
    |fail)
   have HI:Hid (({data:=(rT N i).toArray}:ByteArray)++{data:=(Mk.nmB i).toArray}++{data:= #[58]}=⟨(iT N i 0).toArray⟩):=hide (mk_eq (by
    unfold iT JTo
    simp[Mk.needT]))
   go_loopw [3,5] (fun sv jv wr=>∃j:Nat,jv= .int .i64 j∧j≤manyW N∧sv= .string ⟨(iT N i j).toArray⟩∧Hid (Below W0.heap.size W0 wr)) (fun _ jv _=>manyW N-intN jv)
   case atStart=>exact⟨0,rfl,Nat.zero_le _,by rw[uh HI],HB⟩
   case round=>
    clear HB HI;obtain⟨j,rfl,hj,rfl,HB⟩:=hrel;obtain⟨c0,c1⟩:=uh HC _ (uh HB);have l3:(iT N i j).length≤700:=iT_len N i j (by omega) (by omega)
    by_cases hk2:j<manyW N
    ·have t2:(j:Int)<(manyW N:Int):=by omega
     have l4:(Mk.nmB j).length=2:=rfl;cases hn:needW N i j with
     |true=>
      go_wp2_with (first
       |(go_at_call 32;refine(uh CM _ (uh HB)).mono ?_;rintro e w3 ⟨rfl,hb3⟩;clear HB;have HB:=hide hb3;clear c0 c1;obtain⟨c0,c1⟩:=uh HC _ hb3;clear hb3)
       |(go_at_call 39;refine(uh CN _ i j (by omega) (by omega) (uh HB)).mono ?_;rintro e w4 ⟨rfl,hb4⟩;rw[hn];clear HB;have HB:=hide hb4;clear hb4 c0 c1)
       |(go_at_call 34;refine(uh CA _ j (by omega) (uh HB)).mono ?_;rintro e w5 ⟨rfl,hb5⟩;clear HB;have HB:=hide hb5;clear hb5)
       |fail)
      go_roundw
      case rel=>
       refine⟨j+1,by go_num,by omega,?_,HB⟩;rw[iT_next N i j hn,←cat_mk,←cat_mk]
      case measure=>simp only[intN];omega
     |false=>
      go_wp2_with (first
       |(go_at_call 32;refine(uh CM _ (uh HB)).mono ?_;rintro e w3 ⟨rfl,hb3⟩;clear HB;have HB:=hide hb3;clear c0 c1;obtain⟨c0,c1⟩:=uh HC _ hb3;clear hb3)
       |(go_at_call 39;refine(uh CN _ i j (by omega) (by omega) (uh HB)).mono ?_;rintro e w4 ⟨rfl,hb4⟩;rw[hn];clear HB;have HB:=hide hb4;clear hb4 c0 c1)
       |fail)
      go_roundw
      case rel=>exact⟨j+1,by go_num,by omega,by rw[iT_same N i j hn],HB⟩
      case measure=>simp only[intN];omega
    ·have t2:¬(j:Int)<(manyW N:Int):=by omega
     have HJE:Hid (j=manyW N):=hide (by omega)
     go_wp2_with (first
      |(go_at_call 32;refine(uh CM _ (uh HB)).mono ?_;rintro e w3 ⟨rfl,hb3⟩;clear HB;have HB:=hide hb3;clear hb3 c0 c1)
      |fail)
     go_roundw
     case rel=>
      refine⟨i+1,by go_num,by omega,?_,HB⟩;rw[←iT_end,←cat_mk,←uh HJE]
     case measure=>simp only[intN];omega
  ·have t1:¬(i:Int)<(manyW N:Int):=by omega
   have HIE:Hid (i=manyW N):=hide (by omega)
   go_wp2_with (first
    |(go_at_call 32;refine(uh CM _ (uh HB)).mono ?_;rintro e w1 ⟨rfl,hb1⟩;clear HB;have HB:=hide hb1;clear hb1 c0 c1)
    |fail)
   go_ret
   exact⟨by rw[←uh HIE];rfl,uh HBW _ (uh HB)⟩
theorem wb_ok (N:List Int):WbOk (JW N) (manyW N):=by
 refine⟨(many_le N).2,fun i _ j hj=> ?_,fun i _=> ?_⟩
 ·obtain⟨h1,h2⟩:=List.mem_filter.1 hj
  refine⟨?_,List.mem_range.1 h1⟩;unfold needW at h2;rw[Bool.and_eq_true] at h2;exact(of_decide_eq_true h2.1).2
 ·exact List.nodup_range.sublist List.filter_sublist
end Go.Proofs.YtjelacjggijmfaaGreatDoor
