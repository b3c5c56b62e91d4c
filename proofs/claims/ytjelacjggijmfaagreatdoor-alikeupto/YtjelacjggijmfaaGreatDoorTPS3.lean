/-
  What making a plan of rules comes to is one thing alone.
-/
import Derived.Test.YtjelacjggijmfaaGreatDoorTGG9
import Derived.Test.YtjelacjggijmfaaGreatDoorTPure
import Derived.Test.YtjelacjggijmfaaGreatDoorTGFA
namespace Go.Proofs.YtjelacjggijmfaaGreatDoor
open Go.RowKit Go.MapKept Go.ChangeMaps Go.Maps
def kOf (T:List Pl.Bs) (s:Pl.Bs):Nat:=(T.findIdx? (fun x=>x==s)).getD T.length
structure Gd (T:List Pl.Bs) (q:Cp.Wr):Prop where
 pre:q.strs<+:T
 ok:q.failed=false
theorem addW_code (p:Cp.Wr) (op:Nat) (os:List Nat):(addW p op os).code=p.code++(UInt8.ofNat op::(Cp.beB (os.getD 0 0) (wdAt op 0)++Cp.beB (os.getD 1 0) (wdAt op 1))):=by
 show(p.code++[UInt8.ofNat op]++Cp.beB (os.getD 0 0) (wdAt op 0))++Cp.beB (os.getD 1 0) (wdAt op 1)=_;simp
theorem addW_failed (p:Cp.Wr) (op:Nat) (os:List Nat):(addW p op os).failed=((p.failed||Cp.big (os.getD 0 0) (wdAt op 0))||Cp.big (os.getD 1 0) (wdAt op 1)):=rfl
section
variable {T:List Pl.Bs} {q:Cp.Wr}
theorem Gd.add {op:Nat} {os:List Nat} (h:Gd T (addW q op os)):Gd T q∧Cp.big (os.getD 0 0) (wdAt op 0)=false∧Cp.big (os.getD 1 0) (wdAt op 1)=false:=by
 have h1:=h.pre;have h2:=h.ok;rw[addW_strs] at h1;rw[addW_failed,Bool.or_eq_false_iff,Bool.or_eq_false_iff] at h2;exact⟨⟨h1,h2.1.1⟩,h2.1.2,h2.2⟩
theorem kOf_prefix {ss:List Pl.Bs} {s:Pl.Bs} {i:Nat} (h:ss<+:T) (hf:ss.findIdx? (fun x=>x==s)=some i):kOf T s=i∧KOk T (kOf T) s:=by
 obtain⟨r,rfl⟩:=h;have e:(ss++r).findIdx? (fun x=>x==s)=some i:=by rw[List.findIdx?_append,hf];rfl
 have hk:kOf (ss++r) s=i:=by unfold kOf;rw[e];rfl
 obtain⟨h1,h2,_⟩:=List.findIdx?_eq_some_iff_getElem.1 e;refine⟨hk,⟨by rw[hk];exact h1,?_⟩⟩;rw[hk,List.getD_eq_getElem?_getD,List.getElem?_eq_getElem h1];exact beq_iff_eq.1 h2
theorem Gd.str {s:Pl.Bs} (h:Gd T (q.str s)):Gd T q∧q.num s=kOf T s∧KOk T (kOf T) s:=by
 have h1:=h.pre;have h2:=h.ok;unfold Cp.Wr.str at h1 h2;unfold Cp.Wr.num;cases hf:q.strs.findIdx? (fun x=>x==s) with
 |some i=>
  rw[hf] at h1 h2;obtain⟨k1,k2⟩:=kOf_prefix h1 hf;exact⟨⟨h1,h2⟩,k1.symm,k2⟩
 |none=>
  rw[hf] at h1 h2
  have e:(q.strs++[s]).findIdx? (fun x=>x==s)=some q.strs.length:=by
   rw[List.findIdx?_append,hf];simp[List.findIdx?_cons]
  obtain⟨k1,k2⟩:=kOf_prefix h1 e;exact⟨⟨(List.prefix_append _ _).trans h1,h2⟩,k1.symm,k2⟩
theorem big_not {n w:Nat} (h:Cp.big n w=false):n<256^w:=by
 unfold Cp.big at h;have:=of_decide_eq_false h;omega
theorem gives_good:∀(cmds:List Pl.Bs) (q:Cp.Wr),Gd T (cmds.foldl giveStep q)→Gd T q∧(cmds.foldl giveStep q).code=q.code++givesC (kOf T) cmds∧∀c∈cmds,KOk T (kOf T) c
 |[],q,h=>⟨h,by simp[givesC],fun c hc=>by cases hc⟩
 |c::r,q,h=>by
  obtain⟨h1,h2,h3⟩:=gives_good r (giveStep q c) h;obtain⟨k1,-,-⟩:=h1.add;obtain⟨k4,k5,k6⟩:=k1.str;refine⟨k4,?_,fun y hy=> ?_⟩
  ·rw[List.foldl_cons,h2]
   unfold giveStep;rw[addW_code,str_code,k5];unfold givesC;rw[List.flatMap_cons,List.append_assoc];rfl
  ·rcases List.mem_cons.1 hy with e|e
   ·rw[e];exact k6
   ·exact h3 y e
theorem needs_good (fl:Flags) (name:Pl.Bs):∀(needs:List Pl.Bs) (q:Cp.Wr),Gd T (needs.foldl (staleStep fl (kOf T name)) q)→Gd T q∧(needs.foldl (staleStep fl (kOf T name)) q).code=q.code++needs.flatMap (needC (flagOf fl) (kOf T) name)∧∀n∈needs,KOk T (kOf T) n∧flagOf fl n<256
 |[],q,h=>⟨h,by simp,fun c hc=>by cases hc⟩
 |n::r,q,h=>by
  obtain⟨h1,h2,h3⟩:=needs_good fl name r (staleStep fl (kOf T name) q n) h;unfold staleStep at h1;obtain⟨k1,-,-⟩:=h1.add;obtain⟨k2,-,-⟩:=k1.add;obtain⟨k3,k4,k5⟩:=k2.str;obtain⟨k6,-,-⟩:=k3.add;obtain⟨k7,k8,-⟩:=k6.add;refine⟨k7,?_,fun y hy=> ?_⟩
  ·rw[List.foldl_cons,h2]
   unfold staleStep;rw[addW_code,addW_code,str_code,addW_code,addW_code,k4,List.flatMap_cons,←List.append_assoc]
   congr 1
   simp only[List.append_assoc];rfl
  ·rcases List.mem_cons.1 hy with e|e
   ·rw[e];exact⟨k5,big_not k8⟩
   ·exact h3 y e
theorem stale_good (fl:Flags) (x:Stp) (h:Gd T (staleW fl q x.ph x.name x.needs)):Gd T q∧(staleW fl q x.ph x.name x.needs).code=q.code++preC (flagOf fl) (kOf T) x.ph x.name x.needs∧(x.ph=false→KOk T (kOf T) x.name)∧(x.ph=false→∀n∈x.needs,KOk T (kOf T) n∧flagOf fl n<256):=by
 unfold staleW at h⊢;unfold preC;cases hp:x.ph with
 |true=>
  rw[hp] at h;simp only[if_true] at h⊢;obtain⟨k1,-,-⟩:=h.add;exact⟨k1,by rw[addW_code];rfl,fun e=>(by cases e),fun e=>(by cases e)⟩
 |false=>
  rw[hp] at h;simp only[Bool.false_eq_true,if_false] at h⊢
  have hm:∀(needs:List Pl.Bs) (nm:Nat) (p:Cp.Wr),Gd T (needs.foldl (staleStep fl nm) p)→Gd T p:=fun needs nm=>by
   induction needs with
   |nil=>exact fun p hh=>hh
   |cons n r ih=>
    intro p hh;have h1:=ih _ hh;unfold staleStep at h1;exact h1.add.1.add.1.str.1.add.1.add.1
  obtain⟨k1,k2,k3⟩:=(hm _ _ _ h).add.1.str;rw[k2] at h⊢;obtain⟨-,j2,j3⟩:=needs_good fl x.name x.needs _ h;refine⟨k1,?_,fun _=>k3,fun _=>j3⟩;rw[j2,addW_code,str_code,List.append_assoc];rfl
theorem skip_good (cmds:List Pl.Bs) (i:Nat) (h:Gd T (skipW q cmds i)):Gd T q∧(skipW q cmds i).code=q.code++(cSkip (bodyC (kOf T) cmds i).length++bodyC (kOf T) cmds i)∧(∀c∈cmds,KOk T (kOf T) c)∧(bodyC (kOf T) cmds i).length<65536∧i<256:=by
 have hf:=h.ok;unfold skipW fixW at hf;rw[Bool.or_eq_false_iff] at hf;have hb:Gd T (blockW (addW q 6 []) cmds i):=⟨h.pre,hf.1⟩;unfold blockW at hb;obtain⟨k1,k2,-⟩:=hb.add;obtain⟨j1,j2,j3⟩:=gives_good cmds _ k1
 have hc:(blockW (addW q 6 []) cmds i).code=q.code++([6,0,0]++bodyC (kOf T) cmds i):=by
  unfold blockW bodyC;rw[addW_code,j2,addW_code];simp only[List.append_assoc];rfl
 have hlen:(blockW (addW q 6 []) cmds i).code.length-(q.code.length+1+2)=(bodyC (kOf T) cmds i).length:=by
  rw[hc];simp only[List.length_append,List.length_cons,List.length_nil];omega
 have hm:=big_not hf.2;rw[hlen] at hm;refine⟨j1.add.1,?_,j3,hm,big_not k2⟩;unfold skipW fixW;simp only;rw[hlen,hc]
 have e1:(q.code++([6,0,0]++bodyC (kOf T) cmds i)).take (q.code.length+1)=q.code++[6]:=by
  rw[List.take_append,List.take_of_length_le (by omega),Nat.add_sub_cancel_left];rfl
 have e2:(q.code++([6,0,0]++bodyC (kOf T) cmds i)).drop (q.code.length+1+2)=bodyC (kOf T) cmds i:=by
  rw[List.drop_append,List.drop_eq_nil_of_le (by omega),show q.code.length+1+2-q.code.length=3 by omega];rfl
 rw[e1,e2,List.append_assoc];rfl
end
def fOf (ss:List Stp) (i:Nat):Pl.Bs→Nat:=flagOf (writeAt ss (i+1)).2
def allC (F:Nat→Pl.Bs→Nat) (K:Pl.Bs→Nat):List Stp→Nat→Pl.Bs
 |[],_=>[]
 |x::r,i=>nodeC (F i) K x i++allC F K r (i+1)
theorem allC_snoc (F:Nat→Pl.Bs→Nat) (K:Pl.Bs→Nat) (x:Stp):∀(ss:List Stp) (i:Nat),allC F K (ss++[x]) i=allC F K ss i++nodeC (F (i+ss.length)) K x (i+ss.length)
 |[],i=>by simp[allC]
 |y::r,i=>by
  rw[List.cons_append,allC,allC,allC_snoc F K x r (i+1),List.append_assoc,List.length_cons];rw[show i+1+r.length=i+(r.length+1) by omega]
structure StK (T:List Pl.Bs) (F:Nat→Pl.Bs→Nat) (x:Stp) (i:Nat):Prop where
 k:NdK T (kOf T) x
 f:x.ph=false→∀n∈x.needs,F i n<256
 b:(bodyC (kOf T) x.cmds i).length<65536
 n:i<256
theorem write_good {T:List Pl.Bs} (ss:List Stp):∀j,j≤ss.length→Gd T (writeAt ss j).1→(writeAt ss j).1.code=allC (fOf ss) (kOf T) (ss.take j) 0∧∀i (h:i<ss.length),i<j→StK T (fOf ss) ss[i] i
 |0,_,_=>⟨by simp[writeAt,allC],fun i _ hi=>by omega⟩
 |j+1,hj,h=>by
  have hl:j<ss.length:=by omega
  have e:=writeAt_next ss j hl;have ef:fOf ss j=flagOf (flPut (writeAt ss j).2 ss[j].name j):=by unfold fOf;rw[e]
  rw[e] at h⊢;simp only at h⊢;obtain⟨k1,k2,k3,k4,k5⟩:=skip_good _ _ h;obtain⟨j1,j2,j3,j4⟩:=stale_good _ ss[j] k1;obtain⟨i1,i2⟩:=write_good ss j (by omega) j1;refine⟨?_,fun i hi hij=> ?_⟩
  ·rw[k2,j2,i1,List.take_succ_eq_append_getElem hl,allC_snoc,List.length_take,Nat.min_eq_left (by omega),Nat.zero_add,ef]
   unfold nodeC;rw[List.append_assoc]
  ·by_cases hj2:i<j
   ·exact i2 i hi hj2
   ·obtain rfl:i=j:=by omega
    exact⟨⟨j3,fun p n hn=>(j4 p n hn).1,k3⟩,fun p n hn=>by rw[ef];exact(j4 p n hn).2,k4,k5⟩
theorem all_rest {T:List Pl.Bs} {F:Nat→Pl.Bs→Nat} (hT:T.length≤65536):∀(ss:List Stp) (i:Nat),(∀j (h:j<ss.length),StK T F ss[j] (i+j))→Rest T.length (allC F (kOf T) ss i)
 |[],_,_=>Rest.nil _
 |x::r,i,h=>by
  have h0:=h 0 (Nat.succ_pos _);rw[allC];refine(node_rest hT h0.k h0.b).comp (all_rest hT r (i+1) fun j hj=> ?_);have:=h (j+1) (by simpa using hj);rw[show i+(j+1)=i+1+j by omega] at this;exact this
theorem stB_ph {F G:Pl.Bs→Nat} {fl:Nat→Bool} {fs:List Pl.File} {x:Stp} (h:x.ph=true):stB F fl fs x=stB G fl fs x:=by unfold stB;rw[h];rfl
theorem pre_ph {F K:Pl.Bs→Nat} {x:Stp} (i:Nat) (h:x.ph=true):nodeC F K x i=nodeC (fun _=>0) K x i:=by unfold nodeC preC;rw[h];rfl
theorem node_ends' {T:List Pl.Bs} {F:Nat→Pl.Bs→Nat} {ef:List Pl.Eff} {x:Stp} {i:Nat} {R X:Pl.Wd} {fl:Nat→Bool} (hT:T.length≤65536) (h:StK T F x i) (hx:X.exit=0) (a b:Pl.Bs)
 (hr:Pl.Ends (a++(nodeC (F i) (kOf T) x i++b)) T ef a.length [] fl X R):((doN ef (F i) i x (fl,X)).2.exit=0∧Pl.Ends (a++(nodeC (F i) (kOf T) x i++b)) T ef (a.length+(nodeC (F i) (kOf T) x i).length) [] (doN ef (F i) i x (fl,X)).1 (doN ef (F i) i x (fl,X)).2 R)∨((doN ef (F i) i x (fl,X)).2.exit≠0∧R=(doN ef (F i) i x (fl,X)).2):=by
 cases hp:x.ph with
 |false=>exact node_ends hT h.k (h.f hp) h.n h.b hx a b hr
 |true=>
  rw[pre_ph i hp] at hr⊢;have:=node_ends (F:=fun _=>0) hT h.k (fun _ _=>by decide) h.n h.b hx a b hr;unfold doN at this⊢;rw[stB_ph (G:=F i) hp] at this;exact this
theorem all_ends {T:List Pl.Bs} {F:Nat→Pl.Bs→Nat} {ef:List Pl.Eff} (hT:T.length≤65536):∀(ss:List Stp) (i:Nat) (fl:Nat→Bool) (X R:Pl.Wd) (a:Pl.Bs),(∀j (h:j<ss.length),StK T F ss[j] (i+j))→X.exit=0→Pl.Ends (a++allC F (kOf T) ss i) T ef a.length [] fl X R→R=doA ef F ss i (fl,X)
 |[],i,fl,X,R,a,_,_,hr=>by
  rw[allC,List.append_nil] at hr;exact(hr.stop fun q=>by omega).symm
 |x::r,i,fl,X,R,a,h,hx,hr=>by
  have h0:=h 0 (Nat.succ_pos _);rw[allC] at hr;rw[doA,if_pos hx]
  rcases node_ends' hT h0 hx a _ hr with⟨q1,q2⟩|⟨q1,q2⟩
  ·refine all_ends hT r (i+1) _ _ R (a++nodeC (F i) (kOf T) x i) (fun j hj=> ?_) q1 ?_
   ·have:=h (j+1) (by simpa using hj)
    rw[show i+(j+1)=i+1+j by omega] at this;exact this
   ·rw[List.length_append,List.append_assoc]
    exact q2
  ·rw[q2]
   cases r with
   |nil=>rfl
   |cons y s=>
    rw[doA];exact(if_neg q1).symm
theorem strs_of (c:Pl.Bs):∀T:List Pl.Bs,(∀s∈T,s.length<65536)→Pl.strs T.length (strsW T++c)=some (T,c)
 |[],_=>rfl
 |s::r,h=>by
  have ih:=strs_of c r fun y hy=>h y (List.mem_cons_of_mem _ hy)
  have hs:=h s (List.mem_cons_self ..)
  have e:strsW (s::r)++c=Cp.beB s.length 2++(s++(strsW r++c)):=by
   unfold strsW;rw[List.flatMap_cons];simp
  have e2:Pl.two (Cp.beB s.length 2++(s++(strsW r++c))) 0=s.length:=by
   have:=two_beB hs 0 (s++(strsW r++c));unfold Pl.two at this⊢;exact this
  rw[List.length_cons,e,Pl.strs,e2,if_pos ⟨by simp[beB2],by simp only[beB2,List.length_append,List.length_cons,List.length_nil];omega⟩]
  have d1:(Cp.beB s.length 2++(s++(strsW r++c))).drop (2+s.length)=strsW r++c:=by
   rw[←List.drop_drop];show(s++(strsW r++c)).drop s.length=_;exact List.drop_left
  have d2:((Cp.beB s.length 2++(s++(strsW r++c))).drop 2).take s.length=s:=by
   show(s++(strsW r++c)).take s.length=s;exact List.take_left
  rw[d1,d2,ih];rfl
theorem plan_is {ss:List Stp} {p:Pl.Bs} (h:planW ss=some p):∃T c,Pl.load p=some (T,c)∧Pl.checkOf p∧∀ef X,X.exit=0→Pl.runW c T ef X=doA ef (fOf ss) ss 0 ((fun _=>false),X):=by
 unfold planW textW at h;generalize hw:(writeAt ss ss.length).1=w at h;split at h
 ·cases h
 ·rename_i hn
  cases h;rw[Bool.not_eq_true,Bool.or_eq_false_iff] at hn;obtain⟨hf,hd⟩:=hn;unfold failW at hf;rw[Bool.or_eq_false_iff,Bool.or_eq_false_iff,List.take_length] at hf;have h1000:w.strs.length≤1000:=by have:=of_decide_eq_false hd;omega
  have hs:∀s∈w.strs,s.length<65536:=fun s hs=>by
   have:=List.any_eq_false.1 hf.2 s hs;exact big_not (by simpa using this)
  obtain⟨g1,g2⟩:=write_good (T:=w.strs) ss ss.length (Nat.le_refl _) (by rw[hw];exact⟨List.prefix_refl _,hf.1.1⟩);rw[hw,List.take_length] at g1
  have hl:Pl.load (outW w.strs w.strs.length++w.code)=some (w.strs,w.code):=by
   unfold outW;rw[List.take_length]
   have e2:Pl.two ([80,49]++Cp.beB w.strs.length 2++strsW w.strs++w.code) 2=w.strs.length:=by
    have:=two_beB (n:=w.strs.length) (by omega) 0 (strsW w.strs++w.code);unfold Pl.two at this⊢;rw[List.append_assoc,List.append_assoc];exact this
   unfold Pl.load;rw[e2,if_pos ⟨by simp[beB2],rfl,h1000⟩]
   have:([80,49]++Cp.beB w.strs.length 2++strsW w.strs++w.code).drop 4=strsW w.strs++w.code:=by
    rw[List.append_assoc,List.append_assoc];rfl
   rw[this];exact strs_of _ _ hs
  have hst:∀j (hj:j<ss.length),StK w.strs (fOf ss) ss[j] (0+j):=fun j hj=>by rw[Nat.zero_add];exact g2 j hj hj
  refine⟨w.strs,w.code,hl,⟨_,hl,?_⟩,fun ef X hx=> ?_⟩
  ·have:=all_rest (by omega) ss 0 hst [] []
   rw[List.append_nil,List.nil_append] at this;simp only;rw[g1];exact this ((Pl.spec_end (by simp)).2 ⟨fun q hq=>(by cases hq),rfl,fun _ _=>rfl⟩)
  ·have he:=Pl.Ends.start w.code w.strs ef X
   refine all_ends (by omega) ss 0 _ X _ [] hst hx ?_;rw[List.nil_append,←g1];exact he
def liveF:List Pl.File:=[⟨[82],[97,58,10,9,98],0⟩]
theorem exp_free {L:NL} {t:Pl.Bs} (h:Mk.has 36 t=false) (hl:(Mk.before 36 t).length≤2000):expE L t=⟨Mk.before 36 t,0,0⟩:=by
 refine expE_eq ?_;have:=Cp.Exp.free (N:=nOf L) (sg:=fun _=>none) (m:=[]) (k:=0) (a:=[]) h;have e1:Cp.addB [] (Mk.before 36 t)=Mk.before 36 t:=rfl;rw[e1] at this;unfold Cp.toldB at this;rw[if_neg (by omega)] at this;exact this
def liveS:St:={explicitF {st0 with n:=1,rules:=[⟨[[97]],[],[]⟩]} [[97]] 0 with rules:=[⟨[[97]],[],[([98],2)]⟩]}
theorem live_book:bookF liveF [82]=(0,0,liveS):=by
 have e1:expE [] [97]=⟨[97],0,0⟩:=exp_free rfl (by decide);have e2:expE [] []=⟨[],0,0⟩:=exp_free rfl (by decide);have ha:Mk.allF (Mk.joined [97,58,10,9,98])=[(⟨1,5,[97],[]⟩,0),(⟨2,1,[],[98]⟩,0)]:=by rfl
 have hr:ruleF st0 ⟨1,5,[97],[]⟩=(0,some 0,explicitF {st0 with n:=1,rules:=[⟨[[97]],[],[]⟩]} [[97]] 0):=by
  unfold ruleF;simp only[show st0.names=[] from rfl];rw[e1,e2];rfl
 show readF liveF 3 st0 [97,58,10,9,98]=_;rw[readF,ha,linesF]
 have h1:lineF (readF liveF 2) liveF st0 none ⟨1,5,[97],[]⟩=(0,1,some 0,explicitF {st0 with n:=1,rules:=[⟨[[97]],[],[]⟩]} [[97]] 0):=by
  unfold lineF;rw[if_neg (by decide),if_pos rfl,hr]
 simp only;rw[h1,if_neg (by simp),if_neg (by simp),linesF];rfl
def liveX:List Stp:=[⟨[97],false,[],[],[[98]]⟩]
theorem live_from {q:Nat×Wst} (h:FromR liveS liveF (usL liveS liveF liveS.pats) (enterF liveS liveF (usL liveS liveF liveS.pats) wst0 [97]) q):q.1=0∧q.2.over=[⟨[97],false,[],[],[([98],2)]⟩]:=by
 obtain⟨n,hn⟩:=h
 match n,hn with
 |0,hn=>exact absurd hn (by rw[show fromF liveS liveF (usL liveS liveF liveS.pats) 0 (enterF liveS liveF (usL liveS liveF liveS.pats) wst0 [97])=none from rfl];simp)
 |n+1,hn=>
  have:fromF liveS liveF (usL liveS liveF liveS.pats) (n+1) (enterF liveS liveF (usL liveS liveF liveS.pats) wst0 [97])=some (0,⟨[([97],2)],[],[⟨[97],false,[],[],[([98],2)]⟩]⟩):=by
   rw[fromF,if_neg (by simp[enterF];decide)];cases n with
   |zero=>rfl
   |succ n=>rfl
  rw[this] at hn;cases hn;exact⟨rfl,rfl⟩
theorem live_plan:∃p,planW liveX=some p∧p.length≤100:=by
 have h:(planW liveX).isSome=true∧((planW liveX).getD []).length≤100:=by decide
 cases hp:planW liveX with
 |none=>rw[hp] at h;cases h.1
 |some p=>rw[hp] at h;exact⟨p,rfl,h.2⟩
theorem live_text {r:Pl.Bs×Nat×Nat} (h:TextR liveF [82] [97] r):∃p,planW liveX=some p∧r=(p,0,0):=by
 obtain⟨p,hp,-⟩:=live_plan;refine⟨p,hp,?_⟩;unfold TextR at h;rw[live_book] at h
 rcases h with⟨h1,-⟩|⟨-,h⟩
 ·exact absurd rfl h1
 ·have hg:goalF liveS [97]=[97]:=rfl
  simp only at h;rw[hg] at h
  rcases h with⟨h1,-⟩|⟨-,h1,-⟩|⟨-,-,q,hq,h⟩
  ·cases h1
  ·exact absurd h1 (by decide)
  ·obtain⟨q1,q2⟩:=live_from hq
   rw[q2] at h
   rcases h with⟨h1,-⟩|⟨-,h1,-⟩|⟨-,-,R,hR,h⟩
   ·exact absurd q1 h1
   ·exact absurd h1 (by decide)
   ·obtain⟨G,hG,hR⟩:=hR
    obtain⟨e,he,hG⟩:=hG;have hx:Cp.Exp (nOf liveS.names) (Nod.sg ⟨[97],false,[],[],[([98],2)]⟩) [] 0 [] [98] ⟨[98],0,0⟩:=Cp.Exp.free rfl;obtain rfl:=he.det hx;rw[if_neg (by decide),if_neg (by decide)] at hG;have hG' :G= .inr (1,[[98]]):=hG;subst hG';have hR' :R= .inr (1,liveX):=hR;subst hR'
    rcases h with⟨h1,-⟩|⟨-,h⟩
    ·exact absurd h1 (by decide)
    ·rw[hp] at h
     exact h
def wCmd:Pl.Bs:=[119,32,36,64]
def webL (J:Nat→List Nat) (a m:Nat):List Pl.Bs:=(List.range' a m).flatMap fun i=>[Mk.ruleL i (J i),Mk.cmdL]
def webT (J:Nat→List Nat) (m:Nat):Pl.Bs:=Mk.joinLn (webL J 0 m)
structure WbOk (J:Nat→List Nat) (m:Nat):Prop where
 le:m≤12
 lt:∀i,i<m→∀j∈J i,i<j∧j<m
 nd:∀i,i<m→(J i).Nodup
def webOf:Nat→Pl.Bs→List Nat
 |0=>fun _=>[]
 |k+1=>ofPut (webOf k) (Mk.nmB k) (webOf k (Mk.nmB k)++[k])
def webR (J:Nat→List Nat) (i:Nat):Rl:=⟨[Mk.nmB i],(J i).map Mk.nmB,[(wCmd,2*i+2)]⟩
def webS (J:Nat→List Nat) (k:Nat):St:=⟨[],(List.range k).map (webR J),[],if k=0 then [] else Mk.nmB 0,webOf k,[],k,0,0,k⟩
theorem webOf_at:∀(k i:Nat),k≤12→i<12→webOf k (Mk.nmB i)=if i<k then [i] else []
 |0,i,_,_=>by rw[if_neg (by omega)];rfl
 |k+1,i,hk,hi=>by
  have ih:=webOf_at k i (by omega) hi;have ihk:=webOf_at k k (by omega) (by omega);rw[if_neg (by omega)] at ihk;rw[webOf,ihk];unfold ofPut
  by_cases e:i=k
  ·subst e
   rw[if_pos rfl,if_pos (by omega)];rfl
  ·rw[if_neg (fun q=>e (Mk.nmB_inj hi (by omega) q)),ih]
   by_cases h:i<k
   ·rw[if_pos h,if_pos (by omega)]
   ·rw[if_neg h,if_neg (by omega)]
theorem nm_signs:∀k,k<12→placesB (Mk.nmB k)=false∧placeB (Mk.nmB k)=false∧Mk.has 36 (Mk.nmB k)=false∧Mk.words (Mk.nmB k)=[Mk.nmB k]∧Mk.before 36 (Mk.nmB k)=Mk.nmB k:=by decide
theorem has_none:∀(w:Pl.Bs) (c:UInt8),c∉w→Mk.has c w=false:=fun w c h=>by
 unfold Mk.has
 first|simpa using h|(rw [List.any_eq_false];intro x hx e;exact h (by simpa using(beq_iff_eq.1 e)▸hx))
theorem onceB_id:∀(l acc:List Pl.Bs),(acc++l).Nodup→onceB l acc=acc++l
 |[],acc,_=>by rw[onceB,List.append_nil]
 |x::r,acc,h=>by
  have hx:x∉acc:=fun q=>by
   rw[List.nodup_append] at h;exact h.2.2 x q x (List.mem_cons_self ..) rfl
  have ih:=onceB_id r (acc++[x]) (by rw[List.append_assoc];exact h);rw[onceB]
  first|(rw [if_neg hx,ih,List.append_assoc];rfl)|(rw [if_neg (by simpa using hx),ih,List.append_assoc];rfl)
theorem nms_nodup:∀(l:List Nat),l.Nodup→(∀j∈l,j<12)→(l.map Mk.nmB).Nodup
 |[],_,_=>List.nodup_nil
 |x::r,h,hl=>by
  rw[List.nodup_cons] at h;rw[List.map_cons,List.nodup_cons];refine⟨fun q=> ?_,nms_nodup r h.2 fun y hy=>hl y (List.mem_cons_of_mem _ hy)⟩;obtain⟨y,hy,e⟩:=List.mem_map.1 q;exact h.1 (Mk.nmB_inj (hl y (List.mem_cons_of_mem _ hy)) (hl x (List.mem_cons_self ..)) e▸hy)
section
variable {J:Nat→List Nat} {m k:Nat}
theorem WbOk.small (h:WbOk J m) (hk:k<m):∀j∈J k,j<12:=fun j hj=>Nat.lt_of_lt_of_le (h.lt k hk j hj).2 h.le
theorem WbOk.few (h:WbOk J m) (hk:k<m):(J k).length≤12:=by
 have:=nodupU ((J k).map Mk.nmB) ((List.range 12).map Mk.nmB) (nms_nodup _ (h.nd k hk) (h.small hk)) fun x hx=>by
  obtain⟨j,hj,rfl⟩:=List.mem_map.1 hx;exact List.mem_map.2 ⟨j,List.mem_range.2 (h.small hk j hj),rfl⟩
 simpa using this
theorem exp_name (hk:k<12):expE [] (Mk.nmB k)=⟨Mk.nmB k,0,0⟩:=by
 obtain⟨-,-,h3,-,h5⟩:=nm_signs k hk;have:=exp_free (L:=[]) h3 (by rw[h5];show 2≤2000;decide);rw[h5] at this;exact this
theorem exp_needs (h:WbOk J m) (hk:k<m):expE [] ((Mk.needT (J k)).drop 1)=⟨(Mk.needT (J k)).drop 1,0,0⟩:=by
 have hn:(36:UInt8)∉(Mk.needT (J k)).drop 1:=fun q=>by
  rcases Mk.needT_mem _ _ (List.mem_of_mem_drop q) with e|e|⟨j,hj,e⟩
  ·cases e
  ·cases e
  ·exact(Mk.letter_neW j (h.small hk j hj)).2.2.2.2.2.2 e.symm
 have hb:=Mk.before_noneW _ _ hn
 have hl:((Mk.needT (J k)).drop 1).length≤36:=by
  rw[List.length_drop,Mk.needT_len];have:=h.few hk;omega
 have:=exp_free (L:=[]) (has_none _ _ hn) (by rw[hb];omega);rw[hb] at this;exact this
def webH (J:Nat→List Nat) (k:Nat):St:=⟨[],(List.range k).map (webR J)++[⟨[Mk.nmB k],(J k).map Mk.nmB,[]⟩],[],Mk.nmB 0,webOf (k+1),[],k+1,0,0,k+1⟩
theorem rule_step (h:WbOk J m) (hk:k<m) (num:Nat):ruleF (webS J k) ⟨num,5,Mk.nmB k,(Mk.needT (J k)).drop 1⟩=(0,some k,webH J k):=by
 have h12:k<12:=Nat.lt_of_lt_of_le hk h.le;obtain⟨s1,s2,-,s4,-⟩:=nm_signs k h12;have hw:=Mk.words_needT (h.small hk)
 have hsd:sidesB [Mk.nmB k] ((J k).map Mk.nmB)=true:=by
  have n1:((J k).map Mk.nmB).any placesB=false:=by
   rw[List.any_eq_false];intro x hx;obtain⟨j,hj,rfl⟩:=List.mem_map.1 hx;rw[(nm_signs j (h.small hk j hj)).1];decide
  have n2:((J k).map Mk.nmB).any placeB=false:=by
   rw[List.any_eq_false];intro x hx;obtain⟨j,hj,rfl⟩:=List.mem_map.1 hx;rw[(nm_signs j (h.small hk j hj)).2.1];decide
  unfold sidesB;rw[if_neg (by simp[s1,n1]),if_neg (by simp[s2]),n2];rfl
 have hon:onceB ((J k).map Mk.nmB) []=(J k).map Mk.nmB:=by
  rw[onceB_id _ _ (by rw[List.nil_append];exact nms_nodup _ (h.nd k hk) (h.small hk)),List.nil_append]
 have h64:¬(webS J k).n=64:=by show ¬k=64;omega
 have hph:¬[Mk.nmB k]=[phonyB]:=fun e=>by
  have:=congrArg List.length (List.cons.inj e).1;cases this
 unfold ruleF;rw[show (webS J k).names=[] from rfl,exp_name h12,exp_needs h hk];simp only[ne_eq,not_true,if_false,s4,hw];rw[hsd,if_neg (by decide),if_neg h64];unfold addF;rw[if_neg hph];simp only[List.headD_cons,s2,Bool.false_eq_true,if_false,hon];have hlen:(webS J k).rules.length=k:=by show((List.range k).map (webR J)).length=k;simp
 rw[hlen];unfold explicitF webH;simp only[List.foldl_cons,List.foldl_nil]
 by_cases e:k=0
 ·subst e
  rw[if_pos (show (webS J 0).first=[] from rfl)];rfl
 ·have hne:¬(webS J k).first=[]:=by show ¬(if k=0 then [] else Mk.nmB 0)=[];rw[if_neg e];exact fun q=>by cases q
  rw[if_neg hne];show(0,some k,_)=(0,some k,_);unfold ofAdd webS;simp only[if_neg e];rfl
theorem cmd_step (h:WbOk J m) (hk:k<m):commandF (webH J k) (some k) ⟨2*k+2,1,[],wCmd⟩=(0,webS J (k+1)):=by
 have h12:k<12:=Nat.lt_of_lt_of_le hk h.le;have hlen:((List.range k).map (webR J)).length=k:=by simp
 have hr:(webH J k).rules[k]?=some ⟨[Mk.nmB k],(J k).map Mk.nmB,[]⟩:=by
  show((List.range k).map (webR J)++[_])[k]?=_;rw[List.getElem?_append_right (by omega),hlen,Nat.sub_self];rfl
 have hof:(webH J k).of (Mk.nmB k)=[k]:=by
  show webOf (k+1) (Mk.nmB k)=[k];rw[webOf_at (k+1) k (by omega) h12,if_pos (by omega)]
 have hhc:hcB (webH J k) k=false:=by unfold hcB;rw[hr];rfl
 unfold commandF;simp only;rw[hr];simp only;rw[if_neg (by simp[hof,hhc])];show(0,_)=(0,_)
 congr 1
 unfold webH webS;simp only[List.nil_append,if_neg (Nat.succ_ne_zero k)]
 congr 1
 rw[List.range_succ,List.map_append,List.set_append_right _ _ (by omega),hlen,Nat.sub_self];rfl
theorem webL_step (J:Nat→List Nat) (a n:Nat):webL J a (n+1)=Mk.ruleL a (J a)::Mk.cmdL::webL J (a+1) n:=by
 unfold webL;rw[List.range'_succ,List.flatMap_cons];rfl
theorem lines_web (h:WbOk J m) (rec:St→Pl.Bs→Nat×Nat×St) (fs:List Pl.File):∀(n a:Nat) (op:Option Nat),a+n=m→linesF rec fs ((Mk.numb (2*a+1) (webL J a n)).map fun x=>({(Mk.parse x.2).1 with number:=x.1},0)) (webS J a) op=(0,0,webS J m)
 |0,a,op,e=>by
  obtain rfl:a=m:=by omega
  rfl
 |n+1,a,op,e=>by
  have ha:a<m:=by omega
  have h12:a<12:=Nat.lt_of_lt_of_le ha h.le;have ih:=lines_web h rec fs n (a+1) (some a) (by omega);rw[webL_step,Mk.numb,Mk.numb,List.map_cons,List.map_cons,Mk.parse_ruleL h12 (h.small ha),Mk.parse_cmdL];rw[linesF]
  have l1:lineF rec fs (webS J a) op ⟨2*a+1,5,Mk.nmB a,(Mk.needT (J a)).drop 1⟩=(0,2*a+1,some a,webH J a):=by
   unfold lineF;rw[if_neg (show ¬(5:Nat)=1 by decide),if_pos rfl,rule_step h ha]
  have l2:lineF rec fs (webH J a) (some a) ⟨2*a+1+1,1,[],[119,32,36,64]⟩=(0,2*a+1+1,some a,webS J (a+1)):=by
   unfold lineF;rw[if_pos rfl];have:=cmd_step h ha;unfold wCmd at this;rw[this]
  simp only;rw[l1,if_neg (by simp),if_neg (by simp),linesF];simp only;rw[l2,if_neg (by simp),if_neg (by simp)];exact ih
theorem webS_zero:webS J 0=st0:=rfl
theorem web_book (h:WbOk J m) {fs:List Pl.File} {f:Pl.File} (hl:Pl.look fs [82]=some f) (ht:f.text=webT J m):bookF fs [82]=(0,0,webS J m):=by
 unfold bookF;rw[hl];simp only;rw[ht,readF]
 have hmem:∀l∈webL J 0 m,l=Mk.cmdL∨∃i,i<m∧l=Mk.ruleL i (J i):=fun l hl=>by
  obtain⟨i,hi,hl⟩:=List.mem_flatMap.1 hl;have hi:=(List.mem_range'_1.1 hi).2
  rcases List.mem_cons.1 hl with e|e
  ·exact .inr ⟨i,by omega,e⟩
  ·exact .inl (List.mem_singleton.1 e)
 have ha:=Mk.allF_joinLn (fun l=>(Mk.parse l).1) (webL J 0 m) (fun l hl=>by
  rcases hmem l hl with rfl|⟨i,hi,rfl⟩
  ·decide
  ·exact Mk.ruleL_not (Nat.lt_of_lt_of_le hi h.le) (h.small hi) 10 (by decide) (by decide) (by decide) fun k hk=>(Mk.letter_neW k hk).1) (fun l hl=>by
  rcases hmem l hl with rfl|⟨i,hi,rfl⟩
  ·decide
  ·obtain⟨l,c,e,-,hc⟩:=Mk.ruleL_last (i:=i) (h.small hi)
   rw[e];unfold Mk.endsBack;rw[List.getLast?_concat]
   simpa using hc) (fun l hl=>by
  rcases hmem l hl with rfl|⟨i,hi,rfl⟩
  ·exact⟨rfl,by decide⟩
  ·rw[Mk.parse_ruleL (Nat.lt_of_lt_of_le hi h.le) (h.small hi)]
   exact⟨rfl,show (5:Nat)≠0 by decide⟩)
 unfold webT;rw[ha];have:=lines_web h (readF fs 2) fs m 0 none (by omega);rw[webS_zero] at this;exact this
end
theorem fromF_more {s:St} {fs:List Pl.File} {us:List (Nat×List Pl.Bs)}:∀(n m:Nat) (p r:Nat×Wst),fromF s fs us n p=some r→fromF s fs us (n+m) p=some r
 |0,m,p,r,h=>by
  rw[fromF] at h;split at h
  ·rename_i q
   cases m with
   |zero=>rw[fromF,if_pos q];exact h
   |succ m=>rw[Nat.zero_add,fromF,if_pos q];exact h
  ·cases h
 |n+1,m,p,r,h=>by
  rw[fromF] at h;rw[show n+1+m=(n+m)+1 by omega,fromF];split
  ·rename_i q
   rw[if_pos q] at h;exact h
  ·rename_i q
   rw[if_neg q] at h;exact fromF_more n m _ r h
theorem FromR.det {s:St} {fs:List Pl.File} {us:List (Nat×List Pl.Bs)} {p r q:Nat×Wst} (h:FromR s fs us p r) (g:FromR s fs us p q):r=q:=by
 obtain⟨n,hn⟩:=h;obtain⟨m,hm⟩:=g;have e1:=fromF_more n m p r hn;have e2:=fromF_more m n p q hm;rw[Nat.add_comm,e1] at e2;cases e2;rfl
theorem give_det {N:Pl.Bs→Cp.Nv} {sg:UInt8→Option Pl.Bs}:∀(cs:List (Pl.Bs×Nat)) (k:Nat) (acc:List Pl.Bs) (R Q:(Nat×Nat)⊕(Nat×List Pl.Bs)),GiveR N sg cs k acc R→GiveR N sg cs k acc Q→R=Q
 |[],k,acc,R,Q,h,g=>by
  have h' :R= .inr (k,acc):=h;have g' :Q= .inr (k,acc):=g;rw[h',g']
 |c::rest,k,acc,R,Q,⟨r,h1,h⟩,⟨q,g1,g⟩=>by
  obtain rfl:=h1.det g1;split at h
  ·rename_i e
   rw[if_pos e] at g;rw[h,g]
  ·rename_i e
   rw[if_neg e] at g;split at h
   ·rename_i e2
    rw[if_pos e2] at g;exact give_det rest _ _ R Q h g
   ·rename_i e2
    rw[if_neg e2] at g;exact give_det rest _ _ R Q h g
theorem steps_det {N:Pl.Bs→Cp.Nv}:∀(ns:List Nod) (k:Nat) (acc:List Stp) (R Q:(Nat×Nat)⊕(Nat×List Stp)),StepsR N ns k acc R→StepsR N ns k acc Q→R=Q
 |[],k,acc,R,Q,h,g=>by
  have h' :R= .inr (k,acc):=h;have g' :Q= .inr (k,acc):=g;rw[h',g']
 |x::rest,k,acc,R,Q,⟨G,h1,h⟩,⟨K,g1,g⟩=>by
  obtain rfl:=give_det _ _ _ _ _ h1 g1;cases G with
  |inl e=>exact(show R= .inl e from h).trans (show Q= .inl e from g).symm
  |inr p=>exact steps_det rest _ _ R Q h g
theorem stepsT_det {R:(Nat×Nat)⊕(Nat×List Stp)} {r q:Pl.Bs×Nat×Nat} (h:StepsT R r) (g:StepsT R q):r=q:=by
 cases R with
 |inl e=>exact(show r=_ from h).trans (show q=_ from g).symm
 |inr p=>
  rcases h with⟨h1,h2⟩|⟨h1,h2⟩
  ·rcases g with⟨g1,g2⟩|⟨g1,g2⟩
   ·rw[h2,g2]
   ·omega
  ·rcases g with⟨g1,g2⟩|⟨g1,g2⟩
   ·omega
   ·rw[h2,g2]
theorem orderT_det {s:St} {fs:List Pl.File} {g:Pl.Bs} {r q:Pl.Bs×Nat×Nat} (h:OrderT s fs g r) (k:OrderT s fs g q):r=q:=by
 rcases h with⟨a1,a2⟩|⟨a1,a2,a3⟩|⟨a1,a2,x,a3,a4⟩
 ·rcases k with⟨b1,b2⟩|⟨b1,b2,b3⟩|⟨b1,b2,y,b3,b4⟩
  ·rw[a2,b2]
  ·exact absurd a1 b1
  ·exact absurd a1 b1
 ·rcases k with⟨b1,b2⟩|⟨b1,b2,b3⟩|⟨b1,b2,y,b3,b4⟩
  ·exact absurd b1 a1
  ·rw[a3,b3]
  ·omega
 ·rcases k with⟨b1,b2⟩|⟨b1,b2,b3⟩|⟨b1,b2,y,b3,b4⟩
  ·exact absurd b1 a1
  ·omega
  ·obtain rfl:=a3.det b3
   rcases a4 with⟨c1,c2⟩|⟨c1,c2,c3⟩|⟨c1,c2,R,c3,c4⟩
   ·rcases b4 with⟨d1,d2⟩|⟨d1,d2,d3⟩|⟨d1,d2,Q,d3,d4⟩
    ·rw[c2,d2]
    ·exact absurd d1 c1
    ·exact absurd d1 c1
   ·rcases b4 with⟨d1,d2⟩|⟨d1,d2,d3⟩|⟨d1,d2,Q,d3,d4⟩
    ·exact absurd c1 d1
    ·rw[c3,d3]
    ·omega
   ·rcases b4 with⟨d1,d2⟩|⟨d1,d2,d3⟩|⟨d1,d2,Q,d3,d4⟩
    ·exact absurd c1 d1
    ·omega
    ·obtain rfl:=steps_det _ _ _ _ _ c3 d3
     exact stepsT_det c4 d4
theorem TextR.det {fs:List Pl.File} {path goal:Pl.Bs} {r q:Pl.Bs×Nat×Nat} (h:TextR fs path goal r) (g:TextR fs path goal q):r=q:=by
 rcases h with⟨h1,h2⟩|⟨h1,h2⟩
 ·rcases g with⟨g1,g2⟩|⟨g1,g2⟩
  ·rw[h2,g2]
  ·exact absurd g1 h1
 ·rcases g with⟨g1,g2⟩|⟨g1,g2⟩
  ·exact absurd h1 g1
  ·exact orderT_det h2 g2
theorem TextR.plan {fs:List Pl.File} {path goal:Pl.Bs} {r:Pl.Bs×Nat×Nat} (h:TextR fs path goal r) (h0:r.2.1=0):r.2.2=0∧∃q k ss,FromR (bookF fs path).2.2 fs (usL (bookF fs path).2.2 fs (bookF fs path).2.2.pats) (enterF (bookF fs path).2.2 fs (usL (bookF fs path).2.2 fs (bookF fs path).2.2.pats) wst0 (goalF (bookF fs path).2.2 goal)) q∧q.1=0∧q.2.over.length≤100∧(goalF (bookF fs path).2.2 goal).length≤2000∧StepsR (nOf (bookF fs path).2.2.names) q.2.over 0 [] (.inr (k,ss))∧k≤500∧planW ss=some r.1:=by
 rcases h with⟨h1,h2⟩|⟨h1,⟨a1,a2⟩|⟨a1,a2,a3⟩|⟨a1,a2,x,a3,a4⟩⟩
 ·rw[h2] at h0;exact absurd h0 h1
 ·rw[a2] at h0;cases h0
 ·rw[a3] at h0;cases h0
 ·rcases a4 with⟨c1,c2⟩|⟨c1,c2,c3⟩|⟨c1,c2,R,c3,c4⟩
  ·rw[c2] at h0;exact absurd h0 c1
  ·rw[c3] at h0;cases h0
  ·cases R with
   |inl e=>
    have c5:r=([],e.1,e.2):=c4;rw[c5] at h0;exact absurd h0 (steps_er _ _ _ _ _ c3)
   |inr p=>
    rcases c4 with⟨d1,d2⟩|⟨d1,d2⟩
    ·rw[d2] at h0;cases h0
    ·cases hp:planW p.2 with
     |none=>rw[hp] at d2;rw[d2] at h0;cases h0
     |some t=>
      rw[hp] at d2;refine⟨by rw[d2],x,p.1,p.2,a3,c1,c2,a2,c3,d1,by rw[hp,d2]⟩
end Go.Proofs.YtjelacjggijmfaaGreatDoor
