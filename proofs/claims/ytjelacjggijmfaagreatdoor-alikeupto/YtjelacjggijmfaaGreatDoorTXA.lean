/-
  Rules and their plain form come to the same plan, which does the same.
-/
import Derived.Test.YtjelacjggijmfaaGreatDoorTXP
import Derived.Deep.Cut
namespace Go.Proofs.YtjelacjggijmfaaGreatDoor
open Go.RowKit
theorem filesC_length (fs:List Pl.File):(filesC fs).length=fs.length*3:=by
 induction fs with
 |nil=>rfl
 |cons f r ih=>unfold filesC at*;rw[List.flatMap_cons,List.length_append,ih,List.length_cons];simp[fileC];omega
end Go.Proofs.YtjelacjggijmfaaGreatDoor
namespace Go.Proofs.YtjelacjggijmfaaGreatDoor
open Go.RowKit
theorem filesC_set (fs:List Pl.File) (f:Pl.File):∀(k:Nat) (_:k<fs.length),(((filesC fs).set (k*3) (strV f.path)).set (k*3+1) (strV f.text)).set (k*3+2) (.int .i64 f.time)=filesC (fs.set k f):=by
 induction fs with
 |nil=>intro k h;simp at h
 |cons g r ih=>
  intro k h;cases k with
  |zero=>simp[filesC,fileC]
  |succ k=>
   have:=ih k (by simpa using h);unfold filesC at*;rw[List.set_cons_succ,List.flatMap_cons,List.flatMap_cons];have hl:(fileC g).length=3:=rfl;rw[List.set_append_right _ _ (by omega),List.set_append_right _ _ (by omega),List.set_append_right _ _ (by omega),hl]
   rw[show (k+1)*3-3=k*3 from by omega,show (k+1)*3+1-3=k*3+1 from by omega,show (k+1)*3+2-3=k*3+2 from by omega,this]
end Go.Proofs.YtjelacjggijmfaaGreatDoor
namespace Go.Proofs.YtjelacjggijmfaaGreatDoor
open Go.RowKit
theorem ins_len (f:Pl.File):∀acc:List Pl.File,(Pl.insF f acc).length=acc.length+1
 |[]=>rfl
 |g::r=>by
  unfold Pl.insF;split
  ·rfl
  ·simp[ins_len f r]
theorem sort_len_aux:∀(fs acc:List Pl.File),(fs.foldl (fun acc f=>Pl.insF f acc) acc).length=acc.length+fs.length
 |[],_=>rfl
 |f::r,acc=>by rw[List.foldl_cons,sort_len_aux r,ins_len];simp;omega
theorem sort_len (fs:List Pl.File):(Pl.sortF fs).length=fs.length:=by unfold Pl.sortF;rw[sort_len_aux];simp
end Go.Proofs.YtjelacjggijmfaaGreatDoor
namespace Go.Proofs.YtjelacjggijmfaaGreatDoor
open Go.RowKit
theorem exec_cmds (c:Pl.Bs) (ss:List Pl.Bs) (ef:List Pl.Eff):∀(f p:Nat) (st:List Bool) (fl:Nat→Bool) (X:Pl.Wd),(Pl.exec c ss ef f p st fl X).cmds.length≤X.cmds.length+f
 |0,_,_,_,X=>Nat.le_refl _
 |f+1,p,st,fl,X=>by
  rw[Pl.exec];split
  ·have h1:=exec_cmds c ss ef f (Pl.act ss ef (Pl.mkIns c p) st fl X).1 (Pl.act ss ef (Pl.mkIns c p) st fl X).2.1 (Pl.act ss ef (Pl.mkIns c p) st fl X).2.2.1 (Pl.act ss ef (Pl.mkIns c p) st fl X).2.2.2
   have h2:(Pl.act ss ef (Pl.mkIns c p) st fl X).2.2.2=X∨∃d,(Pl.act ss ef (Pl.mkIns c p) st fl X).2.2.2=Pl.giveW ef X d:=by
    unfold Pl.act
    repeat' split
    all_goals first|exact .inl rfl|exact .inr ⟨_,rfl⟩
   rcases h2 with e|⟨d,e⟩
   ·rw[e] at h1⊢;omega
   ·rw[e] at h1⊢
    rw[give_cmds',List.length_append,List.length_singleton] at h1;omega
  ·omega
theorem load_short {l:Pl.Bs} {ss:List Pl.Bs} {c:Pl.Bs} (h:Pl.load l=some (ss,c)):c.length+4≤l.length:=by
 unfold Pl.load at h;split at h
 ·rename_i h4
  have:=(Pl.strs_len _ _ _ h).2;simp only[List.length_drop] at this;omega
 ·cases h
theorem run_cmds {l:Pl.Bs} {ss:List Pl.Bs} {c:Pl.Bs} (h:Pl.load l=some (ss,c)) (fs:List Pl.File) (ef:List Pl.Eff) (clock:Int):(Pl.runW c ss ef (Pl.newW fs clock)).cmds.length≤l.length:=by
 have h1:=exec_cmds c ss ef (c.length+1) 0 [] (fun _=>false) (Pl.newW fs clock);have h2:=load_short h;have h3:(Pl.newW fs clock).cmds.length=0:=rfl;unfold Pl.runW;omega
theorem run_files (S:List Pl.Bs) (c:Pl.Bs) (ss:List Pl.Bs) (fs:List Pl.File) (ef:List Pl.Eff) (clock:Int) (hfS:∀f∈fs,f.path∈S) (hEs:∀e∈ef,∀f∈e.writes,f.path∈S):(Pl.sortF (Pl.runW c ss ef (Pl.newW fs clock)).files).length≤S.length:=by
 rw[sort_len];refine Fit.len ?_;unfold Pl.runW;exact exec_fit S c ss ef hEs _ _ _ _ _ (Fit.adds fs ⟨by simp[Pl.Uniq],by simp⟩ hfS)
end Go.Proofs.YtjelacjggijmfaaGreatDoor
namespace Go.Proofs.YtjelacjggijmfaaGreatDoor
open Go.RowKit
set_option maxHeartbeats 2000000 in
set_option maxRecDepth 20000 in
theorem sameResult_any (cs:List Pl.Bs) (fs:List Pl.File) (ex ck:Int) (a1 a2 a3 a4:Option Addr) (k1 k2 k3 k4 b1 b2 b3 b4 o1 o2 o3 o4:Nat) (w:World)
 (h1:0<cs.length→a1=some ⟨b1,o1,none⟩) (h2:0<fs.length→a2=some ⟨b2,o2,none⟩) (h3:0<cs.length→a3=some ⟨b3,o3,none⟩) (h4:0<fs.length→a4=some ⟨b4,o4,none⟩)
 (r1:RdS w b1 o1 cs) (r2:RdF w b2 o2 fs) (r3:RdS w b3 o3 cs) (r4:RdF w b4 o4 fs)
 (l1:0<cs.length→b1<w.heap.size) (l2:0<fs.length→b2<w.heap.size) (l3:0<cs.length→b3<w.heap.size) (l4:0<fs.length→b4<w.heap.size) (hc:cs.length≤8388608) (hf:fs.length≤8388608):
 Calls Tryz.prog 28 #[.agg #[.slice a1 cs.length k1,.slice a2 fs.length k2,.int .i64 ex,.int .i64 ck],.agg #[.slice a3 cs.length k3,.slice a4 fs.length k4,.int .i64 ex,.int .i64 ck]] w fun e w' =>e= .returned (.bool true)∧Below w.heap.size w w' :=by
 have H1:=hide h1;have H2:=hide h2;have H3:=hide h3;have H4:=hide h4;have R1:=hide r1;have R2:=hide r2;have R3:=hide r3;have R4:=hide r4;have L1:=hide l1;have L2:=hide l2;have L3:=hide l3;have L4:=hide l4;clear h1 h2 h3 h4 r1 r2 r3 r4 l1 l2 l3 l4
 go_enter Tryz.func28,Tryz.ntmps28
 go_wp2_with fail
 obtain⟨hx,hy⟩:=box_two w 48 48 (.slice a1 cs.length k1) (.slice a2 fs.length k2) (.int .i64 ex) (.int .i64 ck) (.slice a3 cs.length k3) (.slice a4 fs.length k4) (.int .i64 ex) (.int .i64 ck);have HX:=hide hx;have HY:=hide hy;clear hx hy
 generalize ((w.alloc (.cells #[(.slice a1 cs.length k1),(.slice a2 fs.length k2),(.int .i64 ex),(.int .i64 ck)] 48)).alloc (.cells #[(.slice a3 cs.length k3),(.slice a4 fs.length k4),(.int .i64 ex),(.int .i64 ck)] 48))=W0 at*
 go_loopw [5] (fun i wr=>∃k:Nat,i= .int .i64 k∧k≤cs.length∧Hid (Boxed w w.heap.size 48 (.slice a1 cs.length k1) (.slice a2 fs.length k2) (.int .i64 ex) (.int .i64 ck) wr)∧Hid (Boxed w (w.heap.size+1) 48 (.slice a3 cs.length k3) (.slice a4 fs.length k4) (.int .i64 ex) (.int .i64 ck) wr)) (fun i _=>cs.length-intN i)
 case atStart=>exact⟨0,rfl,Nat.zero_le _,HX,HY⟩
 case round=>
  clear HX HY;obtain⟨k,rfl,hkl,HX,HY⟩:=hrel;obtain⟨x0,x1,x2,x3⟩:=(uh HX).cells;obtain⟨y0,y1,y2,y3⟩:=(uh HY).cells
  by_cases hk:k<cs.length
  ·obtain rfl:=uh H1 (by omega)
   obtain rfl:=uh H3 (by omega);have p:=(uh R1).below (uh HX).below (uh L1 (by omega)) k hk;have q:=(uh R3).below (uh HX).below (uh L3 (by omega)) k hk;generalize cs[k]=ck0 at*;unfold strV at p q;have t1:(k:Int)<(cs.length:Int):=by omega
   go_wp2_with fail
   go_quiet (fail)
   go_wp2_with fail
   go_roundw
   case rel=>exact⟨k+1,by go_num,by omega,(uh HX).drewN _,(uh HY).drewN _⟩
   case measure=>simp only[intN];omega
  ·have t1:¬(k:Int)<(cs.length:Int):=by omega
   go_wp2_with fail
   clear x0 x1 x2 x3 y0 y1 y2 y3
   go_loopw [6] (fun i wr=>∃k:Nat,i= .int .i64 k∧k≤fs.length∧Hid (Boxed w w.heap.size 48 (.slice a1 cs.length k1) (.slice a2 fs.length k2) (.int .i64 ex) (.int .i64 ck) wr)∧Hid (Boxed w (w.heap.size+1) 48 (.slice a3 cs.length k3) (.slice a4 fs.length k4) (.int .i64 ex) (.int .i64 ck) wr)) (fun i _=>fs.length-intN i)
   case atStart=>exact⟨0,rfl,Nat.zero_le _,HX,HY⟩
   case round=>
    clear HX HY;obtain⟨k',rfl,hkl',HX,HY⟩:=hrel;obtain⟨x0,x1,x2,x3⟩:=(uh HX).cells;obtain⟨y0,y1,y2,y3⟩:=(uh HY).cells
    by_cases hk' :k' <fs.length
    ·obtain rfl:=uh H2 (by omega)
     obtain rfl:=uh H4 (by omega);obtain⟨p0,p1,p2⟩:=(uh R2).below (uh HX).below (uh L2 (by omega)) k' hk';obtain⟨q0,q1,q2⟩:=(uh R4).below (uh HX).below (uh L4 (by omega)) k' hk';generalize fs[k']=fk at*;unfold strV at p0 p1 q0 q1;have t2:(k' :Int)<(fs.length:Int):=by omega
     go_wp2_with fail
     go_quiet (fail)
     go_wp2_with fail
     go_roundw
     case rel=>exact⟨k' +1,by go_num,by omega,(uh HX).drewN _,(uh HY).drewN _⟩
     case measure=>simp only[intN];omega
    ·have t2:¬(k' :Int)<(fs.length:Int):=by omega
     go_wp2_with fail
     go_ret
     exact⟨rfl,(uh HX).below⟩
end Go.Proofs.YtjelacjggijmfaaGreatDoor
namespace Go.Cp
open Go
theorem after_lt {c:UInt8} {t:Bs} (h:Mk.has c t=true):(Mk.after c t).length<t.length:=by
 induction t with
 |nil=>cases h
 |cons x r ih=>
  unfold Mk.after
  by_cases e:(x==c)=true
  ·rw[List.dropWhile_cons_of_neg (by rw[e];simp)];simp
  ·rw[List.dropWhile_cons_of_pos (by simpa using e)]
   have hr:Mk.has c r=true:=by
    unfold Mk.has at h⊢;rw[List.contains_cons] at h
    have:(c==x)=false:=by
     rw[beq_eq_false_iff_ne];intro q;exact e (by rw[q];exact beq_self_eq_true _)
    rw[this,Bool.false_or] at h;exact h
   have:=ih hr;unfold Mk.after at this;simp only[List.length_cons];omega
theorem told_refs (a:Bs) (k:Nat):(toldB a k).refs=k:=by unfold toldB;split<;>rfl
theorem exp_total (N:Bs→Nv) (sg:UInt8→Option Bs):∀(n k:Nat),301-k≤n→∀(l:Nat) (t:Bs),t.length≤l→∀(m:List Bs) (a:Bs),∃r,Exp N sg m k a t r∧k≤r.refs:=by
 intro n
 induction n with
 |zero=>
  intro k hk l
  induction l with
  |zero=>
   intro t ht m a;have:t=[]:=List.length_eq_zero_iff.1 (by omega);subst this;exact⟨_,Exp.free rfl,by rw[told_refs];exact Nat.le_refl _⟩
  |succ l ih=>
   intro t ht m a;cases h36:Mk.has 36 t with
   |false=>exact⟨_,Exp.free h36,by rw[told_refs];exact Nat.le_refl _⟩
   |true=>
    have hlt:=after_lt h36;cases hA:Mk.after 36 t with
    |nil=>exact⟨_,Exp.nil h36 hA,Nat.le_refl _⟩
    |cons c rest=>
     rw[hA,List.length_cons] at hlt
     by_cases c1:c=36
     ·subst c1
      obtain⟨r,h1,h2⟩:=ih rest (by omega) m (addB (addB a (Mk.before 36 t)) [36]);exact⟨r,Exp.dollar h36 hA h1,h2⟩
     ·by_cases c2:c=40
      ·subst c2
       by_cases hb:Mk.has 41 rest=false∨Mk.isName (Mk.before 41 rest)=false
       ·exact⟨_,Exp.bad h36 hA hb,Nat.le_refl _⟩
       ·have h41:Mk.has 41 rest=true:=by
         cases q:Mk.has 41 rest with
         |true=>rfl
         |false=>exact absurd (.inl q) hb
        have hnm:Mk.isName (Mk.before 41 rest)=true:=by
         cases q:Mk.isName (Mk.before 41 rest) with
         |true=>rfl
         |false=>exact absurd (.inr q) hb
        exact⟨⟨[],5,k+1⟩,(Exp.ref (r:=⟨[],5,k+1⟩) h36 hA h41 hnm (.inl ⟨by omega,rfl⟩)).1 (by simp),Nat.le_succ _⟩
      ·cases hs:sg c with
       |none=>exact⟨_,(Exp.sign (r:=⟨[],1,k⟩) h36 hA c1 c2).1 hs,Nat.le_refl _⟩
       |some p=>
        obtain⟨r,h1,h2⟩:=ih rest (by omega) m (addB (addB a (Mk.before 36 t)) p);exact⟨r,(Exp.sign h36 hA c1 c2).2 p hs h1,h2⟩
 |succ n ihn=>
  intro k hk l
  induction l with
  |zero=>
   intro t ht m a;have:t=[]:=List.length_eq_zero_iff.1 (by omega);subst this;exact⟨_,Exp.free rfl,by rw[told_refs];exact Nat.le_refl _⟩
  |succ l ih=>
   intro t ht m a;cases h36:Mk.has 36 t with
   |false=>exact⟨_,Exp.free h36,by rw[told_refs];exact Nat.le_refl _⟩
   |true=>
    have hlt:=after_lt h36;cases hA:Mk.after 36 t with
    |nil=>exact⟨_,Exp.nil h36 hA,Nat.le_refl _⟩
    |cons c rest=>
     rw[hA,List.length_cons] at hlt
     by_cases c1:c=36
     ·subst c1
      obtain⟨r,h1,h2⟩:=ih rest (by omega) m (addB (addB a (Mk.before 36 t)) [36]);exact⟨r,Exp.dollar h36 hA h1,h2⟩
     ·by_cases c2:c=40
      ·subst c2
       by_cases hb:Mk.has 41 rest=false∨Mk.isName (Mk.before 41 rest)=false
       ·exact⟨_,Exp.bad h36 hA hb,Nat.le_refl _⟩
       ·have h41:Mk.has 41 rest=true:=by
         cases q:Mk.has 41 rest with
         |true=>rfl
         |false=>exact absurd (.inl q) hb
        have hnm:Mk.isName (Mk.before 41 rest)=true:=by
         cases q:Mk.isName (Mk.before 41 rest) with
         |true=>rfl
         |false=>exact absurd (.inr q) hb
        obtain⟨r,hr,hk2⟩:∃r,ReferP N sg m k (Mk.before 41 rest) r∧k+1≤r.refs:=by
         by_cases h3:300<k+1
         ·exact⟨⟨[],5,k+1⟩,.inl ⟨h3,rfl⟩,Nat.le_refl _⟩
         ·cases hl:(N (Mk.before 41 rest)).late with
          |false=>exact⟨⟨(N (Mk.before 41 rest)).text,0,k+1⟩,.inr (.inr (.inr ⟨h3,hl,rfl⟩)),Nat.le_refl _⟩
          |true=>
           by_cases hm:Mk.before 41 rest∈m
           ·exact⟨⟨[],4,k+1⟩,.inr (.inl ⟨h3,hl,hm,rfl⟩),Nat.le_refl _⟩
           ·obtain⟨r,h1,h2⟩:=ihn (k+1) (by omega) _ (N (Mk.before 41 rest)).text (Nat.le_refl _) (m++[Mk.before 41 rest]) []
            exact⟨r,.inr (.inr (.inl ⟨h3,hl,hm,h1⟩)),h2⟩
        by_cases he:r.er=0
        ·obtain⟨q,h1,h2⟩:=ihn r.refs (by omega) _ (Mk.after 41 rest) (Nat.le_refl _) m (addB (addB a (Mk.before 36 t)) r.txt)
         exact⟨q,(Exp.ref h36 hA h41 hnm hr).2 he q h1,by omega⟩
        ·exact⟨_,(Exp.ref h36 hA h41 hnm hr).1 he,by show k≤r.refs;omega⟩
      ·cases hs:sg c with
       |none=>exact⟨_,(Exp.sign (r:=⟨[],1,k⟩) h36 hA c1 c2).1 hs,Nat.le_refl _⟩
       |some p=>
        obtain⟨r,h1,h2⟩:=ih rest (by omega) m (addB (addB a (Mk.before 36 t)) p);exact⟨r,(Exp.sign h36 hA c1 c2).2 p hs h1,h2⟩
theorem exp_some (N:Bs→Nv) (sg:UInt8→Option Bs) (t:Bs):∃r,Exp N sg [] 0 [] t r:=by
 obtain⟨r,h,-⟩:=exp_total N sg 301 0 (by omega) t.length t (Nat.le_refl _) [] [];exact⟨r,h⟩
end Go.Cp
namespace Go.Proofs.YtjelacjggijmfaaGreatDoor
open Go.RowKit
theorem expE_is (L:NL) (t:Pl.Bs):Cp.Exp (nOf L) (fun _=>none) [] 0 [] t (expE L t):=by
 obtain⟨r,h⟩:=Cp.exp_some (nOf L) (fun _=>none) t;rw[expE_eq h];exact h
theorem expE_like (L:NL) {t t' :Pl.Bs} (h:Mk.Tx t t'):Cp.ErQ (expE L t) (expE L t'):=by
 obtain⟨f,hf⟩:=expE_is L t;obtain⟨r',h1,h2⟩:=Cp.exp_like f [] 0 [] [] t t' _ (.inl .nil) h hf;have e:expE L t' =r' :=expE_eq ⟨f,h1⟩;rw[e];exact h2
def eC (c:Pl.Bs×Nat):Pl.Bs×Nat:=(c.1,0)
def eR (r:Rl):Rl:={r with cs:=r.cs.map eC}
def Eqv (s s' :St):Prop:=∃rs,s' ={s with rules:=rs}∧s.rules.map eR=rs.map eR
theorem Eqv.refl (s:St):Eqv s s:=⟨s.rules,rfl,rfl⟩
theorem eqv_len {a b:List Rl} (h:a.map eR=b.map eR):b.length=a.length:=by
 have:=congrArg List.length h
 simpa using this.symm
theorem eqv_at {a b:List Rl} (h:a.map eR=b.map eR) (i:Nat):(a[i]?).map eR=(b[i]?).map eR:=by
 rw[←List.getElem?_map,←List.getElem?_map,h]
theorem eR_eq {r r' :Rl} (h:eR r=eR r'):r'.tg=r.tg∧r'.nd=r.nd∧r'.cs.length=r.cs.length∧r.cs.map eC=r'.cs.map eC:=by
 have h1:(eR r).tg=(eR r').tg:=by rw[h]
 have h2:(eR r).nd=(eR r').nd:=by rw[h]
 have h3:(eR r).cs=(eR r').cs:=by rw[h]
 refine⟨h1.symm,h2.symm,?_,h3⟩;have:=congrArg List.length h3
 simpa [eR] using this.symm
theorem eqv_some {a b:List Rl} (h:a.map eR=b.map eR) (i:Nat):(a[i]?=none∧b[i]?=none)∨∃r r',a[i]?=some r∧b[i]?=some r' ∧eR r=eR r' :=by
 have:=eqv_at h i;cases h1:a[i]? with
 |none=>
  rw[h1] at this;cases h2:b[i]? with
  |none=>exact .inl ⟨rfl,rfl⟩
  |some r' =>rw[h2] at this;cases this
 |some r=>
  rw[h1] at this;cases h2:b[i]? with
  |none=>rw[h2] at this;cases this
  |some r' =>rw[h2] at this;exact .inr ⟨r,r',rfl,rfl,Option.some.inj this⟩
theorem hc_same {s:St} {rs:List Rl} (h:s.rules.map eR=rs.map eR):hcB {s with rules:=rs}=hcB s:=by
 funext i
 unfold hcB;simp only
 rcases eqv_some h i with⟨h1,h2⟩|⟨r,r',h1,h2,h3⟩
 ·rw[h1,h2]
 ·rw[h1,h2]
  simp only;rw[(eR_eq h3).2.2.1]
def Sim (x y:Nat×St):Prop:=x.1=5∨(y.1=x.1∧(x.1=0→Eqv x.2 y.2))
def Sim3 (x y:Nat×Nat×St):Prop:=x.1=5∨(y.1=x.1∧(x.1=0→Eqv x.2.2 y.2.2))
def Sim4 (x y:Nat×Nat×Option Nat×St):Prop:=x.1=5∨(y.1=x.1∧(x.1=0→y.2.2.1=x.2.2.1∧Eqv x.2.2.2 y.2.2.2))
theorem command_sim {s s' :St} (h:Eqv s s') (op:Option Nat) {l l' :Mk.Ln} (hl:l'.right=l.right):Sim (commandF s op l) (commandF s' op l'):=by
 obtain⟨rs,rfl,h⟩:=h;cases op with
 |none=>exact .inr ⟨rfl,fun q=>by cases q⟩
 |some i=>
  unfold commandF;simp only
  rcases eqv_some h i with⟨h1,h2⟩|⟨r,r',h1,h2,h3⟩
  ·rw[h1,h2]
   exact .inr ⟨rfl,fun q=>by cases q⟩
  ·rw[h1,h2]
   obtain⟨e1,e2,e3,e4⟩:=eR_eq h3;simp only;rw[e1,e3,hc_same h];split
   ·exact .inr ⟨rfl,fun q=>by cases q⟩
   ·refine .inr ⟨rfl,fun _=>⟨_,rfl,?_⟩⟩
    simp only;rw[List.map_set,List.map_set,h]
    congr 1
    unfold eR;simp only[List.map_append,e2,e4,hl];rfl
theorem assign_sim {s s' :St} (h:Eqv s s') {l l' :Mk.Ln} (hk:l'.kind=l.kind) (h1:l'.left=l.left) (h2:l'.right=l.right):Sim (assignF s l) (assignF s' l'):=by
 obtain⟨rs,rfl,h⟩:=h;unfold assignF;rw[hk,h1,h2];split
 ·exact .inr ⟨rfl,fun _=>⟨rs,rfl,h⟩⟩
 ·exact .inr ⟨rfl,fun _=>⟨rs,rfl,h⟩⟩
theorem fold_of (rs:List Rl) (i:Nat):∀(tg:List Pl.Bs) (s:St),tg.foldl (ofAdd i) {s with rules:=rs}={tg.foldl (ofAdd i) s with rules:=rs}
 |[],_=>rfl
 |t::r,s=>by
  rw[List.foldl_cons,List.foldl_cons];exact fold_of rs i r (ofAdd i s t)
theorem explicit_of (rs:List Rl) (tg:List Pl.Bs) (i:Nat) (s:St):explicitF {s with rules:=rs} tg i={explicitF s tg i with rules:=rs}:=by
 unfold explicitF
 by_cases hf:s.first=[]
 ·rw[if_pos hf,if_pos (show ({s with rules:=rs}:St).first=[] from hf)]
  exact fold_of rs i tg {s with first:=tg.headD []}
 ·rw[if_neg hf,if_neg (show ¬({s with rules:=rs}:St).first=[] from hf)]
  exact fold_of rs i tg s
theorem fold_rules (i:Nat):∀(tg:List Pl.Bs) (s:St),(tg.foldl (ofAdd i) s).rules=s.rules
 |[],_=>rfl
 |t::r,s=>by
  rw[List.foldl_cons];exact fold_rules i r (ofAdd i s t)
theorem explicit_rules (tg:List Pl.Bs) (i:Nat) (s:St):(explicitF s tg i).rules=s.rules:=by
 unfold explicitF;rw[fold_rules];split<;>rfl
theorem add_sim {s s' :St} (h:Eqv s s') (tg nd:List Pl.Bs):(addF s' tg nd).1=(addF s tg nd).1∧Eqv (addF s tg nd).2 (addF s' tg nd).2:=by
 obtain⟨rs,rfl,h⟩:=h;unfold addF;simp only;rw[eqv_len h];split
 ·exact⟨rfl,rs,rfl,h⟩
 ·split
  ·refine⟨rfl,rs++[⟨tg,onceB nd [],[]⟩],rfl,?_⟩
   rw[List.map_append,List.map_append,h]
  ·refine⟨rfl,rs++[⟨tg,onceB nd [],[]⟩],?_,?_⟩
   ·have h1:=explicit_of (rs++[⟨tg,onceB nd [],[]⟩]) tg s.rules.length s
    have h2:=explicit_of (s.rules++[⟨tg,onceB nd [],[]⟩]) tg s.rules.length s;rw[h1,h2]
   ·rw[explicit_rules,List.map_append,List.map_append,h]
theorem rule_sim {s s' :St} (h:Eqv s s') {l l' :Mk.Ln} (h1:Mk.Tx l.left l'.left) (h2:Mk.Tx l.right l'.right) (num num' :Nat):Sim4 ((ruleF s l).1,num,(ruleF s l).2.1,(ruleF s l).2.2) ((ruleF s' l').1,num',(ruleF s' l').2.1,(ruleF s' l').2.2):=by
 have hn:s'.names=s.names:=by obtain⟨rs,rfl,-⟩:=h;rfl
 have hc:s'.n=s.n:=by obtain⟨rs,rfl,-⟩:=h;rfl
 have q1:=expE_like s.names h1;have q2:=expE_like s.names h2;unfold ruleF;rw[hn,hc]
 rcases q1 with q1|⟨a1,a2⟩
 ·rw[if_pos (by rw[q1];decide)]
  exact .inl q1
 ·rw[a1]
  by_cases e1:(expE s.names l.left).er≠0
  ·rw[if_pos e1,if_pos e1]
   exact .inr ⟨rfl,fun q=>absurd q e1⟩
  ·rw[if_neg e1,if_neg e1]
   have z1:(expE s.names l.left).er=0:=Decidable.not_not.1 e1
   rcases q2 with q2|⟨b1,b2⟩
   ·rw[if_pos (by rw[q2];decide)]
    exact .inl q2
   ·rw[b1]
    by_cases e2:(expE s.names l.right).er≠0
    ·rw[if_pos e2,if_pos e2]
     exact .inr ⟨rfl,fun q=>absurd q e2⟩
    ·rw[if_neg e2,if_neg e2]
     have z2:(expE s.names l.right).er=0:=Decidable.not_not.1 e2;rw[←(a2 z1).words,←(b2 z2).words];split
     ·exact .inr ⟨rfl,fun q=>by cases q⟩
     ·split
      ·exact .inl rfl
      ·have hx:Eqv {s with n:=s.n+1} {s' with n:=s.n+1}:=by
        obtain⟨rs,rfl,h⟩:=h;exact⟨rs,rfl,h⟩
       have:=add_sim hx (Mk.words (expE s.names l.left).txt) (Mk.words (expE s.names l.right).txt);rw[hn] at this;exact .inr ⟨rfl,fun _=>this⟩
def TLike (t t' :Pl.Bs):Prop:=t' =t∨((Mk.plainOf t).2.1=0∧t' =(Mk.plainOf t).1)
theorem TLike.lines {t t' :Pl.Bs} (h:TLike t t'):Mk.LikeS (Mk.allF (Mk.joined t)) (Mk.allF (Mk.joined t')):=by
 rcases h with rfl|⟨h,rfl⟩
 ·exact Mk.LikeS.refl _
 ·exact Mk.plain_like t h
def FLike (fs fs' :List Pl.File):Prop:=∀p,(Pl.look fs p=none∧Pl.look fs' p=none)∨∃g g',Pl.look fs p=some g∧Pl.look fs' p=some g' ∧TLike g.text g'.text∧g'.time=g.time
section
variable {rec rec' :St→Pl.Bs→Nat×Nat×St} {fs fs' :List Pl.File}
theorem file_sim (hr:∀s s' t t',Eqv s s' →TLike t t' →Sim3 (rec s t) (rec' s' t')) (hf:FLike fs fs') {s s' :St} (h:Eqv s s') (w:Pl.Bs) (num num' :Nat):Sim3 (fileF rec fs s w num) (fileF rec' fs' s' w num'):=by
 unfold fileF
 rcases hf w with⟨h1,h2⟩|⟨g,g',h1,h2,h3,-⟩
 ·rw[h1,h2]
  exact .inr ⟨rfl,fun q=>by cases q⟩
 ·rw[h1,h2]
  simp only;have ho:s'.opn=s.opn:=by obtain⟨rs,rfl,-⟩:=h;rfl
  have hi:s'.inc=s.inc:=by obtain⟨rs,rfl,-⟩:=h;rfl
  rw[ho,hi];split
  ·exact .inr ⟨rfl,fun q=>by cases q⟩
  ·split
   ·exact .inl rfl
   ·have hx:Eqv {s with inc:=s.inc+1,opn:=s.opn+1} {s' with inc:=s.inc+1,opn:=s.opn+1}:=by
     obtain⟨rs,rfl,h⟩:=h;exact⟨rs,rfl,h⟩
    rcases hr _ _ _ _ hx h3 with q|⟨q1,q2⟩
    ·exact .inl q
    ·refine .inr ⟨q1,fun z=> ?_⟩
     obtain⟨rs,e1,e2⟩:=q2 z;refine⟨rs,?_,e2⟩;simp only;rw[e1]
theorem files_sim (hr:∀s s' t t',Eqv s s' →TLike t t' →Sim3 (rec s t) (rec' s' t')) (hf:FLike fs fs') (num num' :Nat):∀(ws:List Pl.Bs) (s s' :St),Eqv s s' →Sim3 (filesF rec fs num ws s) (filesF rec' fs' num' ws s')
 |[],s,s',h=> .inr ⟨rfl,fun _=>h⟩
 |w::ws,s,s',h=>by
  unfold filesF
  rcases file_sim hr hf h w num num' with q|⟨q1,q2⟩
  ·rw[if_pos (by rw[q];decide)]
   exact .inl q
  ·rw[q1]
   by_cases e:(fileF rec fs s w num).1≠0
   ·rw[if_pos e,if_pos e]
    exact .inr ⟨q1,q2⟩
   ·rw[if_neg e,if_neg e]
    exact files_sim hr hf num num' ws _ _ (q2 (Decidable.not_not.1 e))
theorem include_sim (hr:∀s s' t t',Eqv s s' →TLike t t' →Sim3 (rec s t) (rec' s' t')) (hf:FLike fs fs') {s s' :St} (h:Eqv s s') {l l' :Mk.Ln} (hl:Mk.Tx l.right l'.right):Sim3 (includeF rec fs s l) (includeF rec' fs' s' l'):=by
 have hn:s'.names=s.names:=by obtain⟨rs,rfl,-⟩:=h;rfl
 unfold includeF;rw[hn]
 rcases expE_like s.names hl with q|⟨q1,q2⟩
 ·rw[if_pos (by rw[q];decide)]
  exact .inl q
 ·rw[q1]
  by_cases e:(expE s.names l.right).er≠0
  ·rw[if_pos e,if_pos e]
   exact .inr ⟨rfl,fun q=>absurd q e⟩
  ·rw[if_neg e,if_neg e,←(q2 (Decidable.not_not.1 e)).words]
   exact files_sim hr hf _ _ _ _ _ h
theorem line_sim (hr:∀s s' t t',Eqv s s' →TLike t t' →Sim3 (rec s t) (rec' s' t')) (hf:FLike fs fs') {s s' :St} (h:Eqv s s') (op:Option Nat) {x y:Mk.Ln×Nat} (hx:Mk.LikeX x y):Sim4 (lineF rec fs s op x.1) (lineF rec' fs' s' op y.1):=by
 unfold lineF;rw[hx.kind];split
 ·rename_i k
  rcases command_sim h op (hx.cmd k) with q|⟨q1,q2⟩
  ·exact .inl q
  ·exact .inr ⟨q1,fun z=>⟨rfl,q2 z⟩⟩
 ·rename_i k1
  split
  ·rename_i k
   exact rule_sim h (hx.rule k).1 (hx.rule k).2 _ _
  ·rename_i k5
   split
   ·rename_i k
    rcases include_sim hr hf h (hx.inc k) with q|⟨q1,q2⟩
    ·exact .inl q
    ·exact .inr ⟨q1,fun z=>⟨rfl,q2 z⟩⟩
   ·rename_i k2
    obtain⟨e1,e2⟩:=hx.asg k1 k2 k5
    rcases assign_sim h hx.kind e1 e2 with q|⟨q1,q2⟩
    ·exact .inl q
    ·exact .inr ⟨q1,fun z=>⟨rfl,q2 z⟩⟩
theorem lines_sim (hr:∀s s' t t',Eqv s s' →TLike t t' →Sim3 (rec s t) (rec' s' t')) (hf:FLike fs fs') {L M:List (Mk.Ln×Nat)} (hL:Mk.LikeS L M):∀(s s' :St) (op:Option Nat),Eqv s s' →Sim3 (linesF rec fs L s op) (linesF rec' fs' M s' op):=by
 induction hL with
 |nil=>exact fun s s' op h=> .inr ⟨rfl,fun _=>h⟩
 | @cons x y L M hx _ ih=>
  intro s s' op h;rw[linesF,linesF,hx.ok];split
  ·rename_i e
   exact .inr ⟨rfl,fun q=>absurd q e⟩
  ·rcases line_sim hr hf h op hx with q|⟨q1,q2⟩
   ·rw[if_pos (by rw[q];decide)]
    exact .inl q
   ·rw[q1]
    by_cases e:(lineF rec fs s op x.1).1≠0
    ·rw[if_pos e,if_pos e]
     exact .inr ⟨rfl,fun q=>absurd q e⟩
    ·rw[if_neg e,if_neg e]
     obtain⟨z1,z2⟩:=q2 (Decidable.not_not.1 e);rw[z1];exact ih _ _ _ z2
end
theorem read_sim {fs fs' :List Pl.File} (hf:FLike fs fs'):∀(d:Nat) (s s' :St) (t t' :Pl.Bs),Eqv s s' →TLike t t' →Sim3 (readF fs d s t) (readF fs' d s' t')
 |0,s,s',t,t',h,ht=>lines_sim (rec:=fun s _=>(3,0,s)) (rec' :=fun s _=>(3,0,s)) (fun _ _ _ _ _ _=> .inr ⟨rfl,fun q=>by cases q⟩) hf ht.lines s s' none h
 |d+1,s,s',t,t',h,ht=>lines_sim (rec:=readF fs d) (rec' :=readF fs' d) (fun _ _ _ _ h ht=>read_sim hf d _ _ _ _ h ht) hf ht.lines s s' none h
theorem book_sim {fs fs' :List Pl.File} (hf:FLike fs fs') (path:Pl.Bs):Sim3 (bookF fs path) (bookF fs' path):=by
 unfold bookF
 rcases hf path with⟨h1,h2⟩|⟨g,g',h1,h2,h3,-⟩
 ·rw[h1,h2]
  exact .inr ⟨rfl,fun q=>by cases q⟩
 ·rw[h1,h2]
  exact read_sim hf 3 st0 st0 _ _ (Eqv.refl _) h3
end Go.Proofs.YtjelacjggijmfaaGreatDoor
namespace Go.Proofs.YtjelacjggijmfaaGreatDoor
open Go.RowKit
def eN (x:Nod):Nod:={x with cmds:=x.cmds.map eC}
section
variable {s s' :St} {fs fs' :List Pl.File}
theorem rl_same (h:Eqv s s') (i:Nat):eR (rlOf s i)=eR (rlOf s' i):=by
 obtain⟨rs,rfl,h⟩:=h;unfold rlOf;simp only;rw[List.getD_eq_getElem?_getD,List.getD_eq_getElem?_getD]
 rcases eqv_some h i with⟨h1,h2⟩|⟨r,r',h1,h2,h3⟩
 ·rw[h1,h2]
 ·rw[h1,h2];exact h3
theorem cmds_same (h:Eqv s s'):∀xs:List Nat,(cmdsL s xs).map eC=(cmdsL s' xs).map eC
 |[]=>rfl
 |i::r=>by
  obtain⟨-,-,e3,e4⟩:=eR_eq (rl_same h i);rw[cmdsL,cmdsL,e3];split
  ·exact e4
  ·exact cmds_same h r
theorem needs_same (h:Eqv s s') (xs:List Nat):needsL s' xs=needsL s xs:=by
 unfold needsL;have:(fun i=>(rlOf s' i).nd)=fun i=>(rlOf s i).nd:=funext fun i=>(eR_eq (rl_same h i)).2.1
 rw[this,(eR_eq (rl_same h (xs.headD 0))).2.1]
theorem of_same (h:Eqv s s'):s'.of=s.of∧s'.ph=s.ph∧s'.pats=s.pats∧s'.first=s.first∧s'.names=s.names:=by
 obtain⟨rs,rfl,-⟩:=h;exact⟨rfl,rfl,rfl,rfl,rfl⟩
theorem tg_same (h:Eqv s s'):tgB s' =tgB s:=by
 unfold tgB;rw[(of_same h).1]
theorem look_same (hf:FLike fs fs') (p:Pl.Bs):(Pl.look fs' p).isSome=(Pl.look fs p).isSome:=by
 rcases hf p with⟨h1,h2⟩|⟨g,g',h1,h2,-⟩
 ·rw[h1,h2]
 ·rw[h1,h2];rfl
theorem there_same (hf:FLike fs fs') (tg:Pl.Bs→Bool) (stem:Pl.Bs):thereB fs' tg stem=thereB fs tg stem:=by
 funext n
 unfold thereB;rw[look_same hf]
theorem us_same (h:Eqv s s') (hf:FLike fs fs'):usL s' fs' s'.pats=usL s fs s.pats:=by
 unfold usL
 have h1:useB s' fs' =useB s fs:=by
  funext i
  unfold useB othS;obtain⟨-,e2,e3,-⟩:=eR_eq (rl_same h i);rw[e2,e3,there_same hf,tg_same h]
 have h2:(fun i=>(i,byS s' i))=fun i=>(i,byS s i):=by
  funext i
  unfold byS;rw[(eR_eq (rl_same h i)).2.1]
 rw[h1,h2,(of_same h).2.2.1]
theorem fit_same (h:Eqv s s') (hf:FLike fs fs') (name:Pl.Bs):∀us:List (Nat×List Pl.Bs),fitL s' fs' name us=fitL s fs name us
 |[]=>rfl
 |x::r=>by
  rw[fitL,fitL,(eR_eq (rl_same h x.1)).1,there_same hf,tg_same h,fit_same h hf name r]
theorem node_same (h:Eqv s s') (hf:FLike fs fs') (us:List (Nat×List Pl.Bs)) (name:Pl.Bs):(nodeF s' fs' us name).2=(nodeF s fs us name).2∧eN (nodeF s fs us name).1=eN (nodeF s' fs' us name).1:=by
 obtain⟨o1,o2,-,-,-⟩:=of_same h;have hc:=cmds_same h (s.of name)
 have hl:(cmdsL s' (s.of name)).length=(cmdsL s (s.of name)).length:=by
  have:=congrArg List.length hc
  simpa using this.symm
 have hcan:canB s' fs' name=canB s fs name:=by
  unfold canB;rw[tg_same h,o2,look_same hf]
 have h0:eN (nod0 s name)=eN (nod0 s' name):=by
  unfold nod0 eN;rw[o1,o2,needs_same h];simp only[hc]
 unfold nodeF;rw[o1,o2,hl,fit_same h hf,hcan];split
 ·cases fitL s fs name us with
  |none=>exact⟨rfl,h0⟩
  |some x=>
   refine⟨rfl,?_⟩;obtain⟨-,e2,-,e4⟩:=eR_eq (rl_same h x.1);show eN (nodP s name x.1 x.2)=eN (nodP s' name x.1 x.2);unfold nodP eN;rw[o1,o2,needs_same h,e2];simp only[e4]
 ·exact⟨rfl,h0⟩
end
def eO (x:Nod×Nat):Nod×Nat:=(eN x.1,x.2)
structure WEq (t t' :Wst):Prop where
 sts:t'.sts=t.sts
 opn:t.opn.map eO=t'.opn.map eO
 over:t.over.map eN=t'.over.map eN
theorem WEq.len {t t' :Wst} (h:WEq t t'):t'.over.length=t.over.length:=by
 have:=congrArg List.length h.over
 simpa using this.symm
theorem WEq.last {t t' :Wst} (h:WEq t t'):(t.opn.getLast?=none∧t'.opn.getLast?=none)∨∃x x',t.opn.getLast?=some x∧t'.opn.getLast?=some x' ∧eO x=eO x' :=by
 have:(t.opn.getLast?).map eO=(t'.opn.getLast?).map eO:=by rw[←List.getLast?_map,←List.getLast?_map,h.opn]
 cases h1:t.opn.getLast? with
 |none=>
  rw[h1] at this;cases h2:t'.opn.getLast? with
  |none=>exact .inl ⟨rfl,rfl⟩
  |some x' =>rw[h2] at this;cases this
 |some x=>
  rw[h1] at this;cases h2:t'.opn.getLast? with
  |none=>rw[h2] at this;cases this
  |some x' =>rw[h2] at this;exact .inr ⟨x,x',rfl,rfl,Option.some.inj this⟩
theorem eN_eq {x x' :Nod} (h:eN x=eN x'):x'.name=x.name∧x'.ph=x.ph∧x'.needs=x.needs∧x'.stem=x.stem∧x.cmds.map eC=x'.cmds.map eC:=by
 have h1:(eN x).name=(eN x').name:=by rw[h]
 have h2:(eN x).needs=(eN x').needs:=by rw[h]
 have h3:(eN x).stem=(eN x').stem:=by rw[h]
 have h4:(eN x).cmds=(eN x').cmds:=by rw[h]
 have h5:(eN x).ph=(eN x').ph:=by rw[h]
 exact⟨h1.symm,h5.symm,h2.symm,h3.symm,h4⟩
def PEq (p p' :Nat×Wst):Prop:=p'.1=p.1∧WEq p.2 p'.2
section
variable {s s' :St} {fs fs' :List Pl.File} {us:List (Nat×List Pl.Bs)}
theorem enter_same (h:Eqv s s') (hf:FLike fs fs') {t t' :Wst} (ht:WEq t t') (name:Pl.Bs):PEq (enterF s fs us t name) (enterF s' fs' us t' name):=by
 obtain⟨n1,n2⟩:=node_same h hf us name;unfold enterF;rw[ht.sts,n1];split
 ·exact⟨rfl,ht⟩
 ·split
  ·exact⟨rfl,ht⟩
  ·split
   ·exact⟨rfl,ht⟩
   ·refine⟨rfl,?_,?_,ht.over⟩
    ·rfl
    ·show(t.opn++[_]).map eO=(t'.opn++[_]).map eO
     rw[List.map_append,List.map_append,ht.opn]
     congr 1
     show [(eN _,0)]=[(eN _,0)];rw[n2]
theorem leave_same {t t' :Wst} (ht:WEq t t'):WEq (leaveF t) (leaveF t'):=by
 unfold leaveF
 rcases ht.last with⟨h1,h2⟩|⟨x,x',h1,h2,h3⟩
 ·rw[h1,h2];exact ht
 ·rw[h1,h2]
  have h4:eN x.1=eN x'.1:=congrArg Prod.fst h3;obtain⟨e1,-⟩:=eN_eq h4;refine⟨?_,?_,?_⟩
  ·simp only
   rw[ht.sts,e1]
  ·show t.opn.dropLast.map eO=t'.opn.dropLast.map eO
   rw[List.map_dropLast,List.map_dropLast,ht.opn]
  ·show(if t.over.length≤100 then t.over++[x.1] else t.over).map eN=(if t'.over.length≤100 then t'.over++[x'.1] else t'.over).map eN
   rw[ht.len];split
   ·rw[List.map_append,List.map_append,ht.over]
    congr 1
    show [eN x.1]=[eN x'.1];rw[h4]
   ·exact ht.over
theorem goOn_same (h:Eqv s s') (hf:FLike fs fs') {t t' :Wst} (ht:WEq t t'):PEq (goOnF s fs us t) (goOnF s' fs' us t'):=by
 unfold goOnF
 rcases ht.last with⟨h1,h2⟩|⟨x,x',h1,h2,h3⟩
 ·rw[h1,h2];exact⟨rfl,ht⟩
 ·rw[h1,h2]
  have h4:eN x.1=eN x'.1:=congrArg Prod.fst h3;have h5:(eO x).2=(eO x').2:=by rw[h3]
  have h5:x.2=x'.2:=h5;obtain⟨-,-,e2,-⟩:=eN_eq h4;simp only;rw[e2,←h5];split
  ·exact⟨rfl,leave_same ht⟩
  ·have hw:WEq {t with opn:=t.opn.dropLast++[(x.1,x.2+1)]} {t' with opn:=t'.opn.dropLast++[(x'.1,x.2+1)]}:=by
    refine⟨ht.sts,?_,ht.over⟩;show(t.opn.dropLast++[(x.1,x.2+1)]).map eO=(t'.opn.dropLast++[(x'.1,x.2+1)]).map eO;rw[List.map_append,List.map_append,List.map_dropLast,List.map_dropLast,ht.opn]
    congr 1
    show [(eN x.1,x.2+1)]=[(eN x'.1,x.2+1)];rw[h4]
   exact enter_same h hf hw _
theorem from_same (h:Eqv s s') (hf:FLike fs fs'):∀(n:Nat) (p p' r:Nat×Wst),PEq p p' →fromF s fs us n p=some r→∃r',fromF s' fs' us n p' =some r' ∧PEq r r' :=by
 have hop:∀p p' :Nat×Wst,PEq p p' →((p'.1≠0∨p'.2.opn=[])↔(p.1≠0∨p.2.opn=[])):=fun p p' hp=>by
  rw[hp.1]
  have hl:p'.2.opn.length=p.2.opn.length:=by
   have:=congrArg List.length hp.2.opn
   simpa using this.symm
  rw[←List.length_eq_zero_iff,←List.length_eq_zero_iff,hl]
 intro n
 induction n with
 |zero=>
  intro p p' r hp hr;rw[fromF] at hr⊢
  by_cases e:p.1≠0∨p.2.opn=[]
  ·rw[if_pos e] at hr
   cases hr;rw[if_pos ((hop p p' hp).2 e)];exact⟨p',rfl,hp⟩
  ·rw[if_neg e] at hr;cases hr
 |succ n ih=>
  intro p p' r hp hr;rw[fromF] at hr⊢
  by_cases e:p.1≠0∨p.2.opn=[]
  ·rw[if_pos e] at hr
   cases hr;rw[if_pos ((hop p p' hp).2 e)];exact⟨p',rfl,hp⟩
  ·rw[if_neg e] at hr
   rw[if_neg (fun q=>e ((hop p p' hp).1 q))];exact ih _ _ r (goOn_same h hf hp.2) hr
end
def RSim {α:Type} (R R' :(Nat×Nat)⊕α):Prop:=match R with
 | .inl e=>∃ln,R' = .inl (e.1,ln)
 | .inr x=>R' = .inr x
theorem give_like {N:Pl.Bs→Cp.Nv} {sg:UInt8→Option Pl.Bs}:∀(cs cs' :List (Pl.Bs×Nat)) (k:Nat) (acc:List Pl.Bs) (R:(Nat×Nat)⊕(Nat×List Pl.Bs)),cs.map eC=cs'.map eC→GiveR N sg cs k acc R→∃R',GiveR N sg cs' k acc R' ∧RSim R R'
 |[],[],k,acc,R,_,h=>by
  have h' :R= .inr (k,acc):=h;subst h';exact⟨_,rfl,rfl⟩
 |[],_::_,_,_,_,e,_=>by cases e
 |_::_,[],_,_,_,e,_=>by cases e
 |c::r,c' ::r',k,acc,R,e,⟨x,h1,h2⟩=>by
  rw[List.map_cons,List.map_cons] at e;have e1:(eC c).1=(eC c').1:=by rw[(List.cons.inj e).1]
  have e1:c.1=c'.1:=e1;have e2:=(List.cons.inj e).2;split at h2
  ·rename_i z
   refine⟨.inl (x.er,c'.2),⟨x,e1▸h1,?_⟩,?_⟩
   ·rw[if_pos z]
   ·rw[h2];exact⟨c'.2,rfl⟩
  ·rename_i z
   split at h2
   ·rename_i z2
    obtain⟨R',g1,g2⟩:=give_like r r' k acc R e2 h2;exact⟨R',⟨x,e1▸h1,by rw[if_neg z,if_pos z2];exact g1⟩,g2⟩
   ·rename_i z2
    obtain⟨R',g1,g2⟩:=give_like r r' _ _ R e2 h2;exact⟨R',⟨x,e1▸h1,by rw[if_neg z,if_neg z2];exact g1⟩,g2⟩
theorem sg_like {x x' :Nod} (h:eN x=eN x'):x'.sg=x.sg:=by
 obtain⟨e1,-,e2,e3,-⟩:=eN_eq h;unfold Nod.sg;rw[e1,e2,e3]
theorem steps_like {N:Pl.Bs→Cp.Nv}:∀(xs xs' :List Nod) (k:Nat) (acc:List Stp) (R:(Nat×Nat)⊕(Nat×List Stp)),xs.map eN=xs'.map eN→StepsR N xs k acc R→∃R',StepsR N xs' k acc R' ∧RSim R R'
 |[],[],k,acc,R,_,h=>by
  have h' :R= .inr (k,acc):=h;subst h';exact⟨_,rfl,rfl⟩
 |[],_::_,_,_,_,e,_=>by cases e
 |_::_,[],_,_,_,e,_=>by cases e
 |x::r,x' ::r',k,acc,R,e,⟨G,h1,h2⟩=>by
  rw[List.map_cons,List.map_cons] at e;have e1:=(List.cons.inj e).1;have e2:=(List.cons.inj e).2;obtain⟨n1,n2,n3,n4,n5⟩:=eN_eq e1;obtain⟨G',g1,g2⟩:=give_like _ _ k [] G n5 h1;rw[←sg_like e1] at g1;cases G with
  |inl er=>
   obtain⟨ln,rfl⟩:=g2;have h2' :R= .inl er:=h2;subst h2';exact⟨.inl (er.1,ln),⟨_,g1,rfl⟩,ln,rfl⟩
  |inr y=>
   have g2' :G' = .inr y:=g2;subst g2';obtain⟨R',q1,q2⟩:=steps_like r r' y.1 (acc++[⟨x.name,x.ph,x.needs,x.stem,y.2⟩]) R e2 h2;refine⟨R',⟨_,g1,?_⟩,q2⟩;show StepsR N r' y.1 (acc++[⟨x'.name,x'.ph,x'.needs,x'.stem,y.2⟩]) R';rw[n1,n2,n3,n4];exact q1
theorem text_same {fs fs' :List Pl.File} (hf:FLike fs fs') {path goal:Pl.Bs} {r:Pl.Bs×Nat×Nat} (h:TextR fs path goal r):r.2.1=5∨∃r',TextR fs' path goal r' ∧r'.1=r.1∧r'.2.1=r.2.1:=by
 rcases book_sim hf path with hb|⟨hb1,hb2⟩
 ·rcases h with⟨-,rfl⟩|⟨h1,-⟩
  ·exact .inl hb
  ·rw[hb] at h1;cases h1
 ·rcases h with⟨h1,rfl⟩|⟨h1,h2⟩
  ·exact .inr ⟨([],(bookF fs' path).1,(bookF fs' path).2.1),.inl ⟨by rw[hb1];exact h1,rfl⟩,rfl,hb1⟩
  ·have hq:=hb2 h1
   generalize (bookF fs path).2.2=s at*;have hs' :∃s',(bookF fs' path).2.2=s' :=⟨_,rfl⟩;obtain⟨s',es'⟩:=hs';rw[es'] at hq;have hgl:goalF s' goal=goalF s goal:=by unfold goalF;rw[(of_same hq).2.2.2.1]
   have key:r.2.1=5∨∃r',OrderT s' fs' (goalF s' goal) r' ∧r'.1=r.1∧r'.2.1=r.2.1:=by
    rw[hgl]
    rcases h2 with⟨a,rfl⟩|⟨-,-,rfl⟩|⟨a,b,q,c,d⟩
    ·exact .inr ⟨_,.inl ⟨a,rfl⟩,rfl,rfl⟩
    ·exact .inl rfl
    ·obtain⟨n,hn⟩:=c
     have hw0:WEq wst0 wst0:=⟨rfl,rfl,rfl⟩;obtain⟨q',c',hp1,hp2⟩:=from_same hq hf n _ _ q (enter_same (us:=usL s fs s.pats) hq hf hw0 (goalF s goal)) hn;rw[←us_same hq hf] at c'
     rcases d with⟨d1,rfl⟩|⟨d1,d2,rfl⟩|⟨d1,d2,R,d3,d4⟩
     ·exact .inr ⟨([],q'.1,0),.inr (.inr ⟨a,b,q',⟨n,c'⟩,.inl ⟨by rw[hp1];exact d1,rfl⟩⟩),rfl,hp1⟩
     ·exact .inl rfl
     ·obtain⟨R',e1,e2⟩:=steps_like _ _ 0 [] R hp2.over d3
      rw[←(of_same hq).2.2.2.2] at e1;cases R with
      |inl er=>
       obtain⟨ln,rfl⟩:=e2;have hr:r=([],er.1,er.2):=d4;exact .inr ⟨([],er.1,ln),.inr (.inr ⟨a,b,q',⟨n,c'⟩,.inr (.inr ⟨by rw[hp1];exact d1,by rw[hp2.len];exact d2,_,e1,rfl⟩)⟩),by rw[hr],by rw[hr]⟩
      |inr y=>
       have e2' :R' = .inr y:=e2;subst e2';exact .inr ⟨r,.inr (.inr ⟨a,b,q',⟨n,c'⟩,.inr (.inr ⟨by rw[hp1];exact d1,by rw[hp2.len];exact d2,_,e1,d4⟩)⟩),rfl,rfl⟩
   rcases key with k|⟨r',k1,k2⟩
   ·exact .inl k
   ·exact .inr ⟨r',.inr ⟨by rw[hb1];exact h1,by rw[es'];exact k1⟩,k2⟩
end Go.Proofs.YtjelacjggijmfaaGreatDoor
namespace Go.Pl
open Go Go.RowKit
def Fq (p t t' :Bs) (f f' :File):Prop:=f'.path=f.path∧f'.time=f.time∧(f'.text=f.text∨(f.path=p∧f.text=t∧f'.text=t'))
theorem Fq.refl (p t t' :Bs) (f:File):Fq p t t' f f:=⟨rfl,rfl,.inl rfl⟩
inductive Fqs (p t t' :Bs):List File→List File→Prop
 |nil:Fqs p t t' [] []
 |cons {f f' :File} {a b:List File}:Fq p t t' f f' →Fqs p t t' a b→Fqs p t t' (f::a) (f' ::b)
section
variable {p t t' :Bs} {a b:List File}
theorem Fqs.refl:∀a:List File,Fqs p t t' a a
 |[]=> .nil
 |_::r=> .cons (Fq.refl ..) (Fqs.refl r)
theorem Fqs.append {c d:List File} (h:Fqs p t t' a b) (g:Fqs p t t' c d):Fqs p t t' (a++c) (b++d):=by
 induction h with
 |nil=>exact g
 |cons h1 _ ih=>exact .cons h1 ih
theorem Fqs.len (h:Fqs p t t' a b):b.length=a.length:=by
 induction h with
 |nil=>rfl
 |cons _ _ ih=>rw[List.length_cons,List.length_cons,ih]
theorem Fqs.look (h:Fqs p t t' a b) (q:Bs):(look a q=none∧Pl.look b q=none)∨∃g g',Pl.look a q=some g∧Pl.look b q=some g' ∧Fq p t t' g g' :=by
 induction h with
 |nil=>exact .inl ⟨rfl,rfl⟩
 | @cons f f' a b h1 _ ih=>
  unfold Pl.look at ih⊢
  by_cases e:f.path=q
  ·rw[List.find?_cons_of_pos (by simpa using e),List.find?_cons_of_pos (by rw[h1.1];simpa using e)]
   exact .inr ⟨f,f',rfl,rfl,h1⟩
  ·rw[List.find?_cons_of_neg (by simpa using e),List.find?_cons_of_neg (by rw[h1.1];simpa using e)]
   exact ih
theorem Fqs.add (h:Fqs p t t' a b) {f f' :File} (g:Fq p t t' f f'):Fqs p t t' (addF a f) (addF b f'):=by
 unfold addF;rw[g.1]
 rcases h.look f.path with⟨h1,h2⟩|⟨x,x',h1,h2,-⟩
 ·rw[h1,h2]
  exact h.append (.cons g .nil)
 ·rw[h1,h2]
  exact h
theorem Fqs.adds {c d:List File} (g:Fqs p t t' c d):∀{a b:List File},Fqs p t t' a b→Fqs p t t' (c.foldl addF a) (d.foldl addF b):=by
 induction g with
 |nil=>exact fun h=>h
 |cons h1 _ ih=>exact fun h=>ih (h.add h1)
theorem Fqs.put (h:Fqs p t t' a b) (f:File):Fqs p t t' (putF a f) (putF b f):=by
 induction h with
 |nil=>exact .cons (Fq.refl ..) .nil
 | @cons g g' a b h1 h2 ih=>
  unfold putF;rw[h1.1];split
  ·exact .cons (Fq.refl ..) h2
  ·exact .cons h1 ih
theorem Fqs.puts (k:Int):∀(ws:List File) {a b:List File},Fqs p t t' a b→Fqs p t t' (ws.foldl (fun fs f=>putF fs (stamp k f)) a) (ws.foldl (fun fs f=>putF fs (stamp k f)) b)
 |[],_,_,h=>h
 |w::r,_,_,h=>Fqs.puts k r (h.put (stamp k w))
theorem Fqs.ins (h:Fqs p t t' a b) {f f' :File} (g:Fq p t t' f f'):Fqs p t t' (insF f a) (insF f' b):=by
 induction h with
 |nil=>exact .cons g .nil
 |cons h1 h2 ih=>
  unfold insF;rw[g.1,h1.1];split
  ·exact .cons g (.cons h1 h2)
  ·exact .cons h1 ih
theorem Fqs.sorts {c d:List File} (g:Fqs p t t' c d):∀{a b:List File},Fqs p t t' a b→Fqs p t t' (c.foldl (fun acc f=>insF f acc) a) (d.foldl (fun acc f=>insF f acc) b):=by
 induction g with
 |nil=>exact fun h=>h
 |cons h1 _ ih=>exact fun h=>ih (h.ins h1)
theorem Fqs.sort (h:Fqs p t t' a b):Fqs p t t' (sortF a) (sortF b):=h.sorts .nil
theorem Fqs.newer (h:Fqs p t t' a b) (x y:Bs):newer b x y=Pl.newer a x y:=by
 unfold Pl.newer
 rcases h.look x with⟨h1,h2⟩|⟨g,g',h1,h2,h3⟩
 ·rw[h1,h2]
 ·rw[h1,h2]
  rcases h.look y with⟨k1,k2⟩|⟨f,f',k1,k2,k3⟩
  ·rw[k1,k2]
  ·rw[k1,k2]
   simp only[h3.2.1,k3.2.1]
theorem Fqs.at (h:Fqs p t t' a b):∀i (hi:i<a.length),Fq p t t' a[i] (b[i]'(by rw[h.len];exact hi)):=by
 induction h with
 |nil=>exact fun i hi=>by simp at hi
 |cons h1 _ ih=>
  intro i hi;cases i with
  |zero=>exact h1
  |succ i=>exact ih i (by simpa using hi)
end
structure Wq (p t t' :Bs) (X Y:Wd):Prop where
 files:Fqs p t t' X.files Y.files
 clock:Y.clock=X.clock
 cmds:Y.cmds=X.cmds
 exit:Y.exit=X.exit
section
variable {p t t' :Bs} {X Y:Wd}
theorem Wq.give (h:Wq p t t' X Y) (ef:List Eff) (c:Bs):Wq p t t' (giveW ef X c) (giveW ef Y c):=by
 unfold giveW;rw[h.clock,h.cmds,h.exit];cases ef.find? (fun e=>e.cmd==c) with
 |none=>exact⟨h.files,rfl,rfl,rfl⟩
 |some e=>exact⟨h.files.puts _ e.writes,rfl,rfl,rfl⟩
theorem Wq.act (h:Wq p t t' X Y) (ss:List Bs) (ef:List Eff) (i:Ins) (st:List Bool) (fl:Nat→Bool):(act ss ef i st fl Y).1=(Pl.act ss ef i st fl X).1∧(Pl.act ss ef i st fl Y).2.1=(Pl.act ss ef i st fl X).2.1∧(Pl.act ss ef i st fl Y).2.2.1=(Pl.act ss ef i st fl X).2.2.1∧Wq p t t' (Pl.act ss ef i st fl X).2.2.2 (Pl.act ss ef i st fl Y).2.2.2:=by
 have hl:∀q,(look Y.files q).isNone=(look X.files q).isNone:=fun q=>by
  rcases h.files.look q with⟨h1,h2⟩|⟨g,g',h1,h2,-⟩
  ·rw[h1,h2]
  ·rw[h1,h2];rfl
 unfold Pl.act;rw[hl,h.files.newer]
 repeat' split
 all_goals first
  |exact⟨rfl,rfl,rfl,h⟩
  |exact⟨rfl,rfl,rfl,h.give ef _⟩
theorem Wq.exec (c:Bs) (ss:List Bs) (ef:List Eff):∀(f q:Nat) (st:List Bool) (fl:Nat→Bool) (X Y:Wd),Wq p t t' X Y→Wq p t t' (exec c ss ef f q st fl X) (Pl.exec c ss ef f q st fl Y)
 |0,_,_,_,_,_,h=>h
 |f+1,q,st,fl,X,Y,h=>by
  rw[Pl.exec,Pl.exec,h.exit];split
  ·obtain⟨h1,h2,h3,h4⟩:=h.act ss ef (mkIns c q) st fl
   rw[h1,h2,h3];exact Wq.exec c ss ef f _ _ _ _ _ h4
  ·exact h
end
def fixF (p t:Bs) (f f' :File):File:=if f.path=p∧f.text=t then {f with text:=f'.text} else f
theorem Fq.fix {p t t' :Bs} {f f' :File} (h:Fq p t t' f f'):fixF p t f f' =f' :=by
 unfold fixF;obtain⟨h1,h2,h3⟩:=h;cases f;cases f';simp only at h1 h2 h3⊢;subst h1 h2;split
 ·rfl
 ·rename_i hn
  rcases h3 with rfl|⟨a,b,-⟩
  ·rfl
  ·exact absurd ⟨a,b⟩ hn
end Go.Pl
