/-
  The reader: a command comes to the rule that is open.
-/
import Derived.Test.YtjelacjggijmfaaGreatDoorTGC2
import Derived.Deep.QuietTactic
import Derived.Deep.RegionHeldLaw
set_option maxHeartbeats 4000000
namespace Go.Proofs.YtjelacjggijmfaaGreatDoor
open Go.RowKit Go.MapKept Go.ChangeMaps Go.Maps
theorem toldB_len (acc:Pl.Bs) (k:Nat):(Cp.toldB acc k).txt.length≤2000:=by
 unfold Cp.toldB;split
 ·simp
 ·simp only;omega
theorem expF_len {N:Cp.Bs→Cp.Nv} {sg:UInt8→Option Cp.Bs}:∀(f:Nat) (m:List Cp.Bs) (k:Nat) (a t:Cp.Bs) (r:Cp.Er),Cp.expF N sg f m k a t=some r→r.txt.length≤2000
 |0,_,_,_,_,_,h=>by cases h
 |f+1,m,k,a,t,r,h=>by
  rw[Cp.expF] at h;split at h
  ·cases h;exact toldB_len _ _
  ·split at h
   ·cases h;simp
   ·split at h
    ·exact expF_len f _ _ _ _ _ h
    ·split at h
     ·split at h
      ·cases h;simp
      ·split at h
       ·cases h;simp
       ·split at h
        ·split at h
         ·cases h;simp
         ·split at h
          ·cases h
          ·split at h
           ·exact expF_len f _ _ _ _ _ h
           ·cases h;simp
        ·exact expF_len f _ _ _ _ _ h
     ·split at h
      ·cases h;simp
      ·exact expF_len f _ _ _ _ _ h
theorem expE_len (L:NL) (t:Pl.Bs):(expE L t).txt.length≤2000:=by
 unfold expE;split
 ·next h=>
  obtain⟨f,hf⟩:=h.choose_spec;exact expF_len f _ _ _ _ _ hf
 ·simp
theorem wordsA_len:∀(l cur:Pl.Bs),(Mk.wordsA cur l).length≤l.length+(if cur.isEmpty then 0 else 1)∧∀x∈Mk.wordsA cur l,x.length≤cur.length+l.length
 |[],cur=>by
  unfold Mk.wordsA;cases h:cur.isEmpty<;>simp
 |c::r,cur=>by
  unfold Mk.wordsA;split
  ·have ih:=wordsA_len r []
   split
   ·simp only[List.isEmpty_nil,if_true,List.length_nil] at ih
    refine⟨by simp only[List.length_cons];omega,fun x hx=> ?_⟩;have:=ih.2 x hx;simp only[List.length_cons];omega
   ·simp only[List.isEmpty_nil,if_true,List.length_nil] at ih
    refine⟨by simp only[List.length_cons];omega,fun x hx=> ?_⟩
    rcases List.mem_cons.1 hx with e|e
    ·subst e;omega
    ·have:=ih.2 x e
     simp only[List.length_cons];omega
  ·have ih:=wordsA_len r (cur++[c])
   have he:(cur++[c]).isEmpty=false:=by simp
   rw[he] at ih;simp only[Bool.false_eq_true,if_false,List.length_append,List.length_cons,List.length_nil] at ih;refine⟨by simp only[List.length_cons];omega,fun x hx=> ?_⟩;have:=ih.2 x hx;simp only[List.length_cons];omega
theorem words_len (l:Pl.Bs):(Mk.words l).length≤l.length∧∀x∈Mk.words l,x.length≤l.length:=by
 have:=wordsA_len l [];unfold Mk.words
 simpa using this
theorem onceB_len:∀(l acc:List Pl.Bs),(onceB l acc).length≤l.length+acc.length∧∀x∈onceB l acc,x∈l∨x∈acc
 |[],acc=>⟨by unfold onceB;simp,fun x hx=> .inr hx⟩
 |y::r,acc=>by
  unfold onceB;split
  ·have ih:=onceB_len r acc
   exact⟨by simp only[List.length_cons];omega,fun x hx=>(ih.2 x hx).imp (List.mem_cons_of_mem _) id⟩
  ·have ih:=onceB_len r (acc++[y])
   simp only[List.length_append,List.length_cons,List.length_nil] at ih;refine⟨by simp only[List.length_cons];omega,fun x hx=> ?_⟩
   rcases ih.2 x hx with e|e
   ·exact .inl (List.mem_cons_of_mem _ e)
   ·rcases List.mem_append.1 e with e|e
    ·exact .inr e
    ·rw[List.mem_singleton] at e;subst e;exact .inl (List.mem_cons_self ..)
structure RlOk (r:Rl):Prop where
 ne:r.tg≠[]
 tl:r.tg.length≤2000
 nl:r.nd.length≤2000
 tw:∀x∈r.tg,x.length≤2000
 nw:∀x∈r.nd,x.length≤2000
 cw:∀y∈r.cs,y.1.length≤1073741824
structure Ok (s:St) (k:Nat):Prop where
 short:Short s.names
 nl:s.names.length≤k
 ol:∀name,(s.of name).length≤s.tl
 tl:s.tl≤2000*s.n
 n64:s.n≤64
 ph:s.ph.length≤2000*s.n
 pt:s.pats.length≤s.n
 rl:s.rules.length≤s.n
 cl:∀r∈s.rules,r.cs.length≤k
 rs:∀r∈s.rules,RlOk r
 inc:s.inc≤100
theorem Ok.up {s:St} {k j:Nat} (h:Ok s k) (hk:k≤j):Ok s j:=⟨h.short,Nat.le_trans h.nl hk,h.ol,h.tl,h.n64,h.ph,h.pt,h.rl,fun r hr=>Nat.le_trans (h.cl r hr) hk,h.rs,h.inc⟩
theorem Ok.assign {s:St} {k:Nat} (h:Ok s k) {l:Mk.Ln} (hl:l.right.length≤1073741824):Ok (assignF s l).2 (k+1):=by
 have h1:=expE_len s.names l.right;unfold assignF;split
 ·refine⟨nPut_short _ _ hl _ h.short,?_,h.ol,h.tl,h.n64,h.ph,h.pt,h.rl,fun r hr=>Nat.le_succ_of_le (h.cl r hr),h.rs,h.inc⟩
  have:=nPut_len l.left ⟨l.right,true⟩ s.names;have:=h.nl;simp only;omega
 ·refine⟨nPut_short _ _ (by simp only;omega) _ h.short,?_,h.ol,h.tl,h.n64,h.ph,h.pt,h.rl,fun r hr=>Nat.le_succ_of_le (h.cl r hr),h.rs,h.inc⟩
  have:=nPut_len l.left ⟨(expE s.names l.right).txt,false⟩ s.names;have:=h.nl;simp only;omega
theorem assignF_st (s:St) (l:Mk.Ln):(assignF s l).2.inc=s.inc∧(assignF s l).2.opn=s.opn∧(assignF s l).2.rules.length=s.rules.length:=by
 unfold assignF;split<;>exact⟨rfl,rfl,rfl⟩
theorem Ok.command {s:St} {k:Nat} (h:Ok s k) {op:Option Nat} {l:Mk.Ln} (hl:l.right.length≤1073741824):Ok (commandF s op l).2 (k+1):=by
 unfold commandF;split
 ·exact h.up (Nat.le_succ _)
 ·split
  ·exact h.up (Nat.le_succ _)
  ·rename_i i _ r hr
   split
   ·exact h.up (Nat.le_succ _)
   ·have hm:=List.mem_of_getElem? hr
    have hrl:=h.rs r hm;have hq:∀x∈s.rules.set i {r with cs:=r.cs++[(l.right,l.number)]},x∈s.rules∨x={r with cs:=r.cs++[(l.right,l.number)]}:=fun x hx=>List.mem_or_eq_of_mem_set hx
    refine⟨h.short,Nat.le_succ_of_le h.nl,h.ol,h.tl,h.n64,h.ph,h.pt,by simp only[List.length_set];exact h.rl,fun x hx=> ?_,fun x hx=> ?_,h.inc⟩
    ·rcases hq x hx with e|e
     ·exact Nat.le_succ_of_le (h.cl x e)
     ·subst e
      have:=h.cl r hm;simp only[List.length_append,List.length_cons,List.length_nil];omega
    ·rcases hq x hx with e|e
     ·exact h.rs x e
     ·subst e
      refine⟨hrl.ne,hrl.tl,hrl.nl,hrl.tw,hrl.nw,fun y hy=> ?_⟩
      rcases List.mem_append.1 hy with e|e
      ·exact hrl.cw y e
      ·rw[List.mem_singleton] at e;subst e;exact hl
theorem commandF_st (s:St) (op:Option Nat) (l:Mk.Ln):(commandF s op l).2.inc=s.inc∧(commandF s op l).2.opn=s.opn∧(commandF s op l).2.rules.length=s.rules.length:=by
 unfold commandF;split
 ·exact⟨rfl,rfl,rfl⟩
 ·split
  ·exact⟨rfl,rfl,rfl⟩
  ·split
   ·exact⟨rfl,rfl,rfl⟩
   ·exact⟨rfl,rfl,by simp⟩
theorem ofAdd_fold (i:Nat):∀(tg:List Pl.Bs) (s:St),(tg.foldl (ofAdd i) s).names=s.names∧(tg.foldl (ofAdd i) s).rules=s.rules∧(tg.foldl (ofAdd i) s).pats=s.pats∧(tg.foldl (ofAdd i) s).first=s.first∧(tg.foldl (ofAdd i) s).ph=s.ph∧(tg.foldl (ofAdd i) s).n=s.n∧(tg.foldl (ofAdd i) s).inc=s.inc∧(tg.foldl (ofAdd i) s).opn=s.opn∧(tg.foldl (ofAdd i) s).tl=s.tl+tg.length∧((∀n,(s.of n).length≤s.tl)→∀n,((tg.foldl (ofAdd i) s).of n).length≤s.tl+tg.length)
 |[],s=>⟨rfl,rfl,rfl,rfl,rfl,rfl,rfl,rfl,rfl,fun h=>h⟩
 |t::r,s=>by
  obtain⟨h1,h2,h3,h4,h5,h6,h7,h8,h9,h10⟩:=ofAdd_fold i r (ofAdd i s t);rw[List.foldl_cons];refine⟨h1,h2,h3,h4,h5,h6,h7,h8,?_,fun h n=> ?_⟩
  ·rw[h9];show s.tl+1+r.length=_;simp only[List.length_cons];omega
  ·have:=h10 (fun m=>by
    show(ofPut s.of t (s.of t++[i]) m).length≤s.tl+1;unfold ofPut;have h1:=h t;have h2:=h m;split
    ·simp only[List.length_append,List.length_cons,List.length_nil];omega
    ·omega) n
   have e:(ofAdd i s t).tl=s.tl+1:=rfl;rw[e] at this;simp only[List.length_cons];omega
theorem Ok.add {s:St} {k:Nat} (h:Ok s k) (hn:s.n<64) {tg nd:List Pl.Bs} (h1:tg≠[]) (h2:tg.length≤2000) (h3:nd.length≤2000) (h4:∀x∈tg,x.length≤2000) (h5:∀x∈nd,x.length≤2000):Ok (addF {s with n:=s.n+1} tg nd).2 k:=by
 have q1:=h.tl;have q2:=h.ph;have q3:=h.pt;have q4:=h.rl;have ho:=onceB_len nd [];have hr:RlOk ⟨tg,onceB nd [],[]⟩:=⟨h1,h2,by have:=ho.1;simp only[List.length_nil] at this;simp only;omega,h4,fun x hx=>(ho.2 x hx).elim (h5 x) (fun e=>(by cases e)),fun y hy=>(by cases hy)⟩
 have hc:∀r∈s.rules++[⟨tg,onceB nd [],[]⟩],r.cs.length≤k:=fun r hr=>by
  rcases List.mem_append.1 hr with e|e
  ·exact h.cl r e
  ·rw[List.mem_singleton] at e;subst e;simp
 have hs:∀r∈s.rules++[⟨tg,onceB nd [],[]⟩],RlOk r:=fun r hr' =>by
  rcases List.mem_append.1 hr' with e|e
  ·exact h.rs r e
  ·rw[List.mem_singleton] at e;subst e;exact hr
 unfold addF;split
 ·refine⟨h.short,h.nl,h.ol,by simp only;omega,by simp only;omega,?_,by simp only;omega,by simp only;omega,h.cl,h.rs,h.inc⟩
  have:=phFold_len nd s.ph;simp only;omega
 ·split
  ·exact⟨h.short,h.nl,h.ol,by simp only;omega,by simp only;omega,by simp only;omega,by simp only[List.length_append,List.length_cons,List.length_nil];omega,by simp only[List.length_append,List.length_cons,List.length_nil];omega,hc,hs,h.inc⟩
  ·unfold explicitF
   simp only
   have key:∀f:Pl.Bs,Ok (tg.foldl (ofAdd s.rules.length) {s with n:=s.n+1,rules:=s.rules++[⟨tg,onceB nd [],[]⟩],first:=f}) k:=fun f=>by
    obtain⟨a1,a2,a3,a4,a5,a6,a7,a8,a9,a10⟩:=ofAdd_fold s.rules.length tg {s with n:=s.n+1,rules:=s.rules++[⟨tg,onceB nd [],[]⟩],first:=f};have b10:=a10 h.ol;simp only at a1 a2 a3 a4 a5 a6 a7 a8 a9 b10
    exact⟨by rw[a1];exact h.short,by rw[a1];exact h.nl,fun n=>by rw[a9];exact b10 n,by rw[a9,a6];omega,by rw[a6];omega,by rw[a5,a6];omega,by rw[a3,a6];omega,by rw[a2,a6,List.length_append,List.length_cons,List.length_nil];omega,by rw[a2];exact hc,by rw[a2];exact hs,by rw[a7];exact h.inc⟩
   split
   ·exact key _
   ·exact key s.first
theorem addF_st (s:St) (tg nd:List Pl.Bs):(addF s tg nd).2.inc=s.inc∧(addF s tg nd).2.opn=s.opn∧(addF s tg nd).2.names=s.names∧s.rules.length≤(addF s tg nd).2.rules.length∧∀i,(addF s tg nd).1=some i→i<(addF s tg nd).2.rules.length:=by
 unfold addF;split
 ·exact⟨rfl,rfl,rfl,Nat.le_refl _,fun i e=>by cases e⟩
 ·split
  ·exact⟨rfl,rfl,rfl,by simp,fun i e=>by cases e;simp⟩
  ·unfold explicitF
   simp only;split
   ·obtain⟨a1,a2,a3,a4,a5,a6,a7,a8,a9,a10⟩:=ofAdd_fold s.rules.length tg {s with rules:=s.rules++[⟨tg,onceB nd [],[]⟩],first:=tg.headD []}
    exact⟨a7,a8,a1,by rw[a2];simp,fun i e=>by cases e;rw[a2];simp⟩
   ·obtain⟨a1,a2,a3,a4,a5,a6,a7,a8,a9,a10⟩:=ofAdd_fold s.rules.length tg {s with rules:=s.rules++[⟨tg,onceB nd [],[]⟩]}
    exact⟨a7,a8,a1,by rw[a2];simp,fun i e=>by cases e;rw[a2];simp⟩
theorem Ok.rule {s:St} {k:Nat} (h:Ok s k) (l:Mk.Ln):Ok (ruleF s l).2.2 k:=by
 unfold ruleF;split
 ·exact h
 ·split
  ·exact h
  ·split
   ·exact h
   ·next hs=>
    split
    ·exact h
    ·next hn=>
     have a1:=words_len (expE s.names l.left).txt;have a2:=words_len (expE s.names l.right).txt;have b1:=expE_len s.names l.left;have b2:=expE_len s.names l.right
     have hne:Mk.words (expE s.names l.left).txt≠[]:=fun e=>by
      apply hs;unfold sidesB;rw[e];simp
     exact h.add (by have:=h.n64;omega) hne (by omega) (by omega) (fun x hx=>by have:=a1.2 x hx;omega) (fun x hx=>by have:=a2.2 x hx;omega)
theorem ruleF_st (s:St) (l:Mk.Ln):(ruleF s l).2.2.inc=s.inc∧(ruleF s l).2.2.opn=s.opn∧s.rules.length≤(ruleF s l).2.2.rules.length∧∀i,(ruleF s l).2.1=some i→i<(ruleF s l).2.2.rules.length:=by
 unfold ruleF;split
 ·exact⟨rfl,rfl,Nat.le_refl _,fun i e=>by cases e⟩
 ·split
  ·exact⟨rfl,rfl,Nat.le_refl _,fun i e=>by cases e⟩
  ·split
   ·exact⟨rfl,rfl,Nat.le_refl _,fun i e=>by cases e⟩
   ·split
    ·exact⟨rfl,rfl,Nat.le_refl _,fun i e=>by cases e⟩
    ·obtain⟨a1,a2,a3,a4,a5⟩:=addF_st {s with n:=s.n+1} (Mk.words (expE s.names l.left).txt) (Mk.words (expE s.names l.right).txt)
     exact⟨a1,a2,a4,a5⟩
theorem cost_ge:∀l:List (Mk.Ln×Nat),12*l.length≤Mk.cost l
 |[]=>Nat.le_refl _
 |x::r=>by
  have ih:=cost_ge r;unfold Mk.cost at*;rw[List.map_cons,List.sum_cons,List.length_cons];omega
theorem lines_len (t:Pl.Bs):(Mk.allF (Mk.joined t)).length≤t.length+1:=by
 have h1:=cost_ge (Mk.allF (Mk.joined t));have h2:=Mk.cost_all t;omega
structure Grown (M:Nat) (s:St) (k:Nat) (s' :St) (add:Nat):Prop where
 ok:∃k',Ok s' k' ∧k' +(100-s'.inc)*M≤k+(100-s.inc)*M+add
 opn:s'.opn=s.opn
 rl:s.rules.length≤s'.rules.length
def RecOk (M:Nat) (rec:St→Pl.Bs→Nat×Nat×St):Prop:=∀(s:St) (k:Nat) (text:Pl.Bs),Ok s k→text.length+1≤M→text.length≤1073741824→Grown M s k (rec s text).2.2 M
theorem Grown.refl {M:Nat} {s:St} {k:Nat} (h:Ok s k) (add:Nat):Grown M s k s add:=⟨⟨k,h,by omega⟩,rfl,Nat.le_refl _⟩
section
variable {M:Nat} {rec:St→Pl.Bs→Nat×Nat×St} {fs:List Pl.File}
theorem fileF_ok (hr:RecOk M rec) (hf:∀p g,Pl.look fs p=some g→g.text.length+1≤M∧g.text.length≤1073741824) {s:St} {k:Nat} (h:Ok s k) (w:Pl.Bs) (num:Nat):Grown M s k (fileF rec fs s w num).2.2 0:=by
 unfold fileF;split
 ·exact Grown.refl h 0
 ·next g hg=>
  split
  ·exact Grown.refl h 0
  ·split
   ·exact Grown.refl h 0
   ·next h1 h2=>
    have hi:=h.inc;have hk:Ok {s with inc:=s.inc+1,opn:=s.opn+1} k:=⟨h.short,h.nl,h.ol,h.tl,h.n64,h.ph,h.pt,h.rl,h.cl,h.rs,by simp only;omega⟩;obtain⟨⟨k',o1,o2⟩,o3,o4⟩:=hr _ k g.text hk (hf w g hg).1 (hf w g hg).2;refine⟨⟨k',⟨o1.short,o1.nl,o1.ol,o1.tl,o1.n64,o1.ph,o1.pt,o1.rl,o1.cl,o1.rs,o1.inc⟩,?_⟩,?_,o4⟩
    ·simp only at o2⊢
     have e:(100-s.inc)*M=(100-(s.inc+1))*M+M:=by
      obtain⟨b,hb⟩:∃b,100-s.inc=b+1:=⟨99-s.inc,by omega⟩;have hb2:100-(s.inc+1)=b:=by omega
      rw[hb,hb2,Nat.succ_mul]
     omega
    ·simp only at o3⊢
     omega
theorem filesF_ok (hr:RecOk M rec) (hf:∀p g,Pl.look fs p=some g→g.text.length+1≤M∧g.text.length≤1073741824) (num:Nat):∀(ws:List Pl.Bs) (s:St) (k:Nat),Ok s k→Grown M s k (filesF rec fs num ws s).2.2 0
 |[],s,k,h=>Grown.refl h 0
 |w::ws,s,k,h=>by
  have h1:=fileF_ok hr hf h w num;unfold filesF;split
  ·exact h1
  ·obtain⟨⟨k',o1,o2⟩,o3,o4⟩:=h1
   obtain⟨⟨k2,p1,p2⟩,p3,p4⟩:=filesF_ok hr hf num ws _ k' o1;exact⟨⟨k2,p1,by omega⟩,p3.trans o3,Nat.le_trans o4 p4⟩
theorem includeF_ok (hr:RecOk M rec) (hf:∀p g,Pl.look fs p=some g→g.text.length+1≤M∧g.text.length≤1073741824) {s:St} {k:Nat} (h:Ok s k) (l:Mk.Ln):Grown M s k (includeF rec fs s l).2.2 0:=by
 unfold includeF;split
 ·exact Grown.refl h 0
 ·exact filesF_ok hr hf _ _ _ _ h
theorem lineF_ok (hr:RecOk M rec) (hf:∀p g,Pl.look fs p=some g→g.text.length+1≤M∧g.text.length≤1073741824) {s:St} {k:Nat} (h:Ok s k) {op:Option Nat} (ho:∀i,op=some i→i<s.rules.length) {l:Mk.Ln} (hl:l.right.length≤1073741824):
 Grown M s k (lineF rec fs s op l).2.2.2 1∧∀i,(lineF rec fs s op l).2.2.1=some i→i<(lineF rec fs s op l).2.2.2.rules.length:=by
 unfold lineF;split
 ·obtain⟨a1,a2,a3⟩:=commandF_st s op l
  exact⟨⟨⟨k+1,h.command hl,by simp only;rw[a1];omega⟩,a2,by simp only;omega⟩,fun i e=>by simp only at e⊢;rw[a3];exact ho i e⟩
 ·split
  ·obtain⟨a1,a2,a3,a4⟩:=ruleF_st s l
   exact⟨⟨⟨k,h.rule l,by simp only;rw[a1];omega⟩,a2,a3⟩,a4⟩
  ·split
   ·obtain⟨⟨k',o1,o2⟩,o3,o4⟩:=includeF_ok hr hf h l
    exact⟨⟨⟨k',o1,by simp only;omega⟩,o3,o4⟩,fun i e=>by cases e⟩
   ·obtain⟨a1,a2,a3⟩:=assignF_st s l
    exact⟨⟨⟨k+1,h.assign hl,by simp only;rw[a1];omega⟩,a2,by simp only;omega⟩,fun i e=>by cases e⟩
theorem linesF_ok (hr:RecOk M rec) (hf:∀p g,Pl.look fs p=some g→g.text.length+1≤M∧g.text.length≤1073741824):∀(xs:List (Mk.Ln×Nat)) (s:St) (op:Option Nat) (k:Nat),Ok s k→(∀i,op=some i→i<s.rules.length)→(∀x∈xs,x.1.right.length≤1073741824)→Grown M s k (linesF rec fs xs s op).2.2 xs.length
 |[],s,op,k,h,_,_=>Grown.refl h _
 |x::xs,s,op,k,h,ho,hx=>by
  obtain⟨h1,h2⟩:=lineF_ok hr hf h ho (hx x (List.mem_cons_self ..));unfold linesF;split
  ·exact Grown.refl h _
  ·split
   ·obtain⟨⟨k',o1,o2⟩,o3,o4⟩:=h1
    exact⟨⟨k',o1,by simp only[List.length_cons];omega⟩,o3,o4⟩
   ·obtain⟨⟨k',o1,o2⟩,o3,o4⟩:=h1
    obtain⟨⟨k2,p1,p2⟩,p3,p4⟩:=linesF_ok hr hf xs _ _ k' o1 h2 (fun y hy=>hx y (List.mem_cons_of_mem _ hy));exact⟨⟨k2,p1,by simp only[List.length_cons];omega⟩,p3.trans o3,Nat.le_trans o4 p4⟩
theorem readF_ok (hf:∀p g,Pl.look fs p=some g→g.text.length+1≤M∧g.text.length≤1073741824):∀d,RecOk M (readF fs d)
 |0=>fun s k text h h1 h2=>by
  have h3:=lines_len text;obtain⟨⟨k',o1,o2⟩,o3,o4⟩:=linesF_ok (M:=M) (rec:=fun s _=>(3,0,s)) (fs:=fs) (fun s k text h _ _=>Grown.refl h M) hf (Mk.allF (Mk.joined text)) s none k h (fun i e=>by cases e) (fun x hx=>Nat.le_trans (Mk.all_len hx).2.1 h2);exact⟨⟨k',o1,by show _≤_;unfold readF;omega⟩,o3,o4⟩
 |d+1=>fun s k text h h1 h2=>by
  have h3:=lines_len text;obtain⟨⟨k',o1,o2⟩,o3,o4⟩:=linesF_ok (readF_ok hf d) hf (Mk.allF (Mk.joined text)) s none k h (fun i e=>by cases e) (fun x hx=>Nat.le_trans (Mk.all_len hx).2.1 h2);exact⟨⟨k',o1,by show _≤_;unfold readF;omega⟩,o3,o4⟩
end
theorem ok0:Ok st0 0:=⟨fun x hx=>(by cases hx),Nat.le_refl _,fun _=>Nat.le_refl _,Nat.le_refl _,by decide,Nat.le_refl _,Nat.le_refl _,Nat.le_refl _,fun r hr=>(by cases hr),fun r hr=>(by cases hr),by decide⟩
section
variable {W X:World} {F G:Foot} {c:Ad} {rb:Nat→Nat} {s:St}
theorem nmPut (h:RdM W F c rb s) (hl:s.names.length<4294967296) (k:Pl.Bs) (v:Cp.Nv):∃w',(Instr.mapUpdate 137 (.map (some c.nm)) (.string ⟨k.toArray⟩) (.agg #[.string ⟨v.text.toArray⟩,.bool v.late])).run Tryz.prog W= .ok () w' ∧RdM w' F c rb {s with names:=nPut s.names k v}∧Fr F F W w' :=by
 obtain⟨w',h1,h2,h3⟩:=h.names.put Tryz.underlying137 Tryz.underlying9 (by unfold nEnts maxLen;rw[List.length_map];omega) k (nvV v);rw[nPut_ents] at h2;obtain⟨h4,h5⟩:=h.toNames h3 h2;exact⟨w',h1,h4,h5⟩
theorem rdExp_any (text:Pl.Bs) (h:RdM W F c rb s) (hs:Short s.names) (hg:Glob W) (ht:text.length≤1073741824):
 Calls Tryz.prog 182 #[.pointer (some ⟨c.rd,0,none⟩),.string ⟨text.toArray⟩] W fun e W' =>e= .returned (.tuple #[.string ⟨(expE s.names text).txt.toArray⟩,.int .i64 ((expE s.names text).er:Int)])∧Below W.heap.size W W' :=by
 obtain⟨vp,hB,-⟩:=h.book;refine(rdExpand_any c.rd c.bb c.nm c.bt c.pb vp _ _ _ _ s.first text s.names W h.row hB h.names hs hg ht).mono ?_
 rintro e w ⟨r,hx,rfl,-,hb⟩
 rw[expE_eq hx];exact⟨rfl,hb⟩
theorem assign_any (l:Mk.Ln) (h:RdM W F c rb s) (hs:Short s.names) (hn:s.names.length<4294967296) (hg:Glob W) (hl:l.right.length≤1073741824):
 Calls Tryz.prog 139 #[.pointer (some ⟨c.rd,0,none⟩),lnV l] W fun e W' =>e= .returned (.int .i64 ((assignF s l).1:Int))∧RdM W' F c rb (assignF s l).2∧Fr F F W W' :=by
 obtain⟨num,kind,L,R⟩:=l;obtain⟨vp,hB,-⟩:=h.book;have c1:=h.row.cell? (i:=1) rfl;have d0:=Row.cell? (i:=0) hB rfl;have l1:c.rd<W.heap.size:=h.row.lt;have l2:c.bb<W.heap.size:=Row.lt hB
 by_cases hk:kind=4
 ·have b4:((kind:Int)==4)=true:=by rw[beq_iff_eq];omega
  have hA:assignF s ⟨num,kind,L,R⟩=(0,{s with names:=nPut s.names L ⟨R,true⟩}):=by unfold assignF;rw[if_pos hk]
  rw[hA];have b1:Below W.heap.size W (((W.alloc (.cells #[.int .i64 num,.int .i64 kind,.string ⟨L.toArray⟩,.string ⟨R.toArray⟩] 164)).alloc (.cells #[.string ⟨R.toArray⟩,.bool true] 307)).drew):=((((Below.refl _ W).alloc (Nat.le_refl _) _).alloc (by simp) _).drew);obtain⟨w',hrun,hR,hF⟩:=nmPut (h.later b1) hn L ⟨R,true⟩;have HR:=hide hR;have HF:=hide ((Fr.later b1).trans hF)
  simp only at hrun;clear hR hF h hA hk b1 hB
  go_enter Tryz.func139,Tryz.ntmps139
  unfold lnV
  go_wp2_with fail
  go_region
  all_goals go_wp2_with fail
  all_goals go_ret
  all_goals exact⟨rfl,uh HR,uh HF⟩
 ·have b4:((kind:Int)==4)=false:=by rw[beq_eq_false_iff_ne];omega
  have q1:Below W.heap.size W ((W.alloc (.cells #[.int .i64 num,.int .i64 kind,.string ⟨L.toArray⟩,.string ⟨R.toArray⟩] 164)).alloc (.cells #[.string ⟨R.toArray⟩,.bool false] 307)):=((Below.refl _ W).alloc (Nat.le_refl _) _).alloc (by simp) _
  have hA:assignF s ⟨num,kind,L,R⟩=((expE s.names R).er,{s with names:=nPut s.names L ⟨(expE s.names R).txt,false⟩}):=by unfold assignF;rw[if_neg hk]
  rw[hA];have rL:Row ((W.alloc (.cells #[.int .i64 num,.int .i64 kind,.string ⟨L.toArray⟩,.string ⟨R.toArray⟩] 164)).alloc (.cells #[.string ⟨R.toArray⟩,.bool false] 307)) W.heap.size 164 [.int .i64 num,.int .i64 kind,.string ⟨L.toArray⟩,.string ⟨R.toArray⟩]:=(Row.new W 164 [_,_,_,_]).alloc _
  have rV:Row ((W.alloc (.cells #[.int .i64 num,.int .i64 kind,.string ⟨L.toArray⟩,.string ⟨R.toArray⟩] 164)).alloc (.cells #[.string ⟨R.toArray⟩,.bool false] 307)) (W.heap.size+1) 307 [.string ⟨R.toArray⟩,.bool false]:=by
   have:=Row.new (W.alloc (.cells #[.int .i64 num,.int .i64 kind,.string ⟨L.toArray⟩,.string ⟨R.toArray⟩] 164)) 307 [.string ⟨R.toArray⟩,.bool false];rw[World.size_alloc] at this;exact this
  have CE:=hide (rdExp_any R (h.later q1) hs (hg.later q1) hl)
  have HST:Hid (∀w1,Below ((W.alloc (.cells #[.int .i64 num,.int .i64 kind,.string ⟨L.toArray⟩,.string ⟨R.toArray⟩] 164)).alloc (.cells #[.string ⟨R.toArray⟩,.bool false] 307)).heap.size ((W.alloc (.cells #[.int .i64 num,.int .i64 kind,.string ⟨L.toArray⟩,.string ⟨R.toArray⟩] 164)).alloc (.cells #[.string ⟨R.toArray⟩,.bool false] 307)) w1→
   Row w1 (W.heap.size+1) 307 [.string ⟨R.toArray⟩,.bool false]∧∃w2,w2=w1.setCell ⟨W.heap.size+1,0,none⟩ (.string ⟨(expE s.names R).txt.toArray⟩)∧Row w2 (W.heap.size+1) 307 [.string ⟨(expE s.names R).txt.toArray⟩,.bool false]∧Row w2 W.heap.size 164 [.int .i64 num,.int .i64 kind,.string ⟨L.toArray⟩,.string ⟨R.toArray⟩]∧RdM w2 F c rb s∧Fr F F W w2):=fun w1 hb1=>by
   have e1:=q1.size;have hb:=q1.trans (hb1.mono e1);have hb2:=hb.setCell (p:=⟨W.heap.size+1,0,none⟩) (by simp) (.string ⟨(expE s.names R).txt.toArray⟩);exact⟨rV.later hb1,_,rfl,(rV.later hb1).set 0 _,(rL.later hb1).other (by omega) _ _,h.later hb2,Fr.later hb2⟩
  clear hA hk hB h rL rV q1
  go_enter Tryz.func139,Tryz.ntmps139
  unfold lnV;generalize expE s.names R=er at*
  go_wp2_with (first
   |(go_at_call 182;refine(uh CE).mono ?_;clear CE;rintro e w1 ⟨rfl,hb1⟩;obtain⟨x1,w2,x2,x3,x4,x5,x6⟩:=uh HST w1 hb1;have y0:=x1.cell? (i:=0) rfl;have y1:=x1.frozen 0;have HW2:=hide x2;have HV2:=hide x3;have HL2:=hide x4;have HM2:=hide x5;have HF2:=hide x6;clear x1 x2 x3 x4 x5 x6 hb1 c1 d0)
   |fail)
  rw[←uh HW2];obtain⟨vp2,hB2,-⟩:=(uh HM2).book;have c1:=(uh HM2).row.cell? (i:=1) rfl;have d0:=Row.cell? (i:=0) hB2 rfl;have v0:=(uh HV2).cell? (i:=0) rfl;have v1:=(uh HV2).cell? (i:=1) rfl;have l3:=(uh HL2).cell? (i:=2) rfl;obtain⟨w',hrun,hR,hF⟩:=nmPut ((uh HM2).later (Below.refl _ w2).drew) hn L ⟨er.txt,false⟩;have HR:=hide hR
  have HF:=hide (((uh HF2).trans (Fr.later (Below.refl _ w2).drew)).trans hF);simp only at hrun;clear hR hF y0 y1 HST hB2
  go_region
  all_goals go_wp2_with fail
  all_goals go_ret
  all_goals exact⟨rfl,uh HR,uh HF⟩
end
theorem Tryz.infoCmd:(Tryz.prog.info? 202).map (fun i=>(i.zero,i.size,i.bytes))=some (some (.agg #[.string ⟨#[]⟩,.int .i64 0]),2,24):=by kernel_rfl
def opV (rb:Nat→Nat):Option Nat→Value
 |none=> .pointer none
 |some i=>ptrV rb i
theorem cmd_ones (x:Pl.Bs) (n:Int):∀u∈[strV x,Value.int .i64 n],u.oneCell' =true:=by
 intro u hu;simp only[List.mem_cons,List.not_mem_nil,or_false] at hu
 rcases hu with e|e
 ·subst e;rfl
 ·subst e;rfl
structure BW (W0:World) where
 val:World
 ok:Below W0.heap.size W0 val
theorem BW.cell {W0:World} {a:Addr} {v:Value} (h:W0.cell? a=some v) (p:BW W0):p.val.cell? a=some v:=(p.ok.cell (p:=a) (World.block_lt_of_cell? W0 _ h)).trans h
theorem wp_region_on {P:Program} {id:Nat} {Q:Exit→Act→World→Prop} {a:Act} {w:World} {l:List Oper} (W0:World) (h0:Below W0.heap.size W0 w.drew) (hm:P.follows .mixedOrders=true) (hB:Region.lexB .any l.toArray=true)
 (h:wpQuiet P l.toArray (fun w' =>∃p:BW W0,w' =p.val) (fun a' =>∀w',(∃p:BW W0,w' =p.val)→Q .normal a' w') l a):(Code.region id l.toArray true).wp P Q a w:=
 wp_region_quiet (C:=fun w' =>∃p:BW W0,w' =p.val) hm hB ⟨⟨w.drew,h0⟩,rfl⟩ (by simpa using h)
section
variable {W X:World} {F G:Foot} {c:Ad} {rb:Nat→Nat} {s:St}
theorem SlF.rdn {a:Option Addr} {n cap:Nat} {ws:List Pl.Bs} (h:SlF W F (.slice a n cap) ws):n=ws.length∧∃b o,0<ws.length→a=some ⟨b,o,none⟩∧b<W.heap.size∧RdN W b o ws:=by
 rcases h with⟨h1,h2⟩|⟨b,o,c,h1,h2,h3,h4,h5⟩
 ·cases h1;subst h2;exact⟨rfl,0,0,fun e=>by simp at e⟩
 ·cases h1;exact⟨rfl,b,o,fun _=>⟨rfl,h2,h4⟩⟩
theorem row_ne_own {b e B n size:Nat} {t:TypeId} {vs xs:List Value} {v:Value} (h:Row W b t vs) (ho:W.ownsRow B e size v n xs) (hne:t≠e):some b≠v.ownBlock:=fun q=>by
 obtain⟨cur,fz,h1⟩:=own_type ho b q.symm;unfold Row at h;rw[h] at h1;cases h1;exact hne rfl
theorem cmdGrow (h:RdM W F c rb s) {i:Nat} {r:Rl} {vt vn vc:Value} (hr:s.rules[i]?=some r) (hR:Row W (rb i) 273 [vt,vn,vc]) (h1:SlF W F vt r.tg) (h2:SlF W F vn r.nd) (h3:CRow W F (.cmds i) vc r.cs) {x:Pl.Bs×Nat} {v' :Value} {X:World} (hown:X.ownsRow 0 202 2 v' (r.cs.length+1) (cmC r.cs++[strV x.1,.int .i64 (x.2:Int)])) (hg:W.grownBy X vc.ownBlock) (hf:v'.ownBlock=vc.ownBlock∨v'.ownBlock=some W.heap.size):
 Row X (rb i) 273 [vt,vn,vc]∧∃F',RdM (X.setCell ⟨rb i,2,none⟩ v') F' c rb {s with rules:=s.rules.set i {r with cs:=r.cs++[x]}}∧Fr F F' W (X.setCell ⟨rb i,2,none⟩ v'):=
 ⟨hR.grown hg (row_ne_own hR h3.1 (by decide)),_,h.toCmd hr hR h1 h2 h3 hown hg hf⟩
theorem command_any (op:Option Nat) (l:Mk.Ln) (h:RdM W F c rb s) (hop:∀i,op=some i→i<s.rules.length) (hol:∀name,(s.of name).length≤1073741824) (htl:∀r∈s.rules,r.tg.length≤1073741824) (hcl:∀r∈s.rules,r.cs.length<4294967296):
 Calls Tryz.prog 136 #[.pointer (some ⟨c.rd,0,none⟩),opV rb op,lnV l] W fun e W' =>e= .returned (.int .i64 ((commandF s op l).1:Int))∧∃F',RdM W' F' c rb (commandF s op l).2∧Fr F F' W W' :=by
 obtain⟨num,kind,L,R⟩:=l;have b0:=(Below.refl W.heap.size W).alloc (Nat.le_refl _) (.cells #[.int .i64 num,.int .i64 kind,.string ⟨L.toArray⟩,.string ⟨R.toArray⟩] 164);cases op with
 |none=>
  have HR:=hide (h.later b0);have HF:=hide (Fr.later (F:=F) b0);have hA:commandF s none ⟨num,kind,L,R⟩=(1,s):=rfl;rw[hA];clear h hop hA b0
  go_enter Tryz.func136,Tryz.ntmps136
  unfold lnV opV
  go_wp2_with fail
  go_ret
  exact⟨rfl,F,uh HR,uh HF⟩
 |some i=>
  obtain⟨i0,hi0,hz0,hz1,hz2⟩:=info_parts Tryz.infoCmd;have hi:=hop i rfl;have hr:=List.getElem?_eq_getElem hi;have hm:=List.getElem_mem hi;have htl' :=htl _ hm;have hcl' :=hcl _ hm
  have hA:commandF s (some i) ⟨num,kind,L,R⟩=if s.rules[i].cs.length=0∧(s.rules[i].tg.any fun t=>(s.of t).any (hcB s))=true then(6,s) else(0,{s with rules:=s.rules.set i {s.rules[i] with cs:=s.rules[i].cs++[(R,num)]}}):=by
   unfold commandF;simp only[hr]
  generalize s.rules[i]=r at*;obtain⟨vt,vn,vc,q1,q2,q3,q4⟩:=h.rules i r hr;obtain⟨ac,cap,hvc⟩:=own_sh q4.1;obtain⟨at_,ct,hvt⟩:=q2.sls.sh;subst hvc hvt;have l1:c.rd<W.heap.size:=h.row.lt;have l2:rb i<W.heap.size:=q1.lt;have e0:=q1.cell? (i:=0) rfl;have e2:=q1.cell? (i:=2) rfl;have c1:=h.row.cell? (i:=1) rfl;obtain⟨vp,ll,hHc⟩:=h.hcm hol
  obtain⟨-,tb,tO,htb⟩:=q2.rdn
  have CH:Hid (∀w,Below W.heap.size W w→Calls Tryz.prog 181 #[.pointer (some ⟨c.bb,0,none⟩),.slice at_ r.tg.length ct] w fun e w' =>e= .returned (.bool (r.tg.any fun t=>(s.of t).any (hcB s)))∧Below w.heap.size w w'):=fun w hw=>by
   rw[←h.any r.tg];exact hasCommands_any r.tg at_ ct tb tO (hHc.later hw) (fun e=>⟨(htb e).1,Nat.lt_of_lt_of_le (htb e).2.1 hw.size,(htb e).2.2.below hw (htb e).2.1⟩) htl'
  have HQ:Hid (∀w,Below W.heap.size W w→RdM w F c rb s∧Fr F F W w∧Row w (rb i) 273 [.slice at_ r.tg.length ct,vn,.slice ac r.cs.length cap]∧SlF w F (.slice at_ r.tg.length ct) r.tg∧SlF w F vn r.nd∧CRow w F (.cmds i) (.slice ac r.cs.length cap) r.cs):=fun w hw=>by
   have h' :=h.later hw;refine⟨h',Fr.later hw,q1.later hw,?_,?_,?_⟩
   ·exact q2.same hw.size (fun k hk e=>⟨hw.block k hk,e⟩)
   ·exact q3.same hw.size (fun k hk e=>⟨hw.block k hk,e⟩)
   ·exact q4.same (fun k e=>⟨hw.block k (h.lt e),e⟩)
  clear hHc htb q1 q2 q3 q4;generalize (r.tg.any fun t=>(s.of t).any (hcB s))=qb at*;have HB0:=hide b0;have HH:=hide h;clear h hop b0;have rL:=Row.new W 164 [.int .i64 num,.int .i64 kind,.string ⟨L.toArray⟩,.string ⟨R.toArray⟩];obtain⟨W0,hW0⟩:∃W0,W0=W.alloc (.cells #[.int .i64 num,.int .i64 kind,.string ⟨L.toArray⟩,.string ⟨R.toArray⟩] 164):=⟨_,rfl⟩
  have hrL:Row W0 W.heap.size 164 [.int .i64 num,.int .i64 kind,.string ⟨L.toArray⟩,.string ⟨R.toArray⟩]:=by rw[hW0];exact rL
  have hb0:Below W.heap.size W W0:=by rw[hW0];exact uh HB0
  have g0:∀p:BW W0,p.val.cell? ⟨rb i,0,none⟩=some (.slice at_ r.tg.length ct):=BW.cell ((hb0.cell (p:=⟨rb i,0,none⟩) l2).trans e0);have g2:∀p:BW W0,p.val.cell? ⟨rb i,2,none⟩=some (.slice ac r.cs.length cap):=BW.cell ((hb0.cell (p:=⟨rb i,2,none⟩) l2).trans e2)
  have g1:∀p:BW W0,p.val.cell? ⟨c.rd,1,none⟩=some (.pointer (some ⟨c.bb,0,none⟩)):=BW.cell ((hb0.cell (p:=⟨c.rd,1,none⟩) l1).trans c1)
  have hcall:∀p:BW W0,Calls Tryz.prog 181 #[.pointer (some ⟨c.bb,0,none⟩),.slice at_ r.tg.length ct] p.val fun e w'' =>e= .returned (.bool qb)∧∃p' :BW W0,w'' =p'.val:=fun p=>(uh CH p.val (hb0.trans (p.ok.mono hb0.size))).mono (fun e w'' ⟨h1,h2⟩=>⟨h1,⟨w'',p.ok.trans (h2.mono p.ok.size)⟩,rfl⟩)
  have HCALL:=hide hcall;have hne:Nonempty (BW W0):=⟨⟨W0,Below.refl _ _⟩⟩;have HW0:=hide hW0;have HBW:=hide hb0;have HRL:=hide hrL;clear hcall hW0 hb0 hrL rL e0 e2 c1 CH HB0
  by_cases hz:r.cs.length=0
  ·have tz:(((r.cs.length:Nat):Int)==0)=true:=by rw[beq_iff_eq];omega
   cases qb with
   |true=>
    have HA0:Hid (commandF s (some i) ⟨num,kind,L,R⟩=(6,s)):=by
     show _=_;rw[hA,if_pos ⟨hz,rfl⟩]
    clear hA hz
    go_enter Tryz.func136,Tryz.ntmps136
    unfold lnV opV ptrV
    go_upto_region 3 with fail
    rw[←uh HW0];refine wp_region_on W0 (Below.refl _ W0).drew (by kernel_rfl) (by kernel_rfl) ?_
    repeat (first|go_big_quiet_skip|quiet_step (exact uh HCALL _))
    refine wpQuiet_nil ?_
    rintro _ ⟨p,rfl⟩
    obtain⟨w,hw⟩:=p;obtain⟨m,f,-⟩:=uh HQ w ((uh HBW).trans (hw.mono (uh HBW).size));have HM:=hide m;have HF:=hide f;simp only;clear m f hw g0 g1 g2 HCALL hne HQ
    go_wp2_with fail
    go_ret
    exact⟨by rw[uh HA0];rfl,F,by rw[uh HA0];exact uh HM,uh HF⟩
   |false=>
    have HA0:Hid (commandF s (some i) ⟨num,kind,L,R⟩=(0,{s with rules:=s.rules.set i {r with cs:=r.cs++[(R,num)]}})):=by
     show _=_;rw[hA,if_neg (by simp)]
    clear hA hz
    go_enter Tryz.func136,Tryz.ntmps136
    unfold lnV opV ptrV
    go_upto_region 3 with fail
    rw[←uh HW0];refine wp_region_on W0 (Below.refl _ W0).drew (by kernel_rfl) (by kernel_rfl) ?_
    repeat (first|go_big_quiet_skip|quiet_step (exact uh HCALL _))
    refine wpQuiet_nil ?_
    rintro _ ⟨p,rfl⟩
    obtain⟨w,hw⟩:=p;have hbw:=(uh HBW).trans (hw.mono (uh HBW).size);have hlr:=(uh HRL).later hw;have k0:=hlr.cell? (i:=0) rfl;have k3:=hlr.cell? (i:=3) rfl;have hlt:=hlr.lt;have l3:rb i<w.heap.size:=Nat.lt_of_lt_of_le l2 hbw.size;obtain⟨m,f,q1,q2,q3,q4⟩:=uh HQ w hbw;have y2:=q1.cell? (i:=2) rfl
    have bY:Below w.heap.size w (w.drew.alloc (.cells #[.string ⟨R.toArray⟩,.int .i64 (num:Int)] 202)):=((Below.refl w.heap.size w).drew).alloc (Nat.le_refl _) _;obtain⟨mY,fY,q1Y,q2Y,q3Y,q4Y⟩:=uh HQ _ (hbw.trans (bY.mono hbw.size));have HMY:=hide mY;have HFY:=hide fY;have HQ1:=hide q1Y;have HQ2:=hide q2Y;have HQ3:=hide q3Y;have HQ4:=hide q4Y;have HLY:=hide (hlr.later bY)
    have HNL:Hid ((Value.slice ac r.cs.length cap).ownBlock≠some W.heap.size):=fun e=>row_ne_own (hlr.later bY) q4Y.1 (by decide) e.symm
    have hnl:rb i≠W.heap.size:=by omega
    have HRX:=hide (Row.new w.drew 202 [.string ⟨R.toArray⟩,.int .i64 (num:Int)]);simp only;clear m f q1 q2 q3 q4 mY fY q1Y q2Y q3Y q4Y hlr bY hbw hw g0 g1 g2 HCALL hne HQ
    go_wp2_with fail
    go_region_law (first
     |(refine step_append_fresh rfl (.tmp 30) (.tmp 36) 195 rfl 0 202 i0 _ 2 24 Tryz.underlying195 hi0 hz0 hz1 hz2 rfl (by decide) (.slice ac r.cs.length cap) r.cs.length (cmC r.cs) (by rfl) (uh HQ4).1 ⟨w.heap.size,0,none⟩ 1 1 [strV R,.int .i64 (num:Int)] (by rfl) (by rfl) (fun j u hj=>by rw[addr_add0];exact(uh HRX).cell? hj) (cmd_ones R num) (by unfold maxLen;omega) (by omega) (Nat.zero_le _) ?_;intro v6 w6 hown6 hgrow6 hf6;obtain⟨a6,c6,rfl⟩:=own_sh hown6;obtain⟨x1,hR6⟩:=cmdGrow (x:=(R,num)) (uh HMY) hr (uh HQ1) (uh HQ2) (uh HQ3) (uh HQ4) hown6 hgrow6 hf6;have y6:=x1.cell? (i:=2) rfl;have kk:=(uh HLY).grown hgrow6 (fun e=>uh HNL e.symm);have kk0:=kk.cell? (i:=0) rfl;have kk3:=kk.cell? (i:=3) rfl;have z6:=x1.frozen 2;have HR6:=hide hR6;clear hR6 hown6 hgrow6 hf6 x1 kk)
     |fail)
    all_goals go_wp2_with fail
    all_goals go_ret
    all_goals(obtain ⟨G6,m6,f6⟩:=uh HR6;exact⟨by rw[uh HA0];rfl,G6,by rw[uh HA0];exact m6,(uh HFY).trans f6⟩)
  ·have tz:(((r.cs.length:Nat):Int)==0)=false:=by rw[beq_eq_false_iff_ne];omega
   have HA0:Hid (commandF s (some i) ⟨num,kind,L,R⟩=(0,{s with rules:=s.rules.set i {r with cs:=r.cs++[(R,num)]}})):=by
    show _=_;rw[hA,if_neg (fun e=>hz e.1)]
   clear hA hz
   go_enter Tryz.func136,Tryz.ntmps136
   unfold lnV opV ptrV
   go_upto_region 3 with fail
   rw[←uh HW0];refine wp_region_on W0 (Below.refl _ W0).drew (by kernel_rfl) (by kernel_rfl) ?_
   repeat (first|go_big_quiet_skip|quiet_step (exact uh HCALL _))
   refine wpQuiet_nil ?_
   rintro _ ⟨p,rfl⟩
   obtain⟨w,hw⟩:=p;have hbw:=(uh HBW).trans (hw.mono (uh HBW).size);have hlr:=(uh HRL).later hw;have k0:=hlr.cell? (i:=0) rfl;have k3:=hlr.cell? (i:=3) rfl;have hlt:=hlr.lt;have l3:rb i<w.heap.size:=Nat.lt_of_lt_of_le l2 hbw.size;obtain⟨m,f,q1,q2,q3,q4⟩:=uh HQ w hbw;have y2:=q1.cell? (i:=2) rfl
   have bY:Below w.heap.size w (w.drew.alloc (.cells #[.string ⟨R.toArray⟩,.int .i64 (num:Int)] 202)):=((Below.refl w.heap.size w).drew).alloc (Nat.le_refl _) _;obtain⟨mY,fY,q1Y,q2Y,q3Y,q4Y⟩:=uh HQ _ (hbw.trans (bY.mono hbw.size));have HMY:=hide mY;have HFY:=hide fY;have HQ1:=hide q1Y;have HQ2:=hide q2Y;have HQ3:=hide q3Y;have HQ4:=hide q4Y;have HLY:=hide (hlr.later bY)
   have HNL:Hid ((Value.slice ac r.cs.length cap).ownBlock≠some W.heap.size):=fun e=>row_ne_own (hlr.later bY) q4Y.1 (by decide) e.symm
   have hnl:rb i≠W.heap.size:=by omega
   have HRX:=hide (Row.new w.drew 202 [.string ⟨R.toArray⟩,.int .i64 (num:Int)]);simp only;clear m f q1 q2 q3 q4 mY fY q1Y q2Y q3Y q4Y hlr bY hbw hw g0 g1 g2 HCALL hne HQ
   go_wp2_with fail
   go_region_law (first
    |(refine step_append_fresh rfl (.tmp 30) (.tmp 36) 195 rfl 0 202 i0 _ 2 24 Tryz.underlying195 hi0 hz0 hz1 hz2 rfl (by decide) (.slice ac r.cs.length cap) r.cs.length (cmC r.cs) (by rfl) (uh HQ4).1 ⟨w.heap.size,0,none⟩ 1 1 [strV R,.int .i64 (num:Int)] (by rfl) (by rfl) (fun j u hj=>by rw[addr_add0];exact(uh HRX).cell? hj) (cmd_ones R num) (by unfold maxLen;omega) (by omega) (Nat.zero_le _) ?_;intro v6 w6 hown6 hgrow6 hf6;obtain⟨a6,c6,rfl⟩:=own_sh hown6;obtain⟨x1,hR6⟩:=cmdGrow (x:=(R,num)) (uh HMY) hr (uh HQ1) (uh HQ2) (uh HQ3) (uh HQ4) hown6 hgrow6 hf6;have y6:=x1.cell? (i:=2) rfl;have kk:=(uh HLY).grown hgrow6 (fun e=>uh HNL e.symm);have kk0:=kk.cell? (i:=0) rfl;have kk3:=kk.cell? (i:=3) rfl;have z6:=x1.frozen 2;have HR6:=hide hR6;clear hR6 hown6 hgrow6 hf6 x1 kk)
    |fail)
   all_goals go_wp2_with fail
   all_goals go_ret
   all_goals(obtain ⟨G6,m6,f6⟩:=uh HR6;exact⟨by rw[uh HA0];rfl,G6,by rw[uh HA0];exact m6,(uh HFY).trans f6⟩)
end
end Go.Proofs.YtjelacjggijmfaaGreatDoor
