/-
  What a goal wants: the first pattern that fits a name.
-/
import Derived.Test.YtjelacjggijmfaaGreatDoorTHp
set_option maxHeartbeats 4000000
set_option maxRecDepth 100000
namespace Go.Proofs.YtjelacjggijmfaaGreatDoor
open Go.RowKit Go.MapKept Go.ChangeMaps Go.Maps
section
variable {w W:World} {c:Ad} {bf bi:Nat} {ve:Value} {ef:List Pl.Eff} {fs:List Pl.File} {clock:Int} {M:Nat}
theorem recC (hf:∀p g,Pl.look fs p=some g→g.text.length+1≤M∧g.text.length≤1073741824):∀d,d≤3→RecC c bf bi ve ef fs clock M (readF fs d) (3-d)
 |0,_=>fun W F rb s k text h hE hk ho h1 h2 h3=>callsIn_wide.1 (read_in (o:=3) (rec:=fun s _=>(3,0,s)) (fun e=>absurd rfl e) (fun s k text h _ _=>Grown.refl h M) hf text h hE hk ho (Nat.le_refl _) h1 h2 h3 (readF fs 0 s text) rfl)
 |d+1,hd=>fun W F rb s k text h hE hk ho h1 h2 h3=>callsIn_wide.1 (read_in (o:=3-(d+1)) (rec:=readF fs d) (fun _=>by rw[show 3-(d+1)+1=3-d by omega];exact recC hf d (by omega)) (readF_ok hf d) hf text h hE hk ho (by omega) h1 h2 h3 (readF fs (d+1) s text) rfl)
def foot0 (n:Nat):Foot:=fun k=>if k=n then some .names else if k=n+1 then some .tgts else if k=n+2 then some .phony else if k=n+3 then some .book else if k=n+4 then some .rd else none
def ad0 (n bx:Nat):Ad:=⟨n+4,bx,n+3,n,n+1,n+2⟩
theorem foot0_out {n k:Nat} (h:k<n):foot0 n k=none:=by
 unfold foot0;rw[if_neg (by omega),if_neg (by omega),if_neg (by omega),if_neg (by omega),if_neg (by omega)]
theorem foot0_in {n k:Nat} {t:Tag} (h:foot0 n k=some t):k=n∨k=n+1∨k=n+2∨k=n+3∨k=n+4:=by
 unfold foot0 at h;split at h
 ·omega
 ·split at h
  ·omega
  ·split at h
   ·omega
   ·split at h
    ·omega
    ·split at h
     ·omega
     ·cases h
theorem rdm0 (n bx:Nat) (hB:BkR w (n+3) n (n+1) (n+2) (.slice none 0 0) []) (h1:SMap w n (nEnts [])) (h2:SMap w (n+1) []) (h3:SMap w (n+2) (mEnts [])) (hr:Row w (n+4) 186 [.pointer (some ⟨bx,0,none⟩),.pointer (some ⟨n+3,0,none⟩),.int .i64 0,.int .i64 0,.int .i64 0]):RdM w (foot0 n) (ad0 n bx) (fun _=>0) st0:=by
 have hP:∀t,PRow w (foot0 n) t (.slice none 0 0) (fun _=>0) []:=fun t=>⟨World.ownsRow_nil _ _ _ _,fun k e=>by cases e⟩
 refine⟨fun k t e=> ?_,?_,?_,?_,?_,?_,fun i hi=> ?_,hr,⟨_,hB,hP _⟩,h1,h3,⟨[],h2,Nat.le_refl _,fun name=>hP _⟩,fun i r hr=> ?_,fun i hi=> ?_,fun name i hi=> ?_⟩
 ·rcases foot0_in e with q|q|q|q|q
  ·exact .inl q
  ·exact .inr (.inl q)
  ·exact .inr (.inr (.inl q))
  ·exact .inr (.inr (.inr (by rw[q];exact row_ty hB (.inr (.inl rfl)))))
  ·exact .inr (.inr (.inr (by rw[q];exact row_ty hr (.inl rfl))))
 ·show foot0 n (n+4)=_;unfold foot0;rw[if_neg (by omega),if_neg (by omega),if_neg (by omega),if_neg (by omega),if_pos rfl]
 ·show foot0 n (n+3)=_;unfold foot0;rw[if_neg (by omega),if_neg (by omega),if_neg (by omega),if_pos rfl]
 ·show foot0 n n=_;unfold foot0;rw[if_pos rfl]
 ·show foot0 n (n+1)=_;unfold foot0;rw[if_neg (by omega),if_pos rfl]
 ·show foot0 n (n+2)=_;unfold foot0;rw[if_neg (by omega),if_neg (by omega),if_pos rfl]
 ·exact absurd hi (Nat.not_lt_zero _)
 ·cases hr
 ·cases hi
 ·cases hi
def BookP (W:World) (bx:Nat) (r:Nat×Nat×St) (e:Ending) (W' :World):Prop:=
 Below W.heap.size W W' ∧(r.1≠0→e= .returned (.tuple #[.pointer none,.int .i64 (r.1:Int),.int .i64 (r.2.1:Int)]))∧
  (r.1=0→∃c G rb,c.bx=bx∧e= .returned (.tuple #[.pointer (some ⟨c.bb,0,none⟩),.int .i64 0,.int .i64 0])∧RdM W' G c rb r.2.2∧(∀k,k<W.heap.size→G k=none))
theorem rulesRead_any (bx:Nat) (path:Pl.Bs) (W:World) (h:PW W bx bf bi ve ef fs clock) (hg:Glob W) (hf:∀p g,Pl.look fs p=some g→g.text.length+1≤M∧g.text.length≤1073741824) (hM:101*M≤4294967296):
 Calls Tryz.prog 64 #[.pointer (some ⟨bx,0,none⟩),.string ⟨path.toArray⟩] W fun e W' =>BookP W bx (bookF fs path) e W' :=by
 have CT:=hide (worldText_any bx bf bi ve ef fs clock path W h);cases hL:Pl.look fs path with
 |none=>
  have hA:bookF fs path=(2,0,st0):=by unfold bookF;rw[hL]
  rw[hA];rw[hL] at CT;simp only at CT;clear hA
  go_enter Tryz.func64,Tryz.ntmps64
  go_wp2_with (first
   |(go_at_call 87;refine(uh CT).mono ?_;clear CT;rintro e w1 ⟨rfl,hb1⟩;have HB1:=hide hb1;clear hb1)
   |fail)
  go_ret3
  exact⟨uh HB1,fun _=>rfl,fun e=>by cases e⟩
 |some g=>
  rw[hL] at CT;simp only at CT;obtain⟨hg1,hg2⟩:=hf path g hL;have hA:bookF fs path=readF fs 3 st0 g.text:=by unfold bookF;rw[hL]
  rw[hA]
  have CN:Hid (∀w1,Below W.heap.size W w1→Calls Tryz.prog 88 #[] w1 fun e w2=>e= .returned (.pointer (some ⟨w1.heap.size+3,0,none⟩))∧w2.heap.size=w1.heap.size+4∧Below w1.heap.size w1 w2∧∀Z,Z=w2.alloc (.cells #[.pointer (some ⟨bx,0,none⟩),.pointer (some ⟨w1.heap.size+3,0,none⟩),.int .i64 0,.int .i64 0,.int .i64 0] 186)→RdM Z (foot0 w1.heap.size) (ad0 w1.heap.size bx) (fun _=>0) st0∧En Z (foot0 w1.heap.size) bx bf bi ve ef fs clock∧Below W.heap.size W Z):=fun w1 hw1=>by
   refine(newBook_any w1).mono ?_
   rintro e w2 ⟨rfl,h1,h2,h3,h4,h5,h6⟩
   refine⟨rfl,h6,h5,fun Z hZ=> ?_⟩;have bZ:Below w2.heap.size w2 Z:=by rw[hZ];exact(Below.refl _ w2).alloc (Nat.le_refl _) _
   have hb:Below w1.heap.size w1 Z:=h5.trans (bZ.mono h5.size);have hbW:Below W.heap.size W Z:=hw1.trans (hb.mono hw1.size);have hrow:Row Z (w1.heap.size+4) 186 [.pointer (some ⟨bx,0,none⟩),.pointer (some ⟨w1.heap.size+3,0,none⟩),.int .i64 0,.int .i64 0,.int .i64 0]:=by rw[hZ,←h6];exact Row.new w2 _ _
   have hs:=hw1.size;have l1:=h.row.lt;have l2:=h.files.lt;have l3:bi<W.heap.size:=by obtain⟨l,q,-⟩:=h.first;exact q.lt
   have l4:=glob_lt hg;exact⟨rdm0 w1.heap.size bx (Row.later h1 bZ) (h2.later bZ) (h3.later bZ) (h4.later bZ) hrow,⟨h.later hbW,hg.later hbW,foot0_out (by omega),foot0_out (by omega),foot0_out (by omega),foot0_out (by omega)⟩,hbW⟩
  have CR:Hid (∀n Z,W.heap.size≤n→RdM Z (foot0 n) (ad0 n bx) (fun _=>0) st0→En Z (foot0 n) bx bf bi ve ef fs clock→Below W.heap.size W Z→Calls Tryz.prog 89 #[.pointer (some ⟨n+4,0,none⟩),.string ⟨g.text.toArray⟩] Z fun e W' =>∃G rb',e= .returned (.tuple #[.int .i64 ((readF fs 3 st0 g.text).1:Int),.int .i64 ((readF fs 3 st0 g.text).2.1:Int)])∧RdM W' G (ad0 n bx) rb' (readF fs 3 st0 g.text).2.2∧Below W.heap.size W W' ∧(∀k,k<W.heap.size→G k=none)):=fun n Z hn m e hb=>by
   refine(recC (c:=ad0 n bx) hf 3 (Nat.le_refl _) Z (foot0 n) (fun _=>0) st0 0 g.text m e ok0 rfl hg1 hg2 (by show 0+(100-0)*M+M≤_;omega)).mono ?_
   rintro e w' ⟨G,rb',rfl,m2,f2⟩
   have hs:=hb.size;have hG:∀k,k<W.heap.size→G k=none:=fun k hk=>f2.old k (by omega) (foot0_out (by omega))
   refine⟨G,rb',rfl,m2,⟨f2.tn.os.trans hb.os,f2.tn.tape.trans hb.tape,f2.tn.output.trans hb.output,Nat.le_trans hs f2.tn.size,fun k hk=>(f2.tn.block k (by omega) (fun e=>e (foot0_out (by omega)))).trans (hb.block k hk)⟩,hG⟩
  clear hA h hg hf;generalize readF fs 3 st0 g.text=R at*;obtain⟨re,rn,rs⟩:=R;simp only at CR
  by_cases hre:re=0
  ·have u1:((re:Int) !=0)=false:=by rw[bne_eq_false_iff_eq];omega
   have HRE:=hide hre;clear hre
   go_enter Tryz.func64,Tryz.ntmps64
   go_wp2_with (first
    |(go_at_call 87;refine(uh CT).mono ?_;clear CT;rintro e w1 ⟨rfl,hb1⟩;have HB1:=hide hb1;clear hb1)
    |(go_at_call 88;refine(uh CN w1 (uh HB1)).mono ?_;clear CN;rintro e w2 ⟨rfl,h6,h5,hZ⟩;have hz4:w2.heap.size=w1.heap.size+4:=h6;have HZ:=hide hZ;have H6:=hide h6;clear h5 hZ h6)
    |(go_at_call 89;obtain⟨m,en,hbz⟩:=uh HZ _ rfl;refine(uh CR w1.heap.size _ (uh HB1).size m en hbz).mono ?_;clear CR;rintro e w3 ⟨G,rb',rfl,m3,b3,hG3⟩;have r1:w3.cell? ⟨w1.heap.size+4,1,none⟩=some (.pointer (some ⟨w1.heap.size+3,0,none⟩)):=m3.row.cell? (i:=1) rfl;have HM3:=hide m3;have HB3:=hide b3;have HG3:=hide hG3;clear m3 b3 hG3 m en hbz)
    |fail)
   go_ret3
   have hre:=uh HRE;subst hre;exact⟨uh HB3,fun e=>absurd rfl e,fun _=>⟨ad0 w1.heap.size bx,G,rb',rfl,rfl,uh HM3,uh HG3⟩⟩
  ·have u1:((re:Int) !=0)=true:=by rw[bne_iff_ne];omega
   have HRE:=hide hre;clear hre
   go_enter Tryz.func64,Tryz.ntmps64
   go_wp2_with (first
    |(go_at_call 87;refine(uh CT).mono ?_;clear CT;rintro e w1 ⟨rfl,hb1⟩;have HB1:=hide hb1;clear hb1)
    |(go_at_call 88;refine(uh CN w1 (uh HB1)).mono ?_;clear CN;rintro e w2 ⟨rfl,h6,h5,hZ⟩;have hz4:w2.heap.size=w1.heap.size+4:=h6;have HZ:=hide hZ;have H6:=hide h6;clear h5 hZ h6)
    |(go_at_call 89;obtain⟨m,en,hbz⟩:=uh HZ _ rfl;refine(uh CR w1.heap.size _ (uh HB1).size m en hbz).mono ?_;clear CR;rintro e w3 ⟨G,rb',rfl,m3,b3,hG3⟩;have HB3:=hide b3;clear m3 b3 hG3 m en hbz)
    |fail)
   go_ret3
   exact⟨uh HB3,fun _=>rfl,fun e=>absurd e (uh HRE)⟩
end
def SlT (W:World) (v:Value) (x:List Pl.Bs):Prop:=(v= .slice none 0 0∧x=[])∨∃b o c,v= .slice (some ⟨b,o,none⟩) x.length c∧x.length≤c∧RdN W b o x∧∃cs fz,W.heap[b]?=some (Obj.cells cs 9 fz)
def CmT (W:World) (v:Value) (x:List (Pl.Bs×Nat)):Prop:=(v= .slice none 0 0∧x=[])∨∃b o c,v= .slice (some ⟨b,o,none⟩) x.length c∧RdC W b o x∧∃cs fz,W.heap[b]?=some (Obj.cells cs 202 fz)
def PtT (W:World) (v:Value) (x:List Nat):Prop:=(v= .slice none 0 0∧x=[])∨∃b o c,v= .slice (some ⟨b,o,none⟩) x.length c∧RdP W b o x∧∃cs fz,W.heap[b]?=some (Obj.cells cs 265 fz)
section
variable {W X:World} {v:Value}
theorem RdN.sameB {b o:Nat} {x:List Pl.Bs} (h:RdN W b o x) (hb:X.heap[b]?=W.heap[b]?):RdN X b o x:=fun j y hj=>by
 have:=h j y hj;unfold World.cell? at*;rw[hb];exact this
theorem RdC.sameB {b o:Nat} {x:List (Pl.Bs×Nat)} (h:RdC W b o x) (hb:X.heap[b]?=W.heap[b]?):RdC X b o x:=fun j y hj=>by
 have:=h j y hj;unfold World.cell? at*;rw[hb];exact this
theorem RdP.sameB {b o:Nat} {x:List Nat} (h:RdP W b o x) (hb:X.heap[b]?=W.heap[b]?):RdP X b o x:=fun j y hj=>by
 have:=h j y hj;unfold World.cell? at*;rw[hb];exact this
structure Bl (W X:World):Prop where
 strs:∀(k:Nat) (cs:Array Value) (fz:Nat×Nat),W.heap[k]?=some (Obj.cells cs 9 fz)→X.heap[k]?=W.heap[k]?
 cmds:∀(k:Nat) (cs:Array Value) (fz:Nat×Nat),W.heap[k]?=some (Obj.cells cs 202 fz)→X.heap[k]?=W.heap[k]?
 ptrs:∀(k:Nat) (cs:Array Value) (fz:Nat×Nat),W.heap[k]?=some (Obj.cells cs 265 fz)→X.heap[k]?=W.heap[k]?
 ruls:∀(k:Nat) (cs:Array Value) (fz:Nat×Nat),W.heap[k]?=some (Obj.cells cs 273 fz)→X.heap[k]?=W.heap[k]?
 book:∀(k:Nat) (cs:Array Value) (fz:Nat×Nat),W.heap[k]?=some (Obj.cells cs 142 fz)→X.heap[k]?=W.heap[k]?
theorem Bl.below (hb:Below W.heap.size W X):Bl W X:=⟨fun k _ _ h=>hb.block k (Array.getElem?_eq_some_iff.1 h).1,fun k _ _ h=>hb.block k (Array.getElem?_eq_some_iff.1 h).1,fun k _ _ h=>hb.block k (Array.getElem?_eq_some_iff.1 h).1,fun k _ _ h=>hb.block k (Array.getElem?_eq_some_iff.1 h).1,fun k _ _ h=>hb.block k (Array.getElem?_eq_some_iff.1 h).1⟩
theorem SlT.bl {x:List Pl.Bs} (h:SlT W v x) (hb:Bl W X):SlT X v x:=by
 rcases h with h|⟨b,o,c,h1,h2,h3,cs,fz,h4⟩
 ·exact .inl h
 ·have q:=hb.strs b cs fz h4
  exact .inr ⟨b,o,c,h1,h2,h3.sameB q,cs,fz,q.trans h4⟩
theorem CmT.bl {x:List (Pl.Bs×Nat)} (h:CmT W v x) (hb:Bl W X):CmT X v x:=by
 rcases h with h|⟨b,o,c,h1,h3,cs,fz,h4⟩
 ·exact .inl h
 ·have q:=hb.cmds b cs fz h4
  exact .inr ⟨b,o,c,h1,h3.sameB q,cs,fz,q.trans h4⟩
theorem PtT.bl {x:List Nat} (h:PtT W v x) (hb:Bl W X):PtT X v x:=by
 rcases h with h|⟨b,o,c,h1,h3,cs,fz,h4⟩
 ·exact .inl h
 ·have q:=hb.ptrs b cs fz h4
  exact .inr ⟨b,o,c,h1,h3.sameB q,cs,fz,q.trans h4⟩
theorem SlT.sh {x:List Pl.Bs} (h:SlT W v x):∃a c,v= .slice a x.length c:=by
 rcases h with⟨h1,h2⟩|⟨b,o,c,h1,-⟩
 ·subst h2;exact⟨none,0,h1⟩
 ·exact⟨_,c,h1⟩
theorem CmT.sh {x:List (Pl.Bs×Nat)} (h:CmT W v x):∃a c,v= .slice a x.length c:=by
 rcases h with⟨h1,h2⟩|⟨b,o,c,h1,-⟩
 ·subst h2;exact⟨none,0,h1⟩
 ·exact⟨_,c,h1⟩
theorem PtT.sh {x:List Nat} (h:PtT W v x):∃a c,v= .slice a x.length c:=by
 rcases h with⟨h1,h2⟩|⟨b,o,c,h1,-⟩
 ·subst h2;exact⟨none,0,h1⟩
 ·exact⟨_,c,h1⟩
theorem SlT.sls {x:List Pl.Bs} (h:SlT W v x):SlS W v x:=by
 rcases h with h|⟨b,o,c,h1,h2,h3,cs,fz,h4⟩
 ·exact .inl h
 ·exact .inr ⟨b,o,c,h1,(Array.getElem?_eq_some_iff.1 h4).1,h3⟩
theorem SlT.rd {x:List Pl.Bs} {a:Option Addr} {n c:Nat} (h:SlT W (.slice a n c) x):∃b o,0<x.length→a=some ⟨b,o,none⟩∧b<W.heap.size∧RdN W b o x:=by
 rcases h with⟨h1,h2⟩|⟨b,o,c',h1,h2,h3,cs,fz,h4⟩
 ·subst h2;exact⟨0,0,fun e=>by simp at e⟩
 ·cases h1;exact⟨b,o,fun _=>⟨rfl,(Array.getElem?_eq_some_iff.1 h4).1,h3⟩⟩
theorem PtT.rd {x:List Nat} {a:Option Addr} {n c:Nat} (h:PtT W (.slice a n c) x):∃b o,0<x.length→a=some ⟨b,o,none⟩∧b<W.heap.size∧RdP W b o x:=by
 rcases h with⟨h1,h2⟩|⟨b,o,c',h1,h3,cs,fz,h4⟩
 ·subst h2;exact⟨0,0,fun e=>by simp at e⟩
 ·cases h1;exact⟨b,o,fun _=>⟨rfl,(Array.getElem?_eq_some_iff.1 h4).1,h3⟩⟩
theorem SlT.own {x:List Pl.Bs} {B:Nat} (h:W.ownsRow B 9 1 v x.length (x.map strV)):SlT W v x:=by
 rcases h.2 with⟨h1,h2⟩|⟨g,cap,cur,h1,h2,h3,h4,-⟩
 ·exact .inl ⟨h1,List.eq_nil_of_length_eq_zero h2⟩
 ·refine .inr ⟨g,0,cap,h1,h4,fun j y hj=> ?_,cur,_,h3⟩
  rw[h1] at h;have hl:=(List.getElem?_eq_some_iff.1 hj).1;have:=own_cell h j (by rw[List.length_map];exact hl);rw[Nat.zero_add,this,List.getElem_map,(List.getElem?_eq_some_iff.1 hj).2]
end
def rlOf (s:St) (i:Nat):Rl:=s.rules.getD i ⟨[],[],[]⟩
structure BM (W:World) (c:Ad) (rb:Nat→Nat) (s:St) (vp:Value) (l:Ents):Prop where
 book:BkR W c.bb c.nm c.bt c.pb vp s.first
 names:SMap W c.nm (nEnts s.names)
 tgts:SMap W c.bt l
 phony:SMap W c.pb (mEnts s.ph)
 pats:PtT W vp (s.pats.map rb)
 of:∀name,PtT W ((mget l name).getD (.slice none 0 0)) ((s.of name).map rb)
 rules:∀i,i<s.rules.length→∃vt vn vc,Row W (rb i) 273 [vt,vn,vc]∧SlT W vt (rlOf s i).tg∧SlT W vn (rlOf s i).nd∧CmT W vc (rlOf s i).cs
 pl:∀i∈s.pats,i<s.rules.length
 ol:∀name,∀i∈s.of name,i<s.rules.length
section
variable {W X:World} {F:Foot} {c:Ad} {rb:Nat→Nat} {s:St} {vp:Value} {l:Ents}
theorem SlF.slt {v:Value} {x:List Pl.Bs} (h:SlF W F v x):SlT W v x:=by
 rcases h with h|⟨b,o,c,h1,h2,h3,h4,h5,h6⟩
 ·exact .inl h
 ·exact .inr ⟨b,o,c,h1,h6,h4,h5⟩
theorem PRow.ptt {t:Tag} {v:Value} {xs:List Nat} (h:PRow W F t v rb xs):PtT W v (xs.map rb):=by
 rcases h.1.2 with⟨h1,h2⟩|⟨g,cap,cur,h1,h2,h3,-⟩
 ·exact .inl ⟨h1,by rw[List.eq_nil_of_length_eq_zero h2];rfl⟩
 ·refine .inr ⟨g,0,cap,by rw[List.length_map];exact h1,fun j y hj=> ?_,cur,_,h3⟩
  have ho:=h.1;rw[h1] at ho;rw[List.getElem?_map] at hj;cases hx:xs[j]? with
  |none=>rw[hx] at hj;cases hj
  |some z=>
   rw[hx] at hj;cases hj;have hl:=(List.getElem?_eq_some_iff.1 hx).1;have:=own_cell ho j (by rw[List.length_map];exact hl);rw[Nat.zero_add,this,List.getElem_map,(List.getElem?_eq_some_iff.1 hx).2];rfl
theorem cmC_get:∀(cs:List (Pl.Bs×Nat)) (j:Nat) (x:Pl.Bs×Nat),cs[j]?=some x→(cmC cs)[j*2]?=some (strV x.1)∧(cmC cs)[j*2+1]?=some (.int .i64 (x.2:Int))
 |[],_,_,h=>by cases h
 |y::r,0,x,h=>by
  cases h;exact⟨rfl,rfl⟩
 |y::r,j+1,x,h=>by
  have ih:=cmC_get r j x h;have e:cmC (y::r)=strV y.1::Value.int .i64 (y.2:Int)::cmC r:=rfl;rw[e,show (j+1)*2=j*2+2 by omega];exact ih
theorem own_cell2 {B e n g cap size:Nat} {xs:List Value} (h:W.ownsRow B e size (.slice (some ⟨g,0,none⟩) n cap) n xs) (i:Nat) (u:Value) (hi:xs[i]?=some u):W.cell? ⟨g,i,none⟩=some u:=by
 rcases h.2 with⟨h1,-⟩|⟨g',cap',cur,h1,h2,h3,h4,h5,h6,h7⟩
 ·cases h1
 ·cases h1
  rw[←h7,List.getElem?_take] at hi;split at hi
  ·simp only[World.cell?,h3]
   simpa using hi
  ·cases hi
theorem CRow.cmt {t:Tag} {v:Value} {cs:List (Pl.Bs×Nat)} (h:CRow W F t v cs):CmT W v cs:=by
 rcases h.1.2 with⟨h1,h2⟩|⟨g,cap,cur,h1,h2,h3,-⟩
 ·exact .inl ⟨h1,List.eq_nil_of_length_eq_zero h2⟩
 ·refine .inr ⟨g,0,cap,h1,fun j y hj=> ?_,cur,_,h3⟩
  have ho:=h.1;rw[h1] at ho;obtain⟨q1,q2⟩:=cmC_get cs j y hj;rw[Nat.zero_add];exact⟨own_cell2 ho _ _ q1,own_cell2 ho _ _ q2⟩
theorem RdM.bm (h:RdM W F c rb s):∃vp l,BM W c rb s vp l:=by
 obtain⟨vp,h1,h2⟩:=h.book;obtain⟨l,h3,-,h5⟩:=h.tgts;refine⟨vp,l,h1,h.names,h3,h.phony,h2.ptt,fun name=>(h5 name).ptt,fun i hi=> ?_,h.pl,h.ol⟩;obtain⟨vt,vn,vc,q1,q2,q3,q4⟩:=h.rules i s.rules[i] (List.getElem?_eq_getElem hi);have e:rlOf s i=s.rules[i]:=by unfold rlOf;simp[hi]
 rw[e];exact⟨vt,vn,vc,q1,q2.slt,q3.slt,q4.cmt⟩
theorem BM.bl (h:BM W c rb s vp l) (hb:Bl W X) (h1:X.heap[c.nm]?=W.heap[c.nm]?) (h2:X.heap[c.bt]?=W.heap[c.bt]?) (h3:X.heap[c.pb]?=W.heap[c.pb]?):BM X c rb s vp l:=by
 refine⟨(hb.book _ _ _ h.book).trans h.book,h.names.of_block h1,h.tgts.of_block h2,h.phony.of_block h3,h.pats.bl hb,fun name=>(h.of name).bl hb,fun i hi=> ?_,h.pl,h.ol⟩;obtain⟨vt,vn,vc,q1,q2,q3,q4⟩:=h.rules i hi;exact⟨vt,vn,vc,(hb.ruls _ _ _ q1).trans q1,q2.bl hb,q3.bl hb,q4.bl hb⟩
theorem BM.later (h:BM W c rb s vp l) (hb:Below W.heap.size W X):BM X c rb s vp l:=h.bl (Bl.below hb) (hb.block _ h.names.lt) (hb.block _ h.tgts.lt) (hb.block _ h.phony.lt)
def cmdsL (s:St):List Nat→List (Pl.Bs×Nat)
 |[]=>[]
 |i::r=>if 0<(rlOf s i).cs.length then(rlOf s i).cs else cmdsL s r
theorem commandsOf_any (xs:List Nat) (v:Value) (h:BM W c rb s vp l) (hv:PtT W v (xs.map rb)) (hx:∀i∈xs,i<s.rules.length) (hn:xs.length≤1073741824):
 Calls Tryz.prog 239 #[v] W fun e W' =>∃u,e= .returned u∧CmT W' u (cmdsL s xs)∧W' =W:=by
 obtain⟨a,cap,rfl⟩:=hv.sh;obtain⟨b,o,hbo⟩:=hv.rd;rw[List.length_map] at hbo⊢;have HB:=hide hbo;have HH:=hide h;have HX:=hide hx;clear hv hbo h hx
 go_enter Tryz.func239,Tryz.ntmps239
 go_wp2_with fail
 go_loopw [7] (fun iv wr=>∃j:Nat,iv= .int .i64 j∧j≤xs.length∧wr=W∧Hid (cmdsL s xs=cmdsL s (xs.drop j))) (fun iv _=>xs.length-intN iv)
 case atStart=>exact⟨0,rfl,by omega,rfl,by show _=_;rw[List.drop_zero]⟩
 case round=>
  obtain⟨j,rfl,hj2,rfl,HD⟩:=hrel
  by_cases hj:j<xs.length
  ·have t1:(j:Int)<xs.length:=by omega
   have t0:(0:Int)≤(j:Int):=by omega
   obtain⟨rfl,hlt,hr⟩:=uh HB (by omega);have cn:=hr j (rb xs[j]) (by rw[List.getElem?_map,List.getElem?_eq_getElem hj];rfl);obtain⟨vt,vn,vc,q1,q2,q3,q4⟩:=(uh HH).rules xs[j] (uh HX _ (List.getElem_mem hj));have hdr:xs.drop j=xs[j]::xs.drop (j+1):=List.drop_eq_getElem_cons hj;have hD:=uh HD;rw[hdr,cmdsL] at hD;obtain⟨ac,cc,rfl⟩:=q4.sh;have c2:=q1.cell? (i:=2) rfl
   have HQ:=hide q4;clear hr q1 q2 q3 q4 hdr HD;generalize xs[j]=i at*;generalize rlOf s i=r at*
   by_cases hz:0<r.cs.length
   ·have u1:(0:Int)<(r.cs.length:Int):=by omega
    rw[if_pos hz] at hD;have HD:=hide hD;clear hD hz
    go_wp2_with fail
    go_ret
    exact⟨_,rfl,by rw[uh HD];exact uh HQ,rfl⟩
   ·have u1:¬(0:Int)<(r.cs.length:Int):=by omega
    rw[if_neg hz] at hD;have HD:=hide hD;clear hD hz
    go_wp2_with fail
    go_roundw
    case rel=>exact⟨j+1,by go_num,by omega,(by first|rfl|trivial),HD⟩
    case measure=>simp only[intN];omega
  ·have hje:j=xs.length:=by omega
   subst hje;have t1:¬(xs.length:Int)<xs.length:=by omega
   have hD:=uh HD;rw[List.drop_length,cmdsL] at hD;have HD2:=hide hD;clear hD HD
   go_wp2_with fail
   go_ret
   exact⟨_,rfl,by rw[uh HD2];exact .inl ⟨rfl,rfl⟩,rfl⟩
end
theorem Tryz.infoSlS:(Tryz.prog.info? 30).map (fun i=>(i.zero,i.size,i.bytes))=some (some (.slice none 0 0),1,24):=by kernel_rfl
def needsL (s:St) (xs:List Nat):List Pl.Bs:=if xs.length=1 then(rlOf s (xs.headD 0)).nd else onceB (xs.map fun i=>(rlOf s i).nd).flatten []
structure NeI (W:World) (xs:List Nat) (f:Nat→Value) (j:Nat) (u:Value) (X:World):Prop where
 below:Below W.heap.size W X
 own:X.ownsRow W.heap.size 30 1 u j ((xs.take j).map f)
section
variable {W X:World} {c:Ad} {rb:Nat→Nat} {s:St} {vp:Value} {l:Ents}
theorem needsOf_any (xs:List Nat) (v:Value) (h:BM W c rb s vp l) (hv:PtT W v (xs.map rb)) (hx:∀i∈xs,i<s.rules.length) (hn:xs.length≤1073741824) (hl:(xs.map fun i=>(rlOf s i).nd).flatten.length≤1073741824):
 Calls Tryz.prog 238 #[v] W fun e W' =>∃u,e= .returned u∧SlT W' u (needsL s xs)∧Below W.heap.size W W' :=by
 obtain⟨i0,hi0,hz0,hz1,hz2⟩:=info_parts Tryz.infoSlS;obtain⟨a,cap,rfl⟩:=hv.sh;obtain⟨b,o,hbo⟩:=hv.rd;rw[List.length_map] at hbo⊢
 obtain⟨f,hf⟩:=Classical.axiomOfChoice (r:=fun(i:Nat) (u:Value)=>i<s.rules.length→∃vt vc,Row W (rb i) 273 [vt,u,vc]∧SlT W u (rlOf s i).nd) (fun i=>by
  by_cases hi:i<s.rules.length
  ·obtain⟨vt,vn,vc,q1,q2,q3,q4⟩:=h.rules i hi
   exact⟨vn,fun _=>⟨vt,vc,q1,q3⟩⟩
  ·exact⟨.slice none 0 0,fun e=>absurd e hi⟩)
 have HB:=hide hbo;have HF:=hide hf;have HX:=hide hx;clear hv hbo h hx hf
 by_cases h1:xs.length=1
 ·have w1:((xs.length:Int)==1)=true:=by rw[beq_iff_eq];omega
  have hne:needsL s xs=(rlOf s (xs.headD 0)).nd:=by unfold needsL;rw[if_pos h1]
  have h0:0<xs.length:=by omega
  have hhd:xs.headD 0=xs[0]:=by
   cases xs with
   |nil=>simp at h0
   |cons x y=>rfl
  rw[hne,hhd];obtain⟨rfl,hlt,hr⟩:=uh HB h0;have cn:=hr 0 (rb xs[0]) (by rw[List.getElem?_map,List.getElem?_eq_getElem h0];rfl);rw[Nat.add_zero] at cn;obtain⟨vt,vc,q1,q3⟩:=uh HF xs[0] (uh HX _ (List.getElem_mem h0));have c1:=q1.cell? (i:=1) rfl;have u1:(0:Int)<(xs.length:Int):=by omega
  have HQ:=hide q3;obtain⟨aq,cq,hq⟩:=q3.sh;rw[hq] at c1;clear hr q1 q3 hne hhd h1
  go_enter Tryz.func238,Tryz.ntmps238
  go_wp2_with fail
  go_ret
  exact⟨_,rfl,by rw[←hq];exact uh HQ,Below.refl _ _⟩
 ·have w1:((xs.length:Int)==1)=false:=by rw[beq_eq_false_iff_ne];omega
  have hne:needsL s xs=onceB (xs.map fun i=>(rlOf s i).nd).flatten []:=by unfold needsL;rw[if_neg h1]
  rw[hne];have HX0:Hid (NeI W xs f 0 (.slice none 0 0) W):=⟨Below.refl _ _,World.ownsRow_nil _ _ _ _⟩;clear hne h1
  go_enter Tryz.func238,Tryz.ntmps238
  go_wp2_with fail
  go_loopw [3,17] (fun u iv wr=>∃j:Nat,iv= .int .i64 j∧j≤xs.length∧Hid (NeI W xs f j u wr)) (fun _ iv _=>xs.length-intN iv)
  case atStart=>exact⟨0,rfl,by omega,HX0⟩
  case round=>
   clear HX0;obtain⟨j,rfl,hj2,HI⟩:=hrel
   by_cases hj:j<xs.length
   ·have t1:(j:Int)<xs.length:=by omega
    have t0:(0:Int)≤(j:Int):=by omega
    obtain⟨rfl,hlt,hr⟩:=uh HB (by omega);have cn:=(hr.below (uh HI).below hlt) j (rb xs[j]) (by rw[List.getElem?_map,List.getElem?_eq_getElem hj];rfl);obtain⟨vt,vc,q1,q3⟩:=uh HF xs[j] (uh HX _ (List.getElem_mem hj));have c1:=(q1.later (uh HI).below).cell? (i:=1) rfl
    have hnx:(xs.take (j+1)).map f=(xs.take j).map f++[f xs[j]]:=by rw[List.take_succ_eq_append_getElem hj,List.map_append];rfl
    have hsz:=(uh HI).below.size;obtain⟨aq,cq,hq⟩:=q3.sh;rw[hq] at c1 hnx;have HN:=hide hnx;clear hr q1 q3 hq hnx;generalize (rlOf s xs[j]).nd.length=m at*;generalize xs[j]=i at*;have bY:=(Below.refl wr.heap.size wr).alloc (Nat.le_refl _) (.cells #[.slice aq m cq] 30);have HRX:=hide (Row.new wr 30 [.slice aq m cq])
    have HOW:Hid ((wr.alloc (.cells #[.slice aq m cq] 30)).ownsRow W.heap.size 30 1 u3 j ((xs.take j).map f)):=own_same (uh HI).own (fun k hk=>bY.block k ((uh HI).own.lt k hk).2);have HBY:=hide ((uh HI).below.trans (bY.mono hsz));clear bY
    go_wp2_with (first
     |(at_builtin;refine wpList_append_own_at _ rfl (.tmp 21) (.tmp 26) 370 rfl W.heap.size 30 i0 (.slice none 0 0) 1 24 Tryz.underlying370 hi0 hz0 hz1 hz2 rfl (by decide) u3 j _ rfl (uh HOW) ⟨wr.heap.size,0,none⟩ 1 1 [.slice aq m cq] rfl (by simp) (fun j u hj=>by rw[addr_add0];exact(uh HRX).cell? hj) (by intro u hu;rw[List.mem_singleton] at hu;subst hu;rfl) (by unfold maxLen;omega) (by omega) (by rw[World.size_alloc];omega) ?_;intro v6 w6 hown6 hgrow6 _ _;have HI6:Hid (NeI W xs f (j+1) v6 w6):=⟨(uh HBY).trans ((Tn.grown (p:=fun k=>W.heap.size≤k) hgrow6 (fun k e=>((uh HOW).lt k e).1)).below (uh HBY).size (fun k e=>e)),by rw[uh HN];exact hown6⟩;clear hown6 hgrow6)
     |fail)
    go_roundw
    case rel=>exact⟨j+1,by go_num,by omega,HI6⟩
    case measure=>simp only[intN];omega
   ·have hje:j=xs.length:=by omega
    subst hje;have t1:¬(xs.length:Int)<xs.length:=by omega
    have hown:=(uh HI).own;rw[List.take_length] at hown;obtain⟨au,cu,rfl⟩:=own_sh hown;have hbl:=(uh HI).below
    have CO:Hid (Calls Tryz.prog 230 #[.slice au xs.length cu] wr fun e W' =>∃u,e= .returned u∧W'.ownsRow wr.heap.size 9 1 u (onceB (xs.map fun i=>(rlOf s i).nd).flatten []).length ((onceB (xs.map fun i=>(rlOf s i).nd).flatten []).map strV)∧Below wr.heap.size wr W'):=by
     have hLn:(xs.map fun i=>(rlOf s i).nd).length=xs.length:=List.length_map _;have hC:=fun bb oo ha=>once_any (xs.map fun i=>(rlOf s i).nd) au cu bb oo wr ha (by rw[hLn];exact hn) hl
     rw[hLn] at hC
     rcases hown.2 with⟨e1,e2⟩|⟨g,cap',cur,e1,e2,e3,-⟩
     ·exact hC 0 0 (fun e=>by omega)
     ·cases e1
      refine hC g 0 (fun _=>⟨rfl,(Array.getElem?_eq_some_iff.1 e3).1,fun j x hj=> ?_⟩);rw[List.getElem?_map] at hj;cases hx:xs[j]? with
      |none=>rw[hx] at hj;cases hj
      |some y=>
       rw[hx] at hj;cases hj;have hjl:=(List.getElem?_eq_some_iff.1 hx).1;have hcl:=own_cell hown j (by rw[List.length_map];exact hjl);rw[List.getElem_map,(List.getElem?_eq_some_iff.1 hx).2] at hcl;obtain⟨vt,vc,-,q3⟩:=uh HF y (uh HX _ (List.mem_of_getElem? hx));exact⟨f y,by rw[Nat.zero_add];exact hcl,(q3.bl (Bl.below hbl)).sls⟩
    have HBL:=hide hbl;clear hown HI hbl
    go_wp2_with (first
     |(go_at_call 230;refine(uh CO).mono ?_;clear CO;rintro e w2 ⟨u2,rfl,ho2,hb2⟩;have HS2:=hide (SlT.own ho2);have HB2:=hide ((uh HBL).trans (hb2.mono (uh HBL).size));clear ho2 hb2)
     |fail)
    go_ret
    exact⟨_,rfl,uh HS2,uh HB2⟩
end
def tgB (s:St) (n:Pl.Bs):Bool:=decide (0<(s.of n).length)
structure WkM (W:World) (wk:Nat) (c:Ad) (rb:Nat→Nat) (s:St) (vp:Value) (l:Ents) (bf bi:Nat) (ve:Value) (ef:List Pl.Eff) (fs:List Pl.File) (clock:Int) (v2 v3 v4 v5:Value):Prop where
 row:Row W wk 193 [.pointer (some ⟨c.bb,0,none⟩),.pointer (some ⟨c.bx,0,none⟩),v2,v3,v4,v5]
 bm:BM W c rb s vp l
 pw:PW W c.bx bf bi ve ef fs clock
 glob:Glob W
def PaT (W:World) (rb:Nat→Nat) (v:Value) (us:List (Nat×List Pl.Bs)):Prop:=(v= .slice none 0 0∧us=[])∨∃b o cp,v= .slice (some ⟨b,o,none⟩) us.length cp∧(∃cs fz,W.heap[b]?=some (Obj.cells cs 275 fz))∧
 ∀(j:Nat) (x:Nat×List Pl.Bs),us[j]?=some x→W.cell? ⟨b,o+j*2,none⟩=some (ptrV rb x.1)∧∃u,W.cell? ⟨b,o+j*2+1,none⟩=some u∧SlT W u x.2
def fitL (s:St) (fs:List Pl.File) (name:Pl.Bs):List (Nat×List Pl.Bs)→Option (Nat×Pl.Bs)
 |[]=>none
 |x::r=>if(stemB name ((rlOf s x.1).tg.headD [])).2=true∧x.2.all (thereB fs (tgB s) (stemB name ((rlOf s x.1).tg.headD [])).1)=true then some (x.1,(stemB name ((rlOf s x.1).tg.headD [])).1) else fitL s fs name r
def fitV (rb:Nat→Nat):Option (Nat×Pl.Bs)→Value
 |none=> .tuple #[.pointer none,.string ⟨#[]⟩,.bool false]
 |some (i,stem)=> .tuple #[ptrV rb i,.string ⟨stem.toArray⟩,.bool true]
section
variable {W X:World} {wk:Nat} {c:Ad} {rb:Nat→Nat} {s:St} {vp:Value} {l:Ents} {bf bi:Nat} {ve:Value} {ef:List Pl.Eff} {fs:List Pl.File} {clock:Int} {v2 v3 v4 v5:Value}
theorem WkM.later (h:WkM W wk c rb s vp l bf bi ve ef fs clock v2 v3 v4 v5) (hb:Below W.heap.size W X):WkM X wk c rb s vp l bf bi ve ef fs clock v2 v3 v4 v5:=⟨h.row.later hb,h.bm.later hb,h.pw.later hb,h.glob.later hb⟩
theorem WkM.at (h:WkM W wk c rb s vp l bf bi ve ef fs clock v2 v3 v4 v5):AtM W wk c.bb c.nm c.bt c.pb c.bx bf bi vp ve v2 v3 v4 v5 s.first l (tgB s) ef fs clock:=by
 refine⟨h.row,h.bm.book,h.bm.tgts,fun name=> ?_,h.pw,h.glob⟩;obtain⟨a,cp,e⟩:=(h.bm.of name).sh;rw[List.length_map] at e;exact⟨a,_,cp,e,rfl⟩
theorem PaT.later {v:Value} {us:List (Nat×List Pl.Bs)} (h:PaT W rb v us) (hb:Below W.heap.size W X):PaT X rb v us:=by
 rcases h with h|⟨b,o,cp,h1,⟨cs,fz,h2⟩,h3⟩
 ·exact .inl h
 ·have hlt:=(Array.getElem?_eq_some_iff.1 h2).1
  refine .inr ⟨b,o,cp,h1,⟨cs,fz,(hb.block b hlt).trans h2⟩,fun j x hj=> ?_⟩;obtain⟨q1,u,q2,q3⟩:=h3 j x hj;exact⟨(hb.cell (p:=⟨b,o+j*2,none⟩) hlt).trans q1,u,(hb.cell (p:=⟨b,o+j*2+1,none⟩) hlt).trans q2,q3.bl (Bl.below hb)⟩
theorem PaT.sh {v:Value} {us:List (Nat×List Pl.Bs)} (h:PaT W rb v us):∃a cp,v= .slice a us.length cp:=by
 rcases h with⟨h1,h2⟩|⟨b,o,cp,h1,-⟩
 ·subst h2;exact⟨none,0,h1⟩
 ·exact⟨_,cp,h1⟩
theorem stemB_len (name target:Pl.Bs):(stemB name target).1.length≤name.length:=by
 unfold stemB;split
 ·simp
 ·have h1:=trimPrefix_le name (Mk.before 37 target)
  simp only[Lib.trimSuffix];split
  ·rw[List.length_take];omega
  ·exact h1
theorem cnt_le (n:Pl.Bs):Lib.countB ⟨n.toArray⟩ ⟨#[37]⟩≤n.length:=by
 have:=Lib.countB_mul_le (⟨#[37]⟩:ByteArray) (by decide) n.length ⟨n.toArray⟩ (by show n.length≤_;omega);have e:(⟨#[37]⟩:ByteArray).size=1:=rfl;rw[e,Nat.mul_one] at this;exact this
structure FtI (W:World) (s:St) (fs:List Pl.File) (name:Pl.Bs) (us:List (Nat×List Pl.Bs)) (j:Nat) (X:World):Prop where
 below:Below W.heap.size W X
 eq:fitL s fs name us=fitL s fs name (us.drop j)
theorem fitting_any (us:List (Nat×List Pl.Bs)) (name:Pl.Bs) (h:WkM W wk c rb s vp l bf bi ve ef fs clock v2 v3 v4 v5) (hu:PaT W rb v2 us) (hx:∀x∈us,x.1<s.rules.length∧(rlOf s x.1).tg≠[]∧(∀y∈(rlOf s x.1).tg,y.length≤2000)∧x.2.length≤2000∧∀n∈x.2,n.length≤2000) (hn:us.length≤1073741824) (hnm:name.length≤1073741824):
 Calls Tryz.prog 240 #[.pointer (some ⟨wk,0,none⟩),.string ⟨name.toArray⟩] W fun e W' =>e= .returned (fitV rb (fitL s fs name us))∧Below W.heap.size W W' :=by
 obtain⟨a,cp,rfl⟩:=hu.sh;have c2:=h.row.cell? (i:=2) rfl;have HH:=hide h;have HU:=hide hu;have HX:=hide hx;have HI0:Hid (FtI W s fs name us 0 W):=⟨Below.refl _ _,by rw[List.drop_zero]⟩;clear h hu hx
 go_enter Tryz.func240,Tryz.ntmps240
 go_wp2_with fail
 go_loopw [16] (fun iv wr=>∃j:Nat,iv= .int .i64 j∧j≤us.length∧Hid (FtI W s fs name us j wr)) (fun iv _=>us.length-intN iv)
 case atStart=>exact⟨0,rfl,by omega,HI0⟩
 case round=>
  clear HI0 c2;obtain⟨j,rfl,hj2,HI⟩:=hrel
  by_cases hj:j<us.length
  ·have t1:(j:Int)<us.length:=by omega
   have t0:(0:Int)≤(j:Int):=by omega
   have hb:=(uh HI).below;have hsz:=hb.size;have hM:=(uh HH).later hb
   rcases(uh HU).later hb with⟨-,q⟩|⟨b,o,cp',q,⟨cs,fz,q1⟩,q2⟩
   ·rw[q] at hj;simp at hj
   cases q;have hlt:=(Array.getElem?_eq_some_iff.1 q1).1;obtain⟨p1,u,p2,p3⟩:=q2 j us[j] (List.getElem?_eq_getElem hj);obtain⟨x1,x2,x3,x4,x5⟩:=uh HX us[j] (List.getElem_mem hj);have hdr:us.drop j=us[j]::us.drop (j+1):=List.drop_eq_getElem_cons hj;have hE:=(uh HI).eq;rw[hdr,fitL] at hE;obtain⟨vt,vn,vc,r1,r2,-,-⟩:=hM.bm.rules us[j].1 x1;have hlr:=r1.lt
   generalize us[j]=xx at*;obtain⟨i,bs⟩:=xx;simp only at p1 p3 x1 x2 x3 x4 x5 hE r1 r2 hlr;have hlen:0<(rlOf s i).tg.length:=List.length_pos_iff.2 x2;have hhd:=headD_get _ hlen;rw[hhd] at hE
   rcases r2 with⟨-,z⟩|⟨tb,tO,tc,rfl,z1,z2,cs2,fz2,z3⟩
   ·exact absurd z x2
   have hltb:=(Array.getElem?_eq_some_iff.1 z3).1;have e0:=r1.cell? (i:=0) rfl;have e1:=z2 0 (rlOf s i).tg[0] (List.getElem?_eq_getElem hlen);have htg:=x3 _ (List.getElem_mem hlen);have hTL:(0:Int)<((rlOf s i).tg.length:Int):=by omega
   rw[Nat.add_zero] at e1;unfold strV at e1;generalize (rlOf s i).tg[0]=t0g at*;generalize (rlOf s i).tg.length=tgl at*;obtain⟨ab,cb,hub⟩:=p3.sh;subst hub;obtain⟨bb',bo',hbb⟩:=p3.rd;have hbf:=before_le 37 t0g;have haf:=after_len 37 t0g;have hsl:=stemB_len name t0g;have bX:=(Below.refl wr.heap.size wr).alloc (Nat.le_refl _) (.cells #[ptrV rb i,.slice ab bs.length cb] 275)
   have rX:=Row.new wr 275 [ptrV rb i,.slice ab bs.length cb];have CS:=hide (stemOf_any name t0g (wr.alloc (.cells #[ptrV rb i,.slice ab bs.length cb] 275)) (hM.glob.later bX) hnm (by omega) (by omega) (by omega))
   have CT:Hid (∀w,Below wr.heap.size wr w→Calls Tryz.prog 141 #[.pointer (some ⟨wk,0,none⟩),.slice ab bs.length cb,.string ⟨(stemB name t0g).1.toArray⟩] w fun e w' =>e= .returned (.bool (bs.all (thereB fs (tgB s) (stemB name t0g).1)))∧Below w.heap.size w w'):=fun w hw=>
    areThere_any bs (stemB name t0g).1 ab cb bb' bo' (hM.later hw).at (fun e=>⟨(hbb e).1,Nat.lt_of_lt_of_le (hbb e).2.1 hw.size,(hbb e).2.2.below hw (hbb e).2.1⟩) (by omega) (fun n hn=>⟨by have:=x5 n hn;omega,by
     have h1:=x5 n hn;have h2:=cnt_le n;have h3:Lib.countB ⟨n.toArray⟩ ⟨#[37]⟩*(stemB name t0g).1.length≤2000*1073741824:=Nat.mul_le_mul (by omega) (by omega)
     omega⟩)
   have HBX:=hide bX;have HRX:=hide rX;have HB:=hide hb;clear hM q2 p3 r1 z2 z3 hbb bX rX hdr q1 x2 x3 x5 hhd HI hb;unfold ptrV at p1 HRX;generalize stemB name t0g=SB at*;obtain⟨S,ok⟩:=SB;simp only at hE hsl CS CT;generalize bs.all (thereB fs (tgB s) S)=al at*;cases ok with
   |false=>
    have HE:Hid (FtI W s fs name us (j+1) wr):=⟨uh HB,by rw[hE,if_neg (by simp)]⟩;clear hE CT;unfold ptrV at CS HBX
    go_wp2_with (first
     |(go_at_call 273;refine(uh CS).mono ?_;clear CS;rintro e w1 ⟨rfl,hb1⟩;have HI1:Hid (FtI W s fs name us (j+1) w1):=⟨(uh HB).trans (((uh HBX).trans (hb1.mono (uh HBX).size)).mono hsz),(uh HE).eq⟩;clear hb1)
     |fail)
    go_roundw
    case rel=>exact⟨j+1,by go_num,by omega,HI1⟩
    case measure=>simp only[intN];omega
   |true=>
    cases al with
    |false=>
     have HE:Hid (FtI W s fs name us (j+1) wr):=⟨uh HB,by rw[hE,if_neg (by simp)]⟩;clear hE;unfold ptrV at CS HBX
     go_wp2_with (first
      |(go_at_call 273;refine(uh CS).mono ?_;clear CS;rintro e w1 ⟨rfl,hb1⟩;have y1:=((uh HRX).later hb1).cell? (i:=1) rfl;have HB1:=hide ((uh HBX).trans (hb1.mono (uh HBX).size));clear hb1)
      |(go_at_call 141;refine(uh CT w1 (uh HB1)).mono ?_;clear CT;rintro e w2 ⟨rfl,hb2⟩;have HI1:Hid (FtI W s fs name us (j+1) w2):=⟨(uh HB).trans (((uh HB1).trans (hb2.mono (uh HB1).size)).mono hsz),(uh HE).eq⟩;clear hb2)
      |fail)
     go_roundw
     case rel=>exact⟨j+1,by go_num,by omega,HI1⟩
     case measure=>simp only[intN];omega
    |true=>
     have HE:Hid (fitL s fs name us=some (i,S)):=by
      show _=_;rw[hE,if_pos ⟨rfl,rfl⟩]
     clear hE;unfold ptrV at CS HBX
     go_wp2_with (first
      |(go_at_call 273;refine(uh CS).mono ?_;clear CS;rintro e w1 ⟨rfl,hb1⟩;have HR1:=hide ((uh HRX).later hb1);have y1:=(uh HR1).cell? (i:=1) rfl;have HB1:=hide ((uh HBX).trans (hb1.mono (uh HBX).size));clear hb1)
      |(go_at_call 141;refine(uh CT w1 (uh HB1)).mono ?_;clear CT;rintro e w2 ⟨rfl,hb2⟩;have y0:=((uh HR1).later hb2).cell? (i:=0) rfl;have HB2:=hide ((uh HB).trans (((uh HB1).trans (hb2.mono (uh HB1).size)).mono hsz));clear hb2)
      |fail)
     go_ret3
     rw[uh HE];exact⟨rfl,uh HB2⟩
  ·have hje:j=us.length:=by omega
   subst hje;have t1:¬(us.length:Int)<us.length:=by omega
   have hE:=(uh HI).eq;rw[List.drop_length,fitL] at hE;have HE:=hide hE;have HB:=hide (uh HI).below;clear hE HI
   go_wp2_with fail
   go_ret3
   rw[uh HE];exact⟨rfl,uh HB⟩
end
end Go.Proofs.YtjelacjggijmfaaGreatDoor
