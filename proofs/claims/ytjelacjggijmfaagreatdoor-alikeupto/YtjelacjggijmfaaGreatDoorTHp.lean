/-
  The reader: a text is read.
-/
import Derived.Test.YtjelacjggijmfaaGreatDoorTGRL
import Derived.Test.YtjelacjggijmfaaGreatDoorTPureU
import Derived.Test.YtjelacjggijmfaaGreatDoorTGD5
import Derived.Sort.QuietIn
set_option maxHeartbeats 8000000
set_option maxRecDepth 20000
namespace Go.Proofs.YtjelacjggijmfaaGreatDoor
open Go.RowKit Go.Shelf
def Box1 (w:World) (b:Nat) (t:TypeId) (v:Value):Prop:=w.heap[b]?=some (.cells #[v] t (0,0))
theorem KpA.trans {l:Nat} {X Y Z:World} (h:KpA l X Y) (k:KpA l Y Z):KpA l X Z:=
 ⟨fun g=>k.glob (h.glob g),fun i c f hi=>k.boxes i c f (h.boxes i c f hi),fun i o hl hi ho=>k.others i o hl (h.others i o hl hi ho) ho,Nat.le_trans h.size k.size⟩
theorem KpA.putObj (W:World) (l:Nat) (o o' :Obj) (hl:W.heap[l]?=some o) (ho:o.isCells=false):KpA l W (W.putObj l o'):=
 ⟨fun g=>glob_putObj g hl ho,fun k c f hk=>(World.putObj_heap_other (fun e=>by subst e;rw[hl] at hk;cases hk;cases ho)).trans hk,
  fun k _ hne hk _=>(World.putObj_heap_other (Nat.ne_of_gt hne)).trans hk,by simp⟩
theorem KpA.below {l:Nat} {W W' :World} (hb:Below W.heap.size W W'):KpA l W W' :=
 ⟨fun g=>g.later hb,fun k _ _ hk=>(hb.block k (Array.getElem?_eq_some_iff.1 hk).1).trans hk,fun k _ _ hk _=>(hb.block k (Array.getElem?_eq_some_iff.1 hk).1).trans hk,hb.size⟩
theorem KpA.setCell {l:Nat} {W:World} {b:Nat} {t:TypeId} {v:Value} (h:Box1 W b t v) (ht:t≠234) (hb:0<b) (u:Value):KpA l W (W.setCell ⟨b,0,none⟩ u):=by
 unfold Box1 at h;refine⟨fun g=> ?_,fun k c f hk=>(Below.heap_setCell W ⟨b,0,none⟩ u k (fun e=> ?_)).trans hk,fun k o _ hk ho=>(Below.heap_setCell W ⟨b,0,none⟩ u k (fun e=> ?_)).trans hk,by simp[World.setCell]⟩
 ·obtain⟨m,hm⟩:=g
  exact⟨m,(((Below.refl b W).setCell (p:=⟨b,0,none⟩) (Nat.le_refl _) u).cell (p:=⟨0,0,none⟩) hb).trans hm⟩
 ·simp only at e;subst e;rw[hk] at h;cases h;exact ht rfl
 ·simp only at e;subst e;rw[hk] at h;cases h;cases ho
end Go.Proofs.YtjelacjggijmfaaGreatDoor
namespace Go.Proofs.YtjelacjggijmfaaGreatDoor
open Go.RowKit Go.MapKept Go.ChangeMaps Go.Maps
section
variable {w W X Y:World} {F G G' :Foot} {c:Ad} {rb rb' :Nat→Nat} {s s' :St} {v3:Value} {er num:Nat}
theorem RdM.keep (h:RdM X F c rb s) (hsz:X.heap.size≤Y.heap.size) (hs:∀k t,F k=some t→Y.heap[k]?=X.heap[k]?) (hst:∀(k:Nat) (cs:Array Value) (fz:Nat×Nat),X.heap[k]?=some (Obj.cells cs 9 fz)→Y.heap[k]?=X.heap[k]?):RdM Y F c rb s:=by
 have hP:∀{t v xs},PRow X F t v rb xs→PRow Y F t v rb xs:=fun h=>h.same (fun k e=>⟨hs k _ e,e⟩)
 have hC:∀{t v xs},CRow X F t v xs→CRow Y F t v xs:=fun h=>h.same (fun k e=>⟨hs k _ e,e⟩)
 have hS:∀{v ws},SlF X F v ws→SlF Y F v ws:=fun h=>by
  rcases h with h|⟨b,o,c,h1,h2,h3,h4,⟨cs,fz,h5⟩,h6⟩
  ·exact .inl h
  ·have q:=hst b cs fz h5
   refine .inr ⟨b,o,c,h1,by omega,h3,fun j x hj=> ?_,⟨cs,fz,q.trans h5⟩,h6⟩;have:=h4 j x hj;unfold World.cell? at*;rw[q];exact this
 obtain⟨vp,b1,b2⟩:=h.book;obtain⟨l,t1,t2,t3⟩:=h.tgts;refine⟨fun k t e=> ?_,h.frd,h.fbb,h.fnm,h.fbt,h.fpb,h.frb,(hs _ _ h.frd).trans h.row,⟨vp,(hs _ _ h.fbb).trans b1,hP b2⟩,h.names.of_block (hs _ _ h.fnm),h.phony.of_block (hs _ _ h.fpb),⟨l,t1.of_block (hs _ _ h.fbt),t2,fun name=>hP (t3 name)⟩,fun i r hr=> ?_,h.pl,h.ol⟩
 ·rw[hs k t e];exact h.ty k t e
 ·obtain⟨vt,vn,vc,q1,q2,q3,q4⟩:=h.rules i r hr
  exact⟨vt,vn,vc,(hs _ _ (h.frb i (List.getElem?_eq_some_iff.1 hr).1)).trans q1,hS q2,hS q3,hC q4⟩
theorem RdM.map (h:RdM X F c rb s):(∃es clock,X.heap[c.nm]?=some (.map es clock))∧(∃es clock,X.heap[c.bt]?=some (.map es clock))∧(∃es clock,X.heap[c.pb]?=some (.map es clock)):=by
 obtain⟨e1,k1,h1,-⟩:=h.names;obtain⟨l,⟨e2,k2,h2,-⟩,-⟩:=h.tgts;obtain⟨e3,k3,h3,-⟩:=h.phony;exact⟨⟨e1,k1,h1⟩,⟨e2,k2,h2⟩,⟨e3,k3,h3⟩⟩
theorem RdM.alien (h:RdM X F c rb s) {k:Nat} {cs:Array Value} {e:TypeId} {fz:Nat×Nat} (hk:X.heap[k]?=some (Obj.cells cs e fz)) (he:¬TyR e):F k=none:=by
 cases hf:F k with
 |none=>rfl
 |some t=>
  obtain⟨⟨e1,k1,h1⟩,⟨e2,k2,h2⟩,⟨e3,k3,h3⟩⟩:=h.map
  rcases h.ty k t hf with q|q|q|⟨cs',e',fz',q1,q2⟩
  ·rw[q,h1] at hk;cases hk
  ·rw[q,h2] at hk;cases hk
  ·rw[q,h3] at hk;cases hk
  ·rw[q1] at hk;cases hk;exact absurd q2 he
theorem RdM.rest (h:RdM X F c rb s) {k:Nat} {o:Obj} (hk:X.heap[k]?=some o) (ho:o.isCells=false) (h1:k≠c.nm) (h2:k≠c.bt) (h3:k≠c.pb):F k=none:=by
 cases hf:F k with
 |none=>rfl
 |some t=>
  rcases h.ty k t hf with q|q|q|⟨cs',e',fz',q1,q2⟩
  ·exact absurd q h1
  ·exact absurd q h2
  ·exact absurd q h3
  ·rw[q1] at hk;cases hk;cases ho
theorem RdM.keeps (h:RdM X F c rb s) (f:Fr F G X Y) {B:Nat} (h1:c.nm<B) (h2:c.bt<B) (h3:c.pb<B):KeepsFrom B X Y:=
 ⟨f.tn.size,fun k o hk ho hc=>(f.tn.block k (Array.getElem?_eq_some_iff.1 ho).1 (fun e=>e (h.rest ho hc (by omega) (by omega) (by omega)))).trans ho⟩
theorem RdM.kpa (h:RdM X F c rb s) (f:Fr F G X Y) (hg:Glob X→Glob Y) {l:Nat} (h1:c.nm≤l) (h2:c.bt≤l) (h3:c.pb≤l):KpA l X Y:=
 ⟨hg,fun k cs fz hk=>(f.tn.block k (Array.getElem?_eq_some_iff.1 hk).1 (fun e=>e (h.alien hk (by unfold TyR;decide)))).trans hk,fun k o hk ho hc=>(f.tn.block k (Array.getElem?_eq_some_iff.1 ho).1 (fun e=>e (h.rest ho hc (by omega) (by omega) (by omega)))).trans ho,f.tn.size⟩
theorem keepsSet {b o B:Nat} {t:TypeId} {vs:List Value} (h:Row X b t vs) (u:Value):KeepsFrom B X (X.setCell ⟨b,o,none⟩ u):=by
 refine⟨by simp[World.setCell],fun k ob _ ho hc=>(Below.heap_setCell X ⟨b,o,none⟩ u k (fun e=> ?_)).trans ho⟩;unfold Row at h;simp only at e;rw[e,h] at ho;cases ho;cases hc
structure ReM (w:World) (F:Foot) (c:Ad) (G:Foot) (rb:Nat→Nat) (s:St) (v3:Value) (er num:Nat) (W:World):Prop where
 mem:RdM W G c rb s
 fr:Fr F G w W
 r0:Row W w.heap.size 264 [.pointer (some ⟨c.rd,0,none⟩)]
 r1:Row W (w.heap.size+1) 24 [.int .i64 (er:Int)]
 r2:Row W (w.heap.size+2) 3 [.int .i64 (num:Int)]
 r3:Row W (w.heap.size+3) 265 [v3]
 g0:G w.heap.size=none
 g1:G (w.heap.size+1)=none
 g2:G (w.heap.size+2)=none
 g3:G (w.heap.size+3)=none
theorem ReM.step (h:ReM w F c G rb s v3 er num X) (m:RdM Y G' c rb' s') (f:Fr G G' X Y):ReM w F c G' rb' s' v3 er num Y:=
 ⟨m,h.fr.trans f,h.r0.tn f.tn (fun e=>e h.g0),h.r1.tn f.tn (fun e=>e h.g1),h.r2.tn f.tn (fun e=>e h.g2),h.r3.tn f.tn (fun e=>e h.g3),f.old _ h.r0.lt h.g0,f.old _ h.r1.lt h.g1,f.old _ h.r2.lt h.g2,f.old _ h.r3.lt h.g3⟩
theorem ReM.later (h:ReM w F c G rb s v3 er num X) (hb:Below X.heap.size X Y):ReM w F c G rb s v3 er num Y:=h.step (h.mem.later hb) (Fr.later hb)
theorem fr_set {n b:Nat} (h:Fr F G w X) (hn:w.heap.size=n) (hb:n≤b) (o:Nat) (u:Value):Fr F G w (X.setCell ⟨b,o,none⟩ u):=
 ⟨⟨h.tn.os,h.tn.tape,h.tn.output,by have:=h.tn.size;simpa [World.setCell] using this,fun k hk hp=>(Below.heap_setCell X ⟨b,o,none⟩ u k (by simp only;omega)).trans (h.tn.block k hk hp)⟩,h.old⟩
theorem RdM.away (h:RdM X F c rb s) {b o:Nat} {t:TypeId} {vs:List Value} (hr:Row X b t vs) (ht:t≠9) (hF:F b=none) (u:Value):RdM (X.setCell ⟨b,o,none⟩ u) F c rb s:=by
 refine h.keep (by simp[World.setCell]) (fun k tt e=>Below.heap_setCell X ⟨b,o,none⟩ u k (fun q=> ?_)) (fun k cs fz e=>Below.heap_setCell X ⟨b,o,none⟩ u k (fun q=> ?_))
 ·simp only at q;rw[q,hF] at e;cases e
 ·simp only at q
  unfold Row at hr;rw[q,hr] at e;cases e;exact ht rfl
theorem ReM.open (h:ReM w F c G rb s v3 er num X) (u:Value):ReM w F c G rb s u er num (X.setCell ⟨w.heap.size+3,0,none⟩ u):=
 ⟨h.mem.away h.r3 (by decide) h.g3 u,fr_set h.fr rfl (by omega) _ _,h.r0.other (by omega) _ _,h.r1.other (by omega) _ _,h.r2.other (by omega) _ _,h.r3.set 0 u,h.g0,h.g1,h.g2,h.g3⟩
theorem ReM.leave (h:ReM w F c G rb s v3 er num X) (e2 n2:Nat):ReM w F c G rb s v3 e2 n2 ((X.setCell ⟨w.heap.size+1,0,none⟩ (.int .i64 (e2:Int))).setCell ⟨w.heap.size+2,0,none⟩ (.int .i64 (n2:Int))):=by
 have a1:ReM w F c G rb s v3 e2 num (X.setCell ⟨w.heap.size+1,0,none⟩ (.int .i64 (e2:Int))):=⟨h.mem.away h.r1 (by decide) h.g1 _,fr_set h.fr rfl (by omega) _ _,h.r0.other (by omega) _ _,h.r1.set 0 _,h.r2.other (by omega) _ _,h.r3.other (by omega) _ _,h.g0,h.g1,h.g2,h.g3⟩
 exact⟨a1.mem.away a1.r2 (by decide) a1.g2 _,fr_set a1.fr rfl (by omega) _ _,a1.r0.other (by omega) _ _,a1.r1.other (by omega) _ _,a1.r2.set 0 _,a1.r3.other (by omega) _ _,a1.g0,a1.g1,a1.g2,a1.g3⟩
theorem ReM.own {β:Type} {B:Nat} (hB:w.heap.size≤B) (h1:c.nm<B) (h2:c.bt<B) (h3:c.pb<B):OwnFrom B (fun (_:β) W=>ReM w F c G rb s v3 er num W):=fun _ X Y row h hg hr=>by
 have hcl:∀(k:Nat) (cs:Array Value) (e:TypeId) (fz:Nat×Nat),X.heap[k]?=some (Obj.cells cs e fz)→Y.heap[k]?=X.heap[k]?:=fun k cs e fz hk=>hg.block k (Array.getElem?_eq_some_iff.1 hk).1 (fun q=>by
  obtain⟨_,o,ho,hc⟩:=hr k q.symm
  rw[hk] at ho;cases ho;cases hc)
 have hlow:∀k,k<B→k<X.heap.size→Y.heap[k]?=X.heap[k]?:=fun k hk hx=>hg.block k hx (fun q=>by have:=(hr k q.symm).1;omega)
 refine⟨h.mem.keep hg.size (fun k t e=> ?_) (fun k cs fz e=>hcl k cs _ fz e),⟨⟨hg.os.trans h.fr.tn.os,hg.tape.trans h.fr.tn.tape,hg.output.trans h.fr.tn.output,Nat.le_trans h.fr.tn.size hg.size,fun k hk hp=>(hlow k (by omega) (Nat.lt_of_lt_of_le hk h.fr.tn.size)).trans (h.fr.tn.block k hk hp)⟩,h.fr.old⟩,(hcl _ _ _ _ h.r0).trans h.r0,(hcl _ _ _ _ h.r1).trans h.r1,(hcl _ _ _ _ h.r2).trans h.r2,(hcl _ _ _ _ h.r3).trans h.r3,h.g0,h.g1,h.g2,h.g3⟩
 rcases h.mem.ty k t e with q|q|q|⟨cs,e',fz,q1,-⟩
 ·exact hlow k (by omega) (h.mem.lt e)
 ·exact hlow k (by omega) (h.mem.lt e)
 ·exact hlow k (by omega) (h.mem.lt e)
 ·exact hcl k cs e' fz q1
def readW (rd:Nat) (t:Pl.Bs) (w:World):World:=((((w.alloc (.cells #[.pointer (some ⟨rd,0,none⟩)] 264)).alloc (.cells #[.int .i64 0] 24)).alloc (.cells #[.int .i64 0] 3)).alloc (.cells #[.pointer none] 265)).alloc (.cells #[.string ⟨t.toArray⟩] 9)
theorem readStart (t:Pl.Bs) (h:RdM w F c rb s):ReM w F c F rb s (.pointer none) 0 0 (readW c.rd t w)∧Row (readW c.rd t w) (w.heap.size+4) 9 [.string ⟨t.toArray⟩]∧(readW c.rd t w).heap.size=w.heap.size+5∧Below w.heap.size w (readW c.rd t w):=by
 have hs:(readW c.rd t w).heap.size=w.heap.size+5:=by simp[readW]
 have hb:Below w.heap.size w (readW c.rd t w):=((((((Below.refl _ w).alloc (Nat.le_refl _) _).alloc (by simp only[World.size_alloc];omega) _).alloc (by simp only[World.size_alloc];omega) _).alloc (by simp only[World.size_alloc];omega) _).alloc (by simp only[World.size_alloc];omega) _)
 have hbx:∀k:Nat,(readW c.rd t w).heap[k]?=(((((w.heap.push (.cells #[.pointer (some ⟨c.rd,0,none⟩)] 264)).push (.cells #[.int .i64 0] 24)).push (.cells #[.int .i64 0] 3)).push (.cells #[.pointer none] 265)).push (.cells #[.string ⟨t.toArray⟩] 9))[k]?:=fun _=>rfl
 refine⟨⟨h.later hb,Fr.later hb,?_,?_,?_,?_,h.out (Nat.le_refl _),h.out (by omega),h.out (by omega),h.out (by omega)⟩,?_,hs,hb⟩
 all_goals(unfold Row;rw[hbx];simp only[Array.getElem?_push,Array.size_push];repeat (first|rw[if_pos trivial]|rw[if_pos (by omega)]|rw[if_neg (by omega)]))
 all_goals rfl
end
end Go.Proofs.YtjelacjggijmfaaGreatDoor
namespace Go.Proofs.YtjelacjggijmfaaGreatDoor
open Go.RowKit Go.Shelf Go.MapKept Go.ChangeMaps Go.Maps
attribute [local go_sem] Oper.semAt_some
def readAct (rd:Nat) (t:Pl.Bs) (n Bx:Nat) (x:Mk.Ln×Nat):Act:={tmps:= #[.pointer (some ⟨rd,0,none⟩),.string ⟨t.toArray⟩,.pointer (some ⟨n,0,none⟩),undef,.pointer (some ⟨n+1,0,none⟩),.pointer (some ⟨n+2,0,none⟩),.pointer (some ⟨n+3,0,none⟩),
 .pointer (some ⟨Bx,0,none⟩),.int .i64 x.2,undef,.string ⟨t.toArray⟩,.func (.func 119) #[] #[.pointer (some ⟨n+4,0,none⟩)],lnV x.1,.int .i64 x.2,undef,undef,undef,undef,undef,undef,undef,undef,undef,undef,undef,undef,undef,undef,undef,undef,undef,undef,undef,undef,undef,undef,undef,undef,undef,undef,undef,undef,undef,undef,undef,undef,undef,undef,undef,undef,undef,undef],defers:=[]}
structure ReS (M:Nat) (rec:St→Pl.Bs→Nat×Nat×St) (fs:List Pl.File) (R:Nat×Nat×St) (s:St) (k:Nat) (L:List (Mk.Ln×Nat)) (n:Nat) (sj:St) (kj:Nat) (op:Option Nat):Prop where
 ok:Ok sj kj
 le:kj+(100-sj.inc)*M≤k+(100-s.inc)*M+n
 opn:sj.opn=s.opn
 opl:∀i,op=some i→i<sj.rules.length
 eq:R=linesF rec fs (L.drop n) sj op
section
variable {w:World} {F:Foot} {c:Ad} {rb:Nat→Nat} {s:St} {bf bi:Nat} {ve:Value} {ef:List Pl.Eff} {fs:List Pl.File} {clock:Int} {M o k:Nat} {rec:St→Pl.Bs→Nat×Nat×St}
theorem ReS.err {R:Nat×Nat×St} {L:List (Mk.Ln×Nat)} {n kj:Nat} {sj:St} {op:Option Nat} (h:ReS M rec fs R s k L n sj kj op) {x:Mk.Ln×Nat} {post:List (Mk.Ln×Nat)} (hd:L.drop n=x::post) (hx:x.2≠0):R=(x.2,x.1.number,sj):=by
 have:=h.eq;rw[hd,linesF,if_pos hx] at this;exact this
theorem ReS.line {R:Nat×Nat×St} {L:List (Mk.Ln×Nat)} {n kj:Nat} {sj:St} {op:Option Nat} (h:ReS M rec fs R s k L n sj kj op) (hro:RecOk M rec) (hf:∀p g,Pl.look fs p=some g→g.text.length+1≤M∧g.text.length≤1073741824) {x:Mk.Ln×Nat} {post:List (Mk.Ln×Nat)} (hd:L.drop n=x::post) (hd2:L.drop (n+1)=post) (hx:x.2=0) (hl:x.1.right.length≤1073741824):
 ((lineF rec fs sj op x.1).1≠0→R=((lineF rec fs sj op x.1).1,(lineF rec fs sj op x.1).2.1,(lineF rec fs sj op x.1).2.2.2))∧((lineF rec fs sj op x.1).1=0→∃k2,ReS M rec fs R s k L (n+1) (lineF rec fs sj op x.1).2.2.2 k2 (lineF rec fs sj op x.1).2.2.1):=by
 have he:=h.eq;rw[hd,linesF,if_neg (by rw[hx];simp)] at he;refine⟨fun e=> ?_,fun e=> ?_⟩
 ·rw[if_pos e] at he;exact he
 ·rw[if_neg (by rw[e];simp)] at he
  obtain⟨⟨⟨k2,g1,g2⟩,g3,g4⟩,g5⟩:=lineF_ok hro hf h.ok h.opl hl;have:=h.le;exact⟨k2,g1,by omega,g3.trans h.opn,g5,by rw[hd2];exact he⟩
def Way (B l:Nat) (X Y:World):Prop:=KeepsFrom B X Y∧KpA l X Y
theorem Way.trans {B l:Nat} {X Y Z:World} (h:Way B l X Y) (k:Way B l Y Z):Way B l X Z:=⟨h.1.trans k.1,h.2.trans k.2⟩
theorem Way.fr {B l:Nat} {X Y:World} {G G' :Foot} {sj:St} {rb' :Nat→Nat} (h:RdM X G c rb' sj) (hE:En X G c.bx bf bi ve ef fs clock) (f:Fr G G' X Y) (h1:c.nm<B) (h2:c.bt<B) (h3:c.pb<B) (hl:B≤l):Way B l X Y:=
 ⟨h.keeps f h1 h2 h3,h.kpa f (fun _=>(hE.fr f).glob) (by omega) (by omega) (by omega)⟩
theorem Way.set {B l b:Nat} {X:World} {t:TypeId} {v:Value} (h:Row X b t [v]) (ht:t≠234) (hb:0<b) (u:Value):Way B l X (X.setCell ⟨b,0,none⟩ u):=⟨keepsSet h u,KpA.setCell h ht hb u⟩
theorem Way.below {B l:Nat} {X Y:World} (hb:Below X.heap.size X Y):Way B l X Y:=⟨keepsBelow _ hb,KpA.below hb⟩
theorem Way.leave {B l:Nat} {X:World} {G:Foot} {rb' :Nat→Nat} {sj:St} {v3:Value} {er num:Nat} (h:ReM w F c G rb' sj v3 er num X) (hg:0<w.heap.size) (e2 n2:Nat):Way B l X ((X.setCell ⟨w.heap.size+1,0,none⟩ (.int .i64 (e2:Int))).setCell ⟨w.heap.size+2,0,none⟩ (.int .i64 (n2:Int))):=
 (Way.set h.r1 (by decide) (by omega) _).trans (Way.set (h.r2.other (by omega) 0 (.int .i64 (e2:Int))) (by decide) (by omega) _)
theorem Way.open {B l:Nat} {X:World} {G:Foot} {rb' :Nat→Nat} {sj:St} {v3:Value} {er num:Nat} (h:ReM w F c G rb' sj v3 er num X) (hg:0<w.heap.size) (u:Value):Way B l X (X.setCell ⟨w.heap.size+3,0,none⟩ u):=Way.set h.r3 (by decide) (by omega) _
theorem read_in (hrec:o≠3→RecC c bf bi ve ef fs clock M rec (o+1)) (hro:RecOk M rec) (hf:∀p g,Pl.look fs p=some g→g.text.length+1≤M∧g.text.length≤1073741824) (t:Pl.Bs) (h:RdM w F c rb s) (hE:En w F c.bx bf bi ve ef fs clock) (hk:Ok s k) (ho:s.opn=o) (ho3:o≤3) (ht1:t.length+1≤M) (ht:t.length≤1073741824) (hkk:k+(100-s.inc)*M+M≤4294967296) (R:Nat×Nat×St) (hR:R=linesF rec fs (Mk.allF (Mk.joined t)) s none):
 CallsIn Fence.wide 9 Tryz.prog 89 #[.pointer (some ⟨c.rd,0,none⟩),.string ⟨t.toArray⟩] w fun e w' =>∃G rb',e= .returned (.tuple #[.int .i64 (R.1:Int),.int .i64 (R.2.1:Int)])∧RdM w' G c rb' R.2.2∧Fr F G w w' :=by
 have hmix:Tryz.prog.follows .mixedOrders=true:=by kernel_rfl
 obtain⟨q0,q1,q2,q3⟩:=readStart t h;have hll:=lines_len t;have hS0:ReS M rec fs R s k (Mk.allF (Mk.joined t)) 0 s k none:=⟨hk,by omega,rfl,fun i e=>(by cases e),by rw[List.drop_zero];exact hR⟩;have n1:=h.lt h.fnm;have n2:=h.lt h.fbt;have n3:=h.lt h.fpb;have hgl:=glob_lt hE.glob;refine callsIn_of_wp_marks Tryz.func89 rfl trivial ?_
 simp only[Tryz.ntmps89,List.size_toArray,List.length_cons,List.length_nil,Nat.reduceAdd,Nat.reduceSub,Array.replicate_succ,Array.replicate_zero,List.push_toArray,List.append_toArray,List.nil_append,List.cons_append]
 gi_wp2_with fail
 refine⟨trivial,(callsIn_wide.2 (all_any _ _)).mono ?_⟩
 rintro e w2 ⟨rfl,rfl⟩
 gi_wp2_with fail
 unfold readW at q0 q1 q2 q3;generalize ((((w.alloc (.cells #[.pointer (some ⟨c.rd,0,none⟩)] 264)).alloc (.cells #[.int .i64 0] 24)).alloc (.cells #[.int .i64 0] 3)).alloc (.cells #[.pointer none] 265)).alloc (.cells #[.string ⟨t.toArray⟩] 9)=V at*;have htx:V.cell? ⟨w.heap.size+4,0,none⟩=some (.string ⟨t.toArray⟩):=q1.cell? (i:=0) rfl;have hgV:=(hE.later q3).glob
 refine Mk.range_law_at (gf:=119) (lb:= #[.pointer (some ⟨w.heap.size+4,0,none⟩)]) rfl (enters_of Tryz.func119 (by kernel_rfl) rfl)
  (all_iter t (w.heap.size+4) V ht hgV htx) KpA.trans (fun W1 l1 o o' _ hl ho=>KpA.putObj W1 l1 o o' hl ho) (Below.refl _ _) (fun _=>rfl)
  (fun pre W1=>∃G rb' sj kj op,ReM w F c G rb' sj (opV rb' op) 0 0 W1∧ReS M rec fs R s k (Mk.allF (Mk.joined t)) pre.length sj kj op)
  (fun cc _ W1=>cc= .ret∧∃G rb' v3,ReM w F c G rb' R.2.2 v3 R.1 R.2.1 W1)
  (fun pre X Y row hs hgr hr=>by
   obtain⟨G,rb',sj,kj,op,h1,h2⟩:=hs
   exact⟨G,rb',sj,kj,op,ReM.own (B:=V.heap.size) (by omega) (by omega) (by omega) (by omega) () X Y row h1 hgr hr,h2⟩)
  (fun cc pre X Y row hs hgr hr=>by
   obtain⟨h1,G,rb',v3,h2⟩:=hs
   exact⟨h1,G,rb',v3,ReM.own (B:=V.heap.size) (by omega) (by omega) (by omega) (by omega) () X Y row h2 hgr hr⟩)
  ⟨F,rb,s,k,none,q0,hS0⟩
  (fun x a' W1=>∃Bx,w.heap.size+3<Bx∧Row W1 Bx 164 [.int .i64 x.1.number,.int .i64 x.1.kind,.string ⟨x.1.left.toArray⟩,.string ⟨x.1.right.toArray⟩]∧a' =readAct c.rd t w.heap.size Bx x)
  (fun x a' s X Y row hs hgr hr=>by
   obtain⟨Bx,h1,h2,h3⟩:=hs
   exact⟨Bx,h1,Row.own V.heap.size _ _ _ () X Y row h2 hgr hr,h3⟩) ?assign ?body ?done ?stop
 case assign=>
  rintro pre ⟨⟨num,kd,L,Rr⟩,er⟩ post W1 K _ hi hK
  have hsz5:w.heap.size+3<W1.heap.size:=by
   obtain⟨_,_,_,_,_,h1,_⟩:=hi;exact h1.r3.lt
  unfold encA lnV
  gi_wp2
  have hb:=(Below.refl _ W1).alloc (Nat.le_refl _) (.cells #[.int .i64 num,.int .i64 kd,.string ⟨L.toArray⟩,.string ⟨Rr.toArray⟩] 164);refine hK _ _ (keepsBelow _ hb) (KpA.below hb) ?_ ⟨W1.heap.size,hsz5,Row.new W1 164 _,rfl⟩;obtain⟨G,rb',sj,kj,op,h1,h2⟩:=hi;exact⟨G,rb',sj,kj,op,h1.later hb,h2⟩
 case body=>
  rintro pre ⟨⟨num,kd,L,Rr⟩,er⟩ post a' W1 hL ⟨G,rb',sj,kj,op,hM,hS⟩ ⟨Bx,hBx,hbx,rfl⟩
  simp only at hbx;have hLn:=Mk.all_len (t:=t) (x:=(⟨num,kd,L,Rr⟩,er)) (by rw[hL];simp);simp only at hLn;obtain⟨hd1,hd2⟩:=rest_drop hL;rw[List.length_append,List.length_cons,List.length_nil] at hd2
  have hpl:pre.length+1≤M:=by
   have:=congrArg List.length hL;rw[List.length_append,List.length_cons] at this;omega
  have hkb:kj+(100-sj.inc)*M≤4294967295:=by have:=hS.le;omega
  have hEn:=hE.fr hM.fr;have hGB:G Bx=none:=hM.mem.alien hbx (by unfold TyR;decide);have d0:=hbx.cell? (i:=0) rfl;have d1:=hbx.cell? (i:=1) rfl;have d2:=hbx.cell? (i:=2) rfl;have d3:=hbx.cell? (i:=3) rfl;have e0:=hM.r0.cell? (i:=0) rfl;have e1:=hM.r1.cell? (i:=0) rfl;have e2:=hM.r2.cell? (i:=0) rfl;have e3:=hM.r3.cell? (i:=0) rfl
  have f1:=hM.r1.frozen 0;have f2:=hM.r2.frozen 0;have f3:=hM.r3.frozen 0;have HM:=hide hM;have HEn:=hide hEn;have HS:=hide hS;have HBX:=hide hbx;have HD1:=hide hd1;have HD2:=hide hd2;clear hL hM hEn hS hbx hd1 hd2 hS0 q0 hR
  by_cases her:er=0
  ·have b1:((er:Int) !=0)=false:=by rw[bne_eq_false_iff_eq];omega
   have hlr:Rr.length≤1073741824:=by omega
   have hlL:L.length≤1073741824:=by omega
   have HLn:=hide ((uh HS).line hro hf (uh HD1) (uh HD2) her hlr);have hok:=(uh HS).ok;have o1:=hok.tl;have o2:=hok.n64;have o3:=hok.nl;clear her;simp only at HLn
   by_cases k1:kd=1
   ·have w1:((kd:Int)==1)=true:=by rw[beq_iff_eq];omega
    have hLE:lineF rec fs sj op ⟨num,kd,L,Rr⟩=((commandF sj op ⟨num,kd,L,Rr⟩).1,num,op,(commandF sj op ⟨num,kd,L,Rr⟩).2):=by unfold lineF;simp only;rw[if_pos k1]
    rw[hLE] at HLn;have CC:=hide (command_any op ⟨num,kd,L,Rr⟩ (uh HM).mem (uh HS).opl (fun name=>by have:=hok.ol name;omega) (fun r hr=>by have:=(hok.rs r hr).tl;omega) (fun r hr=>by have:=hok.cl r hr;omega));clear hLE k1;generalize commandF sj op ⟨num,kd,L,Rr⟩=rc at*;obtain⟨re,rs⟩:=rc;simp only at HLn CC
    obtain⟨pv,hpv⟩:∃pv,opV rb' op= .pointer pv:=by cases op<;>exact⟨_,rfl⟩
    unfold lnV at CC;simp only at CC;rw[hpv] at e3 CC;unfold readAct lnV;simp only
    gi_wp2_with fail
    refine⟨trivial,(CallsIn.inRound _ (callsIn_wide.2 (uh CC))).mono ?_⟩
    rintro e W2 ⟨rfl,G2,m2,f2'⟩
    have HM2:=hide ((uh HM).step m2 f2');have HW2:=hide (Way.fr (B:=V.heap.size) (l:=V.heap.size+1) (uh HM).mem (uh HEn) f2' (by omega) (by omega) (by omega) (by omega));obtain⟨rb2,hrb2⟩:∃rb2,rb2=rb' :=⟨_,rfl⟩;rw[←hrb2] at HM2;clear m2 f2' CC e0 e1 e2 e3 f1 f2 f3 d0 d1 d2 d3
    by_cases hre:re=0
    ·have u1:((re:Int) !=0)=false:=by rw[bne_eq_false_iff_eq];omega
     obtain⟨k2,hS2⟩:=(uh HLn).2 hre;have HS2:=hide hS2;clear hre hS2
     gi_wp2_with fail
     exact⟨(uh HW2).1,(uh HW2).2,G2,rb2,rs,k2,op,uh HM2,by rw[List.length_append];exact uh HS2⟩
    ·have u1:((re:Int) !=0)=true:=by rw[bne_iff_ne];omega
     have HR2:=hide ((uh HLn).1 hre);have y1:=(uh HM2).r1.cell? (i:=0) rfl;have y2:=(uh HM2).r2.cell? (i:=0) rfl;have z1:=(uh HM2).r1.frozen 0;have z2:=(uh HM2).r2.frozen 0;have HX:=hide ((uh HM2).leave re num);have HW3:=hide ((uh HW2).trans (Way.leave (B:=V.heap.size) (l:=V.heap.size+1) (uh HM2) hgl re num));clear hre
     gi_wp2_with fail
     exact⟨(uh HW3).1,(uh HW3).2,rfl,G2,rb2,_,by rw[uh HR2];exact uh HX⟩
   ·have w1:((kd:Int)==1)=false:=by rw[beq_eq_false_iff_ne];omega
    by_cases k5:kd=5
    ·have w5:((kd:Int)==5)=true:=by rw[beq_iff_eq];omega
     have hLE:lineF rec fs sj op ⟨num,kd,L,Rr⟩=((ruleF sj ⟨num,kd,L,Rr⟩).1,num,(ruleF sj ⟨num,kd,L,Rr⟩).2.1,(ruleF sj ⟨num,kd,L,Rr⟩).2.2):=by unfold lineF;simp only;rw[if_neg k1,if_pos k5]
     rw[hLE] at HLn;have CC:=hide (rule_any ⟨num,kd,L,Rr⟩ kj (uh HM).mem hok (uh HEn).glob (uh HEn).n4 hlL hlr);clear hLE k1 k5;generalize ruleF sj ⟨num,kd,L,Rr⟩=rc at*;obtain⟨re,op2,rs⟩:=rc;unfold lnV at CC;simp only at HLn CC;unfold readAct lnV;simp only
     gi_wp2_with fail
     refine⟨trivial,(CallsIn.inRound _ (callsIn_wide.2 (uh CC))).mono ?_⟩
     rintro e W2 ⟨G2,rb2,rfl,m2,f2'⟩
     have HM1:=hide ((uh HM).step m2 f2');have HM2:=hide ((uh HM1).open (opV rb2 op2));have HW2:=hide ((Way.fr (B:=V.heap.size) (l:=V.heap.size+1) (uh HM).mem (uh HEn) f2' (by omega) (by omega) (by omega) (by omega)).trans (Way.open (uh HM1) hgl (opV rb2 op2)));have x3:=(uh HM1).r3.cell? (i:=0) rfl;have z3:=(uh HM1).r3.frozen 0
     obtain⟨pv,hpv⟩:∃pv,opV rb2 op2= .pointer pv:=by cases op2<;>exact⟨_,rfl⟩
     rw[hpv] at HM2 HW2;rw[hpv];have HPV:=hide hpv;clear m2 f2' CC e0 e1 e2 e3 f1 f2 f3 d0 d1 d2 d3 hpv
     by_cases hre:re=0
     ·have u1:((re:Int) !=0)=false:=by rw[bne_eq_false_iff_eq];omega
      obtain⟨k2,hS2⟩:=(uh HLn).2 hre;have HS2:=hide hS2;clear hre hS2
      gi_wp2_with fail
      exact⟨(uh HW2).1,(uh HW2).2,G2,rb2,rs,k2,op2,by rw[uh HPV];exact uh HM2,by rw[List.length_append];exact uh HS2⟩
     ·have u1:((re:Int) !=0)=true:=by rw[bne_iff_ne];omega
      have HR2:=hide ((uh HLn).1 hre);have y1:=(uh HM2).r1.cell? (i:=0) rfl;have y2:=(uh HM2).r2.cell? (i:=0) rfl;have z1:=(uh HM2).r1.frozen 0;have z2:=(uh HM2).r2.frozen 0;have HX:=hide ((uh HM2).leave re num);have HW3:=hide ((uh HW2).trans (Way.leave (B:=V.heap.size) (l:=V.heap.size+1) (uh HM2) hgl re num));clear hre
      gi_wp2_with fail
      exact⟨(uh HW3).1,(uh HW3).2,rfl,G2,rb2,_,by rw[uh HR2];exact uh HX⟩
    ·have w5:((kd:Int)==5)=false:=by rw[beq_eq_false_iff_ne];omega
     have HM1:=hide ((uh HM).open (.pointer none));have HE1:=hide (hE.fr (uh HM1).fr);have HB1:=hide ((uh HBX).other (show Bx≠w.heap.size+3 by omega) 0 (.pointer none));have HW1:=hide (Way.open (B:=V.heap.size) (l:=V.heap.size+1) (uh HM) hgl (.pointer none));have i0:=(uh HM1).r0.cell? (i:=0) rfl;have j0:=(uh HB1).cell? (i:=0) rfl;have j1:=(uh HB1).cell? (i:=1) rfl
     have j2:=(uh HB1).cell? (i:=2) rfl;have j3:=(uh HB1).cell? (i:=3) rfl;obtain⟨pv,hpv⟩:∃pv,opV rb' op= .pointer pv:=by cases op<;>exact⟨_,rfl⟩
     rw[hpv] at e3
     by_cases k2:kd=2
     ·have w2:((kd:Int)==2)=true:=by rw[beq_iff_eq];omega
      have hLE:lineF rec fs sj op ⟨num,kd,L,Rr⟩=((includeF rec fs sj ⟨num,kd,L,Rr⟩).1,(includeF rec fs sj ⟨num,kd,L,Rr⟩).2.1,none,(includeF rec fs sj ⟨num,kd,L,Rr⟩).2.2):=by unfold lineF;simp only;rw[if_neg k1,if_neg k5,if_pos k2]
      rw[hLE] at HLn;have CC:=hide (include_any hrec hro hf ⟨num,kd,L,Rr⟩ (uh HM1).mem (uh HE1) hok ((uh HS).opn.trans ho) ho3 (by omega) hlr);clear hLE k1 k5 k2;generalize includeF rec fs sj ⟨num,kd,L,Rr⟩=rc at*;obtain⟨re,rn,rs⟩:=rc;unfold lnV at CC;simp only at HLn CC;unfold readAct lnV;simp only
      gi_wp2_with fail
      refine⟨trivial,(CallsIn.inRound _ (callsIn_wide.2 (uh CC))).mono ?_⟩
      rintro e W2 ⟨G2,rb2,rfl,m2,f2'⟩
      have HM2:=hide ((uh HM1).step m2 f2');have HW2:=hide ((uh HW1).trans (Way.fr (B:=V.heap.size) (l:=V.heap.size+1) (uh HM1).mem (uh HE1) f2' (by omega) (by omega) (by omega) (by omega)));clear m2 f2' CC e0 e1 e2 e3 f1 f2 f3 d0 d1 d2 d3 i0 j0 j1 j2 j3
      by_cases hre:re=0
      ·have u1:((re:Int) !=0)=false:=by rw[bne_eq_false_iff_eq];omega
       obtain⟨k2,hS2⟩:=(uh HLn).2 hre;have HS2:=hide hS2;clear hre hS2
       gi_wp2_with fail
       exact⟨(uh HW2).1,(uh HW2).2,G2,rb2,rs,k2,none,uh HM2,by rw[List.length_append];exact uh HS2⟩
      ·have u1:((re:Int) !=0)=true:=by rw[bne_iff_ne];omega
       have HR2:=hide ((uh HLn).1 hre);have y1:=(uh HM2).r1.cell? (i:=0) rfl;have y2:=(uh HM2).r2.cell? (i:=0) rfl;have z1:=(uh HM2).r1.frozen 0;have z2:=(uh HM2).r2.frozen 0;have HX:=hide ((uh HM2).leave re rn);have HW3:=hide ((uh HW2).trans (Way.leave (B:=V.heap.size) (l:=V.heap.size+1) (uh HM2) hgl re rn));clear hre
       gi_wp2_with fail
       exact⟨(uh HW3).1,(uh HW3).2,rfl,G2,rb2,_,by rw[uh HR2];exact uh HX⟩
     ·have w2:((kd:Int)==2)=false:=by rw[beq_eq_false_iff_ne];omega
      have hLE:lineF rec fs sj op ⟨num,kd,L,Rr⟩=((assignF sj ⟨num,kd,L,Rr⟩).1,num,none,(assignF sj ⟨num,kd,L,Rr⟩).2):=by unfold lineF;simp only;rw[if_neg k1,if_neg k5,if_neg k2]
      rw[hLE] at HLn;have CC:=hide (assign_any ⟨num,kd,L,Rr⟩ (uh HM1).mem hok.short (by omega) (uh HE1).glob hlr);clear hLE k1 k5 k2;generalize assignF sj ⟨num,kd,L,Rr⟩=rc at*;obtain⟨re,rs⟩:=rc;unfold lnV at CC;simp only at HLn CC;unfold readAct lnV;simp only
      gi_wp2_with fail
      refine⟨trivial,(CallsIn.inRound _ (callsIn_wide.2 (uh CC))).mono ?_⟩
      rintro e W2 ⟨rfl,m2,f2'⟩
      have HM2:=hide ((uh HM1).step m2 f2');have HW2:=hide ((uh HW1).trans (Way.fr (B:=V.heap.size) (l:=V.heap.size+1) (uh HM1).mem (uh HE1) f2' (by omega) (by omega) (by omega) (by omega)));obtain⟨rb2,hrb2⟩:∃rb2,rb2=rb' :=⟨_,rfl⟩;obtain⟨G2,hG2⟩:∃G2,G2=G:=⟨_,rfl⟩;rw[←hrb2,←hG2] at HM2;clear m2 f2' CC e0 e1 e2 e3 f1 f2 f3 d0 d1 d2 d3 i0 j0 j1 j2 j3
      by_cases hre:re=0
      ·have u1:((re:Int) !=0)=false:=by rw[bne_eq_false_iff_eq];omega
       obtain⟨k2,hS2⟩:=(uh HLn).2 hre;have HS2:=hide hS2;clear hre hS2
       gi_wp2_with fail
       exact⟨(uh HW2).1,(uh HW2).2,G2,rb2,rs,k2,none,uh HM2,by rw[List.length_append];exact uh HS2⟩
      ·have u1:((re:Int) !=0)=true:=by rw[bne_iff_ne];omega
       have HR2:=hide ((uh HLn).1 hre);have y1:=(uh HM2).r1.cell? (i:=0) rfl;have y2:=(uh HM2).r2.cell? (i:=0) rfl;have z1:=(uh HM2).r1.frozen 0;have z2:=(uh HM2).r2.frozen 0;have HX:=hide ((uh HM2).leave re num);have HW3:=hide ((uh HW2).trans (Way.leave (B:=V.heap.size) (l:=V.heap.size+1) (uh HM2) hgl re num));clear hre
       gi_wp2_with fail
       exact⟨(uh HW3).1,(uh HW3).2,rfl,G2,rb2,_,by rw[uh HR2];exact uh HX⟩
  ·have b1:((er:Int) !=0)=true:=by rw[bne_iff_ne];omega
   have HRe:=hide ((uh HS).err (uh HD1) her);have HX:=hide (((uh HM).leave er num).later (Below.refl _ _).drew);have HW:=hide ((Way.leave (B:=V.heap.size) (l:=V.heap.size+1) (uh HM) hgl er num).trans (Way.below (Below.refl _ _).drew));clear her;unfold readAct lnV;simp only
   gi_wp2_with fail
   gi_region_o
   all_goals gi_wp2_with fail
   all_goals exact⟨(uh HW).1,(uh HW).2,rfl,G,rb',opV rb' op,by rw[uh HRe];exact uh HX⟩
 case done=>
  rintro D W1 hD ⟨G,rb',sj,kj,op,hM,hS⟩ hK
  have hRe:R=(0,0,sj):=by
   have:=hS.eq;rw[List.drop_length,linesF] at this;exact this
  have r1:=hM.r1;have r2:=hM.r2;have c1:=r1.cell? (i:=0) rfl;have c2:=r2.cell? (i:=0) rfl;have f1:=r1.frozen 0;have f2:=r2.frozen 0;have HX:=hide (hM.leave 0 0);have hne1:D≠w.heap.size+1:=by omega
  have hne2:D≠w.heap.size+2:=by omega
  have HK:=hide hK;clear hS hM r1 r2
  gi_wp2_with fail
  have hXZ:ReM w F c G rb' sj (opV rb' op) 0 0 ((W1.setCell ⟨w.heap.size+1,0,none⟩ (.int .i64 0)).setCell ⟨w.heap.size+1+1,0,none⟩ (.int .i64 0)):=uh HX
  have hKZ:((W1.setCell ⟨w.heap.size+1,0,none⟩ (.int .i64 0)).setCell ⟨w.heap.size+1+1,0,none⟩ (.int .i64 0)).heap[D]?=some (.deferred (some [])):=by
   rw[Below.heap_setCell _ _ _ _ (by simp only;omega),Below.heap_setCell _ _ _ _ (by simp only;omega)];exact uh HK
  generalize ((W1.setCell ⟨w.heap.size+1,0,none⟩ (.int .i64 0)).setCell ⟨w.heap.size+1+1,0,none⟩ (.int .i64 0))=Z at*;have hM3:ReM w F c G rb' sj (opV rb' op) 0 0 (Z.putObj D (.deferred none)):=ReM.own (β:=Unit) (B:=V.heap.size) (by omega) (by omega) (by omega) (by omega) () Z _ _ hXZ (grownBy_putObj' Z D (.deferred none)) (fun r e=>by cases e;exact⟨by omega,_,hKZ,rfl⟩)
  refine⟨by simp,.inl ⟨_,_,rfl,run_takeDeferred hKZ,?_⟩⟩;rw[hRe];refine⟨_,?_,G,rb',rfl,hM3.mem,hM3.fr⟩;have c1:=hM3.r1.cell? (i:=0) rfl;have c2:=hM3.r2.cell? (i:=0) rfl;simp[results,Tryz.results89,go_sem,c1,c2]
 case stop=>
  rintro D cc pre post W1 hD hL ⟨rfl,G,rb',v3,hM⟩ hK
  have hM3:ReM w F c G rb' R.2.2 v3 R.1 R.2.1 (W1.putObj D (.deferred none)):=ReM.own (β:=Unit) (B:=V.heap.size) (by omega) (by omega) (by omega) (by omega) () W1 _ _ hM (grownBy_putObj' W1 D (.deferred none)) (fun r e=>by cases e;exact⟨by omega,_,hK,rfl⟩)
  gi_wp2_with fail
  refine⟨by simp,.inl ⟨_,_,rfl,run_takeDeferred hK,?_⟩⟩;refine⟨_,?_,G,rb',rfl,hM3.mem,hM3.fr⟩;have c1:=hM3.r1.cell? (i:=0) rfl;have c2:=hM3.r2.cell? (i:=0) rfl;simp[results,Tryz.results89,go_sem,c1,c2]
end
end Go.Proofs.YtjelacjggijmfaaGreatDoor
