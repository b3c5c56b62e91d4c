/-
  Files by rising names: by their sorted names, and by being put in one by one.
-/
import Derived.Test.YtjelacjggijmfaaGreatDoorTMP4
import Derived.Test.YtjelacjggijmfaaGreatDoorTSS2
import Derived.Sort.QuietIn
import Derived.Shelf.SlIter.Nil
import Derived.Shelf.SortM.Plain
import Derived.Shelf.SortM.SortNone
import Derived.Ground.GgzProg
import Derived.Ground.SlgmProg
import Derived.Test.YtjelacjggijmfaaGreatDoorProg
import Derived.Test.YtjelacjggijmfaaGreatDoorTRF4
set_option maxHeartbeats 4000000
set_option maxRecDepth 20000
namespace Go.Proofs.YtjelacjggijmfaaGreatDoor
open Go.RowKit Go.Shelf Go.MapKept Go.ChangeMaps Go.Maps
attribute [local go_sem] Oper.semAt_some
section
variable {X Y:World} {B bm bx bf bi:Nat} {ap:Option Addr} {cp:Nat} {ss:List Pl.Bs} {ve:Value} {ef:List Pl.Eff} {vs vg vs' vg' :Value} {st:List Bool} {fl:Nat→Bool} {go:Nat} {D:Pl.Wd}
theorem own_apart {W:World} {B e size n:Nat} {v:Value} {xs:List Value} (h:W.ownsRow B e size v n xs) {row:Option Nat} (hr:∀r,row=some r→∃o:Obj,W.heap[r]?=some o∧o.isCells=false):v.ownBlock=none∨v.ownBlock≠row:=by
 cases e:v.ownBlock with
 |none=>exact .inl rfl
 |some k=>
  right
  intro e2;obtain⟨cur,fz,hc⟩:=own_type h k e;obtain⟨o,ho,hf⟩:=hr k e2.symm;rw[hc] at ho;cases ho;cases hf
theorem MM.own (h:MM X B bm bx bf bi ap cp ss ve ef vs vg st fl go D) {row:Option Nat} (hg:X.grownBy Y row) (hr:∀r,row=some r→B≤r∧∃o:Obj,X.heap[r]?=some o∧o.isCells=false):MM Y B bm bx bf bi ap cp ss ve ef vs vg st fl go D:=by
 obtain⟨b,h1,h2⟩:=h.strs;have l1:=h.lm;have l2:=h.lx;have l3:=h.lf;have l4:=h.li;have l5:=h.lw;have htn:Tn (fun k=>B≤k) X Y:=Tn.grown hg (fun k e=>(hr k e).1)
 exact⟨h.row.tn htn (by omega),h.pw.tn htn (by omega) (by omega) (by omega),⟨b,h1,rds_same h2 (fun hp=>htn.block b (by have:=(h1 hp).2.1;omega) (by have:=(h1 hp).2.1;omega))⟩,
  World.ownsRow.kept h.stack hg (own_apart h.stack (fun r e=>(hr r e).2)),World.ownsRow.kept h.given hg (own_apart h.given (fun r e=>(hr r e).2)),l1,l2,l3,l4,Nat.le_trans l5 hg.size,h.n1,h.n2,h.n3⟩
theorem MTn.keeps (h:MM X B bm bx bf bi ap cp ss ve ef vs vg st fl go D) (ht:MTn bm bx bf vs vg vs' vg' X Y):KeepsFrom B X Y:=by
 have l1:=h.lm;have l2:=h.lx;have l3:=h.lf;refine⟨ht.tn.size,fun k o hk ho hc=>(ht.tn.block k (Array.getElem?_eq_some_iff.1 ho).1 (fun e=> ?_)).trans ho⟩
 rcases e with e|e|e|e|e
 ·omega
 ·omega
 ·omega
 ·obtain⟨cur,fz,hc'⟩:=own_type h.stack k e.symm
  rw[hc'] at ho;cases ho;cases hc
 ·obtain⟨cur,fz,hc'⟩:=own_type h.given k e.symm
  rw[hc'] at ho;cases ho;cases hc
theorem MTn.kp {Bt l:Nat} (h:MM X B bm bx bf bi ap cp ss ve ef vs vg st fl go D) (ht:MTn bm bx bf vs vg vs' vg' X Y) (hB:Bt<B) (h1:Bt≠bm) (h2:Bt≠bx) (h3:Bt≠bf):KpI Bt l X Y:=by
 refine⟨fun c f e=>(ht.tn.block _ (Array.getElem?_eq_some_iff.1 e).1 (fun k=> ?_)).trans e,fun j c f e=>(ht.tn.block _ (Array.getElem?_eq_some_iff.1 e).1 (fun k=> ?_)).trans e,ht.tn.size⟩
 ·rcases k with k|k|k|k|k
  ·exact h1 k
  ·exact h2 k
  ·exact h3 k
  ·have:=(h.stack.lt Bt k.symm).1;omega
  ·have:=(h.given.lt Bt k.symm).1;omega
 ·rcases k with k|k|k|k|k
  ·subst k
   have:=h.row;unfold Row at this;rw[this] at e;cases e
  ·subst k
   have:=h.pw.row;unfold Row at this;rw[this] at e;cases e
  ·subst k
   obtain⟨es,clock,hb,_⟩:=h.pw.files;rw[hb] at e;cases e
  ·obtain⟨cur,fz,hc'⟩:=own_type h.stack j k.symm
   rw[hc'] at e;cases e
  ·obtain⟨cur,fz,hc'⟩:=own_type h.given j k.symm
   rw[hc'] at e;cases e
end
structure RunI (n:Nat) (w:World) (bm bx bf bi:Nat) (ap:Option Addr) (cp:Nat) (ss:List Pl.Bs) (ve:Value) (ef:List Pl.Eff) (vs vg:Value) (st:List Bool) (fl:Nat→Bool) (go:Nat) (D:Pl.Wd) (W:World):Prop where
 mm:MM W (n+2) bm bx bf bi ap cp ss ve ef vs vg st fl go D
 box:Row W n 256 [.pointer (some ⟨bm,0,none⟩)]
 tn:Tn (fun k=>k=bm∨k=bx∨k=bf) w W
section
variable {n:Nat} {w X Y:World} {bm bx bf bi:Nat} {ap:Option Addr} {cp:Nat} {ss:List Pl.Bs} {ve:Value} {ef:List Pl.Eff} {vs vg vs' vg' :Value} {st:List Bool} {fl:Nat→Bool} {go:Nat} {D:Pl.Wd}
theorem RunI.own (hn:w.heap.size=n) (h:RunI n w bm bx bf bi ap cp ss ve ef vs vg st fl go D X) {row:Option Nat} (hg:X.grownBy Y row) (hr:∀r,row=some r→n+2≤r∧∃o:Obj,X.heap[r]?=some o∧o.isCells=false):RunI n w bm bx bf bi ap cp ss ve ef vs vg st fl go D Y:=by
 have htn:Tn (fun k=>n+2≤k) X Y:=Tn.grown hg (fun k e=>(hr k e).1);refine⟨h.mm.own hg hr,h.box.tn htn (by omega),⟨hg.os.trans h.tn.os,hg.tape.trans h.tn.tape,hg.output.trans h.tn.output,Nat.le_trans h.tn.size hg.size,fun k hk hp=>(htn.block k ?_ (by omega)).trans (h.tn.block k hk hp)⟩⟩;have:=h.tn.size;omega
theorem RunI.later (h:RunI n w bm bx bf bi ap cp ss ve ef vs vg st fl go D X) (hb:Below X.heap.size X Y):RunI n w bm bx bf bi ap cp ss ve ef vs vg st fl go D Y:=
 ⟨h.mm.later hb,h.box.later hb,h.tn.trans (Tn.later hb)⟩
theorem RunI.did {st' :List Bool} {fl' :Nat→Bool} {go' :Nat} {D' :Pl.Wd} (hn:w.heap.size=n) (h:RunI n w bm bx bf bi ap cp ss ve ef vs vg st fl go D X) (hbn:bm<n∧bx<n∧bf<n) (hm:MM Y (n+2) bm bx bf bi ap cp ss ve ef vs' vg' st' fl' go' D') (ht:MTn bm bx bf vs vg vs' vg' X Y):RunI n w bm bx bf bi ap cp ss ve ef vs' vg' st' fl' go' D' Y:=by
 have hx:=h.tn.size;have hs:∀k,some k=vs.ownBlock→n+2≤k:=fun k e=>(h.mm.stack.lt k e.symm).1
 have hg:∀k,some k=vg.ownBlock→n+2≤k:=fun k e=>(h.mm.given.lt k e.symm).1
 refine⟨hm,h.box.tn ht.tn (fun e=> ?_),⟨ht.tn.os.trans h.tn.os,ht.tn.tape.trans h.tn.tape,ht.tn.output.trans h.tn.output,Nat.le_trans hx ht.tn.size,fun k hk hp=>(ht.tn.block k (by omega) (fun e=> ?_)).trans (h.tn.block k hk hp)⟩⟩
 ·rcases e with e|e|e|e|e
  ·omega
  ·omega
  ·omega
  ·have:=hs n e;omega
  ·have:=hg n e;omega
 ·rcases e with e|e|e|e|e
  ·exact hp (.inl e)
  ·exact hp (.inr (.inl e))
  ·exact hp (.inr (.inr e))
  ·have:=hs k e;omega
  ·have:=hg k e;omega
end
structure RunX (w:World) (bm bx bf bi:Nat) (ap:Option Addr) (cp:Nat) (ss:List Pl.Bs) (ve:Value) (ef:List Pl.Eff) (D:Pl.Wd) (W:World):Prop where
 all:∃vs vg st fl go,MM W (w.heap.size+2) bm bx bf bi ap cp ss ve ef vs vg st fl go D
 tn:Tn (fun k=>k=bm∨k=bx∨k=bf) w W
def runAct (n bm:Nat) (s:ByteArray) (Bx:Nat) (x:Pl.Ins×Bool):Act:={tmps:= #[.pointer (some ⟨bm,0,none⟩),.string s,.pointer (some ⟨n,0,none⟩),undef,.pointer (some ⟨Bx,0,none⟩),.string s,
 .func (.func 169) #[] #[.pointer (some ⟨n+1,0,none⟩)],insV x.1,.bool x.2,undef,undef,undef,undef,undef,undef,undef,undef,undef,undef,undef,undef,undef,undef,undef],defers:=[]}
def runW0 (bm:Nat) (s:ByteArray) (w:World):World:=(w.alloc (.cells #[.pointer (some ⟨bm,0,none⟩)] 256)).alloc (.cells #[.string s] 9)
theorem runStart (bm:Nat) (s:ByteArray) (w:World):Row (runW0 bm s w) w.heap.size 256 [.pointer (some ⟨bm,0,none⟩)]∧(runW0 bm s w).heap[w.heap.size+1]?=some (.cells #[.string s] 9 (0,0))∧(runW0 bm s w).heap.size=w.heap.size+2∧Below w.heap.size w (runW0 bm s w):=by
 have h1:=Row.new w 256 [.pointer (some ⟨bm,0,none⟩)];refine⟨h1.later ((Below.refl _ _).alloc (Nat.le_refl _) _),?_,by simp[runW0],((Below.refl _ w).alloc (Nat.le_refl _) _).alloc (by simp only[World.size_alloc];omega) _⟩;have:=Row.new (w.alloc (.cells #[.pointer (some ⟨bm,0,none⟩)] 256)) 9 [.string s];rw[World.size_alloc] at this;exact this
theorem MM.wide {w Z:World} {B B' bm bx bf bi:Nat} {ap:Option Addr} {cp:Nat} {ss:List Pl.Bs} {ve:Value} {ef:List Pl.Eff} {fl:Nat→Bool} {go:Nat} {X:Pl.Wd} (hc:X.cmds=[]) (h:MM w B bm bx bf bi ap cp ss ve ef (.slice none 0 0) (.slice none 0 0) [] fl go X) (hb:Below w.heap.size w Z) (hB:B≤B') (hZ:B' ≤Z.heap.size):MM Z B' bm bx bf bi ap cp ss ve ef (.slice none 0 0) (.slice none 0 0) [] fl go X:=by
 obtain⟨b,h1,h2⟩:=(h.later hb).strs;have h' :=h.later hb;exact⟨h'.row,h'.pw,⟨b,fun hp=>⟨(h1 hp).1,Nat.lt_of_lt_of_le (h1 hp).2.1 hB,(h1 hp).2.2⟩,h2⟩,World.ownsRow_nil _ _ _ _,by rw[hc];exact World.ownsRow_nil _ _ _ _,Nat.lt_of_lt_of_le h'.lm hB,Nat.lt_of_lt_of_le h'.lx hB,Nat.lt_of_lt_of_le h'.lf hB,Nat.lt_of_lt_of_le h'.li hB,hZ,h'.n1,h'.n2,h'.n3⟩
theorem EffOk.tn {w W:World} {L be oe:Nat} {ae:Option Addr} {ef:List Pl.Eff} {S:List Pl.Bs} {p:Nat→Prop} (h:EffOk w L be oe ae ef S) (ht:Tn p w W) (hL:L≤w.heap.size) (hp:∀k,p k→L≤k):EffOk W L be oe ae ef S:=⟨h.at',h.rd.below (ht.below hL hp),h.names,h.many,h.writes,h.few⟩
theorem mrun_in (s:ByteArray) (hs:s.size≤8388608) (ae:Option Addr) (ce L be oe:Nat) (S:List Pl.Bs) (bm bx bf bi:Nat) (ap:Option Addr) (cp:Nat) (ss:List Pl.Bs) (ef:List Pl.Eff) (X:Pl.Wd) (w:World)
 (hM:MM w w.heap.size bm bx bf bi ap cp ss (.slice ae ef.length ce) ef (.slice none 0 0) (.slice none 0 0) [] (fun _=>false) 0 X) (hsn:Pl.Sn s.data.toList ss.length 0 0) (hx:X.exit=0) (hc:X.cmds=[])
 (hE:EffOk w L be oe ae ef S) (hL0:L≤bm) (hL1:L≤bx) (hL2:L≤bf) (hfit:Fit S X.files):
 CallsIn Fence.wide 9 Tryz.prog 82 #[.pointer (some ⟨bm,0,none⟩),.string s] w fun e w' =>e= .returned (.tuple #[])∧RunX w bm bx bf bi ap cp ss (.slice ae ef.length ce) ef (Pl.runW s.data.toList ss ef X) w' :=by
 have hmix:Tryz.prog.follows .mixedOrders=true:=by kernel_rfl
 refine callsIn_of_wp_marks Tryz.func82 rfl trivial ?_;simp only[Tryz.ntmps82,List.size_toArray,List.length_cons,List.length_nil,Nat.reduceAdd,Nat.reduceSub,Array.replicate_succ,Array.replicate_zero,List.push_toArray,List.append_toArray,List.nil_append,List.cons_append]
 gi_wp2_with fail
 refine⟨trivial,(callsIn_wide.2 (instructions_any _ _)).mono ?_⟩
 rintro e w2 ⟨rfl,rfl⟩
 gi_wp2_with fail
 obtain⟨hbox,htx,hVs,hVb⟩:=runStart bm s w;have hm0:=hM.wide hc hVb (Nat.le_add_right _ 2) (by rw[hVs];omega);unfold runW0 at hbox htx hVs hVb hm0;generalize (w.alloc (.cells #[.pointer (some ⟨bm,0,none⟩)] 256)).alloc (.cells #[.string s] 9)=V at*;have hlm:=hM.lm;have hlx:=hM.lx;have hlf:=hM.lf;have hlL:L≤w.heap.size:=by omega
 generalize hn:w.heap.size=n at*;have hsz:=Lib.size_eq s;generalize hR:Pl.runW s.data.toList ss ef X=R at*
 refine Mk.range_law (gf:=169) (lb:= #[.pointer (some ⟨n+1,0,none⟩)]) rfl (enters_of Tryz.func169 (by kernel_rfl) rfl)
  (ins_iter s (n+1) V hs htx) KpI.trans (fun W1 l1 o o' _ hl ho=>KpI.putObj _ W1 l1 o o' hl ho) (Below.refl _ _) (fun _=>rfl)
  (fun pre W1=>∃p st fl go D vs vg,RunS s.data.toList ss ef S R pre p st fl go D∧RunI n w bm bx bf bi ap cp ss (.slice ae ef.length ce) ef vs vg st fl go D W1)
  (fun c _ W1=>c= .ret∧∃vs vg st fl go,RunI n w bm bx bf bi ap cp ss (.slice ae ef.length ce) ef vs vg st fl go R W1)
  (fun s X Y row hs hgr hr=>by
   obtain⟨p,st,fl,go,D,vs,vg,h1,h2⟩:=hs
   exact⟨p,st,fl,go,D,vs,vg,h1,h2.own hn hgr (by rw[←hVs];exact hr)⟩)
  (fun c s X Y row hs hgr hr=>by
   obtain⟨h1,vs,vg,st,fl,go,h2⟩:=hs
   exact⟨h1,vs,vg,st,fl,go,h2.own hn hgr (by rw[←hVs];exact hr)⟩)
  ⟨0,[],fun _=>false,0,X,_,_,⟨⟨_,InsInv.start _⟩,hsn,by rw[←hR];exact Pl.Ends.start _ _ _ _,by omega,hx,hfit,by rw[hc];simp⟩,⟨hm0,hbox,Tn.later (hn▸hVb)⟩⟩
  (fun x a' W1=>∃Bx,n+1<Bx∧Row W1 Bx 254 [.int .u8 x.1.op,.int .i64 x.1.at_,.int .i64 x.1.next,.int .i64 x.1.first,.int .i64 x.1.second]∧a' =runAct n bm s Bx x)
  (fun x a' s X Y row hs hgr hr=>by
   obtain⟨Bx,h1,h2,h3⟩:=hs
   exact⟨Bx,h1,Row.own V.heap.size _ _ _ () X Y row h2 hgr hr,h3⟩) ?assign ?body ?done ?stop
 case assign=>
  rintro l1 pre ⟨i,ok⟩ post W1 K _ hi hK
  have hsz5:n+2≤W1.heap.size:=by obtain⟨_,_,_,_,_,_,_,_,h⟩:=hi;exact h.mm.lw
  unfold encI insV
  gi_wp2
  have hb:=(Below.refl _ W1).alloc (Nat.le_refl _) (.cells #[.int .u8 i.op,.int .i64 i.at_,.int .i64 i.next,.int .i64 i.first,.int .i64 i.second] 254);refine hK _ _ (keepsBelow _ hb) (KpI.below (by omega) hb) ?_ ⟨W1.heap.size,by omega,Row.new W1 254 _,rfl⟩;obtain⟨p,st,fl,go,D,vs,vg,h1,h2⟩:=hi;exact⟨p,st,fl,go,D,vs,vg,h1,h2.later hb⟩
 case body=>
  rintro l1 pre x post a' W1 hL ⟨p,st,fl,go,D,vs,vg,hS,hI⟩ ⟨Bx,hBx,hbx,rfl⟩
  obtain⟨hp,hw,rfl,hnx⟩:=hS.cut hL;obtain⟨d0,d1,d2,d3,d4⟩:=hbx.cells5;have b0:=hI.box.cell 0 (by simp);simp only[List.getElem_cons_zero] at b0;have g0:=hI.mm.row.cell? (i:=259) (mCells_tail 0);have hat:(Pl.mkIns s.data.toList p).at_=p:=rfl;have hF:=first_le s.data.toList p;have hgt:=Pl.next_gt hw;have hnl:=Pl.next_le hw;have hpl:p≤8388608:=by omega
  have HI:=hide hI;have HNX:=hide hnx;have HS:=hide hS;have HP:=hide hp;have HW:=hide hw
  by_cases hg:p<go
  ·have hS2:=hide (hS.skip hg hnx hw)
   have tg:(p:Int)<(go:Int):=by omega
   simp only[hat] at d1;clear hL hS hI hbx hnx hw hsz hgt hnl hat;generalize Pl.mkIns s.data.toList p=i at*;unfold runAct insV;simp only
   gi_wp2_with fail
   gi_region_o
   all_goals gi_wp2_with fail
   all_goals exact⟨keepsBelow _ (Below.refl _ W1).drew,KpI.below (by have:=(uh HI).mm.lw;omega) (Below.refl _ W1).drew,_,_,_,_,_,_,_,uh hS2,(uh HI).later (Below.refl _ W1).drew⟩
  ·have tg:¬((Pl.mkIns s.data.toList p).at_:Int)<(go:Int):=by rw[hat];omega
   have hnext:=hS.next hg hp hE.names hnx;have hsn2:=hS.sn;rw[Nat.max_eq_left (by omega)] at hsn2;have hfit2:=hsn2.fits hp;obtain⟨h1,h8⟩:=whole_op hw
   have hF2:(Pl.mkIns s.data.toList p).op=4∨(Pl.mkIns s.data.toList p).op=8→(Pl.mkIns s.data.toList p).first<256:=fun e=>by
    have e' :Pl.opAt s.data.toList p=4∨Pl.opAt s.data.toList p=8:=e;have hz:Pl.isz (Pl.opAt s.data.toList p)=2:=by rcases e' with e' |e' <;>rw[e']<;>rfl
    have:(Pl.mkIns s.data.toList p).first=Pl.opAt s.data.toList (p+1):=by unfold Pl.mkIns;simp[hz]
    rw[this];exact Pl.opAt_lt _ _
   have hE2:EffOk W1.drew L be oe ae ef S:=hE.tn (hI.tn.trans (Tn.later (Below.refl _ W1).drew)) (by omega) (fun k e=>by omega)
   have h18:st.length≤18:=by
    have hr:=hfit2.rise;have ht:=hfit2.taken;unfold Pl.rise at hr;have:Pl.taken (Pl.opAt s.data.toList p)≤2:=by unfold Pl.taken;split<;>(try split)<;>omega
    omega
   have CD:=hide (do_any (Pl.mkIns s.data.toList p) ae ce L be oe S (n+2) bm bx bf bi ap cp ss ef vs vg st fl go D W1.drew (hI.mm.later (Below.refl _ W1).drew) h1 h8 hfit2.ops hfit2.taken h18 hF hF2 (by omega) hS.x0 hE2 hL0 hL1 hL2 hS.fit (by have:=hS.cm;omega));have HNT:=hide hnext;clear hL hS hI hbx hnx hw hsz hgt hnl hat hnext hsn2 hfit2 hF2 hE2 h1 h8
   generalize Pl.mkIns s.data.toList p=i at*;generalize Pl.act ss ef i st fl D=ac at*;generalize goA i st go=go2 at*;unfold runAct insV at*;simp only
   gi_wp2_with fail
   gi_region_o
   all_goals gi_wp2_with fail
   all_goals refine⟨trivial,(CallsIn.inRound l1 (callsIn_wide.2 (uh CD))).mono ?_⟩
   all_goals rintro e W2 ⟨rfl,vs2,vg2,hm2,ht2⟩
   all_goals have hI2:=((uh HI).later (Below.refl _ W1).drew).did hn ⟨by omega,by omega,by omega⟩ hm2 ht2
   all_goals have HK2:=hide (MTn.keeps ((uh HI).mm.later (Below.refl _ W1).drew) ht2)
   all_goals have HQ2:=hide (MTn.kp (l:=l1) (Bt:=n+1) ((uh HI).mm.later (Below.refl _ W1).drew) ht2 (by omega) (by omega) (by omega) (by omega))
   all_goals have b2:=hI2.box.cell 0 (by simp)
   all_goals simp only[List.getElem_cons_zero] at b2
   all_goals have g2:=hm2.row.cell? (i:=261) (mCells_tail 2)
   all_goals have HI2:=hide hI2
   all_goals clear hI2 hm2 ht2 CD d0 d1 d2 d3 d4 b0 g0
   all_goals by_cases hxx:ac.2.2.2.exit=0
   all_goals gi_wp2_with fail
   all_goals first
    |exact⟨(keepsBelow _ (Below.refl _ W1).drew).trans (hVs▸uh HK2),(KpI.below (by have:=(uh HI).mm.lw;omega) (Below.refl _ W1).drew).trans (uh HQ2),_,_,_,_,_,_,_,(uh HNT).1 hxx,uh HI2⟩
    |exact⟨(keepsBelow _ (Below.refl _ W1).drew).trans (hVs▸uh HK2),(KpI.below (by have:=(uh HI).mm.lw;omega) (Below.refl _ W1).drew).trans (uh HQ2),rfl,_,_,_,_,_,by rw[←(uh HNT).2 hxx];exact uh HI2⟩
 case done=>
  rintro Dd W1 hD ⟨p,st,fl,go,D,vs,vg,hS,hI⟩ hK
  obtain⟨f,hInv⟩:=hS.inv
  have hpe:¬p<s.data.toList.length:=by
   intro hp
   by_cases hw:Pl.whole s.data.toList p
   ·obtain⟨g,h1,h2⟩:=hInv.step hp hw
    have:=congrArg List.length h1;simp at this
   ·have h1:=hInv.bad hp hw
    have:=congrArg List.length h1;simp at this
  have hDR:D=R:=hS.en.stop (fun e=>hpe (by omega));have hI3:=hI.own (Y:=W1.putObj Dd (.deferred none)) hn (grownBy_putObj' W1 Dd (.deferred none)) (fun r e=>by cases e;exact⟨by omega,_,hK,rfl⟩);have HI3:=hide hI3;have HDR:=hide hDR;clear hS hInv hpe hDR hI hI3
  gi_wp2_with fail
  refine⟨by simp,.inl ⟨_,_,rfl,run_takeDeferred hK,?_⟩⟩;refine⟨.tuple #[],?_,rfl,⟨vs,vg,st,fl,go,by rw[hR,←uh HDR,hn];exact(uh HI3).mm⟩,(uh HI3).tn⟩;exact results_none rfl _ _ _
 case stop=>
  rintro Dd c pre post W1 hD hL ⟨rfl,vs,vg,st,fl,go,hI⟩ hK
  have hI3:=hI.own (Y:=W1.putObj Dd (.deferred none)) hn (grownBy_putObj' W1 Dd (.deferred none)) (fun r e=>by cases e;exact⟨by omega,_,hK,rfl⟩);have HI3:=hide hI3;clear hI hI3
  gi_wp2_with fail
  refine⟨by simp,.inl ⟨_,_,rfl,run_takeDeferred hK,?_⟩⟩;refine⟨.tuple #[],?_,rfl,⟨vs,vg,st,fl,go,by rw[hR,hn];exact(uh HI3).mm⟩,(uh HI3).tn⟩;exact results_none rfl _ _ _
end Go.Proofs.YtjelacjggijmfaaGreatDoor
namespace Go.Proofs
open Go.RowKit Go.Maps Go.Sort Go.Shelf
def Tryz.keys135_ren:Go.Shelf.Ren:=⟨fun|7=>135|10=>180|n=>n,fun|23=>177|26=>9|3=>65|28=>260|0=>0|27=>259|33=>224|4=>4|n=>n,fun|n=>n⟩
theorem Tryz.keys135:Go.Proofs.SlLaysZ.n7 Tryz.prog Tryz.keys135_ren:={
 mixed:=by kernel_rfl
 f7:=⟨Tryz.f135.name,by decide,Tryz.func135.trans (congrArg some (by kernel_rfl))⟩
 f10:=⟨Tryz.f180.name,by decide,Tryz.func180.trans (congrArg some (by kernel_rfl))⟩
 t0:=Tryz.underlying0
 a0:=Tryz.isAgg0
 z0:=Tryz.sizeOf0
 v0:=Tryz.zeroValue0
 t4:=Tryz.underlying4
 a4:=Tryz.isAgg4
 z4:=Tryz.sizeOf4
 v4:=Tryz.zeroValue4
 t23:=Tryz.underlying177
 a23:=Tryz.isAgg177
 z23:=Tryz.sizeOf177
 v23:=Tryz.zeroValue177
 t26:=Tryz.underlying9
 a26:=Tryz.isAgg9
 z26:=Tryz.sizeOf9
 v26:=Tryz.zeroValue9
 t27:=Tryz.underlying259
 a27:=Tryz.isAgg259
 z27:=Tryz.sizeOf259
 v27:=Tryz.zeroValue259
 t28:=Tryz.underlying260
 a28:=Tryz.isAgg260
 z28:=Tryz.sizeOf260
 v28:=Tryz.zeroValue260
 t33:=Tryz.underlying224
 a33:=Tryz.isAgg224
 z33:=Tryz.sizeOf224
 v33:=Tryz.zeroValue224}
def Tryz.sorted134_ren:Go.Shelf.Ren:=⟨fun|6=>134|8=>178|9=>179|11=>218|13=>220|12=>219|23=>262|24=>263|14=>253|15=>254|16=>255|17=>256|18=>257|19=>258|20=>259|21=>260|22=>261|25=>280|26=>281|27=>282|28=>283|29=>284|30=>285|31=>292|n=>n,fun|26=>9|28=>260|24=>30|0=>0|3=>3|37=>335|48=>365|50=>367|4=>4|40=>359|39=>358|45=>263|5=>5|9=>9|51=>374|55=>378|57=>387|58=>298|33=>224|n=>n,fun|n=>n⟩
theorem Tryz.sorted134:Go.Proofs.SlLaysZ.n6 Tryz.prog Tryz.sorted134_ren:={
 mixed:=by kernel_rfl
 f6:=⟨Tryz.f134.name,by decide,Tryz.func134.trans (congrArg some (by kernel_rfl))⟩
 f8:=⟨Tryz.f178.name,by decide,Tryz.func178.trans (congrArg some (by kernel_rfl))⟩
 f11:=⟨Tryz.f218.name,by decide,Tryz.func218.trans (congrArg some (by kernel_rfl))⟩
 t0:=Tryz.underlying0
 a0:=Tryz.isAgg0
 z0:=Tryz.sizeOf0
 v0:=Tryz.zeroValue0
 t24:=Tryz.underlying30
 a24:=Tryz.isAgg30
 z24:=Tryz.sizeOf30
 v24:=Tryz.zeroValue30
 t26:=Tryz.underlying9
 a26:=Tryz.isAgg9
 z26:=Tryz.sizeOf9
 v26:=Tryz.zeroValue9
 t28:=Tryz.underlying260
 a28:=Tryz.isAgg260
 z28:=Tryz.sizeOf260
 v28:=Tryz.zeroValue260
 i26:=by kernel_rfl}
def Tryz.sort179_ren:Go.Shelf.Ren:=⟨fun|6=>179|8=>220|9=>219|19=>262|20=>263|21=>253|22=>254|23=>255|24=>256|25=>257|26=>258|27=>259|28=>260|29=>261|36=>280|31=>281|32=>282|37=>283|38=>284|39=>285|41=>292|n=>n,fun|27=>30|29=>9|3=>3|32=>335|26=>30|0=>0|44=>365|46=>367|4=>4|36=>359|35=>358|41=>263|5=>5|9=>9|53=>374|57=>378|63=>387|64=>298|n=>n,fun|n=>n⟩
theorem Tryz.sort179:Go.Proofs.SlLaysM.n6 Tryz.prog Tryz.sort179_ren:={
 mixed:=by kernel_rfl
 f6:=⟨Tryz.f179.name,by decide,Tryz.func179.trans (congrArg some (by kernel_rfl))⟩
 f8:=Tryz.func220.trans (congrArg some (by kernel_rfl))
 f9:=⟨Tryz.f219.name,by decide,Tryz.func219.trans (congrArg some (by kernel_rfl))⟩
 f19:=Tryz.func262.trans (congrArg some (by kernel_rfl))
 f20:=Tryz.func263.trans (congrArg some (by kernel_rfl))
 f21:=⟨Tryz.f253.name,by decide,Tryz.func253.trans (congrArg some (by kernel_rfl))⟩
 f22:=⟨Tryz.f254.name,by decide,Tryz.func254.trans (congrArg some (by kernel_rfl))⟩
 f23:=⟨Tryz.f255.name,by decide,Tryz.func255.trans (congrArg some (by kernel_rfl))⟩
 f24:=⟨Tryz.f256.name,by decide,Tryz.func256.trans (congrArg some (by kernel_rfl))⟩
 f25:=⟨Tryz.f257.name,by decide,Tryz.func257.trans (congrArg some (by kernel_rfl))⟩
 f26:=⟨Tryz.f258.name,by decide,Tryz.func258.trans (congrArg some (by kernel_rfl))⟩
 f27:=⟨Tryz.f259.name,by decide,Tryz.func259.trans (congrArg some (by kernel_rfl))⟩
 f28:=⟨Tryz.f260.name,by decide,Tryz.func260.trans (congrArg some (by kernel_rfl))⟩
 f29:=⟨Tryz.f261.name,by decide,Tryz.func261.trans (congrArg some (by kernel_rfl))⟩
 f31:=Tryz.func281.trans (congrArg some (by kernel_rfl))
 f32:=Tryz.func282.trans (congrArg some (by kernel_rfl))
 f36:=⟨Tryz.f280.name,by decide,Tryz.func280.trans (congrArg some (by kernel_rfl))⟩
 f37:=⟨Tryz.f283.name,by decide,Tryz.func283.trans (congrArg some (by kernel_rfl))⟩
 f38:=⟨Tryz.f284.name,by decide,Tryz.func284.trans (congrArg some (by kernel_rfl))⟩
 f39:=⟨Tryz.f285.name,by decide,Tryz.func285.trans (congrArg some (by kernel_rfl))⟩
 f41:=⟨Tryz.f292.name,by decide,Tryz.func292.trans (congrArg some (by kernel_rfl))⟩
 t0:=Tryz.underlying0
 a0:=Tryz.isAgg0
 z0:=Tryz.sizeOf0
 v0:=Tryz.zeroValue0
 t3:=Tryz.underlying3
 a3:=Tryz.isAgg3
 z3:=Tryz.sizeOf3
 v3:=Tryz.zeroValue3
 t4:=Tryz.underlying4
 a4:=Tryz.isAgg4
 z4:=Tryz.sizeOf4
 v4:=Tryz.zeroValue4
 t5:=Tryz.underlying5
 a5:=Tryz.isAgg5
 z5:=Tryz.sizeOf5
 v5:=Tryz.zeroValue5
 t9:=Tryz.underlying9
 a9:=Tryz.isAgg9
 z9:=Tryz.sizeOf9
 v9:=Tryz.zeroValue9
 t26:=Tryz.underlying30
 a26:=Tryz.isAgg30
 z26:=Tryz.sizeOf30
 v26:=Tryz.zeroValue30
 t27:=Tryz.underlying30
 a27:=Tryz.isAgg30
 z27:=Tryz.sizeOf30
 v27:=Tryz.zeroValue30
 t29:=Tryz.underlying9
 a29:=Tryz.isAgg9
 z29:=Tryz.sizeOf9
 v29:=Tryz.zeroValue9
 t32:=Tryz.underlying335
 a32:=Tryz.isAgg335
 z32:=Tryz.sizeOf335
 v32:=Tryz.zeroValue335
 t35:=Tryz.underlying358
 a35:=Tryz.isAgg358
 z35:=Tryz.sizeOf358
 v35:=Tryz.zeroValue358
 t36:=Tryz.underlying359
 a36:=Tryz.isAgg359
 z36:=Tryz.sizeOf359
 v36:=Tryz.zeroValue359
 t41:=Tryz.underlying263
 a41:=Tryz.isAgg263
 z41:=Tryz.sizeOf263
 v41:=Tryz.zeroValue263
 t44:=Tryz.underlying365
 a44:=Tryz.isAgg365
 z44:=Tryz.sizeOf365
 v44:=Tryz.zeroValue365
 t46:=Tryz.underlying367
 a46:=Tryz.isAgg367
 z46:=Tryz.sizeOf367
 v46:=Tryz.zeroValue367
 t53:=Tryz.underlying374
 a53:=Tryz.isAgg374
 z53:=Tryz.sizeOf374
 v53:=Tryz.zeroValue374
 t57:=Tryz.underlying378
 a57:=Tryz.isAgg378
 z57:=Tryz.sizeOf378
 v57:=Tryz.zeroValue378
 t63:=Tryz.underlying387
 a63:=Tryz.isAgg387
 z63:=Tryz.sizeOf387
 v63:=Tryz.zeroValue387
 t64:=Tryz.underlying298
 a64:=Tryz.isAgg298
 z64:=Tryz.sizeOf298
 v64:=Tryz.zeroValue298}
theorem Tryz.sorts134 (m:Nat):AnyZ.SortsIn Tryz.prog Tryz.sorted134_ren Fence.wide m:=
 ⟨fun blk off cap ss W hH hblk hsz=>callsIn_wide.2 (AnyM.slices_Sort_string Tryz.sort179 blk off cap ss W hH hblk hsz),
  fun p cap W=>callsIn_wide.2 (AnyM.slices_Sort_string_none Tryz.sort179 p cap W)⟩
theorem Tryz.maps_Keys_135 (mb:Option Nat) (W:World):CallsIn Fence.wide 5 Tryz.prog 135 #[.map mb] W fun e w' =>e= .returned (.func (.func 180) #[] #[.pointer (some ⟨W.heap.size,0,none⟩)])∧w' =W.alloc (.cells #[.map mb] 177):=
 AnyZ.keys_in Tryz.keys135 Fence.wide 5 trivial rfl mb W
theorem Tryz.slices_Sorted_keys_134_135 {H:Type} (b nn:Nat) (D0:DataW H) (R:Value→Option (DataW H×List MemPlace)) (w:World) (hown:w.ownsMap Tryz.prog 9 R b nn D0) (hmax:Maps.size D0≤maxLen) (hbytes:Maps.size D0*16≤140737488355328):
 CallsIn Fence.wide 5 Tryz.prog 134 #[.func (.func 180) #[] #[.pointer (some ⟨w.heap.size,0,none⟩)]] (w.alloc (.cells #[.map (some b)] 177)) fun e w' =>∃(v:Value) (ss:List (List UInt8)),e= .returned v∧ss.Perm (strKeys D0)∧
  w'.ownsRow (w.alloc (.cells #[.map (some b)] 177)).heap.size 9 1 v ss.length ((ss.mergeSort (fun x y=>decide (x≤y))).map encStr)∧(v= .slice none 0 0↔ss=[])∧Below (w.alloc (.cells #[.map (some b)] 177)).heap.size (w.alloc (.cells #[.map (some b)] 177)) w' :=by
 have hbl:=hown.lt
 have hseq:SeqGives Fence.wide 2 Tryz.prog 180 #[.pointer (some ⟨w.heap.size,0,none⟩)] encStr (fun ss=>ss.Perm (strKeys D0)) (Maps.size D0) (w.alloc (.cells #[.map (some b)] 177)):=
  AnyZ.keys_gives (ρ:=Tryz.keys135_ren) {Tryz.keys135 with} Fence.wide _ trivial rfl (by omega) w.heap.size b nn D0 _ (by simp) (by simp) (by
   obtain⟨es,clock,hb,Ft,hs,hD⟩:=hown
   exact⟨es,clock,(Below.heap_alloc _ _ b hbl).trans hb,Ft,hs,hD⟩)
 exact AnyZ.sorted_in Tryz.sorted134 Fence.wide 5 trivial trivial trivial trivial rfl (by omega) (Tryz.sorts134 _) (enters_of Tryz.func179 (by kernel_rfl) rfl) 180 #[.pointer (some ⟨w.heap.size,0,none⟩)] trivial (enters_of Tryz.func180 (by kernel_rfl) rfl) _ _ hmax hbytes _ hseq
end Go.Proofs
namespace Go.Proofs.YtjelacjggijmfaaGreatDoor
open Go.RowKit Go.MapKept Go.ChangeMaps Go.Maps Go.Sort
theorem bs_total (a b:Pl.Bs):a≤b∨b≤a:=List.le_total a b
theorem bs_trans {a b c:Pl.Bs} (h:a≤b) (g:b≤c):a≤c:=List.le_trans h g
theorem bs_anti {a b:Pl.Bs} (h:a≤b) (g:b≤a):a=b:=List.le_antisymm h g
theorem insF_perm (f:Pl.File) (l:List Pl.File):(Pl.insF f l).Perm (f::l):=by
 induction l with
 |nil=>exact List.Perm.refl _
 |cons g r ih=>
  unfold Pl.insF;split
  ·exact List.Perm.refl _
  ·exact(List.Perm.cons g ih).trans (List.Perm.swap f g r)
theorem insF_sorted (f:Pl.File) (l:List Pl.File) (h:l.Pairwise (fun a b=>a.path≤b.path)):(Pl.insF f l).Pairwise (fun a b=>a.path≤b.path):=by
 induction l with
 |nil=>simp[Pl.insF]
 |cons g r ih=>
  unfold Pl.insF;rw[List.pairwise_cons] at h;split
  ·rename_i hlt
   have hle:f.path≤g.path:=List.le_of_lt hlt;refine List.pairwise_cons.2 ⟨fun x hx=> ?_,List.pairwise_cons.2 h⟩
   rcases List.mem_cons.1 hx with rfl|hx
   ·exact hle
   ·exact bs_trans hle (h.1 x hx)
  ·rename_i hnl
   have hle:g.path≤f.path:=List.not_lt.1 hnl;refine List.pairwise_cons.2 ⟨fun x hx=> ?_,ih h.2⟩
   rcases List.mem_cons.1 ((insF_perm f r).mem_iff.1 hx) with rfl|hx
   ·exact hle
   ·exact h.1 x hx
theorem sortF_aux:∀(fs acc:List Pl.File),acc.Pairwise (fun a b=>a.path≤b.path)→(fs.foldl (fun acc f=>Pl.insF f acc) acc).Pairwise (fun a b=>a.path≤b.path)∧(fs.foldl (fun acc f=>Pl.insF f acc) acc).Perm (acc++fs)
 |[],acc,h=>⟨h,by simp⟩
 |f::r,acc,h=>by
  obtain⟨h1,h2⟩:=sortF_aux r (Pl.insF f acc) (insF_sorted f acc h);refine⟨h1,h2.trans ?_⟩;refine((insF_perm f acc).append_right r).trans ?_;exact(List.perm_middle (a:=f) (l₁:=acc) (l₂:=r)).symm
theorem sortF_sorted (fs:List Pl.File):(Pl.sortF fs).Pairwise (fun a b=>a.path≤b.path):=(sortF_aux fs [] .nil).1
theorem sortF_perm (fs:List Pl.File):(Pl.sortF fs).Perm fs:=by
 have:=(sortF_aux fs [] .nil).2;rw[List.nil_append] at this;exact this
theorem sorted_names {fs:List Pl.File} {ss:List Pl.Bs} (hp:ss.Perm (fs.map (·.path))):ss.mergeSort (fun x y=>decide (x≤y))=(Pl.sortF fs).map (·.path):=by
 refine List.Perm.eq_of_pairwise (le:=fun a b=>a≤b) (fun a b _ _ h g=>bs_anti h g) ?_ ?_ ?_
 ·have:=List.pairwise_mergeSort (le:=fun x y:Pl.Bs=>decide (x≤y)) (fun a b c h g=>by simp only[decide_eq_true_eq] at h g⊢;exact bs_trans h g) (fun a b=>by simpa using bs_total a b) ss
  simpa using this
 ·rw[List.pairwise_map];exact sortF_sorted fs
 ·exact(List.mergeSort_perm ss _).trans (hp.trans ((sortF_perm fs).map _).symm)
theorem look_mem {fs:List Pl.File} (hu:Pl.Uniq fs) {f:Pl.File} (hf:f∈fs):Pl.look fs f.path=some f:=by
 induction fs with
 |nil=>cases hf
 |cons g r ih=>
  unfold Pl.Uniq at hu ih;rw[List.map_cons,List.nodup_cons] at hu;unfold Pl.look
  rcases List.mem_cons.1 hf with rfl|hf
  ·simp
  ·have hne:¬g.path=f.path:=fun e=>hu.1 (e▸List.mem_map_of_mem hf)
   rw[List.find?_cons_of_neg (by simpa using hne)];exact ih hu.2 hf
theorem map_strV_inj:∀{a b:List Pl.Bs},a.map strV=b.map strV→a=b
 |[],[],_=>rfl
 |[],_::_,h=>by simp at h
 |_::_,[],h=>by simp at h
 |x::a,y::b,h=>by
  simp only[List.map_cons,List.cons.injEq] at h;rw[strV_inj h.1,map_strV_inj h.2]
def noneE:Value→Option (DataW Unit×List MemPlace):=fun _=>some (.nil,[])
theorem SMap.owns {w:World} {b:Nat} {l:Ents} (h:SMap w b l) {P:Program} {kt:TypeId} (hk:P.underlying kt=some .string) (hl:∀x∈l,x.1.length≤maxLen):
 ∃D:DataW Unit,w.ownsMap P kt noneE b l.length D∧Maps.size D=l.length∧(strKeys D).Perm (l.map (·.1)):=by
 obtain⟨es,clock,hb,hst,hsz,he⟩:=h;have hlen:es.size=l.length:=by have:=congrArg List.length he;simpa using this
 have hrd:∀x∈es.toList,∃k:Pl.Bs,x.key=strV k∧WideElems.rd P kt noneE x=some (.string k,.nil):=fun x hx=>by
  have hm:(x.key,x.val)∈l.map (fun y=>(strV y.1,y.2)):=by rw[←he];exact List.mem_map_of_mem (f:=fun e:MapEntry=>(e.key,e.val)) hx
  obtain⟨y,hy,e⟩:=List.mem_map.1 hm;injection e with e1 e2
  have hsz:=hl y hy;refine⟨y.1,e1.symm,?_⟩
  have hkey:keyOf P kt x.key=some (.string y.1):=by
   rw[←e1];unfold strV;have:=WideMaps.keyOf_string_mk hk (s:=⟨y.1.toArray⟩) (by simpa [ByteArray.size] using hsz)
   simpa using this
  unfold WideElems.rd noneE;rw[hkey];rfl
 have hfit:WideElems.Fit P kt noneE es clock:=⟨hsz,hst,fun x hx=>by
  obtain⟨k,_,h4⟩:=hrd x hx
  exact⟨_,h4⟩⟩
 have hown:w.ownsMap P kt noneE b l.length (DataW.map ((es.toList.map (WideElems.rg P kt noneE)).foldr DataW.insert [])):=⟨es,clock,hb,hfit,by omega,rfl⟩;refine⟨_,hown,?_,?_⟩
 ·show((es.toList.map (WideElems.rg P kt noneE)).foldr DataW.insert []).length=_
  rw[length_sorted];simp[hlen]
 ·show(((es.toList.map (WideElems.rg P kt noneE)).foldr DataW.insert []).map fun p=>strOf p.1).Perm _
  refine((WideShapes.sorted_perm _).map _).trans ?_;rw[List.map_map]
  have hq:es.toList.map ((fun p=>strOf p.1)∘WideElems.rg P kt noneE)=l.map (·.1):=by
   have h1:(es.toList.map ((fun p=>strOf p.1)∘WideElems.rg P kt noneE)).map strV=(l.map (·.1)).map strV:=by
    rw[List.map_map,List.map_map]
    have h2:es.toList.map (fun e=>e.key)=l.map (fun x=>strV x.1):=by
     have:=congrArg (List.map Prod.fst) he
     simpa [List.map_map,Function.comp_def] using this
    rw[show (strV∘fun x:Pl.Bs×Value=>x.1)=(fun x=>strV x.1) from rfl,←h2];refine List.map_congr_left (fun x hx=> ?_);obtain⟨k,h3,h4⟩:=hrd x hx;simp only[Function.comp];rw[WideElems.rg_of h4,h3];rfl
   exact map_strV_inj h1
  rw[hq]
end Go.Proofs.YtjelacjggijmfaaGreatDoor
