/-
  Package plans: a plan is taken apart.
-/
import Derived.Test.YtjelacjggijmfaaGreatDoorTSP7
import Derived.Test.YtjelacjggijmfaaGreatDoorTSP2
set_option maxHeartbeats 2000000
set_option maxRecDepth 20000
namespace Go.Proofs.YtjelacjggijmfaaGreatDoor
open Go.RowKit Go.Shelf Go.Maps
attribute [local go_sem] Oper.semAt_some
theorem Row.cells5 {w:World} {b:Nat} {t:TypeId} {a0 a1 a2 a3 a4:Value} (h:Row w b t [a0,a1,a2,a3,a4]):
 w.cell? ⟨b,0,none⟩=some a0∧w.cell? ⟨b,1,none⟩=some a1∧w.cell? ⟨b,2,none⟩=some a2∧w.cell? ⟨b,3,none⟩=some a3∧w.cell? ⟨b,4,none⟩=some a4:=by
 unfold Row at h;simp[World.cell?,h]
abbrev Calld (n:Nat):World→World→Prop:=Turned (fun k=>k=n+2∨k=n+3)
theorem soundLeave {n l:Nat} {w:World} {sl:Value} {s:ByteArray} {m hh k:Nat} {D:DataW Unit} {X Y:World} (h:Calld n X Y) (hI:SoundI n w sl s m hh k D X):
 KeepsFrom (n+5) X (Y.setCell ⟨n+1,0,none⟩ (.bool false))∧KpI (n+4) l X (Y.setCell ⟨n+1,0,none⟩ (.bool false))∧SoundX n w (Y.setCell ⟨n+1,0,none⟩ (.bool false)):=by
 have hi:Inner n X (Y.setCell ⟨n+1,0,none⟩ (.bool false)):=(h.mono (fun k e=> .inr e)).set (.inl rfl) 0 _;exact⟨hi.keeps,hi.kp hI,hi.x hI ((h.row hI.res (by omega)).set 0 _)⟩
theorem Calld.res {n:Nat} {w:World} {sl:Value} {s:ByteArray} {m hh k:Nat} {D:DataW Unit} {X Y:World} (h:Calld n X Y) (hI:SoundI n w sl s m hh k D X):
 Y.cell? ⟨n+1,0,none⟩=some (.bool false)∧Y.frozen? ⟨n+1,0,none⟩=false:=
 ⟨(h.row hI.res (by omega)).cell 0 (by simp),(h.row hI.res (by omega)).frozen 0⟩
def soundAct (a:Option Addr) (m cap:Nat) (s:ByteArray) (n Bx:Nat) (x:Pl.Ins×Bool):Act:={tmps:= #[.agg #[.slice a m cap,.string s],.pointer (some ⟨n,0,none⟩),.pointer (some ⟨n+1,0,none⟩),.pointer (some ⟨n+3,0,none⟩),
 .pointer (some ⟨Bx,0,none⟩),.bool x.2,.pointer (some ⟨n,0,none⟩),.slice a m cap,.int .i64 m,.map (some (n+2)),.agg #[.int .i64 m,.int .i64 0,.map (some (n+2))],.pointer (some ⟨n,1,none⟩),.string s,
 .func (.func 169) #[] #[.pointer (some ⟨n+4,0,none⟩)],insV x.1,.bool x.2,undef,undef,undef,undef,undef,undef,undef,undef,undef,undef,undef,undef,undef,undef,undef,undef,undef,undef,undef,undef,undef,undef,undef,undef,undef,undef,undef,undef,undef,undef,undef,undef,undef],defers:=[]}
def soundW (a:Option Addr) (m cap:Nat) (s:ByteArray) (w:World):World:=
 ((((w.alloc (.cells #[.slice a m cap,.string s] 120)).alloc (.cells #[.bool false] 4)).alloc (.map #[] 0)).alloc (.cells #[.int .i64 m,.int .i64 0,.map (some (w.heap.size+2))] 249)).alloc (.cells #[.string s] 9)
theorem soundStart (a:Option Addr) (m cap:Nat) (s:ByteArray) (w:World):SoundI w.heap.size w (.slice a m cap) s m 0 0 (.map []) (soundW a m cap s w)∧(soundW a m cap s w).heap[w.heap.size+4]?=some (.cells #[.string s] 9 (0,0))∧(soundW a m cap s w).heap.size=w.heap.size+5:=by
 have hs:(soundW a m cap s w).heap.size=w.heap.size+5:=by simp[soundW]
 have hb:Below w.heap.size w (soundW a m cap s w):=
  (((((Below.refl _ w).alloc (Nat.le_refl _) _).alloc (by simp only[World.size_alloc];omega) _).alloc (by simp only[World.size_alloc];omega) _).alloc (by simp only[World.size_alloc];omega) _).alloc (by simp only[World.size_alloc];omega) _
 have hbx:∀k:Nat,(soundW a m cap s w).heap[k]?=(((((w.heap.push (.cells #[.slice a m cap,.string s] 120)).push (.cells #[.bool false] 4)).push (.map #[] 0)).push (.cells #[.int .i64 m,.int .i64 0,.map (some (w.heap.size+2))] 249)).push (.cells #[.string s] 9))[k]?:=fun _=>rfl
 have hmw:Mw (soundW a m cap s w) (w.heap.size+2) 0 (.map []):=by
  have h1:=World.ownsMap_made (H:=Unit) ((w.alloc (.cells #[.slice a m cap,.string s] 120)).alloc (.cells #[.bool false] 4)) Tryz.prog 3 (plainElem Tryz.prog 3);have h2:((w.alloc (.cells #[.slice a m cap,.string s] 120)).alloc (.cells #[.bool false] 4)).heap.size=w.heap.size+2:=by simp
  rw[h2] at h1;exact(h1.alloc _).alloc _
 refine⟨⟨?_,?_,hmw,?_,hb,by omega⟩,?_,hs⟩
 all_goals(try unfold Row);rw[hbx];simp only[Array.getElem?_push,Array.size_push];repeat (first|rw[if_pos trivial]|rw[if_pos (by omega)]|rw[if_neg (by omega)])
 all_goals rfl
theorem sound_in (a:Option Addr) (m cap:Nat) (s:ByteArray) (w:World) (hs:s.size≤8388608):
 CallsIn Fence.wide 9 Tryz.prog 81 #[.agg #[.slice a m cap,.string s]] w fun e w' =>(∃r:Bool,e= .returned (.bool r)∧(r=true↔Pl.Spec s.data.toList m 0 0 (fun _=>none)))∧Below w.heap.size w w' :=by
 have hmix:Tryz.prog.follows .mixedOrders=true:=by kernel_rfl
 have hmm:= @run_makeMap Tryz.prog;refine callsIn_of_wp_marks Tryz.func81 rfl trivial ?_;simp only[Tryz.ntmps81,List.size_toArray,List.length_cons,List.length_nil,Nat.reduceAdd,Nat.reduceSub,Array.replicate_succ,Array.replicate_zero,List.push_toArray,List.append_toArray,List.nil_append,List.cons_append]
 gi_wp2_with fail
 refine⟨trivial,(callsIn_wide.2 (instructions_any _ _)).mono ?_⟩
 rintro e w2 ⟨rfl,rfl⟩
 gi_wp2_with fail
 simp only[Nat.add_assoc,Nat.reduceAdd];clear hmm;obtain⟨hV0,htx,hVs⟩:=soundStart a m cap s w;unfold soundW at hV0 htx hVs;generalize ((((w.alloc (.cells #[.slice a m cap,.string s] 120)).alloc (.cells #[.bool false] 4)).alloc (.map #[] 0)).alloc (.cells #[.int .i64 m,.int .i64 0,.map (some (w.heap.size+2))] 249)).alloc (.cells #[.string s] 9)=V at*;generalize hn:w.heap.size=n at*
 have hsz:=Lib.size_eq s
 refine Mk.range_law (gf:=169) (lb:= #[.pointer (some ⟨n+4,0,none⟩)]) rfl (enters_of Tryz.func169 (by kernel_rfl) rfl)
  (ins_iter s (n+4) V hs htx) KpI.trans (fun W1 l1 o o' _ hl ho=>KpI.putObj _ W1 l1 o o' hl ho) (Below.refl _ _) (fun _=>rfl)
  (fun pre W1=>∃p h k A D,SoundS s.data.toList m pre p h k A∧Holds D A∧SoundI n w (.slice a m cap) s m h k D W1)
  (fun c _ W1=>c= .ret∧(¬Pl.Spec s.data.toList m 0 0 (fun _=>none))∧SoundX n w W1)
  (fun s X Y row hs hgr hr=>by
   obtain⟨p,h,k,A,D,h1,h2,h3⟩:=hs
   exact⟨p,h,k,A,D,h1,h2,SoundI.own (B:=V.heap.size) (by omega) () X Y row h3 hgr hr⟩)
  (fun c s X Y row hs hgr hr=>by
   obtain⟨h1,h2,h3⟩:=hs
   exact⟨h1,h2,SoundX.own (B:=V.heap.size) (by omega) () X Y row h3 hgr hr⟩)
  ⟨0,0,0,fun _=>none,.map [],⟨⟨_,InsInv.start _⟩,Iff.rfl,by omega,by omega⟩,Holds.start,hV0⟩
  (fun x a' W1=>∃Bx,n+4<Bx∧Row W1 Bx 254 [.int .u8 x.1.op,.int .i64 x.1.at_,.int .i64 x.1.next,.int .i64 x.1.first,.int .i64 x.1.second]∧a' =soundAct a m cap s n Bx x)
  (fun x a' s X Y row hs hgr hr=>by
   obtain⟨Bx,h1,h2,h3⟩:=hs
   exact⟨Bx,h1,Row.own V.heap.size _ _ _ () X Y row h2 hgr hr,h3⟩) ?assign ?body ?done ?stop
 case assign=>
  rintro l1 pre ⟨i,ok⟩ post W1 K _ hi hK
  have hsz5:n+5≤W1.heap.size:=by obtain⟨_,_,_,_,_,_,_,h⟩:=hi;exact h.size
  unfold encI insV
  gi_wp2
  have hb:=(Below.refl _ W1).alloc (Nat.le_refl _) (.cells #[.int .u8 i.op,.int .i64 i.at_,.int .i64 i.next,.int .i64 i.first,.int .i64 i.second] 254);refine hK _ _ (keepsBelow _ hb) (KpI.below (by omega) hb) ?_ ⟨W1.heap.size,by omega,Row.new W1 254 _,rfl⟩;obtain⟨p,h,k,A,D,h1,h2,h3⟩:=hi
  exact⟨p,h,k,A,D,h1,h2,SoundI.own (B:=n+5) (Nat.le_refl _) () W1 _ none h3 (below_grown hb) (fun r e=>by cases e)⟩
 case body=>
  rintro l1 pre x post a' W1 hL ⟨p,h,k,A,D,hS,hA,hI⟩ ⟨Bx,hBx,hbx,rfl⟩
  have hsI:=hI.size;have hT0:Calld n W1 W1:=Turned.refl _ _;obtain⟨hp,⟨hw,rfl,g,hI2⟩|⟨hw,rfl⟩⟩:=hS.cut hL
  ·have hst:=(Pl.spec_step (m:=m) (h:=h) (A:=A) hp)
   obtain⟨h1,h8⟩:=whole_op hw;have hF:=first_le s.data.toList p;have hnx:=Pl.next_le hw;have hgt:=Pl.next_gt hw;have hat:(Pl.mkIns s.data.toList p).at_=p:=rfl;have hop:(Pl.mkIns s.data.toList p).op=Pl.opAt s.data.toList p:=rfl;rw[←hop] at hst;clear hop;generalize hgi:Pl.mkIns s.data.toList p=i at*;have HS:=hide hS;have HST:=hide hst;have HI:=hide hI
   have HI2:=hide hI2;have HA:=hide hA;have HW:=hide hw;have HBX:=hide hbx;clear hS hst hI2 hA hL hw;obtain⟨d0,d1,d2,d3,d4⟩:=hbx.cells5;have hpl:p≤16777216:=by omega
   have hnx' :i.next≤8388608:=by omega
   have HAT:=hide hat;have CA:=hide (arrive_any (n+3) (n+2) k m h i.at_ D A W1 hI.walk hI.map (uh HA) (by rw[hat];exact hpl) (by omega));have HSZ:=hide hsz;clear hI hbx hsz hnx hgi hat;unfold soundAct insV;simp only
   gi_wp2_with fail
   refine⟨trivial,(CallsIn.inRound l1 (callsIn_wide.2 (uh CA))).mono ?_⟩
   rintro e W2 ⟨⟨r1,rfl,k1⟩,hm2,hg2⟩
   rw[uh HAT] at k1 hm2;have HWK2:=hide ((uh HI).walk.grown hg2 (fun e=>by have:=Option.some.inj e;omega));have hT2:Calld n W1 W2:=(Turned.ofGrown hg2).mono (fun k e=> .inl (Option.some.inj e));have HT2:=hide hT2;have HM2:=hide hm2;clear hm2 hg2 d0 d1 d2 d3 d4 CA;cases r1 with
   |false=>
    have HN:Hid (¬Pl.Spec s.data.toList m 0 0 (fun _=>none)):=by
     show ¬_;rw[(uh HS).spec,uh HST]
     rintro⟨q,_⟩
     have:=k1.2 q;cases this
    obtain⟨c1,f1⟩:=hT2.res (uh HI);have HX:=hide (soundLeave (l:=l1) hT2 (uh HI));clear hT2 k1
    gi_wp2_with fail
    refine⟨trivial,?_⟩
    gi_wp2_with fail
    refine⟨trivial,?_⟩
    gi_wp2_with fail
    exact⟨hVs▸(uh HX).1,(uh HX).2.1,rfl,uh HN,(uh HX).2.2⟩
   |true=>
    have hag:=hide (k1.1 rfl);clear k1;have hbx2:=hT2.row (uh HBX) (by omega);obtain⟨d0,d1,d2,d3,d4⟩:=hbx2.cells5;have CN:=hide (mayName_any (n+3) (n+2) m h i W2 (uh HWK2) h1 h8);have HBX2:=hide hbx2;clear hT2 hbx2
    gi_wp2_with fail
    refine⟨trivial,(CallsIn.inRound l1 (callsIn_wide.2 (uh CN))).mono ?_⟩
    rintro e W3 ⟨⟨r2,rfl,k2⟩,hb3⟩
    have hT3:Calld n W1 W3:=(uh HT2).trans (Turned.ofBelow hb3);have HT3:=hide hT3;have HM3:Hid (Mw W3 (n+2) k (D.del (kI p))):=(uh HM2).kept (below_grown hb3) (by simp);have hbx3:=(uh HBX2).later hb3;have hwalk3:=(uh HWK2).later hb3;clear hb3 d0 d1 d2 d3 d4 CN HM2 HBX2 HWK2 HT2;cases r2 with
    |false=>
     have HN:Hid (¬Pl.Spec s.data.toList m 0 0 (fun _=>none)):=by
      show ¬_;rw[(uh HS).spec,uh HST]
      rintro⟨_,_,q,_⟩
      have:=k2.2 q;cases this
     obtain⟨c1,f1⟩:=hT3.res (uh HI);have HX:=hide (soundLeave (l:=l1) hT3 (uh HI));clear hT3 k2 hbx3 hwalk3
     gi_wp2_with fail
     refine⟨trivial,?_⟩
     gi_wp2_with fail
     exact⟨hVs▸(uh HX).1,(uh HX).2.1,rfl,uh HN,(uh HX).2.2⟩
    |true=>
     have hok:=hide (k2.1 rfl);clear k2;obtain⟨d0,d1,d2,d3,d4⟩:=hbx3.cells5;have HWK3:=hide hwalk3
     by_cases htk:Pl.taken i.op≤h
     ·have CS:=hide (step_on (n+3) (n+2) k m h i _ (Pl.del A p) W3 hwalk3 h1 h8 (uh HS).h16 htk hnx' hF (uh HM3) ((uh HA).del p) (by have:=(uh HS).le;omega) (by omega))
      have HTK:=hide htk;clear hT3 hbx3 hwalk3 htk
      gi_wp2_with fail
      refine⟨trivial,(CallsIn.inRound l1 (callsIn_wide.2 (uh CS))).mono ?_⟩
      rintro e W4 ⟨r3,rfl,hP⟩
      have hT4:Calld n W1 W4:=(uh HT3).trans (hP.kept.mono (fun k e=>by omega));clear d0 d1 d2 d3 d4 CS;cases r3 with
      |false=>
       have HN:Hid (¬Pl.Spec s.data.toList m 0 0 (fun _=>none)):=by
        show ¬_;rw[(uh HS).spec,uh HST]
        rintro⟨_,_,_,_,q1,q2,_⟩
        have:=hP.ok.2 ⟨q1,q2⟩;cases this
       obtain⟨c1,f1⟩:=hT4.res (uh HI);have HX:=hide (soundLeave (l:=l1) hT4 (uh HI));clear hT4 hP
       gi_wp2_with fail
       exact⟨hVs▸(uh HX).1,(uh HX).2.1,rfl,uh HN,(uh HX).2.2⟩
      |true=>
       have HG:Hid (∃p h k A D,SoundS s.data.toList m (pre++[(i,true)]) p h k A∧Holds D A∧SoundI n w (.slice a m cap) s m h k D W4):=by
        obtain⟨q1,q2⟩:=hP.ok.1 rfl;obtain⟨o1,D',o2,o3⟩:=hP.on rfl;have hI:=uh HI;have hS:=uh HS
        refine⟨i.next,Pl.rise i.op h,k+1,Pl.onward A i h,D',⟨⟨g,uh HI2⟩,hS.spec.trans ((uh HST).trans ⟨fun e=>e.2.2.2.2.2.2,fun e=>⟨uh hag,uh HW,uh hok,uh HTK,q1,q2,e⟩⟩),q1,by have:=hS.le;omega⟩,?_,
         hT4.row hI.plan (by omega),hT4.row hI.res (by omega),o2,o1,hT4.below hI.below (by omega) (fun k e=>by omega),Nat.le_trans hsI hT4.size⟩
        unfold Pl.onward;rw[uh HAT];exact o3
       have HK:Hid (KeepsFrom (n+5) W1 W4∧KpI (n+4) l1 W1 W4):=⟨Inner.keeps (hT4.mono (fun k e=> .inr e)),Inner.kp (hT4.mono (fun k e=> .inr e)) (uh HI)⟩;clear hT4 hP
       gi_wp2_with fail
       exact⟨hVs▸(uh HK).1,(uh HK).2,uh HG⟩
     ·have CS:=hide (step_low (n+3) (n+2) m h i W3 hwalk3 h1 h8 (by omega))
      have HN:Hid (¬Pl.Spec s.data.toList m 0 0 (fun _=>none)):=by
       show ¬_;rw[(uh HS).spec,uh HST]
       rintro⟨_,_,_,q,_⟩
       exact htk q
      clear hT3 hbx3 hwalk3 htk
      gi_wp2_with fail
      refine⟨trivial,(CallsIn.inRound l1 (callsIn_wide.2 (uh CS))).mono ?_⟩
      rintro e W4 ⟨rfl,hb4⟩
      have hT4:Calld n W1 W4:=(uh HT3).trans (Turned.ofBelow hb4);obtain⟨c1,f1⟩:=hT4.res (uh HI);have HX:=hide (soundLeave (l:=l1) hT4 (uh HI));clear hT4 hb4 d0 d1 d2 d3 d4 CS
      gi_wp2_with fail
      exact⟨hVs▸(uh HX).1,(uh HX).2.1,rfl,uh HN,(uh HX).2.2⟩
  ·have HN:Hid (¬Pl.Spec s.data.toList m 0 0 (fun _=>none)):=by
    show ¬_;rw[hS.spec,Pl.spec_step hp];exact fun e=>hw e.2.1
   obtain⟨c1,f1⟩:=hT0.res hI;have HX:=hide (soundLeave (l:=l1) hT0 hI);clear hS hI hA hL hw hT0 hbx hsz;unfold soundAct insV;simp only
   gi_wp2_with fail
   refine⟨trivial,?_⟩
   gi_wp2_with fail
   refine⟨trivial,?_⟩
   gi_wp2_with fail
   refine⟨trivial,?_⟩
   gi_wp2_with fail
   exact⟨hVs▸(uh HX).1,(uh HX).2.1,rfl,uh HN,(uh HX).2.2⟩
 case done=>
  rintro Dd W1 hD ⟨p,h,k,A,D,hS,hA,hI⟩ hK
  have hsI:=hI.size;obtain⟨f,hInv⟩:=hS.inv
  have hpe:¬p<s.data.toList.length:=by
   intro hp
   by_cases hw:Pl.whole s.data.toList p
   ·obtain⟨g,h1,h2⟩:=hInv.step hp hw
    have:=congrArg List.length h1;simp at this
   ·have h1:=hInv.bad hp hw
    have:=congrArg List.length h1;simp at this
  have hps:p=s.size:=by have:=hInv.le;omega
  have hsp:=(Pl.spec_end (m:=m) (h:=h) (A:=A) hpe);rw[←hS.spec] at hsp;have HSP:=hide hsp;have c1:=hI.plan.cell 1 (by simp);simp only[List.getElem_cons_zero,List.getElem_cons_succ] at c1;have CA:=hide (arrive_any (n+3) (n+2) k m h p D A W1 hI.walk hI.map hA (by omega) (by omega));have HI:=hide hI;have HA:=hide hA;have HPS:=hide hps;rw[hps] at CA
  clear hS hInv hpe hsp hI hA hsz hps
  gi_wp2_with fail
  refine⟨trivial,(callsIn_wide.2 (uh CA)).mono ?_⟩
  rintro e W2 ⟨⟨r1,rfl,k1⟩,hm2,hg2⟩
  have hI:=uh HI;have hwk:=hI.walk.grown hg2 (fun e=>by have:=Option.some.inj e;omega);have w1:=hwk.cell 1 (by simp);have w2:=hwk.cell 2 (by simp);simp only[List.getElem_cons_zero,List.getElem_cons_succ] at w1 w2;have hres:=hI.res.grown hg2 (fun e=>by have:=Option.some.inj e;omega);have r0:=hres.cell 0 (by simp);simp only[List.getElem_cons_zero] at r0
  have f0:=hres.frozen 0;have hlen:=fun ty=>hm2.len (t:=247) (e:=3) Tryz.underlying247 ty
  have hK2:W2.heap[Dd]?=some (.deferred (some [])):=(hg2.block Dd (Array.getElem?_eq_some_iff.1 hK).1 (fun e=>by have:=Option.some.inj e;omega)).trans hK;have hb2:Below n w W2:=hI.below.trans ⟨hg2.os,hg2.tape,hg2.output,hg2.size,fun k hk=>hg2.block k (by omega) (fun e=>by have:=Option.some.inj e;omega)⟩;have hem:=((uh HA).del p).empty (uh HPS▸hm2);rw[uh HPS] at hem
  have HE:=hide hem;have HR:=hide hres;have HB:=hide hb2;have HK2:=hide hK2;clear hI hwk hres hm2 hg2 hem hb2 hK2 c1 CA;generalize Maps.size (D.del (kI s.size))=z at*
  have HF:Hid (∀R:Bool,Row ((W2.setCell ⟨n+1,0,none⟩ (.bool R)).putObj Dd (.deferred none)) (n+1) 4 [.bool R]∧(W2.setCell ⟨n+1,0,none⟩ (.bool R)).heap[Dd]?=some (.deferred (some []))∧Below n w ((W2.setCell ⟨n+1,0,none⟩ (.bool R)).putObj Dd (.deferred none))):=by
   intro R;have q0:Row (W2.setCell ⟨n+1,0,none⟩ (.bool R)) (n+1) 4 [.bool R]:=(uh HR).set 0 _;refine⟨(World.putObj_heap_other (by omega)).trans q0,(Below.heap_setCell _ _ _ _ (by simp;omega)).trans (uh HK2),?_⟩;have hb1:Below n w (W2.setCell ⟨n+1,0,none⟩ (.bool R)):=(uh HB).setCell (p:=⟨n+1,0,none⟩) (by simp) _
   exact hb1.trans ((Below.refl _ _).grown (grownBy_putObj' _ Dd _) (by have:=q0.lt;omega) (fun k e=>by cases e;omega))
  have HL:Hid (∀R:Bool,(R=true↔r1=true∧h=0∧z=0)→(R=true↔Pl.Spec s.data.toList m 0 0 (fun _=>none))):=by
   intro R hR;rw[hR,k1,uh HSP,uh HPS,uh HE];refine⟨fun ⟨q1,q2,q3⟩=>⟨q1,q2,fun q hq=> ?_⟩,fun ⟨q1,q2,q3⟩=>⟨q1,q2,fun q=> ?_⟩⟩
   ·have:=q3 q
    unfold Pl.del at this
    rwa [if_neg hq] at this
   ·unfold Pl.del
    split
    ·rfl
    ·rename_i hq;exact q3 q hq
  clear HE HSP HI HA HR HB HK2 hK k1;cases r1 with
  |false=>
   gi_wp2_with fail
   refine⟨by simp,.inl ⟨_,_,rfl,run_takeDeferred (uh HF false).2.1,?_⟩⟩;have c0:=(uh HF false).1.cell 0 (by simp);simp only[List.getElem_cons_zero] at c0;refine⟨.bool false,?_,⟨false,rfl,uh HL false (by simp)⟩,by rw[hn];exact(uh HF false).2.2⟩;simp[results,Tryz.results81,go_sem,c0]
  |true=>
   by_cases h0:h=0
   ·have H0:=hide h0
    have b0:((h:Int)==0)=true:=by rw[beq_iff_eq];omega
    by_cases hz:z=0
    ·have HZ:=hide hz
     have bz:((z:Int)==0)=true:=by rw[beq_iff_eq];omega
     gi_wp2_with fail
     refine⟨by simp,.inl ⟨_,_,rfl,run_takeDeferred (uh HF true).2.1,?_⟩⟩;have c0:=(uh HF true).1.cell 0 (by simp);simp only[List.getElem_cons_zero] at c0;refine⟨.bool true,?_,⟨true,rfl,uh HL true (by simp[uh H0,uh HZ])⟩,by rw[hn];exact(uh HF true).2.2⟩;simp[results,Tryz.results81,go_sem,c0]
    ·have HZ:=hide hz
     have bz:((z:Int)==0)=false:=by rw[beq_eq_false_iff_ne];omega
     gi_wp2_with fail
     refine⟨by simp,.inl ⟨_,_,rfl,run_takeDeferred (uh HF false).2.1,?_⟩⟩;have c0:=(uh HF false).1.cell 0 (by simp);simp only[List.getElem_cons_zero] at c0;refine⟨.bool false,?_,⟨false,rfl,uh HL false (by simpa using fun _=>uh HZ)⟩,by rw[hn];exact(uh HF false).2.2⟩;simp[results,Tryz.results81,go_sem,c0]
   ·have H0:=hide h0
    have b0:((h:Int)==0)=false:=by rw[beq_eq_false_iff_ne];omega
    gi_wp2_with fail
    refine⟨by simp,.inl ⟨_,_,rfl,run_takeDeferred (uh HF false).2.1,?_⟩⟩;have c0:=(uh HF false).1.cell 0 (by simp);simp only[List.getElem_cons_zero] at c0;refine⟨.bool false,?_,⟨false,rfl,uh HL false (by simpa using fun e=>absurd e (uh H0))⟩,by rw[hn];exact(uh HF false).2.2⟩;simp[results,Tryz.results81,go_sem,c0]
 case stop=>
  rintro D c pre post W1 hD hL ⟨rfl,hp,hX⟩ hK
  have HP:=hide hp;have hD2:∀o',Below n W1 (W1.putObj D o'):=fun o' =>(Below.refl _ W1).grown (grownBy_putObj' W1 D o') (by have:=hX.res.lt;omega) (fun k e=>by cases e;omega)
  have s0:Row (W1.putObj D (.deferred none)) (n+1) _ _:=(World.putObj_heap_other (by omega)).trans hX.res
  gi_wp2_with fail
  refine⟨by simp,.inl ⟨_,_,rfl,run_takeDeferred hK,?_⟩⟩;refine⟨.bool false,?_,⟨false,rfl,by simpa using uh HP⟩,by rw[hn];exact hX.below.trans (hD2 _)⟩;have c0:=s0.cell 0 (by simp);simp only[List.getElem_cons_zero] at c0;simp[results,Tryz.results81,go_sem,c0]
end Go.Proofs.YtjelacjggijmfaaGreatDoor
namespace Go.Proofs.YtjelacjggijmfaaGreatDoor
open Go.RowKit
def strV (l:List UInt8):Value:= .string ⟨l.toArray⟩
theorem Tryz.infoStr:(Tryz.prog.info? 9).map (fun i=>(i.zero,i.size,i.bytes))=some (some (.string ⟨#[]⟩),1,16):=by kernel_rfl
structure SplitI (s:Pl.Bs) (n k:Nat) (r:Pl.Bs) (acc:List Pl.Bs):Prop where
 eq:Pl.strs n (s.drop 4)=(Pl.strs (n-k) r).map (fun x=>(acc++x.1,x.2))
 len:acc.length=k
 le:k≤n
 size:r.length≤s.length
theorem SplitI.start (s:Pl.Bs) (n:Nat):SplitI s n 0 (s.drop 4) []:=⟨by simp,rfl,Nat.zero_le _,by simp⟩
theorem SplitI.next {s:Pl.Bs} {n k:Nat} {r:Pl.Bs} {acc:List Pl.Bs} (h:SplitI s n k r acc) (hk:k<n) (hr:2≤r.length∧2+Pl.two r 0≤r.length):
 SplitI s n (k+1) (r.drop (2+Pl.two r 0)) (acc++[(r.drop 2).take (Pl.two r 0)]):=by
 refine⟨?_,by simp[h.len],hk,by have:=h.size;simp;omega⟩;rw[h.eq,show n-k=(n-(k+1))+1 from by omega,Pl.strs_from _ _ hr]
theorem SplitI.bad {s:Pl.Bs} {n k:Nat} {r:Pl.Bs} {acc:List Pl.Bs} (h:SplitI s n k r acc) (hk:k<n) (hr:¬(2≤r.length∧2+Pl.two r 0≤r.length)):Pl.strs n (s.drop 4)=none:=by
 rw[h.eq,show n-k=(n-(k+1))+1 from by omega,Pl.strs_not _ _ hr];rfl
theorem SplitI.done {s:Pl.Bs} {n k:Nat} {r:Pl.Bs} {acc:List Pl.Bs} (h:SplitI s n k r acc) (hk:¬k<n):Pl.strs n (s.drop 4)=some (acc,r)∧acc.length=n:=by
 have hle:=h.le;obtain rfl:k=n:=by omega
 have h1:=h.eq;rw[Nat.sub_self] at h1;rw[h1];exact⟨by simp[Pl.strs],h.len⟩
structure SplitPost (s:Pl.Bs) (w:World) (e:Ending) (w' :World):Prop where
 res:(Pl.load s=none∧e= .returned (.tuple #[.agg #[.slice none 0 0,.string ⟨#[]⟩],.bool false]))∨
  ∃ss c b,Pl.load s=some (ss,c)∧e= .returned (.tuple #[.agg #[.slice (some ⟨b,0,none⟩) ss.length ss.length,.string ⟨c.toArray⟩],.bool true])∧Row w' b 9 (ss.map strV)∧w.heap.size≤b
 below:Below w.heap.size w w'
theorem ahead_iff (s:ByteArray):(decide ((⟨#[80,49]⟩:ByteArray).size≤s.size)&&((s.extract 0 (⟨#[80,49]⟩:ByteArray).size).toList==(⟨#[80,49]⟩:ByteArray).toList))=true↔2≤s.data.toList.length∧s.data.toList.take 2=[80,49]:=by
 have h1:(⟨#[80,49]⟩:ByteArray).size=2:=rfl;rw[h1,Lib.extract_toList,Lib.toList_data,←Lib.size_eq];simp
theorem row_set (acc:List Pl.Bs) (n:Nat) (l:Pl.Bs) (h:acc.length<n):
 (acc.map strV++List.replicate (n-acc.length) (Value.string ⟨#[]⟩)).set acc.length (.string ⟨l.toArray⟩)=(acc++[l]).map strV++List.replicate (n-(acc++[l]).length) (Value.string ⟨#[]⟩):=by
 rw[List.set_append_right _ _ (by simp)];simp only[List.length_map,Nat.sub_self,List.map_append,List.map_cons,List.map_nil,List.length_append,List.length_cons,List.length_nil,List.append_assoc];rw[show n-acc.length=(n-(acc.length+(0+1)))+1 from by omega,List.replicate_succ];rfl
structure SplitW (w:World) (B n:Nat) (acc:List Pl.Bs) (W:World):Prop where
 res:Row W w.heap.size 120 [.slice none 0 0,.string ⟨#[]⟩]
 row:Row W B 9 (acc.map strV++List.replicate (n-acc.length) (Value.string ⟨#[]⟩))
 below:Below w.heap.size w W
 lt:w.heap.size<B
theorem SplitW.later {w:World} {B n:Nat} {acc:List Pl.Bs} {X Y:World} (h:SplitW w B n acc X) (hb:Below X.heap.size X Y):SplitW w B n acc Y:=
 ⟨h.res.later hb,h.row.later hb,h.below.trans (hb.mono (by have:=h.res.lt;omega)),h.lt⟩
theorem SplitW.put {w:World} {B n:Nat} {acc:List Pl.Bs} {X:World} (h:SplitW w B n acc X) (hn:acc.length<n) (l:Pl.Bs):SplitW w B n (acc++[l]) (X.setCell ⟨B,acc.length,none⟩ (.string ⟨l.toArray⟩)):=by
 have hlt:=h.lt;refine⟨h.res.other (by omega) _ _,?_,h.below.setCell (p:=⟨B,acc.length,none⟩) (by show w.heap.size≤B;omega) _,hlt⟩;rw[←row_set acc n l hn];exact h.row.set _ _
theorem SplitW.cell {w:World} {B n:Nat} {acc:List Pl.Bs} {X:World} (h:SplitW w B n acc X) (hn:acc.length<n):∃v,X.cell? ⟨B,acc.length,none⟩=some v:=
 ⟨_,h.row.cell acc.length (by simp;omega)⟩
theorem SplitW.out {w:World} {B n:Nat} {acc:List Pl.Bs} {X:World} (h:SplitW w B n acc X) (a b:Value):
 ((X.setCell ⟨w.heap.size,0,none⟩ a).setCell ⟨w.heap.size,1,none⟩ b).cell? ⟨w.heap.size,0,none⟩=some a∧((X.setCell ⟨w.heap.size,0,none⟩ a).setCell ⟨w.heap.size,1,none⟩ b).cell? ⟨w.heap.size,1,none⟩=some b∧
 Row ((X.setCell ⟨w.heap.size,0,none⟩ a).setCell ⟨w.heap.size,1,none⟩ b) B 9 (acc.map strV++List.replicate (n-acc.length) (Value.string ⟨#[]⟩))∧Below w.heap.size w ((X.setCell ⟨w.heap.size,0,none⟩ a).setCell ⟨w.heap.size,1,none⟩ b):=by
 have hlt:=h.lt;have hr:=(h.res.set 0 a).set 1 b;refine⟨by simpa using hr.cell 0 (by simp),by simpa using hr.cell 1 (by simp),(h.row.other (by omega) _ _).other (by omega) _ _,?_⟩;exact(h.below.setCell (p:=⟨w.heap.size,0,none⟩) (Nat.le_refl _) _).setCell (p:=⟨w.heap.size,1,none⟩) (Nat.le_refl _) _
theorem split_any (l:List UInt8) (w:World) (hl:l.length≤8388608):
 Calls Tryz.prog 80 #[.string ⟨l.toArray⟩] w fun e w' =>SplitPost l w e w' :=by
 have hdl:=mk_list l;have hsz:=size_mk l;have hah:=ahead_iff ⟨l.toArray⟩;rw[hdl] at hah
 by_cases h2:2≤l.length∧l.take 2=[80,49]
 ·have hyes:=hah.2 h2
  have hy1:(⟨#[80,49]⟩:ByteArray).size≤(⟨l.toArray⟩:ByteArray).size:=by rw[hsz];exact h2.1
  have hy2:(((⟨l.toArray⟩:ByteArray).extract 0 (⟨#[80,49]⟩:ByteArray).size).toList==(⟨#[80,49]⟩:ByteArray).toList)=true:=by
   rw[Bool.and_eq_true] at hyes;exact hyes.2
  have C0:=hide (fun w=>cutPrefix_yes ⟨l.toArray⟩ ⟨#[80,49]⟩ w hy1 hy2)
  have hrest:(⟨l.toArray⟩:ByteArray).extract (⟨#[80,49]⟩:ByteArray).size (⟨l.toArray⟩:ByteArray).size=⟨(l.drop 2).toArray⟩:=by
   apply mk_eq;rw[Lib.extract_to_end,hdl];rfl
  rw[hrest] at C0
  by_cases h4:4≤l.length
  ·have htw:Pl.two (l.drop 2) 0=Pl.two l 2:=by
    unfold Pl.two;simp[List.getD_eq_getElem?_getD]
   have C1:=hide (fun w=>takeNumber_yes ⟨(l.drop 2).toArray⟩ w (by rw[size_mk,List.length_drop];omega))
   have hr4:(⟨(l.drop 2).toArray⟩:ByteArray).extract 2 (⟨(l.drop 2).toArray⟩:ByteArray).size=⟨(l.drop 4).toArray⟩:=by
    apply mk_eq;rw[Lib.extract_to_end,mk_list,List.drop_drop]
   rw[hr4,mk_list,htw] at C1
   by_cases hn:Pl.two l 2≤1000
   ·have hload:Pl.load l=Pl.strs (Pl.two l 2) (l.drop 4):=by
     unfold Pl.load;rw[if_pos ⟨h4,h2.2,hn⟩]
    have HS0:=hide (SplitI.start l (Pl.two l 2));have HLD:=hide hload;generalize Pl.two l 2=n at*;have hmk:=run_make_row' (P:=Tryz.prog) 30 9 (.string ⟨#[]⟩) 16 Tryz.underlying30 Tryz.infoStr rfl .i64 .i64 n (by omega) (by omega);have HL:=hide hl;clear h2 hyes hy1 hy2 hah hrest htw hr4 hload hdl hsz h4 hl
    go_enter Tryz.func80,Tryz.ntmps80
    go_wp2_with fail
    refine(uh C0 _).mono ?_
    rintro e w1 ⟨rfl,rfl⟩
    go_wp2_with fail
    refine(uh C1 _).mono ?_
    rintro e w2 ⟨rfl,hb2⟩
    go_wp2_with fail
    have hW0:Hid (SplitW w w2.heap.size n [] (w2.alloc (.cells (madeCells #[Value.string ⟨#[]⟩] n) 9))):=by
     have hb1:=(Below.refl _ w).alloc (Nat.le_refl _) (.cells #[.slice none 0 0,.string ⟨#[]⟩] 120);have hr0:Row w2 w.heap.size 120 [.slice none 0 0,.string ⟨#[]⟩]:=(Row.new w 120 [.slice none 0 0,.string ⟨#[]⟩]).later hb2;have hlt:=hr0.lt;refine⟨hr0.alloc _,?_,(hb1.trans (hb2.mono hb1.size)).alloc (by omega) _,hlt⟩
     simpa using Row.made w2 9 (Value.string ⟨#[]⟩) n
    clear hmk hb2 C0 C1;generalize hB:w2.heap.size=B at*;generalize hV2:w2.alloc (.cells (madeCells #[Value.string ⟨#[]⟩] n) 9)=V2 at*;clear hB hV2
    go_loopw [4,34] (fun rest i wr=>∃(k:Nat) (r:Pl.Bs) (acc:List Pl.Bs),rest= .string ⟨r.toArray⟩∧i= .int .i64 k∧Hid (SplitI l n k r acc)∧Hid (SplitW w B n acc wr)) (fun _ i _=>n-intN i)
    case atStart=>exact⟨0,l.drop 4,[],rfl,rfl,HS0,hW0⟩
    case round=>
     obtain⟨k,r,acc,rfl,rfl,hI,hW⟩:=hrel;have hlen:=(uh hI).len;have hrl:r.length≤8388608:=Nat.le_trans (uh hI).size (uh HL)
     by_cases hk:k<n
     ·by_cases hr:2≤r.length∧2+Pl.two r 0≤r.length
      ·have C:=hide (takeString_yes r wr hr hrl)
       have HN:=hide ((uh hI).next hk hr);generalize (r.drop 2).take (Pl.two r 0)=piece at*;generalize r.drop (2+Pl.two r 0)=tail at*;clear hr hrl hI
       go_wp2_with fail
       refine(uh C).mono ?_
       rintro e w3 ⟨rfl,hb3⟩
       have hW3:=(uh hW).later hb3;obtain⟨v0,hc0⟩:=hW3.cell (by omega);have hf0:=hW3.row.frozen acc.length;rw[hlen] at hc0 hf0
       have HW4:Hid (SplitW w B n (acc++[piece]) (w3.setCell ⟨B,k,none⟩ (.string ⟨piece.toArray⟩))):=by
        have:=hW3.put (by omega) piece
        rwa [hlen] at this
       clear hW3 hb3 hW hlen C
       go_wp2_with fail
       go_roundw
       case rel=>exact⟨k+1,tail,_,rfl,by go_num,HN,HW4⟩
       case measure=>simp only[intN];omega
      ·have C:=hide (takeString_no r wr hr hrl)
       have HN:=hide ((uh hI).bad hk hr);clear hr hrl hI
       go_wp2_with fail
       refine(uh C).mono ?_
       rintro e w3 ⟨rfl,hb3⟩
       have hW3:=(uh hW).later hb3;obtain⟨v0,hc0⟩:=hW3.cell (by omega);have hf0:=hW3.row.frozen acc.length;rw[hlen] at hc0 hf0
       have HW4:Hid (SplitW w B n (acc++[[]]) (w3.setCell ⟨B,k,none⟩ (.string ⟨#[]⟩))):=by
        have:=hW3.put (by omega) []
        rwa [hlen] at this
       have hlt:=hW3.lt;have hne:w.heap.size≠B:=by omega
       have c0:=hW3.res.cell 0 (by simp);have c1:=hW3.res.cell 1 (by simp);have f0:=hW3.res.frozen 0;have f1:=hW3.res.frozen 1;simp only[List.getElem_cons_zero,List.getElem_cons_succ] at c0 c1;clear hW3 hb3 hW hlen C
       go_wp2_with fail
       obtain⟨o0,o1,-,o3⟩:=(uh HW4).out (.slice none 0 0) (.string ⟨#[]⟩);refine bodyPost_ret (v:= .tuple #[.agg #[.slice none 0 0,.string ⟨#[]⟩],.bool false]) ?_ rfl ⟨.inl ⟨(uh HLD).trans (uh HN),rfl⟩,o3⟩;simp[results,Tryz.results80,go_sem,o0,o1]
     ·have HD:=hide ((uh hI).done hk)
      have c0:=(uh hW).res.cell 0 (by simp);have c1:=(uh hW).res.cell 1 (by simp);have f0:=(uh hW).res.frozen 0;have f1:=(uh hW).res.frozen 1;simp only[List.getElem_cons_zero,List.getElem_cons_succ] at c0 c1;have hlt:=(uh hW).lt;clear hI hrl hlen
      go_wp2_with fail
      obtain⟨hd1,hd2⟩:=uh HD;obtain⟨o0,o1,o2,o3⟩:=(uh hW).out (.slice (some ⟨B,0,none⟩) n n) (.string ⟨r.toArray⟩);rw[hd2,Nat.sub_self,List.replicate_zero,List.append_nil] at o2;refine bodyPost_ret (v:= .tuple #[.agg #[.slice (some ⟨B,0,none⟩) n n,.string ⟨r.toArray⟩],.bool true]) ?_ rfl ⟨.inr ⟨acc,r,B,(uh HLD).trans hd1,by rw[hd2],o2,by omega⟩,o3⟩;simp[results,Tryz.results80,go_sem,o0,o1]
   ·have HLD:Hid (Pl.load l=none):=by
     show _=_;unfold Pl.load;rw[if_neg (fun e=>hn e.2.2)]
    generalize Pl.two l 2=n at*;have hn' :(1000:Int)<n:=by omega
    clear h2 hyes hy1 hy2 hah hrest htw hr4 hdl hsz h4 hl hn
    go_enter Tryz.func80,Tryz.ntmps80
    go_wp2_with fail
    refine(uh C0 _).mono ?_
    rintro e w1 ⟨rfl,rfl⟩
    go_wp2_with fail
    refine(uh C1 _).mono ?_
    rintro e w2 ⟨rfl,hb2⟩
    have hr0:Row w2 w.heap.size 120 [.slice none 0 0,.string ⟨#[]⟩]:=(Row.new w 120 [.slice none 0 0,.string ⟨#[]⟩]).later hb2;have hb1:=(Below.refl _ w).alloc (Nat.le_refl _) (.cells #[.slice none 0 0,.string ⟨#[]⟩] 120);have hb12:=hide (hb1.trans (hb2.mono hb1.size));have c0:=hr0.cell 0 (by simp);have c1:=hr0.cell 1 (by simp);have f0:=hr0.frozen 0;have f1:=hr0.frozen 1
    simp only[List.getElem_cons_zero,List.getElem_cons_succ] at c0 c1;have hr1:=(hr0.set 0 (.slice none 0 0)).set 1 (.string ⟨#[]⟩);have o0:=hide (hr1.cell 0 (by simp));have o1:=hide (hr1.cell 1 (by simp));clear hb1 hb2 hr0 hr1
    go_wp2_with fail
    have p0:=uh o0;have p1:=uh o1;simp only[List.set_cons_zero,List.set_cons_succ,List.getElem_cons_zero,List.getElem_cons_succ] at p0 p1;refine bodyPost_ret (v:= .tuple #[.agg #[.slice none 0 0,.string ⟨#[]⟩],.bool false]) ?_ rfl ⟨.inl ⟨uh HLD,rfl⟩,((uh hb12).setCell (p:=⟨w.heap.size,0,none⟩) (Nat.le_refl _) _).setCell (p:=⟨w.heap.size,1,none⟩) (Nat.le_refl _) _⟩
    simp[results,Tryz.results80,go_sem,p0,p1]
  ·have C1:=hide (fun w=>takeNumber_no ⟨(l.drop 2).toArray⟩ w (by rw[size_mk,List.length_drop];omega))
   have HLD:Hid (Pl.load l=none):=by
    show _=_;unfold Pl.load;rw[if_neg (fun e=>h4 e.1)]
   clear h2 hyes hy1 hy2 hah hrest hdl hsz h4 hl
   go_enter Tryz.func80,Tryz.ntmps80
   go_wp2_with fail
   refine(uh C0 _).mono ?_
   rintro e w1 ⟨rfl,rfl⟩
   go_wp2_with fail
   refine(uh C1 _).mono ?_
   rintro e w2 ⟨rfl,rfl⟩
   go_wp2_with fail
   refine bodyPost_ret (v:= .tuple #[.agg #[.slice none 0 0,.string ⟨#[]⟩],.bool false]) ?_ rfl ⟨.inl ⟨uh HLD,rfl⟩,(Below.refl _ w).alloc (Nat.le_refl _) _⟩;simp[results,Tryz.results80,go_sem]
 ·have hno:(decide ((⟨#[80,49]⟩:ByteArray).size≤(⟨l.toArray⟩:ByteArray).size)&&(((⟨l.toArray⟩:ByteArray).extract 0 (⟨#[80,49]⟩:ByteArray).size).toList==(⟨#[80,49]⟩:ByteArray).toList))=false:=by
   rw[Bool.eq_false_iff];exact fun e=>h2 (hah.1 e)
  have C0:=hide (fun w=>cutPrefix_no ⟨l.toArray⟩ ⟨#[80,49]⟩ w hno)
  have HLD:Hid (Pl.load l=none):=by
   show _=_;unfold Pl.load;rw[if_neg (fun e=>h2 ⟨by omega,e.2.1⟩)]
  clear h2 hah hdl hsz hl hno
  go_enter Tryz.func80,Tryz.ntmps80
  go_wp2_with fail
  refine(uh C0 _).mono ?_
  rintro e w1 ⟨rfl,rfl⟩
  go_wp2_with fail
  refine bodyPost_ret (v:= .tuple #[.agg #[.slice none 0 0,.string ⟨#[]⟩],.bool false]) ?_ rfl ⟨.inl ⟨uh HLD,rfl⟩,(Below.refl _ w).alloc (Nat.le_refl _) _⟩;simp[results,Tryz.results80,go_sem]
end Go.Proofs.YtjelacjggijmfaaGreatDoor
