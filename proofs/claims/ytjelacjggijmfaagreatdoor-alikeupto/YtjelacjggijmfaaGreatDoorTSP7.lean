/-
  Package plans: is a plan sound?
-/
import Derived.Test.YtjelacjggijmfaaGreatDoorTSP2
import Derived.RangeFuncCalls
import Derived.Shelf.Abstract
import Derived.Shelf.RegionOpen
import Derived.OwnWalkIn
import Derived.TacticsInMore
import Derived.LoopNIn
import Derived.LoopIn
set_option maxHeartbeats 1000000
set_option maxRecDepth 20000
namespace Go.Proofs.YtjelacjggijmfaaGreatDoor
open Go.RowKit Go.Maps
abbrev Stepped (b bm:Nat):World→World→Prop:=Turned (fun k=>k=b∨k=bm)
theorem step_low (b bm m h:Nat) (i:Pl.Ins) (w:World) (hr:Row w b 249 [.int .i64 m,.int .i64 h,.map (some bm)]) (h1:1≤i.op) (h8:i.op≤8) (hlow:h<Pl.taken i.op):
 Calls Tryz.prog 132 #[.pointer (some ⟨b,0,none⟩),insV i] w fun e w' =>e= .returned (.bool false)∧Below w.heap.size w w' :=by
 obtain⟨op,p,nx,F,G⟩:=i;simp only at h1 h8 hlow;unfold insV;simp only
 have c1:∀o,(w.alloc o).cell? ⟨b,1,none⟩=some (.int .i64 h):=fun o=>by
  have:=(hr.alloc o).cell 1 (by simp)
  simpa using this
 have HR:=hide hr;have CU:=hide (fun w=>uses_any op h1 h8 w);clear hr;generalize Pl.taken op=tk at*;generalize Pl.pushed op=pu at*;have hlow' :(h:Int)<tk:=by omega
 go_enter Tryz.func132,Tryz.ntmps132
 go_wp2_with fail
 refine(uh CU _).mono ?_
 rintro e w1 ⟨rfl,rfl⟩
 go_wp2_with fail
 all_goals go_ret
 all_goals exact⟨rfl,(Below.refl _ w).alloc (Nat.le_refl _) _⟩
structure StepPost (b bm n m h:Nat) (i:Pl.Ins) (A:Pl.Aw) (w:World) (r:Bool) (w' :World):Prop where
 ok:r=true↔Pl.rise i.op h≤16∧(i.op=6→Pl.agrees A (i.next+i.first) (Pl.rise i.op h))
 on:r=true→Row w' b 249 [.int .i64 m,.int .i64 (Pl.rise i.op h),.map (some bm)]∧∃D',Mw w' bm (n+1) D' ∧Holds D' (if i.op=6 then Pl.put A (i.next+i.first) (Pl.rise i.op h) else A)
 kept:Stepped b bm w w'
theorem step_on (b bm n m h:Nat) (i:Pl.Ins) (D:DataW Unit) (A:Pl.Aw) (w:World) (hr:Row w b 249 [.int .i64 m,.int .i64 h,.map (some bm)]) (h1:1≤i.op) (h8:i.op≤8) (hh:h≤16) (htk:Pl.taken i.op≤h)
 (hnx:i.next≤8388608) (hF:i.first≤65535) (hown:Mw w bm n D) (hA:Holds D A) (hn:n≤16777216) (hne:b≠bm):
 Calls Tryz.prog 132 #[.pointer (some ⟨b,0,none⟩),insV i] w fun e w' =>∃r:Bool,e= .returned (.bool r)∧StepPost b bm n m h i A w r w' :=by
 have CU:=hide (fun w=>uses_any i.op h1 h8 w);have hpu:Pl.pushed i.op≤1:=by unfold Pl.pushed;split<;>omega
 have hri:Pl.rise i.op h=h-Pl.taken i.op+Pl.pushed i.op:=rfl;have hrb:=hr.lt;have hbm:=hown.lt
 have c1:w.cell? ⟨b,1,none⟩=some (.int .i64 h):=by
  have:=hr.cell 1 (by simp)
  simpa using this
 have f1:w.frozen? ⟨b,1,none⟩=false:=hr.frozen 1
 have d1:∀v,(w.setCell ⟨b,1,none⟩ v).cell? ⟨b,1,none⟩=some v:=fun v=>by
  have:=(hr.set 1 v).cell 1 (by simp)
  simpa using this
 obtain⟨X,hX⟩:∃X,X=Obj.cells #[.int .u8 i.op,.int .i64 i.at_,.int .i64 i.next,.int .i64 i.first,.int .i64 i.second] 254:=⟨_,rfl⟩;have hr2:Row ((w.setCell ⟨b,1,none⟩ (.int .i64 (Pl.rise i.op h))).alloc X) b 249 [.int .i64 m,.int .i64 (Pl.rise i.op h),.map (some bm)]:=(hr.set 1 _).alloc X
 have hs2:Stepped b bm w ((w.setCell ⟨b,1,none⟩ (.int .i64 (Pl.rise i.op h))).alloc X):=((Turned.refl _ w).set (.inl rfl) 1 _).alloc X;have hm2:Mw ((w.setCell ⟨b,1,none⟩ (.int .i64 (Pl.rise i.op h))).alloc X) bm n D:=(hown.setCell (a:=⟨b,1,none⟩) (fun e=>hne e.symm) _).alloc X;have htk' :¬(h:Int)<(Pl.taken i.op:Int):=by omega
 have hh' :(h:Int)+((Pl.pushed i.op:Int)-(Pl.taken i.op:Int))=(Pl.rise i.op h:Int):=by omega
 have HH:=hide hh'
 by_cases h16:Pl.rise i.op h≤16
 ·have g16:¬(16:Int)<(h:Int)+((Pl.pushed i.op:Int)-(Pl.taken i.op:Int)):=by omega
  by_cases h6:i.op=6
  ·obtain⟨q,hq⟩:∃q,q=i.next+i.first:=⟨_,rfl⟩
   have CA:=hide (await_any b bm n m (Pl.rise i.op h) q D A _ hr2 hm2 hA (by omega) h16 hn hne);have HQ:Hid ((i.next:Int)+(i.first:Int)=(q:Int)):=by show _=_;omega
   have HP:Hid (∀r w'',(r=true↔Pl.agrees A q (Pl.rise i.op h))→Mw w'' bm (n+1) (D.put (kI q) (.lit (.int .i64 (Pl.rise i.op h))))→((w.setCell ⟨b,1,none⟩ (.int .i64 (Pl.rise i.op h))).alloc X).grownBy w'' (some bm)→StepPost b bm n m h i A w r w''):=by
    intro r w'' k1 k2 k3;refine⟨?_,fun _=>⟨hr2.grown k3 (fun e=>hne (Option.some.inj e)),_,k2,?_⟩,hs2.trans ((Turned.ofGrown k3).mono (fun k e=> .inr (Option.some.inj e)))⟩
    ·rw[k1,hq];exact⟨fun e=>⟨h16,fun _=>e⟩,fun e=>e.2 h6⟩
    ·rw[if_pos h6,←hq];exact hA.put hm2.isMap q _
   clear hr hown hA hri hh' hr2 hs2 hm2 hq h16;obtain⟨op,p,nx,F,G⟩:=i;simp only at h6;subst h6;unfold insV;simp only at*;generalize Pl.rise 6 h=h' at*;generalize Pl.taken 6=tk at*;generalize Pl.pushed 6=pu at*
   go_enter Tryz.func132,Tryz.ntmps132
   go_wp2_with fail
   refine(uh CU _).mono ?_
   rintro e w1 ⟨rfl,rfl⟩
   go_wp2_with fail
   rw[uh HH,uh HQ,←show X=Obj.cells #[.int .u8 6,.int .i64 p,.int .i64 nx,.int .i64 F,.int .i64 G] 254 from hX];refine(uh CA).mono ?_
   rintro e w2 ⟨⟨r,rfl,k1⟩,k2,k3⟩
   have K:=hide (uh HP r w2 k1 k2 k3);clear k1 k2 k3
   go_wp2_with fail
   all_goals go_ret
   all_goals exact⟨_,rfl,uh K⟩
  ·have HP:Hid (StepPost b bm n m h i A w true ((w.setCell ⟨b,1,none⟩ (.int .i64 (Pl.rise i.op h))).alloc X)):=
    ⟨by simp[h16,h6],fun _=>⟨hr2,D,hm2.mono (Nat.le_succ _),by rw[if_neg h6];exact hA⟩,hs2⟩
   clear hr hown hA hri hh' hr2 hs2 hm2 h16;obtain⟨op,p,nx,F,G⟩:=i;unfold insV;simp only at*;generalize Pl.rise op h=h' at*;generalize Pl.taken op=tk at*;generalize Pl.pushed op=pu at*;have b6:((op:Int) !=6)=true:=by rw[bne_iff_ne];omega
   go_enter Tryz.func132,Tryz.ntmps132
   go_wp2_with fail
   refine(uh CU _).mono ?_
   rintro e w1 ⟨rfl,rfl⟩
   go_wp2_with fail
   all_goals go_ret
   all_goals(rw [uh HH,←hX];exact⟨_,rfl,uh HP⟩)
 ·have g16:(16:Int)<(h:Int)+((Pl.pushed i.op:Int)-(Pl.taken i.op:Int)):=by omega
  have HP:Hid (StepPost b bm n m h i A w false ((w.setCell ⟨b,1,none⟩ (.int .i64 (Pl.rise i.op h))).alloc X)):=
   ⟨by simp[h16],fun e=>(by cases e),hs2⟩
  clear hr hown hA hri hh' hr2 hs2 hm2 h16;obtain⟨op,p,nx,F,G⟩:=i;unfold insV;simp only at*;generalize Pl.rise op h=h' at*;generalize Pl.taken op=tk at*;generalize Pl.pushed op=pu at*
  go_enter Tryz.func132,Tryz.ntmps132
  go_wp2_with fail
  refine(uh CU _).mono ?_
  rintro e w1 ⟨rfl,rfl⟩
  go_wp2_with fail
  all_goals go_ret
  all_goals(rw [uh HH,←hX];exact⟨_,rfl,uh HP⟩)
end Go.Proofs.YtjelacjggijmfaaGreatDoor
namespace Go.Proofs.YtjelacjggijmfaaGreatDoor
open Go.RowKit Go.Shelf
attribute [local go_sem] Oper.semAt_some
def encI (x:Pl.Ins×Bool):Array Value:= #[insV x.1,.bool x.2]
theorem below_grown {w w' :World} (hb:Below w.heap.size w w'):w.grownBy w' none:=⟨hb.os,hb.tape,hb.output,hb.size,fun k hk _=>hb.block k hk⟩
theorem OwnDrew {β:Type} {B:Nat} {J:β→World→Prop} (h:OwnFrom B J) {s:β} {W:World} (hs:J s W):J s W.drew:=
 h s W _ none hs ⟨rfl,rfl,rfl,Nat.le_refl _,fun _ _ _=>rfl⟩ (fun r e=>by cases e)
theorem OwnBelow {β:Type} {B:Nat} {J:β→World→Prop} (h:OwnFrom B J) {s:β} {W W' :World} (hs:J s W) (hb:Below W.heap.size W W'):J s W' :=
 h s W W' none hs (below_grown hb) (fun r e=>by cases e)
theorem keepsBelow (B:Nat) {W W' :World} (hb:Below W.heap.size W W'):KeepsFrom B W W' :=
 ⟨hb.size,fun k1 _ _ ho _=>(hb.block k1 (Array.getElem?_eq_some_iff.1 ho).1).trans ho⟩
structure KpI (Bt:Nat) (_:Nat) (W W' :World):Prop where
 text:∀(c:Array Value) (f:Nat×Nat),W.heap[Bt]?=some (Obj.cells c 9 f)→W'.heap[Bt]?=some (Obj.cells c 9 f)
 ins:∀(k:Nat) (c:Array Value) (f:Nat×Nat),W.heap[k]?=some (Obj.cells c 254 f)→W'.heap[k]?=some (Obj.cells c 254 f)
 size:W.heap.size≤W'.heap.size
theorem KpI.trans {Bt l:Nat} {A B C:World} (h:KpI Bt l A B) (k:KpI Bt l B C):KpI Bt l A C:=
 ⟨fun c f e=>k.text c f (h.text c f e),fun j c f e=>k.ins j c f (h.ins j c f e),Nat.le_trans h.size k.size⟩
theorem KpI.putObj (Bt:Nat) (W:World) (l:Nat) (o o' :Obj) (hl:W.heap[l]?=some o) (ho:o.isCells=false):KpI Bt l W (W.putObj l o'):=by
 refine⟨fun c f h=> ?_,fun k c f h=> ?_,(grownBy_putObj' W l o').size⟩
 all_goals refine(World.putObj_heap_other ?_).trans h
 all_goals rintro rfl
 all_goals(rw [h] at hl;cases hl;cases ho)
theorem KpI.below {Bt l:Nat} {W W' :World} (hB:Bt<W.heap.size) (hb:Below W.heap.size W W'):KpI Bt l W W' :=
 ⟨fun _ _ h=>(hb.block Bt hB).trans h,fun k _ _ h=>(hb.block k (Array.getElem?_eq_some_iff.1 h).1).trans h,hb.size⟩
structure InsInv (c:Pl.Bs) (pre:List (Pl.Ins×Bool)) (f p:Nat):Prop where
 eq:Pl.ilist c (c.length+1) 0=pre++Pl.ilist c f p
 fuel:c.length<f+p
 le:p≤c.length
theorem InsInv.start (c:Pl.Bs):InsInv c [] (c.length+1) 0:=⟨rfl,by omega,Nat.zero_le _⟩
theorem InsInv.done {c:Pl.Bs} {pre:List (Pl.Ins×Bool)} {f p:Nat} (h:InsInv c pre f p) (hp:¬p<c.length):Pl.ilist c (c.length+1) 0=pre:=by
 rw[h.eq];cases f with
 |zero=>simp[Pl.ilist]
 |succ f=>rw[Pl.ilist,if_neg hp];simp
theorem InsInv.step {c:Pl.Bs} {pre:List (Pl.Ins×Bool)} {f p:Nat} (h:InsInv c pre f p) (hp:p<c.length) (hw:Pl.whole c p):
 ∃g,Pl.ilist c (c.length+1) 0=pre++(Pl.mkIns c p,true)::Pl.ilist c g (Pl.mkIns c p).next∧InsInv c (pre++[(Pl.mkIns c p,true)]) g (Pl.mkIns c p).next:=by
 have hf:=h.fuel;obtain⟨g,rfl⟩:∃g,f=g+1:=⟨f-1,by omega⟩;have e:=h.eq;rw[show Pl.ilist c (g+1) p=(Pl.mkIns c p,true)::Pl.ilist c g (Pl.mkIns c p).next from(by rw[Pl.ilist,if_pos hp];exact if_pos hw)] at e;have:=Pl.next_gt hw;exact⟨g,e,by rw[e];simp,by omega,Pl.next_le hw⟩
theorem InsInv.bad {c:Pl.Bs} {pre:List (Pl.Ins×Bool)} {f p:Nat} (h:InsInv c pre f p) (hp:p<c.length) (hw:¬Pl.whole c p):
 Pl.ilist c (c.length+1) 0=pre++[(⟨0,0,0,0,0⟩,false)]:=by
 have hf:=h.fuel;obtain⟨g,rfl⟩:∃g,f=g+1:=⟨f-1,by omega⟩;have e:=h.eq
 rwa [show Pl.ilist c (g+1) p=[(⟨0,0,0,0,0⟩,false)] from(by rw[Pl.ilist,if_pos hp];exact if_neg hw)] at e
def intN:Value→Nat
 | .int _ n=>n.toNat
 |_=>0
theorem instructions_any (s:ByteArray) (w:World):
 Calls Tryz.prog 129 #[.string s] w fun e w' =>e= .returned (.func (.func 169) #[] #[.pointer (some ⟨w.heap.size,0,none⟩)])∧w.alloc (.cells #[.string s] 9)=w' :=by
 go_enter Tryz.func129,Tryz.ntmps129
 go_wp2
 go_ret
 exact⟨rfl,rfl⟩
theorem ins_iter (s:ByteArray) (Bt:Nat) (w:World) (hs:s.size≤8388608) (hBt:w.heap[Bt]?=some (.cells #[.string s] 9 (0,0))):
 Mk.Iter Tryz.prog 169 #[.pointer (some ⟨Bt,0,none⟩)] encI (KpI Bt) (Pl.ilist s.data.toList (s.data.toList.length+1) 0) w:=by
 intro l J Jx W hlW hW hJ hJx hY h0;have hBl:Bt<w.heap.size:=(Array.getElem?_eq_some_iff.1 hBt).1;have hB2:W.heap[Bt]?=some (.cells #[.string s] 9 (0,0)):=(hW.block Bt hBl).trans hBt;refine callsIn_of_wp Tryz.func169 rfl trivial ?_
 simp only[Tryz.ntmps169,List.size_toArray,List.length_cons,List.length_nil,Nat.reduceAdd,Nat.reduceSub,Array.replicate_succ,Array.replicate_zero,List.push_toArray,List.append_toArray,List.nil_append,List.cons_append]
 gi_wp2
 gi_loopw [3] (fun at_ wr=>∃(pre:List (Pl.Ins×Bool)) (f p:Nat),at_= .int .i64 p∧Hid (InsInv s.data.toList pre f p)∧Hid (J pre wr)∧Hid (wr.heap[Bt]?=some (.cells #[.string s] 9 (0,0)))) (fun at_ _=>s.size-intN at_)
 case atStart=>
  exact⟨[],_,0,rfl,InsInv.start _,h0,hB2⟩
 case round=>
  obtain⟨pre,f,p,rfl,hI,hJs,hBr⟩:=hrel;have hsz:=Lib.size_eq s;have hpl:=(uh hI).le;rw[←hsz] at hpl;have hcell:wr.cell? ⟨Bt,0,none⟩=some (.string s):=by have:=uh hBr;simp[World.cell?,this]
  have hBw:Bt<wr.heap.size:=(Array.getElem?_eq_some_iff.1 (uh hBr)).1
  by_cases hp:p<s.size
  ·have hp' :p<s.data.toList.length:=by omega
   by_cases hw:Pl.whole s.data.toList p
   ·obtain⟨g,hLeq,hI2⟩:=(uh hI).step hp' hw
    have HC:=hide (insAt_yes s p wr hp hs hw);have hnx:=Pl.next_le hw;rw[←hsz] at hnx;have hgt:=Pl.next_gt hw;generalize Pl.mkIns s.data.toList p=i at*;have HI2:=hide hI2;have HL:=hide hLeq;clear hI2 hLeq hsz hp' hw hI
    gi_wp2_with fail
    refine⟨trivial,(callsIn_wide.2 (uh HC)).mono ?_⟩
    rintro e w2 ⟨rfl,hb2⟩
    obtain⟨op,at1,nx,F,G⟩:=i;simp only at hnx hgt;have hJ2:=OwnBelow hJ (uh hJs) (hb2.alloc hb2.size (.cells #[.int .u8 op,.int .i64 at1,.int .i64 nx,.int .i64 F,.int .i64 G] 254));obtain⟨fn,tmps,assign,body,hy,hR⟩:=hY pre _ _ _ (uh HL) hJ2;have HR:=hide hR
    have hB3:(w2.alloc (.cells #[.int .u8 op,.int .i64 at1,.int .i64 nx,.int .i64 F,.int .i64 G] 254)).heap[Bt]?=some (.cells #[.string s] 9 (0,0)):=((hb2.alloc hb2.size _).block Bt hBw).trans (uh hBr);have HB3:=hide hB3
    have hbx:(w2.alloc (.cells #[.int .u8 op,.int .i64 at1,.int .i64 nx,.int .i64 F,.int .i64 G] 254)).heap[w2.heap.size]?=some (.cells #[.int .u8 op,.int .i64 at1,.int .i64 nx,.int .i64 F,.int .i64 G] 254 (0,0)):=World.alloc_heap_new w2 _;have HBX:=hide hbx
    have HX:Hid (∀W',Jx (pre++[((⟨op,at1,nx,F,G⟩:Pl.Ins),true)]) W' →∃pre post,Pl.ilist s.data.toList (s.data.toList.length+1) 0=pre++post∧Jx pre W'):=fun W' hx=>⟨_,_,by rw[uh HL,List.append_cons],hx⟩
    clear hR hJ2 hJs hB3 hbx hb2 HL HC;unfold insV;unfold encI insV at hy;simp only at hy⊢
    gi_wp2_with fail
    refine(Mk.roundIn_any (uh HR)).mono ?_
    rintro e W3 (⟨rfl,hJ3,hk3⟩|⟨rfl,hJx3,-⟩)
    ·have HJ3:=hide hJ3
     have hbx3:=hk3.ins _ _ _ (uh HBX);have hn3:W3.cell? ⟨w2.heap.size,2,none⟩=some (.int .i64 nx):=by simp[World.cell?,hbx3]
     have HB4:=hide (hk3.text _ _ (uh HB3));clear hJ3 hk3 hbx3 HR hy HB3 HBX
     gi_wp2_with fail
     go_roundw
     case rel=>exact⟨_,g,nx,rfl,HI2,HJ3,HB4⟩
     case measure=>simp only[intN];omega
    ·clear hy
     gi_wp2_with fail
     refine bodyPost_ret (results_none rfl _ _ _) rfl ?_;exact⟨⟨_,rfl⟩,.inr (uh HX _ hJx3)⟩
   ·have HL:=hide ((uh hI).bad hp' hw)
    have HC:=hide (insAt_no s p wr hp hs hw);clear hsz hp' hw hI
    gi_wp2_with fail
    refine⟨trivial,(callsIn_wide.2 (uh HC)).mono ?_⟩
    rintro e w2 ⟨rfl,hb2⟩
    have hJ2:=OwnBelow hJ (uh hJs) (hb2.alloc hb2.size (.cells #[.int .u8 0,.int .i64 0,.int .i64 0,.int .i64 0,.int .i64 0] 254));obtain⟨fn,tmps,assign,body,hy,hR⟩:=hY pre _ [] _ (uh HL) hJ2;have HR:=hide hR;clear hR hJ2 hJs hb2 HC;unfold insV;unfold encI insV at hy;have z0:((0:Nat):Int)=0:=rfl;simp only[z0] at hy⊢;clear z0
    gi_wp2_with fail
    refine(Mk.roundIn_any (uh HR)).mono ?_
    rintro e W3 (⟨rfl,hJ3,-⟩|⟨rfl,hJx3,-⟩)
    ·clear hy
     gi_wp2_with fail
     refine bodyPost_ret (results_none rfl _ _ _) rfl ?_;exact⟨⟨_,rfl⟩,.inl (by rw[uh HL];exact hJ3)⟩
    ·clear hy
     gi_wp2_with fail
     refine bodyPost_ret (results_none rfl _ _ _) rfl ?_;exact⟨⟨_,rfl⟩,.inr ⟨_,[],by rw[uh HL,List.append_nil],hJx3⟩⟩
  ·have HD:=hide ((uh hI).done (by omega))
   clear hsz
   gi_wp2
   go_end0
   exact⟨⟨_,rfl⟩,.inl (by rw[uh HD];exact uh hJs)⟩
end Go.Proofs.YtjelacjggijmfaaGreatDoor
namespace Go.Proofs.YtjelacjggijmfaaGreatDoor
open Go.RowKit Go.Shelf Go.Maps
attribute [local go_sem] Oper.semAt_some
structure SoundI (n:Nat) (w:World) (sl:Value) (s:ByteArray) (m h k:Nat) (D:DataW Unit) (W:World):Prop where
 plan:Row W n 120 [sl,.string s]
 res:Row W (n+1) 4 [.bool false]
 map:Mw W (n+2) k D
 walk:Row W (n+3) 249 [.int .i64 m,.int .i64 h,.map (some (n+2))]
 below:Below n w W
 size:n+5≤W.heap.size
theorem Mw.own (B b k:Nat) (D:DataW Unit) (hb:b<B) {β:Type}:OwnFrom B (fun (_:β) W=>Mw W b k D):=fun _ X Y row hs hg hr=>
 hs.kept hg (fun e=>by have:=(hr b e.symm).1;omega)
theorem SoundI.own {n:Nat} {w:World} {sl:Value} {s:ByteArray} {m h k:Nat} {D:DataW Unit} {B:Nat} {β:Type} (hB:n+5≤B):OwnFrom B (fun (_:β) W=>SoundI n w sl s m h k D W):=fun _ X Y row hs hg hr=>
 ⟨Row.own B _ _ _ () X Y row hs.plan hg hr,Row.own B _ _ _ () X Y row hs.res hg hr,Mw.own B _ _ _ (by omega) () X Y row hs.map hg hr,Row.own B _ _ _ () X Y row hs.walk hg hr,
  hs.below.trans ⟨hg.os,hg.tape,hg.output,hg.size,fun k hk=>hg.block k (by have:=hs.size;omega) (fun e=>by have:=(hr k e.symm).1;omega)⟩,Nat.le_trans hs.size hg.size⟩
structure SoundX (n:Nat) (w:World) (W:World):Prop where
 res:Row W (n+1) 4 [.bool false]
 below:Below n w W
theorem SoundX.own {n:Nat} {w:World} {B:Nat} {β:Type} (hB:n≤B):OwnFrom B (fun (_:β) W=>SoundX n w W):=fun _ X Y row hs hg hr=>
 ⟨Row.own B _ _ _ () X Y row hs.res hg hr,hs.below.trans ⟨hg.os,hg.tape,hg.output,hg.size,fun k hk=>hg.block k (by have:=hs.res.lt;omega) (fun e=>by have:=(hr k e.symm).1;omega)⟩⟩
abbrev Inner (n:Nat):World→World→Prop:=Turned (fun k=>k=n+1∨k=n+2∨k=n+3)
theorem Inner.keeps {n:Nat} {X Y:World} (h:Inner n X Y):KeepsFrom (n+5) X Y:=
 ⟨h.size,fun k _ hk ho _=>(h.block k (Array.getElem?_eq_some_iff.1 ho).1 (by omega)).trans ho⟩
theorem Inner.kp {n l:Nat} {w:World} {sl:Value} {s:ByteArray} {m hh k:Nat} {D:DataW Unit} {X Y:World} (h:Inner n X Y) (hI:SoundI n w sl s m hh k D X):KpI (n+4) l X Y:=by
 refine⟨fun c f e=>(h.block _ (Array.getElem?_eq_some_iff.1 e).1 (by omega)).trans e,fun j c f e=>(h.block _ (Array.getElem?_eq_some_iff.1 e).1 ?_).trans e,h.size⟩
 rintro(rfl|rfl|rfl)
 ·have:=hI.res
  unfold Row at this;rw[this] at e;cases e
 ·obtain⟨es,clock,hb,_⟩:=hI.map
  rw[hb] at e;cases e
 ·have:=hI.walk
  unfold Row at this;rw[this] at e;cases e
theorem Inner.x {n:Nat} {w:World} {sl:Value} {s:ByteArray} {m hh k:Nat} {D:DataW Unit} {X Y:World} (h:Inner n X Y) (hI:SoundI n w sl s m hh k D X) (hr:Row Y (n+1) 4 [.bool false]):SoundX n w Y:=
 ⟨hr,h.below hI.below (by have:=hI.size;omega) (fun k e=>by omega)⟩
structure SoundS (c:Pl.Bs) (m:Nat) (pre:List (Pl.Ins×Bool)) (p h k:Nat) (A:Pl.Aw):Prop where
 inv:∃f,InsInv c pre f p
 spec:Pl.Spec c m 0 0 (fun _=>none)↔Pl.Spec c m p h A
 h16:h≤16
 le:k≤p
theorem SoundS.cut {c:Pl.Bs} {m:Nat} {pre post:List (Pl.Ins×Bool)} {x:Pl.Ins×Bool} {p h k:Nat} {A:Pl.Aw} (hS:SoundS c m pre p h k A) (hL:Pl.ilist c (c.length+1) 0=pre++x::post):
 p<c.length∧((Pl.whole c p∧x=(Pl.mkIns c p,true)∧∃g,InsInv c (pre++[x]) g (Pl.mkIns c p).next)∨(¬Pl.whole c p∧x=(⟨0,0,0,0,0⟩,false))):=by
 obtain⟨f,hI⟩:=hS.inv
 by_cases hp:p<c.length
 ·refine⟨hp,?_⟩
  by_cases hw:Pl.whole c p
  ·obtain⟨g,h1,h2⟩:=hI.step hp hw
   rw[hL] at h1;have:=List.append_cancel_left h1;simp only[List.cons.injEq] at this;obtain⟨rfl,_⟩:=this;exact .inl ⟨hw,rfl,g,h2⟩
  ·have h1:=hI.bad hp hw
   rw[hL] at h1;have:=List.append_cancel_left h1;simp only[List.cons.injEq] at this;exact .inr ⟨hw,this.1⟩
 ·have h1:=hI.done hp
  rw[hL] at h1;simp at h1
theorem whole_op {c:Pl.Bs} {p:Nat} (hw:Pl.whole c p):1≤(Pl.mkIns c p).op∧(Pl.mkIns c p).op≤8:=by
 have hz:=hw.1;show 1≤Pl.opAt c p∧Pl.opAt c p≤8;generalize Pl.opAt c p=op at*;have h9:¬(op=0∨9≤op):=fun h=>hz (by unfold Pl.isz;repeat rw[if_neg (by omega)])
 omega
theorem first_le (c:Pl.Bs) (p:Nat):(Pl.mkIns c p).first≤65535:=by
 have h1:=Pl.two_lt c (p+1);have h2:=Pl.opAt_lt c (p+1);unfold Pl.mkIns;simp only;split
 ·omega
 ·split<;>omega
end Go.Proofs.YtjelacjggijmfaaGreatDoor
