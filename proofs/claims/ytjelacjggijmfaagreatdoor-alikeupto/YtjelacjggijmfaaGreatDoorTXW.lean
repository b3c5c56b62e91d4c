/-
  maker.Plain: what it answers.
-/
import Derived.Test.YtjelacjggijmfaaGreatDoorTXP
import Derived.Lib.IndexBytes
namespace Go.Proofs.YtjelacjggijmfaaGreatDoor
open Go.RowKit
theorem data_app (a b:ByteArray):(a++b).data.toList=a.data.toList++b.data.toList:=by simp
end Go.Proofs.YtjelacjggijmfaaGreatDoor
namespace Go.Proofs.YtjelacjggijmfaaGreatDoor
open Go.RowKit
set_option maxHeartbeats 400000 in
theorem closed_any (s:ByteArray) (w:World) (hs:s.size≤4294967200):
 Calls Tryz.prog 76 #[.string s] w fun e w' =>e= .returned (.string ⟨(Mk.closed s.data.toList).toArray⟩)∧w=w' :=by
 cases h:Mk.endsBack s.data.toList with
 |true=>
  go_enter Tryz.func76,Tryz.ntmps76
  go_wp2_with (go_at_call 123;refine(lHasSuffix _ _ (by omega)).mono ?_;rintro e w1 ⟨rfl,rfl⟩;rw[h])
  go_ret
  refine⟨ret_str (mk_eq ?_),rfl⟩;simp[Mk.closed,h]
 |false=>
  go_enter Tryz.func76,Tryz.ntmps76
  go_wp2_with (go_at_call 123;refine(lHasSuffix _ _ (by omega)).mono ?_;rintro e w1 ⟨rfl,rfl⟩;rw[h])
  go_ret
  refine⟨ret_str (mk_eq ?_),rfl⟩;simp[Mk.closed,h]
set_option maxHeartbeats 400000 in
theorem sides_any (a b c:ByteArray) (w:World) (hs:a.size+b.size+c.size≤4294967296):
 Calls Tryz.prog 125 #[.string a,.string b,.string c] w fun e w' =>e= .returned (.string ⟨(Mk.sides a.data.toList b.data.toList c.data.toList).toArray⟩)∧w=w' :=by
 cases h0:c.toList.isEmpty with
 |true=>
  have HE:=hide (empty_of h0)
  go_enter Tryz.func125,Tryz.ntmps125
  go_wp2
  go_ret
  refine⟨ret_str (mk_eq ?_),rfl⟩;rw[uh HE];simp[Mk.sides]
 |false=>
  go_enter Tryz.func125,Tryz.ntmps125
  go_wp2
  go_ret
  refine⟨ret_str (mk_eq ?_),rfl⟩;have h1:c.data.toList.isEmpty=false:=by rw[←Lib.toList_data];exact h0
  simp only[Mk.sides,h1,data_app];simp
theorem row_cells {w:World} {base e n A cap:Nat} {xs:List Value} (h:w.ownsRow base e 1 (.slice (some ⟨A,0,none⟩) n cap) n xs):
 A<w.heap.size∧∀(j:Nat) x,xs[j]?=some x→w.cell? ⟨A,0+j,none⟩=some x:=by
 obtain⟨hl,⟨h1,_⟩|⟨g,cap',cur,hv,_,hg,hn,_,hc,ht⟩⟩:=h
 ·cases h1
 ·cases hv
  refine⟨(Array.getElem?_eq_some_iff.1 hg).1,fun j x hj=> ?_⟩;have hjl:j<n:=by have:=(List.getElem?_eq_some_iff.1 hj).1;omega
  rw[←ht,List.getElem?_take,if_pos (by omega)] at hj;simp only[Array.getElem?_toList] at hj;simp[World.cell?,hg,hj]
theorem join_words (s:ByteArray):Lib.join ((Lib.goFieldsP Mk.blkN s).map (·.data.toList)) [32]=Mk.oneBlank s.data.toList:=by
 rw[Mk.goFields_words];rfl
set_option maxRecDepth 100000 in
set_option maxHeartbeats 400000 in
theorem oneBlank_any (s:ByteArray) (w:World) (hs:s.size≤4294967200):
 Calls Tryz.prog 124 #[.string s] w fun e w' =>e= .returned (.string ⟨(Mk.oneBlank s.data.toList).toArray⟩)∧Below w.heap.size w w' :=by
 have hcount:(Lib.goFieldsP Mk.blkN s).length≤4294967200:=by
  have h1:=Mk.words_count s.data.toList;rw[←Mk.goFields_words,List.length_map] at h1;have:=Lib.size_eq s;omega
 have hlen:(Lib.join ((Lib.goFieldsP Mk.blkN s).map (·.data.toList)) [32]).length≤140737488355328:=by
  have h1:=Mk.oneBlank_le s.data.toList;rw[join_words];have:=Lib.size_eq s;omega
 have HJ:=hide (join_words s);have HW:=hide (words_any s w (by omega));have HL:=hide hlen;clear hlen;generalize Lib.goFieldsP Mk.blkN s=ws at*
 go_enter Tryz.func124,Tryz.ntmps124
 go_wp2_with fail
 refine(uh HW).mono ?_
 rintro e w1 ⟨A,rfl,h2,h3⟩
 obtain⟨hA,hcells⟩:=row_cells h2;have hj:=Any.strings_Join Tryz.lay156 Tryz.layX A 0 ws.length ws ⟨#[32]⟩ w1 (fun j x hx=>hcells j _ (by rw[List.getElem?_map,hx];rfl)) hA (by omega) (Nat.le_refl _) (uh HL);have HJ2:=hide hj;clear hj hcells h2
 go_wp2_with fail
 refine(uh HJ2).mono ?_
 rintro e w2 ⟨rfl,hb⟩
 go_wp2_with fail
 go_ret
 refine⟨ret_str ?_,h3.trans (hb.mono h3.size)⟩;rw[←uh HJ]
set_option maxHeartbeats 1000000 in
theorem written_any (l:Mk.Ln) (w:World) (hl:l.left.length≤1073741824) (hr:l.right.length≤1073741824) (hk:l.kind≤5):
 Calls Tryz.prog 77 #[lnV l] w fun e w' =>e= .returned (.string ⟨(Mk.written l).toArray⟩)∧Below w.heap.size w w' :=by
 obtain⟨n,k,L,R⟩:=l;simp only at hl hr hk;unfold lnV;simp only;have hLs:(⟨L.toArray⟩:ByteArray).size=L.length:=size_mk L;have hRs:(⟨R.toArray⟩:ByteArray).size=R.length:=size_mk R
 by_cases h1:k=1
 ·subst h1
  have HW:Hid (Mk.written ⟨n,1,L,R⟩=[9]++R):=rfl
  go_enter Tryz.func77,Tryz.ntmps77
  go_wp2_with fail
  go_ret
  refine⟨ret_str (mk_eq ?_),(Below.refl _ w).alloc (Nat.le_refl _) _⟩;rw[uh HW];simp
 by_cases h2:k=2
 ·subst h2
  have HW:Hid (Mk.written ⟨n,2,L,R⟩=Mk.incl++[32]++Mk.oneBlank R):=rfl;have ho:=Mk.oneBlank_le R;have hos:(⟨(Mk.oneBlank R).toArray⟩:ByteArray).size=(Mk.oneBlank R).length:=size_mk _
  go_enter Tryz.func77,Tryz.ntmps77
  go_wp2_with fail
  refine(oneBlank_any ⟨R.toArray⟩ _ (by omega)).mono ?_
  rintro e w1 ⟨rfl,hb⟩
  simp only;generalize Mk.oneBlank R=q at*
  go_wp2_with fail
  go_ret
  refine⟨ret_str (mk_eq ?_),below_new hb⟩;rw[uh HW];simp[Mk.incl]
 by_cases h3:k=3
 ·subst h3
  have HW:Hid (Mk.written ⟨n,3,L,R⟩=Mk.sides L [58,61] R):=rfl
  go_enter Tryz.func77,Tryz.ntmps77
  go_wp2_with fail
  refine(sides_any ⟨L.toArray⟩ ⟨#[58,61]⟩ ⟨R.toArray⟩ _ (by rw[hLs,hRs];show _+2+_≤_;omega)).mono ?_
  rintro e w1 ⟨rfl,rfl⟩
  go_wp2_with fail
  go_ret
  refine⟨ret_str ?_,(Below.refl _ w).alloc (Nat.le_refl _) _⟩;rw[uh HW]
 by_cases h4:k=4
 ·subst h4
  have HW:Hid (Mk.written ⟨n,4,L,R⟩=Mk.sides L [61] R):=rfl
  go_enter Tryz.func77,Tryz.ntmps77
  go_wp2_with fail
  refine(sides_any ⟨L.toArray⟩ ⟨#[61]⟩ ⟨R.toArray⟩ _ (by rw[hLs,hRs];show _+1+_≤_;omega)).mono ?_
  rintro e w1 ⟨rfl,rfl⟩
  go_wp2_with fail
  go_ret
  refine⟨ret_str ?_,(Below.refl _ w).alloc (Nat.le_refl _) _⟩;rw[uh HW]
 have b1:((k:Int)==1)=false:=by rw[beq_eq_false_iff_ne];omega
 have b2:((k:Int)==2)=false:=by rw[beq_eq_false_iff_ne];omega
 have b3:((k:Int)==3)=false:=by rw[beq_eq_false_iff_ne];omega
 have b4:((k:Int)==4)=false:=by rw[beq_eq_false_iff_ne];omega
 have HW:Hid (Mk.written ⟨n,k,L,R⟩=Mk.sides (Mk.oneBlank L) [58] (Mk.oneBlank R)):=by
  show _=_;unfold Mk.written;simp[h1,h2,h3,h4]
 have hoL:=Mk.oneBlank_le L;have hoR:=Mk.oneBlank_le R;have hsL:(⟨(Mk.oneBlank L).toArray⟩:ByteArray).size=(Mk.oneBlank L).length:=size_mk _;have hsR:(⟨(Mk.oneBlank R).toArray⟩:ByteArray).size=(Mk.oneBlank R).length:=size_mk _;clear h1 h2 h3 h4;have cL:=fun W=>oneBlank_any ⟨L.toArray⟩ W (by omega)
 have cR:=fun W=>oneBlank_any ⟨R.toArray⟩ W (by omega)
 simp only at cL cR;generalize Mk.oneBlank L=qL at*;generalize Mk.oneBlank R=qR at*;have cS:=fun W=>sides_any ⟨qL.toArray⟩ ⟨#[58]⟩ ⟨qR.toArray⟩ W (by rw[hsL,hsR];show _+1+_≤_;omega)
 have CS:=hide cS;clear cS;have CL:=hide cL;have CR:=hide cR;clear cL cR
 go_enter Tryz.func77,Tryz.ntmps77
 go_wp2_with fail
 go_region_with (first
  |(go_at_call_of 124 ({data:=List.toArray L}:ByteArray);refine(uh CL _).mono ?_;rintro e w1 ⟨rfl,hb1⟩;obtain⟨hc1,hf1⟩:=bcell hb1)
  |(go_at_call_of 124 ({data:=List.toArray R}:ByteArray);refine(uh CR _).mono ?_;rintro e w2 ⟨rfl,hb2⟩)
  |(go_at_call 125;refine(uh CS _).mono ?_;rintro e w3 ⟨rfl,rfl⟩))
 all_goals go_wp2_with fail
 all_goals go_ret
 all_goals refine⟨ret_str ?_,?_⟩
 all_goals first
  |(show (⟨(Mk.sides qL [58] qR).toArray⟩:ByteArray)=_;rw[uh HW])
  |exact(((Below.refl _ w).alloc (Nat.le_refl _) _).drew.trans (hb1.mono (by simp))).trans (hb2.mono (by have:=hb1.size;simp at this;omega))
end Go.Proofs.YtjelacjggijmfaaGreatDoor
namespace Go.Proofs.YtjelacjggijmfaaGreatDoor
open Go.RowKit
theorem Bld.lt {B b:Nat} {acc:List UInt8} {w:World} (h:Bld B b acc w):b<w.heap.size:=by
 rcases h with h|h<;>exact h.lt
end Go.Proofs.YtjelacjggijmfaaGreatDoor
namespace Go.Proofs.YtjelacjggijmfaaGreatDoor
open Go.RowKit Go.Shelf
theorem Box1.lt {w:World} {b:Nat} {t:TypeId} {v:Value} (h:Box1 w b t v):b<w.heap.size:=(Array.getElem?_eq_some_iff.1 h).1
theorem Box1.later {w w' :World} {b:Nat} {t:TypeId} {v:Value} (h:Box1 w b t v) (hb:Below w.heap.size w w'):Box1 w' b t v:=(hb.block b h.lt).trans h
theorem Box1.below {w w' :World} {b n:Nat} {t:TypeId} {v:Value} (h:Box1 w b t v) (hb:Below n w w') (hn:b<n):Box1 w' b t v:=(hb.block b hn).trans h
theorem Box1.cell {w:World} {b:Nat} {t:TypeId} {v:Value} (h:Box1 w b t v):w.cell? ⟨b,0,none⟩=some v:=by unfold Box1 at h;simp[World.cell?,h]
theorem Box1.frozen {w:World} {b:Nat} {t:TypeId} {v:Value} (h:Box1 w b t v):w.frozen? ⟨b,0,none⟩=false:=by unfold Box1 at h;simp[World.frozen?,h]
theorem Box1.set {w:World} {b:Nat} {t:TypeId} {v:Value} (h:Box1 w b t v) (u:Value):Box1 (w.setCell ⟨b,0,none⟩ u) b t u:=by
 unfold Box1 at*;simp[World.setCell,Array.getElem?_modify,h]
theorem Box1.other {w:World} {b c:Nat} {t:TypeId} {v:Value} (h:Box1 w b t v) (hne:b≠c) (o:Nat) (u:Value):Box1 (w.setCell ⟨c,o,none⟩ u) b t v:=
 (Below.heap_setCell w ⟨c,o,none⟩ u b hne).trans h
theorem Box1.drew {w:World} {b:Nat} {t:TypeId} {v:Value} (h:Box1 w b t v):Box1 w.drew b t v:=h
theorem Box1.others {w w' :World} {b c:Nat} {t:TypeId} {v:Value} (h:Box1 w b t v) (hk:Lib.OthersKept 5 (some c) w w') (hne:b≠c) (ht:t≠5):Box1 w' b t v:=
 hk b _ h (by simpa using hne) (by intro c' fz e;cases e;exact ht rfl)
theorem Box1.own (B b:Nat) (t:TypeId) (v:Value) {β:Type}:OwnFrom B (fun (_:β) W=>Box1 W b t v):=box_own B b #[v] t
theorem Box4.own (B b:Nat) (t:TypeId) (a0 a1 a2 a3:Value) {β:Type}:OwnFrom B (fun (_:β) W=>Box4 W b t a0 a1 a2 a3):=box_own B b #[a0,a1,a2,a3] t
theorem Bld.drew {B b:Nat} {acc:List UInt8} {w:World} (h:Bld B b acc w):Bld B b acc w.drew:=h
theorem Bld.setOther {B b c:Nat} {t:TypeId} {v:Value} {acc:List UInt8} {w:World} (h:Bld B b acc w) (hc:Box1 w c t v) (h1:t≠5) (o:Nat) (u:Value):Bld B b acc (w.setCell ⟨c,o,none⟩ u):=by
 unfold Box1 at hc
 have aux:∀p,Lib.BuilderAtF 158 5 B b p (Lib.byteCells acc) w→Lib.BuilderAtF 158 5 B b p (Lib.byteCells acc) (w.setCell ⟨c,o,none⟩ u):=by
  rintro p ⟨hB,x,hb,⟨hl,hr⟩,hne⟩
  refine⟨hB,x,(Below.heap_setCell w ⟨c,o,none⟩ u b (fun e=> ?_)).trans hb,⟨hl,?_⟩,hne⟩
  ·subst e;rw[hb] at hc;cases hc
  ·rcases hr with hr|⟨g,cap,cur,fz,hv,hBg,hg,rest⟩
   ·exact .inl hr
   ·refine .inr ⟨g,cap,cur,fz,hv,hBg,(Below.heap_setCell w ⟨c,o,none⟩ u g (fun e=> ?_)).trans hg,rest⟩
    subst e;rw[hg] at hc;cases hc;exact h1 rfl
 rcases h with h|h
 ·exact .inl (aux _ h)
 ·exact .inr (aux _ h)
theorem Bld.own (C B b:Nat) (acc:List UInt8) {β:Type}:OwnFrom C (fun (_:β) W=>Bld B b acc W):=fun _ X Y row hs hg hr=>
 Bld.kept hs (fun k c t f hk=>(hg.block k (Array.getElem?_eq_some_iff.1 hk).1 (fun e=>by
  obtain⟨_,o,ho,hc⟩:=hr k e.symm
  rw[hk] at ho;cases ho;cases hc)).trans hk)
theorem Bld.blk {B b:Nat} {acc:List UInt8} {w:World} (h:Bld B b acc w):∃c,w.heap[b]?=some (.cells c 158 (0,0)):=by
 rcases h with⟨_,v,hb,_⟩|⟨_,v,hb,_⟩
 ·exact⟨_,hb⟩
 ·exact⟨_,hb⟩
theorem KpA.refl (l:Nat) (X:World):KpA l X X:=⟨fun g=>g,fun _ _ _ h=>h,fun _ _ _ h _=>h,Nat.le_refl _⟩
theorem KpA.bld {l:Nat} {W W' :World} {B b:Nat} {acc:List UInt8} (h:Bld B b acc W) (hb:Below B W W') (hk:Lib.OthersKept 5 (some b) W W') (hB:0<B):KpA l W W' :=by
 obtain⟨c0,h0⟩:=h.blk;refine⟨fun g=> ?_,fun k c f hi=>hk k _ hi (fun e=> ?_) (by intro c' fz e;cases e),fun k o _ hi ho=>hk k _ hi (fun e=> ?_) (by intro c' fz e;subst e;cases ho),hb.size⟩
 ·obtain⟨m,hm⟩:=g
  exact⟨m,(hb.cell (p:=⟨0,0,none⟩) hB).trans hm⟩
 ·cases e;rw[h0] at hi;cases hi
 ·cases e;rw[h0] at hi;cases hi;cases ho
theorem KpA.keeps {l B:Nat} {W W' :World} (h:KpA l W W') (hl:l<B):KeepsFrom B W W' :=⟨h.size,fun k o hk ho hc=>h.others k o (by omega) ho hc⟩
end Go.Proofs.YtjelacjggijmfaaGreatDoor
namespace Go.Proofs.YtjelacjggijmfaaGreatDoor
open Go.RowKit Go.Shelf
attribute [local go_sem] Oper.semAt_some
def plainV (r:List UInt8×Nat×Nat):Value:= .tuple #[.string ⟨r.1.toArray⟩,.int .i64 r.2.1,.int .i64 r.2.2]
structure TextI (n:Nat) (w:World) (op:Bool) (acc:List UInt8) (W:World):Prop where
 r0:Box1 W n 9 (.string ⟨#[]⟩)
 r1:Box1 W (n+1) 24 (.int .i64 0)
 r2:Box1 W (n+2) 3 (.int .i64 0)
 bld:Bld (n+3) (n+3) acc W
 flag:Box1 W (n+4) 4 (.bool op)
 below:Below n w W
 glob:Glob W
 size:n+5<W.heap.size
theorem TextI.own {n:Nat} {w:World} {op:Bool} {acc:List UInt8} {B:Nat} {β:Type} (hB:n≤B):OwnFrom B (fun (_:β) W=>TextI n w op acc W):=fun _ X Y row hs hg hr=>
 ⟨Box1.own B _ _ _ () X Y row hs.r0 hg hr,Box1.own B _ _ _ () X Y row hs.r1 hg hr,Box1.own B _ _ _ () X Y row hs.r2 hg hr,Bld.own B _ _ _ () X Y row hs.bld hg hr,Box1.own B _ _ _ () X Y row hs.flag hg hr,
  hs.below.trans ⟨hg.os,hg.tape,hg.output,hg.size,fun k hk=>hg.block k (by have:=hs.r0.lt;omega) (fun e=>by have:=(hr k e.symm).1;omega)⟩,glob_own B () X Y row hs.glob hg hr,Nat.lt_of_lt_of_le hs.size hg.size⟩
theorem TextI.later {n:Nat} {w:World} {op:Bool} {acc:List UInt8} {X Y:World} (hs:TextI n w op acc X) (hb:Below X.heap.size X Y):TextI n w op acc Y:=
 ⟨hs.r0.later hb,hs.r1.later hb,hs.r2.later hb,hs.bld.later hb,hs.flag.later hb,hs.below.trans (hb.mono (by have:=hs.r0.lt;omega)),hs.glob.later hb,Nat.lt_of_lt_of_le hs.size hb.size⟩
structure TextX (n:Nat) (w:World) (er num:Nat) (W:World):Prop where
 r0:Box1 W n 9 (.string ⟨#[]⟩)
 r1:Box1 W (n+1) 24 (.int .i64 er)
 r2:Box1 W (n+2) 3 (.int .i64 num)
 below:Below n w W
theorem TextX.own {n:Nat} {w:World} {er num:Nat} {B:Nat} {β:Type} (hB:n≤B):OwnFrom B (fun (_:β) W=>TextX n w er num W):=fun _ X Y row hs hg hr=>
 ⟨Box1.own B _ _ _ () X Y row hs.r0 hg hr,Box1.own B _ _ _ () X Y row hs.r1 hg hr,Box1.own B _ _ _ () X Y row hs.r2 hg hr,
  hs.below.trans ⟨hg.os,hg.tape,hg.output,hg.size,fun k hk=>hg.block k (by have:=hs.r0.lt;omega) (fun e=>by have:=(hr k e.symm).1;omega)⟩⟩
def textAct (t:List UInt8) (n Bx:Nat) (x:Mk.Ln×Nat):Act:={tmps:= #[.string ⟨t.toArray⟩,undef,.pointer (some ⟨n,0,none⟩),.pointer (some ⟨n+1,0,none⟩),.pointer (some ⟨n+2,0,none⟩),.pointer (some ⟨n+3,0,none⟩),.pointer (some ⟨n+4,0,none⟩),
 .pointer (some ⟨Bx,0,none⟩),.int .i64 x.2,.string ⟨t.toArray⟩,.func (.func 119) #[] #[.pointer (some ⟨n+5,0,none⟩)],lnV x.1,.int .i64 x.2,undef,undef,undef,undef,undef,undef,undef,undef,undef,undef,undef,undef,undef,undef,undef,undef,undef,undef,undef,undef,undef,undef,undef,undef,undef,undef],defers:=[]}
def plainW (t:List UInt8) (w:World):World:=((((((w.alloc (.cells #[.string ⟨#[]⟩] 9)).alloc (.cells #[.int .i64 0] 24)).alloc (.cells #[.int .i64 0] 3)).alloc (.cells #[.pointer none,.slice none 0 0] 158)).alloc (.cells #[.bool false] 4)).alloc (.cells #[.string ⟨t.toArray⟩] 9))
theorem textStart (t:List UInt8) (w:World) (hg:Glob w):TextI w.heap.size w false [] (plainW t w)∧Box1 (plainW t w) (w.heap.size+5) 9 (.string ⟨t.toArray⟩):=by
 have hs:(plainW t w).heap.size=w.heap.size+6:=by simp[plainW]
 have hb:Below w.heap.size w (plainW t w):=
  ((((((Below.refl _ w).alloc (Nat.le_refl _) _).alloc (by simp only[World.size_alloc];omega) _).alloc (by simp only[World.size_alloc];omega) _).alloc (by simp only[World.size_alloc];omega) _).alloc (by simp only[World.size_alloc];omega) _).alloc (by simp only[World.size_alloc];omega) _
 have hbl:Bld (w.heap.size+3) (w.heap.size+3) [] (plainW t w):=by
  have h1:=Bld.fresh (((w.alloc (.cells #[.string ⟨#[]⟩] 9)).alloc (.cells #[.int .i64 0] 24)).alloc (.cells #[.int .i64 0] 3));have h2:(((w.alloc (.cells #[.string ⟨#[]⟩] 9)).alloc (.cells #[.int .i64 0] 24)).alloc (.cells #[.int .i64 0] 3)).heap.size=w.heap.size+3:=by simp
  rw[h2] at h1;exact h1.later (((Below.refl _ _).alloc (Nat.le_refl _) _).alloc (by simp only[World.size_alloc];omega) _)
 have hbx:∀k:Nat,(plainW t w).heap[k]?=((((((w.heap.push (.cells #[.string ⟨#[]⟩] 9)).push (.cells #[.int .i64 0] 24)).push (.cells #[.int .i64 0] 3)).push (.cells #[.pointer none,.slice none 0 0] 158)).push (.cells #[.bool false] 4)).push (.cells #[.string ⟨t.toArray⟩] 9))[k]?:=fun _=>rfl
 refine⟨⟨?_,?_,?_,hbl,?_,hb,hg.later hb,by omega⟩,?_⟩
 all_goals(unfold Box1;rw[hbx];simp only[Array.getElem?_push,Array.size_push];repeat (first|rw[if_pos trivial]|rw[if_pos (by omega)]|rw[if_neg (by omega)]))
theorem TextI.wrote {n:Nat} {w:World} {op:Bool} {acc acc' :List UInt8} {X Y:World} (hs:TextI n w op acc X) (hB:Bld (n+3) (n+3) acc' Y) (hb:Below (n+3) X Y) (ho:Lib.OthersKept 5 (some (n+3)) X Y):TextI n w op acc' Y:=
 ⟨hs.r0.below hb (by omega),hs.r1.below hb (by omega),hs.r2.below hb (by omega),hB,hs.flag.others ho (by omega) (by decide),hs.below.trans (hb.mono (by omega)),
  by obtain⟨m,hm⟩:=hs.glob;exact⟨m,(hb.cell (p:=⟨0,0,none⟩) (by show 0<n+3;omega)).trans hm⟩,Nat.lt_of_lt_of_le hs.size hb.size⟩
theorem TextI.flagged {n:Nat} {w:World} {op:Bool} {acc:List UInt8} {X:World} (hs:TextI n w op acc X) (q:Bool):TextI n w q acc (X.setCell ⟨n+4,0,none⟩ (.bool q)):=
 ⟨hs.r0.other (by omega) 0 _,hs.r1.other (by omega) 0 _,hs.r2.other (by omega) 0 _,hs.bld.setOther hs.flag (by decide) 0 _,hs.flag.set _,hs.below.setCell (p:=⟨n+4,0,none⟩) (by simp) _,
  by obtain⟨m,hm⟩:=hs.glob;exact⟨m,(((Below.refl (n+4) X).setCell (p:=⟨n+4,0,none⟩) (Nat.le_refl _) _).cell (p:=⟨0,0,none⟩) (by show 0<n+4;omega)).trans hm⟩,
  by have:=hs.size;simpa [World.setCell] using this⟩
def leaveW (n er num:Nat) (W:World):World:=(((W.setCell ⟨n,0,none⟩ (.string ⟨#[]⟩)).setCell ⟨n+1,0,none⟩ (.int .i64 er)).setCell ⟨n+2,0,none⟩ (.int .i64 num)).drew
theorem textLeave {n:Nat} {w:World} {op:Bool} {acc:List UInt8} {W:World} (hI:TextI n w op acc W) (hgn:0<n) (er num:Nat):
 (∀l,KpA l W (leaveW n er num W))∧TextX n w er num (leaveW n er num W):=by
 have a1:Box1 (W.setCell ⟨n,0,none⟩ (.string ⟨#[]⟩)) (n+1) _ _:=hI.r1.other (by omega) 0 _;have a2:Box1 ((W.setCell ⟨n,0,none⟩ (.string ⟨#[]⟩)).setCell ⟨n+1,0,none⟩ (.int .i64 er)) (n+2) _ _:=(hI.r2.other (by omega) 0 _).other (by omega) 0 _;refine⟨fun l=> ?_,?_,?_,?_,?_⟩
 ·exact(((KpA.setCell hI.r0 (by decide) (by omega) _).trans (KpA.setCell a1 (by decide) (by omega) _)).trans (KpA.setCell a2 (by decide) (by omega) _)).trans (KpA.below (Below.refl _ _).drew)
 ·exact(((hI.r0.set _).other (by omega) 0 _).other (by omega) 0 _).drew
 ·exact((a1.set _).other (by omega) 0 _).drew
 ·exact(a2.set _).drew
 ·exact(((hI.below.setCell (p:=⟨n,0,none⟩) (Nat.le_refl _) _).setCell (p:=⟨n+1,0,none⟩) (by simp) _).setCell (p:=⟨n+2,0,none⟩) (by simp) _).drew
set_option maxHeartbeats 1000000 in
theorem text_in (t:List UInt8) (w:World) (hT:t.length≤268435456) (hg:Glob w):
 CallsIn Fence.wide 9 Tryz.prog 58 #[.string ⟨t.toArray⟩] w fun e w' =>e= .returned (plainV (Mk.plainOf t))∧Below w.heap.size w w' :=by
 have hgn:0<w.heap.size:=by obtain⟨m,hm⟩:=hg;exact World.block_lt_of_cell? w _ hm
 have hmix:Tryz.prog.follows .mixedOrders=true:=by kernel_rfl
 refine callsIn_of_wp_marks Tryz.func58 rfl trivial ?_;simp only[Tryz.ntmps58,List.size_toArray,List.length_cons,List.length_nil,Nat.reduceAdd,Nat.reduceSub,Array.replicate_succ,Array.replicate_zero,List.push_toArray,List.append_toArray,List.nil_append,List.cons_append]
 gi_wp2_with fail
 refine⟨trivial,(callsIn_wide.2 (all_any _ _)).mono ?_⟩
 rintro e w2 ⟨rfl,rfl⟩
 gi_wp2_with fail
 simp only[Nat.add_assoc,Nat.reduceAdd];obtain⟨V,hV⟩:∃V,V=((((((w.alloc (.cells #[.string ⟨#[]⟩] 9)).alloc (.cells #[.int .i64 0] 24)).alloc (.cells #[.int .i64 0] 3)).alloc (.cells #[.pointer none,.slice none 0 0] 158)).alloc (.cells #[.bool false] 4)).alloc (.cells #[.string ⟨t.toArray⟩] 9)):=⟨_,rfl⟩;rw[←hV];have hVs:V.heap.size=w.heap.size+6:=by rw[hV];simp
 have hV0:TextI w.heap.size w false [] V:=by rw[hV];exact(textStart t w hg).1
 have htx:V.cell? ⟨w.heap.size+5,0,none⟩=some (.string ⟨t.toArray⟩):=by rw[hV];exact(textStart t w hg).2.cell
 clear hV;have hbd:=Mk.cost_all t
 refine Mk.range_law (gf:=119) (lb:= #[.pointer (some ⟨w.heap.size+5,0,none⟩)]) rfl (enters_of Tryz.func119 (by kernel_rfl) rfl)
  (all_iter t (w.heap.size+5) V (by omega) hV0.glob htx) KpA.trans (fun W1 l1 o o' _ hl ho=>KpA.putObj W1 l1 o o' hl ho) (Below.refl _ _) (fun _=>rfl)
  (fun pre W1=>∃op acc,Mk.textTo false [] pre=some (op,acc)∧TextI w.heap.size w op acc W1)
  (fun c _ W1=>c= .ret∧∃er num,Mk.plainOf t=([],er,num)∧TextX w.heap.size w er num W1)
  (fun s X Y row hs hgr hr=>by
   obtain⟨op,acc,h1,h2⟩:=hs
   exact⟨op,acc,h1,TextI.own (B:=V.heap.size) (by omega) () X Y row h2 hgr hr⟩)
  (fun c s X Y row hs hgr hr=>by
   obtain⟨h1,er,num,h2,h3⟩:=hs
   exact⟨h1,er,num,h2,TextX.own (B:=V.heap.size) (by omega) () X Y row h3 hgr hr⟩)
  ⟨false,[],rfl,hV0⟩
  (fun x a' W1=>∃Bx,w.heap.size+5<Bx∧Box4 W1 Bx 164 (.int .i64 x.1.number) (.int .i64 x.1.kind) (.string ⟨x.1.left.toArray⟩) (.string ⟨x.1.right.toArray⟩)∧a' =textAct t w.heap.size Bx x)
  (fun x a' s X Y row hs hgr hr=>by
   obtain⟨Bx,h1,h2,h3⟩:=hs
   exact⟨Bx,h1,Box4.own V.heap.size _ _ _ _ _ _ () X Y row h2 hgr hr,h3⟩) ?assign ?body ?done ?stop
 case assign=>
  rintro l1 pre ⟨⟨n,k,L,R⟩,er⟩ post W1 K _ hi hK
  have hsz5:w.heap.size+5<W1.heap.size:=by obtain⟨_,_,_,h⟩:=hi;exact h.size
  unfold encA lnV
  gi_wp2
  refine hK _ _ (keepsBelow _ ((Below.refl _ W1).alloc (Nat.le_refl _) _)) (KpA.below ((Below.refl _ W1).alloc (Nat.le_refl _) _)) ?_ ⟨W1.heap.size,hsz5,Box4.new W1 164 _ _ _ _,rfl⟩;obtain⟨op,acc,h1,h2⟩:=hi;exact⟨op,acc,h1,h2.later ((Below.refl _ W1).alloc (Nat.le_refl _) _)⟩
 case body=>
  rintro l1 pre ⟨⟨n,k,L,R⟩,er⟩ post a' W1 hL ⟨op,acc,hto,hI⟩ ⟨Bx,hBx,hbx,rfl⟩
  simp only at hbx;unfold textAct lnV;simp only;have hLn:=Mk.all_len (t:=t) (x:=(⟨n,k,L,R⟩,er)) (by rw[hL];simp);simp only at hLn;have hcost:Mk.cost pre≤12*(t.length+1):=by rw[hL,Mk.cost_append] at hbd;omega
  have hacc:=Mk.textTo_len pre false [] op acc hto
  have HP:Hid (Mk.plainOf t=Mk.textF op acc ((⟨n,k,L,R⟩,er)::post)):=by
   show _=_;unfold Mk.plainOf;rw[hL];exact Mk.textF_from pre _ false [] op acc hto
  have HS:=hide (Mk.textTo_snoc pre (⟨n,k,L,R⟩,er) false [] op acc hto);simp only[List.length_nil] at hacc;clear hto hL hbd;obtain⟨⟨d0,d1,d2,d3⟩,-⟩:=hbx.cells;have c0:=hI.r0.cell;have c1:=hI.r1.cell;have c2:=hI.r2.cell;have f0:=hI.r0.frozen;have f1:=hI.r1.frozen;have f2:=hI.r2.frozen;have c6:=hI.flag.cell;have f6:=hI.flag.frozen
  by_cases her:er=0
  ·have b1:((er:Int) !=0)=false:=by rw[bne_eq_false_iff_eq];omega
   have c3:(er==0)=true:=by rw[beq_iff_eq];exact her
   have HC3:=hide c3;clear c3 her
   by_cases hk1:k=1
   ·have b2:((k:Int)==1)=true:=by rw[beq_iff_eq];omega
    have b2' :((k:Int) !=1)=false:=by rw[bne_eq_false_iff_eq];omega
    have HK1:Hid ((k==1)=true):=by show _=_;rw[beq_iff_eq];exact hk1
    clear hk1;cases op with
    |false=>
     obtain⟨hkp,hX⟩:=textLeave hI hgn 1 n;have HX:=hide hX;have HKP:=hide hkp
     have HF:Hid (Mk.plainOf t=([],1,n)):=by
      show _=_;rw[uh HP,Mk.textF,uh HC3,uh HK1];rfl
     clear hX hkp hI HP HS
     gi_wp2_with fail
     gi_region_o
     all_goals gi_wp2_with fail
     all_goals exact⟨(uh HKP 0).keeps (by omega),uh HKP l1,rfl,1,n,uh HF,uh HX⟩
    |true=>
     have HST:Hid (Mk.textTo false [] (pre++[(⟨n,k,L,R⟩,er)])=some (true,acc++Mk.closed (Mk.written ⟨n,k,L,R⟩)++[10])):=by
      show _=_;rw[uh HS,Mk.textTo,uh HC3,uh HK1];rfl
     have HIF:=hide hI;have HKF:Hid (∀l,KpA l W1 W1):=fun l=>KpA.refl l W1
     clear hI HP HS;have hwl:=Mk.written_len ⟨n,k,L,R⟩;have hcl:=Mk.closed_len (Mk.written ⟨n,k,L,R⟩);simp only at hwl
     gi_wp2_with fail
     refine⟨trivial,(CallsIn.inRound l1 (callsIn_wide.2 (written_any ⟨n,k,L,R⟩ W1 (by simp only;omega) (by simp only;omega) (by simp only;omega)))).mono ?_⟩
     rintro e W3 ⟨rfl,hb3⟩
     generalize Mk.written ⟨n,k,L,R⟩=wr at*;have hwA:(⟨wr.toArray⟩:ByteArray).size=wr.length:=size_mk _;have hI3:=(uh HIF).later hb3;have hK3:Hid (∀l,KpA l W1 W3):=fun l=>(uh HKF l).trans (KpA.below hb3)
     clear HIF HKF hb3
     gi_wp2_with fail
     refine⟨trivial,(CallsIn.inRound l1 (callsIn_wide.2 (closed_any ⟨wr.toArray⟩ W3 (by omega)))).mono ?_⟩
     rintro e W4 ⟨rfl,rfl⟩
     simp only;generalize Mk.closed wr=cl at*;have hclA:(⟨cl.toArray⟩:ByteArray).size=cl.length:=size_mk _;have hs3:=hI3.size
     gi_wp2_with fail
     refine⟨trivial,(CallsIn.inRound l1 (callsIn_wide.2 (bldString (w.heap.size+3) (w.heap.size+3) acc ⟨cl.toArray⟩ W3 hI3.bld (by omega) (by omega)))).mono ?_⟩
     rintro e W5 ⟨rfl,hB5,hb5,ho5⟩
     simp only at hB5;have hI5:=hide (hI3.wrote hB5 hb5 ho5);have hK5:Hid (∀l,KpA l W1 W5):=fun l=>(uh hK3 l).trans (KpA.bld hI3.bld hb5 ho5 (by omega))
     clear hB5 hb5 ho5 hK3 hI3
     gi_wp2_with fail
     refine⟨trivial,(CallsIn.inRound l1 (callsIn_wide.2 (bldByte (w.heap.size+3) (w.heap.size+3) (acc++cl) 10 10 rfl W5 (uh hI5).bld (by simp only[List.length_append];omega) (by have:=(uh hI5).size;omega)))).mono ?_⟩
     rintro e W6 ⟨rfl,hB6,hb6,ho6⟩
     have hI6:=hide ((uh hI5).wrote hB6 hb6 ho6);have hK6:Hid (∀l,KpA l W1 W6):=fun l=>(uh hK5 l).trans (KpA.bld (uh hI5).bld hb6 ho6 (by omega))
     clear hB6 hb6 ho6 hK5 hI5
     gi_wp2_with fail
     exact⟨(uh hK6 0).keeps (by omega),uh hK6 l1,true,_,uh HST,uh hI6⟩
   ·have b2:((k:Int)==1)=false:=by rw[beq_eq_false_iff_ne];omega
    have b2' :((k:Int) !=1)=true:=by rw[bne_iff_ne];omega
    obtain⟨q,hq⟩:∃q,q=(k==5):=⟨_,rfl⟩
    have b5:((k:Int)==5)=q:=by
     rw[hq,Bool.eq_iff_iff,beq_iff_eq,beq_iff_eq];omega
    have HST:Hid (Mk.textTo false [] (pre++[(⟨n,k,L,R⟩,er)])=some (q,acc++Mk.closed (Mk.written ⟨n,k,L,R⟩)++[10])):=by
     show _=_;have c4:(k==1)=false:=by rw[beq_eq_false_iff_ne];exact hk1
     rw[uh HS,Mk.textTo,uh HC3,c4,hq];rfl
    have HIF:=hide (hI.flagged q);have HKF:Hid (∀l,KpA l W1 (W1.setCell ⟨w.heap.size+4,0,none⟩ (.bool q))):=fun l=>KpA.setCell hI.flag (by decide) (by omega) _
    clear hI HP HS hq hk1;have hwl:=Mk.written_len ⟨n,k,L,R⟩;have hcl:=Mk.closed_len (Mk.written ⟨n,k,L,R⟩);simp only at hwl
    gi_wp2_with fail
    refine⟨trivial,(CallsIn.inRound l1 (callsIn_wide.2 (written_any ⟨n,k,L,R⟩ (W1.setCell ⟨w.heap.size+4,0,none⟩ (.bool q)) (by simp only;omega) (by simp only;omega) (by simp only;omega)))).mono ?_⟩
    rintro e W3 ⟨rfl,hb3⟩
    generalize Mk.written ⟨n,k,L,R⟩=wr at*;have hwA:(⟨wr.toArray⟩:ByteArray).size=wr.length:=size_mk _;have hI3:=(uh HIF).later hb3;have hK3:Hid (∀l,KpA l W1 W3):=fun l=>(uh HKF l).trans (KpA.below hb3)
    clear HIF HKF hb3
    gi_wp2_with fail
    refine⟨trivial,(CallsIn.inRound l1 (callsIn_wide.2 (closed_any ⟨wr.toArray⟩ W3 (by omega)))).mono ?_⟩
    rintro e W4 ⟨rfl,rfl⟩
    simp only;generalize Mk.closed wr=cl at*;have hclA:(⟨cl.toArray⟩:ByteArray).size=cl.length:=size_mk _;have hs3:=hI3.size
    gi_wp2_with fail
    refine⟨trivial,(CallsIn.inRound l1 (callsIn_wide.2 (bldString (w.heap.size+3) (w.heap.size+3) acc ⟨cl.toArray⟩ W3 hI3.bld (by omega) (by omega)))).mono ?_⟩
    rintro e W5 ⟨rfl,hB5,hb5,ho5⟩
    simp only at hB5;have hI5:=hide (hI3.wrote hB5 hb5 ho5);have hK5:Hid (∀l,KpA l W1 W5):=fun l=>(uh hK3 l).trans (KpA.bld hI3.bld hb5 ho5 (by omega))
    clear hB5 hb5 ho5 hK3 hI3
    gi_wp2_with fail
    refine⟨trivial,(CallsIn.inRound l1 (callsIn_wide.2 (bldByte (w.heap.size+3) (w.heap.size+3) (acc++cl) 10 10 rfl W5 (uh hI5).bld (by simp only[List.length_append];omega) (by have:=(uh hI5).size;omega)))).mono ?_⟩
    rintro e W6 ⟨rfl,hB6,hb6,ho6⟩
    have hI6:=hide ((uh hI5).wrote hB6 hb6 ho6);have hK6:Hid (∀l,KpA l W1 W6):=fun l=>(uh hK5 l).trans (KpA.bld (uh hI5).bld hb6 ho6 (by omega))
    clear hB6 hb6 ho6 hK5 hI5
    gi_wp2_with fail
    exact⟨(uh hK6 0).keeps (by omega),uh hK6 l1,q,_,uh HST,uh hI6⟩
  ·have b1:((er:Int) !=0)=true:=by rw[bne_iff_ne];omega
   obtain⟨hkp,hX⟩:=textLeave hI hgn er n;have HX:=hide hX;have HKP:=hide hkp
   have HF:Hid (Mk.plainOf t=([],er,n)):=by
    show _=_;have c3:(er==0)=false:=by rw[beq_eq_false_iff_ne];exact her
    rw[uh HP,Mk.textF,c3];rfl
   clear hX hkp hI HP HS her
   gi_wp2_with fail
   gi_region_o
   all_goals gi_wp2_with fail
   all_goals exact⟨(uh HKP 0).keeps (by omega),uh HKP l1,rfl,er,n,uh HF,uh HX⟩
 case done=>
  rintro D W1 hD ⟨op,acc,hto,hI⟩ hK
  have HF:Hid (Mk.plainOf t=(acc,0,0)):=by
   show _=_;unfold Mk.plainOf;have:=Mk.textF_from (Mk.allF (Mk.joined t)) [] false [] op acc hto;rw[List.append_nil] at this;rw[this];rfl
  clear hto;have hsz:=hI.flag.lt
  gi_wp2_with fail
  refine⟨trivial,(callsIn_wide.2 (bldGive (w.heap.size+3) (w.heap.size+3) acc W1 hI.bld (by omega))).mono ?_⟩
  rintro e W2 ⟨rfl,-,hb2,hk2⟩
  have r0:=hI.r0.below hb2 (by omega);have r1:=hI.r1.below hb2 (by omega);have r2:=hI.r2.below hb2 (by omega);have hK2:W2.heap[D]?=some (.deferred (some [])):=hk2 D _ hK (by simp;omega) (by intro c f e;cases e);have hbw:=hI.below.trans (hb2.mono (by omega));clear hb2 hk2 hK hI;have c0:=r0.cell;have c1:=r1.cell;have c2:=r2.cell;have f0:=r0.frozen;have f1:=r1.frozen
  have f2:=r2.frozen;have s0:=((r0.set (.string ⟨acc.toArray⟩)).other (show w.heap.size≠w.heap.size+1 by omega) 0 (.int .i64 0)).other (show w.heap.size≠w.heap.size+2 by omega) 0 (.int .i64 0);have s1:=((r1.other (show w.heap.size+1≠w.heap.size by omega) 0 (.string ⟨acc.toArray⟩)).set (.int .i64 0)).other (show w.heap.size+1≠w.heap.size+2 by omega) 0 (.int .i64 0)
  have s2:=((r2.other (show w.heap.size+2≠w.heap.size by omega) 0 (.string ⟨acc.toArray⟩)).other (show w.heap.size+2≠w.heap.size+1 by omega) 0 (.int .i64 0)).set (.int .i64 0)
  have hbs:Below w.heap.size w (((W2.setCell ⟨w.heap.size,0,none⟩ (.string ⟨acc.toArray⟩)).setCell ⟨w.heap.size+1,0,none⟩ (.int .i64 0)).setCell ⟨w.heap.size+2,0,none⟩ (.int .i64 0)):=
   ((hbw.setCell (p:=⟨w.heap.size,0,none⟩) (Nat.le_refl _) _).setCell (p:=⟨w.heap.size+1,0,none⟩) (by simp) _).setCell (p:=⟨w.heap.size+2,0,none⟩) (by simp) _
  have hK3:(((W2.setCell ⟨w.heap.size,0,none⟩ (.string ⟨acc.toArray⟩)).setCell ⟨w.heap.size+1,0,none⟩ (.int .i64 0)).setCell ⟨w.heap.size+2,0,none⟩ (.int .i64 0)).heap[D]?=some (.deferred (some [])):=by
   rw[Below.heap_setCell _ _ _ _ (by simp;omega),Below.heap_setCell _ _ _ _ (by simp;omega),Below.heap_setCell _ _ _ _ (by simp;omega)];exact hK2
  have HS:=hide (And.intro s0 (And.intro s1 s2));have HB:=hide hbs;have HK3:=hide hK3;clear r0 r1 r2 s0 s1 s2 hbs hK3 hbw hK2
  gi_wp2_with fail
  refine⟨by simp,.inl ⟨_,_,rfl,run_takeDeferred (uh HK3),?_⟩⟩;clear c0 c1 c2 f0 f1 f2;generalize (((W2.setCell ⟨w.heap.size,0,none⟩ (.string ⟨acc.toArray⟩)).setCell ⟨w.heap.size+1,0,none⟩ (.int .i64 0)).setCell ⟨w.heap.size+2,0,none⟩ (.int .i64 0))=W3 at*;obtain⟨q0,q1,q2⟩:=uh HS
  have s0:Box1 (W3.putObj D (.deferred none)) w.heap.size _ _:=(World.putObj_heap_other (by omega)).trans q0;have s1:Box1 (W3.putObj D (.deferred none)) (w.heap.size+1) _ _:=(World.putObj_heap_other (by omega)).trans q1;have s2:Box1 (W3.putObj D (.deferred none)) (w.heap.size+2) _ _:=(World.putObj_heap_other (by omega)).trans q2
  have hD2:Below w.heap.size W3 (W3.putObj D (.deferred none)):=(Below.refl _ W3).grown (grownBy_putObj' W3 D _) (by have:=q0.lt;omega) (fun k e=>by cases e;omega);refine⟨plainV (Mk.plainOf t),?_,rfl,(uh HB).trans hD2⟩;rw[uh HF];have c0:=s0.cell;have c1:=s1.cell;have c2:=s2.cell;simp[results,Tryz.results58,go_sem,plainV,c0,c1,c2]
 case stop=>
  rintro D c pre post W1 hD hL ⟨rfl,er,num,hp,hX⟩ hK
  have HP:=hide hp;have hD2:∀o',Below w.heap.size W1 (W1.putObj D o'):=fun o' =>(Below.refl _ W1).grown (grownBy_putObj' W1 D o') (by have:=hX.r0.lt;omega) (fun k e=>by cases e;omega)
  have r0:=hX.r0;have s0:Box1 (W1.putObj D (.deferred none)) w.heap.size _ _:=(World.putObj_heap_other (by omega)).trans hX.r0;have s1:Box1 (W1.putObj D (.deferred none)) (w.heap.size+1) _ _:=(World.putObj_heap_other (by omega)).trans hX.r1;have s2:Box1 (W1.putObj D (.deferred none)) (w.heap.size+2) _ _:=(World.putObj_heap_other (by omega)).trans hX.r2
  gi_wp2_with fail
  refine⟨by simp,.inl ⟨_,_,rfl,run_takeDeferred hK,?_⟩⟩;refine⟨plainV (Mk.plainOf t),?_,rfl,hX.below.trans (hD2 _)⟩;rw[uh HP];have c0:=s0.cell;have c1:=s1.cell;have c2:=s2.cell;simp[results,Tryz.results58,go_sem,plainV,c0,c1,c2]
end Go.Proofs.YtjelacjggijmfaaGreatDoor
namespace Go.Proofs.YtjelacjggijmfaaGreatDoor
open Go.RowKit
set_option maxHeartbeats 400000 in
theorem plain_any (t:List UInt8) (w:World) (hT:t.length≤268435456) (hg:Glob w):
 Calls Tryz.prog 27 #[.string ⟨t.toArray⟩] w fun e w' =>e= .returned (plainV (Mk.plainOf t))∧Below w.heap.size w w' :=by
 go_enter Tryz.func27,Tryz.ntmps27
 go_wp2_with fail
 refine(callsIn_wide.1 (text_in t w hT hg)).mono ?_
 rintro e w1 ⟨rfl,hb⟩
 unfold plainV
 go_wp2_with fail
 go_ret3
 exact⟨rfl,hb⟩
end Go.Proofs.YtjelacjggijmfaaGreatDoor
