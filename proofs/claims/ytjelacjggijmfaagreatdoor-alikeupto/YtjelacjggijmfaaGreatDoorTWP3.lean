/-
  The document's own answer: what is told of a world.
-/
import Derived.Test.YtjelacjggijmfaaGreatDoorTRF4
import Derived.Test.YtjelacjggijmfaaGreatDoorTRF6
import Derived.Deep.RegionHeld3
import Derived.Deep.DrawnRows
import Derived.Test.YtjelacjggijmfaaGreatDoorTPure
import Derived.Test.YtjelacjggijmfaaGreatDoorTMS
import Derived.Lib.BufferRead
import Derived.Deep.Cut
import Derived.Test.YtjelacjggijmfaaGreatDoorTSP7
set_option maxHeartbeats 4000000
set_option maxRecDepth 20000
namespace Go.Proofs.YtjelacjggijmfaaGreatDoor
open Go.RowKit Go.MapKept Go.ChangeMaps Go.Maps
attribute [local go_sem↓] Go.wp_at_zero Go.wp_at_succ
structure Tn (p:Nat→Prop) (w w' :World):Prop where
 os:w'.os=w.os
 tape:w'.tape=w.tape
 output:w'.output=w.output
 size:w.heap.size≤w'.heap.size
 block:∀k,k<w.heap.size→¬p k→w'.heap[k]?=w.heap[k]?
theorem Tn.refl (p:Nat→Prop) (w:World):Tn p w w:=⟨rfl,rfl,rfl,Nat.le_refl _,fun _ _ _=>rfl⟩
theorem Tn.trans {p:Nat→Prop} {a b c:World} (h:Tn p a b) (g:Tn p b c):Tn p a c:=⟨g.os.trans h.os,g.tape.trans h.tape,g.output.trans h.output,Nat.le_trans h.size g.size,fun k hk hp=>(g.block k (Nat.lt_of_lt_of_le hk h.size) hp).trans (h.block k hk hp)⟩
theorem Tn.later {p:Nat→Prop} {w w' :World} (h:Below w.heap.size w w'):Tn p w w' :=⟨h.os,h.tape,h.output,h.size,fun k hk _=>h.block k hk⟩
theorem Tn.mono {p q:Nat→Prop} {w w' :World} (h:Tn p w w') (hpq:∀k,p k→q k):Tn q w w' :=⟨h.os,h.tape,h.output,h.size,fun k hk hq=>h.block k hk (fun e=>hq (hpq k e))⟩
theorem Tn.set {p:Nat→Prop} (w:World) (a:Addr) (u:Value) (hp:p a.block):Tn p w (w.setCell a u):=
 have hb:=(Below.refl 0 w).setCell (p:=a) (Nat.zero_le _) u
 ⟨hb.os,hb.tape,hb.output,hb.size,fun k _ hk=>Below.heap_setCell w a u k (fun e=>hk (by rw[e];exact hp))⟩
theorem Tn.grown {p:Nat→Prop} {w w' :World} {r:Option Nat} (h:w.grownBy w' r) (hr:∀k,r=some k→p k):Tn p w w' :=⟨h.os,h.tape,h.output,h.size,fun k hk hp=>h.block k hk (fun e=>hp (hr k e.symm))⟩
theorem Tn.below {p:Nat→Prop} {w w' :World} (h:Tn p w w') {B:Nat} (hB:B≤w.heap.size) (hp:∀k,p k→B≤k):Below B w w' :=⟨h.os,h.tape,h.output,h.size,fun k hk=>h.block k (by omega) (fun e=>by have:=hp k e;omega)⟩
theorem Row.tn {p:Nat→Prop} {w w' :World} {b:Nat} {t:TypeId} {vs:List Value} (h:Row w b t vs) (ht:Tn p w w') (hp:¬p b):Row w' b t vs:=(ht.block b h.lt hp).trans h
theorem SMap.tn {p:Nat→Prop} {w w' :World} {b:Nat} {l:Ents} (h:SMap w b l) (ht:Tn p w w') (hp:¬p b):SMap w' b l:=h.of_block (ht.block b h.lt hp)
structure PW (w:World) (bx bf bi:Nat) (ve:Value) (ef:List Pl.Eff) (fs:List Pl.File) (clock:Int):Prop where
 row:Row w bx 182 [.map (some bf),ve,.map (some bi),.int .i64 clock]
 files:SMap w bf (fEnts fs)
 first:∃l,SMap w bi l∧Firsts ef l
 ne1:bf≠bx
 ne2:bi≠bx
 ne3:bf≠bi
section
variable {w w' :World} {bx bf bi:Nat} {ve:Value} {ef:List Pl.Eff} {fs:List Pl.File} {clock:Int}
theorem PW.tn {p:Nat→Prop} (h:PW w bx bf bi ve ef fs clock) (ht:Tn p w w') (h1:¬p bx) (h2:¬p bf) (h3:¬p bi):PW w' bx bf bi ve ef fs clock:=by
 obtain⟨l,h4,h5⟩:=h.first;exact⟨h.row.tn ht h1,h.files.tn ht h2,⟨l,h4.tn ht h3,h5⟩,h.ne1,h.ne2,h.ne3⟩
theorem PW.later (h:PW w bx bf bi ve ef fs clock) (hb:Below w.heap.size w w'):PW w' bx bf bi ve ef fs clock:=h.tn (Tn.later (p:=fun _=>False) hb) id id id
end
theorem worldNew_any (fs:List Pl.File) (ef:List Pl.Eff) (a ae:Option Addr) (cap b o ce L be oe:Nat) (clock:Int) (w:World)
 (ha:0<fs.length→a=some ⟨b,o,none⟩) (hr:RdF w b o fs) (hbw:b<w.heap.size) (hfl:fs.length≤8388608)
 (hae:0<ef.length→ae=some ⟨be,oe,none⟩) (hE:RdE w L be oe ef) (hL:L≤w.heap.size) (hel:ef.length≤8388608):
 Calls Tryz.prog 61 #[.slice a fs.length cap,.slice ae ef.length ce,.int .i64 clock] w fun e w' =>∃bx bf bi,e= .returned (.pointer (some ⟨bx,0,none⟩))∧PW w' bx bf bi (.slice ae ef.length ce) ef (fs.foldl Pl.addF []) clock∧Below w.heap.size w w' ∧w.heap.size≤bx∧w.heap.size≤bf∧w.heap.size≤bi:=by
 have C1:=hide (firstFiles_any fs a cap b o w ha hr hbw hfl);have C2:=hide (fun W (hb:Below w.heap.size w W)=>firstEffects_any ef ae ce L be oe W hae (hE.below (hb.mono hL)) (Nat.le_trans hL hb.size) hel);clear ha hr hae hE
 go_enter Tryz.func61,Tryz.ntmps61
 go_wp2_with (first
  |(go_at_call 85;refine(uh C1).mono ?_;rintro e w1 ⟨rfl,hs1,hb1⟩;have HS1:=hide hs1;have HB1:=hide hb1;clear hs1 hb1)
  |(go_at_call 86;refine(uh C2 _ (uh HB1)).mono ?_;rintro e w2 ⟨rfl,hs2,hb2⟩;have HS2:=hide hs2;have HB2:=hide hb2;clear hs2 hb2)
  |fail)
 go_ret
 have s1:=(uh HS1).lt;obtain⟨l,s2,s3⟩:=uh HS2;have s4:=s2.lt;have hz:=(uh HB1).size;have hba:Below w2.heap.size w2 (w2.alloc (.cells #[.map (some w.heap.size),.slice ae ef.length ce,.map (some w1.heap.size),.int .i64 clock] 182)):=(Below.refl _ w2).alloc (Nat.le_refl _) _
 refine⟨w2.heap.size,w.heap.size,w1.heap.size,rfl,⟨Row.new w2 182 [.map (some w.heap.size),.slice ae ef.length ce,.map (some w1.heap.size),.int .i64 clock],((uh HS1).later (uh HB2)).later hba,⟨l,s2.later hba,s3⟩,by omega,by omega,by omega⟩,?_,by omega,Nat.le_refl _,by omega⟩;exact(uh HB1).trans (((uh HB2).mono hz).trans (hba.mono (by omega)))
theorem has_any (bx bf bi:Nat) (ve:Value) (ef:List Pl.Eff) (fs:List Pl.File) (clock:Int) (nm:Pl.Bs) (w:World) (h:PW w bx bf bi ve ef fs clock):
 Calls Tryz.prog 174 #[.pointer (some ⟨bx,0,none⟩),.string ⟨nm.toArray⟩] w fun e w' =>e= .returned (.bool (Pl.look fs nm).isSome)∧Below w.heap.size w w' :=by
 have c0:=h.row.cell 0 (by simp);simp only[List.getElem_cons_zero] at c0;have HF:=hide h.files;cases hl:Pl.look fs nm with
 |some g=>
  have HM:Hid (mget (fEnts fs) nm=some (fileV g)):=by show _=_;rw[mget_f,hl];rfl
  clear h hl
  go_enter Tryz.func174,Tryz.ntmps174
  go_wp2_with (first
   |(at_lookup;refine wpList_look_ok_yes _ rfl _ _ 177 rfl 9 65 Tryz.underlying177 Tryz.underlying9 _ (zeroFile _) bf (fEnts fs) rfl (uh HF) nm rfl (fileV g) (uh HM) ?_;unfold fileV)
   |fail)
  go_ret
  exact⟨rfl,(Below.refl _ w).alloc (Nat.le_refl _) _⟩
 |none=>
  have HM:Hid (mget (fEnts fs) nm=none):=by show _=_;rw[mget_f,hl];rfl
  clear h hl
  go_enter Tryz.func174,Tryz.ntmps174
  go_wp2_with (first
   |(at_lookup;refine wpList_look_ok_no _ rfl _ _ 177 rfl 9 65 Tryz.underlying177 Tryz.underlying9 _ (zeroFile _) bf (fEnts fs) rfl (uh HF) nm rfl (uh HM) ?_)
   |fail)
  go_ret
  exact⟨rfl,(Below.refl _ w).alloc (Nat.le_refl _) _⟩
theorem wclock_any (bx bf bi:Nat) (ve:Value) (ef:List Pl.Eff) (fs:List Pl.File) (clock:Int) (w:World) (h:PW w bx bf bi ve ef fs clock):
 Calls Tryz.prog 84 #[.pointer (some ⟨bx,0,none⟩)] w fun e w' =>e= .returned (.int .i64 clock)∧w=w' :=by
 have c3:=h.row.cell 3 (by simp);simp only[List.getElem_cons_zero,List.getElem_cons_succ] at c3;clear h
 go_enter Tryz.func84,Tryz.ntmps84
 go_wp2_with fail
 go_ret
 exact⟨rfl,rfl⟩
end Go.Proofs.YtjelacjggijmfaaGreatDoor
namespace Go.Proofs.YtjelacjggijmfaaGreatDoor
open Go.RowKit Go.MapKept Go.ChangeMaps Go.Maps
attribute [local go_sem↓] Go.wp_at_zero Go.wp_at_succ
theorem newer_any (bx bf bi:Nat) (ve:Value) (ef:List Pl.Eff) (fs:List Pl.File) (clock:Int) (s t:Pl.Bs) (w:World) (h:PW w bx bf bi ve ef fs clock):
 Calls Tryz.prog 175 #[.pointer (some ⟨bx,0,none⟩),.string ⟨s.toArray⟩,.string ⟨t.toArray⟩] w fun e w' =>e= .returned (.bool (Pl.newer fs s t))∧Below w.heap.size w w' :=by
 have c0:=h.row.cell 0 (by simp);simp only[List.getElem_cons_zero] at c0;have hbx:=h.row.lt;have HF:=hide h.files;have HF1:Hid (∀o,SMap (w.alloc o) bf (fEnts fs)):=fun o=>h.files.later ((Below.refl _ w).alloc (Nat.le_refl _) o)
 have HB:Hid (∀o q,Below w.heap.size w ((w.alloc o).alloc q)):=fun o q=>((Below.refl _ w).alloc (Nat.le_refl _) o).alloc (by rw[World.size_alloc];omega) q
 clear h;unfold Pl.newer;cases hl:Pl.look fs s with
 |some g=>
  cases hl' :Pl.look fs t with
  |some g' =>
   have HM:Hid (mget (fEnts fs) s=some (fileV g)):=by show _=_;rw[mget_f,hl];rfl
   have HM' :Hid (mget (fEnts fs) t=some (fileV g')):=by show _=_;rw[mget_f,hl'];rfl
   clear hl hl'
   go_enter Tryz.func175,Tryz.ntmps175
   go_wp2_with (first
    |(at_lookup;refine wpList_look_ok_yes _ rfl (.tmp 15) (.tmp 16) 177 rfl 9 65 Tryz.underlying177 Tryz.underlying9 _ (zeroFile _) bf (fEnts fs) rfl (uh HF) s rfl (fileV g) (uh HM) ?_;unfold fileV)
    |(at_lookup;refine wpList_look_ok_yes _ rfl (.tmp 24) (.tmp 25) 177 rfl 9 65 Tryz.underlying177 Tryz.underlying9 _ (zeroFile _) bf (fEnts fs) rfl (uh HF1 _) t rfl (fileV g') (uh HM') ?_;unfold fileV)
    |fail)
   all_goals go_ret
   all_goals exact⟨by first|rfl|(simp only[gt_iff_lt]),uh HB _ _⟩
  |none=>
   have HM:Hid (mget (fEnts fs) s=some (fileV g)):=by show _=_;rw[mget_f,hl];rfl
   have HM' :Hid (mget (fEnts fs) t=none):=by show _=_;rw[mget_f,hl'];rfl
   clear hl hl'
   go_enter Tryz.func175,Tryz.ntmps175
   go_wp2_with (first
    |(at_lookup;refine wpList_look_ok_yes _ rfl (.tmp 15) (.tmp 16) 177 rfl 9 65 Tryz.underlying177 Tryz.underlying9 _ (zeroFile _) bf (fEnts fs) rfl (uh HF) s rfl (fileV g) (uh HM) ?_;unfold fileV)
    |(at_lookup;refine wpList_look_ok_no _ rfl (.tmp 24) (.tmp 25) 177 rfl 9 65 Tryz.underlying177 Tryz.underlying9 _ (zeroFile _) bf (fEnts fs) rfl (uh HF1 _) t rfl (uh HM') ?_)
    |fail)
   all_goals go_ret
   all_goals exact⟨rfl,uh HB _ _⟩
 |none=>
  cases hl' :Pl.look fs t with
  |some g' =>
   have HM:Hid (mget (fEnts fs) s=none):=by show _=_;rw[mget_f,hl];rfl
   have HM' :Hid (mget (fEnts fs) t=some (fileV g')):=by show _=_;rw[mget_f,hl'];rfl
   clear hl hl'
   go_enter Tryz.func175,Tryz.ntmps175
   go_wp2_with (first
    |(at_lookup;refine wpList_look_ok_no _ rfl (.tmp 15) (.tmp 16) 177 rfl 9 65 Tryz.underlying177 Tryz.underlying9 _ (zeroFile _) bf (fEnts fs) rfl (uh HF) s rfl (uh HM) ?_)
    |(at_lookup;refine wpList_look_ok_yes _ rfl (.tmp 24) (.tmp 25) 177 rfl 9 65 Tryz.underlying177 Tryz.underlying9 _ (zeroFile _) bf (fEnts fs) rfl (uh HF1 _) t rfl (fileV g') (uh HM') ?_;unfold fileV)
    |fail)
   all_goals go_ret
   all_goals exact⟨rfl,uh HB _ _⟩
  |none=>
   have HM:Hid (mget (fEnts fs) s=none):=by show _=_;rw[mget_f,hl];rfl
   have HM' :Hid (mget (fEnts fs) t=none):=by show _=_;rw[mget_f,hl'];rfl
   clear hl hl'
   go_enter Tryz.func175,Tryz.ntmps175
   go_wp2_with (first
    |(at_lookup;refine wpList_look_ok_no _ rfl (.tmp 15) (.tmp 16) 177 rfl 9 65 Tryz.underlying177 Tryz.underlying9 _ (zeroFile _) bf (fEnts fs) rfl (uh HF) s rfl (uh HM) ?_)
    |(at_lookup;refine wpList_look_ok_no _ rfl (.tmp 24) (.tmp 25) 177 rfl 9 65 Tryz.underlying177 Tryz.underlying9 _ (zeroFile _) bf (fEnts fs) rfl (uh HF1 _) t rfl (uh HM') ?_)
    |fail)
   all_goals go_ret
   all_goals exact⟨rfl,uh HB _ _⟩
end Go.Proofs.YtjelacjggijmfaaGreatDoor
namespace Go.Proofs.YtjelacjggijmfaaGreatDoor
open Go.RowKit Go.MapKept Go.ChangeMaps Go.Maps
attribute [local go_sem↓] Go.wp_at_zero Go.wp_at_succ
theorem first_none {ef:List Pl.Eff} {c:Pl.Bs} (h:ef.findIdx? (fun e=>e.cmd==c)=none):∀j (hj:j<ef.length),ef[j].cmd≠c:=fun j hj e=>by
 rw[List.findIdx?_eq_none_iff] at h;have:=h ef[j] (List.getElem_mem hj);simp[e] at this
theorem first_some {ef:List Pl.Eff} {c:Pl.Bs} {i:Nat} (h:ef.findIdx? (fun e=>e.cmd==c)=some i):∃hi:i<ef.length,(∀j (hj:j<ef.length),j<i→ef[j].cmd≠c)∧ef[i].cmd=c:=by
 rw[List.findIdx?_eq_some_iff_getElem] at h;obtain⟨hi,h1,h2⟩:=h;exact⟨hi,fun j hj hji e=>by have:=h2 j hji;simp[e] at this,by simpa using h1⟩
structure GiveP (bx bf bi:Nat) (ve:Value) (ef:List Pl.Eff) (X:Pl.Wd) (w w' :World):Prop where
 pw:PW w' bx bf bi ve ef X.files X.clock
 tn:Tn (fun k=>k=bx∨k=bf) w w'
theorem PW.put {bx bf bi:Nat} {ve:Value} {ef:List Pl.Eff} {fs:List Pl.File} {clock:Int} {w w1:World} {f:Pl.File} (h:PW w bx bf bi ve ef fs clock) (hs:SMap w1 bf (mput (fEnts fs) f.path (fileV f))) (ht:w.mapTurned w1 bf):PW w1 bx bf bi ve ef (Pl.putF fs f) clock:=by
 obtain⟨l,h4,h5⟩:=h.first;have hg:=ht.grown;have htn:Tn (fun k=>k=bf) w w1:=Tn.grown hg (fun k e=>by cases e;rfl);rw[mput_f] at hs;exact⟨h.row.tn htn (fun e=>h.ne1 e.symm),hs,⟨l,h4.tn htn (fun e=>h.ne3 e.symm),h5⟩,h.ne1,h.ne2,h.ne3⟩
theorem PW.tick {bx bf bi:Nat} {ve:Value} {ef:List Pl.Eff} {fs:List Pl.File} {clock:Int} {w:World} (h:PW w bx bf bi ve ef fs clock) (c:Int):PW (w.setCell ⟨bx,3,none⟩ (.int .i64 c)) bx bf bi ve ef fs c:=by
 obtain⟨l,h4,h5⟩:=h.first;exact⟨h.row.set 3 (.int .i64 c),h.files.setCell h.ne1 _,⟨l,h4.setCell h.ne2 _,h5⟩,h.ne1,h.ne2,h.ne3⟩
theorem give_any (c:Pl.Bs) (S:List Pl.Bs) (ef:List Pl.Eff) (L bx bf bi be oe ce:Nat) (ae:Option Addr) (X:Pl.Wd) (w:World) (h:PW w bx bf bi (.slice ae ef.length ce) ef X.files X.clock) (hx:X.exit=0) (hae:0<ef.length→ae=some ⟨be,oe,none⟩)
 (hE:RdE w L be oe ef) (hL1:L≤bx) (hL2:L≤bf) (hfit:Fit S X.files) (hS:S.length≤8388608) (hEs:∀e∈ef,∀f∈e.writes,f.path∈S) (hel:ef.length≤8388608) (hwl:∀e∈ef,e.writes.length≤8388608):
 Calls Tryz.prog 217 #[.pointer (some ⟨bx,0,none⟩),.string ⟨c.toArray⟩] w fun e w' =>e= .returned (.int .i64 (Pl.giveW ef X c).exit)∧GiveP bx bf bi (.slice ae ef.length ce) ef (Pl.giveW ef X c) w w' :=by
 have c2:=h.row.cell 2 (by simp);have c3:=h.row.cell 3 (by simp);have f3:=h.row.frozen 3;simp only[List.getElem_cons_zero,List.getElem_cons_succ] at c2 c3;have hbx:=h.row.lt;obtain⟨lf,hlf1,hlf2⟩:=h.first;have HP1:=hide (h.tick (wrap64 (X.clock+1)))
 have HT1:Hid (Tn (fun k=>k=bx∨k=bf) w (w.setCell ⟨bx,3,none⟩ (.int .i64 (wrap64 (X.clock+1))))):=Tn.set w ⟨bx,3,none⟩ _ (.inl rfl);have HL1:Hid (SMap (w.setCell ⟨bx,3,none⟩ (.int .i64 (wrap64 (X.clock+1)))) bi lf):=hlf1.setCell h.ne2 _;have hlm:=hlf2.2 c;cases hfi:ef.findIdx? (fun e=>e.cmd==c) with
 |none=>
  rw[hfi] at hlm;have HLM:Hid (mget lf c=none):=hlm;rw[give_none (first_none hfi)];rw[hx];clear hlm hfi hlf1 hlf2 h hE hEs hwl hfit hae
  go_enter Tryz.func217,Tryz.ntmps217
  go_wp2_with (first
   |(at_lookup;refine wpList_look_ok_no _ rfl _ _ 179 rfl 9 3 Tryz.underlying179 Tryz.underlying9 _ (zeroInt _) bi lf rfl (uh HL1) c rfl (uh HLM) ?_)
   |fail)
  go_ret
  exact⟨rfl,uh HP1,uh HT1⟩
 |some i=>
  rw[hfi] at hlm;have HLM:Hid (mget lf c=some (.int .i64 (i:Nat))):=hlm;obtain⟨hi,hi1,hi2⟩:=first_some hfi;rw[give_some hi hi1 hi2];obtain rfl:=hae (by omega);have hri:=hE.2 i hi;have HE:=hide hri;have hbl:=hE.1;have hwi:=hwl ef[i] (List.getElem_mem hi);have HES:=hide (hEs ef[i] (List.getElem_mem hi));have HFT:=hide hfit
  have i1:(i:Int)<(ef.length:Int):=by omega
  obtain⟨aw,cw,bw,ow,q1,q2,q3,q4⟩:=hri.writes
  have HRB:Hid (∀W,Tn (fun k=>k=bx∨k=bf) w W→W.cell? ⟨be,oe+i*3+1,none⟩=some (.slice aw ef[i].writes.length cw)∧RdF W bw ow ef[i].writes∧W.cell? ⟨be,oe+i*3+2,none⟩=some (.int .i64 ef[i].exit)):=fun W ht=>by
   have hb:=ht.below (B:=L) (by omega) (fun k e=>by rcases e with rfl|rfl<;>omega);exact⟨(hb.cell (p:=⟨be,_,none⟩) hbl).trans q1,q3.below hb q4,(hb.cell (p:=⟨be,_,none⟩) hbl).trans hri.exit⟩
  have q1' :=(uh HRB _ (uh HT1)).1;have HQ2:=hide q2;have HP0:=(uh HP1).row;have d1:=HP0.cell 1 (by simp);simp only[List.getElem_cons_zero,List.getElem_cons_succ] at d1;generalize hge:ef[i]=ei at*;clear hlm hfi hlf1 hlf2 h hE hEs hwl hfit hae hri q1 q2 q3 hi1 hi2 HP0 HE
  go_enter Tryz.func217,Tryz.ntmps217
  go_wp2_with (first
   |(at_lookup;refine wpList_look_ok_yes _ rfl _ _ 179 rfl 9 3 Tryz.underlying179 Tryz.underlying9 _ (zeroInt _) bi lf rfl (uh HL1) c rfl _ (uh HLM) ?_)
   |fail)
  generalize hck:wrap64 (X.clock+1)=clk at*;have HCK:=hide hck;clear hck;generalize w.setCell ⟨bx,3,none⟩ (.int .i64 clk)=W1 at*
  go_loopw [36] (fun j wr=>∃k:Nat,j= .int .i64 k∧k≤ei.writes.length∧Hid (PW wr bx bf bi (.slice (some ⟨be,oe,none⟩) ef.length ce) ef ((ei.writes.take k).foldl (fun acc f=>Pl.putF acc (Pl.stamp clk f)) X.files) clk)∧Hid (Tn (fun k=>k=bx∨k=bf) w wr)) (fun j _=>ei.writes.length-intN j)
  case atStart=>exact⟨0,rfl,Nat.zero_le _,HP1,HT1⟩
  case round=>
   clear HP1 HT1 HL1 HLM;obtain⟨k,rfl,hkl,HP,HT⟩:=hrel;clear d1 q1';obtain⟨q1,q3,q5⟩:=uh HRB _ (uh HT)
   by_cases hk:k<ei.writes.length
   ·obtain rfl:=uh HQ2 (by omega)
    obtain⟨p0,p1,p2⟩:=q3 k hk;have HPF:=hide (put_files clk X.files ei.writes k hk);have HFk:Hid (Fit S ((ei.writes.take k).foldl (fun acc f=>Pl.putF acc (Pl.stamp clk f)) X.files)):=Fit.puts clk _ (uh HFT) (fun f hf=>uh HES f (List.mem_of_mem_take hf));have hfk2:=(uh HFk).len;generalize (ei.writes.take k).foldl (fun acc f=>Pl.putF acc (Pl.stamp clk f)) X.files=acc at*
    generalize hfk:ei.writes[k]=fk at*;unfold strV at p0 p1;have t1:(k:Int)<(ei.writes.length:Int):=by omega
    have x3:=(uh HP).row.cell 3 (by simp);have hbxr:=(uh HP).row.lt;simp only[List.getElem_cons_zero,List.getElem_cons_succ] at x3;have hfe:(fEnts acc).length<maxLen:=by unfold fEnts maxLen;rw[List.length_map];omega
    clear q1 q3 q5 hfk HFk;have R2:=Row.new wr 65 [.string ⟨fk.path.toArray⟩,.string ⟨fk.text.toArray⟩,.int .i64 clk];have hT2:Below wr.heap.size wr (wr.alloc (.cells #[.string ⟨fk.path.toArray⟩,.string ⟨fk.text.toArray⟩,.int .i64 clk] 65)):=(Below.refl _ wr).alloc (Nat.le_refl _) _;have HP2:=hide ((uh HP).later hT2)
    have HT2:=hide ((uh HT).trans (Tn.later (p:=fun k=>k=bx∨k=bf) hT2));have hbfl:=(uh HP).files.lt;have HR2:=hide R2;have r0:=R2.cell 0 (by simp);have r1:=R2.cell 1 (by simp);have r2:=R2.cell 2 (by simp);simp only[List.getElem_cons_zero,List.getElem_cons_succ] at r0 r1 r2;have y0:=(uh HP2).row.cell 0 (by simp);simp only[List.getElem_cons_zero] at y0;clear hT2 R2
    as_aux_lemma=>
     go_wp2_with fail
     generalize wr.alloc (.cells #[.string ⟨fk.path.toArray⟩,.string ⟨fk.text.toArray⟩,.int .i64 clk] 65)=W2 at*;obtain⟨w1,hrun,hs1,ht1⟩:=(show SMap W2.drew bf (fEnts acc) from(uh HP2).files).put (P:=Tryz.prog) (t:=177) Tryz.underlying177 Tryz.underlying9 hfe fk.path (fileV (Pl.stamp clk fk));unfold strV fileV Pl.stamp at hrun;simp only at hrun
     have HPW:=hide (PW.put (f:=Pl.stamp clk fk) ((uh HP2).later (Below.refl _ W2).drew) hs1 ht1);have HTN:=hide (((uh HT2).trans (Tn.later (Below.refl _ W2).drew)).trans (Tn.grown (p:=fun k=>k=bx∨k=bf) ht1.grown (fun k e=>by cases e;exact .inr rfl)))
     have hr3:=(show Row W2.drew wr.heap.size _ _ from uh HR2).tn (Tn.grown (p:=fun k=>k=bf) ht1.grown (fun k e=>by cases e;rfl)) (by omega);have z0:=hr3.cell 0 (by simp);have z1:=hr3.cell 1 (by simp);have z2:=hr3.cell 2 (by simp);have z3:=(uh HPW).row.cell 0 (by simp);simp only[List.getElem_cons_zero,List.getElem_cons_succ] at z0 z1 z2 z3;clear hs1 ht1 hr3
     go_region_held3 (fun w' =>w'.cell? ⟨bx,0,none⟩=some (.map (some bf))∧w'.cell? ⟨wr.heap.size,0,none⟩=some (.string ⟨fk.path.toArray⟩)∧w'.cell? ⟨wr.heap.size,1,none⟩=some (.string ⟨fk.text.toArray⟩)∧w'.cell? ⟨wr.heap.size,2,none⟩=some (.int .i64 clk)) (go_keep) (fail)
     all_goals go_wp2_with fail
     all_goals go_roundw
     all_goals first
      |exact⟨k+1,by go_num,by omega,by rw[uh HPF];exact uh HPW,HTN⟩
      |(simp only[intN];omega)
   ·have hke:ei.writes.take k=ei.writes:=List.take_of_length_le (by omega)
    rw[hke] at HP;have d1:=(uh HP).row.cell 1 (by simp);simp only[List.getElem_cons_zero,List.getElem_cons_succ] at d1;clear hke
    go_wp2_with fail
    go_ret
    obtain rfl:=uh HCK;exact⟨rfl,uh HP,uh HT⟩
end Go.Proofs.YtjelacjggijmfaaGreatDoor
namespace Go.Pl
open Go Go.RowKit
theorem snd_at {c:Bs} {m:Nat}:∀{f p h:Nat} {A:Aw} {q x:Nat},Snd c m f p h A→A q=some x→∃B,Spec c m q x B
 |0,_,_,_,_,_,h,_=>h.elim
 |f+1,p,h,A,q,x,hs,hx=>by
  by_cases hqp:q=p
  ·subst hqp
   have:=hs.1 x hx;subst this;exact⟨A,f+1,hs⟩
  obtain⟨_,⟨hp,hw,ho,_,_,h6,hn⟩|⟨hp,_,hz⟩⟩:=hs
  ·have:onward A (mkIns c p) h q=some x:=by
    unfold onward put;have hd:del A p q=some x:=by unfold del;rw[if_neg hqp];exact hx
    split
    ·rename_i ho6
     dsimp only;split
     ·rename_i hq
      have:=h6 ho6 x (by rw[←hq];exact hd);rw[this];rfl
     ·exact hd
    ·exact hd
   exact snd_at hn this
  ·rw[hz q hqp] at hx;cases hx
theorem spec_at {c:Bs} {m p h q x:Nat} {A:Aw} (hs:Spec c m p h A) (hx:A q=some x):∃B,Spec c m q x B:=let ⟨_,hf⟩:=hs;snd_at hf hx
def Sn (c:Bs) (m p h:Nat):Prop:=∃A,Spec c m p h A
theorem isz_ops {op:Nat} (h:isz op≠0):op=1∨op=2∨op=3∨op=4∨op=5∨op=6∨op=7∨op=8:=by
 unfold isz at h;split at h
 ·omega
 ·split at h
  ·omega
  ·split at h
   ·omega
   ·split at h
    ·omega
    ·exact absurd rfl h
structure Fits (c:Bs) (m p h:Nat):Prop where
 whole:whole c p
 ops:okOps m (mkIns c p)
 taken:taken (opAt c p)≤h
 rise:rise (opAt c p) h≤16
theorem Sn.fits {c:Bs} {m p h:Nat} (hs:Sn c m p h) (hp:p<c.length):Fits c m p h:=by
 obtain⟨A,hA⟩:=hs;obtain⟨_,h1,h2,h3,h4,_⟩:=(spec_step hp).1 hA;exact⟨h1,h2,h3,h4⟩
theorem act_height {c:Bs} {p:Nat} {ss:List Bs} {ef:List Eff} {st:List Bool} {fl:Nat→Bool} {X:Wd} (hw:whole c p) (ht:taken (opAt c p)≤st.length):(act ss ef (mkIns c p) st fl X).2.1.length=rise (opAt c p) st.length:=by
 have ho:(mkIns c p).op=opAt c p:=rfl;unfold act rise;rw[ho]
 rcases isz_ops hw.1 with h|h|h|h|h|h|h|h<;>rw[h] at ht⊢<;>simp[Pl.taken,pushed] at ht⊢<;>omega
theorem Sn.next {c:Bs} {m p:Nat} {ss:List Bs} {ef:List Eff} {st:List Bool} {fl:Nat→Bool} {X:Wd} (hs:Sn c m p st.length) (hp:p<c.length):
 Sn c m (act ss ef (mkIns c p) st fl X).1 (act ss ef (mkIns c p) st fl X).2.1.length∧p<(act ss ef (mkIns c p) st fl X).1:=by
 have hf:=hs.fits hp;obtain⟨A,hA⟩:=hs;obtain⟨_,h1,h2,h3,h4,h5,h6⟩:=(spec_step hp).1 hA;rw[act_height hf.whole hf.taken];have ho:(mkIns c p).op=opAt c p:=rfl;have hn:(mkIns c p).next=p+isz (opAt c p):=rfl;have hz:=hf.whole.1
 by_cases h6' :opAt c p=6
 ·have e1:(act ss ef (mkIns c p) st fl X).1=if st.getLast?.getD false then(mkIns c p).next else(mkIns c p).next+(mkIns c p).first:=by
   unfold act;rw[ho,h6'];simp
  rw[e1];split
  ·exact⟨⟨_,h6⟩,by omega⟩
  ·refine⟨spec_at h6 (q:=(mkIns c p).next+(mkIns c p).first) (x:=rise (opAt c p) st.length) ?_,by omega⟩
   unfold onward put;rw[if_pos (by rw[ho];exact h6')];simp[ho]
 ·have e1:(act ss ef (mkIns c p) st fl X).1=(mkIns c p).next:=by
   unfold act;rw[ho]
   rcases isz_ops hz with h|h|h|h|h|h|h|h<;>first|(exact absurd h h6')|(rw [h];simp)
  rw[e1];exact⟨⟨_,h6⟩,by omega⟩
def Ends (c:Bs) (ss:List Bs) (ef:List Eff) (p:Nat) (st:List Bool) (fl:Nat→Bool) (X R:Wd):Prop:=∃f,c.length-p<f∧exec c ss ef f p st fl X=R
theorem Ends.stop {c:Bs} {ss:List Bs} {ef:List Eff} {p:Nat} {st:List Bool} {fl:Nat→Bool} {X R:Wd} (h:Ends c ss ef p st fl X R) (hn:¬(p<c.length∧X.exit=0)):X=R:=by
 obtain⟨f,_,hf⟩:=h;rw[exec_end hn] at hf;exact hf
theorem Ends.step {c:Bs} {ss:List Bs} {ef:List Eff} {p:Nat} {st:List Bool} {fl:Nat→Bool} {X R:Wd} (h:Ends c ss ef p st fl X R) (hp:p<c.length) (hx:X.exit=0) (hn:p<(act ss ef (mkIns c p) st fl X).1):
 Ends c ss ef (act ss ef (mkIns c p) st fl X).1 (act ss ef (mkIns c p) st fl X).2.1 (act ss ef (mkIns c p) st fl X).2.2.1 (act ss ef (mkIns c p) st fl X).2.2.2 R:=by
 obtain⟨f,h1,h2⟩:=h;cases f with
 |zero=>omega
 |succ f=>
  rw[exec,if_pos ⟨hp,hx⟩] at h2;exact⟨f,by omega,h2⟩
def runW (c:Bs) (ss:List Bs) (ef:List Eff) (X:Wd):Wd:=exec c ss ef (c.length+1) 0 [] (fun _=>false) X
theorem Ends.start (c:Bs) (ss:List Bs) (ef:List Eff) (X:Wd):Ends c ss ef 0 [] (fun _=>false) X (runW c ss ef X):=⟨c.length+1,by omega,rfl⟩
end Go.Pl
namespace Go.Proofs.YtjelacjggijmfaaGreatDoor
open Go.RowKit
theorem Tryz.infoAFile:(Tryz.prog.info? 65).map (fun i=>(i.zero,i.size,i.bytes))=some (some (.agg #[.string ⟨#[]⟩,.string ⟨#[]⟩,.int .i64 0]),3,40):=by kernel_rfl
def CR (w:World) (N:Nat) (t:TypeId) (fs:List Pl.File):Prop:=Row w N t (filesC fs)
def kept:Pl.Bs:=[107,101,112,116]
def RdS (w:World) (b o:Nat) (cs:List Pl.Bs):Prop:=∀i (h:i<cs.length),w.cell? ⟨b,o+i,none⟩=some (strV cs[i])
theorem RdS.below {w w' :World} {n b o:Nat} {cs:List Pl.Bs} (h:RdS w b o cs) (hb:Below n w w') (hn:b<n):RdS w' b o cs:=fun i hi=>by
 rw[hb.cell (p:=⟨b,o+i,none⟩) hn];exact h i hi
structure Boxed (w:World) (N:Nat) (t:TypeId) (v0 v1 v2 v3:Value) (W:World):Prop where
 row:Row W N t [v0,v1,v2,v3]
 below:Below w.heap.size w W
theorem Boxed.cells {w W:World} {N:Nat} {t:TypeId} {v0 v1 v2 v3:Value} (h:Boxed w N t v0 v1 v2 v3 W):W.cell? ⟨N,0,none⟩=some v0∧W.cell? ⟨N,1,none⟩=some v1∧W.cell? ⟨N,2,none⟩=some v2∧W.cell? ⟨N,3,none⟩=some v3:=
 ⟨h.row.cell 0 (by simp),h.row.cell 1 (by simp),h.row.cell 2 (by simp),h.row.cell 3 (by simp)⟩
theorem Boxed.drewN {w W:World} {N:Nat} {t:TypeId} {v0 v1 v2 v3:Value} (h:Boxed w N t v0 v1 v2 v3 W) (n:Nat):Boxed w N t v0 v1 v2 v3 (W.drewN n):=⟨h.row.later (Below.drewN (Below.refl _ _) n),Below.drewN h.below n⟩
theorem box_two (w:World) (t u:TypeId) (v0 v1 v2 v3 y0 y1 y2 y3:Value):Boxed w w.heap.size t v0 v1 v2 v3 ((w.alloc (.cells #[v0,v1,v2,v3] t)).alloc (.cells #[y0,y1,y2,y3] u))∧Boxed w (w.heap.size+1) u y0 y1 y2 y3 ((w.alloc (.cells #[v0,v1,v2,v3] t)).alloc (.cells #[y0,y1,y2,y3] u)):=by
 have hb:Below w.heap.size w ((w.alloc (.cells #[v0,v1,v2,v3] t)).alloc (.cells #[y0,y1,y2,y3] u)):=((Below.refl _ w).alloc (Nat.le_refl _) _).alloc (by rw[World.size_alloc];omega) _;refine⟨⟨(Row.new w t [v0,v1,v2,v3]).later ((Below.refl _ _).alloc (Nat.le_refl _) _),hb⟩,⟨?_,hb⟩⟩;have:=Row.new (w.alloc (.cells #[v0,v1,v2,v3] t)) u [y0,y1,y2,y3];rw[World.size_alloc] at this;exact this
end Go.Proofs.YtjelacjggijmfaaGreatDoor
namespace Go.Pl
end Go.Pl
namespace Go.Proofs.YtjelacjggijmfaaGreatDoor
open Go.RowKit
def fset (f:Nat→Bool) (i:Nat):Nat→Bool:=fun q=>if q=i then true else f q
theorem own_same {w W:World} {B e size n:Nat} {v:Value} {xs:List Value} (h:w.ownsRow B e size v n xs) (hk:∀k,v.ownBlock=some k→W.heap[k]?=w.heap[k]?):W.ownsRow B e size v n xs:=by
 refine⟨h.1,?_⟩
 rcases h.2 with h1|⟨g,cap,cur,rfl,h2,h3,h4⟩
 ·exact .inl h1
 ·exact .inr ⟨g,cap,cur,rfl,h2,(hk g rfl).trans h3,h4⟩
theorem own_cut {w:World} {B e n cap g:Nat} {xs:List Value} (h:w.ownsRow B e 1 (.slice (some ⟨g,0,none⟩) n cap) n xs) (m:Nat) (hm:m≤n):w.ownsRow B e 1 (.slice (some ⟨g,0,none⟩) m cap) m (xs.take m):=by
 have hl:=h.1;refine⟨by simp;omega,.inr ?_⟩
 rcases h.2 with⟨h1,_⟩|⟨g',cap',cur,h1,h2,h3,h4,h5,h6,h7⟩
 ·cases h1
 ·cases h1
  refine⟨g,cap,cur,rfl,h2,h3,by omega,h5,h6,?_⟩;rw[←h7,List.take_take]
  congr 1
  omega
section
variable {w:World} {pb xb ob:Nat} {ap:Option Addr} {cp:Nat} {c:Pl.Bs} {ss:List Pl.Bs} {ve vf vc vs:Value} {st:List Bool} {fl:Nat→Bool} {X:Pl.Wd} {W Z:World}
theorem rds_same {b o:Nat} {cs:List Pl.Bs} (h:RdS W b o cs) (hk:0<cs.length→Z.heap[b]?=W.heap[b]?):RdS Z b o cs:=fun i hi=>by
 rw[World.cell?_of_block (a:=⟨b,o+i,none⟩) (hk (by omega))];exact h i hi
end
end Go.Proofs.YtjelacjggijmfaaGreatDoor
