/-
  Alike of package makerkeep: true for all texts, goals, files, effects and clocks.
-/
import Derived.Test.YtjelacjggijmfaaGreatDoorTAK4
import Derived.Test.YtjelacjggijmfaaGreatDoorTXW
namespace Go.Proofs.YtjelacjggijmfaaGreatDoor
open Go.RowKit
structure Ou where
 er:Nat
 ex:Int
 ck:Int
 cs:List Pl.Bs
 fl:List Pl.File
def outO (fs0:List Pl.File) (ef:List Pl.Eff) (clock:Int) (r:Pl.Bs×Nat×Nat):Ou:=
 if r.2.1≠0 then⟨r.2.1,0,0,[],[]⟩ else match Pl.load r.1 with
  |none=>⟨0,0,0,[],[]⟩
  |some (T,c)=>⟨0,(Pl.runW c T ef (Pl.newW fs0 clock)).exit,(Pl.runW c T ef (Pl.newW fs0 clock)).clock,(Pl.runW c T ef (Pl.newW fs0 clock)).cmds,Pl.sortF (Pl.runW c T ef (Pl.newW fs0 clock)).files⟩
theorem make_ou {fs0:List Pl.File} {goal:Pl.Bs} {ef:List Pl.Eff} {clock:Int} {W W' :World} {e:Ending} (h:MakeP fs0 [82] goal ef clock W e W'):
 Below W.heap.size W W' ∧∃r,TextR (fs0.foldl Pl.addF []) [82] goal r∧∃vc vr,e= .returned (.tuple #[.agg #[vc,vr,.int .i64 (outO fs0 ef clock r).ex,.int .i64 (outO fs0 ef clock r).ck],.int .i64 ((outO fs0 ef clock r).er:Int),.int .i64 (r.2.2:Int)])∧MkO W.heap.size (outO fs0 ef clock r).cs (outO fs0 ef clock r).fl vc vr W' :=by
 obtain⟨hb,r,h1,h2⟩:=make_out h;refine⟨hb,r,h1,?_⟩
 rcases h2 with⟨h2,rfl⟩|⟨h2,T,c,vc,vr,h3,rfl,h4⟩
 ·unfold outO
  rw[if_pos h2];exact⟨_,_,rfl,MkO.none _ _⟩
 ·have h5:=(h1.plan h2).1
  unfold outO;rw[if_neg (by omega),h3,h5];exact⟨vc,vr,rfl,h4⟩
theorem out_alike (fs:List Pl.File) (t s:Pl.Bs) (ef:List Pl.Eff) (clock:Int) {r r' :Pl.Bs×Nat×Nat} (h1:r'.1=r.1) (h2:r'.2.1=r.2.1):
 (outO (wR fs t) ef clock r).er=(outO (wR fs s) ef clock r').er∧(outO (wR fs t) ef clock r).ex=(outO (wR fs s) ef clock r').ex∧(outO (wR fs t) ef clock r).ck=(outO (wR fs s) ef clock r').ck∧(outO (wR fs t) ef clock r).cs=(outO (wR fs s) ef clock r').cs∧Pl.Fqs [82] t s (outO (wR fs t) ef clock r).fl (outO (wR fs s) ef clock r').fl:=by
 unfold outO;rw[h1,h2];split
 ·exact⟨rfl,rfl,rfl,rfl,.nil⟩
 ·cases Pl.load r.1 with
  |none=>exact⟨rfl,rfl,rfl,rfl,.nil⟩
  |some x=>
   obtain⟨T,c⟩:=x;have hq:=run_alike fs t s c T ef clock;exact⟨rfl,hq.exit.symm,hq.clock.symm,hq.cmds.symm,hq.files.sort⟩
theorem out_small {fs0:List Pl.File} {goal:Pl.Bs} (ef:List Pl.Eff) (clock:Int) {r:Pl.Bs×Nat×Nat} {S:List Pl.Bs} (hl:r.2.1=0→r.1.length≤8388608) (_:TextR (fs0.foldl Pl.addF []) [82] goal r) (hfS:∀f∈fs0,f.path∈S) (hEs:∀e∈ef,∀f∈e.writes,f.path∈S) (hSl:S.length≤8388608):(outO fs0 ef clock r).cs.length≤8388608∧(outO fs0 ef clock r).fl.length≤8388608:=by
 unfold outO;split
 ·exact⟨Nat.zero_le _,Nat.zero_le _⟩
 ·rename_i h0
  have h0:r.2.1=0:=by omega
  cases hld:Pl.load r.1 with
  |none=>exact⟨Nat.zero_le _,Nat.zero_le _⟩
  |some x=>
   obtain⟨T,c⟩:=x;exact⟨Nat.le_trans (run_cmds hld fs0 ef clock) (hl h0),Nat.le_trans (run_files S c T fs0 ef clock hfS hEs) hSl⟩
theorem textF_zero:∀(l:List (Mk.Ln×Nat)) (op:Bool) (acc:Pl.Bs),(Mk.textF op acc l).2.1=0→(Mk.textF op acc l).2.2=0
 |[],_,_,_=>rfl
 |(l,e)::r,op,acc,h=>by
  unfold Mk.textF at h⊢;split
  ·rename_i h0
   rw[if_pos h0] at h;split
   ·rename_i h1
    rw[if_pos h1] at h;cases h
   ·rename_i h1
    rw[if_neg h1] at h;exact textF_zero r _ _ h
  ·rename_i h0
   rw[if_neg h0] at h;have h:e=0:=h;rw[h] at h0;exact absurd rfl h0
set_option maxHeartbeats 2000000 in
set_option maxRecDepth 100000 in
theorem alike_err (t goal:Pl.Bs) (ln:Nat) (a ae:Option Addr) (n cap m ce:Nat) (clock:Int) (w:World)
 (C0:Hid (Calls Tryz.prog 26 #[] w fun e w' =>e= .returned (.bool true)∧Below w.heap.size w w'))
 (C1:Hid (∀W,Below w.heap.size w W→Calls Tryz.prog 27 #[.string ⟨t.toArray⟩] W fun e w' =>e= .returned (.tuple #[.string ⟨#[]⟩,.int .i64 1,.int .i64 (ln:Int)])∧Below W.heap.size W w')):
 Calls Tryz.prog 5 #[.string ⟨t.toArray⟩,.string ⟨goal.toArray⟩,.slice a n cap,.slice ae m ce,.int .i64 clock] w fun e w' =>e= .returned (.bool true)∧Below w.heap.size w w' :=by
 go_enter Tryz.func5,Tryz.ntmps5
 go_wp2_with (first
  |(go_at_call 26;refine(uh C0).mono ?_;rintro e w1 ⟨rfl,hb1⟩;have HB1:=hide hb1;clear hb1 C0)
  |(go_at_call 27;refine(uh C1 _ (uh HB1)).mono ?_;rintro e w2 ⟨rfl,hb2⟩;have HB2:=hide ((uh HB1).trans (hb2.mono (uh HB1).size));clear hb2 HB1 C1)
  |fail)
 go_ret
 exact⟨rfl,uh HB2⟩
theorem alike_any (t goal:Pl.Bs) (fs:List Pl.File) (hs:sumF fs+t.length+2≤1048576) (ef:List Pl.Eff) (S:List Pl.Bs) (a ae:Option Addr) (cap b o ce L be oe:Nat) (clock:Int) (w:World)
 (ha:0<fs.length→a=some ⟨b,o,none⟩∧RdF w b o fs∧b<w.heap.size) (hae:0<ef.length→ae=some ⟨be,oe,none⟩) (hE:0<ef.length→RdE w L be oe ef∧L≤w.heap.size) (hel:ef.length≤8388608) (hwl:∀e∈ef,e.writes.length≤8388608) (hSl:S.length≤1048576) (hfS:∀f∈fs,f.path∈S) (hEs:∀e∈ef,∀f∈e.writes,f.path∈S) (hSp:∀p∈S,p.length≤maxLen) (hg:Glob w):
 Calls Tryz.prog 5 #[.string ⟨t.toArray⟩,.string ⟨goal.toArray⟩,.slice a fs.length cap,.slice ae ef.length ce,.int .i64 clock] w fun e w' =>e= .returned (.bool true)∧Below w.heap.size w w' :=by
 have hsl:=Mk.plainOf_len t;have C0:Calls Tryz.prog 26 #[] w fun e w' =>e= .returned (.bool true)∧Below w.heap.size w w' :=(lives_any w hg).mono fun e w2 q=>⟨q.1,q.2.1⟩
 by_cases her:(Mk.plainOf t).2.1=0
 ·obtain⟨s,hsd⟩:∃s,s=(Mk.plainOf t).1:=⟨_,rfl⟩
  rw[←hsd] at hsl;have hfl:=sumF_len fs
  have oks:∀u:Pl.Bs,u=t∨u=s→FsOk (wR fs u) [82] goal∧∀r,TextR ((wR fs u).foldl Pl.addF []) [82] goal r→r.2.1=0→r.1.length≤8388608:=fun u hu=>by
   have hk:=wR_ok (s:=u) hs (by rcases hu with rfl|rfl<;>omega) [82] goal;exact⟨hk.1,fun r h h0=>text_len h h0 hk.2⟩
  have hwS:∀u:Pl.Bs,∀f∈wR fs u,f.path∈[82]::S:=fun u f hf=>by
   rcases List.mem_append.1 hf with q|q
   ·exact List.mem_cons_of_mem _ (hfS f (List.mem_filter.1 q).1)
   ·rw[List.mem_singleton.1 q];exact List.mem_cons_self ..
  have hEs' :∀e∈ef,∀f∈e.writes,f.path∈[82]::S:=fun e he f hf=>List.mem_cons_of_mem _ (hEs e he f hf)
  have hmake:∀u:Pl.Bs,u=t∨u=s→∀W ba ca,Below w.heap.size w W→RdF W ba 0 (wR fs u)→ba<W.heap.size→Calls Tryz.prog 20 #[.slice (some ⟨ba,0,none⟩) (wR fs u).length ca,.string ⟨#[82]⟩,.string ⟨goal.toArray⟩,.slice ae ef.length ce,.int .i64 clock] W fun e w' =>MakeP (wR fs u) [82] goal ef clock W e w' :=fun u hu W ba ca hb hr hlt=>by
   have h2:∃L' be',(0<ef.length→ae=some ⟨be',oe,none⟩)∧RdE W L' be' oe ef∧L' ≤W.heap.size:=by
    by_cases hf:0<ef.length
    ·exact⟨L,be,hae,(hE hf).1.below (hb.mono (hE hf).2),Nat.le_trans (hE hf).2 hb.size⟩
    ·exact⟨W.heap.size,0,fun h=>absurd h hf,⟨by omega,fun i hi=>by omega⟩,Nat.le_refl _⟩
   obtain⟨L',be',p4,p5,p6⟩:=h2
   exact make_any (oks u hu).1 (oks u hu).2 ef ([82]::S) (some ⟨ba,0,none⟩) ae ca ba 0 ce L' be' oe clock W (fun _=>rfl) hr hlt (hg.later hb) ⟨p4,p5,hEs',hel,hwl,by rw[List.length_cons];omega⟩ p6 (hwS u) (fun p hp=>by
    rcases List.mem_cons.1 hp with q|q
    ·rw[q];unfold maxLen;decide
    ·exact hSp p q)
  have C1:∀W,Below w.heap.size w W→Calls Tryz.prog 27 #[.string ⟨t.toArray⟩] W fun e w' =>e= .returned (.tuple #[.string ⟨s.toArray⟩,.int .i64 0,.int .i64 0])∧Below W.heap.size W w' :=fun W hb=>(plain_any t W (by omega) (hg.later hb)).mono (by
   rintro e w' ⟨rfl,h2⟩
   refine⟨?_,h2⟩;have hz:(Mk.plainOf t).2.2=0:=textF_zero _ _ _ her;unfold plainV;rw[her,hz,←hsd]
   rfl)
  have C5:∀(cs:List Pl.Bs) (fl:List Pl.File) (ex ck:Int),cs.length≤8388608→fl.length≤8388608→∀W vc vr vc' vr' B B',MkO B cs fl vc vr W→MkO B' cs fl vc' vr' W→Calls Tryz.prog 28 #[.agg #[vc,vr,.int .i64 ex,.int .i64 ck],.agg #[vc',vr',.int .i64 ex,.int .i64 ck]] W fun e w' =>e= .returned (.bool true)∧Below W.heap.size W w' :=fun cs fl ex ck h1 h2 W vc vr vc' vr' B B' m1 m2=>by
   obtain⟨a1,c1,b1,rfl,x1,x2,x3⟩:=Strs.rd m1.c;obtain⟨a2,c2,b2,rfl,y1,y2,y3⟩:=own_files m1.f;obtain⟨a3,c3,b3,rfl,x4,x5,x6⟩:=Strs.rd m2.c;obtain⟨a4,c4,b4,rfl,y4,y5,y6⟩:=own_files m2.f;exact sameResult_any cs fl ex ck a1 a2 a3 a4 c1 c2 c3 c4 b1 b2 b3 b4 0 0 0 0 W x1 y1 x4 y4 x3 y3 x6 y6 x2 y2 x5 y5 h1 h2
  by_cases hex:∃r,TextR ((wR fs t).foldl Pl.addF []) [82] goal r∧r.2.1≠5
  ·obtain⟨r,h1,h5⟩:=hex
   rcases text_same (flike_R fs her) h1 with q|⟨r',g1,g2,g3⟩
   ·exact absurd q h5
   ·rw[←hsd] at g1
    obtain⟨o1,o2,o3,o4,o5⟩:=out_alike fs t s ef clock g2 g3;obtain⟨s1,s2⟩:=out_small (S:=[82]::S) ef clock ((oks t (.inl rfl)).2 r h1) h1 (hwS t) hEs' (by rw[List.length_cons];omega);have hln:=o5.len
    refine alike_walk t goal s fs (outO (wR fs t) ef clock r).er (outO (wR fs t) ef clock r).cs (outO (wR fs t) ef clock r).fl (outO (wR fs s) ef clock r').fl (outO (wR fs t) ef clock r).ex (outO (wR fs t) ef clock r).ck a ae cap ef.length ce b o clock w hln (fun i h _=>o5.at i h) (by omega) s2 ha C0 C1 (fun W ba ca hb hr hlt=>(hmake t (.inl rfl) W ba ca hb hr hlt).mono ?_) (fun W ba ca hb hr hlt=>(hmake s (.inr rfl) W ba ca hb hr hlt).mono ?_) (C5 _ _ _ _ s1 (by omega))
    ·intro e w' hm
     obtain⟨k1,k,k2,vc,vr,k3,k4⟩:=make_ou hm;obtain rfl:=k2.det h1;exact⟨vc,vr,_,k3,k4,k1⟩
    ·intro e w' hm
     obtain⟨k1,k,k2,vc,vr,k3,k4⟩:=make_ou hm;obtain rfl:=k2.det g1;exact⟨vc,vr,_,_,_,_,_,_,k3,k4,k1,fun _=>⟨o1,o2,o3,o4,rfl⟩⟩
  ·have h5:∀r,TextR ((wR fs t).foldl Pl.addF []) [82] goal r→r.2.1=5:=fun r h=>by
    by_cases q:r.2.1=5
    ·exact q
    ·exact absurd ⟨r,h,q⟩ hex
   refine alike_walk t goal s fs 5 [] [] [] 0 0 a ae cap ef.length ce b o clock w rfl (fun i h _=>by simp at h) (by omega) (Nat.zero_le _) ha C0 C1 (fun W ba ca hb hr hlt=>(hmake t (.inl rfl) W ba ca hb hr hlt).mono ?_) (fun W ba ca hb hr hlt=>(hmake s (.inr rfl) W ba ca hb hr hlt).mono ?_) (C5 _ _ _ _ (Nat.zero_le _) (Nat.zero_le _))
   ·intro e w' hm
    obtain⟨k1,k,k2,vc,vr,k3,k4⟩:=make_ou hm;have k5:=h5 k k2;have k6:outO (wR fs t) ef clock k=⟨5,0,0,[],[]⟩:=by unfold outO;rw[if_pos (by rw[k5];decide),k5]
    rw[k6] at k3 k4;exact⟨vc,vr,_,k3,k4,k1⟩
   ·intro e w' hm
    obtain⟨k1,k,k2,vc,vr,k3,k4⟩:=make_ou hm;exact⟨vc,vr,_,_,_,_,_,_,k3,k4,k1,fun q=>absurd rfl q⟩
 ·obtain⟨e1,e2,-⟩:=Mk.plain_err t her
  refine alike_err t goal (Mk.plainOf t).2.2 a ae fs.length cap ef.length ce clock w C0 fun W hb=>(plain_any t W (by omega) (hg.later hb)).mono ?_
  rintro e w' ⟨rfl,h2⟩
  refine⟨?_,h2⟩;unfold plainV;rw[e1,e2];rfl
end Go.Proofs.YtjelacjggijmfaaGreatDoor
