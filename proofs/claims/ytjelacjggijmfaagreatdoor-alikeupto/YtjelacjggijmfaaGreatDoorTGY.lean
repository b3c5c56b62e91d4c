/-
  Make of package maker; a result, as it is read.
-/
import Derived.Test.YtjelacjggijmfaaGreatDoorTWP7
import Derived.Test.YtjelacjggijmfaaGreatDoorTPS3
import Derived.Deep.Cut
import Derived.Test.YtjelacjggijmfaaGreatDoorTWP3
import Derived.Test.YtjelacjggijmfaaGreatDoorTPT3
set_option maxHeartbeats 4000000
set_option maxRecDepth 20000
namespace Go.Proofs.YtjelacjggijmfaaGreatDoor
open Go.RowKit Go.MapKept Go.ChangeMaps Go.Maps
theorem make_any {fs0:List Pl.File} {path goal:Pl.Bs} (hF:FsOk fs0 path goal) (hpl:∀r,TextR (fs0.foldl Pl.addF []) path goal r→r.2.1=0→r.1.length≤8388608) (ef:List Pl.Eff) (S:List Pl.Bs) (a ae:Option Addr) (cap b o ce L be oe:Nat) (clock:Int) (W:World)
 (ha:0<fs0.length→a=some ⟨b,o,none⟩) (hr:RdF W b o fs0) (hbw:b<W.heap.size) (hg:Glob W) (hE:EffOk W L be oe ae ef S) (hL:L≤W.heap.size) (hfS:∀f∈fs0,f.path∈S) (hSp:∀p∈S,p.length≤maxLen):
 Calls Tryz.prog 20 #[.slice a fs0.length cap,.string ⟨path.toArray⟩,.string ⟨goal.toArray⟩,.slice ae ef.length ce,.int .i64 clock] W fun e W' =>MakeP fs0 path goal ef clock W e W' :=by
 have C1:Hid (∀w1,Below W.heap.size W w1→Calls Tryz.prog 11 #[.slice a fs0.length cap,.string ⟨path.toArray⟩,.string ⟨goal.toArray⟩] w1 fun e W' =>TextP (fs0.foldl Pl.addF []) path goal w1 e W'):=fun w1 hb=>compile_any hF a cap b o w1 ha (hr.below hb hbw) (Nat.lt_of_lt_of_le hbw hb.size) (hg.later hb)
 have C2:Hid (∀w1 (l:Pl.Bs),l.length≤8388608→Below W.heap.size W w1→Calls Tryz.prog 30 #[.string ⟨l.toArray⟩,.slice a fs0.length cap,.slice ae ef.length ce,.int .i64 clock] w1 fun e W' =>ARunPost l fs0 ef clock w1 e W'):=fun w1 l hl hb=>makerRun_any l hl fs0 ef S a ae cap b o ce L be oe clock w1 ha (hr.below hb hbw) (Nat.lt_of_lt_of_le hbw hb.size) hF.few (hE.tn (Tn.later (p:=fun _=>False) hb) hL (fun k e=>e.elim)) (Nat.le_trans hL hb.size) hfS hSp
 have HP:=hide hpl;clear ha hr hg hE hfS hSp hF hpl
 go_enter Tryz.func20,Tryz.ntmps20
 have hR0:=Row.new W 48 [.slice none 0 0,.slice none 0 0,.int .i64 0,.int .i64 0];have hs0:(W.alloc (.cells #[.slice none 0 0,.slice none 0 0,.int .i64 0,.int .i64 0] 48)).heap.size=W.heap.size+1:=World.size_alloc _ _;have hb0:Below W.heap.size W (W.alloc (.cells #[.slice none 0 0,.slice none 0 0,.int .i64 0,.int .i64 0] 48)):=(Below.refl _ _).alloc (Nat.le_refl _) _
 have HR0:=hide hR0;have HS0:=hide hs0;have HB0:=hide hb0;clear hR0 hs0 hb0
 go_wp2_with (first
  |(go_at_call 11;refine(uh C1 _ (uh HB0)).mono ?_;rintro e w1 ⟨r,hr1,rfl,hb1⟩;have HR1:=hide hr1;have HB1:=hide ((uh HB0).trans (hb1.mono (by rw[uh HS0];omega)));have hrow:=(uh HR0).below hb1 (by rw[uh HS0];omega);have r0:=hrow.cell 0 (by simp);have r1:=hrow.cell 1 (by simp);have r2:=hrow.cell 2 (by simp);have r3:=hrow.cell 3 (by simp);have f0:=hrow.frozen 0;have f1:=hrow.frozen 1;have f2:=hrow.frozen 2;have f3:=hrow.frozen 3;simp only[List.getElem_cons_zero,List.getElem_cons_succ] at r0 r1 r2 r3;have HW1:=hide hrow;have HSZ:Hid (W.heap.size<w1.heap.size):=hide hrow.lt;have HZ:Hid (((r.2.1:Int) !=0)=false→r.2.1=0):=hide (fun q=>(by have:=bne_eq_false_iff_eq.1 q;omega));have HNZ:Hid (((r.2.1:Int) !=0)=true→r.2.1≠0):=hide (fun q=>(by have:=bne_iff_ne.1 q;omega));clear hrow hr1 hb1 C1)
  |fail)
 ·rename_i hnz
  have hset:∀u0 u1 u2 u3,Below W.heap.size W ((((w1.setCell ⟨W.heap.size,0,none⟩ u0).setCell ⟨W.heap.size,1,none⟩ u1).setCell ⟨W.heap.size,2,none⟩ u2).setCell ⟨W.heap.size,3,none⟩ u3):=fun u0 u1 u2 u3=>((((uh HB1).setCell (p:=⟨W.heap.size,0,none⟩) (Nat.le_refl _) u0).setCell (p:=⟨W.heap.size,1,none⟩) (Nat.le_refl _) u1).setCell (p:=⟨W.heap.size,2,none⟩) (Nat.le_refl _) u2).setCell (p:=⟨W.heap.size,3,none⟩) (Nat.le_refl _) u3
  have hR:=((((uh HW1).set 0 (.slice none 0 0)).set 1 (.slice none 0 0)).set 2 (.int .i64 0)).set 3 (.int .i64 0);have o0:=hR.cell 0 (by simp);have o1:=hR.cell 1 (by simp);have o2:=hR.cell 2 (by simp);have o3:=hR.cell 3 (by simp);simp only[List.set_cons_zero,List.set_cons_succ,List.getElem_cons_zero,List.getElem_cons_succ] at o0 o1 o2 o3
  refine bodyPost_ret (v:= .tuple #[zRes,.int .i64 (r.2.1:Int),.int .i64 (r.2.2:Int)]) ?_ rfl ⟨hset _ _ _ _,r,uh HR1,.inl ⟨uh HNZ (by first|assumption|simpa using hnz),rfl⟩⟩;simp[results,Tryz.results20,go_sem,o0,o1,o2,o3,zRes]
 ·have hz:=uh HZ (by assumption)
  refine(uh C2 w1 r.1 (uh HP r (uh HR1) hz) (uh HB1)).mono ?_
  rintro e w2 ⟨hb2,hres⟩
  have hres:RunRes r.1 fs0 ef clock w1.heap.size e w2:=hres;obtain⟨a1,n1,c1,a2,n2,c2,ex,ck,er,rfl⟩:=hres.shape;have HRE:=hide hres;have HB2:=hide hb2;have hba:Below w2.heap.size w2 (w2.alloc (.cells #[.slice a1 n1 c1,.slice a2 n2 c2,.int .i64 ex,.int .i64 ck] 48)):=(Below.refl _ _).alloc (Nat.le_refl _) _;have hrow:=((uh HW1).later hb2).later hba
  have hr2:=Row.new w2 48 [.slice a1 n1 c1,.slice a2 n2 c2,.int .i64 ex,.int .i64 ck];have hlt:=((uh HW1).later hb2).lt;have r0:=hrow.cell 0 (by simp);have r1:=hrow.cell 1 (by simp);have r2:=hrow.cell 2 (by simp);have r3:=hrow.cell 3 (by simp);have f0:=hrow.frozen 0;have f1:=hrow.frozen 1;have f2:=hrow.frozen 2;have f3:=hrow.frozen 3;have p0:=hr2.cell 0 (by simp)
  have p1:=hr2.cell 1 (by simp);have p2:=hr2.cell 2 (by simp);have p3:=hr2.cell 3 (by simp);simp only[List.getElem_cons_zero,List.getElem_cons_succ] at r0 r1 r2 r3 p0 p1 p2 p3;have HW2:=hide hrow;have HBA:=hide hba;clear hres hb2 hrow HW1 hr2 hba
  go_upto_region 5 with fail
  generalize w2.alloc (.cells #[.slice a1 n1 c1,.slice a2 n2 c2,.int .i64 ex,.int .i64 ck] 48)=W3 at*
  go_wp2_with fail
  have hR:=((((uh HW2).set 0 (.slice a1 n1 c1)).set 1 (.slice a2 n2 c2)).set 2 (.int .i64 ex)).set 3 (.int .i64 ck);have o0:=hR.cell 0 (by simp);have o1:=hR.cell 1 (by simp);have o2:=hR.cell 2 (by simp);have o3:=hR.cell 3 (by simp);simp only[List.set_cons_zero,List.set_cons_succ,List.getElem_cons_zero,List.getElem_cons_succ] at o0 o1 o2 o3
  have hbw3:Below W.heap.size W W3:=((uh HB1).trans ((uh HB2).mono (uh HB1).size)).trans ((uh HBA).mono (by omega))
  have hset:Below W.heap.size W ((((W3.setCell ⟨W.heap.size,0,none⟩ (.slice a1 n1 c1)).setCell ⟨W.heap.size,1,none⟩ (.slice a2 n2 c2)).setCell ⟨W.heap.size,2,none⟩ (.int .i64 ex)).setCell ⟨W.heap.size,3,none⟩ (.int .i64 ck)):=(((hbw3.setCell (p:=⟨W.heap.size,0,none⟩) (Nat.le_refl _) _).setCell (p:=⟨W.heap.size,1,none⟩) (Nat.le_refl _) _).setCell (p:=⟨W.heap.size,2,none⟩) (Nat.le_refl _) _).setCell (p:=⟨W.heap.size,3,none⟩) (Nat.le_refl _) _
  have hre:=(((((uh HRE).later (uh HBA)).set (k:=0) (uh HSZ) (.slice a1 n1 c1)).set (k:=1) (uh HSZ) (.slice a2 n2 c2)).set (k:=2) (uh HSZ) (.int .i64 ex)).set (k:=3) (uh HSZ) (.int .i64 ck);refine bodyPost_ret (v:= .tuple #[.agg #[.slice a1 n1 c1,.slice a2 n2 c2,.int .i64 ex,.int .i64 ck],.int .i64 er,.int .i64 0]) ?_ rfl ⟨hset,r,uh HR1,.inr ⟨hz,_,er,rfl,hre.low (Nat.le_of_lt (uh HSZ))⟩⟩
  simp[results,Tryz.results20,go_sem,o0,o1,o2,o3]
end Go.Proofs.YtjelacjggijmfaaGreatDoor
namespace Go.Pl
open Go Go.RowKit
end Go.Pl
namespace Go.Proofs.YtjelacjggijmfaaGreatDoor
open Go.RowKit
theorem own_read {w:World} {B e size n:Nat} {v:Value} {xs:List Value} (h:w.ownsRow B e size v n xs):∃a cap b,v= .slice a n cap∧(0<n→a=some ⟨b,0,none⟩)∧(0<n→b<w.heap.size)∧∀i u,xs[i]?=some u→w.cell? ⟨b,i,none⟩=some u:=by
 rcases h.2 with⟨h1,h2⟩|⟨g,cap,cur,h1,h2,h3,h4,h5,h6,h7⟩
 ·refine⟨none,0,0,?_,fun h=>by omega,fun h=>by omega,fun i u hu=> ?_⟩
  ·rw[h1,h2]
  ·have:=h.1
   subst h2;simp only[Nat.zero_mul,List.length_eq_zero_iff] at this;subst this;simp at hu
 ·have hr:Row w g e cur.toList:=by unfold Row;simpa using h3
  refine⟨some ⟨g,0,none⟩,cap,g,h1,fun _=>rfl,fun _=>hr.lt,fun i u hu=>hr.cell? ?_⟩;rw[←h7,List.getElem?_take] at hu;split at hu
  ·exact hu
  ·cases hu
theorem Strs.rd {w:World} {B:Nat} {v:Value} {ss:List Pl.Bs} (h:Strs w B v ss):∃a cap b,v= .slice a ss.length cap∧(0<ss.length→a=some ⟨b,0,none⟩)∧(0<ss.length→b<w.heap.size)∧RdS w b 0 ss:=by
 obtain⟨a,cap,b,h1,h2,h3,h4⟩:=own_read h;exact⟨a,cap,b,h1,h2,h3,fun i hi=>h4 (0+i) _ (by simp[hi])⟩
theorem own_files {w:World} {B t:Nat} {v:Value} {fs:List Pl.File} (h:w.ownsRow B t 3 v fs.length (filesC fs)):∃a cap b,v= .slice a fs.length cap∧(0<fs.length→a=some ⟨b,0,none⟩)∧(0<fs.length→b<w.heap.size)∧RdF w b 0 fs:=by
 obtain⟨a,cap,b,h1,h2,h3,h4⟩:=own_read h;refine⟨a,cap,b,h1,h2,h3,fun i hi=> ?_⟩;obtain⟨k0,k1,k2⟩:=filesC_get fs i hi;rw[Nat.zero_add];exact⟨h4 _ _ k0,h4 _ _ k1,h4 _ _ k2⟩
end Go.Proofs.YtjelacjggijmfaaGreatDoor
namespace Go.Proofs.YtjelacjggijmfaaGreatDoor
open Go.RowKit Go.MapKept Go.ChangeMaps Go.Maps
theorem live_ok:FsOk liveF [82] [97]:=by
 refine⟨by decide,⟨100,by decide,fun p g h=> ?_⟩,by decide,fun f hf=> ?_,2,by decide,?_⟩
 ·have hm:g∈liveF:=List.mem_of_find?_eq_some h
  rw[List.mem_singleton.1 hm];decide
 ·have hm:f∈liveF:=hf
  rw[List.mem_singleton.1 hm];decide
 ·have e:liveF.foldl Pl.addF []=liveF:=rfl
  rw[e,live_book];intro _ r hr _ _ x hx;rw[(live_from hr).2] at hx;rw[List.mem_singleton.1 hx];decide
theorem live_run:doA [] (fOf liveX) liveX 0 ((fun _=>false),Pl.newW liveF 0)=⟨liveF,1,[[98]],0⟩:=by kernel_rfl
theorem live_make (b:Nat) (W:World) (hr:RdF W b 0 liveF) (hbw:b<W.heap.size) (hg:Glob W):
 Calls Tryz.prog 20 #[.slice (some ⟨b,0,none⟩) 1 1,.string ⟨#[82]⟩,.string ⟨#[97]⟩,.slice none 0 0,.int .i64 0] W fun e w' =>∃g c1 a2 n2 c2,e= .returned (.tuple #[.agg #[.slice (some ⟨g,0,none⟩) 1 c1,.slice a2 n2 c2,.int .i64 0,.int .i64 1],.int .i64 0,.int .i64 0])∧w'.cell? ⟨g,0,none⟩=some (.string ⟨#[98]⟩)∧g<w'.heap.size∧Below W.heap.size W w' :=by
 obtain⟨p,hp,hpl⟩:=live_plan;refine(make_any live_ok (fun r hr h0=> ?_) [] [[82]] (some ⟨b,0,none⟩) none 1 b 0 0 W.heap.size b 0 0 W (fun _=>rfl) hr hbw hg ⟨fun h=>by simp at h,⟨hbw,fun i hi=>by simp at hi⟩,by simp,by simp,by simp,by simp⟩ (Nat.le_refl _) (fun f hf=> ?_) (fun p hp=> ?_)).mono ?_
 ·obtain⟨q,h1,h2⟩:=live_text hr
  rw[hp] at h1;cases h1;rw[h2];exact Nat.le_trans hpl (by decide)
 ·rw[List.mem_singleton.1 hf];simp
 ·rw[List.mem_singleton.1 hp];decide
 ·rintro e w' ⟨hb,r,h1,h2⟩
  obtain⟨q,h3,h4⟩:=live_text h1;rw[hp] at h3;cases h3;subst h4
  rcases h2 with⟨h2,-⟩|⟨-,v,er,rfl,h2⟩
  ·exact absurd rfl h2
  ·obtain⟨T,c,k1,k2,k3⟩:=plan_is hp
   rcases h2 with⟨h2,-⟩|⟨ss,c',vc,vr,m1,-,m3,m4,m5⟩
   ·exact absurd k2 h2
   ·rw[k1] at m1
    cases m1;rw[k3 [] _ rfl,live_run] at m3 m4 m5;cases m3;obtain⟨g,c1,rfl,-,hg⟩:=owns_form m4 (by decide);obtain⟨a2,c2,rfl⟩:=own_sh m5;exact⟨g,c1,a2,_,c2,rfl,own_cell m4 0 (by decide),hg,hb⟩
theorem lives_any (w:World) (hg:Glob w):Calls Tryz.prog 26 #[] w fun e w' =>e= .returned (.bool true)∧Below w.heap.size w w' ∧0<w'.heap.size:=by
 have hR0:=Row.new w 65 [.string ⟨#[82]⟩,.string ⟨#[97,58,10,9,98]⟩,.int .i64 0];have hb0:Below w.heap.size w (w.alloc (.cells #[.string ⟨#[82]⟩,.string ⟨#[97,58,10,9,98]⟩,.int .i64 0] 65)):=(Below.refl _ _).alloc (Nat.le_refl _) _
 have hrd:RdF (w.alloc (.cells #[.string ⟨#[82]⟩,.string ⟨#[97,58,10,9,98]⟩,.int .i64 0] 65)) w.heap.size 0 liveF:=fun i hi=>by
  obtain rfl:i=0:=by simp[liveF] at hi;omega
  exact⟨hR0.cell 0 (by simp),hR0.cell 1 (by simp),hR0.cell 2 (by simp)⟩
 have C:=hide (live_make w.heap.size _ hrd hR0.lt (hg.later hb0));have HB0:=hide hb0;clear hR0 hrd hb0 hg
 go_enter Tryz.func26,Tryz.ntmps26
 go_wp2_with (first
  |(go_at_call 20;refine(uh C).mono ?_;rintro e w1 ⟨g,c1,a2,n2,c2,rfl,hc,hgl,hb1⟩;have HB1:=hide hb1;clear hb1)
  |fail)
 go_ret
 have hb:=(uh HB0).trans ((uh HB1).mono (uh HB0).size);exact⟨rfl,hb.alloc hb.size _,by rw[World.size_alloc];omega⟩
end Go.Proofs.YtjelacjggijmfaaGreatDoor
namespace Go.Proofs.YtjelacjggijmfaaGreatDoor
open Go.RowKit
def Res (cs:List Pl.Bs) (fl:List Pl.File) (a1 a2:Option Addr) (b1 b2:Nat) (w:World):Prop:=
 (0<cs.length→a1=some ⟨b1,0,none⟩)∧(0<fl.length→a2=some ⟨b2,0,none⟩)∧RdS w b1 0 cs∧RdF w b2 0 fl∧(0<cs.length→b1<w.heap.size)∧(0<fl.length→b2<w.heap.size)
theorem Res.later {cs:List Pl.Bs} {fl:List Pl.File} {a1 a2:Option Addr} {b1 b2:Nat} {w z:World} (h:Res cs fl a1 a2 b1 b2 w) (hb:Below w.heap.size w z):Res cs fl a1 a2 b1 b2 z:=by
 obtain⟨h1,h2,h3,h4,h5,h6⟩:=h;refine⟨h1,h2,?_,?_,fun q=>Nat.lt_of_lt_of_le (h5 q) hb.size,fun q=>Nat.lt_of_lt_of_le (h6 q) hb.size⟩
 ·by_cases q:0<cs.length
  ·exact h3.below hb (h5 q)
  ·exact fun i hi=>by omega
 ·by_cases q:0<fl.length
  ·exact h4.below hb (h6 q)
  ·exact fun i hi=>by omega
theorem Tryz.infoBl:(Tryz.prog.info? 4).map (fun i=>(i.zero,i.size,i.bytes))=some (some (.bool false),1,1):=by kernel_rfl
end Go.Proofs.YtjelacjggijmfaaGreatDoor
