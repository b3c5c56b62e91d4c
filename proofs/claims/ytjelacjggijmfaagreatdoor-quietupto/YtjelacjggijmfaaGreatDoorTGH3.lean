/-
  The laws' own on webs: which nodes a node reaches.
-/
import Derived.Test.YtjelacjggijmfaaGreatDoorTWP7
import Derived.Test.YtjelacjggijmfaaGreatDoorTPS3
import Derived.Deep.Cut
import Derived.Test.YtjelacjggijmfaaGreatDoorTWP3
import Derived.Test.YtjelacjggijmfaaGreatDoorTPT3
import Derived.Test.YtjelacjggijmfaaGreatDoorTKW6
set_option maxHeartbeats 4000000
set_option maxRecDepth 20000
namespace Go.Proofs.YtjelacjggijmfaaGreatDoor
open Go.RowKit Go.MapKept Go.ChangeMaps Go.Maps
theorem make_any {fs0:List Pl.File} {path goal:Pl.Bs} (hF:FsOk fs0 path goal) (hpl:∀r,TextR (fs0.foldl Pl.addF []) path goal r→r.2.1=0→r.1.length≤8388608) (ef:List Pl.Eff) (S:List Pl.Bs) (a ae:Option Addr) (cap b o ce L be oe:Nat) (clock:Int) (W:World)
 (ha:0<fs0.length→a=some ⟨b,o,none⟩) (hr:RdF W b o fs0) (hbw:b<W.heap.size) (hg:Glob W) (hE:EffOk W L be oe ae ef S) (hL:L≤W.heap.size) (hfS:∀f∈fs0,f.path∈S) (hSp:∀p∈S,p.length≤maxLen):
 Calls Tryz.prog 20 #[.slice a fs0.length cap,.string ⟨path.toArray⟩,.string ⟨goal.toArray⟩,.slice ae ef.length ce,.int .i64 clock] W fun e W' =>MakeP fs0 path goal ef clock W e W' :=by
 have C1:Hid (∀w1,Below W.heap.size W w1→Calls Tryz.prog 11 #[.slice a fs0.length cap,.string ⟨path.toArray⟩,.string ⟨goal.toArray⟩] w1 fun e W' =>TextP (fs0.foldl Pl.addF []) path goal w1 e W'):=fun w1 hb=>compile_any hF a cap b o w1 ha (hr.below hb hbw) (Nat.lt_of_lt_of_le hbw hb.size) (hg.later hb)
 have C2:Hid (∀w1 (l:Pl.Bs),l.length≤8388608→Below W.heap.size W w1→Calls Tryz.prog 30 #[.string ⟨l.toArray⟩,.slice a fs0.length cap,.slice ae ef.length ce,.int .i64 clock] w1 fun e W' =>ARunPost l fs0 ef clock w1 e W'):=fun w1 l hl hb=>makerRun_any l hl fs0 ef S a ae cap b o ce L be oe clock w1 ha (hr.below hb hbw) (Nat.lt_of_lt_of_le hbw hb.size) hF.few (hE.tn (Tn.later (p:=fun _=>False) hb) hL (fun k e=>e.elim)) (Nat.le_trans hL hb.size) hfS hSp
 have HP:=hide hpl;clear ha hr hg hE hfS hSp hF hpl
 go_enter Tryz.func20,Tryz.ntmps20
 have hR0:=Row.new W 48 [.slice none 0 0,.slice none 0 0,.int .i64 0,.int .i64 0];have hs0:(W.alloc (.cells #[.slice none 0 0,.slice none 0 0,.int .i64 0,.int .i64 0] 48)).heap.size=W.heap.size+1:=World.size_alloc _ _;have hb0:Below W.heap.size W (W.alloc (.cells #[.slice none 0 0,.slice none 0 0,.int .i64 0,.int .i64 0] 48)):=(Below.refl _ _).alloc (Nat.le_refl _) _
 have HR0:=hide hR0;have HS0:=hide hs0;have HB0:=hide hb0;clear hR0 hs0 hb0
 go_wp2_with (first
  |(go_at_call 11;refine(uh C1 _ (uh HB0)).mono ?_;rintro e w1 ⟨r,hr1,rfl,hb1⟩;have HR1:=hide hr1;have HB1:=hide ((uh HB0).trans (hb1.mono (by rw[uh HS0];omega)));have hrow:=(uh HR0).below hb1 (by rw[uh HS0];omega);have r0:=hrow.cell 0 (by simp);have r1:=hrow.cell 1 (by simp);have r2:=hrow.cell 2 (by simp);have r3:=hrow.cell 3 (by simp);have f0:=hrow.frozen 0;have f1:=hrow.frozen 1;have f2:=hrow.frozen 2;have f3:=hrow.frozen 3;simp only[List.getElem_cons_zero,List.getElem_cons_succ] at r0 r1 r2 r3;have HW1:=hide hrow;have HSZ:Hid (W.heap.size<w1.heap.size):=hide hrow.lt;have HZ:Hid (((r.2.1:Int) !=0)=false→r.2.1=0):=hide (fun q=>(by have:=bne_eq_false_iff_eq.1 q;omega));have HNZ:Hid (((r.2.1:Int) !=0)=true→r.2.1≠0):=hide (fun q=>(by have:=bne_iff_ne.1 q;omega));clear hrow hr1 hb1 C1)
  |fail)
 ·rename_i hnz
  have hset:∀u0 u1 u2 u3,Below W.heap.size W ((((w1.setCell ⟨W.heap.size,0,none⟩ u0).setCell ⟨W.heap.size,1,none⟩ u1).setCell ⟨W.heap.size,2,none⟩ u2).setCell ⟨W.heap.size,3,none⟩ u3):=fun u0 u1 u2 u3=>((((uh HB1).setCell (p:=⟨W.heap.size,0,none⟩) (Nat.le_refl _) u0).setCell (p:=⟨W.heap.size,1,none⟩) (Nat.le_refl _) u1).setCell (p:=⟨W.heap.size,2,none⟩) (Nat.le_refl _) u2).setCell (p:=⟨W.heap.size,3,none⟩) (Nat.le_refl _) u3
  have hR:=((((uh HW1).set 0 (.slice none 0 0)).set 1 (.slice none 0 0)).set 2 (.int .i64 0)).set 3 (.int .i64 0);have o0:=hR.cell 0 (by simp);have o1:=hR.cell 1 (by simp);have o2:=hR.cell 2 (by simp);have o3:=hR.cell 3 (by simp);simp only[List.set_cons_zero,List.set_cons_succ,List.getElem_cons_zero,List.getElem_cons_succ] at o0 o1 o2 o3
  refine bodyPost_ret (v:= .tuple #[zRes,.int .i64 (r.2.1:Int),.int .i64 (r.2.2:Int)]) ?_ rfl ⟨hset _ _ _ _,r,uh HR1,.inl ⟨uh HNZ (by first|assumption|simpa using hnz),rfl⟩⟩;simp[results,Tryz.results20,go_sem,o0,o1,o2,o3,zRes]
 ·have hz:=uh HZ (by assumption)
  refine(uh C2 w1 r.1 (uh HP r (uh HR1) hz) (uh HB1)).mono ?_
  rintro e w2 ⟨hb2,hres⟩
  have hres:RunRes r.1 fs0 ef clock w1.heap.size e w2:=hres;obtain⟨a1,n1,c1,a2,n2,c2,ex,ck,er,rfl⟩:=hres.shape;have HRE:=hide hres;have HB2:=hide hb2;have hba:Below w2.heap.size w2 (w2.alloc (.cells #[.slice a1 n1 c1,.slice a2 n2 c2,.int .i64 ex,.int .i64 ck] 48)):=(Below.refl _ _).alloc (Nat.le_refl _) _;have hrow:=((uh HW1).later hb2).later hba
  have hr2:=Row.new w2 48 [.slice a1 n1 c1,.slice a2 n2 c2,.int .i64 ex,.int .i64 ck];have hlt:=((uh HW1).later hb2).lt;have r0:=hrow.cell 0 (by simp);have r1:=hrow.cell 1 (by simp);have r2:=hrow.cell 2 (by simp);have r3:=hrow.cell 3 (by simp);have f0:=hrow.frozen 0;have f1:=hrow.frozen 1;have f2:=hrow.frozen 2;have f3:=hrow.frozen 3;have p0:=hr2.cell 0 (by simp)
  have p1:=hr2.cell 1 (by simp);have p2:=hr2.cell 2 (by simp);have p3:=hr2.cell 3 (by simp);simp only[List.getElem_cons_zero,List.getElem_cons_succ] at r0 r1 r2 r3 p0 p1 p2 p3;have HW2:=hide hrow;have HBA:=hide hba;clear hres hb2 hrow HW1 hr2 hba
  go_upto_region 5 with fail
  generalize w2.alloc (.cells #[.slice a1 n1 c1,.slice a2 n2 c2,.int .i64 ex,.int .i64 ck] 48)=W3 at*
  go_wp2_with fail
  have hR:=((((uh HW2).set 0 (.slice a1 n1 c1)).set 1 (.slice a2 n2 c2)).set 2 (.int .i64 ex)).set 3 (.int .i64 ck);have o0:=hR.cell 0 (by simp);have o1:=hR.cell 1 (by simp);have o2:=hR.cell 2 (by simp);have o3:=hR.cell 3 (by simp);simp only[List.set_cons_zero,List.set_cons_succ,List.getElem_cons_zero,List.getElem_cons_succ] at o0 o1 o2 o3
  have hbw3:Below W.heap.size W W3:=((uh HB1).trans ((uh HB2).mono (uh HB1).size)).trans ((uh HBA).mono (by omega))
  have hset:Below W.heap.size W ((((W3.setCell ⟨W.heap.size,0,none⟩ (.slice a1 n1 c1)).setCell ⟨W.heap.size,1,none⟩ (.slice a2 n2 c2)).setCell ⟨W.heap.size,2,none⟩ (.int .i64 ex)).setCell ⟨W.heap.size,3,none⟩ (.int .i64 ck)):=(((hbw3.setCell (p:=⟨W.heap.size,0,none⟩) (Nat.le_refl _) _).setCell (p:=⟨W.heap.size,1,none⟩) (Nat.le_refl _) _).setCell (p:=⟨W.heap.size,2,none⟩) (Nat.le_refl _) _).setCell (p:=⟨W.heap.size,3,none⟩) (Nat.le_refl _) _
  have hre:=(((((uh HRE).later (uh HBA)).set (k:=0) (uh HSZ) (.slice a1 n1 c1)).set (k:=1) (uh HSZ) (.slice a2 n2 c2)).set (k:=2) (uh HSZ) (.int .i64 ex)).set (k:=3) (uh HSZ) (.int .i64 ck);refine bodyPost_ret (v:= .tuple #[.agg #[.slice a1 n1 c1,.slice a2 n2 c2,.int .i64 ex,.int .i64 ck],.int .i64 er,.int .i64 0]) ?_ rfl ⟨hset,r,uh HR1,.inr ⟨hz,_,er,rfl,hre.low (Nat.le_of_lt (uh HSZ))⟩⟩
  simp[results,Tryz.results20,go_sem,o0,o1,o2,o3]
end Go.Proofs.YtjelacjggijmfaaGreatDoor
namespace Go.Pl
open Go Go.RowKit
end Go.Pl
namespace Go.Proofs.YtjelacjggijmfaaGreatDoor
open Go.RowKit
theorem own_read {w:World} {B e size n:Nat} {v:Value} {xs:List Value} (h:w.ownsRow B e size v n xs):∃a cap b,v= .slice a n cap∧(0<n→a=some ⟨b,0,none⟩)∧(0<n→b<w.heap.size)∧∀i u,xs[i]?=some u→w.cell? ⟨b,i,none⟩=some u:=by
 rcases h.2 with⟨h1,h2⟩|⟨g,cap,cur,h1,h2,h3,h4,h5,h6,h7⟩
 ·refine⟨none,0,0,?_,fun h=>by omega,fun h=>by omega,fun i u hu=> ?_⟩
  ·rw[h1,h2]
  ·have:=h.1
   subst h2;simp only[Nat.zero_mul,List.length_eq_zero_iff] at this;subst this;simp at hu
 ·have hr:Row w g e cur.toList:=by unfold Row;simpa using h3
  refine⟨some ⟨g,0,none⟩,cap,g,h1,fun _=>rfl,fun _=>hr.lt,fun i u hu=>hr.cell? ?_⟩;rw[←h7,List.getElem?_take] at hu;split at hu
  ·exact hu
  ·cases hu
theorem Strs.rd {w:World} {B:Nat} {v:Value} {ss:List Pl.Bs} (h:Strs w B v ss):∃a cap b,v= .slice a ss.length cap∧(0<ss.length→a=some ⟨b,0,none⟩)∧(0<ss.length→b<w.heap.size)∧RdS w b 0 ss:=by
 obtain⟨a,cap,b,h1,h2,h3,h4⟩:=own_read h;exact⟨a,cap,b,h1,h2,h3,fun i hi=>h4 (0+i) _ (by simp[hi])⟩
theorem own_files {w:World} {B t:Nat} {v:Value} {fs:List Pl.File} (h:w.ownsRow B t 3 v fs.length (filesC fs)):∃a cap b,v= .slice a fs.length cap∧(0<fs.length→a=some ⟨b,0,none⟩)∧(0<fs.length→b<w.heap.size)∧RdF w b 0 fs:=by
 obtain⟨a,cap,b,h1,h2,h3,h4⟩:=own_read h;refine⟨a,cap,b,h1,h2,h3,fun i hi=> ?_⟩;obtain⟨k0,k1,k2⟩:=filesC_get fs i hi;rw[Nat.zero_add];exact⟨h4 _ _ k0,h4 _ _ k1,h4 _ _ k2⟩
end Go.Proofs.YtjelacjggijmfaaGreatDoor
namespace Go.Proofs.YtjelacjggijmfaaGreatDoor
open Go.RowKit Go.MapKept Go.ChangeMaps Go.Maps
theorem live_ok:FsOk liveF [82] [97]:=by
 refine⟨by decide,⟨100,by decide,fun p g h=> ?_⟩,by decide,fun f hf=> ?_,2,by decide,?_⟩
 ·have hm:g∈liveF:=List.mem_of_find?_eq_some h
  rw[List.mem_singleton.1 hm];decide
 ·have hm:f∈liveF:=hf
  rw[List.mem_singleton.1 hm];decide
 ·have e:liveF.foldl Pl.addF []=liveF:=rfl
  rw[e,live_book];intro _ r hr _ _ x hx;rw[(live_from hr).2] at hx;rw[List.mem_singleton.1 hx];decide
theorem live_run:doA [] (fOf liveX) liveX 0 ((fun _=>false),Pl.newW liveF 0)=⟨liveF,1,[[98]],0⟩:=by kernel_rfl
theorem live_make (b:Nat) (W:World) (hr:RdF W b 0 liveF) (hbw:b<W.heap.size) (hg:Glob W):
 Calls Tryz.prog 20 #[.slice (some ⟨b,0,none⟩) 1 1,.string ⟨#[82]⟩,.string ⟨#[97]⟩,.slice none 0 0,.int .i64 0] W fun e w' =>∃g c1 a2 n2 c2,e= .returned (.tuple #[.agg #[.slice (some ⟨g,0,none⟩) 1 c1,.slice a2 n2 c2,.int .i64 0,.int .i64 1],.int .i64 0,.int .i64 0])∧w'.cell? ⟨g,0,none⟩=some (.string ⟨#[98]⟩)∧g<w'.heap.size∧Below W.heap.size W w' :=by
 obtain⟨p,hp,hpl⟩:=live_plan;refine(make_any live_ok (fun r hr h0=> ?_) [] [[82]] (some ⟨b,0,none⟩) none 1 b 0 0 W.heap.size b 0 0 W (fun _=>rfl) hr hbw hg ⟨fun h=>by simp at h,⟨hbw,fun i hi=>by simp at hi⟩,by simp,by simp,by simp,by simp⟩ (Nat.le_refl _) (fun f hf=> ?_) (fun p hp=> ?_)).mono ?_
 ·obtain⟨q,h1,h2⟩:=live_text hr
  rw[hp] at h1;cases h1;rw[h2];exact Nat.le_trans hpl (by decide)
 ·rw[List.mem_singleton.1 hf];simp
 ·rw[List.mem_singleton.1 hp];decide
 ·rintro e w' ⟨hb,r,h1,h2⟩
  obtain⟨q,h3,h4⟩:=live_text h1;rw[hp] at h3;cases h3;subst h4
  rcases h2 with⟨h2,-⟩|⟨-,v,er,rfl,h2⟩
  ·exact absurd rfl h2
  ·obtain⟨T,c,k1,k2,k3⟩:=plan_is hp
   rcases h2 with⟨h2,-⟩|⟨ss,c',vc,vr,m1,-,m3,m4,m5⟩
   ·exact absurd k2 h2
   ·rw[k1] at m1
    cases m1;rw[k3 [] _ rfl,live_run] at m3 m4 m5;cases m3;obtain⟨g,c1,rfl,-,hg⟩:=owns_form m4 (by decide);obtain⟨a2,c2,rfl⟩:=own_sh m5;exact⟨g,c1,a2,_,c2,rfl,own_cell m4 0 (by decide),hg,hb⟩
theorem lives_any (w:World) (hg:Glob w):Calls Tryz.prog 26 #[] w fun e w' =>e= .returned (.bool true)∧Below w.heap.size w w' ∧0<w'.heap.size:=by
 have hR0:=Row.new w 65 [.string ⟨#[82]⟩,.string ⟨#[97,58,10,9,98]⟩,.int .i64 0];have hb0:Below w.heap.size w (w.alloc (.cells #[.string ⟨#[82]⟩,.string ⟨#[97,58,10,9,98]⟩,.int .i64 0] 65)):=(Below.refl _ _).alloc (Nat.le_refl _) _
 have hrd:RdF (w.alloc (.cells #[.string ⟨#[82]⟩,.string ⟨#[97,58,10,9,98]⟩,.int .i64 0] 65)) w.heap.size 0 liveF:=fun i hi=>by
  obtain rfl:i=0:=by simp[liveF] at hi;omega
  exact⟨hR0.cell 0 (by simp),hR0.cell 1 (by simp),hR0.cell 2 (by simp)⟩
 have C:=hide (live_make w.heap.size _ hrd hR0.lt (hg.later hb0));have HB0:=hide hb0;clear hR0 hrd hb0 hg
 go_enter Tryz.func26,Tryz.ntmps26
 go_wp2_with (first
  |(go_at_call 20;refine(uh C).mono ?_;rintro e w1 ⟨g,c1,a2,n2,c2,rfl,hc,hgl,hb1⟩;have HB1:=hide hb1;clear hb1)
  |fail)
 go_ret
 have hb:=(uh HB0).trans ((uh HB1).mono (uh HB0).size);exact⟨rfl,hb.alloc hb.size _,by rw[World.size_alloc];omega⟩
end Go.Proofs.YtjelacjggijmfaaGreatDoor
namespace Go.Proofs.YtjelacjggijmfaaGreatDoor
open Go.RowKit
def Res (cs:List Pl.Bs) (fl:List Pl.File) (a1 a2:Option Addr) (b1 b2:Nat) (w:World):Prop:=
 (0<cs.length→a1=some ⟨b1,0,none⟩)∧(0<fl.length→a2=some ⟨b2,0,none⟩)∧RdS w b1 0 cs∧RdF w b2 0 fl∧(0<cs.length→b1<w.heap.size)∧(0<fl.length→b2<w.heap.size)
theorem Res.later {cs:List Pl.Bs} {fl:List Pl.File} {a1 a2:Option Addr} {b1 b2:Nat} {w z:World} (h:Res cs fl a1 a2 b1 b2 w) (hb:Below w.heap.size w z):Res cs fl a1 a2 b1 b2 z:=by
 obtain⟨h1,h2,h3,h4,h5,h6⟩:=h;refine⟨h1,h2,?_,?_,fun q=>Nat.lt_of_lt_of_le (h5 q) hb.size,fun q=>Nat.lt_of_lt_of_le (h6 q) hb.size⟩
 ·by_cases q:0<cs.length
  ·exact h3.below hb (h5 q)
  ·exact fun i hi=>by omega
 ·by_cases q:0<fl.length
  ·exact h4.below hb (h6 q)
  ·exact fun i hi=>by omega
theorem own_ge {w:World} {B e size n cap b:Nat} {a:Option Addr} {xs:List Value} (h:w.ownsRow B e size (.slice a n cap) n xs) (h0:0<n) (ha:a=some ⟨b,0,none⟩):B≤b:=by
 obtain⟨g,c,e,hg,-⟩:=owns_form h h0;cases e;cases ha;exact hg
open Classical in
noncomputable def ovW (N:List Int) (g:Nat) (fs:List Pl.File) (goal:Pl.Bs):List Nat:=
 if h:∃ov r,TextR fs [82] goal r∧WebRun (JW N) (manyW N) g fs r ov then h.choose else []
theorem ovW_is {N:List Int} {fs:List Pl.File} {ck:Int} {B g:Nat} (hF:WFs N fs ck B) (hg:g<manyW N) {goal:Pl.Bs} (hgl:goalF (webS (JW N) (manyW N)) goal=Mk.nmB g) {r:Pl.Bs×Nat×Nat} (hr:TextR fs [82] goal r):WebRun (JW N) (manyW N) g fs r (ovW N g fs goal):=by
 obtain⟨f,h1,h2⟩:=hF.rl;obtain⟨ov,hov⟩:=web_text (wb_ok N) hg h1 h2 hgl hr;have hex:∃ov r,TextR fs [82] goal r∧WebRun (JW N) (manyW N) g fs r ov:=⟨ov,r,hr,hov⟩;unfold ovW;rw[dif_pos hex];obtain⟨r',h3,h4⟩:=hex.choose_spec;obtain rfl:=h3.det hr;exact h4
theorem WebRun.ovOk {N:List Int} {g:Nat} {fs:List Pl.File} {r:Pl.Bs×Nat×Nat} {ov:List Nat} (h:WebRun (JW N) (manyW N) g fs r ov):OvOk N g ov:=
 ⟨h.lt,h.all,h.nd,ah_pair h.nd h.ah,fun i hi j hj=>(h.all j).2 (.need ((h.all i).1 hi) hj)⟩
noncomputable def lsW (N:List Int) (ex:Nat→Int) (g:Nat) (fs:List Pl.File) (goal:Pl.Bs):List Nat:=upToW ex ((ovW N g fs goal).filter (stW N fs))
theorem doesW_len (N:List Int) (ex:Nat→Int):(doesW N ex).length=manyW N:=by unfold doesW;simp
theorem web_make {N:List Int} {fs:List Pl.File} {ck:Int} {B g:Nat} (hF:WFs N fs ck B) (hB:B≤1048576) (hck:0≤ck∧ck≤900000) (hg:g<manyW N) {goal:Pl.Bs} (hgl:goalF (webS (JW N) (manyW N)) goal=Mk.nmB g) (ex:Nat→Int) (a ae:Option Addr) (cap b o ce L be oe:Nat) (W:World)
 (ha:0<fs.length→a=some ⟨b,o,none⟩) (hr:RdF W b o fs) (hbw:b<W.heap.size) (hgb:Glob W) (hE:RdE W L be oe (doesW N ex)) (hL:L≤W.heap.size) (hae:ae=some ⟨be,oe,none⟩):
 Calls Tryz.prog 20 #[.slice a fs.length cap,.string ⟨#[82]⟩,.string ⟨goal.toArray⟩,.slice ae (manyW N) ce,.int .i64 ck] W fun e w' =>OvOk N g (ovW N g fs goal)∧∃a1 c1 b1 a2 c2 b2,e= .returned (.tuple #[.agg #[.slice a1 ((lsW N ex g fs goal).map wNm).length c1,.slice a2 (Pl.sortF (mkF madeB (lsW N ex g fs goal) ck fs)).length c2,.int .i64 (lastEx ex ((ovW N g fs goal).filter (stW N fs))),.int .i64 (ck+(lsW N ex g fs goal).length)],.int .i64 0,.int .i64 0])∧Res ((lsW N ex g fs goal).map wNm) (Pl.sortF (mkF madeB (lsW N ex g fs goal) ck fs)) a1 a2 b1 b2 w' ∧((0<((lsW N ex g fs goal).map wNm).length→W.heap.size≤b1)∧(0<(Pl.sortF (mkF madeB (lsW N ex g fs goal) ck fs)).length→W.heap.size≤b2))∧Below W.heap.size W w' :=by
 have hs:sumF fs≤1048576:=Nat.le_trans hF.sz hB;have hadd:fs.foldl Pl.addF []=fs:=adds_id fs [] (by rw[List.nil_append];exact hF.uq);have hm:=many_le N;have hfl:=sumF_len fs;have hSl:(fs.map (·.path)++(List.range (manyW N)).map Mk.nmB).length≤8388608:=by simp only[List.length_append,List.length_map,List.length_range];omega
 have hw:∀e∈doesW N ex,e.writes.length=1∧∀f∈e.writes,f.path∈fs.map (·.path)++(List.range (manyW N)).map Mk.nmB:=fun e he=>by
  unfold doesW at he;obtain⟨i,hi,rfl⟩:=List.mem_map.1 he;refine⟨rfl,fun f hf=> ?_⟩;rw[List.mem_singleton.1 hf];exact List.mem_append_right _ (List.mem_map.2 ⟨i,hi,rfl⟩)
 have C:=make_any (fsOk hs [82] goal) (fun r h h0=>text_len h h0 (nm_all hs [82] goal)) (doesW N ex) (fs.map (·.path)++(List.range (manyW N)).map Mk.nmB) a ae cap b o ce L be oe ck W ha hr hbw hgb
  ⟨fun _=>hae,hE,fun e he=>(hw e he).2,by rw[doesW_len];omega,fun e he=>by rw[(hw e he).1];omega,hSl⟩ hL (fun f hf=>List.mem_append_left _ (List.mem_map.2 ⟨f,hf,rfl⟩)) (fun p hp=>by
   unfold maxLen
   rcases List.mem_append.1 hp with h|h
   ·obtain⟨f,hf,rfl⟩:=List.mem_map.1 h
    have:=sumF_mem hf;omega
   ·obtain⟨i,-,rfl⟩:=List.mem_map.1 h
    rw[nmB_len];omega)
 rw[doesW_len] at C;refine C.mono ?_
 rintro e w' ⟨hb,r,h1,h2⟩
 rw[hadd] at h1;have hR:=ovW_is hF hg hgl h1;have hO:=hR.ovOk;refine⟨hO,?_⟩;have hlen:(ovW N g fs goal).length≤manyW N:=few_all hO.nd hO.lt
 have hdo:=web_do (wb_ok N) (stl_is (wb_ok N) (tmF fs)) hF.web (doesW_web N ex) (ovW N g fs goal) [] [] (Pl.newW fs ck) ⟨rfl,fun j hj=>(by cases hj),fun j hj=>(by cases hj),fun n hn=>(by cases hn),fun i _ _=>(by show Pl.look (fs.foldl Pl.addF []) _=_;rw[hadd])⟩ hR.lt (by rw[List.nil_append];exact hR.nd) (fun a ha j hj=> .inr (hR.ah a ha j hj)) hck.1 (by show ck+_≤_;omega)
 have hnf:(Pl.newW fs ck).files=fs:=hadd;have hnc:(Pl.newW fs ck).clock=ck:=rfl;have hnm:(Pl.newW fs ck).cmds=[]:=rfl;rw[hnf,hnc,hnm,List.nil_append] at hdo;obtain⟨hck1,T,c,k1,k2⟩:=hR.run
 rcases h2 with⟨h2,-⟩|⟨-,v,er,rfl,h2⟩
 ·exact absurd hR.ok.1 h2
 ·rcases h2 with⟨h2,-⟩|⟨ss,c',vc,vr,m1,-,m3,m4,m5⟩
  ·exact absurd hck1 h2
  ·rw[k1] at m1
   cases m1;rw[k2 _ _ rfl,hdo] at m3 m4 m5;cases m3;obtain⟨a1,c1,b1,rfl,x1,x2,x3⟩:=Strs.rd m4;obtain⟨a2,c2,b2,rfl,y1,y2,y3⟩:=own_files m5;exact⟨a1,c1,b1,a2,c2,b2,rfl,⟨x1,y1,x3,y3,x2,y2⟩,⟨fun q=>own_ge m4 q (x1 q),fun q=>own_ge m5 q (y1 q)⟩,hb⟩
theorem Tryz.infoBl:(Tryz.prog.info? 4).map (fun i=>(i.zero,i.size,i.bytes))=some (some (.bool false),1,1):=by kernel_rfl
def BlR (w:World) (b m:Nat) (R:Nat→Bool):Prop:=Row w b 4 ((List.range m).map fun x=>Value.bool (R x))
section
variable {w w' :World} {b m:Nat} {R:Nat→Bool}
theorem BlR.cell (h:BlR w b m R) (i:Nat) (hi:i<m):w.cell? ⟨b,i,none⟩=some (.bool (R i)):=by
 have:=Row.cell h i (by simpa using hi)
 simpa using this
theorem BlR.set (h:BlR w b m R) (i:Nat) (v:Bool):BlR (w.setCell ⟨b,i,none⟩ (.bool v)) b m (updB R i v):=by
 have h1:=Row.set h i (.bool v)
 have e:((List.range m).map fun x=>Value.bool (R x)).set i (.bool v)=(List.range m).map fun x=>Value.bool (updB R i v x):=by
  apply List.ext_getElem
  ·simp
  ·intro n h1 h2
   rw[List.getElem_set];simp only[List.getElem_map,List.getElem_range]
   by_cases q:i=n
   ·rw[if_pos q,q,updB_at]
   ·rw[if_neg q,updB_ne _ _ (fun e=>q e.symm)]
 rw[e] at h1;exact h1
theorem BlR.later (h:BlR w b m R) (hb:Below w.heap.size w w'):BlR w' b m R:=Row.later h hb
theorem BlR.made (w:World) (m:Nat):BlR (w.alloc (.cells (madeCells #[.bool false] m) 4)) w.heap.size m (fun _=>false):=by
 have:=Row.made w 4 (.bool false) m;unfold BlR;rw[show ((List.range m).map fun _=>Value.bool false)=List.replicate m (.bool false) by rw[List.map_const',List.length_range]];exact this
end
structure BlO (W0 w:World) (b m:Nat) (R:Nat→Bool):Prop where
 below:Below W0.heap.size W0 w
 row:BlR w b m R
 ge:W0.heap.size≤b
section
variable {W0 w w' :World} {b m:Nat} {R:Nat→Bool}
theorem BlO.later (h:BlO W0 w b m R) (hb:Below w.heap.size w w'):BlO W0 w' b m R:=⟨h.below.trans (hb.mono h.below.size),h.row.later hb,h.ge⟩
theorem BlO.set (h:BlO W0 w b m R) (i:Nat) (v:Bool):BlO W0 (w.setCell ⟨b,i,none⟩ (.bool v)) b m (updB R i v):=⟨h.below.setCell (p:=⟨b,i,none⟩) h.ge _,h.row.set i v,h.ge⟩
end
theorem reached_any {N T:List Int} {v:Value} {W:World} (h:WbM W v N T) (g:Nat) (hg:g<manyW N):Calls Tryz.prog 36 #[v,.int .i64 (g:Int)] W fun e w' =>∃b R,e= .returned (.slice (some ⟨b,0,none⟩) (manyW N) (manyW N))∧BlR w' b (manyW N) R∧(∀x,R x=true↔Rch (JW N) g x)∧Below W.heap.size W w' :=by
 have h' :=h;obtain⟨⟨an,cn,bn,on,at',ct,bt,ot,rfl,-,-⟩,-,-,-,-⟩:=h';have hb0:Below W.heap.size W (W.alloc (.cells #[.slice an N.length cn,.slice at' T.length ct] 76)):=(Below.refl _ _).alloc (Nat.le_refl _) _;have hR:=Row.new W 76 [.slice an N.length cn,.slice at' T.length ct]
 have hs0:(W.alloc (.cells #[.slice an N.length cn,.slice at' T.length ct] 76)).heap.size=W.heap.size+1:=World.size_alloc _ _;generalize hW0:W.alloc (.cells #[.slice an N.length cn,.slice at' T.length ct] 76)=W0 at*;have hbw:∀w',Below W0.heap.size W0 w' →Below W.heap.size W w' :=fun w' hb=>hb0.trans (hb.mono (by omega))
 have CM:Hid (∀w',Below W0.heap.size W0 w' →Calls Tryz.prog 32 #[.agg #[.slice an N.length cn,.slice at' T.length ct]] w' fun e w2=>e= .returned (.int .i64 (manyW N:Int))∧Below w'.heap.size w' w2):=fun w' hb=>many_any (h.later (hbw w' hb))
 have CN:Hid (∀w' (i j:Nat),i<12→j<12→Below W0.heap.size W0 w' →Calls Tryz.prog 39 #[.agg #[.slice an N.length cn,.slice at' T.length ct],.int .i64 (i:Int),.int .i64 (j:Int)] w' fun e w2=>e= .returned (.bool (needW N i j))∧Below w'.heap.size w' w2):=fun w' i j hi hj hb=>needs_any (h.later (hbw w' hb)) i j hi hj
 have hm:=many_le N;have HC:Hid (∀w',Below W0.heap.size W0 w' →w'.cell? ⟨W.heap.size,0,none⟩=some (.slice an N.length cn)∧w'.cell? ⟨W.heap.size,1,none⟩=some (.slice at' T.length ct)):=fun w' hb=>⟨(hR.later hb).cell 0 (by simp),(hR.later hb).cell 1 (by simp)⟩
 have HBW:=hide hbw;have H0:=hide (Below.refl W0.heap.size W0);obtain⟨c0,c1⟩:=uh HC W0 (uh H0)
 have hmb:∀w,(Instr.makeSlice 82 (.int .i64 (manyW N:Int)) (.int .i64 (manyW N:Int))).run Tryz.prog w= .ok (.slice (some ⟨w.heap.size,0,none⟩) (manyW N) (manyW N)) (w.alloc (.cells (madeCells #[.bool false] (manyW N)) 4)):=
  run_make_row' (P:=Tryz.prog) 82 4 (.bool false) 1 Tryz.underlying82 Tryz.infoBl rfl .i64 .i64 (manyW N) (by omega) (by omega)
 have hgi:(g:Int)<(manyW N:Int):=by omega
 clear hR hb0 hs0 hbw h
 go_enter Tryz.func36,Tryz.ntmps36
 go_wp2_with (first
  |(go_at_call 32;refine(uh CM _ (uh H0)).mono ?_;rintro e w1 ⟨rfl,hb1⟩;have HB1:=hide hb1;have k0:=(BlR.made w1 (manyW N)).cell g hg;have k1:=(BlR.made w1 (manyW N)).frozen g;clear hb1)
  |fail)
 have HO:Hid (BlO W0 ((w1.alloc (.cells (madeCells #[.bool false] (manyW N)) 4)).setCell ⟨w1.heap.size,g,none⟩ (.bool true)) w1.heap.size (manyW N) (updB (fun _=>false) g true)):=BlO.set ⟨(uh HB1).alloc (uh HB1).size _,BlR.made w1 (manyW N),(uh HB1).size⟩ g true;rw[World.setCell_alloc_new] at HO
 generalize w1.alloc (.cells ((madeCells #[.bool false] (manyW N)).setIfInBounds g (.bool true)) 4)=W2 at*;generalize w1.heap.size=B at*;have HS:=hide (RcI.start N g);clear hW0 HB1 H0 c0 c1 hmb k0 k1
 go_loopw [6] (fun iv wr=>∃(i:Nat) (R:Nat→Bool),iv= .int .i64 i∧i≤manyW N∧Hid (RcI N g i (i+1) R)∧Hid (BlO W0 wr B (manyW N) R)) (fun iv _=>manyW N-intN iv)
 case atStart=>exact⟨g,_,rfl,by omega,HS,HO⟩
 case round=>
  clear HS HO;obtain⟨i,R,rfl,hi,HS,HO⟩:=hrel;obtain⟨c0,c1⟩:=uh HC _ (uh HO).below
  by_cases hk:i<manyW N
  ·have t1:(i:Int)<(manyW N:Int):=by omega
   go_wp2_with (first
    |(go_at_call 32;refine(uh CM _ (uh HO).below).mono ?_;rintro e w2 ⟨rfl,hb2⟩;have HO2:=hide ((uh HO).later hb2);clear HO;have HO:=HO2;clear HO2 hb2 c0 c1)
    |fail)
   go_loopw [7] (fun jv wr=>∃(j:Nat) (R:Nat→Bool),jv= .int .i64 j∧i<j∧j≤manyW N∧Hid (RcI N g i j R)∧Hid (BlO W0 wr B (manyW N) R)) (fun jv _=>manyW N-intN jv)
   case atStart=>exact⟨i+1,R,by go_num,by omega,by omega,HS,HO⟩
   case round=>
    clear HS HO;obtain⟨j,R,rfl,hij,hj,HS,HO⟩:=hrel;obtain⟨c0,c1⟩:=uh HC _ (uh HO).below
    by_cases hk2:j<manyW N
    ·have t2:(j:Int)<(manyW N:Int):=by omega
     by_cases hy:R i=true∧needW N i j=true
     ·have HS2:=hide ((uh HS).yes hij hk2 hy.1 hy.2)
      obtain⟨hr,hn⟩:=hy;clear HS
      go_wp2_with (first
       |(go_at_call 32;refine(uh CM _ (uh HO).below).mono ?_;rintro e w2 ⟨rfl,hb2⟩;have HO2:=hide ((uh HO).later hb2);clear HO c0 c1;have HO:=HO2;clear HO2 hb2;obtain⟨c0,c1⟩:=uh HC _ (uh HO).below)
       |(go_at_call 39;refine(uh CN _ i j (by omega) (by omega) (uh HO).below).mono ?_;rintro e w3 ⟨rfl,hb3⟩;rw[hn];have HO3:=hide ((uh HO).later hb3);clear HO c0 c1;have HO:=HO3;clear HO3 hb3;have d0:=(uh HO).row.cell i hk;rw[hr] at d0;have d1:=(uh HO).row.cell j hk2;have d2:=(uh HO).row.frozen j)
       |fail)
      go_roundw
      case rel=>exact⟨j+1,_,by go_num,by omega,by omega,HS2,(uh HO).set j true⟩
      case measure=>simp only[intN];omega
     ·have hno:(R i&&needW N i j)=false:=by
       cases hr:R i with
       |false=>rfl
       |true=>
        cases hn:needW N i j with
        |false=>rfl
        |true=>exact absurd ⟨hr,hn⟩ hy
      have HS2:=hide ((uh HS).no hk2 hno);clear HS hy;cases hr:R i with
      |false=>
       clear hno
       go_wp2_with (first
        |(go_at_call 32;refine(uh CM _ (uh HO).below).mono ?_;rintro e w2 ⟨rfl,hb2⟩;have HO2:=hide ((uh HO).later hb2);clear HO c0 c1;have HO:=HO2;clear HO2 hb2;obtain⟨c0,c1⟩:=uh HC _ (uh HO).below)
        |(go_at_call 39;refine(uh CN _ i j (by omega) (by omega) (uh HO).below).mono ?_;rintro e w3 ⟨rfl,hb3⟩;have HO3:=hide ((uh HO).later hb3);clear HO c0 c1;have HO:=HO3;clear HO3 hb3;have d0:=(uh HO).row.cell i hk;rw[hr] at d0)
        |fail)
       go_roundw
       case rel=>exact⟨j+1,_,by go_num,by omega,by omega,HS2,HO⟩
       case measure=>simp only[intN];omega
      |true=>
       have hn:needW N i j=false:=by rw[hr,Bool.true_and] at hno;exact hno
       clear hno
       go_wp2_with (first
        |(go_at_call 32;refine(uh CM _ (uh HO).below).mono ?_;rintro e w2 ⟨rfl,hb2⟩;have HO2:=hide ((uh HO).later hb2);clear HO c0 c1;have HO:=HO2;clear HO2 hb2;obtain⟨c0,c1⟩:=uh HC _ (uh HO).below)
        |(go_at_call 39;refine(uh CN _ i j (by omega) (by omega) (uh HO).below).mono ?_;rintro e w3 ⟨rfl,hb3⟩;rw[hn];have HO3:=hide ((uh HO).later hb3);clear HO c0 c1;have HO:=HO3;clear HO3 hb3;have d0:=(uh HO).row.cell i hk;rw[hr] at d0)
        |fail)
       go_roundw
       case rel=>exact⟨j+1,_,by go_num,by omega,by omega,HS2,HO⟩
       case measure=>simp only[intN];omega
    ·have t2:¬(j:Int)<(manyW N:Int):=by omega
     have hje:j=manyW N:=by omega
     have HS2:Hid (RcI N g (i+1) (i+2) R):=hide (RcI.next (hje▸uh HS));clear HS hje
     go_wp2_with (first
      |(go_at_call 32;refine(uh CM _ (uh HO).below).mono ?_;rintro e w2 ⟨rfl,hb2⟩;have HO2:=hide ((uh HO).later hb2);clear HO c0 c1;have HO:=HO2;clear HO2 hb2)
      |fail)
     go_roundw
     case rel=>exact⟨i+1,R,by go_num,by omega,HS2,HO⟩
     case measure=>simp only[intN];omega
  ·have t1:¬(i:Int)<(manyW N:Int):=by omega
   have hie:i=manyW N:=by omega
   have HS2:Hid (∀x,R x=true↔Rch (JW N) g x):=hide (RcI.all (hie▸uh HS) hg);clear HS hie
   go_wp2_with (first
    |(go_at_call 32;refine(uh CM _ (uh HO).below).mono ?_;rintro e w2 ⟨rfl,hb2⟩;have HO2:=hide ((uh HO).later hb2);clear HO c0 c1;have HO:=HO2;clear HO2 hb2)
    |fail)
   go_ret
   exact⟨B,R,rfl,(uh HO).row,uh HS2,uh HBW _ (uh HO).below⟩
end Go.Proofs.YtjelacjggijmfaaGreatDoor
