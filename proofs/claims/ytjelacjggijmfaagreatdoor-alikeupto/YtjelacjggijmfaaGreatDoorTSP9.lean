/-
  The program's machine: its stack; a command is given.
-/
import Derived.Test.YtjelacjggijmfaaGreatDoorTSS2
import Derived.Test.YtjelacjggijmfaaGreatDoorTMS
import Derived.Test.YtjelacjggijmfaaGreatDoorTSR5
import Derived.Test.YtjelacjggijmfaaGreatDoorTWP3
import Derived.Test.YtjelacjggijmfaaGreatDoorTRF8
import Derived.Test.YtjelacjggijmfaaGreatDoorTPure
import Derived.LoopN
import Derived.IntWalk
import Derived.Maps.AppendAt
set_option maxHeartbeats 2000000
set_option maxRecDepth 100000
namespace Go.Proofs.YtjelacjggijmfaaGreatDoor
open Go.RowKit Go.Shelf
theorem sound_any (a:Option Addr) (m cap:Nat) (s:ByteArray) (w:World) (hs:s.size≤8388608):
 Calls Tryz.prog 81 #[.agg #[.slice a m cap,.string s]] w fun e w' =>(∃r:Bool,e= .returned (.bool r)∧(r=true↔Pl.Spec s.data.toList m 0 0 (fun _=>none)))∧Below w.heap.size w w' :=
 callsIn_wide.1 (sound_in a m cap s w hs)
theorem load_len {s:Pl.Bs} {ss:List Pl.Bs} {c:Pl.Bs} (h:Pl.load s=some (ss,c)):c.length≤s.length∧ss.length≤1000:=by
 unfold Pl.load at h;split at h
 ·rename_i h4
  have:=Pl.strs_len _ _ _ h;simp only[List.length_drop] at this;omega
 ·cases h
structure ReadPost (s:Pl.Bs) (w:World) (e:Ending) (w' :World):Prop where
 res:(¬Pl.checkOf s∧e= .returned (.tuple #[.agg #[.slice none 0 0,.string ⟨#[]⟩],.int .i64 9]))∨
  ∃ss c b,Pl.load s=some (ss,c)∧Pl.Spec c ss.length 0 0 (fun _=>none)∧e= .returned (.tuple #[.agg #[.slice (some ⟨b,0,none⟩) ss.length ss.length,.string ⟨c.toArray⟩],.int .i64 0])∧Row w' b 9 (ss.map strV)∧w.heap.size≤b
 below:Below w.heap.size w w'
theorem read_any (l:List UInt8) (w:World) (hl:l.length≤8388608):
 Calls Tryz.prog 59 #[.string ⟨l.toArray⟩] w fun e w' =>ReadPost l w e w' :=by
 have C:=hide (fun w=>split_any l w hl);have HL:=hide hl;clear hl
 go_enter Tryz.func59,Tryz.ntmps59
 go_wp2_with fail
 refine(uh C _).mono ?_
 rintro e w1 ⟨⟨hn,rfl⟩|⟨ss,c,b,hld,rfl,hrow,hle⟩,hb1⟩
 ·have HN:Hid (¬Pl.checkOf l):=by
   rintro⟨x,hx,_⟩
   rw[hn] at hx;cases hx
  have hr0:Row w1 w.heap.size 120 [.slice none 0 0,.string ⟨#[]⟩]:=(Row.new w 120 [.slice none 0 0,.string ⟨#[]⟩]).later hb1;have hb0:=(Below.refl _ w).alloc (Nat.le_refl _) (.cells #[.slice none 0 0,.string ⟨#[]⟩] 120);have HB:=hide (hb0.trans (hb1.mono hb0.size));have c0:=hr0.cell 0 (by simp);have c1:=hr0.cell 1 (by simp);have f0:=hr0.frozen 0;have f1:=hr0.frozen 1
  have hlt:=hr0.lt;simp only[List.getElem_cons_zero,List.getElem_cons_succ] at c0 c1;have HR:=hide hr0;clear hb0 hb1 hr0 hn C
  go_wp2_with fail
  have hr1:=(((uh HR).set 0 (.slice none 0 0)).set 1 (.string ⟨#[]⟩)).alloc (.cells #[.slice none 0 0,.string ⟨#[]⟩] 120);have p0:=hr1.cell 0 (by simp);have p1:=hr1.cell 1 (by simp);simp only[List.set_cons_zero,List.set_cons_succ,List.getElem_cons_zero,List.getElem_cons_succ] at p0 p1
  refine bodyPost_ret (v:= .tuple #[.agg #[.slice none 0 0,.string ⟨#[]⟩],.int .i64 9]) ?_ rfl ⟨.inl ⟨uh HN,rfl⟩,(((uh HB).setCell (p:=⟨w.heap.size,0,none⟩) (Nat.le_refl _) _).setCell (p:=⟨w.heap.size,1,none⟩) (Nat.le_refl _) _).alloc (by simp[World.setCell];omega) _⟩;simp[results,Tryz.results59,go_sem,p0,p1]
 ·have hll:=load_len hld
  have hsz:(⟨c.toArray⟩:ByteArray).size≤8388608:=by rw[size_mk];have:=uh HL;omega
  have CS:=hide (fun w=>sound_any (some ⟨b,0,none⟩) ss.length ss.length ⟨c.toArray⟩ w hsz);rw[mk_list] at CS;have hr0:Row w1 w.heap.size 120 [.slice none 0 0,.string ⟨#[]⟩]:=(Row.new w 120 [.slice none 0 0,.string ⟨#[]⟩]).later hb1;have hb0:=(Below.refl _ w).alloc (Nat.le_refl _) (.cells #[.slice none 0 0,.string ⟨#[]⟩] 120);have HB:=hide (hb0.trans (hb1.mono hb0.size))
  have HR:=hide hr0;have HRow:=hide hrow;have HLD:=hide hld;have hlt:=hr0.lt;clear hb0 hb1 hr0 hrow hld hsz C
  go_wp2_with fail
  refine(uh CS _).mono ?_
  rintro e w2 ⟨⟨r,rfl,hr⟩,hb2⟩
  have hR1:=((uh HR).alloc (.cells #[.slice (some ⟨b,0,none⟩) ss.length ss.length,.string ⟨c.toArray⟩] 120)).later hb2;have hP1:=(Row.new w1 120 [.slice (some ⟨b,0,none⟩) ss.length ss.length,.string ⟨c.toArray⟩]).later hb2;have hS1:=((uh HRow).alloc (.cells #[.slice (some ⟨b,0,none⟩) ss.length ss.length,.string ⟨c.toArray⟩] 120)).later hb2
  have hB1:=(uh HB).alloc (by omega) (.cells #[.slice (some ⟨b,0,none⟩) ss.length ss.length,.string ⟨c.toArray⟩] 120);have HB2:=hide (hB1.trans (hb2.mono hB1.size));have c0:=hR1.cell 0 (by simp);have c1:=hR1.cell 1 (by simp);have f0:=hR1.frozen 0;have f1:=hR1.frozen 1;have q0:=hP1.cell 0 (by simp);have q1:=hP1.cell 1 (by simp)
  simp only[List.getElem_cons_zero,List.getElem_cons_succ] at c0 c1 q0 q1;have hbn:w.heap.size<b:=by rw[World.size_alloc] at hle;omega
  have HR1:=hide hR1;have HS1:=hide hS1;clear hR1 hP1 hS1 hB1 hb2 CS hle;cases r with
  |false=>
   have HN:Hid (¬Pl.checkOf l):=by
    rintro⟨x,hx,hsp⟩
    rw[uh HLD] at hx;cases hx;have:=hr.2 hsp;cases this
   clear hr
   go_wp2_with fail
   have hr1:=((uh HR1).set 0 (.slice none 0 0)).set 1 (.string ⟨#[]⟩);have p0:=hr1.cell 0 (by simp);have p1:=hr1.cell 1 (by simp);simp only[List.set_cons_zero,List.set_cons_succ,List.getElem_cons_zero,List.getElem_cons_succ] at p0 p1
   refine bodyPost_ret (v:= .tuple #[.agg #[.slice none 0 0,.string ⟨#[]⟩],.int .i64 9]) ?_ rfl ⟨.inl ⟨uh HN,rfl⟩,((uh HB2).setCell (p:=⟨w.heap.size,0,none⟩) (Nat.le_refl _) _).setCell (p:=⟨w.heap.size,1,none⟩) (Nat.le_refl _) _⟩;simp[results,Tryz.results59,go_sem,p0,p1]
  |true=>
   have HSP:=hide (hr.1 rfl);clear hr
   go_wp2_with fail
   have hr1:=((uh HR1).set 0 (.slice (some ⟨b,0,none⟩) ss.length ss.length)).set 1 (.string ⟨c.toArray⟩);have p0:=hr1.cell 0 (by simp);have p1:=hr1.cell 1 (by simp);simp only[List.set_cons_zero,List.set_cons_succ,List.getElem_cons_zero,List.getElem_cons_succ] at p0 p1
   refine bodyPost_ret (v:= .tuple #[.agg #[.slice (some ⟨b,0,none⟩) ss.length ss.length,.string ⟨c.toArray⟩],.int .i64 0]) ?_ rfl
    ⟨.inr ⟨ss,c,b,uh HLD,uh HSP,rfl,((uh HS1).other (by omega) _ _).other (by omega) _ _,by omega⟩,((uh HB2).setCell (p:=⟨w.heap.size,0,none⟩) (Nat.le_refl _) _).setCell (p:=⟨w.heap.size,1,none⟩) (Nat.le_refl _) _⟩
   simp[results,Tryz.results59,go_sem,p0,p1]
end Go.Proofs.YtjelacjggijmfaaGreatDoor
namespace Go.Proofs.YtjelacjggijmfaaGreatDoor
open Go.RowKit
def zRes:Value:= .agg #[.slice none 0 0,.slice none 0 0,.int .i64 0,.int .i64 0]
theorem Fit.adds {S:List Pl.Bs}:∀(ws:List Pl.File) {fs:List Pl.File},Fit S fs→(∀f∈ws,f.path∈S)→Fit S (ws.foldl Pl.addF fs)
 |[],_,h,_=>h
 |f::r,fs,h,hs=>by
  rw[List.foldl_cons];exact Fit.adds r (h.add (hs f (by simp))) (fun g hg=>hs g (by simp[hg]))
theorem own_mono {w:World} {B B' e size n:Nat} {v:Value} {xs:List Value} (h:w.ownsRow B e size v n xs) (hB:B' ≤B):w.ownsRow B' e size v n xs:=by
 refine⟨h.1,?_⟩
 rcases h.2 with h1|⟨g,cap,cur,h1,h2,h3⟩
 ·exact .inl h1
 ·exact .inr ⟨g,cap,cur,h1,by omega,h3⟩
theorem own_shape {w:World} {B e size n:Nat} {v:Value} {xs:List Value} (h:w.ownsRow B e size v n xs):∃a cap,v= .slice a n cap:=by
 rcases h.2 with⟨h1,h2⟩|⟨g,cap,cur,h1,_⟩
 ·exact⟨none,0,by rw[h1,h2]⟩
 ·exact⟨_,cap,h1⟩
theorem own_cell {w:World} {B e n g cap:Nat} {xs:List Value} (h:w.ownsRow B e 1 (.slice (some ⟨g,0,none⟩) n cap) n xs) (i:Nat) (hi:i<xs.length):w.cell? ⟨g,i,none⟩=some xs[i]:=by
 have hl:=h.1
 rcases h.2 with⟨h1,_⟩|⟨g',cap',cur,h1,h2,h3,h4,h5,h6,h7⟩
 ·cases h1
 ·cases h1
  have hs:cur[i]?=some xs[i]:=by
   have:(cur.toList.take (n*1))[i]?=some xs[i]:=by rw[h7];simp[hi]
   rw[List.getElem?_take_of_lt (by omega)] at this
   simpa using this
  simp[World.cell?,h3,hs]
theorem wrap_small {x:Int} (h0:0≤x) (h1:x≤4611686018427387904):IntKind.i64.wrap x=x:=by
 simp[IntKind.wrap,IntKind.bits,IntKind.signed];omega
theorem addr_add0 (g j:Nat):(⟨g,0,none⟩:Addr).add j=⟨g,j,none⟩:=by unfold Addr.add;split<;>simp_all
theorem own_cap {w:World} {B e n g cap:Nat} {xs:List Value} (h:w.ownsRow B e 1 (.slice (some ⟨g,0,none⟩) n cap) n xs):n≤cap:=by
 rcases h.2 with⟨h1,_⟩|⟨g',cap',cur,h1,h2,h3,h4,h5,h6,h7⟩
 ·cases h1
 ·cases h1;omega
end Go.Proofs.YtjelacjggijmfaaGreatDoor
namespace Go.Proofs.YtjelacjggijmfaaGreatDoor
open Go.RowKit Go.MapKept Go.ChangeMaps Go.Maps
def mCells (bx:Nat) (ap:Option Addr) (n cp:Nat) (vs:Value) (fl:Nat→Bool) (go:Nat) (vg:Value) (ex:Int):List Value:=
 .pointer (some ⟨bx,0,none⟩):: .slice ap n cp::vs::((List.range 256).map (fun i=> .bool (fl i))++[.int .i64 go,vg,.int .i64 ex])
section
variable {bx:Nat} {ap:Option Addr} {n cp:Nat} {vs:Value} {fl:Nat→Bool} {go:Nat} {vg:Value} {ex:Int}
theorem mCells_flag (i:Nat) (hi:i<256):(mCells bx ap n cp vs fl go vg ex)[3+i]?=some (.bool (fl i)):=by
 rw[show 3+i=i+1+1+1 by omega];unfold mCells;simp only[List.getElem?_cons_succ];rw[List.getElem?_append_left (by simpa using hi)];simp[hi]
theorem mCells_tail (k:Nat):(mCells bx ap n cp vs fl go vg ex)[259+k]?=[.int .i64 go,vg,.int .i64 ex][k]?:=by
 rw[show 259+k=256+k+1+1+1 by omega];unfold mCells;simp only[List.getElem?_cons_succ];rw[List.getElem?_append_right (by simp)];simp
theorem mCells_set2 (v:Value):(mCells bx ap n cp vs fl go vg ex).set 2 v=mCells bx ap n cp v fl go vg ex:=rfl
theorem mCells_setF (i:Nat) (hi:i<256):(mCells bx ap n cp vs fl go vg ex).set (3+i) (.bool true)=mCells bx ap n cp vs (fset fl i) go vg ex:=by
 rw[show 3+i=i+1+1+1 by omega];unfold mCells;simp only[List.set_cons_succ];rw[List.set_append_left _ _ (by simpa using hi)]
 congr 4
 apply List.ext_getElem
 ·simp
 ·intro j h1 h2
  rw[List.getElem_set,List.getElem_map,List.getElem_map,List.getElem_range];unfold fset
  by_cases e:i=j
  ·subst e;simp
  ·rw[if_neg e,if_neg (fun h:j=i=>e h.symm)]
theorem mCells_setT (k:Nat) (v:Value):(mCells bx ap n cp vs fl go vg ex).set (259+k) v= .pointer (some ⟨bx,0,none⟩):: .slice ap n cp::vs::((List.range 256).map (fun i=> .bool (fl i))++[.int .i64 go,vg,.int .i64 ex].set k v):=by
 rw[show 259+k=256+k+1+1+1 by omega];unfold mCells;simp only[List.set_cons_succ];rw[List.set_append_right _ _ (by simp)];simp
theorem mCells_setGo (g:Nat):(mCells bx ap n cp vs fl go vg ex).set 259 (.int .i64 g)=mCells bx ap n cp vs fl g vg ex:=mCells_setT 0 _
theorem mCells_setGiven (v:Value):(mCells bx ap n cp vs fl go vg ex).set 260 v=mCells bx ap n cp vs fl go v ex:=mCells_setT 1 _
theorem mCells_setExit (x:Int):(mCells bx ap n cp vs fl go vg ex).set 261 (.int .i64 x)=mCells bx ap n cp vs fl go vg x:=mCells_setT 2 _
end
theorem Row.cell? {w:World} {b:Nat} {t:TypeId} {vs:List Value} (h:Row w b t vs) {i:Nat} {v:Value} (hv:vs[i]?=some v):w.cell? ⟨b,i,none⟩=some v:=by
 obtain⟨hi,rfl⟩:=List.getElem?_eq_some_iff.1 hv;exact h.cell i hi
structure MM (w:World) (B bm bx bf bi:Nat) (ap:Option Addr) (cp:Nat) (ss:List Pl.Bs) (ve:Value) (ef:List Pl.Eff) (vs vg:Value) (st:List Bool) (fl:Nat→Bool) (go:Nat) (X:Pl.Wd):Prop where
 row:Row w bm 176 (mCells bx ap ss.length cp vs fl go vg X.exit)
 pw:PW w bx bf bi ve ef X.files X.clock
 strs:∃b,(0<ss.length→ap=some ⟨b,0,none⟩∧b<B∧b≠bm∧b≠bx∧b≠bf)∧RdS w b 0 ss
 stack:w.ownsRow B 4 1 vs st.length (st.map Value.bool)
 given:w.ownsRow B 9 1 vg X.cmds.length (X.cmds.map strV)
 lm:bm<B
 lx:bx<B
 lf:bf<B
 li:bi<B
 lw:B≤w.heap.size
 n1:bm≠bx
 n2:bm≠bf
 n3:bm≠bi
section
variable {w Z:World} {B bm bx bf bi:Nat} {ap:Option Addr} {cp:Nat} {ss:List Pl.Bs} {ve:Value} {ef:List Pl.Eff} {vs vg:Value} {st:List Bool} {fl:Nat→Bool} {go:Nat} {X:Pl.Wd}
theorem MM.str (h:MM w B bm bx bf bi ap cp ss ve ef vs vg st fl go X) (hs:0<ss.length):∃b,ap=some ⟨b,0,none⟩∧∀n (hn:n<ss.length),w.cell? ⟨b,n,none⟩=some (.string ⟨ss[n].toArray⟩):=by
 obtain⟨b,h1,h2⟩:=h.strs;refine⟨b,(h1 hs).1,fun n hn=> ?_⟩;have:=h2 n hn;rw[Nat.zero_add] at this;exact this
theorem MM.later (h:MM w B bm bx bf bi ap cp ss ve ef vs vg st fl go X) (hb:Below w.heap.size w Z):MM Z B bm bx bf bi ap cp ss ve ef vs vg st fl go X:=by
 obtain⟨b,h1,h2⟩:=h.strs;have hw:=h.lw;exact⟨h.row.later hb,h.pw.later hb,⟨b,h1,rds_same h2 (fun hp=>hb.block b (by have:=(h1 hp).2.1;omega))⟩,own_same h.stack (fun k hk=>hb.block k (h.stack.lt k hk).2),own_same h.given (fun k hk=>hb.block k (h.given.lt k hk).2),h.lm,h.lx,h.lf,h.li,Nat.le_trans hw hb.size,h.n1,h.n2,h.n3⟩
def Fresh (w:World) (v v' :Value):Prop:=∀k,v'.ownBlock=some k→v.ownBlock=some k∨w.heap.size≤k
structure MTn (bm bx bf:Nat) (vs vg vs' vg' :Value) (w w' :World):Prop where
 tn:Tn (fun k=>k=bm∨k=bx∨k=bf∨some k=vs.ownBlock∨some k=vg.ownBlock) w w'
 fs:Fresh w vs vs'
 fg:Fresh w vg vg'
theorem MTn.trans {vs1 vg1 vs2 vg2:Value} {w1 w2:World} (h:MTn bm bx bf vs vg vs1 vg1 w w1) (g:MTn bm bx bf vs1 vg1 vs2 vg2 w1 w2):MTn bm bx bf vs vg vs2 vg2 w w2:=by
 have hs:=h.tn.size;refine⟨⟨g.tn.os.trans h.tn.os,g.tn.tape.trans h.tn.tape,g.tn.output.trans h.tn.output,Nat.le_trans hs g.tn.size,fun k hk hp=>(g.tn.block k (by omega) (fun e=>hp ?_)).trans (h.tn.block k hk hp)⟩,fun k hk=> ?_,fun k hk=> ?_⟩
 ·rcases e with e|e|e|e|e
  ·exact .inl e
  ·exact .inr (.inl e)
  ·exact .inr (.inr (.inl e))
  ·rcases h.fs k e.symm with e' |e'
   ·exact .inr (.inr (.inr (.inl e'.symm)))
   ·omega
  ·rcases h.fg k e.symm with e' |e'
   ·exact .inr (.inr (.inr (.inr e'.symm)))
   ·omega
 ·rcases g.fs k hk with e|e
  ·exact h.fs k e
  ·exact .inr (by omega)
 ·rcases g.fg k hk with e|e
  ·exact h.fg k e
  ·exact .inr (by omega)
theorem MTn.later (hb:Below w.heap.size w Z):MTn bm bx bf vs vg vs vg w Z:=⟨Tn.later hb,fun _ e=> .inl e,fun _ e=> .inl e⟩
theorem MM.turn {vs' :Value} {st' :List Bool} {r:Option Nat} (h:MM w B bm bx bf bi ap cp ss ve ef vs vg st fl go X) (hg:w.grownBy Z r) (hr:r=none∨r=vs.ownBlock) (hs:Z.ownsRow B 4 1 vs' st'.length (st'.map Value.bool)) (hf:Fresh w vs vs'):
 MM (Z.setCell ⟨bm,2,none⟩ vs') B bm bx bf bi ap cp ss ve ef vs' vg st' fl go X∧MTn bm bx bf vs vg vs' vg w (Z.setCell ⟨bm,2,none⟩ vs'):=by
 obtain⟨b,h1,h2⟩:=h.strs;have l1:=h.lm;have l2:=h.lx;have l3:=h.lf;have l4:=h.li;have l5:=h.lw
 have hrB:∀k,r=some k→B≤k:=fun k e=>by
  rcases hr with rfl|rfl
  ·cases e
  ·exact(h.stack.lt k e).1
 have hlow:∀k,k<B→Z.heap[k]?=w.heap[k]?:=fun k hk=>hg.block k (by omega) (fun e=>by have:=hrB k e.symm;omega)
 have hset:∀k,k≠bm→(Z.setCell ⟨bm,2,none⟩ vs').heap[k]?=Z.heap[k]?:=fun k hk=>Below.heap_setCell Z ⟨bm,2,none⟩ _ k hk
 have hgiv:Z.ownsRow B 9 1 vg X.cmds.length (X.cmds.map strV):=by
  rcases hr with rfl|rfl
  ·exact World.ownsRow.kept h.given hg (by cases e:vg.ownBlock with|none=>exact .inl rfl|some q=>exact .inr (by simp))
  ·rcases apart h.given h.stack (by decide) with e|e
   ·exact World.ownsRow.kept h.given hg (.inl e)
   ·exact World.ownsRow.kept h.given hg (.inr e)
 have htn:Tn (fun k=>B≤k∨k=bm) w (Z.setCell ⟨bm,2,none⟩ vs'):=(Tn.grown hg (fun k e=> .inl (hrB k e))).trans (Tn.set Z ⟨bm,2,none⟩ vs' (.inr rfl));have htn' :Tn (fun k=>some k=vs.ownBlock∨k=bm) w (Z.setCell ⟨bm,2,none⟩ vs'):=(Tn.grown hg (fun k e=> .inl (by rcases hr with rfl|rfl;cases e;exact e.symm))).trans (Tn.set Z ⟨bm,2,none⟩ vs' (.inr rfl))
 refine⟨⟨?_,h.pw.tn htn (by have:=h.n1;omega) (by have:=h.n2;omega) (by have:=h.n3;omega),⟨b,h1,rds_same h2 (fun hp=>(htn.block b (by have:=(h1 hp).2.1;omega) (by have:=(h1 hp).2;omega)))⟩,owns_other hs (own_ne hs l1) 2 _,owns_other hgiv (own_ne hgiv l1) 2 _,l1,l2,l3,l4,Nat.le_trans l5 htn.size,h.n1,h.n2,h.n3⟩,htn'.mono (fun k e=>e.elim (fun e=> .inr (.inr (.inr (.inl e)))) .inl),hf,fun _ e=> .inl e⟩
 have hrow:Row Z bm 176 (mCells bx ap ss.length cp vs fl go vg X.exit):=(hlow bm l1).trans h.row;have:=hrow.set 2 vs';rw[mCells_set2] at this;exact this
theorem MM.mark (h:MM w B bm bx bf bi ap cp ss ve ef vs vg st fl go X) (i:Nat) (hi:i<256):MM (w.setCell ⟨bm,3+i,none⟩ (.bool true)) B bm bx bf bi ap cp ss ve ef vs vg st (fset fl i) go X∧MTn bm bx bf vs vg vs vg w (w.setCell ⟨bm,3+i,none⟩ (.bool true)):=by
 obtain⟨b,h1,h2⟩:=h.strs;have l1:=h.lm;have htn:Tn (fun k=>k=bm) w (w.setCell ⟨bm,3+i,none⟩ (.bool true)):=Tn.set w ⟨bm,3+i,none⟩ _ rfl
 refine⟨⟨?_,h.pw.tn htn (fun e=>h.n1 e.symm) (fun e=>h.n2 e.symm) (fun e=>h.n3 e.symm),⟨b,h1,rds_same h2 (fun hp=>(htn.block b (by have:=(h1 hp).2.1;have:=h.lw;omega) (by have:=(h1 hp).2;omega)))⟩,owns_other h.stack (own_ne h.stack l1) _ _,owns_other h.given (own_ne h.given l1) _ _,l1,h.lx,h.lf,h.li,Nat.le_trans h.lw htn.size,h.n1,h.n2,h.n3⟩,htn.mono (fun k e=> .inl e),fun _ e=> .inl e,fun _ e=> .inl e⟩
 have:=h.row.set (3+i) (.bool true);rw[mCells_setF i hi] at this;exact this
theorem MM.goOn (h:MM w B bm bx bf bi ap cp ss ve ef vs vg st fl go X) (g:Nat):MM (w.setCell ⟨bm,259,none⟩ (.int .i64 g)) B bm bx bf bi ap cp ss ve ef vs vg st fl g X∧MTn bm bx bf vs vg vs vg w (w.setCell ⟨bm,259,none⟩ (.int .i64 g)):=by
 obtain⟨b,h1,h2⟩:=h.strs;have l1:=h.lm;have htn:Tn (fun k=>k=bm) w (w.setCell ⟨bm,259,none⟩ (.int .i64 g)):=Tn.set w ⟨bm,259,none⟩ _ rfl
 refine⟨⟨?_,h.pw.tn htn (fun e=>h.n1 e.symm) (fun e=>h.n2 e.symm) (fun e=>h.n3 e.symm),⟨b,h1,rds_same h2 (fun hp=>(htn.block b (by have:=(h1 hp).2.1;have:=h.lw;omega) (by have:=(h1 hp).2;omega)))⟩,owns_other h.stack (own_ne h.stack l1) _ _,owns_other h.given (own_ne h.given l1) _ _,l1,h.lx,h.lf,h.li,Nat.le_trans h.lw htn.size,h.n1,h.n2,h.n3⟩,htn.mono (fun k e=> .inl e),fun _ e=> .inl e,fun _ e=> .inl e⟩
 have:=h.row.set 259 (.int .i64 g);rw[mCells_setGo] at this;exact this
end
def numEnts (ss:List Pl.Bs):Ents:=ss.zipIdx.map fun x=>(x.1,.int .i64 x.2)
structure WrM (W:World) (B wb nb:Nat) (w:Cp.Wr) (vs vc:Value):Prop where
 row:Row W wb 281 [.map (some nb),vs,vc,.bool w.failed]
 nums:SMap W nb (numEnts w.strs)
 strs:W.ownsRow B 9 1 vs w.strs.length (w.strs.map strV)
 code:W.ownsRow B 5 1 vc w.code.length (Lib.byteCells w.code)
 wB:wb<B
 nB:nb<B
theorem Tryz.infoU8:(Tryz.prog.info? 5).map (fun i=>(i.zero,i.size,i.bytes))=some (some (.int .u8 0),1,1):=by kernel_rfl
theorem mk_u8_0 (w:World):(Instr.makeSlice 126 (.int .i64 0) (.int .i64 0)).run Tryz.prog w= .ok (.slice (some ⟨w.heap.size,0,none⟩) 0 0) (w.alloc (.cells #[] 5)):=by
 have h:=run_make_row' (P:=Tryz.prog) 126 5 (.int .u8 0) 1 Tryz.underlying126 Tryz.infoU8 rfl .i64 .i64 0 (by omega) (by omega) w;rw[made_row] at h;exact h
theorem mk_u8_1 (w:World):(Instr.makeSlice 126 (.int .i64 1) (.int .i64 1)).run Tryz.prog w= .ok (.slice (some ⟨w.heap.size,0,none⟩) 1 1) (w.alloc (.cells #[.int .u8 0] 5)):=by
 have h:=run_make_row' (P:=Tryz.prog) 126 5 (.int .u8 0) 1 Tryz.underlying126 Tryz.infoU8 rfl .i64 .i64 1 (by omega) (by omega) w;rw[made_row] at h;exact h
theorem mk_u8_2 (w:World):(Instr.makeSlice 126 (.int .i64 2) (.int .i64 2)).run Tryz.prog w= .ok (.slice (some ⟨w.heap.size,0,none⟩) 2 2) (w.alloc (.cells #[.int .u8 0,.int .u8 0] 5)):=by
 have h:=run_make_row' (P:=Tryz.prog) 126 5 (.int .u8 0) 1 Tryz.underlying126 Tryz.infoU8 rfl .i64 .i64 2 (by omega) (by omega) w;rw[made_row] at h;exact h
theorem big0 (n:Nat):((n:Int) !=0)=Cp.big n 0:=by
 unfold Cp.big;rw[Bool.eq_iff_iff];simp;omega
theorem big1 (n:Nat):((n:Int)/256 !=0)=Cp.big n 1:=by
 unfold Cp.big;rw[Bool.eq_iff_iff];simp;omega
theorem big2 (n:Nat):((n:Int)/65536 !=0)=Cp.big n 2:=by
 unfold Cp.big;rw[Bool.eq_iff_iff];simp;omega
theorem wr_end {W:World} {wb:Nat} {v0 v1 v2:Value} {f:Bool} (h:Row W wb 281 [v0,v1,v2,.bool f]) (f' :Bool) (cs:List Value):
 Row ((W.setCell ⟨wb,3,none⟩ (.bool f')).alloc (.cells cs.toArray 5)) W.heap.size 5 cs∧Row ((W.setCell ⟨wb,3,none⟩ (.bool f')).alloc (.cells cs.toArray 5)) wb 281 [v0,v1,v2,.bool f']∧Tn (fun k=>k=wb) W ((W.setCell ⟨wb,3,none⟩ (.bool f')).alloc (.cells cs.toArray 5)):=by
 have hs:(W.setCell ⟨wb,3,none⟩ (.bool f')).heap.size=W.heap.size:=by simp
 have h1:=Row.new (W.setCell ⟨wb,3,none⟩ (.bool f')) 5 cs;rw[hs] at h1;exact⟨h1,(h.set 3 (.bool f')).alloc _,(Tn.set (p:=fun k=>k=wb) W ⟨wb,3,none⟩ _ rfl).trans (Tn.later ((Below.refl _ _).alloc (Nat.le_refl _) _))⟩
theorem beB_0 (n:Nat):Lib.byteCells (Cp.beB n 0)=[]:=by
 unfold Lib.byteCells Cp.beB;simp
theorem bytes0_any (wb n:Nat) (v0 v1 v2:Value) (f:Bool) (W:World) (h:Row W wb 281 [v0,v1,v2,.bool f]) (_hn:n<2147483648):
 Calls Tryz.prog 148 #[.pointer (some ⟨wb,0,none⟩),.int .i64 n,.int .i64 0] W fun e W' =>∃N,e= .returned (.slice (some ⟨N,0,none⟩) 0 0)∧Row W' N 5 (Lib.byteCells (Cp.beB n 0))∧Row W' wb 281 [v0,v1,v2,.bool (f||Cp.big n 0)]∧W.heap.size≤N∧Tn (fun k=>k=wb) W W' :=by
 have c3:=h.cell? (i:=3) rfl;have z3:=h.frozen 3;have hmk:=mk_u8_0;have hlt:=h.lt;have hne:¬wb=W.heap.size:=by omega
 have HR:=hide h;rw[beB_0];clear h;cases f with
 |false=>
  go_enter Tryz.func148,Tryz.ntmps148
  go_wp2_with fail
  refine wp_loop_rounds 1 ?_;rw[rounds_succ]
  go_wp2_with fail
  go_ret
  obtain⟨q1,q2,q3⟩:=wr_end (uh HR) ((n:Int) !=0) [];exact⟨W.heap.size,rfl,q1,by rw[Bool.false_or,←big0];exact q2,Nat.le_refl _,q3⟩
 |true=>
  go_enter Tryz.func148,Tryz.ntmps148
  go_wp2_with fail
  refine wp_loop_rounds 1 ?_;rw[rounds_succ]
  go_wp2_with fail
  go_ret
  obtain⟨q1,q2,q3⟩:=wr_end (uh HR) true [];exact⟨W.heap.size,rfl,q1,by rw[Bool.true_or];exact q2,Nat.le_refl _,q3⟩
theorem beB_1 (n:Nat):Lib.byteCells (Cp.beB n 1)=[.int .u8 ((n:Int) % 256)]:=by
 unfold Lib.byteCells Cp.beB;simp
theorem bytes1_any (wb n:Nat) (v0 v1 v2:Value) (f:Bool) (W:World) (h:Row W wb 281 [v0,v1,v2,.bool f]) (_hn:n<2147483648):
 Calls Tryz.prog 148 #[.pointer (some ⟨wb,0,none⟩),.int .i64 n,.int .i64 1] W fun e W' =>∃N,e= .returned (.slice (some ⟨N,0,none⟩) 1 1)∧Row W' N 5 (Lib.byteCells (Cp.beB n 1))∧Row W' wb 281 [v0,v1,v2,.bool (f||Cp.big n 1)]∧W.heap.size≤N∧Tn (fun k=>k=wb) W W' :=by
 have c3:=h.cell? (i:=3) rfl;have z3:=h.frozen 3;have hmk:=mk_u8_1;have hlt:=h.lt;have hne:¬wb=W.heap.size:=by omega
 have HR:=hide h;rw[beB_1];clear h;cases f with
 |false=>
  go_enter Tryz.func148,Tryz.ntmps148
  go_wp2_with fail
  refine wp_loop_rounds 2 ?_;rw[rounds_succ]
  go_wp2_with fail
  rw[rounds_succ]
  go_wp2_with fail
  go_ret
  obtain⟨q1,q2,q3⟩:=wr_end (uh HR) ((n:Int)/256 !=0) [.int .u8 ((n:Int) % 256)];exact⟨W.heap.size,rfl,q1,by rw[Bool.false_or,←big1];exact q2,Nat.le_refl _,q3⟩
 |true=>
  go_enter Tryz.func148,Tryz.ntmps148
  go_wp2_with fail
  refine wp_loop_rounds 2 ?_;rw[rounds_succ]
  go_wp2_with fail
  rw[rounds_succ]
  go_wp2_with fail
  go_ret
  obtain⟨q1,q2,q3⟩:=wr_end (uh HR) true [.int .u8 ((n:Int) % 256)];exact⟨W.heap.size,rfl,q1,by rw[Bool.true_or];exact q2,Nat.le_refl _,q3⟩
theorem beB_2 (n:Nat):Lib.byteCells (Cp.beB n 2)=[.int .u8 ((n:Int)/256 % 256),.int .u8 ((n:Int) % 256)]:=by
 unfold Lib.byteCells Cp.beB;simp
theorem bytes2_any (wb n:Nat) (v0 v1 v2:Value) (f:Bool) (W:World) (h:Row W wb 281 [v0,v1,v2,.bool f]) (_hn:n<2147483648):
 Calls Tryz.prog 148 #[.pointer (some ⟨wb,0,none⟩),.int .i64 n,.int .i64 2] W fun e W' =>∃N,e= .returned (.slice (some ⟨N,0,none⟩) 2 2)∧Row W' N 5 (Lib.byteCells (Cp.beB n 2))∧Row W' wb 281 [v0,v1,v2,.bool (f||Cp.big n 2)]∧W.heap.size≤N∧Tn (fun k=>k=wb) W W' :=by
 have c3:=h.cell? (i:=3) rfl;have z3:=h.frozen 3;have hmk:=mk_u8_2;have hlt:=h.lt;have hne:¬wb=W.heap.size:=by omega
 have HR:=hide h;rw[beB_2];clear h;cases f with
 |false=>
  go_enter Tryz.func148,Tryz.ntmps148
  go_wp2_with fail
  refine wp_loop_rounds 3 ?_;rw[rounds_succ]
  go_wp2_with fail
  rw[rounds_succ]
  go_wp2_with fail
  rw[rounds_succ]
  go_wp2_with fail
  go_ret
  obtain⟨q1,q2,q3⟩:=wr_end (uh HR) ((n:Int)/65536 !=0) [.int .u8 ((n:Int)/256 % 256),.int .u8 ((n:Int) % 256)];exact⟨W.heap.size,rfl,q1,by rw[Bool.false_or,←big2];exact q2,Nat.le_refl _,q3⟩
 |true=>
  go_enter Tryz.func148,Tryz.ntmps148
  go_wp2_with fail
  refine wp_loop_rounds 3 ?_;rw[rounds_succ]
  go_wp2_with fail
  rw[rounds_succ]
  go_wp2_with fail
  rw[rounds_succ]
  go_wp2_with fail
  go_ret
  obtain⟨q1,q2,q3⟩:=wr_end (uh HR) true [.int .u8 ((n:Int)/256 % 256),.int .u8 ((n:Int) % 256)];exact⟨W.heap.size,rfl,q1,by rw[Bool.true_or];exact q2,Nat.le_refl _,q3⟩
theorem bytes_any (wb n k:Nat) (hk:k≤2) (v0 v1 v2:Value) (f:Bool) (W:World) (h:Row W wb 281 [v0,v1,v2,.bool f]) (hn:n<2147483648):
 Calls Tryz.prog 148 #[.pointer (some ⟨wb,0,none⟩),.int .i64 n,.int .i64 k] W fun e W' =>∃N,e= .returned (.slice (some ⟨N,0,none⟩) k k)∧Row W' N 5 (Lib.byteCells (Cp.beB n k))∧Row W' wb 281 [v0,v1,v2,.bool (f||Cp.big n k)]∧W.heap.size≤N∧Tn (fun k=>k=wb) W W' :=by
 match k,hk with
 |0,_=>exact bytes0_any wb n v0 v1 v2 f W h hn
 |1,_=>exact bytes1_any wb n v0 v1 v2 f W h hn
 |2,_=>exact bytes2_any wb n v0 v1 v2 f W h hn
end Go.Proofs.YtjelacjggijmfaaGreatDoor
namespace Go.Proofs.YtjelacjggijmfaaGreatDoor
open Go.RowKit Go.MapKept Go.ChangeMaps Go.Maps
attribute [local go_sem↓] Go.wp_at_zero Go.wp_at_succ
theorem one_bool (x:Bool):∀u∈[Value.bool x],u.oneCell' =true:=by intro u hu;simp at hu;subst hu;rfl
theorem fresh_at {w:World} {o:Obj} {v v' :Value} (h:v'.ownBlock=v.ownBlock∨v'.ownBlock=some (w.alloc o).heap.size):Fresh w v v' :=fun k hk=>by
 rcases h with e|e
 ·exact .inl (e▸hk)
 ·rw[e] at hk
  cases hk;exact .inr (by rw[World.size_alloc];omega)
theorem own_sh {w:World} {B e size n:Nat} {v:Value} {xs:List Value} (h:w.ownsRow B e size v n xs):∃a cap,v= .slice a n cap:=own_shape h
theorem push_any (x:Bool) (B bm bx bf bi:Nat) (ap:Option Addr) (cp:Nat) (ss:List Pl.Bs) (ve:Value) (ef:List Pl.Eff) (vs vg:Value) (st:List Bool) (fl:Nat→Bool) (go:Nat) (X:Pl.Wd) (w:World) (h:MM w B bm bx bf bi ap cp ss ve ef vs vg st fl go X) (hst:st.length≤20):
 Calls Tryz.prog 173 #[.pointer (some ⟨bm,0,none⟩),.bool x] w fun e w' =>e= .returned (.tuple #[])∧∃vs',MM w' B bm bx bf bi ap cp ss ve ef vs' vg (st++[x]) fl go X∧MTn bm bx bf vs vg vs' vg w w' :=by
 obtain⟨i0,hi0,hz0,hz1,hz2⟩:=info_parts Tryz.infoBool;obtain⟨sa,sc,hvs⟩:=own_sh h.stack;subst hvs;have c2:=h.row.cell? (i:=2) rfl;have hlw:=h.lw;have hlm:=h.lm;have HM:=hide h;clear h
 go_enter Tryz.func173,Tryz.ntmps173
 go_wp2_with (first
  |(at_builtin;refine wpList_append_own_at _ rfl (.tmp 8) (.tmp 10) 82 rfl B 4 i0 (.bool false) 1 1 Tryz.underlying82 hi0 hz0 hz1 hz2 rfl (by decide) _ st.length _ rfl (World.ownsRow.alloc (uh HM).stack _) ⟨_,0,none⟩ 1 1 [.bool x] rfl rfl (cells_new _ _ [_]) (one_bool _) (by unfold maxLen;omega) (by omega) (by rw[World.size_alloc];omega) ?_;intro v1 w1 hown1 hgrow1 hnil1 hat1;obtain⟨q1,q2,rfl,-,-⟩:=owns_form hown1 (by omega);have HT:=hide ((uh HM).turn (st' :=st++[x]) ((World.grownBy_alloc w _ _).trans hgrow1) (.inr rfl) (by simpa using hown1) (fresh_at hat1));have hlt:=(uh HT).1.row.lt;have hr1:=(uh HT).1.row;have hg1:=(World.grownBy_alloc w _ _).trans hgrow1;have hr2:=(uh HM).row.grown hg1 (own_ne (uh HM).stack hlm);have d2:=hr2.cell? (i:=2) rfl;have e2:=hr2.frozen 2;clear hown1 hgrow1 hnil1 hat1 hr1 hr2 hg1)
  |fail)
 go_end0
 exact⟨rfl,_,uh HT⟩
theorem pop_any (x:Bool) (r:List Bool) (B bm bx bf bi:Nat) (ap:Option Addr) (cp:Nat) (ss:List Pl.Bs) (ve:Value) (ef:List Pl.Eff) (vs vg:Value) (fl:Nat→Bool) (go:Nat) (X:Pl.Wd) (w:World) (h:MM w B bm bx bf bi ap cp ss ve ef vs vg (r++[x]) fl go X) (hst:r.length≤20):
 Calls Tryz.prog 176 #[.pointer (some ⟨bm,0,none⟩)] w fun e w' =>e= .returned (.bool x)∧∃vs',MM w' B bm bx bf bi ap cp ss ve ef vs' vg r fl go X∧MTn bm bx bf vs vg vs' vg w w' :=by
 have hlen:(r++[x]).length=r.length+1:=by simp
 have hso:=h.stack;rw[hlen] at hso;obtain⟨g,sc,hvs,-⟩:=owns_form hso (by omega);subst hvs;have c2:=h.row.cell? (i:=2) rfl;have f2:=h.row.frozen 2;have hcap:=own_cap hso;have hc:=own_cell hso r.length (by simp);simp only[List.map_append,List.map_cons,List.map_nil] at hc;rw[List.getElem_append_right (by simp)] at hc
 simp only[List.length_map,Nat.sub_self,List.getElem_cons_zero] at hc;have hct:=own_cut hso r.length (by omega);have htk:((r++[x]).map Value.bool).take r.length=r.map Value.bool:=by rw[List.map_append,←List.length_map Value.bool,List.take_left]
 rw[htk] at hct;have HT:=hide (h.turn (st' :=r) (World.grownBy.refl w none) (.inl rfl) hct (fun _ e=> .inl e));have i1:(r.length:Int)≤20:=by omega
 have i2:(r.length:Int)≤(sc:Int):=by omega
 have hrs:r.length≤sc:=by omega
 generalize r.length=m at*;clear h hso hct htk hlen
 go_enter Tryz.func176,Tryz.ntmps176
 go_wp2_with fail
 go_ret
 exact⟨rfl,_,uh HT⟩
section
variable {w Z:World} {B bm bx bf bi:Nat} {ap:Option Addr} {cp:Nat} {ss:List Pl.Bs} {ve:Value} {ef:List Pl.Eff} {vs vg:Value} {st:List Bool} {fl:Nat→Bool} {go:Nat} {X:Pl.Wd}
theorem MM.keep {vg' :Value} {c:Pl.Bs} (h:MM w B bm bx bf bi ap cp ss ve ef vs vg st fl go X) (hg:w.grownBy Z vg.ownBlock) (hs:Z.ownsRow B 9 1 vg' (X.cmds.length+1) (X.cmds.map strV++[strV c])) (hf:Fresh w vg vg'):
 MM (Z.setCell ⟨bm,260,none⟩ vg') B bm bx bf bi ap cp ss ve ef vs vg' st fl go ⟨X.files,X.clock,X.cmds++[c],X.exit⟩∧MTn bm bx bf vs vg vs vg' w (Z.setCell ⟨bm,260,none⟩ vg'):=by
 obtain⟨b,h1,h2⟩:=h.strs;have l1:=h.lm;have l2:=h.lx;have l3:=h.lf;have l4:=h.li;have l5:=h.lw;have hrB:∀k,vg.ownBlock=some k→B≤k:=fun k e=>(h.given.lt k e).1
 have hlow:∀k,k<B→Z.heap[k]?=w.heap[k]?:=fun k hk=>hg.block k (by omega) (fun e=>by have:=hrB k e.symm;omega)
 have hstk:Z.ownsRow B 4 1 vs st.length (st.map Value.bool):=by
  rcases apart h.stack h.given (by decide) with e|e
  ·exact World.ownsRow.kept h.stack hg (.inl e)
  ·exact World.ownsRow.kept h.stack hg (.inr e)
 have htn:Tn (fun k=>B≤k∨k=bm) w (Z.setCell ⟨bm,260,none⟩ vg'):=(Tn.grown hg (fun k e=> .inl (hrB k e))).trans (Tn.set Z ⟨bm,260,none⟩ vg' (.inr rfl));have htn' :Tn (fun k=>some k=vg.ownBlock∨k=bm) w (Z.setCell ⟨bm,260,none⟩ vg'):=(Tn.grown hg (fun k e=> .inl e.symm)).trans (Tn.set Z ⟨bm,260,none⟩ vg' (.inr rfl))
 have hs' :Z.ownsRow B 9 1 vg' (X.cmds++[c]).length ((X.cmds++[c]).map strV):=by simpa using hs
 refine⟨⟨?_,h.pw.tn htn (by have:=h.n1;omega) (by have:=h.n2;omega) (by have:=h.n3;omega),⟨b,h1,rds_same h2 (fun hp=>(htn.block b (by have:=(h1 hp).2.1;omega) (by have:=(h1 hp).2;omega)))⟩,owns_other hstk (own_ne hstk l1) 260 _,owns_other hs' (own_ne hs' l1) 260 _,l1,l2,l3,l4,Nat.le_trans l5 htn.size,h.n1,h.n2,h.n3⟩,htn'.mono (fun k e=>e.elim (fun e=> .inr (.inr (.inr (.inr e)))) .inl),fun _ e=> .inl e,hf⟩
 have hrow:Row Z bm 176 (mCells bx ap ss.length cp vs fl go vg X.exit):=(hlow bm l1).trans h.row;have:=hrow.set 260 vg';rw[mCells_setGiven] at this;exact this
theorem MM.did {Y:Pl.Wd} (h:MM w B bm bx bf bi ap cp ss ve ef vs vg st fl go X) (hp:GiveP bx bf bi ve ef Y w Z) (hc:Y.cmds=X.cmds):MM (Z.setCell ⟨bm,261,none⟩ (.int .i64 Y.exit)) B bm bx bf bi ap cp ss ve ef vs vg st fl go Y∧MTn bm bx bf vs vg vs vg w (Z.setCell ⟨bm,261,none⟩ (.int .i64 Y.exit)):=by
 obtain⟨b,h1,h2⟩:=h.strs;have l1:=h.lm;have l2:=h.lx;have l3:=h.lf;have l5:=h.lw;have ht:=hp.tn;have hs1:Z.ownsRow B 4 1 vs st.length (st.map Value.bool):=own_same h.stack (fun k hk=>ht.block k (h.stack.lt k hk).2 (by have:=(h.stack.lt k hk).1;omega))
 have hs2:Z.ownsRow B 9 1 vg Y.cmds.length (Y.cmds.map strV):=by rw[hc];exact own_same h.given (fun k hk=>ht.block k (h.given.lt k hk).2 (by have:=(h.given.lt k hk).1;omega))
 have hsz:=ht.size;have htn2:Tn (fun k=>k=bm) Z (Z.setCell ⟨bm,261,none⟩ (.int .i64 Y.exit)):=Tn.set Z ⟨bm,261,none⟩ _ rfl
 refine⟨⟨?_,hp.pw.tn htn2 (fun e=>h.n1 e.symm) (fun e=>h.n2 e.symm) (fun e=>h.n3 e.symm),⟨b,h1,rds_same h2 (fun hp' => ?_)⟩,owns_other hs1 (own_ne hs1 l1) 261 _,owns_other hs2 (own_ne hs2 l1) 261 _,l1,l2,l3,h.li,Nat.le_trans (Nat.le_trans l5 hsz) htn2.size,h.n1,h.n2,h.n3⟩,(ht.mono (fun k e=>e.elim (fun e=> .inr (.inl e)) (fun e=> .inr (.inr (.inl e))))).trans (htn2.mono (fun k e=> .inl e)),fun _ e=> .inl e,fun _ e=> .inl e⟩
 ·have:=((h.row.tn ht (by have:=h.n1;have:=h.n2;omega))).set 261 (.int .i64 Y.exit)
  rw[mCells_setExit] at this;exact this
 ·have hb:=(h1 hp').2
  exact(htn2.block b (by omega) (by omega)).trans (ht.block b (by omega) (by omega))
end
theorem give_same (ef:List Pl.Eff) (X:Pl.Wd) (c:Pl.Bs) (cs:List Pl.Bs):(Pl.giveW ef ⟨X.files,X.clock,cs,X.exit⟩ c).files=(Pl.giveW ef X c).files∧(Pl.giveW ef ⟨X.files,X.clock,cs,X.exit⟩ c).clock=(Pl.giveW ef X c).clock∧(Pl.giveW ef ⟨X.files,X.clock,cs,X.exit⟩ c).exit=(Pl.giveW ef X c).exit:=by
 unfold Pl.giveW;simp only;split<;>exact⟨rfl,rfl,rfl⟩
theorem give_cmds' (ef:List Pl.Eff) (X:Pl.Wd) (c:Pl.Bs):(Pl.giveW ef X c).cmds=X.cmds++[c]:=by unfold Pl.giveW;split<;>rfl
theorem mgive_any (c:Pl.Bs) (S:List Pl.Bs) (L be oe ce:Nat) (ae:Option Addr) (B bm bx bf bi:Nat) (ap:Option Addr) (cp:Nat) (ss:List Pl.Bs) (ef:List Pl.Eff) (vs vg:Value) (st:List Bool) (fl:Nat→Bool) (go:Nat) (X:Pl.Wd) (w:World)
 (h:MM w B bm bx bf bi ap cp ss (.slice ae ef.length ce) ef vs vg st fl go X) (hx:X.exit=0) (hae:0<ef.length→ae=some ⟨be,oe,none⟩)
 (hE:RdE w L be oe ef) (hL0:L≤bm) (hL1:L≤bx) (hL2:L≤bf) (hfit:Fit S X.files) (hS:S.length≤8388608) (hEs:∀e∈ef,∀f∈e.writes,f.path∈S) (hel:ef.length≤8388608) (hwl:∀e∈ef,e.writes.length≤8388608) (hcl:X.cmds.length≤8388608):
 Calls Tryz.prog 177 #[.pointer (some ⟨bm,0,none⟩),.string ⟨c.toArray⟩] w fun e w' =>e= .returned (.tuple #[])∧∃vg',MM w' B bm bx bf bi ap cp ss (.slice ae ef.length ce) ef vs vg' st fl go (Pl.giveW ef X c)∧MTn bm bx bf vs vg vs vg' w w' :=by
 obtain⟨i0,hi0,hz0,hz1,hz2⟩:=info_parts Tryz.infoStr;obtain⟨sa,sc,hvs⟩:=own_sh h.given;subst hvs;have c5:=h.row.cell? (i:=260) (mCells_tail 1);have c0:=h.row.cell? (i:=0) rfl;have hlw:=h.lw;have hlm:=h.lm;have HM:=hide h
 have CG:Hid (∀(W:World) (vg' :Value),MM W B bm bx bf bi ap cp ss (.slice ae ef.length ce) ef vs vg' st fl go ⟨X.files,X.clock,X.cmds++[c],X.exit⟩→MTn bm bx bf vs (.slice sa X.cmds.length sc) vs vg' w W→Calls Tryz.prog 217 #[.pointer (some ⟨bx,0,none⟩),.string ⟨c.toArray⟩] W fun e w' =>e= .returned (.int .i64 (Pl.giveW ef X c).exit)∧Row w' bm 176 (mCells bx ap ss.length cp vs fl go vg' X.exit)∧
  (MM (w'.setCell ⟨bm,261,none⟩ (.int .i64 (Pl.giveW ef X c).exit)) B bm bx bf bi ap cp ss (.slice ae ef.length ce) ef vs vg' st fl go (Pl.giveW ef X c)∧MTn bm bx bf vs (.slice sa X.cmds.length sc) vs vg' w (w'.setCell ⟨bm,261,none⟩ (.int .i64 (Pl.giveW ef X c).exit)))):=fun W vg' hm ht=>by
  have hEW:RdE W L be oe ef:=hE.below (ht.tn.below (B:=L) (by omega) (fun k e=>by
   rcases e with rfl|rfl|rfl|e|e
   ·exact hL0
   ·exact hL1
   ·exact hL2
   ·have:=(h.stack.lt k e.symm).1;omega
   ·have:=(h.given.lt k e.symm).1;omega))
  obtain⟨g1,g2,g3⟩:=give_same ef X c (X.cmds++[c]);refine(give_any c S ef L bx bf bi be oe ce ae ⟨X.files,X.clock,X.cmds++[c],X.exit⟩ W hm.pw hx hae hEW hL1 hL2 hfit hS hEs hel hwl).mono ?_
  rintro e w' ⟨rfl,hp⟩
  have hp' :GiveP bx bf bi (.slice ae ef.length ce) ef (Pl.giveW ef X c) W w' :=⟨by have:=hp.pw;rw[g1,g2] at this;exact this,hp.tn⟩;have hd:=hm.did hp' (give_cmds' ef X c);refine⟨by rw[g3],hm.row.tn hp.tn (by have:=h.n1;have:=h.n2;omega),hd.1,ht.trans hd.2⟩
 clear h hE hfit hEs hwl hae
 go_enter Tryz.func177,Tryz.ntmps177
 go_wp2_with (first
  |(at_builtin;refine wpList_append_own_at _ rfl (.tmp 8) (.tmp 10) 30 rfl B 9 i0 (.string ⟨#[]⟩) 1 16 Tryz.underlying30 hi0 hz0 hz1 hz2 rfl (by decide) _ X.cmds.length _ rfl (World.ownsRow.alloc (uh HM).given _) ⟨_,0,none⟩ 1 1 [.string ⟨c.toArray⟩] rfl rfl (cells_new _ _ [_]) (one_one _) (by unfold maxLen;omega) (by omega) (by rw[World.size_alloc];omega) ?_;intro v1 w1 hown1 hgrow1 hnil1 hat1;obtain⟨q1,q2,rfl,-,-⟩:=owns_form hown1 (by omega);have HT:=hide ((uh HM).keep (c:=c) ((World.grownBy_alloc w _ _).trans hgrow1) hown1 (fresh_at hat1));have hg1:=(World.grownBy_alloc w _ _).trans hgrow1;have hr2:=(uh HM).row.grown hg1 (own_ne (uh HM).given hlm);have e5:=hr2.frozen 260;have d0:=(uh HT).1.row.cell? (i:=0) rfl;have d5:=hr2.cell? (i:=260) (mCells_tail 1);clear hown1 hgrow1 hnil1 hat1 hr2 hg1)
  |(go_at_call 217;refine(uh CG _ _ (uh HT).1 (uh HT).2).mono ?_;rintro e w2 ⟨rfl,hr2,hm2⟩;have HT2:=hide hm2;have y1:=hr2.cell? (i:=261) (mCells_tail 2);have y2:=hr2.frozen 261;clear hr2 hm2)
  |fail)
 go_end0
 exact⟨rfl,_,uh HT2⟩
end Go.Proofs.YtjelacjggijmfaaGreatDoor
