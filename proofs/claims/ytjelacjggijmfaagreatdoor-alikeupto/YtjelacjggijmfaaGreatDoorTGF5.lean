/-
  The names that a goal's walk can come to.
-/
import Derived.Test.YtjelacjggijmfaaGreatDoorTGE9
set_option maxHeartbeats 4000000
set_option maxRecDepth 100000
namespace Go.Proofs.YtjelacjggijmfaaGreatDoor
open Go.RowKit Go.MapKept Go.ChangeMaps Go.Maps
def wst0:Wst:=⟨[],[],[]⟩
section
variable {W X Y:World} {L wk st:Nat} {c:Ad} {rb:Nat→Nat} {s:St} {vp:Value} {l:Ents} {bf bi:Nat} {ve:Value} {ef:List Pl.Eff} {fs:List Pl.File} {clock:Int} {us:List (Nat×List Pl.Bs)} {v2 vo vv:Value} {t:Wst}
theorem walkSet {w:World} {N o:Nat} {vs:List Value} (h:Row w N 193 vs) (u:Value) {k:Nat} {cs:Array Value} {e:TypeId} {fz:Nat×Nat} (hk:w.heap[k]?=some (Obj.cells cs e fz)) (he:e≠193):(w.setCell ⟨N,o,none⟩ u).heap[k]?=w.heap[k]?:=Below.heap_setCell w ⟨N,o,none⟩ u k (fun q=>by
 simp only at q;unfold Row at h;rw[q,h] at hk;cases hk
 exact he rfl)
theorem walkBl {w:World} {N o:Nat} {vs:List Value} (h:Row w N 193 vs) (u:Value):Bl w (w.setCell ⟨N,o,none⟩ u):=
 ⟨fun _ _ _ hk=>walkSet h u hk (by decide),fun _ _ _ hk=>walkSet h u hk (by decide),fun _ _ _ hk=>walkSet h u hk (by decide),fun _ _ _ hk=>walkSet h u hk (by decide),fun _ _ _ hk=>walkSet h u hk (by decide)⟩
theorem PaT.walk {w:World} {N o:Nat} {vs:List Value} (h:Row w N 193 vs) (u:Value) {v:Value} (hp:PaT w rb v us):PaT (w.setCell ⟨N,o,none⟩ u) rb v us:=by
 rcases hp with q|⟨b,o',cp,q1,⟨cs,fz,q2⟩,q3⟩
 ·exact .inl q
 ·have e:=walkSet (o:=o) h u q2 (by decide)
  refine .inr ⟨b,o',cp,q1,⟨cs,fz,e.trans q2⟩,fun j x hj=> ?_⟩;obtain⟨c1,uu,c2,c3⟩:=q3 j x hj;refine⟨?_,uu,?_,c3.bl (walkBl h u)⟩
  ·unfold World.cell? at*;rw[e];exact c1
  ·unfold World.cell? at*;rw[e];exact c2
theorem goS0 {w2:World} {u:Value} (hL:L≤wk) (hS:L≤st) (hM:WkM w2 wk c rb s vp l bf bi ve ef fs clock (.slice none 0 0) (.map (some st)) (.slice none 0 0) (.slice none 0 0)) (hp:PaT w2 rb u us) (hs:SMap w2 st []) (hLW:L≤w2.heap.size) (low:c.nm<L∧c.bt<L∧c.pb<L∧c.bx<L∧bf<L∧bi<L∧0<L):
 GoS (w2.setCell ⟨wk,2,none⟩ u) L wk st c rb s vp l bf bi ve ef fs clock us u wst0:=by
 have hb:Below L w2 (w2.setCell ⟨wk,2,none⟩ u):=(Below.refl L w2).setCell (p:=⟨wk,2,none⟩) hL u;have hbl:=walkBl (o:=2) hM.row u;obtain⟨l1,l2,l3,l4,l5,l6,l7⟩:=low
 refine⟨_,_,[],[],⟨⟨hM.row.set 2 u,hM.bm.bl hbl (hb.block _ l1) (hb.block _ l2) (hb.block _ l3),hM.pw.tn (Tn.set (p:=fun k=>k=wk) w2 ⟨wk,2,none⟩ u rfl) (by omega) (by omega) (by omega),?_⟩,hp.walk hM.row u,hs.setCell (Ne.symm (row_ne_map' hM.row hs)) u,World.ownsRow_nil _ _ _ _,fun q hq=>(by cases hq),World.ownsRow_nil _ _ _ _,fun q hq=>(by cases hq),hL,hS,Nat.le_trans hLW hb.size,⟨l1,l2,l3,l4,l5,l6,l7⟩⟩,rfl,rfl⟩
 obtain⟨m,hm⟩:=hM.glob;exact⟨m,(hb.cell (p:=⟨0,0,none⟩) l7).trans hm⟩
def OrderP (s:St) (fs:List Pl.File) (g:Pl.Bs) (W:World) (e:Ending) (W' :World):Prop:=
 Below W.heap.size W W' ∧((g=[]∧e= .returned (.tuple #[.slice none 0 0,.int .i64 8]))∨(g≠[]∧2000<g.length∧e= .returned (.tuple #[.slice none 0 0,.int .i64 5]))∨
  (g≠[]∧g.length≤2000∧∃r,FromR s fs (usL s fs s.pats) (enterF s fs (usL s fs s.pats) wst0 g) r∧
   ((r.1≠0∧e= .returned (.tuple #[.slice none 0 0,.int .i64 (r.1:Int)]))∨(r.1=0∧100<r.2.over.length∧e= .returned (.tuple #[.slice none 0 0,.int .i64 5]))∨
     (r.1=0∧r.2.over.length≤100∧∃(vv:Value) (qv:List Vq),e= .returned (.tuple #[vv,.int .i64 0])∧W'.ownsRow W.heap.size 197 5 vv qv.length (qv.flatMap vnC)∧(∀q∈qv,VqT W' q)∧qv.map Vq.nd=r.2.over))))
theorem order_go (gl g:Pl.Bs) (k:Nat) (hg:(gl=g∧gl≠[])∨(gl=[]∧g=s.first)) (I:Wst→Prop) (m:Wst→Nat) (hF:FromOk s fs (usL s fs s.pats) I m) (h0:(enterF s fs (usL s fs s.pats) wst0 g).1=0→I (enterF s fs (usL s fs s.pats) wst0 g).2) (hB:BM W c rb s vp l) (hp:PW W c.bx bf bi ve ef fs clock) (hgl:Glob W) (hok:Ok s k) (hne:g≠[]) (hln:g.length≤2000):
 Calls Tryz.prog 65 #[.pointer (some ⟨c.bb,0,none⟩),.pointer (some ⟨c.bx,0,none⟩),.string ⟨gl.toArray⟩] W fun e W' =>OrderP s fs g W e W' :=by
 have hmm:= @run_makeMap Tryz.prog;have hempty:g.isEmpty=false:=by rw[←Bool.not_eq_true,List.isEmpty_iff];exact hne
 have hln2:¬(2000:Int)<(g.length:Int):=by omega
 have z1:(W.alloc (.map #[] 0)).heap.size=W.heap.size+1:=World.size_alloc _ _;have b1:=((Below.refl W.heap.size W).alloc (Nat.le_refl _) (.map #[] 0)).alloc (by omega) (.cells #[.pointer (some ⟨c.bb,0,none⟩),.pointer (some ⟨c.bx,0,none⟩),.slice none 0 0,.map (some W.heap.size),.slice none 0 0,.slice none 0 0] 193)
 have rW:=Row.new (W.alloc (.map #[] 0)) 193 [.pointer (some ⟨c.bb,0,none⟩),.pointer (some ⟨c.bx,0,none⟩),.slice none 0 0,.map (some W.heap.size),.slice none 0 0,.slice none 0 0];rw[z1] at rW
 have mS:=(SMap.made W).later ((Below.refl _ (W.alloc (.map #[] 0))).alloc (Nat.le_refl _) (.cells #[.pointer (some ⟨c.bb,0,none⟩),.pointer (some ⟨c.bx,0,none⟩),.slice none 0 0,.map (some W.heap.size),.slice none 0 0,.slice none 0 0] 193))
 have hlow:c.nm<W.heap.size∧c.bt<W.heap.size∧c.pb<W.heap.size∧c.bx<W.heap.size∧bf<W.heap.size∧bi<W.heap.size∧0<W.heap.size:=⟨hB.names.lt,hB.tgts.lt,hB.phony.lt,hp.row.lt,hp.files.lt,by obtain⟨l,q,-⟩:=hp.first;exact q.lt,glob_lt hgl⟩
 have hxs:∀i∈s.pats,i<s.rules.length∧(rlOf s i).nd.length≤2000∧∀n∈(rlOf s i).nd,n.length≤2000:=fun i hi=>⟨hB.pl i hi,(rlOf_ok hok (hB.pl i hi)).nl,(rlOf_ok hok (hB.pl i hi)).nw⟩
 have hpt:=hok.pt;have h64:=hok.n64
 have hus:∀x∈usL s fs s.pats,x.1<s.rules.length∧(rlOf s x.1).tg≠[]∧(∀y∈(rlOf s x.1).tg,y.length≤2000)∧x.2.length≤2000∧∀n∈x.2,n.length≤2000:=fun x hx=>by
  unfold usL at hx;obtain⟨i,hi,rfl⟩:=List.mem_map.1 hx;have hip:=hB.pl i (List.mem_filter.1 hi).1;have ho:=rlOf_ok hok hip;exact⟨hip,ho.ne,ho.tw,Nat.le_trans (List.length_filter_le _ _) ho.nl,fun n hn=>ho.nw n (List.mem_filter.1 hn).1⟩
 have hul:=usL_len s fs s.pats;have p1:=Row.cell? (i:=1) hB.book rfl;have hlb:c.bb<W.heap.size:=Row.lt hB.book;obtain⟨ap,cp,hvp⟩:=hB.pats.sh;rw[List.length_map] at hvp;rw[hvp] at p1
 have hW1:WkM ((W.alloc (.map #[] 0)).alloc (.cells #[.pointer (some ⟨c.bb,0,none⟩),.pointer (some ⟨c.bx,0,none⟩),.slice none 0 0,.map (some W.heap.size),.slice none 0 0,.slice none 0 0] 193)) (W.heap.size+1) c rb s vp l bf bi ve ef fs clock (.slice none 0 0) (.map (some W.heap.size)) (.slice none 0 0) (.slice none 0 0):=⟨rW,hB.later b1,hp.later b1,hgl.later b1⟩
 have CU:=hide (usable_any s.pats vp hW1 (hW1.bm.pats) hxs (by omega));rw[hvp] at CU
 have CF:Hid (∀w2 u,Below ((W.alloc (.map #[] 0)).alloc (.cells #[.pointer (some ⟨c.bb,0,none⟩),.pointer (some ⟨c.bx,0,none⟩),.slice none 0 0,.map (some W.heap.size),.slice none 0 0,.slice none 0 0] 193)).heap.size ((W.alloc (.map #[] 0)).alloc (.cells #[.pointer (some ⟨c.bb,0,none⟩),.pointer (some ⟨c.bx,0,none⟩),.slice none 0 0,.map (some W.heap.size),.slice none 0 0,.slice none 0 0] 193)) w2→PaT w2 rb u (usL s fs s.pats)→
  Row w2 (W.heap.size+1) 193 [.pointer (some ⟨c.bb,0,none⟩),.pointer (some ⟨c.bx,0,none⟩),.slice none 0 0,.map (some W.heap.size),.slice none 0 0,.slice none 0 0]∧Calls Tryz.prog 92 #[.pointer (some ⟨W.heap.size+1,0,none⟩),.string ⟨g.toArray⟩] (w2.setCell ⟨W.heap.size+1,2,none⟩ u) fun e W' =>∃r,FromR s fs (usL s fs s.pats) (enterF s fs (usL s fs s.pats) wst0 g) r∧e= .returned (.int .i64 (r.1:Int))∧GoS W' W.heap.size (W.heap.size+1) W.heap.size c rb s vp l bf bi ve ef fs clock (usL s fs s.pats) u r.2∧Below W.heap.size W W'):=fun w2 u hb2 hpa=>by
  refine⟨rW.later hb2,?_⟩;have hbW:=b1.trans (hb2.mono b1.size);refine(from_any (t:=wst0) g k I m hF (goS0 (Nat.le_succ _) (Nat.le_refl _) (hW1.later hb2) hpa (mS.later hb2) hbW.size hlow) h0 hus (by omega) hok (by omega) (by decide) (by decide)).mono ?_
  rintro e w' ⟨r,q1,q2,q3,q4⟩
  exact⟨r,q1,q2,q3,(hbW.setCell (p:=⟨W.heap.size+1,2,none⟩) (Nat.le_succ _) u).trans q4⟩
 have C1:=hide (bookFirst_any c.bb c.nm c.bt c.pb vp s.first W hB.book);clear hW1 rW mS b1 hB hp hgl hF h0 hus hxs
 go_enter Tryz.func65,Tryz.ntmps65
 rcases hg with⟨rfl,-⟩|⟨rfl,hg⟩
 case' inr=>rw[←hg] at C1;clear hg
 all_goals go_wp2_with (first
  |(go_at_call 90;refine(uh C1).mono ?_;clear C1;rintro e w1 ⟨rfl,hw1⟩;rw[hw1];clear hw1)
  |(go_at_call 91;refine(uh CU).mono ?_;clear CU;rintro e w2 ⟨u,rfl,hpa,hb2⟩;obtain⟨au,cu,hau⟩:=hpa.sh;subst hau;obtain⟨r2,cf⟩:=uh CF w2 _ hb2 hpa;have y2:=r2.cell? (i:=2) rfl;have z2:=r2.frozen 2;have CF2:=hide cf;clear hpa hb2 r2 cf CF)
  |(go_at_call 92;refine(uh CF2).mono ?_;clear CF2;rintro e w3 ⟨r,q1,rfl,q3,q4⟩;obtain⟨vo,vv,qo,qv,hM,ho,hv⟩:=q3;have y5:=hM.wkm.row.cell? (i:=5) rfl;obtain⟨av,cv,hvv⟩:=own_sh hM.ovr;subst hvv;have HQ1:=hide q1;have HM:=hide hM;have HV:=hide hv;have HB4:=hide q4;clear q1 q4 hM ho hv)
  |fail)
 ·rename_i h1
  go_ret2
  have h0:r.1≠0:=fun q=>by rw[q] at h1;exact absurd h1 (by decide)
  exact⟨uh HB4,.inr (.inr ⟨hne,hln,r,uh HQ1,.inl ⟨h0,rfl⟩⟩)⟩
 ·rename_i h1 _ _ h2
  go_ret2
  have h0:r.1=0:=by rw[bne_eq_false_iff_eq] at h1;omega
  have hl:qv.length=r.2.over.length:=by rw[←uh HV,List.length_map]
  exact⟨uh HB4,.inr (.inr ⟨hne,hln,r,uh HQ1,.inr (.inl ⟨h0,by omega,rfl⟩)⟩)⟩
 ·rename_i h1 h2
  go_ret2
  have h0:r.1=0:=by rw[bne_eq_false_iff_eq] at h1;omega
  have hl:qv.length=r.2.over.length:=by rw[←uh HV,List.length_map]
  have M:=uh HM;exact⟨uh HB4,.inr (.inr ⟨hne,hln,r,uh HQ1,.inr (.inr ⟨h0,by omega,_,qv,rfl,M.ovr,M.ovv,uh HV⟩)⟩)⟩
 ·rename_i h1
  go_ret2
  have h0:r.1≠0:=fun q=>by rw[q] at h1;exact absurd h1 (by decide)
  exact⟨uh HB4,.inr (.inr ⟨hne,hln,r,uh HQ1,.inl ⟨h0,rfl⟩⟩)⟩
 ·rename_i h1 _ _ h2
  go_ret2
  have h0:r.1=0:=by rw[bne_eq_false_iff_eq] at h1;omega
  have hl:qv.length=r.2.over.length:=by rw[←uh HV,List.length_map]
  exact⟨uh HB4,.inr (.inr ⟨hne,hln,r,uh HQ1,.inr (.inl ⟨h0,by omega,rfl⟩)⟩)⟩
 ·rename_i h1 h2
  go_ret2
  have h0:r.1=0:=by rw[bne_eq_false_iff_eq] at h1;omega
  have hl:qv.length=r.2.over.length:=by rw[←uh HV,List.length_map]
  have M:=uh HM;exact⟨uh HB4,.inr (.inr ⟨hne,hln,r,uh HQ1,.inr (.inr ⟨h0,by omega,_,qv,rfl,M.ovr,M.ovv,uh HV⟩)⟩)⟩
end
def goalF (s:St) (gl:Pl.Bs):Pl.Bs:=if gl=[] then s.first else gl
section
variable {W:World} {c:Ad} {rb:Nat→Nat} {s:St} {vp:Value} {l:Ents} {bf bi:Nat} {ve:Value} {ef:List Pl.Eff} {fs:List Pl.File} {clock:Int}
theorem order_none (hB:BM W c rb s vp l) (h:s.first=[]):
 Calls Tryz.prog 65 #[.pointer (some ⟨c.bb,0,none⟩),.pointer (some ⟨c.bx,0,none⟩),.string ⟨([]:Pl.Bs).toArray⟩] W fun e W' =>OrderP s fs [] W e W' :=by
 have C1:=hide (bookFirst_any c.bb c.nm c.bt c.pb vp s.first W hB.book);rw[h] at C1;clear hB h
 go_enter Tryz.func65,Tryz.ntmps65
 go_wp2_with (first
  |(go_at_call 90;refine(uh C1).mono ?_;clear C1;rintro e w1 ⟨rfl,hw1⟩;rw[hw1];clear hw1)
  |fail)
 go_ret2
 exact⟨Below.refl _ _,.inl ⟨rfl,rfl⟩⟩
theorem order_long (gl g:Pl.Bs) (hg:(gl=g∧gl≠[])∨(gl=[]∧g=s.first)) (hB:BM W c rb s vp l) (hne:g≠[]) (hln:2000<g.length):
 Calls Tryz.prog 65 #[.pointer (some ⟨c.bb,0,none⟩),.pointer (some ⟨c.bx,0,none⟩),.string ⟨gl.toArray⟩] W fun e W' =>OrderP s fs g W e W' :=by
 have hempty:g.isEmpty=false:=by rw[←Bool.not_eq_true,List.isEmpty_iff];exact hne
 have hln2:(2000:Int)<(g.length:Int):=by omega
 have C1:=hide (bookFirst_any c.bb c.nm c.bt c.pb vp s.first W hB.book);clear hB
 go_enter Tryz.func65,Tryz.ntmps65
 rcases hg with⟨rfl,-⟩|⟨rfl,hg⟩
 case' inr=>rw[←hg] at C1;clear hg
 all_goals go_wp2_with (first
  |(go_at_call 90;refine(uh C1).mono ?_;clear C1;rintro e w1 ⟨rfl,hw1⟩;rw[hw1];clear hw1)
  |fail)
 all_goals go_ret2
 all_goals exact⟨Below.refl _ _,.inr (.inl ⟨hne,hln,rfl⟩)⟩
theorem order_any (gl:Pl.Bs) (k:Nat) (hF:goalF s gl≠[]→(goalF s gl).length≤2000→∃I m,FromOk s fs (usL s fs s.pats) I m∧((enterF s fs (usL s fs s.pats) wst0 (goalF s gl)).1=0→I (enterF s fs (usL s fs s.pats) wst0 (goalF s gl)).2)) (hB:BM W c rb s vp l) (hp:PW W c.bx bf bi ve ef fs clock) (hgl:Glob W) (hok:Ok s k):
 Calls Tryz.prog 65 #[.pointer (some ⟨c.bb,0,none⟩),.pointer (some ⟨c.bx,0,none⟩),.string ⟨gl.toArray⟩] W fun e W' =>OrderP s fs (goalF s gl) W e W' :=by
 have hg:(gl=goalF s gl∧gl≠[])∨(gl=[]∧goalF s gl=s.first):=by
  unfold goalF
  by_cases h:gl=[]
  ·exact .inr ⟨h,if_pos h⟩
  ·exact .inl ⟨(if_neg h).symm,h⟩
 by_cases h1:goalF s gl=[]
 ·rcases hg with⟨q1,q2⟩|⟨q1,q2⟩
  ·exact absurd (q1.trans h1) q2
  ·rw[h1,q1]
   exact order_none hB (q2.symm.trans h1)
 ·by_cases h2:2000<(goalF s gl).length
  ·exact order_long gl _ hg hB h1 h2
  ·obtain⟨I,m,q1,q2⟩:=hF h1 (by omega)
   exact order_go gl _ k hg I m q1 q2 hB hp hgl hok h1 (by omega)
end
def keysF (fl:Flags):List Pl.Bs:=fl.map (·.1)
theorem flPut_key (k:Pl.Bs) (v:Nat):∀(fl:Flags) (y:Pl.Bs),y∈keysF (flPut fl k v)→y=k∨y∈keysF fl
 |[],y,h=>by
  simp only[flPut,keysF,List.map_cons,List.map_nil,List.mem_cons,List.not_mem_nil,or_false] at h;exact .inl h
 |(k',v')::r,y,h=>by
  simp only[flPut] at h;split at h
  ·rename_i e
   simp only[keysF,List.map_cons,List.mem_cons] at h⊢
   rcases h with h|h
   ·first|exact .inr (.inl h)|exact .inl h
   ·exact .inr (.inr h)
  ·simp only[keysF,List.map_cons,List.mem_cons] at h⊢
   rcases h with h|h
   ·exact .inr (.inl h)
   ·rcases flPut_key k v r y h with q|q
    ·exact .inl q
    ·exact .inr (.inr q)
theorem flPut_ge (k:Pl.Bs) (v:Nat):∀fl:Flags,fl.length≤(flPut fl k v).length
 |[]=>Nat.zero_le _
 |(k',v')::r=>by
  simp only[flPut];split
  ·exact Nat.le_refl _
  ·have:=flPut_ge k v r
   simp only[List.length_cons];omega
theorem flPut_new (k:Pl.Bs) (v:Nat):∀fl:Flags,k∉keysF fl→flPut fl k v=fl++[(k,v)]
 |[],_=>rfl
 |(k',v')::r,h=>by
  simp only[keysF,List.map_cons,List.mem_cons,not_or] at h;have e:=flPut_new k v r h.2;simp only[flPut];split
  ·rename_i q
   exact absurd (by first|exact q.symm|exact q|exact(beq_iff_eq.1 q).symm|exact beq_iff_eq.1 q) h.1
  ·rw[e];rfl
theorem flPut_nodup (k:Pl.Bs) (v:Nat):∀fl:Flags,(keysF fl).Nodup→(keysF (flPut fl k v)).Nodup
 |[],_=>by simp[flPut,keysF]
 |(k',v')::r,h=>by
  simp only[keysF,List.map_cons,List.nodup_cons] at h;simp only[flPut];split
  ·rename_i q
   simp only[keysF,List.map_cons,List.nodup_cons]
   first|exact h|(have q2:k' =k:=(by first|exact q|exact q.symm|exact beq_iff_eq.1 q);rw[←q2];exact h)
  ·rename_i q
   simp only[keysF,List.map_cons,List.nodup_cons];refine⟨fun hm=> ?_,flPut_nodup k v r h.2⟩
   rcases flPut_key k v r k' hm with e|e
   ·exact q (by first|exact e|exact e.symm|exact beq_iff_eq.2 e)
   ·exact h.1 e
theorem flPut_fl (k:Pl.Bs) (v:Nat) (p:Nat→Prop) (hv:p v):∀fl:Flags,(∀x∈fl,p x.2)→∀x∈flPut fl k v,p x.2
 |[],_,x,hx=>by
  simp only[flPut,List.mem_cons,List.not_mem_nil,or_false] at hx;rw[hx];exact hv
 |(k',v')::r,h,x,hx=>by
  simp only[flPut] at hx;split at hx
  ·rcases List.mem_cons.1 hx with q|q
   ·rw[q];exact hv
   ·exact h x (List.mem_cons_of_mem _ q)
  ·rcases List.mem_cons.1 hx with q|q
   ·rw[q];exact h _ (List.mem_cons_self ..)
   ·exact flPut_fl k v p hv r (fun y hy=>h y (List.mem_cons_of_mem _ hy)) x q
theorem flagOf_key (k:Pl.Bs) (p:Nat→Prop) (fl:Flags) (h:∀x∈fl,p x.2) (hk:k∈keysF fl):p (flagOf fl k):=by
 obtain⟨x,hx,e⟩:=List.mem_map.1 hk;unfold flagOf;cases hf:fl.find? fun x=>x.1==k with
 |none=>
  have:=List.find?_eq_none.1 hf x hx;exact absurd (beq_iff_eq.2 e) this
 |some z=>exact h z (List.mem_of_find?_eq_some hf)
theorem nodupU:∀(xs U:List Pl.Bs),xs.Nodup→(∀x∈xs,x∈U)→xs.length≤U.length
 |[],_,_,_=>Nat.zero_le _
 |x::r,U,h,hs=>by
  rw[List.nodup_cons] at h;have hx:=hs x (List.mem_cons_self ..);have ih:=nodupU r (U.erase x) h.2 (fun y hy=>(List.mem_erase_of_ne (fun (q:y=x)=>h.1 (q▸hy))).2 (hs y (List.mem_cons_of_mem _ hy)));rw[List.length_erase_of_mem hx] at ih;have:=List.length_pos_of_mem hx;rw[List.length_cons];omega
def restN:List (Nod×Nat)→Nat
 |[]=>0
 |x::r=>(x.1.needs.length-x.2+1)+restN r
theorem restN_append (a b:List (Nod×Nat)):restN (a++b)=restN a+restN b:=by
 induction a with
 |nil=>simp[restN]
 |cons x r ih=>rw[List.cons_append,restN,restN,ih];omega
structure Uni (s:St) (fs:List Pl.File) (us:List (Nat×List Pl.Bs)) (U:List Pl.Bs) (C:Nat):Prop where
 needs:∀name,∀y∈(nodeF s fs us name).1.needs,y∈U
 len:∀name,(nodeF s fs us name).1.needs.length≤C
 cl:C≤4294967296
 ul:U.length≤4294967296
 wl:∀y∈U,y.length≤1073741824
structure WInv (U:List Pl.Bs) (C:Nat) (t:Wst):Prop where
 key:∀x∈keysF t.sts,x∈U
 nd:(keysF t.sts).Nodup
 fl:∀x∈t.sts,x.2=1∨x.2=2
 op:∀x∈t.opn,x.1.name∈U∧x.2≤x.1.needs.length∧x.1.needs.length≤C∧∀y∈x.1.needs,y∈U
 on:t.opn.length≤t.sts.length
def wMs (U:List Pl.Bs) (C:Nat) (t:Wst):Nat:=(U.length-t.sts.length)*(C+2)+restN t.opn
theorem nodeF_name (s:St) (fs:List Pl.File) (us:List (Nat×List Pl.Bs)) (name:Pl.Bs):(nodeF s fs us name).1.name=name:=by
 unfold nodeF;split
 ·split<;>rfl
 ·rfl
section
variable {s:St} {fs:List Pl.File} {us:List (Nat×List Pl.Bs)} {U:List Pl.Bs} {C:Nat} {t:Wst}
theorem WInv.le (h:WInv U C t):t.sts.length≤U.length:=by
 have:=nodupU _ U h.nd h.key;unfold keysF at this
 rwa [List.length_map] at this
theorem enter_inv (hU:Uni s fs us U C) (h:WInv U C t) (name:Pl.Bs) (hn:name∈U) (h0:(enterF s fs us t name).1=0):
 WInv U C (enterF s fs us t name).2∧wMs U C (enterF s fs us t name).2≤wMs U C t:=by
 unfold enterF at h0⊢
 by_cases h2:flagOf t.sts name=2
 ·rw[if_pos h2] at h0⊢;exact⟨h,Nat.le_refl _⟩
 rw[if_neg h2] at h0⊢
 by_cases h1:flagOf t.sts name=1
 ·rw[if_pos h1] at h0;cases h0
 rw[if_neg h1] at h0⊢
 by_cases h3:(nodeF s fs us name).2=false
 ·rw[if_pos h3] at h0;cases h0
 rw[if_neg h3] at h0⊢
 have hk:name∉keysF t.sts:=fun q=>by
  rcases flagOf_key name (fun v=>v=1∨v=2) t.sts h.fl q with e|e
  ·exact h1 e
  ·exact h2 e
 have e:=flPut_new name 1 t.sts hk
 have hI:WInv U C {t with sts:=flPut t.sts name 1,opn:=t.opn++[((nodeF s fs us name).1,0)]}:=by
  refine⟨fun x hx=> ?_,flPut_nodup _ _ _ h.nd,flPut_fl name 1 (fun v=>v=1∨v=2) (.inl rfl) _ h.fl,fun x hx=> ?_,?_⟩
  ·rcases flPut_key name 1 t.sts x hx with q|q
   ·rw[q];exact hn
   ·exact h.key x q
  ·rcases List.mem_append.1 hx with q|q
   ·exact h.op x q
   ·rw[List.mem_singleton] at q
    rw[q];exact⟨by rw[nodeF_name];exact hn,Nat.zero_le _,hU.len name,hU.needs name⟩
  ·have:=h.on
   simp only[e,List.length_append,List.length_cons,List.length_nil];omega
 refine⟨hI,?_⟩;have hl:=hI.le;simp only[e,List.length_append,List.length_cons,List.length_nil] at hl;unfold wMs;simp only[e,List.length_append,List.length_cons,List.length_nil,restN_append,restN];have hc:=hU.len name;obtain⟨d,hd⟩:∃d,U.length-t.sts.length=d+1:=⟨U.length-t.sts.length-1,by omega⟩;have hd2:U.length-(t.sts.length+(0+1))=d:=by omega
 rw[hd,hd2,Nat.succ_mul];omega
theorem from_ok (hU:Uni s fs us U C):FromOk s fs us (WInv U C) (wMs U C) where
 step t x h hl h0:=by
  obtain⟨d,hd⟩:=List.getLast?_eq_some_iff.1 hl;have hx:=h.op x (by rw[hd];exact List.mem_append_right _ (List.mem_singleton.2 rfl));have hdl:t.opn.dropLast=d:=by rw[hd,List.dropLast_concat]
  unfold goOnF at h0⊢;rw[hl] at h0⊢;simp only at h0⊢
  by_cases hq:x.2=x.1.needs.length
  ·rw[if_pos hq] at h0⊢
   unfold leaveF;rw[hl];simp only[hdl];have hg:=flPut_ge x.1.name 2 t.sts;have hon:=h.on;rw[hd,List.length_append] at hon;refine⟨⟨fun y hy=> ?_,flPut_nodup _ _ _ h.nd,flPut_fl x.1.name 2 (fun v=>v=1∨v=2) (.inr rfl) _ h.fl,fun y hy=>h.op y (by rw[hd];exact List.mem_append_left _ hy),?_⟩,?_⟩
   ·rcases flPut_key x.1.name 2 t.sts y hy with q|q
    ·rw[q];exact hx.1
    ·exact h.key y q
   ·simp only;omega
   ·unfold wMs
    rw[hd,restN_append];simp only[restN];have:=Nat.mul_le_mul_right (C+2) (Nat.sub_le_sub_left hg U.length);omega
  ·rw[if_neg hq] at h0⊢
   rw[hdl] at h0⊢;have hlt:x.2<x.1.needs.length:=by omega
   have hy:x.1.needs.getD x.2 []∈U:=by
    rw[List.getD_eq_getElem?_getD,List.getElem?_eq_getElem hlt];exact hx.2.2.2 _ (List.getElem_mem hlt)
   have hI:WInv U C {t with opn:=d++[(x.1,x.2+1)]}:=by
    refine⟨h.key,h.nd,h.fl,fun y hy=> ?_,?_⟩
    ·rcases List.mem_append.1 hy with q|q
     ·exact h.op y (by rw[hd];exact List.mem_append_left _ q)
     ·rw[List.mem_singleton] at q
      rw[q];exact⟨hx.1,hlt,hx.2.2⟩
    ·have:=h.on
     rw[hd] at this;simp only[List.length_append,List.length_cons,List.length_nil] at this⊢;exact this
   obtain⟨q1,q2⟩:=enter_inv hU hI _ hy h0;refine⟨q1,Nat.lt_of_le_of_lt q2 ?_⟩;unfold wMs;rw[hd,restN_append,restN_append];simp only[restN];omega
 lk t x h hl:=by
  obtain⟨d,hd⟩:=List.getLast?_eq_some_iff.1 hl;have hx:=h.op x (by rw[hd];exact List.mem_append_right _ (List.mem_singleton.2 rfl));exact⟨hx.2.1,Nat.le_trans hx.2.2.1 hU.cl,fun y hy=>hU.wl y (hx.2.2.2 y hy)⟩
 sz t h:=⟨Nat.le_trans h.le hU.ul,Nat.le_trans h.on (Nat.le_trans h.le hU.ul)⟩
theorem winv0:WInv U C wst0:=⟨fun x hx=>(by cases hx),List.nodup_nil,fun x hx=>(by cases hx),fun x hx=>(by cases hx),Nat.le_refl _⟩
theorem walk_ok (hU:Uni s fs us U C) (g:Pl.Bs) (hg:g∈U):∃I m,FromOk s fs us I m∧((enterF s fs us wst0 g).1=0→I (enterF s fs us wst0 g).2):=
 ⟨WInv U C,wMs U C,from_ok hU,fun h=>(enter_inv hU winv0 g hg h).1⟩
end
structure LnKept (P:St→Prop):Prop where
 assign:∀s l,P s→P (assignF s l).2
 command:∀s op l,P s→P (commandF s op l).2
 rule:∀s l,P s→P (ruleF s l).2.2
 ctr:∀s a b,P s→P {s with inc:=a,opn:=b}
section
variable {P:St→Prop} {rec:St→Pl.Bs→Nat×Nat×St} {fs:List Pl.File}
theorem fileF_kept (hP:LnKept P) (hr:∀s t,P s→P (rec s t).2.2) {s:St} (h:P s) (w:Pl.Bs) (num:Nat):P (fileF rec fs s w num).2.2:=by
 unfold fileF;split
 ·exact h
 ·split
  ·exact h
  ·split
   ·exact h
   ·exact hP.ctr _ _ _ (hr _ _ (hP.ctr s _ _ h))
theorem filesF_kept (hP:LnKept P) (hr:∀s t,P s→P (rec s t).2.2) (num:Nat):∀(ws:List Pl.Bs) (s:St),P s→P (filesF rec fs num ws s).2.2
 |[],s,h=>h
 |w::ws,s,h=>by
  have h1:=fileF_kept (fs:=fs) hP hr h w num;unfold filesF;split
  ·exact h1
  ·exact filesF_kept hP hr num ws _ h1
theorem lineF_kept (hP:LnKept P) (hr:∀s t,P s→P (rec s t).2.2) {s:St} (h:P s) (op:Option Nat) (l:Mk.Ln):P (lineF rec fs s op l).2.2.2:=by
 unfold lineF;split
 ·exact hP.command s op l h
 ·split
  ·exact hP.rule s l h
  ·split
   ·unfold includeF
    split
    ·exact h
    ·exact filesF_kept hP hr _ _ _ h
   ·exact hP.assign s l h
theorem linesF_kept (hP:LnKept P) (hr:∀s t,P s→P (rec s t).2.2):∀(xs:List (Mk.Ln×Nat)) (s:St) (op:Option Nat),P s→P (linesF rec fs xs s op).2.2
 |[],s,op,h=>h
 |x::xs,s,op,h=>by
  have h1:=lineF_kept (fs:=fs) hP hr h op x.1;unfold linesF;split
  ·exact h
  ·split
   ·exact h1
   ·exact linesF_kept hP hr xs _ _ h1
theorem readF_kept (hP:LnKept P):∀d s text,P s→P (readF fs d s text).2.2
 |0,s,_,h=>linesF_kept hP (fun _ _ h=>h) _ s none h
 |d+1,s,_,h=>linesF_kept hP (readF_kept hP d) _ s none h
theorem bookF_kept (hP:LnKept P) (h:P st0) (path:Pl.Bs):P (bookF fs path).2.2:=by
 unfold bookF;split
 ·exact h
 ·exact readF_kept hP 3 st0 _ h
end
structure Tgs (s:St):Prop where
 tg:∀n,s.of n≠[]→∃r∈s.rules,n∈r.tg
theorem ofAdd_of (i:Nat) (n:Pl.Bs):∀(tg:List Pl.Bs) (s:St),(tg.foldl (ofAdd i) s).of n≠[]→s.of n≠[]∨n∈tg
 |[],s,h=> .inl h
 |t::r,s,h=>by
  rw[List.foldl_cons] at h
  rcases ofAdd_of i n r (ofAdd i s t) h with q|q
  ·by_cases e:n=t
   ·exact .inr (by rw[e];exact List.mem_cons_self ..)
   ·refine .inl ?_
    have e2:(ofAdd i s t).of n=s.of n:=by
     show ofPut s.of t (s.of t++[i]) n=s.of n;unfold ofPut
     first|exact if_neg e|exact if_neg (fun q=>e q.symm)
    rwa [e2] at q
  ·exact .inr (List.mem_cons_of_mem _ q)
theorem Tgs.add {s:St} (h:Tgs s) (tg nd:List Pl.Bs):Tgs (addF s tg nd).2:=by
 have up:∀n r',(∃r∈s.rules,n∈r.tg)→∃r∈s.rules++[r'],n∈r.tg:=fun n r' ⟨r,q1,q2⟩=>⟨r,List.mem_append_left _ q1,q2⟩
 unfold addF;split
 ·exact⟨h.tg⟩
 ·split
  ·exact⟨fun n hn=>up n _ (h.tg n hn)⟩
  ·have key:∀f:Pl.Bs,Tgs (tg.foldl (ofAdd s.rules.length) {s with rules:=s.rules++[⟨tg,onceB nd [],[]⟩],first:=f}):=fun f=>by
    have e:=(ofAdd_fold s.rules.length tg {s with rules:=s.rules++[⟨tg,onceB nd [],[]⟩],first:=f}).2.1;refine⟨fun n hn=> ?_⟩;rw[e]
    rcases ofAdd_of _ n tg _ hn with q|q
    ·exact up n _ (h.tg n q)
    ·exact⟨⟨tg,onceB nd [],[]⟩,List.mem_append_right _ (List.mem_singleton.2 rfl),q⟩
   unfold explicitF;simp only;split
   ·exact key _
   ·exact key s.first
theorem tgs_kept:LnKept Tgs where
 assign s l h:=by
  unfold assignF;split<;>exact⟨h.tg⟩
 command s op l h:=by
  unfold commandF;split
  ·exact h
  ·split
   ·exact h
   ·rename_i i _ r hr
    split
    ·exact h
    ·refine⟨fun n hn=> ?_⟩
     obtain⟨q,h1,h2⟩:=h.tg n hn;obtain⟨j,hj⟩:=List.getElem?_of_mem h1
     by_cases e:i=j
     ·subst e
      rw[hr] at hj;cases hj;have hi:i<s.rules.length:=(List.getElem?_eq_some_iff.1 hr).1;exact⟨{r with cs:=r.cs++[(l.right,l.number)]},List.mem_of_getElem? (i:=i) (by simp[hi]),h2⟩
     ·exact⟨q,List.mem_of_getElem? (i:=j) (by rw[List.getElem?_set_ne e];exact hj),h2⟩
 rule s l h:=by
  unfold ruleF;split
  ·exact h
  ·split
   ·exact h
   ·split
    ·exact h
    ·split
     ·exact h
     ·exact Tgs.add (s:={s with n:=s.n+1}) ⟨h.tg⟩ _ _
 ctr s a b h:=⟨h.tg⟩
theorem tgs_book (fs:List Pl.File) (path:Pl.Bs):Tgs (bookF fs path).2.2:=bookF_kept tgs_kept ⟨fun _ hn=>absurd rfl hn⟩ path
theorem fill_none {n stem:Pl.Bs} (h:placeB n=false):fillB n stem=n:=by
 unfold placeB Lib.contains at h;rw[decide_eq_false_iff_not] at h;have hg:=Lib.index_ge n [37];have hm:Lib.index n [37]= -1:=by omega
 unfold fillB Lib.replaceAll Lib.replace;split
 ·rfl
 ·have e:Lib.replaceNum n [37] (-1)=0:=by
   unfold Lib.replaceNum;rw[if_pos (.inl (by decide)),Lib.count_miss hm]
  rw[e];rfl
theorem fitL_all {s:St} {fs:List Pl.File} {name:Pl.Bs}:∀{us:List (Nat×List Pl.Bs)} {i:Nat} {stem:Pl.Bs},fitL s fs name us=some (i,stem)→∃x∈us,x.1=i∧x.2.all (thereB fs (tgB s) stem)=true
 |[],_,_,h=>by cases h
 |x::r,i,stem,h=>by
  rw[fitL] at h;split at h
  ·rename_i q
   cases h;exact⟨x,List.mem_cons_self ..,rfl,q.2⟩
  ·obtain⟨y,h1,h2⟩:=fitL_all h
   exact⟨y,List.mem_cons_of_mem _ h1,h2⟩
def uniL (s:St) (fs:List Pl.File) (g:Pl.Bs):List Pl.Bs:=g::((s.rules.map (·.nd)).flatten++((s.rules.map (·.tg)).flatten++fs.map (·.path)))
theorem flatR_len (f:Rl→List Pl.Bs) (B:Nat):∀xs:List Rl,(∀r∈xs,(f r).length≤B)→(xs.map f).flatten.length≤xs.length*B
 |[],_=>by simp
 |x::r,h=>by
  have ih:=flatR_len f B r (fun i hi=>h i (List.mem_cons_of_mem _ hi));have h1:=h x (List.mem_cons_self ..);rw[List.map_cons,List.flatten_cons,List.length_append,List.length_cons,Nat.succ_mul];omega
section
variable {s:St} {fs:List Pl.File} {g:Pl.Bs} {k:Nat}
theorem rlOf_mem {i:Nat} (hi:i<s.rules.length):rlOf s i∈s.rules:=by
 have e:rlOf s i=s.rules[i]:=by unfold rlOf;simp[hi]
 rw[e];exact List.getElem_mem hi
theorem nd_uni {i:Nat} (hi:i<s.rules.length) {y:Pl.Bs} (hy:y∈(rlOf s i).nd):y∈uniL s fs g:=
 List.mem_cons_of_mem _ (List.mem_append_left _ (List.mem_flatten.2 ⟨_,List.mem_map.2 ⟨_,rlOf_mem hi,rfl⟩,hy⟩))
theorem needsL_uni {xs:List Nat} (hx:∀i∈xs,i<s.rules.length) {y:Pl.Bs} (hy:y∈needsL s xs):y∈uniL s fs g:=by
 unfold needsL at hy;split at hy
 ·rename_i h1
  match xs,h1,hx,hy with
  |[i],_,hx,hy=>exact nd_uni (hx i (List.mem_cons_self ..)) hy
 ·rcases(onceB_len _ _).2 y hy with q|q
  ·obtain⟨z,h1,h2⟩:=List.mem_flatten.1 q
   obtain⟨i,h3,rfl⟩:=List.mem_map.1 h1;exact nd_uni (hx i h3) h2
  ·cases q
theorem there_uni (ht:Tgs s) {stem n:Pl.Bs} (h:thereB fs (tgB s) stem n=true):fillB n stem∈uniL s fs g:=by
 unfold thereB at h;rw[Bool.or_eq_true] at h
 rcases h with h|h
 ·cases hl:Pl.look fs (fillB n stem) with
  |none=>rw[hl] at h;cases h
  |some f=>
   by_cases q:fillB n stem∈fs.map (·.path)
   ·exact List.mem_cons_of_mem _ (List.mem_append_right _ (List.mem_append_right _ q))
   ·rw[Pl.look_none.2 q] at hl;cases hl
 ·unfold tgB at h
  have h1:=of_decide_eq_true h;obtain⟨r,h2,h3⟩:=ht.tg (fillB n stem) (fun e=>by rw[e] at h1;cases h1);exact List.mem_cons_of_mem _ (List.mem_append_right _ (List.mem_append_left _ (List.mem_flatten.2 ⟨_,List.mem_map.2 ⟨r,h2,rfl⟩,h3⟩)))
theorem needsL_most (hok:Ok s k) (name:Pl.Bs) (hol:∀i∈s.of name,i<s.rules.length):(needsL s (s.of name)).length≤256000000:=by
 have h1:=hok.ol name;have h2:=hok.tl;have h3:=hok.n64;have h4:=flat_len (fun i=>(rlOf s i).nd) 2000 (s.of name) (fun i hi=>(rlOf_ok hok (hol i hi)).nl);unfold needsL;split
 ·rename_i e
  match s.of name,e,hol with
  |[i],_,hol=>
   have:=(rlOf_ok hok (hol i (List.mem_cons_self ..))).nl;simp only[List.headD_cons];omega
 ·have:=(onceB_len (((s.of name).map fun i=>(rlOf s i).nd).flatten) []).1
  rw[List.length_nil] at this;omega
theorem uni_any (hok:Ok s k) (ht:Tgs s) (hol:∀name,∀i∈s.of name,i<s.rules.length) (hpl:∀i∈s.pats,i<s.rules.length) (hfl:fs.length≤4000000000) (hfp:∀f∈fs,f.path.length≤1073741824) (hg:g.length≤1073741824):
 Uni s fs (usL s fs s.pats) (uniL s fs g) 256002000:=by
 have hfit:∀name i stem,fitL s fs name (usL s fs s.pats)=some (i,stem)→i<s.rules.length∧∀n∈(rlOf s i).nd,fillB n stem∈uniL s fs g:=fun name i stem h=>by
  obtain⟨x,h1,h2,h3⟩:=fitL_all h;unfold usL at h1;obtain⟨j,h4,rfl⟩:=List.mem_map.1 h1;simp only at h2 h3;subst h2;have hj:=hpl j (List.mem_filter.1 h4).1;refine⟨hj,fun n hn=> ?_⟩
  by_cases hp:placeB n=true
  ·exact there_uni ht (List.all_eq_true.1 h3 n (List.mem_filter.2 ⟨hn,hp⟩))
  ·rw[fill_none (by simpa using hp)]
   exact nd_uni hj hn
 refine⟨fun name y hy=> ?_,fun name=> ?_,by decide,?_,fun y hy=> ?_⟩
 ·have h0:y∈(nod0 s name).needs→y∈uniL s fs g:=fun h=>needsL_uni (hol name) h
  unfold nodeF at hy;split at hy
  ·split at hy
   ·rename_i i stem e
    obtain⟨h1,h2⟩:=hfit name i stem e
    rcases(onceB_len _ _).2 y hy with q|q
    ·rcases List.mem_append.1 q with q|q
     ·obtain⟨n,h3,rfl⟩:=List.mem_map.1 q
      exact h2 n h3
     ·exact needsL_uni (hol name) q
    ·cases q
   ·exact h0 hy
  ·exact h0 hy
 ·have hl:=needsL_most hok name (hol name)
  have h0:(nod0 s name).needs.length≤256002000:=by
   show(needsL s (s.of name)).length≤_;omega
  unfold nodeF;split
  ·split
   ·rename_i i stem e
    have h1:=(rlOf_ok hok (hfit name i stem e).1).nl;have h2:=(onceB_len (((rlOf s i).nd.map fun n=>fillB n stem)++needsL s (s.of name)) []).1;rw[List.length_append,List.length_map,List.length_nil] at h2;show(onceB (((rlOf s i).nd.map fun n=>fillB n stem)++needsL s (s.of name)) []).length≤_;omega
   ·exact h0
  ·exact h0
 ·have h1:=flatR_len (·.nd) 2000 s.rules (fun r hr=>(hok.rs r hr).nl)
  have h2:=flatR_len (·.tg) 2000 s.rules (fun r hr=>(hok.rs r hr).tl);have h3:=hok.rl;have h4:=hok.n64;unfold uniL;rw[List.length_cons,List.length_append,List.length_append,List.length_map];omega
 ·rcases List.mem_cons.1 hy with q|q
  ·rw[q];exact hg
  ·rcases List.mem_append.1 q with q|q
   ·obtain⟨z,h1,h2⟩:=List.mem_flatten.1 q
    obtain⟨r,h3,rfl⟩:=List.mem_map.1 h1;have:=(hok.rs r h3).nw y h2;omega
   ·rcases List.mem_append.1 q with q|q
    ·obtain⟨z,h1,h2⟩:=List.mem_flatten.1 q
     obtain⟨r,h3,rfl⟩:=List.mem_map.1 h1;have:=(hok.rs r h3).tw y h2;omega
    ·obtain⟨f,h1,rfl⟩:=List.mem_map.1 q
     exact hfp f h1
end
end Go.Proofs.YtjelacjggijmfaaGreatDoor
