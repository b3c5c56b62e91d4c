/-
  Plans that are written: what stands for one node is sound, and does what is told of nodes.
-/
import Derived.Test.YtjelacjggijmfaaGreatDoorTGFA
import Derived.Test.YtjelacjggijmfaaGreatDoorTWRB
import Derived.Test.YtjelacjggijmfaaGreatDoorTWP3
set_option maxHeartbeats 4000000
set_option maxRecDepth 100000
namespace Go.Proofs.YtjelacjggijmfaaGreatDoor
open Go.RowKit Go.MapKept Go.ChangeMaps Go.Maps
theorem uni_len {s:St} {fs:List Pl.File} {g:Pl.Bs} {k P:Nat} (hok:Ok s k) (hP:2000≤P) (hfp:∀f∈fs,f.path.length≤P) (hg:g.length≤2000):∀y∈uniL s fs g,y.length≤P:=fun y hy=>by
 rcases List.mem_cons.1 hy with q|q
 ·rw[q];omega
 ·rcases List.mem_append.1 q with q|q
  ·obtain⟨z,h1,h2⟩:=List.mem_flatten.1 q
   obtain⟨r,h3,rfl⟩:=List.mem_map.1 h1;have:=(hok.rs r h3).nw y h2;omega
  ·rcases List.mem_append.1 q with q|q
   ·obtain⟨z,h1,h2⟩:=List.mem_flatten.1 q
    obtain⟨r,h3,rfl⟩:=List.mem_map.1 h1;have:=(hok.rs r h3).tw y h2;omega
   ·obtain⟨f,h1,rfl⟩:=List.mem_map.1 q
    exact hfp f h1
def NmB (s:St) (fs:List Pl.File) (g:Pl.Bs) (P:Nat):Prop:=g.length≤2000→∀r,FromR s fs (usL s fs s.pats) (enterF s fs (usL s fs s.pats) wst0 g) r→r.1=0→r.2.over.length≤100→∀x∈r.2.over,x.name.length≤P
def OrderQ (s:St) (fs:List Pl.File) (g:Pl.Bs) (nm:Nat) (W:World) (e:Ending) (W' :World):Prop:=
 ∃(nv:Value) (er:Nat),e= .returned (.tuple #[nv,.int .i64 (er:Int)])∧Below W.heap.size W W' ∧
  ((er≠0∧OrderT s fs g ([],er,0))∨(er=0∧∃nodes,(∀R r,StepsR (nOf s.names) nodes 0 [] R→StepsT R r→OrderT s fs g r)∧Calls Tryz.prog 66 #[nv,.map (some nm)] W' fun e W2=>StepsQ (nOf s.names) nodes W' e W2))
theorem order_text {W:World} {c:Ad} {rb:Nat→Nat} {s:St} {vp:Value} {l:Ents} {bf bi:Nat} {ve:Value} {ef:List Pl.Eff} {fs:List Pl.File} {clock:Int} (gl:Pl.Bs) (k P:Nat) (hB:BM W c rb s vp l) (hp:PW W c.bx bf bi ve ef fs clock) (hgl:Glob W) (hok:Ok s k) (hk:k≤2000000000) (ht:Tgs s) (hu:NdU s) (hfl:fs.length≤4000000000) (hP2:P≤80000) (hfp:∀f∈fs,f.path.length≤8388608) (hnm:NmB s fs (goalF s gl) P):
 Calls Tryz.prog 65 #[.pointer (some ⟨c.bb,0,none⟩),.pointer (some ⟨c.bx,0,none⟩),.string ⟨gl.toArray⟩] W fun e W' =>OrderQ s fs (goalF s gl) c.nm W e W' :=by
 have hU:(goalF s gl).length≤2000→Uni s fs (usL s fs s.pats) (uniL s fs (goalF s gl)) 256002000:=fun h=>uni_any hok ht hB.ol hB.pl hfl (fun f hf=>Nat.le_trans (hfp f hf) (by omega)) (by omega)
 refine(order_any gl k (fun _ h2=>walk_ok (hU h2) _ (List.mem_cons_self ..)) hB hp hgl hok).mono ?_
 rintro e w2 ⟨hb,⟨q1,q2⟩|⟨q1,q2,q3⟩|⟨q1,q2,r,q3,⟨q4,q5⟩|⟨q4,q5,q6⟩|⟨q4,q5,vv,qv,q6,q7,q8,q9⟩⟩⟩
 ·exact⟨_,8,q2,hb,.inl ⟨by decide,.inl ⟨q1,rfl⟩⟩⟩
 ·exact⟨_,5,q3,hb,.inl ⟨by decide,.inr (.inl ⟨q1,q2,rfl⟩)⟩⟩
 ·exact⟨_,r.1,q5,hb,.inl ⟨q4,.inr (.inr ⟨q1,q2,r,q3,.inl ⟨q4,rfl⟩⟩)⟩⟩
 ·exact⟨_,5,q6,hb,.inl ⟨by decide,.inr (.inr ⟨q1,q2,r,q3,.inr (.inl ⟨q4,q5,rfl⟩)⟩)⟩⟩
 ·have hov:=(walk_ov q3 q4).1
  have hnm' :=hnm q2 r q3 q4 q5;have hw:=walk_inv (hU q2) (List.mem_cons_self ..) q3 q4;have hul:=uni_len hok (P:=8388608) (by omega) hfp q2;have hne:=over_ne q3 q4;have hlen:qv.length=r.2.over.length:=by rw[←q9,List.length_map]
  have hus:∀x∈usL s fs s.pats,x.1<s.rules.length:=fun x hx=>by
   unfold usL at hx;obtain⟨i,hi,rfl⟩:=List.mem_map.1 hx;exact hB.pl i (List.mem_filter.1 hi).1
  refine⟨vv,0,q6,hb,.inr ⟨rfl,qv.map Vq.nd,fun R t a1 a2=> .inr (.inr ⟨q1,q2,r,q3,.inr (.inr ⟨q4,q5,R,by rw[←q9];exact a1,a2⟩)⟩),?_⟩⟩;refine steps_text (P:=P) q7 q8 (hB.later hb).names hok.short (hgl.later hb) (by omega) (by omega) (fun x hx=> ?_) hP2 (fun x hx=> ?_)
  ·rw[q9] at hx
   exact over_ndb hok hk hu hB.ol hus 8388608 (Nat.le_refl _) hul hw hov q5 hx
  ·rw[q9] at hx
   obtain⟨z1,z2⟩:=over_needs hu hov q5 hx;refine⟨hnm' x hx,z1,fun n hn=> ?_⟩;obtain⟨y,a,b⟩:=z2 n hn;rw[←b];exact hnm' y a
theorem text_read (fs0:List Pl.File) (path goal:Pl.Bs) (a:Option Addr) (cap b o M P:Nat) (W:World) (ha:0<fs0.length→a=some ⟨b,o,none⟩) (hr:RdF W b o fs0) (hbw:b<W.heap.size) (hfl:fs0.length≤8388608) (hg:Glob W)
 (hf:∀p g,Pl.look (fs0.foldl Pl.addF []) p=some g→g.text.length+1≤M∧g.text.length≤1073741824) (hM:101*M≤2000000000) (hl4:(fs0.foldl Pl.addF []).length≤4000000000) (hP2:P≤80000) (hfp:∀f∈fs0.foldl Pl.addF [],f.path.length≤8388608) (hnm:NmB (bookF (fs0.foldl Pl.addF []) path).2.2 (fs0.foldl Pl.addF []) (goalF (bookF (fs0.foldl Pl.addF []) path).2.2 goal) P) (hz:(bookF (fs0.foldl Pl.addF []) path).1=0):
 Calls Tryz.prog 40 #[.slice a fs0.length cap,.string ⟨path.toArray⟩,.string ⟨goal.toArray⟩] W fun e W' =>TextP (fs0.foldl Pl.addF []) path goal W e W' :=by
 have C1:=hide (worldNew_any fs0 [] a none cap b o 0 W.heap.size b 0 0 W ha hr hbw hfl (fun q=>(by cases q)) ⟨hbw,fun i h=>(by cases h)⟩ (Nat.le_refl _) (by decide));rw[List.length_nil] at C1;obtain⟨k,hok,hk⟩:=book_ok hf path;have ht:=tgs_book (fs0.foldl Pl.addF []) path;have hu:=ndu_book (fs0.foldl Pl.addF []) path
 have HT:Hid (∀r,OrderT (bookF (fs0.foldl Pl.addF []) path).2.2 (fs0.foldl Pl.addF []) (goalF (bookF (fs0.foldl Pl.addF []) path).2.2 goal) r→TextR (fs0.foldl Pl.addF []) path goal r):=fun r h=> .inr ⟨hz,h⟩
 have C2:Hid (∀w1 bx bf bi,PW w1 bx bf bi (.slice none 0 0) [] (fs0.foldl Pl.addF []) 0→Below W.heap.size W w1→Calls Tryz.prog 64 #[.pointer (some ⟨bx,0,none⟩),.string ⟨path.toArray⟩] w1 fun e w2=>∃bb nm,e= .returned (.tuple #[.pointer (some ⟨bb,0,none⟩),.int .i64 0,.int .i64 0])∧
  Calls Tryz.prog 65 #[.pointer (some ⟨bb,0,none⟩),.pointer (some ⟨bx,0,none⟩),.string ⟨goal.toArray⟩] w2 fun e w3=>OrderQ (bookF (fs0.foldl Pl.addF []) path).2.2 (fs0.foldl Pl.addF []) (goalF (bookF (fs0.foldl Pl.addF []) path).2.2 goal) nm w2 e w3∧w3.cell? ⟨bb,0,none⟩=some (.map (some nm))∧Below W.heap.size W w3):=fun w1 bx bf bi hp hb=>by
  refine(rulesRead_any bx path w1 hp (hg.later hb) hf (by omega)).mono ?_
  rintro e w2 ⟨q1,-,q3⟩
  obtain⟨c,G,rb,e1,e2,e3,-⟩:=q3 hz;obtain⟨vp,l,hB⟩:=RdM.bm e3;refine⟨c.bb,c.nm,e2,?_⟩;have hp2:=hp.later q1;rw[←e1] at hp2⊢;refine(order_text goal k P hB hp2 ((hg.later hb).later q1) hok (by omega) ht hu hl4 hP2 hfp hnm).mono ?_
  rintro e w3 hq
  have hq' :=hq;obtain⟨_,_,_,h3,_⟩:=hq;exact⟨hq',Row.cell? (i:=0) (hB.later h3).book rfl,(hb.trans (q1.mono hb.size)).trans (h3.mono (hb.trans (q1.mono hb.size)).size)⟩
 clear ha hr hg hf hfp hok ht hu hz hnm;generalize (bookF (fs0.foldl Pl.addF []) path).2.2=s at*;generalize goalF s goal=g at*;generalize fs0.foldl Pl.addF []=fs at*
 go_enter Tryz.func40,Tryz.ntmps40
 go_wp2_with (first
  |(go_at_call 61;refine(uh C1).mono ?_;clear C1;rintro e w1 ⟨bx,bf,bi,rfl,hp,hb,-,-,-⟩;have C3:=hide (uh C2 w1 bx bf bi hp hb);clear hp hb C2)
  |(go_at_call 64;refine(uh C3).mono ?_;clear C3;rintro e w2 ⟨bb,nm,rfl,co⟩;have C4:=hide co;clear co)
  |(go_at_call 65;refine(uh C4).mono ?_;clear C4;rintro e w3 ⟨⟨nv,er,rfl,-,ho⟩,y0,hb3⟩;have HB:=hide hb3;have H5:Hid ((((er:Int) !=0)=true→TextR fs path goal ([],er,0))∧(((er:Int) !=0)=false→∃nodes,(∀R r,StepsR (nOf s.names) nodes 0 [] R→StepsT R r→TextR fs path goal r)∧Calls Tryz.prog 66 #[nv,.map (some nm)] w3 fun e W2=>StepsQ (nOf s.names) nodes w3 e W2)):=(by
   rcases ho with⟨o1,o2⟩|⟨o1,nodes,o2,o3⟩
   ·exact⟨fun _=>uh HT _ o2,fun q=>absurd (bne_eq_false_iff_eq.1 q) (by omega)⟩
   ·exact⟨fun q=>absurd o1 (by have:=bne_iff_ne.1 q;omega),fun _=>⟨nodes,fun R r a1 a2=>uh HT r (o2 R r a1 a2),o3⟩⟩);clear hb3 ho HT)
  |(go_at_call 66;obtain⟨nodes,o2,o3⟩:=(uh H5).2 (by assumption);clear H5;refine o3.mono ?_;clear o3;rintro e w4 ⟨sv,er2,ln2,rfl,hb4,R,hR,hs⟩;have HB4:=hide ((uh HB).trans (hb4.mono (uh HB).size));have H6:Hid ((((er2:Int) !=0)=true→TextR fs path goal ([],er2,ln2))∧(((er2:Int) !=0)=false→∃po:Option Pl.Bs,TextR fs path goal (match po with
   |none=>([],5,0)
   |some p=>(p,0,0))∧Calls Tryz.prog 67 #[sv] w4 fun e W2=>e= .returned (textV po)∧Below w4.heap.size w4 W2)):=(by
   rcases hs with⟨o1,q2⟩|⟨o1,po,q2,q3⟩
   ·exact⟨fun _=>o2 _ _ hR q2,fun q=>absurd (bne_eq_false_iff_eq.1 q) (by omega)⟩
   ·exact⟨fun q=>absurd o1 (by have:=bne_iff_ne.1 q;omega),fun _=>⟨po,o2 _ _ hR q2,q3⟩⟩);clear hb4 hR hs o2 HB)
  |fail)
 ·rename_i q
  go_ret3
  exact⟨_,(uh H5).1 q,rfl,uh HB⟩
 ·rename_i q
  go_ret3
  exact⟨_,(uh H6).1 q,rfl,uh HB4⟩
 ·obtain⟨po,p1,p2⟩:=(uh H6).2 (by assumption)
  refine p2.mono ?_
  rintro e w5 ⟨rfl,hb5⟩
  have HB5:=hide ((uh HB4).trans (hb5.mono (uh HB4).size));clear hb5 p2 H6;cases po with
  |none=>
   unfold textV
   go_wp2_with fail
   go_ret3
   exact⟨_,p1,rfl,uh HB5⟩
  |some p=>
   unfold textV
   go_wp2_with fail
   go_ret3
   exact⟨_,p1,rfl,uh HB5⟩
theorem text_any (fs0:List Pl.File) (path goal:Pl.Bs) (a:Option Addr) (cap b o M P:Nat) (W:World) (ha:0<fs0.length→a=some ⟨b,o,none⟩) (hr:RdF W b o fs0) (hbw:b<W.heap.size) (hfl:fs0.length≤8388608) (hg:Glob W)
 (hf:∀p g,Pl.look (fs0.foldl Pl.addF []) p=some g→g.text.length+1≤M∧g.text.length≤1073741824) (hM:101*M≤2000000000) (hl4:(fs0.foldl Pl.addF []).length≤4000000000) (hP2:P≤80000) (hfp:∀f∈fs0.foldl Pl.addF [],f.path.length≤8388608) (hnm:NmB (bookF (fs0.foldl Pl.addF []) path).2.2 (fs0.foldl Pl.addF []) (goalF (bookF (fs0.foldl Pl.addF []) path).2.2 goal) P):
 Calls Tryz.prog 40 #[.slice a fs0.length cap,.string ⟨path.toArray⟩,.string ⟨goal.toArray⟩] W fun e W' =>TextP (fs0.foldl Pl.addF []) path goal W e W' :=by
 by_cases hz:(bookF (fs0.foldl Pl.addF []) path).1=0
 ·exact text_read fs0 path goal a cap b o M P W ha hr hbw hfl hg hf hM hl4 hP2 hfp hnm hz
 ·exact text_unread fs0 path goal a cap b o M W ha hr hbw hfl hg hf (by omega) hz
theorem getD_at (a l:Pl.Bs) (k:Nat):(a++l).getD (a.length+k) 0=l.getD k 0:=by
 rw[List.getD_eq_getElem?_getD,List.getD_eq_getElem?_getD,List.getElem?_append_right (Nat.le_add_right _ _),Nat.add_sub_cancel_left]
theorem opAt_at (a l:Pl.Bs) (k:Nat):Pl.opAt (a++l) (a.length+k)=Pl.opAt l k:=by unfold Pl.opAt;rw[getD_at]
theorem opAt_at0 (a l:Pl.Bs):Pl.opAt (a++l) a.length=Pl.opAt l 0:=opAt_at a l 0
theorem two_at (a l:Pl.Bs) (k:Nat):Pl.two (a++l) (a.length+k)=Pl.two l k:=by unfold Pl.two;rw[getD_at,Nat.add_assoc,getD_at]
theorem mkIns_at (a l:Pl.Bs):Pl.mkIns (a++l) a.length=⟨Pl.opAt l 0,a.length,a.length+Pl.isz (Pl.opAt l 0),(Pl.mkIns l 0).first,(Pl.mkIns l 0).second⟩:=by
 unfold Pl.mkIns;rw[opAt_at0,opAt_at,two_at,two_at]
def Seg (c:Pl.Bs) (m p h q h' :Nat):Prop:=∀A:Pl.Aw,(∀x,p≤x→x<q→A x=none)→Pl.Spec c m q h' A→Pl.Spec c m p h A
def SegL (m:Nat) (e:Pl.Bs) (h h' :Nat):Prop:=∀a b:Pl.Bs,Seg (a++(e++b)) m a.length h (a.length+e.length) h'
theorem del_none {A:Pl.Aw} {p:Nat} (h:A p=none):Pl.del A p=A:=by
 funext q
 unfold Pl.del;split
 ·rename_i e;rw[e,h]
 ·rfl
theorem seg_of (a l:Pl.Bs) (m h:Nat) (hop:Pl.opAt l 0≠6) (hz:Pl.isz (Pl.opAt l 0)≠0) (hl:Pl.isz (Pl.opAt l 0)≤l.length) (hok:Pl.okOps m (Pl.mkIns l 0)) (ht:Pl.taken (Pl.opAt l 0)≤h) (hr:Pl.rise (Pl.opAt l 0) h≤16):
 Seg (a++l) m a.length h (a.length+Pl.isz (Pl.opAt l 0)) (Pl.rise (Pl.opAt l 0) h):=fun A hA hs=>by
 have h0:A a.length=none:=hA _ (Nat.le_refl _) (by omega);rw[Pl.spec_step (by rw[List.length_append];omega),mkIns_at,opAt_at0];refine⟨fun q hq=>(by rw[h0] at hq;cases hq),⟨by rw[opAt_at0];exact hz,by rw[opAt_at0,List.length_append];omega⟩,hok,ht,hr,fun e=>absurd e hop,?_⟩;unfold Pl.onward;rw[if_neg (by exact hop)];simp only;rw[del_none h0];exact hs
theorem SegL.nil (m h:Nat):SegL m [] h h:=fun _ _ _ _ hs=>hs
theorem SegL.comp {m h h1 h2:Nat} {e1 e2:Pl.Bs} (x:SegL m e1 h h1) (y:SegL m e2 h1 h2):SegL m (e1++e2) h h2:=fun a b A hA hs=>by
 have k1:=x a (e2++b) A;have k2:=y (a++e1) b A;rw[List.length_append] at k2 hA hs;rw[List.append_assoc] at k2 hs⊢;exact k1 (fun z h1 h2=>hA z h1 (by omega)) (k2 (fun z h1 h2=>hA z (by omega) (by omega)) (by rw[Nat.add_assoc];exact hs))
def Fw (T:List Pl.Bs) (ef:List Pl.Eff) (e:Pl.Bs) (st:List Bool) (fl:Nat→Bool) (X:Pl.Wd) (st' :List Bool) (fl' :Nat→Bool) (X' :Pl.Wd):Prop:=
 ∀(a b:Pl.Bs) (R:Pl.Wd),Pl.Ends (a++(e++b)) T ef a.length st fl X R→Pl.Ends (a++(e++b)) T ef (a.length+e.length) st' fl' X' R
theorem Fw.nil (T:List Pl.Bs) (ef:List Pl.Eff) (st:List Bool) (fl:Nat→Bool) (X:Pl.Wd):Fw T ef [] st fl X st fl X:=fun _ _ _ h=>h
theorem Fw.comp {T:List Pl.Bs} {ef:List Pl.Eff} {e1 e2:Pl.Bs} {st st1 st2:List Bool} {fl fl1 fl2:Nat→Bool} {X X1 X2:Pl.Wd} (x:Fw T ef e1 st fl X st1 fl1 X1) (y:Fw T ef e2 st1 fl1 X1 st2 fl2 X2):Fw T ef (e1++e2) st fl X st2 fl2 X2:=fun a b R h=>by
 have k1:=x a (e2++b) R;have k2:=y (a++e1) b R;rw[List.length_append] at k2⊢;rw[List.append_assoc] at k2;rw[List.append_assoc e1] at h⊢;have:=k2 (k1 h);rw[Nat.add_assoc] at this;exact this
theorem act_op (T:List Pl.Bs) (ef:List Pl.Eff) (a l:Pl.Bs) (st:List Bool) (fl:Nat→Bool) (X:Pl.Wd):Pl.act T ef (Pl.mkIns (a++l) a.length) st fl X=Pl.act T ef ⟨Pl.opAt l 0,a.length,a.length+Pl.isz (Pl.opAt l 0),(Pl.mkIns l 0).first,(Pl.mkIns l 0).second⟩ st fl X:=by rw[mkIns_at]
theorem fw_of {T:List Pl.Bs} {ef:List Pl.Eff} {e:Pl.Bs} {st st' :List Bool} {fl fl' :Nat→Bool} {X X' :Pl.Wd} (hx:X.exit=0) (he:0<e.length) (h:∀a b:Pl.Bs,Pl.act T ef (Pl.mkIns (a++(e++b)) a.length) st fl X=(a.length+e.length,st',fl',X')):Fw T ef e st fl X st' fl' X' :=fun a b R hr=>by
 have:=hr.step (by rw[List.length_append,List.length_append];omega) hx (by rw[h a b];simp only;omega);rw[h a b] at this;exact this
theorem beB2 (n:Nat):Cp.beB n 2=[UInt8.ofNat (n/256),UInt8.ofNat n]:=rfl
theorem two_beB {n:Nat} (h:n<65536) (x:UInt8) (b:Pl.Bs):Pl.two (x::(Cp.beB n 2++b)) 1=n:=by
 rw[beB2];unfold Pl.two;simp only[List.cons_append,List.nil_append,List.getD_cons_succ,List.getD_cons_zero,UInt8.toNat_ofNat'];omega
theorem two_beB3 {n:Nat} (h:n<65536) (x:UInt8) (k:Nat) (b:Pl.Bs):Pl.two (x::(Cp.beB k 2++(Cp.beB n 2++b))) 3=n:=by
 rw[beB2,beB2];unfold Pl.two;simp only[List.cons_append,List.nil_append,List.getD_cons_succ,List.getD_cons_zero,UInt8.toNat_ofNat'];omega
def cAbs (k:Nat):Pl.Bs:=2::Cp.beB k 2
def cNew (k j:Nat):Pl.Bs:=3::(Cp.beB k 2++Cp.beB j 2)
def cFlg (f:Nat):Pl.Bs:=[4,UInt8.ofNat f]
def cGive (k:Nat):Pl.Bs:=7::Cp.beB k 2
def cSet (i:Nat):Pl.Bs:=[8,UInt8.ofNat i]
def cSkip (n:Nat):Pl.Bs:=6::Cp.beB n 2
section
variable {T:List Pl.Bs} {ef:List Pl.Eff} {st:List Bool} {fl:Nat→Bool} {X:Pl.Wd}
theorem seg_push (m h:Nat) (hh:h<16):SegL m [1,1] h (h+1):=fun a b=>
 seg_of a ([1,1]++b) m h (by show(1:Nat)≠6;decide) (by show(2:Nat)≠0;decide) (by show 2≤(1::1::b).length;simp) ⟨fun _=>(by show(1:UInt8).toNat≤1;decide),fun e=>(by rcases e with e|e<;>cases e),fun e=>(by cases e)⟩ (Nat.zero_le _) (by show h-0+1≤16;omega)
theorem fw_push (hx:X.exit=0):Fw T ef [1,1] st fl X (st++[true]) fl X:=fw_of hx (by simp) fun a b=>by
 rw[act_op];rfl
theorem seg_abs {m k:Nat} (hk:k<m) (hk2:k<65536) (h:Nat) (hh:h<16):SegL m (cAbs k) h (h+1):=fun a b=>
 seg_of a (cAbs k++b) m h (by show(2:Nat)≠6;decide) (by show(3:Nat)≠0;decide) (by show 3≤(cAbs k++b).length;simp[cAbs,beB2]) ⟨fun e=>(by cases e),fun _=>(by show Pl.two (2::(Cp.beB k 2++b)) 1<m;rw[two_beB hk2];exact hk),fun e=>(by cases e)⟩ (Nat.zero_le _) (by show h-0+1≤16;omega)
theorem fw_abs {k:Nat} (hk2:k<65536) (hx:X.exit=0):Fw T ef (cAbs k) st fl X (st++[(Pl.look X.files (T.getD k [])).isNone]) fl X:=fw_of hx (by simp[cAbs]) fun a b=>by
 rw[act_op];show(a.length+3,st++[(Pl.look X.files (T.getD (Pl.two (2::(Cp.beB k 2++b)) 1) [])).isNone],fl,X)=_;rw[two_beB hk2];rfl
theorem seg_flg {m:Nat} (f h:Nat) (hh:h<16):SegL m (cFlg f) h (h+1):=fun a b=>
 seg_of a (cFlg f++b) m h (by show(4:Nat)≠6;decide) (by show(2:Nat)≠0;decide) (by show 2≤(cFlg f++b).length;simp[cFlg]) ⟨fun e=>(by cases e),fun e=>(by rcases e with e|e<;>cases e),fun e=>(by cases e)⟩ (Nat.zero_le _) (by show h-0+1≤16;omega)
theorem fw_flg {f:Nat} (hf:f<256) (hx:X.exit=0):Fw T ef (cFlg f) st fl X (st++[fl f]) fl X:=fw_of hx (by simp[cFlg]) fun a b=>by
 rw[act_op];show(a.length+2,st++[fl (UInt8.ofNat f).toNat],fl,X)=_;rw[UInt8.toNat_ofNat',Nat.mod_eq_of_lt hf];rfl
theorem seg_or {m h:Nat} (hh:h<15):SegL m [5] (h+2) (h+1):=fun a b=>
 seg_of a ([5]++b) m (h+2) (by show(5:Nat)≠6;decide) (by show(1:Nat)≠0;decide) (by show 1≤(5::b).length;simp) ⟨fun e=>(by cases e),fun e=>(by rcases e with e|e<;>cases e),fun e=>(by cases e)⟩ (by show 2≤h+2;omega) (by show h+2-2+1≤16;omega)
theorem fw_or (u v:Bool) (hx:X.exit=0):Fw T ef [5] (st++[u]++[v]) fl X (st++[v||u]) fl X:=fw_of hx (by simp) fun a b=>by
 rw[act_op];show(a.length+1,(st++[u]++[v]).dropLast.dropLast++[(st++[u]++[v]).getLast?.getD false||(st++[u]++[v]).dropLast.getLast?.getD false],fl,X)=_;simp
theorem seg_new {m k j:Nat} (hk:k<m) (hk2:k<65536) (hj:j<m) (hj2:j<65536) (h:Nat) (hh:h<16):SegL m (cNew k j) h (h+1):=fun a b=>
 seg_of a (cNew k j++b) m h (by show(3:Nat)≠6;decide) (by show(5:Nat)≠0;decide) (by show 5≤(cNew k j++b).length;simp[cNew,beB2]) ⟨fun e=>(by cases e),fun e=>(by rcases e with e|e<;>cases e),fun _=>(by
  have e1:Pl.two (cNew k j++b) 1=k:=(by unfold cNew;rw[List.cons_append,List.append_assoc,two_beB hk2]);have e2:Pl.two (cNew k j++b) 3=j:=(by unfold cNew;rw[List.cons_append,List.append_assoc,two_beB3 hj2])
  exact⟨(by show Pl.two (cNew k j++b) 1<m;rw[e1];exact hk),(by show Pl.two (cNew k j++b) 3<m;rw[e2];exact hj)⟩)⟩ (Nat.zero_le _) (by show h-0+1≤16;omega)
theorem fw_new {k j:Nat} (hk2:k<65536) (hj2:j<65536) (hx:X.exit=0):Fw T ef (cNew k j) st fl X (st++[Pl.newer X.files (T.getD k []) (T.getD j [])]) fl X:=fw_of hx (by simp[cNew]) fun a b=>by
 rw[act_op];have e1:Pl.two (cNew k j++b) 1=k:=by unfold cNew;rw[List.cons_append,List.append_assoc,two_beB hk2]
 have e2:Pl.two (cNew k j++b) 3=j:=by unfold cNew;rw[List.cons_append,List.append_assoc,two_beB3 hj2]
 show(a.length+5,st++[Pl.newer X.files (T.getD (Pl.two (cNew k j++b) 1) []) (T.getD (Pl.two (cNew k j++b) 3) [])],fl,X)=_;rw[e1,e2];rfl
theorem seg_give {m k:Nat} (hk:k<m) (hk2:k<65536) (h:Nat) (hh:h≤16):SegL m (cGive k) h h:=fun a b=>
 seg_of a (cGive k++b) m h (by show(7:Nat)≠6;decide) (by show(3:Nat)≠0;decide) (by show 3≤(cGive k++b).length;simp[cGive,beB2]) ⟨fun e=>(by cases e),fun _=>(by show Pl.two (7::(Cp.beB k 2++b)) 1<m;rw[two_beB hk2];exact hk),fun e=>(by cases e)⟩ (Nat.zero_le _) (by show h-0+0≤16;omega)
theorem fw_give {k:Nat} (hk2:k<65536) (hx:X.exit=0):Fw T ef (cGive k) st fl X st fl (Pl.giveW ef X (T.getD k [])):=fw_of hx (by simp[cGive]) fun a b=>by
 rw[act_op];show(a.length+3,st,fl,Pl.giveW ef X (T.getD (Pl.two (7::(Cp.beB k 2++b)) 1) []))=_;rw[two_beB hk2];rfl
theorem seg_set {m:Nat} (i h:Nat) (hh:h≤16):SegL m (cSet i) h h:=fun a b=>
 seg_of a (cSet i++b) m h (by show(8:Nat)≠6;decide) (by show(2:Nat)≠0;decide) (by show 2≤(cSet i++b).length;simp[cSet]) ⟨fun e=>(by cases e),fun e=>(by rcases e with e|e<;>cases e),fun e=>(by cases e)⟩ (Nat.zero_le _) (by show h-0+0≤16;omega)
theorem fw_set {i:Nat} (hi:i<256) (hx:X.exit=0):Fw T ef (cSet i) st fl X st (fun q=>if q=i then true else fl q) X:=fw_of hx (by simp[cSet]) fun a b=>by
 rw[act_op];show(a.length+2,st,(fun q=>if q=(UInt8.ofNat i).toNat then true else fl q),X)=_;rw[UInt8.toNat_ofNat',Nat.mod_eq_of_lt hi];rfl
end
def aw0:Pl.Aw:=fun _=>none
theorem spec_put {c:Pl.Bs} {m p h:Nat} (hs:Pl.Spec c m p h aw0):Pl.Spec c m p h (Pl.put aw0 p h):=by
 have e:Pl.del (Pl.put aw0 p h) p=Pl.del aw0 p:=by
  funext q
  unfold Pl.del Pl.put;split
  ·rfl
  ·rfl
 have ha:Pl.agrees (Pl.put aw0 p h) p h:=fun q hq=>by
  unfold Pl.put at hq;rw[if_pos rfl] at hq;cases hq;rfl
 by_cases hp:p<c.length
 ·rw[Pl.spec_step hp] at hs⊢
  obtain⟨_,a,b,d,f,g,i⟩:=hs;refine⟨ha,a,b,d,f,?_,?_⟩
  ·rw[e];exact g
  ·unfold Pl.onward at i⊢
   rw[show (Pl.mkIns c p).at_=p from rfl] at i⊢;rw[e];exact i
 ·rw[Pl.spec_end hp] at hs⊢
  exact⟨ha,hs.2.1,fun q hq=>by unfold Pl.put;rw[if_neg hq];rfl⟩
theorem spec_skip {m n:Nat} (a l:Pl.Bs) (hn:n<65536) (hs:Pl.Spec (a++(cSkip n++l)) m (a.length+3) 0 (Pl.put aw0 (a.length+3+n) 0)):Pl.Spec (a++(cSkip n++l)) m a.length 1 aw0:=by
 have e6:Pl.opAt (cSkip n++l) 0=6:=rfl
 have ef:(Pl.mkIns (cSkip n++l) 0).first=n:=by
  show Pl.two (6::(Cp.beB n 2++l)) 1=n;exact two_beB hn _ _
 have hd:Pl.del aw0 a.length=aw0:=del_none rfl;rw[Pl.spec_step (by simp[cSkip]),mkIns_at,opAt_at0,e6,ef];refine⟨fun q hq=>(by cases hq),⟨by rw[opAt_at0,e6];decide,?_⟩,⟨fun e=>(by cases e),fun e=>(by rcases e with e|e<;>cases e),fun e=>(by cases e)⟩,by decide,by decide,fun _ q hq=> ?_,?_⟩
 ·rw[opAt_at0,e6]
  show a.length+3≤_;simp[cSkip,beB2]
 ·rw[hd] at hq;cases hq
 ·unfold Pl.onward
  simp only[if_true];rw[hd];exact hs
def needC (F K:Pl.Bs→Nat) (name need:Pl.Bs):Pl.Bs:=cFlg (F need)++([5]++(cNew (K name) (K need)++[5]))
def preC (F K:Pl.Bs→Nat) (ph:Bool) (name:Pl.Bs) (needs:List Pl.Bs):Pl.Bs:=if ph then [1,1] else cAbs (K name)++needs.flatMap (needC F K name)
def givesC (K:Pl.Bs→Nat) (cmds:List Pl.Bs):Pl.Bs:=cmds.flatMap fun c=>cGive (K c)
def bodyC (K:Pl.Bs→Nat) (cmds:List Pl.Bs) (i:Nat):Pl.Bs:=givesC K cmds++cSet i
def nodeC (F K:Pl.Bs→Nat) (x:Stp) (i:Nat):Pl.Bs:=preC F K x.ph x.name x.needs++(cSkip (bodyC K x.cmds i).length++bodyC K x.cmds i)
structure KOk (T:List Pl.Bs) (K:Pl.Bs→Nat) (s:Pl.Bs):Prop where
 lt:K s<T.length
 at_:T.getD (K s) []=s
section
variable {T:List Pl.Bs} {F K:Pl.Bs→Nat} {ef:List Pl.Eff}
theorem needC_seg {name need:Pl.Bs} (hT:T.length≤65536) (h1:KOk T K name) (h2:KOk T K need):SegL T.length (needC F K name need) 1 1:=
 (seg_flg _ 1 (by decide)).comp ((seg_or (h:=0) (by decide)).comp ((seg_new h1.lt (Nat.lt_of_lt_of_le h1.lt hT) h2.lt (Nat.lt_of_lt_of_le h2.lt hT) 1 (by decide)).comp (seg_or (h:=0) (by decide))))
theorem needs_seg {name:Pl.Bs} (hT:T.length≤65536) (h1:KOk T K name):∀needs:List Pl.Bs,(∀n∈needs,KOk T K n)→SegL T.length (needs.flatMap (needC F K name)) 1 1
 |[],_=>SegL.nil _ _
 |n::r,h=>by
  rw[List.flatMap_cons];exact(needC_seg hT h1 (h n (List.mem_cons_self ..))).comp (needs_seg hT h1 r fun y hy=>h y (List.mem_cons_of_mem _ hy))
theorem pre_seg {ph:Bool} {name:Pl.Bs} {needs:List Pl.Bs} (hT:T.length≤65536) (h1:ph=false→KOk T K name) (h2:ph=false→∀n∈needs,KOk T K n):SegL T.length (preC F K ph name needs) 0 1:=by
 unfold preC;cases ph with
 |true=>exact seg_push _ 0 (by decide)
 |false=>exact(seg_abs (h1 rfl).lt (Nat.lt_of_lt_of_le (h1 rfl).lt hT) 0 (by decide)).comp (needs_seg hT (h1 rfl) needs (h2 rfl))
theorem gives_seg (hT:T.length≤65536):∀cmds:List Pl.Bs,(∀c∈cmds,KOk T K c)→SegL T.length (givesC K cmds) 0 0
 |[],_=>SegL.nil _ _
 |c::r,h=>by
  unfold givesC;rw[List.flatMap_cons];have hc:=h c (List.mem_cons_self ..);exact(seg_give hc.lt (Nat.lt_of_lt_of_le hc.lt hT) 0 (by decide)).comp (gives_seg hT r fun y hy=>h y (List.mem_cons_of_mem _ hy))
def Rest (m:Nat) (e:Pl.Bs):Prop:=∀a b:Pl.Bs,Pl.Spec (a++(e++b)) m (a.length+e.length) 0 aw0→Pl.Spec (a++(e++b)) m a.length 0 aw0
theorem Rest.nil (m:Nat):Rest m []:=fun _ _ h=>h
theorem Rest.comp {m:Nat} {e1 e2:Pl.Bs} (x:Rest m e1) (y:Rest m e2):Rest m (e1++e2):=fun a b hs=>by
 have k1:=x a (e2++b);have k2:=y (a++e1) b;rw[List.length_append] at k2 hs;rw[List.append_assoc] at k2 hs⊢;exact k1 (k2 (by rw[Nat.add_assoc];exact hs))
structure NdK (T:List Pl.Bs) (K:Pl.Bs→Nat) (x:Stp):Prop where
 name:x.ph=false→KOk T K x.name
 needs:x.ph=false→∀n∈x.needs,KOk T K n
 cmds:∀c∈x.cmds,KOk T K c
theorem node_rest {x:Stp} {i:Nat} (hT:T.length≤65536) (h:NdK T K x) (hb:(bodyC K x.cmds i).length<65536):Rest T.length (nodeC F K x i):=fun a b hs=>by
 unfold nodeC at hs⊢;generalize hB:bodyC K x.cmds i=B at*;have hseg:SegL T.length B 0 0:=by rw[←hB];exact(gives_seg hT x.cmds h.cmds).comp (seg_set i 0 (by decide))
 have hp:=pre_seg (F:=F) hT h.name h.needs;generalize preC F K x.ph x.name x.needs=P at*;have e3:(cSkip B.length).length=3:=rfl;have e0:a++(P++(cSkip B.length++B)++b)=(a++P)++(cSkip B.length++(B++b)):=by simp
 have e1:a++(P++(cSkip B.length++B)++b)=(a++P++cSkip B.length)++(B++b):=by simp
 have e2:a++(P++(cSkip B.length++B)++b)=a++(P++(cSkip B.length++B++b)):=by simp
 have l1:a.length+(P++(cSkip B.length++B)).length=(a++P).length+3+B.length:=by simp only[List.length_append,e3];omega
 have l2:(a++P++cSkip B.length).length=(a++P).length+3:=by simp only[List.length_append,e3]
 rw[l1] at hs;have s1:=spec_put hs;have s2:=hseg (a++P++cSkip B.length) b (Pl.put aw0 ((a++P).length+3+B.length) 0) (fun z _ h2=>by unfold Pl.put;rw[if_neg (by rw[l2] at h2;omega)];rfl) (by rw[←e1,l2];exact s1);rw[←e1,l2,e0] at s2;have s3:=spec_skip (a++P) (B++b) hb s2;rw[←e0,e2] at s3;rw[e2];refine hp a (cSkip B.length++B++b) aw0 (fun _ _ _=>rfl) ?_
 rw[←List.length_append];exact s3
def stB (F:Pl.Bs→Nat) (fl:Nat→Bool) (fs:List Pl.File) (x:Stp):Bool:=x.ph||((Pl.look fs x.name).isNone||x.needs.any fun n=>fl (F n)||Pl.newer fs x.name n)
def gv (ef:List Pl.Eff):List Pl.Bs→Pl.Wd→Pl.Wd
 |[],X=>X
 |c::r,X=>if X.exit=0 then gv ef r (Pl.giveW ef X c) else X
theorem gv_stop (ef:List Pl.Eff) (cs:List Pl.Bs) (X:Pl.Wd) (h:X.exit≠0):gv ef cs X=X:=by
 cases cs with
 |nil=>rfl
 |cons c r=>rw[gv,if_neg h]
def doN (ef:List Pl.Eff) (F:Pl.Bs→Nat) (i:Nat) (x:Stp) (s:(Nat→Bool)×Pl.Wd):(Nat→Bool)×Pl.Wd:=
 if stB F s.1 s.2.files x then((fun q=>if q=i then true else s.1 q),gv ef x.cmds s.2) else s
def doA (ef:List Pl.Eff) (F:Nat→Pl.Bs→Nat):List Stp→Nat→(Nat→Bool)×Pl.Wd→Pl.Wd
 |[],_,s=>s.2
 |x::r,i,s=>if s.2.exit=0 then doA ef F r (i+1) (doN ef (F i) i x s) else s.2
theorem or_fold (p:Pl.Bs→Bool) (q:Pl.Bs→Bool):∀(needs:List Pl.Bs) (u:Bool),needs.foldl (fun u n=>q n||(p n||u)) u=(u||needs.any fun n=>p n||q n)
 |[],u=>by simp
 |n::r,u=>by
  rw[List.foldl_cons,or_fold p q r,List.any_cons];cases u<;>cases p n<;>cases q n<;>simp
variable {fl:Nat→Bool} {X:Pl.Wd}
theorem needs_fw {name:Pl.Bs} (hT:T.length≤65536) (h1:KOk T K name) (hx:X.exit=0):∀(needs:List Pl.Bs) (u:Bool),(∀n∈needs,KOk T K n∧F n<256)→Fw T ef (needs.flatMap (needC F K name)) [u] fl X [needs.foldl (fun u n=>Pl.newer X.files name n||(fl (F n)||u)) u] fl X
 |[],_,_=>Fw.nil _ _ _ _ _
 |n::r,u,h=>by
  obtain⟨hn,hF⟩:=h n (List.mem_cons_self ..);rw[List.flatMap_cons,List.foldl_cons];have k1:Fw T ef (cFlg (F n)) [u] fl X ([]++[u]++[fl (F n)]) fl X:=fw_flg hF hx;have k2:Fw T ef [5] ([]++[u]++[fl (F n)]) fl X ([]++[fl (F n)||u]) fl X:=fw_or u (fl (F n)) hx
  have k3:=fw_new (T:=T) (ef:=ef) (st:=[fl (F n)||u]) (fl:=fl) (Nat.lt_of_lt_of_le h1.lt hT) (Nat.lt_of_lt_of_le hn.lt hT) hx;rw[h1.at_,hn.at_] at k3;have k4:Fw T ef [5] ([]++[fl (F n)||u]++[Pl.newer X.files name n]) fl X ([]++[Pl.newer X.files name n||(fl (F n)||u)]) fl X:=fw_or _ _ hx
  exact(k1.comp (k2.comp (k3.comp k4))).comp (needs_fw hT h1 hx r _ fun y hy=>h y (List.mem_cons_of_mem _ hy))
theorem pre_fw {x:Stp} (hT:T.length≤65536) (h:NdK T K x) (hF:∀n∈x.needs,F n<256) (hx:X.exit=0):Fw T ef (preC F K x.ph x.name x.needs) [] fl X [stB F fl X.files x] fl X:=by
 unfold preC stB;cases hp:x.ph with
 |true=>exact fw_push hx
 |false=>
  have k1:=fw_abs (T:=T) (ef:=ef) (st:=[]) (fl:=fl) (Nat.lt_of_lt_of_le (h.name hp).lt hT) hx;rw[(h.name hp).at_] at k1;have k2:=needs_fw (ef:=ef) (fl:=fl) hT (h.name hp) hx x.needs ((Pl.look X.files x.name).isNone) fun n hn=>⟨h.needs hp n hn,hF n hn⟩
  rw[or_fold] at k2;exact k1.comp k2
theorem skip_ends {n:Nat} {R:Pl.Wd} (a l:Pl.Bs) (u:Bool) (hn:n<65536) (hx:X.exit=0) (h:Pl.Ends (a++(cSkip n++l)) T ef a.length [u] fl X R):Pl.Ends (a++(cSkip n++l)) T ef (if u then a.length+3 else a.length+3+n) [] fl X R:=by
 have e:Pl.act T ef (Pl.mkIns (a++(cSkip n++l)) a.length) [u] fl X=(if u then a.length+3 else a.length+3+n,[],fl,X):=by
  rw[act_op];show(if u then a.length+3 else a.length+3+Pl.two (6::(Cp.beB n 2++l)) 1,[],fl,X)=_;rw[two_beB hn]
 have:=h.step (by simp[cSkip]) hx (by rw[e];cases u<;>simp<;>omega);rw[e] at this;exact this
theorem gives_ends (hT:T.length≤65536):∀(cmds:List Pl.Bs) (X:Pl.Wd) (a b:Pl.Bs) (R:Pl.Wd),(∀c∈cmds,KOk T K c)→X.exit=0→Pl.Ends (a++(givesC K cmds++b)) T ef a.length [] fl X R→((gv ef cmds X).exit=0∧Pl.Ends (a++(givesC K cmds++b)) T ef (a.length+(givesC K cmds).length) [] fl (gv ef cmds X) R)∨((gv ef cmds X).exit≠0∧R=gv ef cmds X)
 |[],X,a,b,R,_,hx,h=> .inl ⟨hx,h⟩
 |c::r,X,a,b,R,hk,hx,h=>by
  have hc:=hk c (List.mem_cons_self ..);have eg:givesC K (c::r)=cGive (K c)++givesC K r:=by unfold givesC;rw[List.flatMap_cons]
  rw[eg] at h⊢;rw[List.append_assoc] at h⊢;have h1:=fw_give (Nat.lt_of_lt_of_le hc.lt hT) hx a (givesC K r++b) R h;rw[hc.at_] at h1;rw[gv,if_pos hx]
  by_cases h0:(Pl.giveW ef X c).exit=0
  ·have:=gives_ends hT r (Pl.giveW ef X c) (a++cGive (K c)) b R (fun y hy=>hk y (List.mem_cons_of_mem _ hy)) h0 (by rw[List.length_append,List.append_assoc];exact h1)
   rw[List.length_append,List.append_assoc] at this;rw[List.length_append,←Nat.add_assoc];exact this
  ·rw[gv_stop _ _ _ h0]
   exact .inr ⟨h0,(h1.stop fun q=>h0 q.2).symm⟩
theorem node_ends {x:Stp} {i:Nat} {R:Pl.Wd} (hT:T.length≤65536) (h:NdK T K x) (hF:∀n∈x.needs,F n<256) (hi:i<256) (hb:(bodyC K x.cmds i).length<65536) (hx:X.exit=0) (a b:Pl.Bs)
 (hr:Pl.Ends (a++(nodeC F K x i++b)) T ef a.length [] fl X R):((doN ef F i x (fl,X)).2.exit=0∧Pl.Ends (a++(nodeC F K x i++b)) T ef (a.length+(nodeC F K x i).length) [] (doN ef F i x (fl,X)).1 (doN ef F i x (fl,X)).2 R)∨((doN ef F i x (fl,X)).2.exit≠0∧R=(doN ef F i x (fl,X)).2):=by
 have hp:=pre_fw (ef:=ef) (fl:=fl) hT h hF hx;unfold nodeC at hr⊢;generalize preC F K x.ph x.name x.needs=P at*;have hB:bodyC K x.cmds i=givesC K x.cmds++cSet i:=rfl;generalize hBn:bodyC K x.cmds i=B at*;have e3:(cSkip B.length).length=3:=rfl;have e0:a++(P++(cSkip B.length++B)++b)=(a++P)++(cSkip B.length++(B++b)):=by simp
 have e2:a++(P++(cSkip B.length++B)++b)=a++(P++(cSkip B.length++B++b)):=by simp
 have e4:a++(P++(cSkip B.length++B)++b)=(a++P++cSkip B.length)++(givesC K x.cmds++(cSet i++b)):=by rw[hB];simp
 have e5:a++(P++(cSkip B.length++B)++b)=(a++P++cSkip B.length++givesC K x.cmds)++(cSet i++b):=by rw[hB];simp
 have l1:a.length+(P++(cSkip B.length++B)).length=(a++P).length+3+B.length:=by simp only[List.length_append,e3];omega
 have l2:(a++P++cSkip B.length).length=(a++P).length+3:=by simp only[List.length_append,e3]
 rw[e2] at hr;have h1:=hp a (cSkip B.length++B++b) R hr;rw[←e2,e0,←List.length_append] at h1;have h2:=skip_ends (a++P) (B++b) _ hb hx h1;unfold doN;cases hs:stB F fl X.files x with
 |false=>
  simp only[hs,Bool.false_eq_true,if_false] at h2⊢;refine .inl ⟨hx,?_⟩;rw[l1,e0];exact h2
 |true=>
  simp only[hs,if_true] at h2⊢;rw[←e0,e4,←l2] at h2
  rcases gives_ends hT x.cmds X (a++P++cSkip B.length) (cSet i++b) R h.cmds hx h2 with⟨q1,q2⟩|⟨q1,q2⟩
  ·refine .inl ⟨q1,?_⟩
   rw[←e4,e5,←List.length_append] at q2;have h3:=fw_set hi q1 (a++P++cSkip B.length++givesC K x.cmds) b R q2;rw[l1,e5]
   have l5:(a++P++cSkip B.length++givesC K x.cmds).length+(cSet i).length=(a++P).length+3+B.length:=by
    have hBl:B.length=(givesC K x.cmds).length+(cSet i).length:=by rw[hB,List.length_append]
    simp only[List.length_append,e3];omega
   rw[←l5];exact h3
  ·exact .inr ⟨q1,q2⟩
end
end Go.Proofs.YtjelacjggijmfaaGreatDoor
