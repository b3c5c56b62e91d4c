/-
  What a goal wants: the walk's memory.
-/
import Derived.Test.YtjelacjggijmfaaGreatDoorTGE5
set_option maxHeartbeats 8000000
set_option maxRecDepth 100000
namespace Go.Proofs.YtjelacjggijmfaaGreatDoor
open Go.RowKit Go.MapKept Go.ChangeMaps Go.Maps
def nod0 (s:St) (name:Pl.Bs):Nod:=⟨name,decide (name∈s.ph),needsL s (s.of name),[],cmdsL s (s.of name)⟩
def nodP (s:St) (name:Pl.Bs) (i:Nat) (stem:Pl.Bs):Nod:=⟨name,decide (name∈s.ph),onceB (((rlOf s i).nd.map fun n=>fillB n stem)++needsL s (s.of name)) [],stem,(rlOf s i).cs⟩
def canB (s:St) (fs:List Pl.File) (name:Pl.Bs):Bool:=tgB s name||decide (name∈s.ph)||(Pl.look fs name).isSome
def nodeF (s:St) (fs:List Pl.File) (us:List (Nat×List Pl.Bs)) (name:Pl.Bs):Nod×Bool:=
 if(cmdsL s (s.of name)).length=0∧decide (name∈s.ph)=false then
  match fitL s fs name us with
  |some (i,stem)=>(nodP s name i stem,true)
  |none=>(nod0 s name,canB s fs name)
 else(nod0 s name,canB s fs name)
theorem flat_len (f:Nat→List Pl.Bs) (B:Nat):∀xs:List Nat,(∀i∈xs,(f i).length≤B)→(xs.map f).flatten.length≤xs.length*B
 |[],_=>by simp
 |x::r,h=>by
  have ih:=flat_len f B r (fun i hi=>h i (List.mem_cons_of_mem _ hi));have h1:=h x (List.mem_cons_self ..);rw[List.map_cons,List.flatten_cons,List.length_append,List.length_cons,Nat.succ_mul];omega
theorem needsL_len (s:St) (xs:List Nat) (h:∀i∈xs,(rlOf s i).nd.length≤2000):(needsL s xs).length≤xs.length*2000:=by
 have hf:=flat_len (fun i=>(rlOf s i).nd) 2000 xs h;unfold needsL;split
 ·next e=>
  cases xs with
  |nil=>simp at e
  |cons x r=>
   have:=h x (List.mem_cons_self ..);simp only[List.headD_cons,List.length_cons] at*;omega
 ·have:=(onceB_len (xs.map fun i=>(rlOf s i).nd).flatten []).1
  simp only[List.length_nil] at this;omega
theorem rlOf_ok {s:St} {k i:Nat} (h:Ok s k) (hi:i<s.rules.length):RlOk (rlOf s i):=by
 have e:rlOf s i=s.rules[i]:=by unfold rlOf;simp[hi]
 rw[e];exact h.rs _ (List.getElem_mem hi)
theorem fitL_mem {s:St} {fs:List Pl.File} {name:Pl.Bs}:∀{us:List (Nat×List Pl.Bs)} {i:Nat} {stem:Pl.Bs},fitL s fs name us=some (i,stem)→(∃x∈us,x.1=i)∧stem.length≤name.length
 |[],_,_,h=>by cases h
 |x::r,i,stem,h=>by
  rw[fitL] at h;split at h
  ·cases h
   exact⟨⟨x,List.mem_cons_self ..,rfl⟩,stemB_len _ _⟩
  ·obtain⟨⟨y,h1,h2⟩,h3⟩:=fitL_mem h
   exact⟨⟨y,List.mem_cons_of_mem _ h1,h2⟩,h3⟩
theorem Bl.trans {W X Y:World} (h:Bl W X) (k:Bl X Y):Bl W Y:=
 ⟨fun j cs fz e=>(k.strs j cs fz ((h.strs j cs fz e).trans e)).trans (h.strs j cs fz e),fun j cs fz e=>(k.cmds j cs fz ((h.cmds j cs fz e).trans e)).trans (h.cmds j cs fz e),fun j cs fz e=>(k.ptrs j cs fz ((h.ptrs j cs fz e).trans e)).trans (h.ptrs j cs fz e),fun j cs fz e=>(k.ruls j cs fz ((h.ruls j cs fz e).trans e)).trans (h.ruls j cs fz e),fun j cs fz e=>(k.book j cs fz ((h.book j cs fz e).trans e)).trans (h.book j cs fz e)⟩
theorem blSet {w:World} {N o:Nat} {vs:List Value} (h:Row w N 197 vs) (u:Value):Bl w (w.setCell ⟨N,o,none⟩ u):=by
 have ty:∀(k:Nat) (cs:Array Value) (e:TypeId) (fz:Nat×Nat),w.heap[k]?=some (Obj.cells cs e fz)→e≠197→(w.setCell ⟨N,o,none⟩ u).heap[k]?=w.heap[k]?:=fun k cs e fz hk he=>Below.heap_setCell w ⟨N,o,none⟩ u k (fun q=>by
  simp only at q;unfold Row at h;rw[q,h] at hk;cases hk
  exact he rfl)
 exact⟨fun k cs fz hk=>ty k cs _ fz hk (by decide),fun k cs fz hk=>ty k cs _ fz hk (by decide),fun k cs fz hk=>ty k cs _ fz hk (by decide),fun k cs fz hk=>ty k cs _ fz hk (by decide),fun k cs fz hk=>ty k cs _ fz hk (by decide)⟩
theorem nodeSet {W0 w:World} {n:Nat} {b0 b1 b2 b3 b4:Value} (h:Row w n 197 [b0,b1,b2,b3,b4]) (hb:Below n W0 w) (a0 a1 a2 a3 a4:Value):
 Row (((((w.setCell ⟨n,0,none⟩ a0).setCell ⟨n,1,none⟩ a1).setCell ⟨n,2,none⟩ a2).setCell ⟨n,3,none⟩ a3).setCell ⟨n,4,none⟩ a4) n 197 [a0,a1,a2,a3,a4]∧
 Bl w (((((w.setCell ⟨n,0,none⟩ a0).setCell ⟨n,1,none⟩ a1).setCell ⟨n,2,none⟩ a2).setCell ⟨n,3,none⟩ a3).setCell ⟨n,4,none⟩ a4)∧
 Below n W0 (((((w.setCell ⟨n,0,none⟩ a0).setCell ⟨n,1,none⟩ a1).setCell ⟨n,2,none⟩ a2).setCell ⟨n,3,none⟩ a3).setCell ⟨n,4,none⟩ a4):=by
 have key:∀k,k≠n→(((((w.setCell ⟨n,0,none⟩ a0).setCell ⟨n,1,none⟩ a1).setCell ⟨n,2,none⟩ a2).setCell ⟨n,3,none⟩ a3).setCell ⟨n,4,none⟩ a4).heap[k]?=w.heap[k]?:=fun k hk=>by
  rw[Below.heap_setCell _ _ _ _ hk,Below.heap_setCell _ _ _ _ hk,Below.heap_setCell _ _ _ _ hk,Below.heap_setCell _ _ _ _ hk,Below.heap_setCell _ _ _ _ hk]
 have ty:∀(k:Nat) (cs:Array Value) (e:TypeId) (fz:Nat×Nat),w.heap[k]?=some (Obj.cells cs e fz)→e≠197→k≠n:=fun k cs e fz hk he q=>by
  unfold Row at h;rw[q,h] at hk;cases hk;exact he rfl
 exact⟨((((h.set 0 a0).set 1 a1).set 2 a2).set 3 a3).set 4 a4,⟨fun k cs fz hk=>key k (ty k cs _ fz hk (by decide)),fun k cs fz hk=>key k (ty k cs _ fz hk (by decide)),fun k cs fz hk=>key k (ty k cs _ fz hk (by decide)),fun k cs fz hk=>key k (ty k cs _ fz hk (by decide)),fun k cs fz hk=>key k (ty k cs _ fz hk (by decide))⟩,
  ((((hb.setCell (p:=⟨n,0,none⟩) (Nat.le_refl _) _).setCell (p:=⟨n,1,none⟩) (Nat.le_refl _) _).setCell (p:=⟨n,2,none⟩) (Nat.le_refl _) _).setCell (p:=⟨n,3,none⟩) (Nat.le_refl _) _).setCell (p:=⟨n,4,none⟩) (Nat.le_refl _) _⟩
section
variable {W X:World} {wk:Nat} {c:Ad} {rb:Nat→Nat} {s:St} {vp:Value} {l:Ents} {bf bi:Nat} {ve:Value} {ef:List Pl.Eff} {fs:List Pl.File} {clock:Int} {v2 v3 v4 v5:Value}
theorem node_any (us:List (Nat×List Pl.Bs)) (name:Pl.Bs) (k:Nat) (h:WkM W wk c rb s vp l bf bi ve ef fs clock v2 v3 v4 v5) (hu:PaT W rb v2 us) (hx:∀x∈us,x.1<s.rules.length∧(rlOf s x.1).tg≠[]∧(∀y∈(rlOf s x.1).tg,y.length≤2000)∧x.2.length≤2000∧∀n∈x.2,n.length≤2000) (hn:us.length≤1073741824) (hok:Ok s k) (hnm:name.length≤1073741824):
 Calls Tryz.prog 189 #[.pointer (some ⟨wk,0,none⟩),.string ⟨name.toArray⟩] W fun e W' =>∃vn vc,e= .returned (.tuple #[.agg #[strV (nodeF s fs us name).1.name,.bool (nodeF s fs us name).1.ph,vn,vc,strV (nodeF s fs us name).1.stem],.bool (nodeF s fs us name).2])∧SlT W' vn (nodeF s fs us name).1.needs∧CmT W' vc (nodeF s fs us name).1.cmds∧Below W.heap.size W W' :=by
 have b0:=(Below.refl W.heap.size W).alloc (Nat.le_refl _) (.cells #[.string ⟨#[]⟩,.bool false,.slice none 0 0,.slice none 0 0,.string ⟨#[]⟩] 197);have rT:=Row.new W 197 [.string ⟨#[]⟩,.bool false,.slice none 0 0,.slice none 0 0,.string ⟨#[]⟩];have c0:=h.row.cell? (i:=0) rfl;have lw:=h.row.lt;obtain⟨ao,co,hof⟩:=(h.bm.of name).sh;rw[List.length_map] at hof
 have hxo:∀i∈s.of name,i<s.rules.length:=h.bm.ol name;have hnd:∀i∈s.of name,(rlOf s i).nd.length≤2000:=fun i hi=>(rlOf_ok hok (hxo i hi)).nl
 have hol:=hok.ol name;have htl:=hok.tl;have h64:=hok.n64;have hflat:=flat_len (fun i=>(rlOf s i).nd) 2000 (s.of name) hnd;have hNL:=needsL_len s (s.of name) hnd;have HW:Hid (∀w,Below W.heap.size W w→WkM w wk c rb s vp l bf bi ve ef fs clock v2 v3 v4 v5∧PaT w rb v2 us):=fun w hw=>⟨h.later hw,hu.later hw⟩
 have CO:Hid (∀w,Below W.heap.size W w→Calls Tryz.prog 236 #[.pointer (some ⟨c.bb,0,none⟩),.string ⟨name.toArray⟩] w fun e w' =>e= .returned (.slice ao (s.of name).length co)∧w' =w):=fun w hw=>bookOf_any c.bb c.nm c.bt c.pb vp s.first l name _ w (uh HW w hw).1.bm.book (uh HW w hw).1.bm.tgts hof
 have CP:Hid (∀w,Below W.heap.size W w→Calls Tryz.prog 237 #[.pointer (some ⟨c.bb,0,none⟩),.string ⟨name.toArray⟩] w fun e w' =>e= .returned (.bool (decide (name∈s.ph)))∧Below w.heap.size w w'):=fun w hw=>isPhony_any c.bb c.nm c.bt c.pb vp s.first s.ph name w (uh HW w hw).1.bm.book (uh HW w hw).1.bm.phony
 have CN:Hid (∀w,Below W.heap.size W w→Calls Tryz.prog 238 #[.slice ao (s.of name).length co] w fun e w' =>∃u,e= .returned u∧SlT w' u (needsL s (s.of name))∧Below w.heap.size w w'):=fun w hw=>needsOf_any (s.of name) _ (uh HW w hw).1.bm (hof▸(uh HW w hw).1.bm.of name) hxo (by omega) (by omega)
 have CC:Hid (∀w,Below W.heap.size W w→Calls Tryz.prog 239 #[.slice ao (s.of name).length co] w fun e w' =>∃u,e= .returned u∧CmT w' u (cmdsL s (s.of name))∧w' =w):=fun w hw=>commandsOf_any (s.of name) _ (uh HW w hw).1.bm (hof▸(uh HW w hw).1.bm.of name) hxo (by omega)
 have CF:Hid (∀w,Below W.heap.size W w→Calls Tryz.prog 240 #[.pointer (some ⟨wk,0,none⟩),.string ⟨name.toArray⟩] w fun e w' =>e= .returned (fitV rb (fitL s fs name us))∧Below w.heap.size w w'):=fun w hw=>fitting_any us name (uh HW w hw).1 (uh HW w hw).2 hx hn hnm
 have CH:Hid (∀w,Below W.heap.size W w→Calls Tryz.prog 174 #[.pointer (some ⟨c.bx,0,none⟩),.string ⟨name.toArray⟩] w fun e w' =>e= .returned (.bool (Pl.look fs name).isSome)∧Below w.heap.size w w'):=fun w hw=>has_any c.bx bf bi ve ef fs clock name w (uh HW w hw).1.pw
 have HNF:Hid (nodeF s fs us name=if(cmdsL s (s.of name)).length=0∧decide (name∈s.ph)=false then match fitL s fs name us with|some (i,stem)=>(nodP s name i stem,true)|none=>(nod0 s name,canB s fs name) else(nod0 s name,canB s fs name)):=rfl;have HB0:=hide b0;have HRT:=hide rT;clear h hu b0 rT hof
 go_enter Tryz.func189,Tryz.ntmps189
 go_upto_region 3 with(first
  |(go_at_call 236;refine(uh CO _ (uh HB0)).mono ?_;clear CO;rintro e w0 ⟨rfl,rfl⟩)
  |(go_at_call 237;refine(uh CP _ (uh HB0)).mono ?_;clear CP;rintro e w1 ⟨rfl,hb1⟩;have HR1:=hide ((uh HRT).later hb1);have HB1:=hide ((uh HB0).trans (hb1.mono (uh HB0).size));clear hb1)
  |(go_at_call 238;refine(uh CN _ (uh HB1)).mono ?_;clear CN;rintro e w2 ⟨vn,rfl,hs2,hb2⟩;have HS2:=hide hs2;have HR2:=hide ((uh HR1).later hb2);have HB2:=hide ((uh HB1).trans (hb2.mono (uh HB1).size));clear hs2 hb2)
  |(go_at_call 239;refine(uh CC _ (uh HB2)).mono ?_;clear CC;rintro e w3 ⟨vc,rfl,hc3,hw3⟩;rw[hw3] at hc3⊢;have HC3:=hide hc3;clear hc3 hw3;obtain⟨an,cn,hvn⟩:=(uh HS2).sh;obtain⟨am,cm,hvc⟩:=(uh HC3).sh;subst hvn hvc)
  |fail)
 have rN:=Row.new w2 197 [.string ⟨name.toArray⟩,.bool (decide (name∈s.ph)),.slice an (needsL s (s.of name)).length cn,.slice am (cmdsL s (s.of name)).length cm,.string ⟨#[]⟩]
 have bV:=(Below.refl w2.heap.size w2).alloc (Nat.le_refl _) (.cells #[.string ⟨name.toArray⟩,.bool (decide (name∈s.ph)),.slice an (needsL s (s.of name)).length cn,.slice am (cmdsL s (s.of name)).length cm,.string ⟨#[]⟩] 197);have hTN:W.heap.size<w2.heap.size:=(uh HR2).lt;have HRTV:=hide ((uh HR2).later bV);have HSV:=hide ((uh HS2).bl (Bl.below bV))
 have HCV:=hide ((uh HC3).bl (Bl.below bV));have HBV:=hide ((uh HB2).trans (bV.mono (uh HB2).size));obtain⟨N,hN⟩:∃N,N=w2.heap.size:=⟨_,rfl⟩;rw[←hN] at rN hTN;rw[←hN];obtain⟨V,hV⟩:∃V,V=w2.alloc (.cells #[.string ⟨name.toArray⟩,.bool (decide (name∈s.ph)),.slice an (needsL s (s.of name)).length cn,.slice am (cmdsL s (s.of name)).length cm,.string ⟨#[]⟩] 197):=⟨_,rfl⟩
 rw[←hV] at rN HRTV HSV HCV HBV⊢;have HRN:=hide rN;have HTG:Hid (tgB s name=decide (0<(s.of name).length)):=rfl;have HCB:Hid (canB s fs name=(tgB s name||decide (name∈s.ph)||(Pl.look fs name).isSome)):=rfl
 have HCL:Hid (0<(cmdsL s (s.of name)).length→0<(s.of name).length):=fun e=>by
  cases hq:s.of name with
  |nil=>rw[hq] at e;simp[cmdsL] at e
  |cons x y=>simp
 have HN0:Hid (nod0 s name=⟨name,decide (name∈s.ph),needsL s (s.of name),[],cmdsL s (s.of name)⟩):=rfl;have HNP:Hid (∀i stem,nodP s name i stem=⟨name,decide (name∈s.ph),onceB (((rlOf s i).nd.map fun n=>fillB n stem)++needsL s (s.of name)) [],stem,(rlOf s i).cs⟩):=fun _ _=>rfl
 clear hV hN HB2 HR2 HS2 HC3 bV HB1 HR1 hxo hnd hflat rN HB0 HRT c0;generalize decide (name∈s.ph)=ph at*;generalize needsL s (s.of name)=nds at*;generalize cmdsL s (s.of name)=cms at*;have g0:=(uh HRN).cell? (i:=0) rfl;have g1:=(uh HRN).cell? (i:=1) rfl;have g2:=(uh HRN).cell? (i:=2) rfl;have g3:=(uh HRN).cell? (i:=3) rfl;have g4:=(uh HRN).cell? (i:=4) rfl
 have y0:=(uh HRTV).cell? (i:=0) rfl;have y1:=(uh HRTV).cell? (i:=1) rfl;have y2:=(uh HRTV).cell? (i:=2) rfl;have y3:=(uh HRTV).cell? (i:=3) rfl;have y4:=(uh HRTV).cell? (i:=4) rfl;have z0:=(uh HRTV).frozen 0;have z1:=(uh HRTV).frozen 1;have z2:=(uh HRTV).frozen 2;have z3:=(uh HRTV).frozen 3;have z4:=(uh HRTV).frozen 4
 by_cases hc:cms.length=0
 ·have u1:((cms.length:Int)==0)=true:=by rw[beq_iff_eq];omega
  cases ph with
  |true=>
   have HFF:Hid (nodeF s fs us name=(⟨name,true,nds,[],cms⟩,true)):=by
    show _=_;rw[uh HNF,if_neg (by simp),uh HN0,uh HCB];simp
   clear HNF HN0 HCB HNP HCL;obtain⟨ph,hph⟩:∃ph,ph=true:=⟨_,rfl⟩
   by_cases he:0<(s.of name).length
   ·have u2:(0:Int)<((s.of name).length:Int):=by omega
    clear hc hph ph
    go_wp2_with fail
    go_region
    all_goals go_wp2_with fail
    all_goals(obtain ⟨hR,hbl,hbb⟩:=nodeSet (uh HRTV) (uh HBV) (.string ⟨name.toArray⟩) (.bool true) (.slice an nds.length cn) (.slice am cms.length cm) (.string ⟨#[]⟩))
    all_goals have o0:=hR.cell? (i:=0) rfl
    all_goals have o1:=hR.cell? (i:=1) rfl
    all_goals have o2:=hR.cell? (i:=2) rfl
    all_goals have o3:=hR.cell? (i:=3) rfl
    all_goals have o4:=hR.cell? (i:=4) rfl
    all_goals refine bodyPost_ret (v:= .tuple #[.agg #[.string ⟨name.toArray⟩,.bool true,.slice an nds.length cn,.slice am cms.length cm,.string ⟨#[]⟩],.bool true]) (by simp[results,Tryz.results189,go_sem,o0,o1,o2,o3,o4]) rfl ?_
    all_goals rw[uh HFF]
    all_goals exact⟨_,_,rfl,((uh HSV).bl hbl).bl (Bl.below (Below.refl _ _).drew),((uh HCV).bl hbl).bl (Bl.below (Below.refl _ _).drew),hbb.drew⟩
   ·have u2:¬(0:Int)<((s.of name).length:Int):=by omega
    clear hc hph ph
    go_wp2_with fail
    go_region
    all_goals go_wp2_with fail
    all_goals(obtain ⟨hR,hbl,hbb⟩:=nodeSet (uh HRTV) (uh HBV) (.string ⟨name.toArray⟩) (.bool true) (.slice an nds.length cn) (.slice am cms.length cm) (.string ⟨#[]⟩))
    all_goals have o0:=hR.cell? (i:=0) rfl
    all_goals have o1:=hR.cell? (i:=1) rfl
    all_goals have o2:=hR.cell? (i:=2) rfl
    all_goals have o3:=hR.cell? (i:=3) rfl
    all_goals have o4:=hR.cell? (i:=4) rfl
    all_goals refine bodyPost_ret (v:= .tuple #[.agg #[.string ⟨name.toArray⟩,.bool true,.slice an nds.length cn,.slice am cms.length cm,.string ⟨#[]⟩],.bool true]) (by simp[results,Tryz.results189,go_sem,o0,o1,o2,o3,o4]) rfl ?_
    all_goals rw[uh HFF]
    all_goals exact⟨_,_,rfl,((uh HSV).bl hbl).bl (Bl.below (Below.refl _ _).drew),((uh HCV).bl hbl).bl (Bl.below (Below.refl _ _).drew),hbb.drew⟩
  |false=>
   have hNF:=uh HNF;rw[if_pos ⟨hc,rfl⟩] at hNF;have CF4:=hide (uh CF V (uh HBV));clear HNF CF;cases hfit:fitL s fs name us with
   |none=>
    rw[hfit] at hNF CF4;unfold fitV at CF4;simp only at hNF CF4
    have HFF:Hid (nodeF s fs us name=(⟨name,false,nds,[],cms⟩,canB s fs name)):=by
     show _=_;rw[hNF,uh HN0]
    clear hNF HN0 HNP HCL hfit
    by_cases he:0<(s.of name).length
    ·have u2:(0:Int)<((s.of name).length:Int):=by omega
     have hcan:canB s fs name=true:=by rw[uh HCB,uh HTG,decide_eq_true he];simp
     rw[hcan] at HFF;clear hc hcan HCB
     go_wp2_with (first
      |(go_at_call 240;refine(uh CF4).mono ?_;clear CF4;rintro e w4 ⟨rfl,hb4⟩;clear g0 g1 g2 g3 g4 y0 y1 y2 y3 y4 z0 z1 z2 z3 z4;have g0:=((uh HRN).later hb4).cell? (i:=0) rfl;have g1:=((uh HRN).later hb4).cell? (i:=1) rfl;have g2:=((uh HRN).later hb4).cell? (i:=2) rfl;have g3:=((uh HRN).later hb4).cell? (i:=3) rfl;have g4:=((uh HRN).later hb4).cell? (i:=4) rfl;have HRT4:=hide ((uh HRTV).later hb4);have y0:=(uh HRT4).cell? (i:=0) rfl;have y1:=(uh HRT4).cell? (i:=1) rfl;have y2:=(uh HRT4).cell? (i:=2) rfl;have y3:=(uh HRT4).cell? (i:=3) rfl;have y4:=(uh HRT4).cell? (i:=4) rfl;have z0:=(uh HRT4).frozen 0;have z1:=(uh HRT4).frozen 1;have z2:=(uh HRT4).frozen 2;have z3:=(uh HRT4).frozen 3;have z4:=(uh HRT4).frozen 4;have HS4:=hide ((uh HSV).bl (Bl.below hb4));have HC4:=hide ((uh HCV).bl (Bl.below hb4));have HB4:=hide ((uh HBV).trans (hb4.mono (uh HBV).size));clear hb4)
      |fail)
     go_region
     all_goals go_wp2_with fail
     all_goals(obtain ⟨hR,hbl,hbb⟩:=nodeSet (uh HRT4) (uh HB4) (.string ⟨name.toArray⟩) (.bool false) (.slice an nds.length cn) (.slice am cms.length cm) (.string ⟨#[]⟩))
     all_goals have o0:=hR.cell? (i:=0) rfl
     all_goals have o1:=hR.cell? (i:=1) rfl
     all_goals have o2:=hR.cell? (i:=2) rfl
     all_goals have o3:=hR.cell? (i:=3) rfl
     all_goals have o4:=hR.cell? (i:=4) rfl
     all_goals refine bodyPost_ret (v:= .tuple #[.agg #[.string ⟨name.toArray⟩,.bool false,.slice an nds.length cn,.slice am cms.length cm,.string ⟨#[]⟩],.bool true]) (by simp[results,Tryz.results189,go_sem,o0,o1,o2,o3,o4]) rfl ?_
     all_goals rw[uh HFF]
     all_goals exact⟨_,_,rfl,((uh HS4).bl hbl).bl (Bl.below (Below.refl _ _).drew),((uh HC4).bl hbl).bl (Bl.below (Below.refl _ _).drew),hbb.drew⟩
    ·have u2:¬(0:Int)<((s.of name).length:Int):=by omega
     have hcan:canB s fs name=(Pl.look fs name).isSome:=by rw[uh HCB,uh HTG,decide_eq_false he];simp
     rw[hcan] at HFF;clear hc hcan HCB;generalize (Pl.look fs name).isSome=hs at*
     go_wp2_with (first
      |(go_at_call 240;refine(uh CF4).mono ?_;clear CF4;rintro e w4 ⟨rfl,hb4⟩;clear g0 g1 g2 g3 g4 y0 y1 y2 y3 y4 z0 z1 z2 z3 z4;have HRN4:=hide ((uh HRN).later hb4);have HRT4:=hide ((uh HRTV).later hb4);have HS4:=hide ((uh HSV).bl (Bl.below hb4));have HC4:=hide ((uh HCV).bl (Bl.below hb4));have HB4:=hide ((uh HBV).trans (hb4.mono (uh HBV).size));clear hb4)
      |fail)
     have g0:=(uh HRN4).cell? (i:=0) rfl;have g1:=(uh HRN4).cell? (i:=1) rfl;have g2:=(uh HRN4).cell? (i:=2) rfl;have g3:=(uh HRN4).cell? (i:=3) rfl;have g4:=(uh HRN4).cell? (i:=4) rfl;have hW4:=(uh HW w4 (uh HB4)).1.row;have k1:=hW4.cell? (i:=1) rfl;have HW4:=hide hW4;have gd0:w4.drew.cell? ⟨N,0,none⟩=some (.string ⟨name.toArray⟩):=g0
     have gd1:w4.drew.cell? ⟨N,1,none⟩=some (.bool false):=g1;have gd2:w4.drew.cell? ⟨N,2,none⟩=some (.slice an nds.length cn):=g2;have gd3:w4.drew.cell? ⟨N,3,none⟩=some (.slice am cms.length cm):=g3;have gd4:w4.drew.cell? ⟨N,4,none⟩=some (.string ⟨#[]⟩):=g4;have kd1:w4.drew.cell? ⟨wk,1,none⟩=some (.pointer (some ⟨c.bx,0,none⟩)):=k1
     have hneN:N≠W.heap.size:=by omega
     have hneK:wk≠W.heap.size:=by omega
     clear hW4
     go_region_held_law (fun w' =>w'.cell? ⟨N,0,none⟩=some (.string ⟨name.toArray⟩)∧w'.cell? ⟨N,1,none⟩=some (.bool false)∧w'.cell? ⟨N,2,none⟩=some (.slice an nds.length cn)∧w'.cell? ⟨N,3,none⟩=some (.slice am cms.length cm)∧w'.cell? ⟨N,4,none⟩=some (.string ⟨#[]⟩)∧w'.cell? ⟨wk,1,none⟩=some (.pointer (some ⟨c.bx,0,none⟩))) (first|with_reducible exact⟨gd0,gd1,gd2,gd3,gd4,kd1⟩|with_reducible exact⟨l0,l1,l2,l3,l4,m1⟩|with_reducible exact⟨p0,p1,p2,p3,p4,q1⟩) (first
      |(go_simp;go_at_call 174;refine(uh CH _ (uh HB4).drew).mono ?_;rintro e w5 ⟨rfl,hb5x⟩;have hb5:Below w4.heap.size w4 w5:=(Below.refl w4.heap.size w4).drew.trans hb5x;have HRN5:=hide ((uh HRN4).later hb5);have l0:=(uh HRN5).cell? (i:=0) rfl;have l1:=(uh HRN5).cell? (i:=1) rfl;have l2:=(uh HRN5).cell? (i:=2) rfl;have l3:=(uh HRN5).cell? (i:=3) rfl;have l4:=(uh HRN5).cell? (i:=4) rfl;have HW5:=hide ((uh HW4).later hb5);have m1:=(uh HW5).cell? (i:=1) rfl;have HRT5:=hide ((uh HRT4).later hb5);have y0:=(uh HRT5).cell? (i:=0) rfl;have y1:=(uh HRT5).cell? (i:=1) rfl;have y2:=(uh HRT5).cell? (i:=2) rfl;have y3:=(uh HRT5).cell? (i:=3) rfl;have y4:=(uh HRT5).cell? (i:=4) rfl;have z0:=(uh HRT5).frozen 0;have z1:=(uh HRT5).frozen 1;have z2:=(uh HRT5).frozen 2;have z3:=(uh HRT5).frozen 3;have z4:=(uh HRT5).frozen 4;have HS5:=hide ((uh HS4).bl (Bl.below hb5));have HC5:=hide ((uh HC4).bl (Bl.below hb5));have HB5:=hide ((uh HB4).trans (hb5.mono (uh HB4).size));have hN5:=(((((uh HRN5).other hneN 0 (.string ⟨name.toArray⟩)).other hneN 1 (.bool false)).other hneN 2 (.slice an nds.length cn)).other hneN 3 (.slice am cms.length cm)).other hneN 4 (.string ⟨#[]⟩);have p0:=hN5.cell? (i:=0) rfl;have p1:=hN5.cell? (i:=1) rfl;have p2:=hN5.cell? (i:=2) rfl;have p3:=hN5.cell? (i:=3) rfl;have p4:=hN5.cell? (i:=4) rfl;have q1:=((((((uh HW5).other hneK 0 (.string ⟨name.toArray⟩)).other hneK 1 (.bool false)).other hneK 2 (.slice an nds.length cn)).other hneK 3 (.slice am cms.length cm)).other hneK 4 (.string ⟨#[]⟩)).cell? (i:=1) rfl;clear hb5 hb5x hN5)
      |fail)
     all_goals go_wp2_with fail
     all_goals(obtain ⟨hR,hbl,hbb⟩:=nodeSet (uh HRT5) (uh HB5) (.string ⟨name.toArray⟩) (.bool false) (.slice an nds.length cn) (.slice am cms.length cm) (.string ⟨#[]⟩))
     all_goals have o0:=hR.cell? (i:=0) rfl
     all_goals have o1:=hR.cell? (i:=1) rfl
     all_goals have o2:=hR.cell? (i:=2) rfl
     all_goals have o3:=hR.cell? (i:=3) rfl
     all_goals have o4:=hR.cell? (i:=4) rfl
     all_goals refine bodyPost_ret (v:= .tuple #[.agg #[.string ⟨name.toArray⟩,.bool false,.slice an nds.length cn,.slice am cms.length cm,.string ⟨#[]⟩],.bool hs]) (by simp[results,Tryz.results189,go_sem,o0,o1,o2,o3,o4]) rfl ?_
     all_goals rw[uh HFF]
     all_goals exact⟨_,_,rfl,(uh HS5).bl hbl,(uh HC5).bl hbl,hbb⟩
   |some fx=>
    obtain⟨fi,stem⟩:=fx;rw[hfit] at hNF CF4;unfold fitV at CF4;simp only at hNF CF4;obtain⟨hfi,hst⟩:=fitL_mem hfit;obtain⟨xx,hxx,rfl⟩:=hfi;have hfl:=(hx xx hxx).1;have hrl:=rlOf_ok hok hfl
    have HFF:Hid (nodeF s fs us name=(⟨name,false,onceB (((rlOf s xx.1).nd.map fun n=>fillB n stem)++nds) [],stem,(rlOf s xx.1).cs⟩,true)):=by
     show _=_;rw[hNF,uh HNP]
    clear hNF HN0 HNP HCL hfit hc HCB;generalize xx.1=fi at*;have r1' :=hrl.nl;have r2' :=hrl.nw;generalize hrd:rlOf s fi=rr at*;unfold ptrV at CF4
    go_wp2_with (first
     |(go_at_call 240;refine(uh CF4).mono ?_;clear CF4;rintro e w4 ⟨rfl,hb4⟩;clear g0 g1 g2 g3 g4 y0 y1 y2 y3 y4 z0 z1 z2 z3 z4;have HRN4:=hide ((uh HRN).later hb4);have HRT4:=hide ((uh HRTV).later hb4);have HS4:=hide ((uh HSV).bl (Bl.below hb4));have HB4:=hide ((uh HBV).trans (hb4.mono (uh HBV).size));clear hb4)
     |fail)
    have hM4:=(uh HW w4 (uh HB4)).1;obtain⟨vt,vnr,vcr,rl1,-,rl3,rl4⟩:=hM4.bm.rules fi hfl;rw[hrd] at rl3 rl4;obtain⟨ar,cr,rfl⟩:=rl3.sh;obtain⟨aq,cq,rfl⟩:=rl4.sh;obtain⟨nb,no,hnb⟩:=rl3.rd
    have hne1:rb fi≠N:=fun e=>by
     have q1:=rl1;have q2:=uh HRN4;unfold Row at q1 q2;rw[e,q2] at q1;cases q1
    have hneN:N≠W.heap.size:=by omega
    have a1:=rl1.cell? (i:=1) rfl;have a2:=(uh HRN4).cell? (i:=2) rfl;have hb4d:Below w4.heap.size w4 w4.drew:=(Below.refl _ w4).drew
    have CS:=hide (withStem_any rr.nd stem ar cr nb no w4.drew (fun e=>⟨(hnb e).1,(hnb e).2.1,(hnb e).2.2.below hb4d (hnb e).2.1⟩) (hM4.glob.later hb4d) (by omega) (fun n hn=>⟨by have:=r2' n hn;omega,by
     have h1:=r2' n hn;have h2:=cnt_le n;have h3:Lib.countB ⟨n.toArray⟩ ⟨#[37]⟩*stem.length≤2000*1073741824:=Nat.mul_le_mul (by omega) (by omega)
     omega⟩))
    have CQ:Hid (∀w5 u6,Below w4.heap.size w4 w5→SlT w5 u6 (rr.nd.map fun n=>fillB n stem)→Calls Tryz.prog 230 #[.slice (some ⟨w5.heap.size,0,none⟩) 2 2] (w5.alloc (.cells #[u6,.slice an nds.length cn] 30)) fun e w' =>∃u,e= .returned u∧SlT w' u (onceB (((rr.nd.map fun n=>fillB n stem))++nds) [])∧Below w4.heap.size w4 w'):=fun w5 u6 hw5 hu6=>by
     have b2:=(Below.refl w5.heap.size w5).alloc (Nat.le_refl _) (.cells #[u6,.slice an nds.length cn] 30);have hfl2:[(rr.nd.map fun n=>fillB n stem),nds].flatten=(rr.nd.map fun n=>fillB n stem)++nds:=by simp
     have hC:=once_any [(rr.nd.map fun n=>fillB n stem),nds] (some ⟨w5.heap.size,0,none⟩) 2 w5.heap.size 0 (w5.alloc (.cells #[u6,.slice an nds.length cn] 30)) (fun _=>⟨rfl,by simp,fun j x hj=> ?_⟩) (by simp) (by rw[hfl2,List.length_append,List.length_map];omega)
     ·rw[hfl2] at hC
      refine hC.mono ?_
      rintro e w' ⟨u,rfl,ho,hb⟩
      have e1:=World.size_alloc w5 (.cells #[u6,.slice an nds.length cn] 30);exact⟨u,rfl,SlT.own ho,(hw5.trans (b2.mono hw5.size)).trans (hb.mono (by have:=hw5.size;omega))⟩
     ·have hrow:=Row.new w5 30 [u6,.slice an nds.length cn]
      match j,hj with
      |0,hj=>cases hj;exact⟨_,hrow.cell? (i:=0) rfl,(hu6.bl (Bl.below b2)).sls⟩
      |1,hj=>cases hj;exact⟨_,hrow.cell? (i:=1) rfl,(((uh HS4).bl (Bl.below hw5)).bl (Bl.below b2)).sls⟩
    have HRL:=hide rl1;have HCM:=hide rl4;clear hM4 rl1 rl3 rl4 hnb hb4d
    go_region_law (first
     |(go_simp;go_at_call 241;refine(uh CS).mono ?_;rintro e w5 ⟨u6,rfl,ho6,hb6⟩;have hb5:Below w4.heap.size w4 w5:=(Below.refl w4.heap.size w4).drew.trans hb6;have c2:=((uh HRN4).later hb5).cell? (i:=2) rfl;have HT6:Hid (SlT w5 u6 (rr.nd.map fun n=>fillB n stem)):=SlT.own (by rw[List.length_map,List.map_map];exact ho6);have HB5:=hide hb5;obtain⟨a6,c6,rfl⟩:=own_sh ho6;clear ho6 hb6 hb5)
     |(go_simp;go_at_call 230;refine(uh CQ w5 _ (uh HB5) (uh HT6)).mono ?_;rintro e w6 ⟨u7,rfl,hs7,hb7⟩;have HRN6:=hide ((uh HRN4).later hb7);have HRL6:=hide ((uh HRL).later hb7);have HRT6:=hide ((uh HRT4).later hb7);have HCM6:=hide ((uh HCM).bl (Bl.below hb7));have HS7:=hide hs7;obtain⟨a7,c7,rfl⟩:=hs7.sh;have HB6:=hide ((uh HB4).trans (hb7.mono (uh HB4).size));have i0:=(uh HRN6).cell? (i:=0) rfl;have i1:=(uh HRN6).cell? (i:=1) rfl;have i2:=(uh HRN6).cell? (i:=2) rfl;have i3:=(uh HRN6).cell? (i:=3) rfl;have i4:=(uh HRN6).cell? (i:=4) rfl;have f2:=(uh HRN6).frozen 2;have f3:=(uh HRN6).frozen 3;have f4:=(uh HRN6).frozen 4;have j2:=(uh HRL6).cell? (i:=2) rfl;have y0:=(uh HRT6).cell? (i:=0) rfl;have y1:=(uh HRT6).cell? (i:=1) rfl;have y2:=(uh HRT6).cell? (i:=2) rfl;have y3:=(uh HRT6).cell? (i:=3) rfl;have y4:=(uh HRT6).cell? (i:=4) rfl;have z0:=(uh HRT6).frozen 0;have z1:=(uh HRT6).frozen 1;have z2:=(uh HRT6).frozen 2;have z3:=(uh HRT6).frozen 3;have z4:=(uh HRT6).frozen 4;clear hs7 hb7)
     |fail)
    all_goals go_wp2_with fail
    all_goals have hT9:=(((uh HRT6).other hneN.symm 2 (.slice a7 (onceB (List.map (fun n=>fillB n stem) rr.nd++nds) []).length c7)).other hneN.symm 3 (.slice aq rr.cs.length cq)).other hneN.symm 4 (.string ⟨stem.toArray⟩)
    all_goals have hB9:=(((uh HB6).setCell (p:=⟨N,2,none⟩) (Nat.le_of_lt hTN) (.slice a7 (onceB (List.map (fun n=>fillB n stem) rr.nd++nds) []).length c7)).setCell (p:=⟨N,3,none⟩) (Nat.le_of_lt hTN) (.slice aq rr.cs.length cq)).setCell (p:=⟨N,4,none⟩) (Nat.le_of_lt hTN) (.string ⟨stem.toArray⟩)
    all_goals have hbl9:=((blSet (o:=2) (uh HRN6) (.slice a7 (onceB (List.map (fun n=>fillB n stem) rr.nd++nds) []).length c7)).trans (blSet (o:=3) ((uh HRN6).set 2 _) (.slice aq rr.cs.length cq))).trans (blSet (o:=4) (((uh HRN6).set 2 _).set 3 _) (.string ⟨stem.toArray⟩))
    all_goals(obtain ⟨hR,hbl,hbb⟩:=nodeSet hT9 hB9 (.string ⟨name.toArray⟩) (.bool false) (.slice a7 (onceB (List.map (fun n=>fillB n stem) rr.nd++nds) []).length c7) (.slice aq rr.cs.length cq) (.string ⟨stem.toArray⟩))
    all_goals have o0:=hR.cell? (i:=0) rfl
    all_goals have o1:=hR.cell? (i:=1) rfl
    all_goals have o2:=hR.cell? (i:=2) rfl
    all_goals have o3:=hR.cell? (i:=3) rfl
    all_goals have o4:=hR.cell? (i:=4) rfl
    all_goals refine bodyPost_ret (v:= .tuple #[.agg #[.string ⟨name.toArray⟩,.bool false,.slice a7 (onceB (List.map (fun n=>fillB n stem) rr.nd++nds) []).length c7,.slice aq rr.cs.length cq,.string ⟨stem.toArray⟩],.bool true]) (by simp[results,Tryz.results189,go_sem,o0,o1,o2,o3,o4]) rfl ?_
    all_goals rw[uh HFF]
    all_goals exact⟨_,_,rfl,((uh HS7).bl hbl9).bl hbl,((uh HCM6).bl hbl9).bl hbl,hbb⟩
 ·have u1:((cms.length:Int)==0)=false:=by rw[beq_eq_false_iff_ne];omega
  have hpos:=uh HCL (by omega);have u2:(0:Int)<((s.of name).length:Int):=by omega
  have HFF:Hid (nodeF s fs us name=(⟨name,ph,nds,[],cms⟩,true)):=by
   show _=_;rw[uh HNF,if_neg (fun e=>hc e.1),uh HN0,uh HCB,uh HTG,decide_eq_true hpos];simp
  clear HNF HN0 HCB HNP HCL hc
  go_wp2_with fail
  go_region
  all_goals go_wp2_with fail
  all_goals(obtain ⟨hR,hbl,hbb⟩:=nodeSet (uh HRTV) (uh HBV) (.string ⟨name.toArray⟩) (.bool ph) (.slice an nds.length cn) (.slice am cms.length cm) (.string ⟨#[]⟩))
  all_goals have o0:=hR.cell? (i:=0) rfl
  all_goals have o1:=hR.cell? (i:=1) rfl
  all_goals have o2:=hR.cell? (i:=2) rfl
  all_goals have o3:=hR.cell? (i:=3) rfl
  all_goals have o4:=hR.cell? (i:=4) rfl
  all_goals refine bodyPost_ret (v:= .tuple #[.agg #[.string ⟨name.toArray⟩,.bool ph,.slice an nds.length cn,.slice am cms.length cm,.string ⟨#[]⟩],.bool true]) (by simp[results,Tryz.results189,go_sem,o0,o1,o2,o3,o4]) rfl ?_
  all_goals rw[uh HFF]
  all_goals exact⟨_,_,rfl,((uh HSV).bl hbl).bl (Bl.below (Below.refl _ _).drew),((uh HCV).bl hbl).bl (Bl.below (Below.refl _ _).drew),hbb.drew⟩
end
structure Vq where
 nd:Nod
 lk:Nat
 vn:Value
 vc:Value
def vnC (q:Vq):List Value:=[strV q.nd.name,.bool q.nd.ph,q.vn,q.vc,strV q.nd.stem]
def vqC (q:Vq):List Value:=[strV q.nd.name,.bool q.nd.ph,q.vn,q.vc,strV q.nd.stem,.int .i64 (q.lk:Int)]
def VqT (W:World) (q:Vq):Prop:=SlT W q.vn q.nd.needs∧CmT W q.vc q.nd.cmds
structure GoM (W:World) (L wk st:Nat) (c:Ad) (rb:Nat→Nat) (s:St) (vp:Value) (l:Ents) (bf bi:Nat) (ve:Value) (ef:List Pl.Eff) (fs:List Pl.File) (clock:Int) (us:List (Nat×List Pl.Bs)) (v2 vo vv:Value) (sts:Flags) (qo qv:List Vq):Prop where
 wkm:WkM W wk c rb s vp l bf bi ve ef fs clock v2 (.map (some st)) vo vv
 pat:PaT W rb v2 us
 mp:SMap W st (flEnts sts)
 opn:W.ownsRow L 313 6 vo qo.length (qo.flatMap vqC)
 opv:∀q∈qo,VqT W q
 ovr:W.ownsRow L 197 5 vv qv.length (qv.flatMap vnC)
 ovv:∀q∈qv,VqT W q
 lw:L≤wk
 ls:L≤st
 lW:L≤W.heap.size
 low:c.nm<L∧c.bt<L∧c.pb<L∧c.bx<L∧bf<L∧bi<L∧0<L
section
variable {W X Y:World} {L wk st:Nat} {c:Ad} {rb:Nat→Nat} {s:St} {vp:Value} {l:Ents} {bf bi:Nat} {ve:Value} {ef:List Pl.Eff} {fs:List Pl.File} {clock:Int} {us:List (Nat×List Pl.Bs)} {v2 vo vv:Value} {sts:Flags} {qo qv:List Vq}
theorem VqT.bl {q:Vq} (h:VqT W q) (hb:Bl W X):VqT X q:=⟨h.1.bl hb,h.2.bl hb⟩
def GoP (wk st:Nat) (vo vv:Value) (k:Nat):Prop:=k=wk∨k=st∨some k=vo.ownBlock∨some k=vv.ownBlock
theorem GoM.type (h:GoM W L wk st c rb s vp l bf bi ve ef fs clock us v2 vo vv sts qo qv) {k:Nat} (hk:GoP wk st vo vv k) {cs:Array Value} {e:TypeId} {fz:Nat×Nat} (hc:W.heap[k]?=some (Obj.cells cs e fz)):e=193∨e=313∨e=197:=by
 rcases hk with hk|hk|hk|hk
 ·have:=h.wkm.row
  unfold Row at this;rw[hk,this] at hc;cases hc;exact .inl rfl
 ·obtain⟨es,clk,h1,-⟩:=h.mp
  rw[hk,h1] at hc;cases hc
 ·obtain⟨cur,fz',h1⟩:=own_type h.opn k hk.symm
  rw[h1] at hc;cases hc;exact .inr (.inl rfl)
 ·obtain⟨cur,fz',h1⟩:=own_type h.ovr k hk.symm
  rw[h1] at hc;cases hc;exact .inr (.inr rfl)
theorem GoM.high (h:GoM W L wk st c rb s vp l bf bi ve ef fs clock us v2 vo vv sts qo qv) {k:Nat} (hk:GoP wk st vo vv k):L≤k:=by
 rcases hk with hk|hk|hk|hk
 ·rw[hk];exact h.lw
 ·rw[hk];exact h.ls
 ·exact(h.opn.lt k hk.symm).1
 ·exact(h.ovr.lt k hk.symm).1
theorem GoM.same (h:GoM W L wk st c rb s vp l bf bi ve ef fs clock us v2 vo vv sts qo qv) (ht:Tn (GoP wk st vo vv) W X) {k:Nat} {cs:Array Value} {e:TypeId} {fz:Nat×Nat} (hc:W.heap[k]?=some (Obj.cells cs e fz)) (h1:e≠193) (h2:e≠313) (h3:e≠197):X.heap[k]?=W.heap[k]?:=
 ht.block k (Array.getElem?_eq_some_iff.1 hc).1 (fun q=>by rcases h.type q hc with e|e|e;exact h1 e;exact h2 e;exact h3 e)
theorem GoM.bl (h:GoM W L wk st c rb s vp l bf bi ve ef fs clock us v2 vo vv sts qo qv) (ht:Tn (GoP wk st vo vv) W X):Bl W X:=
 ⟨fun _ _ _ hc=>h.same ht hc (by decide) (by decide) (by decide),fun _ _ _ hc=>h.same ht hc (by decide) (by decide) (by decide),fun _ _ _ hc=>h.same ht hc (by decide) (by decide) (by decide),fun _ _ _ hc=>h.same ht hc (by decide) (by decide) (by decide),fun _ _ _ hc=>h.same ht hc (by decide) (by decide) (by decide)⟩
theorem GoM.below (h:GoM W L wk st c rb s vp l bf bi ve ef fs clock us v2 vo vv sts qo qv) (ht:Tn (GoP wk st vo vv) W X):Below L W X:=ht.below h.lW (fun _ e=>h.high e)
theorem GoM.next (h:GoM W L wk st c rb s vp l bf bi ve ef fs clock us v2 vo vv sts qo qv) (ht:Tn (GoP wk st vo vv) W X) {vo' vv' :Value} {sts' :Flags} {qo' qv' :List Vq}
 (row:Row X wk 193 [.pointer (some ⟨c.bb,0,none⟩),.pointer (some ⟨c.bx,0,none⟩),v2,.map (some st),vo',vv']) (mp:SMap X st (flEnts sts')) (opn:X.ownsRow L 313 6 vo' qo'.length (qo'.flatMap vqC)) (opv:∀q∈qo',VqT X q) (ovr:X.ownsRow L 197 5 vv' qv'.length (qv'.flatMap vnC)) (ovv:∀q∈qv',VqT X q):
 GoM X L wk st c rb s vp l bf bi ve ef fs clock us v2 vo' vv' sts' qo' qv' :=by
 have hb:=h.below ht;have hbl:=h.bl ht;obtain⟨l1,l2,l3,l4,l5,l6,l7⟩:=h.low;refine⟨⟨row,h.wkm.bm.bl hbl (hb.block _ l1) (hb.block _ l2) (hb.block _ l3),h.wkm.pw.tn ht (fun e=>by have:=h.high e;omega) (fun e=>by have:=h.high e;omega) (fun e=>by have:=h.high e;omega),?_⟩,?_,mp,opn,opv,ovr,ovv,h.lw,h.ls,Nat.le_trans h.lW ht.size,h.low⟩
 ·obtain⟨m,hm⟩:=h.wkm.glob
  exact⟨m,(hb.cell (p:=⟨0,0,none⟩) l7).trans hm⟩
 ·rcases h.pat with q|⟨b,o,cp,q1,⟨cs,fz,q2⟩,q3⟩
  ·exact .inl q
  ·have e:=h.same ht q2 (by decide) (by decide) (by decide)
   refine .inr ⟨b,o,cp,q1,⟨cs,fz,e.trans q2⟩,fun j x hj=> ?_⟩;obtain⟨c1,u,c2,c3⟩:=q3 j x hj;refine⟨?_,u,?_,c3.bl hbl⟩
   ·unfold World.cell? at*;rw[e];exact c1
   ·unfold World.cell? at*;rw[e];exact c2
theorem GoM.later (h:GoM W L wk st c rb s vp l bf bi ve ef fs clock us v2 vo vv sts qo qv) (hb:Below W.heap.size W X):GoM X L wk st c rb s vp l bf bi ve ef fs clock us v2 vo vv sts qo qv:=
 h.next (Tn.later hb) (h.wkm.row.later hb) (h.mp.later hb) (own_same h.opn (fun k hk=>hb.block k (h.opn.lt k hk).2)) (fun q hq=>(h.opv q hq).bl (Bl.below hb)) (own_same h.ovr (fun k hk=>hb.block k (h.ovr.lt k hk).2)) (fun q hq=>(h.ovv q hq).bl (Bl.below hb))
theorem GoM.toSt (h:GoM W L wk st c rb s vp l bf bi ve ef fs clock us v2 vo vv sts qo qv) {sts' :Flags} (hm:W.mapTurned X st) (hs:SMap X st (flEnts sts')):GoM X L wk st c rb s vp l bf bi ve ef fs clock us v2 vo vv sts' qo qv∧Tn (GoP wk st vo vv) W X:=by
 have ht:Tn (GoP wk st vo vv) W X:=map_tn hm (.inr (.inl rfl))
 have hcell:∀(k:Nat) (cs:Array Value) (e:TypeId) (fz:Nat×Nat),W.heap[k]?=some (Obj.cells cs e fz)→X.heap[k]?=W.heap[k]?:=fun k cs e fz hk=>(map_tn (p:=fun k=>k=st) hm rfl).block k (Array.getElem?_eq_some_iff.1 hk).1 (fun q=>by
  obtain⟨es,clk,es',clk',h1,-⟩:=hm
  rw[q,h1] at hk;cases hk)
 have hbl:=h.bl ht;exact⟨h.next ht ((hcell _ _ _ _ h.wkm.row).trans h.wkm.row) hs (own_same h.opn (fun k hk=>by obtain⟨cur,fz,q⟩:=own_type h.opn k hk;exact hcell k _ _ _ q)) (fun q hq=>(h.opv q hq).bl hbl) (own_same h.ovr (fun k hk=>by obtain⟨cur,fz,q⟩:=own_type h.ovr k hk;exact hcell k _ _ _ q)) (fun q hq=>(h.ovv q hq).bl hbl),ht⟩
theorem GoM.toOpen (h:GoM W L wk st c rb s vp l bf bi ve ef fs clock us v2 vo vv sts qo qv) {q:Vq} {vo' :Value} (hq:VqT W q) (hown:X.ownsRow L 313 6 vo' (qo.length+1) (qo.flatMap vqC++vqC q)) (hg:W.grownBy X vo.ownBlock):
 Row X wk 193 [.pointer (some ⟨c.bb,0,none⟩),.pointer (some ⟨c.bx,0,none⟩),v2,.map (some st),vo,vv]∧GoM (X.setCell ⟨wk,4,none⟩ vo') L wk st c rb s vp l bf bi ve ef fs clock us v2 vo' vv sts (qo++[q]) qv∧Tn (GoP wk st vo vv) W (X.setCell ⟨wk,4,none⟩ vo'):=by
 have ht1:Tn (GoP wk st vo vv) W X:=Tn.grown hg (fun k e=> .inr (.inr (.inl e.symm)));have ht:Tn (GoP wk st vo vv) W (X.setCell ⟨wk,4,none⟩ vo'):=ht1.trans (Tn.set X ⟨wk,4,none⟩ vo' (.inl rfl));have hrow:=h.wkm.row.grown hg (row_ne_own h.wkm.row h.opn (by decide));have hbl:=h.bl ht;have hne:some wk≠vo'.ownBlock:=row_ne_own hrow hown (by decide)
 have hne2:some wk≠vv.ownBlock:=row_ne_own h.wkm.row h.ovr (by decide);have hst:wk≠st:=row_ne_map' h.wkm.row h.mp
 have hap:vv.ownBlock=none∨vv.ownBlock≠vo.ownBlock:=by
  cases e:vv.ownBlock with
  |none=>exact .inl rfl
  |some k=>
   refine .inr (fun q=> ?_);obtain⟨c1,f1,q1⟩:=own_type h.ovr k e;obtain⟨c2,f2,q2⟩:=own_type h.opn k q.symm;rw[q1] at q2;cases q2
 have hmp:SMap X st (flEnts sts):=h.mp.kept hg (fun e=>by
  obtain⟨c2,f2,q2⟩:=own_type h.opn st e.symm;obtain⟨es,clk,h1,-⟩:=h.mp
  rw[h1] at q2;cases q2)
 refine⟨hrow,h.next ht (hrow.set 4 vo') (hmp.setCell (Ne.symm hst) vo') ?_ ?_ (owns_other (h.ovr.kept hg hap) hne2 4 vo') (fun q' hq' =>(h.ovv q' hq').bl hbl),ht⟩
 ·have:=owns_other hown hne 4 vo'
  rw[List.length_append,List.flatMap_append]
  simpa using this
 ·intro q' hq'
  rcases List.mem_append.1 hq' with e|e
  ·exact(h.opv q' e).bl hbl
  ·rw[List.mem_singleton] at e;subst e;exact hq.bl hbl
end
end Go.Proofs.YtjelacjggijmfaaGreatDoor
