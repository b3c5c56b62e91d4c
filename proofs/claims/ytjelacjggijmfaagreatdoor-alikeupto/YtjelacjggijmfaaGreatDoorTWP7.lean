/-
  Compile and Make of package maker.
-/
import Derived.Test.YtjelacjggijmfaaGreatDoorTMQ2
import Derived.Test.YtjelacjggijmfaaGreatDoorTWP3
import Derived.Test.YtjelacjggijmfaaGreatDoorTSP9
import Derived.Laws.MakeOwn
import Derived.Deep.WholeRow
import Derived.Test.YtjelacjggijmfaaGreatDoorTGG9
set_option maxHeartbeats 4000000
set_option maxRecDepth 20000
namespace Go.Proofs.YtjelacjggijmfaaGreatDoor
open Go.RowKit Go.MapKept Go.ChangeMaps Go.Maps Go.Sort
theorem SMap.len {P:Program} {w:World} {b:Nat} {l:Ents} {t kt et:TypeId} (h:SMap w b l) (ht:P.underlying t=some (.map kt et)) (ty:TypeId):(Builtin.len_ #[t] ty #[.map (some b)]).run P w= .ok (.int .i64 (l.length:Nat)) w:=by
 obtain⟨es,clock,hb,_,_,he⟩:=h;have hlen:es.size=l.length:=by have:=congrArg List.length he;simpa using this
 have hm:P.underlying t=some (.map (P.mapKeyOf t) (P.mapElemOf t)):=by simp[Program.mapKeyOf,Program.mapElemOf,ht]
 rw[run_len_map _ t ty b es clock hm hb,hlen];rfl
theorem wpList_len_s {P:Program} (w:World) {ops:Array Oper} {rest:List Oper} {o:Oper} {a:Act} {Q:Exit→Act→World→Prop} (hg:o.guard=none) (m:Operand) (t:TypeId) (hop:o.op=Op.call {callee:=Callee.builtin Builtin.len,args:= #[m],argTypes:= #[t]})
 (kt et:TypeId) (ht:P.underlying t=some (.map kt et)) (b:Nat) (l:Ents) (hm:a.eval m= .map (some b)) (hs:SMap w b l) (hK:wpList P ops Q rest (a.put o.dst (.int .i64 (l.length:Nat))) w):wpList P ops Q (o::rest) a w:=by
 refine wpList_plain hg fun K' hK' => ?_
 unfold Oper.wp;simp[execOp,hop,resolve,invoke,builtin,hm,hs.len ht o.type,Result.andThen];exact hK' _ _ hK
def AFls (w:World) (B:Nat) (v:Value) (fs:List Pl.File):Prop:=w.ownsRow B 65 3 v fs.length (filesC fs)
theorem files_any (bx bf bi:Nat) (ve:Value) (ef:List Pl.Eff) (fs:List Pl.File) (clock:Int) (w:World) (h:PW w bx bf bi ve ef fs clock) (hu:Pl.Uniq fs) (hl:fs.length≤16777216) (hp:∀f∈fs,f.path.length≤maxLen):
 Calls Tryz.prog 83 #[.pointer (some ⟨bx,0,none⟩)] w fun e w' =>(∃v,e= .returned v∧AFls w' w.heap.size v (Pl.sortF fs))∧Below w.heap.size w w' :=by
 obtain⟨i0,hi,hz0,hz1,hz2⟩:=info_parts Tryz.infoAFile;have c0:=h.row.cell 0 (by simp);simp only[List.getElem_cons_zero] at c0;have hbx:=h.row.lt;have hbf:=h.files.lt;have hbi:=h.first.elim (fun l h=>h.1.lt);have hlen:(fEnts fs).length=fs.length:=by unfold fEnts;rw[List.length_map]
 have HF:=hide h.files;have HPW:=hide h;obtain⟨w1,hmk,how1,hgr1⟩:=run_make_own (P:=Tryz.prog) w w.heap.size 27 65 i0 _ 3 Tryz.underlying27 hi hz0 hz1 .i64 .i64 fs.length (by rw[hz2];omega) (by unfold maxLen;omega) (Nat.le_refl _);have hB1:Below w.heap.size w w1:=⟨hgr1.os,hgr1.tape,hgr1.output,hgr1.size,fun k hk=>hgr1.block k hk (by simp)⟩;have HP1:=hide (h.later hB1)
 obtain⟨D,hD1,hD2,hD3⟩:=(uh HP1).files.owns Tryz.underlying9 (fun x hx=>by
  unfold fEnts at hx;obtain⟨f,hf,rfl⟩:=List.mem_map.1 hx
  exact hp f hf)
 rw[hlen] at hD1 hD2
 have hD3' :(strKeys D).Perm (fs.map (·.path)):=by
  have:(fEnts fs).map (·.1)=fs.map (·.path):=by unfold fEnts;rw[List.map_map];rfl
  rw[←this];exact hD3
 have CK:=hide (fun W=>callsIn_wide.1 (Tryz.maps_Keys_135 (some bf) W));have CS:=hide (callsIn_wide.1 (Tryz.slices_Sorted_keys_134_135 bf fs.length D noneE w1 hD1 (by rw[hD2];unfold maxLen;omega) (by rw[hD2];omega)))
 have hsn:∀ss:List Pl.Bs,ss.Perm (strKeys D)→ss.mergeSort (fun x y=>decide (x≤y))=(Pl.sortF fs).map (·.path)∧ss.length=(Pl.sortF fs).length:=fun ss hss=>⟨sorted_names (hss.trans hD3'),by have:=(hss.trans hD3').length_eq;rw[List.length_map] at this;rw[this,(sortF_perm fs).length_eq]⟩
 have HSN:=hide hsn;have HO1:=hide how1;have HB1:=hide hB1;have hsl:(Pl.sortF fs).length=fs.length:=(sortF_perm fs).length_eq;have HLK:Hid (∀f∈Pl.sortF fs,mget (fEnts fs) f.path=some (fileV f)):=fun f hf=>by rw[mget_f,look_mem hu ((sortF_perm fs).mem_iff.1 hf)];rfl
 have HI:=hide hi;have HZ0:=hide hz0;have HZ1:=hide hz1;have HZ2:=hide hz2;have hzw:=hB1.size;have y0:=(uh HP1).row.cell 0 (by simp);simp only[List.getElem_cons_zero] at y0;clear h hu hp hsn how1 hgr1 hD1 hD2 hD3 hD3' hB1 hi hz0 hz1 hz2;generalize hsr:Pl.sortF fs=srt at*
 go_enter Tryz.func83,Tryz.ntmps83
 go_wp2_with (first
  |(at_len;refine wpList_len_s _ rfl _ 177 rfl 9 65 Tryz.underlying177 bf (fEnts fs) rfl (uh HF) ?_;rw[hlen])
  |(go_at_call 135;refine(uh CK _).mono ?_;rintro e w2 ⟨rfl,rfl⟩)
  |(go_at_call 134;refine(uh CS).mono ?_;rintro e w2 ⟨v,ss,rfl,hss,hrow,hnil,hb2⟩;obtain⟨av,cv,rfl⟩:=own_shape hrow;obtain⟨hn1,hn2⟩:=uh HSN ss hss;rw[hn1,hn2] at hrow;rw[hn2];have HRO:=hide hrow;have HB2:=hide hb2;clear hrow hb2 hss hnil hn1)
  |fail)
 have hba:Below w1.heap.size w1 (w1.alloc (.cells #[.map (some bf)] 177)):=(Below.refl _ w1).alloc (Nat.le_refl _) _;have hb3:Below w1.heap.size w1 w2:=hba.trans ((uh HB2).mono hba.size);have HP2:=hide ((uh HP1).later hb3);have HO2:=hide (own_same (uh HO1) (fun k hk=>hb3.block k ((uh HO1).lt k hk).2));have HRO2:=hide (own_mono (uh HRO) (Nat.le_trans hzw hba.size))
 have HBW:=hide ((uh HB1).trans (hb3.mono hzw));clear hba hb3 HB1 HB2 HP1 HO1 CK CS HRO y0 c0 HF HSN hmk hn2
 go_loopw [3,19] (fun vl i wr=>∃k:Nat,i= .int .i64 k∧k≤srt.length∧Hid (wr.ownsRow w.heap.size 65 3 vl k (filesC (srt.take k)))∧Hid (wr.ownsRow w.heap.size 9 1 (.slice av srt.length cv) srt.length ((srt.map (·.path)).map encStr))∧Hid (PW wr bx bf bi ve ef fs clock)∧Hid (Below w.heap.size w wr)) (fun _ i _=>srt.length-intN i)
 case atStart=>exact⟨0,rfl,Nat.zero_le _,HO2,HRO2,HP2,HBW⟩
 case round=>
  clear HO2 HRO2 HP2 HBW;obtain⟨k,rfl,hkl,HO,HR,HP,HB⟩:=hrel;obtain⟨sa,sc,hvs⟩:=own_shape (uh HO);subst hvs
  by_cases hk:k<srt.length
  ·have t1:(k:Int)<(srt.length:Int):=by omega
   obtain⟨gv,cv',hgv,-⟩:=owns_form (uh HR) (by omega);cases hgv;have n0:=own_cell (uh HR) k (by simp;exact hk);simp only[List.getElem_map] at n0;have HMG:=hide (uh HLK srt[k] (List.getElem_mem hk));have htk:srt.take (k+1)=srt.take k++[srt[k]]:=List.take_succ_eq_append_getElem hk
   have HTK:Hid (filesC (srt.take (k+1))=filesC (srt.take k)++fileC srt[k]):=by show _=_;rw[htk,filesC_snoc]
   have z0:=(uh HP).row.cell 0 (by simp);simp only[List.getElem_cons_zero] at z0;have HPF:=hide (uh HP).files;generalize srt[k]=fk at*;unfold encStr at n0;have hwr:=(uh HB).size
   have HNX:Hid (∀(o:Obj) (v' :Value) (Z:World),(wr.alloc o).grownBy Z (Value.slice sa k sc).ownBlock→Z.ownsRow w.heap.size 9 1 (.slice (some ⟨gv,0,none⟩) srt.length cv) srt.length ((srt.map (·.path)).map encStr)∧PW Z bx bf bi ve ef fs clock∧Below w.heap.size w Z):=fun o v' Z hg=>by
    have hg' :=(World.grownBy_alloc wr o _).trans hg;have hbl:Below w.heap.size wr Z:=⟨hg'.os,hg'.tape,hg'.output,hg'.size,fun q hq=>hg'.block q (by omega) (own_ne (uh HO) hq)⟩;have hpw:=uh HP;refine⟨?_,hpw.tn (Tn.grown (p:=fun q=>w.heap.size≤q) hg' (fun q e=>((uh HO).lt q e).1)) ?_ ?_ ?_,(uh HB).trans hbl⟩
    ·rcases apart (uh HR) (uh HO) (by decide) with e|e
     ·exact World.ownsRow.kept (uh HR) hg' (.inl e)
     ·exact World.ownsRow.kept (uh HR) hg' (.inr e)
    ·show ¬w.heap.size≤bx;omega
    ·show ¬w.heap.size≤bf;omega
    ·show ¬w.heap.size≤bi;omega
   clear htk HLK HP HR
   as_aux_lemma=>
    go_wp2_with (first
     |(at_lookup;refine wpList_look_one _ rfl _ _ 177 rfl 9 65 Tryz.underlying177 Tryz.underlying9 _ (zeroFile _) bf (fEnts fs) rfl (uh HPF) fk.path rfl (fileV fk) (by rw[uh HMG];rfl) ?_;unfold fileV)
     |(at_builtin;refine wpList_append_own _ rfl (.tmp 23) (.tmp 30) 27 rfl w.heap.size 65 i0 _ 3 40 Tryz.underlying27 (uh HI) (uh HZ0) (uh HZ1) (uh HZ2) rfl (by decide) _ k _ rfl (World.ownsRow.alloc (uh HO) _) ⟨_,0,none⟩ 1 1 (fileC fk) rfl rfl (cells_new _ _ (fileC fk)) (file_one fk) (by unfold maxLen;omega) (by omega) (by rw[World.size_alloc];omega) ?_;intro v1 w3 hown1 hgrow1 hnil1;have HO1:=hide hown1;have HN1:=hide (uh HNX _ v1 _ hgrow1);clear hown1 hgrow1 hnil1)
     |fail)
    go_roundw
    case rel=>exact⟨k+1,by go_num,by omega,by rw[uh HTK];exact uh HO1,(uh HN1).1,(uh HN1).2.1,(uh HN1).2.2⟩
    case measure=>simp only[intN];omega
  ·have hke:srt.take k=srt:=List.take_of_length_le (by omega)
   have hkk:k=srt.length:=by omega
   subst hkk;rw[hke] at HO;clear hke
   go_wp2_with fail
   go_ret
   exact⟨⟨_,rfl,uh HO⟩,uh HB⟩
end Go.Proofs.YtjelacjggijmfaaGreatDoor
namespace Go.Proofs.YtjelacjggijmfaaGreatDoor
open Go.RowKit Go.Shelf Go.MapKept Go.ChangeMaps Go.Maps
attribute [local go_sem↓] Go.wp_at_zero Go.wp_at_succ
structure TextPost (l:Pl.Bs) (ef:List Pl.Eff) (X:Pl.Wd) (bx bf:Nat) (w:World) (e:Ending) (w' :World):Prop where
 tn:Tn (fun k=>k=bx∨k=bf) w w'
 res:(¬Pl.checkOf l∧e= .returned (.tuple #[zRes,.int .i64 9]))∨
  ∃ss c vc vr,Pl.load l=some (ss,c)∧Pl.checkOf l∧e= .returned (.tuple #[.agg #[vc,vr,.int .i64 (Pl.runW c ss ef X).exit,.int .i64 (Pl.runW c ss ef X).clock],.int .i64 0])∧
   Strs w' w.heap.size vc (Pl.runW c ss ef X).cmds∧AFls w' w.heap.size vr (Pl.sortF (Pl.runW c ss ef X).files)
theorem runText_no (l:Pl.Bs) (hl:l.length≤8388608) (hno:¬Pl.checkOf l) (ef:List Pl.Eff) (X:Pl.Wd) (bx bf:Nat) (w:World):
 Calls Tryz.prog 60 #[.string ⟨l.toArray⟩,.pointer (some ⟨bx,0,none⟩)] w fun e w' =>TextPost l ef X bx bf w e w' :=by
 have HNO:=hide hno;have CC:=hide (fun W=>read_any l W hl);clear hno
 go_enter Tryz.func60,Tryz.ntmps60
 go_wp2_with (first
  |(go_at_call 59;refine(uh CC _).mono ?_;rintro e w1 ⟨hres,hb1⟩;obtain⟨-,rfl⟩:=hres.resolve_right (fun h=>by obtain⟨ss,c,b,h1,h2,_⟩:=h;exact uh HNO ⟨_,h1,h2⟩);have hr1:=(Row.new w 48 [.slice none 0 0,.slice none 0 0,.int .i64 0,.int .i64 0]).later hb1;have HB1:=hide (((Below.refl _ w).alloc (Nat.le_refl _) (.cells #[.slice none 0 0,.slice none 0 0,.int .i64 0,.int .i64 0] 48)).trans (hb1.mono (by rw[World.size_alloc];omega)));have HR1:=hide (hr1.later ((Below.refl _ w1).alloc (Nat.le_refl _) (.cells #[.slice none 0 0,.string ⟨#[]⟩] 120)));have r0:=(uh HR1).cell 0 (by simp);have r1:=(uh HR1).cell 1 (by simp);have r2:=(uh HR1).cell 2 (by simp);have r3:=(uh HR1).cell 3 (by simp);have f0:=(uh HR1).frozen 0;have f1:=(uh HR1).frozen 1;have f2:=(uh HR1).frozen 2;have f3:=(uh HR1).frozen 3;simp only[List.getElem_cons_zero,List.getElem_cons_succ] at r0 r1 r2 r3;clear hres hr1 hb1)
  |fail)
 have hR:=((((uh HR1).set 0 (.slice none 0 0)).set 1 (.slice none 0 0)).set 2 (.int .i64 0)).set 3 (.int .i64 0);have o0:=hR.cell 0 (by simp);have o1:=hR.cell 1 (by simp);have o2:=hR.cell 2 (by simp);have o3:=hR.cell 3 (by simp);simp only[List.set_cons_zero,List.set_cons_succ,List.getElem_cons_zero,List.getElem_cons_succ] at o0 o1 o2 o3
 have hba:Below w1.heap.size w1 (w1.alloc (.cells #[.slice none 0 0,.string ⟨#[]⟩] 120)):=(Below.refl _ w1).alloc (Nat.le_refl _) _;have hbb:=(uh HB1).trans (hba.mono (uh HB1).size)
 refine bodyPost_ret (v:= .tuple #[zRes,.int .i64 9]) ?_ rfl ⟨Tn.later (((((hbb.setCell (p:=⟨w.heap.size,0,none⟩) (Nat.le_refl _) _).setCell (p:=⟨w.heap.size,1,none⟩) (Nat.le_refl _) _).setCell (p:=⟨w.heap.size,2,none⟩) (Nat.le_refl _) _).setCell (p:=⟨w.heap.size,3,none⟩) (Nat.le_refl _) _)),.inl ⟨uh HNO,rfl⟩⟩;simp[results,Tryz.results60,go_sem,o0,o1,o2,o3,zRes]
theorem zero_machine (bx:Nat) (ap:Option Addr) (n:Nat):(Tryz.zeroCells176.toList.set 0 (.pointer (some ⟨bx,0,none⟩))).set 1 (.slice ap n n)=mCells bx ap n n (.slice none 0 0) (fun _=>false) 0 (.slice none 0 0) 0:=by kernel_rfl
theorem one_machine (bx:Nat) (ap:Option Addr) (n:Nat):(mCells bx ap n n (.slice none 0 0) (fun _=>false) 0 (.slice none 0 0) 0).toArray.all (·.oneCell')=true:=by
 rw[List.all_toArray];unfold mCells;simp only[List.all_cons,List.all_append,List.all_map,List.all_nil];have:(List.range 256).all ((fun x:Value=>x.oneCell')∘fun _=>Value.bool false)=true:=by rw[List.all_eq_true];intro x _;rfl
 rw[this];rfl
theorem store_machine (w:World) (N:Nat) (hN:w.heap.size=N) (bx:Nat) (ap:Option Addr) (n:Nat):
 Sem.run Tryz.prog (storeCells ⟨N,0,none⟩ ((Tryz.zeroCells176.toList.set 0 (.pointer (some ⟨bx,0,none⟩))).set 1 (.slice ap n n))) (w.alloc (.cells Tryz.zeroCells176 176))=
  .ok () (w.alloc (.cells (mCells bx ap n n (.slice none 0 0) (fun _=>false) 0 (.slice none 0 0) 0).toArray 176)):=by
 subst hN;rw[zero_machine];have:=run_storeCells_new (P:=Tryz.prog) w 176 Tryz.zeroCells176 (mCells bx ap n n (.slice none 0 0) (fun _=>false) 0 (.slice none 0 0) 0).toArray (by kernel_rfl) (by kernel_rfl) (one_machine bx ap n);exact this
theorem exec_fit (S:List Pl.Bs) (c:Pl.Bs) (ss:List Pl.Bs) (ef:List Pl.Eff) (hEs:∀e∈ef,∀f∈e.writes,f.path∈S):∀(f p:Nat) (st:List Bool) (fl:Nat→Bool) (X:Pl.Wd),Fit S X.files→Fit S (Pl.exec c ss ef f p st fl X).files
 |0,_,_,_,_,h=>h
 |f+1,p,st,fl,X,h=>by
  rw[Pl.exec];split
  ·refine exec_fit S c ss ef hEs f _ _ _ _ ?_
   have:(Pl.act ss ef (Pl.mkIns c p) st fl X).2.2.2=X∨∃d,(Pl.act ss ef (Pl.mkIns c p) st fl X).2.2.2=Pl.giveW ef X d:=by
    unfold Pl.act
    repeat' split
    all_goals first|exact .inl rfl|exact .inr ⟨_,rfl⟩
   rcases this with e|⟨d,e⟩
   ·rw[e];exact h
   ·rw[e]
    unfold Pl.giveW;split
    ·exact h
    ·rename_i e' he'
     exact Fit.puts _ _ h (hEs e' (List.mem_of_find?_eq_some he'))
  ·exact h
theorem machine_start {w w1:World} {o0:Obj} {bx bf bi b:Nat} {ve:Value} {ef:List Pl.Eff} {X:Pl.Wd} {ss:List Pl.Bs} {c:Pl.Bs} (hpw:PW w bx bf bi ve ef X.files X.clock) (hx:X.exit=0) (hc:X.cmds=[]) (hb1:Below (w.alloc o0).heap.size (w.alloc o0) w1) (hrow:Row w1 b 9 (ss.map strV)) (hbw:(w.alloc o0).heap.size≤b):
 MM ((w1.alloc (.cells #[.slice (some ⟨b,0,none⟩) ss.length ss.length,.string ⟨c.toArray⟩] 120)).alloc (.cells (mCells bx (some ⟨b,0,none⟩) ss.length ss.length (.slice none 0 0) (fun _=>false) 0 (.slice none 0 0) 0).toArray 176)) (w1.heap.size+2) (w1.heap.size+1) bx bf bi (some ⟨b,0,none⟩) ss.length ss ve ef (.slice none 0 0) (.slice none 0 0) [] (fun _=>false) 0 X∧
 Below w.heap.size w ((w1.alloc (.cells #[.slice (some ⟨b,0,none⟩) ss.length ss.length,.string ⟨c.toArray⟩] 120)).alloc (.cells (mCells bx (some ⟨b,0,none⟩) ss.length ss.length (.slice none 0 0) (fun _=>false) 0 (.slice none 0 0) 0).toArray 176)):=by
 have l1:=hpw.row.lt;have l2:=hpw.files.lt;have l3:=hpw.first.elim (fun l h=>h.1.lt);have hs0:(w.alloc o0).heap.size=w.heap.size+1:=World.size_alloc _ _;have hs1:=hb1.size;have hbl:=hrow.lt;have ha0:Below w.heap.size w (w.alloc o0):=(Below.refl _ w).alloc (Nat.le_refl _) _;have hbw1:Below w.heap.size w w1:=ha0.trans (hb1.mono (by omega))
 have ha2:Below w1.heap.size w1 ((w1.alloc (.cells #[.slice (some ⟨b,0,none⟩) ss.length ss.length,.string ⟨c.toArray⟩] 120)).alloc (.cells (mCells bx (some ⟨b,0,none⟩) ss.length ss.length (.slice none 0 0) (fun _=>false) 0 (.slice none 0 0) 0).toArray 176)):=((Below.refl _ w1).alloc (Nat.le_refl _) _).alloc (by rw[World.size_alloc];omega) _;have hall:=hbw1.trans (ha2.mono (by omega))
 have hrow2:=hrow.later ha2;have hbm:=Row.new (w1.alloc (.cells #[.slice (some ⟨b,0,none⟩) ss.length ss.length,.string ⟨c.toArray⟩] 120)) 176 (mCells bx (some ⟨b,0,none⟩) ss.length ss.length (.slice none 0 0) (fun _=>false) 0 (.slice none 0 0) 0);rw[World.size_alloc] at hbm
 refine⟨⟨by rw[hx];exact hbm,hpw.later hall,⟨b,fun _=>⟨rfl,by omega,by omega,by omega,by omega⟩,fun i hi=> ?_⟩,World.ownsRow_nil _ _ _ _,by rw[hc];exact World.ownsRow_nil _ _ _ _,by omega,by omega,by omega,by omega,by simp only[World.size_alloc];omega,by omega,by omega,by omega⟩,hall⟩;have:=hrow2.cell i (by simpa using hi);rw[Nat.zero_add,this];simp
theorem runText_yes (l:Pl.Bs) (hl:l.length≤8388608) (hyes:Pl.checkOf l) (ae:Option Addr) (ce L be oe:Nat) (S:List Pl.Bs) (bx bf bi:Nat) (ef:List Pl.Eff) (X:Pl.Wd) (w:World)
 (hpw:PW w bx bf bi (.slice ae ef.length ce) ef X.files X.clock) (hx:X.exit=0) (hc:X.cmds=[]) (hE:EffOk w L be oe ae ef S) (hL1:L≤bx) (hL2:L≤bf) (hfit:Fit S X.files) (hSp:∀p∈S,p.length≤maxLen):
 Calls Tryz.prog 60 #[.string ⟨l.toArray⟩,.pointer (some ⟨bx,0,none⟩)] w fun e w' =>TextPost l ef X bx bf w e w' :=by
 have CC:=hide (fun W=>read_any l W hl);have HY:=hide hyes;have HPW:=hide hpw;have HE:=hide hE;have HFT:=hide hfit;have HSP:=hide hSp;have HL:=hide hl;have lx:=hpw.row.lt;have lf:=hpw.files.lt;have H0:=hide (Row.new w 48 [.slice none 0 0,.slice none 0 0,.int .i64 0,.int .i64 0]);clear hyes hpw hE hfit hSp hl
 go_enter Tryz.func60,Tryz.ntmps60
 go_wp2_with (first
  |(go_at_call 59;refine(uh CC _).mono ?_;rintro e w1 ⟨hres,hb1⟩;obtain⟨ss,c,b,hld,hsp,rfl,hrow,hbw⟩:=hres.resolve_left (fun h=>h.1 (uh HY));have hsm:=store_machine (w1.alloc (.cells #[.slice (some ⟨b,0,none⟩) ss.length ss.length,.string ⟨c.toArray⟩] 120)) (w1.heap.size+1) (by rw[World.size_alloc]) bx (some ⟨b,0,none⟩) ss.length;have HMS:=hide (machine_start (c:=c) (uh HPW) hx hc hb1 hrow hbw);have hw1:=hb1.size;rw[World.size_alloc] at hw1;have HR1:=hide ((uh H0).later hb1);have HLD:=hide hld;have HSN:=hide hsp;clear hres hld hsp hrow hbw hb1)
  |fail)
 have HR2:=hide (((uh HR1).later ((Below.refl _ w1).alloc (Nat.le_refl _) (.cells #[.slice (some ⟨b,0,none⟩) ss.length ss.length,.string ⟨c.toArray⟩] 120))).later ((Below.refl _ _).alloc (Nat.le_refl _) (.cells (mCells bx (some ⟨b,0,none⟩) ss.length ss.length (.slice none 0 0) (fun _=>false) 0 (.slice none 0 0) 0).toArray 176)))
 have hW2:((w1.alloc (.cells #[.slice (some ⟨b,0,none⟩) ss.length ss.length,.string ⟨c.toArray⟩] 120)).alloc (.cells (mCells bx (some ⟨b,0,none⟩) ss.length ss.length (.slice none 0 0) (fun _=>false) 0 (.slice none 0 0) 0).toArray 176)).heap.size=w1.heap.size+2:=by simp only[World.size_alloc]
 clear hsm H0 HR1;generalize (w1.alloc (.cells #[.slice (some ⟨b,0,none⟩) ss.length ss.length,.string ⟨c.toArray⟩] 120)).alloc (.cells (mCells bx (some ⟨b,0,none⟩) ss.length ss.length (.slice none 0 0) (fun _=>false) 0 (.slice none 0 0) 0).toArray 176)=W2 at*;have hcl:=(load_len (uh HLD)).1;have hll:=uh HL;have hlw:L≤w.heap.size:=by omega
 have CR:=hide (callsIn_wide.1 (mrun_in ⟨c.toArray⟩ (by rw[size_mk];omega) ae ce L be oe S (w1.heap.size+1) bx bf bi (some ⟨b,0,none⟩) ss.length ss ef X W2 (by rw[hW2];exact(uh HMS).1) ⟨_,uh HSN⟩ hx hc ((uh HE).tn (Tn.later (p:=fun _=>False) (uh HMS).2) hlw (fun k e=>e.elim)) (by omega) hL1 hL2 (uh HFT)));refine(uh CR).mono ?_
 rintro e W3 ⟨rfl,hX⟩
 have hct:(⟨c.toArray⟩:ByteArray).data.toList=c:=by simp
 rw[hct] at hX;obtain⟨⟨vs,vg,st,fl,go,hm⟩,ht⟩:=hX;rw[hW2] at hm;obtain⟨ag,cg,hvg⟩:=own_sh hm.given;have hFR:Fit S (Pl.runW c ss ef X).files:=exec_fit S c ss ef (uh HE).names _ _ _ _ _ (uh HFT);have hfl:=hFR.len;have hfew:=(uh HE).few;generalize hRR:Pl.runW c ss ef X=R at*;subst hvg;have hrow3:=(uh HR2).tn ht (by omega)
 have htw:Tn (fun k=>k=bx∨k=bf) w W3:=⟨ht.os.trans (uh HMS).2.os,ht.tape.trans (uh HMS).2.tape,ht.output.trans (uh HMS).2.output,Nat.le_trans (uh HMS).2.size ht.size,fun k hk hp=>(ht.block k (by omega) (fun e=>by
  rcases e with e|e
  ·omega
  ·exact hp e)).trans ((uh HMS).2.block k hk)⟩
 have HP0:Hid (MM W3.drew (w1.heap.size+2+2) (w1.heap.size+1) bx bf bi (some ⟨b,0,none⟩) ss.length ss (.slice ae ef.length ce) ef vs (.slice ag R.cmds.length cg) st fl go R∧Row W3.drew w.heap.size 48 [.slice none 0 0,.slice none 0 0,.int .i64 0,.int .i64 0]∧Tn (fun k=>k=bx∨k=bf) w W3.drew):=⟨hm.later (Below.refl _ W3).drew,hrow3,htw.trans (Tn.later (Below.refl _ W3).drew)⟩
 have g5:=hm.row.cell? (i:=260) (mCells_tail 1);have g6:=hm.row.cell? (i:=261) (mCells_tail 2)
 have CF:Hid (∀W,(MM W (w1.heap.size+2+2) (w1.heap.size+1) bx bf bi (some ⟨b,0,none⟩) ss.length ss (.slice ae ef.length ce) ef vs (.slice ag R.cmds.length cg) st fl go R∧Row W w.heap.size 48 [.slice none 0 0,.slice none 0 0,.int .i64 0,.int .i64 0]∧Tn (fun k=>k=bx∨k=bf) w W)→
  Calls Tryz.prog 83 #[.pointer (some ⟨bx,0,none⟩)] W fun e w' =>(∃av cv,e= .returned (.slice av (Pl.sortF R.files).length cv)∧AFls w' (w.heap.size+1) (.slice av (Pl.sortF R.files).length cv) (Pl.sortF R.files))∧
   (MM w' (w1.heap.size+2+2) (w1.heap.size+1) bx bf bi (some ⟨b,0,none⟩) ss.length ss (.slice ae ef.length ce) ef vs (.slice ag R.cmds.length cg) st fl go R∧Row w' w.heap.size 48 [.slice none 0 0,.slice none 0 0,.int .i64 0,.int .i64 0]∧Tn (fun k=>k=bx∨k=bf) w w')∧
   w'.cell? ⟨w1.heap.size+1,260,none⟩=some (.slice ag R.cmds.length cg)∧w'.cell? ⟨w1.heap.size+1,261,none⟩=some (.int .i64 R.exit)):=fun W hp=>by
  refine(files_any bx bf bi _ _ _ _ W hp.1.pw hFR.1 (by omega) (fun f hf=>uh HSP _ (hFR.2 _ (List.mem_map_of_mem hf)))).mono ?_
  rintro e w' ⟨⟨v,he,hv⟩,hb'⟩
  obtain⟨av,cv,rfl⟩:=own_sh hv;have hm' :=hp.1.later hb';exact⟨⟨av,cv,he,own_mono hv (by have:=hp.2.1.lt;omega)⟩,⟨hm',hp.2.1.later hb',hp.2.2.trans (Tn.later hb')⟩,hm'.row.cell? (i:=260) (mCells_tail 1),hm'.row.cell? (i:=261) (mCells_tail 2)⟩
 have CK:Hid (∀W,(MM W (w1.heap.size+2+2) (w1.heap.size+1) bx bf bi (some ⟨b,0,none⟩) ss.length ss (.slice ae ef.length ce) ef vs (.slice ag R.cmds.length cg) st fl go R∧Row W w.heap.size 48 [.slice none 0 0,.slice none 0 0,.int .i64 0,.int .i64 0]∧Tn (fun k=>k=bx∨k=bf) w W)→
  Calls Tryz.prog 84 #[.pointer (some ⟨bx,0,none⟩)] W fun e w' =>e= .returned (.int .i64 R.clock)∧W=w'):=fun W hp=>wclock_any bx bf bi _ _ _ _ W hp.1.pw
 clear hm ht hrow3 htw hFR;have HRR:=hide hRR;clear hRR CR CC hct;have hne1:¬w1.heap.size+1=w.heap.size:=by omega
 have hne2:¬w.heap.size=w1.heap.size+1:=by omega
 go_wp2_with fail
 go_region_held3 (fun w' =>w'.cell? ⟨w1.heap.size+1,260,none⟩=some (.slice ag R.cmds.length cg)∧w'.cell? ⟨w1.heap.size+1,261,none⟩=some (.int .i64 R.exit)) (go_keep) (first
  |(go_at_call 83;refine(uh CF _ ?_).mono ?_;exact uh HP0;rintro e w5 ⟨⟨av,cv,rfl,hv⟩,hp5,z0,z1⟩;have HP5:=hide hp5;have HV5:=hide hv;have r0:=hp5.2.1.cell 0 (by simp);have r1:=hp5.2.1.cell 1 (by simp);have r2:=hp5.2.1.cell 2 (by simp);have r3:=hp5.2.1.cell 3 (by simp);have f0:=hp5.2.1.frozen 0;have f1:=hp5.2.1.frozen 1;have f2:=hp5.2.1.frozen 2;have f3:=hp5.2.1.frozen 3;simp only[List.getElem_cons_zero,List.getElem_cons_succ] at r0 r1 r2 r3;clear hp5 hv)
  |(go_at_call 84;refine(uh CK _ ?_).mono ?_;(first|exact uh HP5|exact uh HP0);rintro e w6 ⟨rfl,rfl⟩))
 all_goals go_wp2_with fail
 have hp5:=uh HP5;have hR:=(((hp5.2.1.set 0 (.slice ag R.cmds.length cg)).set 1 (.slice av (Pl.sortF R.files).length cv)).set 2 (.int .i64 R.exit)).set 3 (.int .i64 R.clock);have o0:=hR.cell 0 (by simp);have o1:=hR.cell 1 (by simp);have o2:=hR.cell 2 (by simp);have o3:=hR.cell 3 (by simp)
 simp only[List.set_cons_zero,List.set_cons_succ,List.getElem_cons_zero,List.getElem_cons_succ] at o0 o1 o2 o3;have n1:=own_ne hp5.1.given (N:=w.heap.size) (by omega);have n2:=own_ne (uh HV5) (N:=w.heap.size) (by omega)
 have htn:∀(W:World) (j:Nat) (u:Value),Tn (fun k=>k=bx∨k=bf) w W→Tn (fun k=>k=bx∨k=bf) w (W.setCell ⟨w.heap.size,j,none⟩ u):=fun W j u ht=>⟨((Below.refl 0 W).setCell (p:=⟨w.heap.size,j,none⟩) (Nat.zero_le _) u).os.trans ht.os,((Below.refl 0 W).setCell (p:=⟨w.heap.size,j,none⟩) (Nat.zero_le _) u).tape.trans ht.tape,((Below.refl 0 W).setCell (p:=⟨w.heap.size,j,none⟩) (Nat.zero_le _) u).output.trans ht.output,Nat.le_trans ht.size ((Below.refl 0 W).setCell (p:=⟨w.heap.size,j,none⟩) (Nat.zero_le _) u).size,fun k hk hp=>(Below.heap_setCell W ⟨w.heap.size,j,none⟩ u k (by show k≠w.heap.size;omega)).trans (ht.block k hk hp)⟩
 refine bodyPost_ret (v:= .tuple #[.agg #[.slice ag R.cmds.length cg,.slice av (Pl.sortF R.files).length cv,.int .i64 R.exit,.int .i64 R.clock],.int .i64 0]) ?_ rfl ⟨htn _ _ _ (htn _ _ _ (htn _ _ _ (htn _ _ _ hp5.2.2))),.inr ⟨ss,c,_,_,uh HLD,uh HY,by rw[uh HRR],?_,?_⟩⟩
 ·simp[results,Tryz.results60,go_sem,o0,o1,o2,o3]
 ·rw[uh HRR];exact own_mono (owns_other (owns_other (owns_other (owns_other hp5.1.given n1 _ _) n1 _ _) n1 _ _) n1 _ _) (by omega)
 ·rw[uh HRR];exact own_mono (owns_other (owns_other (owns_other (owns_other (uh HV5) n2 _ _) n2 _ _) n2 _ _) n2 _ _) (by omega)
end Go.Proofs.YtjelacjggijmfaaGreatDoor
namespace Go.Proofs.YtjelacjggijmfaaGreatDoor
open Go.RowKit Go.Shelf Go.MapKept Go.ChangeMaps Go.Maps
structure ARunPost (l:Pl.Bs) (fs:List Pl.File) (ef:List Pl.Eff) (clock:Int) (w:World) (e:Ending) (w' :World):Prop where
 below:Below w.heap.size w w'
 res:(¬Pl.checkOf l∧e= .returned (.tuple #[zRes,.int .i64 9]))∨
  ∃ss c vc vr,Pl.load l=some (ss,c)∧Pl.checkOf l∧e= .returned (.tuple #[.agg #[vc,vr,.int .i64 (Pl.runW c ss ef (Pl.newW fs clock)).exit,.int .i64 (Pl.runW c ss ef (Pl.newW fs clock)).clock],.int .i64 0])∧
   Strs w' w.heap.size vc (Pl.runW c ss ef (Pl.newW fs clock)).cmds∧AFls w' w.heap.size vr (Pl.sortF (Pl.runW c ss ef (Pl.newW fs clock)).files)
theorem runText_any (l:Pl.Bs) (hl:l.length≤8388608) (ae:Option Addr) (ce L be oe:Nat) (S:List Pl.Bs) (bx bf bi:Nat) (ef:List Pl.Eff) (X:Pl.Wd) (w:World)
 (hpw:PW w bx bf bi (.slice ae ef.length ce) ef X.files X.clock) (hx:X.exit=0) (hc:X.cmds=[]) (hE:EffOk w L be oe ae ef S) (hL1:L≤bx) (hL2:L≤bf) (hfit:Fit S X.files) (hSp:∀p∈S,p.length≤maxLen):
 Calls Tryz.prog 60 #[.string ⟨l.toArray⟩,.pointer (some ⟨bx,0,none⟩)] w fun e w' =>TextPost l ef X bx bf w e w' :=by
 by_cases h:Pl.checkOf l
 ·exact runText_yes l hl h ae ce L be oe S bx bf bi ef X w hpw hx hc hE hL1 hL2 hfit hSp
 ·exact runText_no l hl h ef X bx bf w
theorem makerRun_gen (l:Pl.Bs) (hl:l.length≤8388608) (fs:List Pl.File) (ef:List Pl.Eff) (S:List Pl.Bs) (a ae:Option Addr) (cap b o ce L be oe:Nat) (clock:Int) (w:World)
 (ha:0<fs.length→a=some ⟨b,o,none⟩) (hr:RdF (w.alloc (.cells #[.slice none 0 0,.slice none 0 0,.int .i64 0,.int .i64 0] 48)) b o fs) (hbw:b<w.heap.size+1) (hfl:fs.length≤8388608) (hE:EffOk (w.alloc (.cells #[.slice none 0 0,.slice none 0 0,.int .i64 0,.int .i64 0] 48)) L be oe ae ef S) (hL:L≤w.heap.size+1) (hfS:∀f∈fs,f.path∈S) (hSp:∀p∈S,p.length≤maxLen):
 Calls Tryz.prog 30 #[.string ⟨l.toArray⟩,.slice a fs.length cap,.slice ae ef.length ce,.int .i64 clock] w fun e w' =>ARunPost l fs ef clock w e w' :=by
 have hb0:Below w.heap.size w (w.alloc (.cells #[.slice none 0 0,.slice none 0 0,.int .i64 0,.int .i64 0] 48)):=(Below.refl _ w).alloc (Nat.le_refl _) _;have hR0:=Row.new w 48 [.slice none 0 0,.slice none 0 0,.int .i64 0,.int .i64 0];have hs0:(w.alloc (.cells #[.slice none 0 0,.slice none 0 0,.int .i64 0,.int .i64 0] 48)).heap.size=w.heap.size+1:=World.size_alloc _ _
 have CN:=hide (worldNew_any fs ef a ae cap b o ce L be oe clock (w.alloc (.cells #[.slice none 0 0,.slice none 0 0,.int .i64 0,.int .i64 0] 48)) ha hr (by omega) hfl hE.at' hE.rd (by omega) hE.many);have hft:Fit S (Pl.newW fs clock).files:=Fit.adds fs ⟨by simp[Pl.Uniq],by simp⟩ hfS;have HFT:=hide hft
 have CT:Hid (∀(W:World) (bx bf bi:Nat),PW W bx bf bi (.slice ae ef.length ce) ef (Pl.newW fs clock).files clock→Below (w.heap.size+1) (w.alloc (.cells #[.slice none 0 0,.slice none 0 0,.int .i64 0,.int .i64 0] 48)) W→w.heap.size+1≤bx→w.heap.size+1≤bf→Calls Tryz.prog 60 #[.string ⟨l.toArray⟩,.pointer (some ⟨bx,0,none⟩)] W fun e w' =>∃a1 n1 c1 a2 n2 c2 ex ck er,e= .returned (.tuple #[.agg #[.slice a1 n1 c1,.slice a2 n2 c2,.int .i64 ex,.int .i64 ck],.int .i64 er])∧
  Row w' w.heap.size 48 [.slice none 0 0,.slice none 0 0,.int .i64 0,.int .i64 0]∧ARunPost l fs ef clock w (.returned (.tuple #[.agg #[.slice a1 n1 c1,.slice a2 n2 c2,.int .i64 ex,.int .i64 ck],.int .i64 er])) ((((w'.setCell ⟨w.heap.size,0,none⟩ (.slice a1 n1 c1)).setCell ⟨w.heap.size,1,none⟩ (.slice a2 n2 c2)).setCell ⟨w.heap.size,2,none⟩ (.int .i64 ex)).setCell ⟨w.heap.size,3,none⟩ (.int .i64 ck))):=fun W bx bf bi hp hb h1 h2=>by
  have hz:=hb.size;rw[hs0] at hz;have hbW:Below w.heap.size w W:=hb0.trans (hb.mono (Nat.le_add_right _ _));refine(runText_any l hl ae ce L be oe S bx bf bi ef (Pl.newW fs clock) W hp rfl rfl (hE.tn (Tn.later (p:=fun _=>False) (by rw[hs0];exact hb)) (by omega) (fun k e=>e.elim)) (by omega) (by omega) (uh HFT) hSp).mono ?_
  rintro e w' ⟨ht,hres⟩
  have hrow:Row w' w.heap.size 48 [.slice none 0 0,.slice none 0 0,.int .i64 0,.int .i64 0]:=(hR0.below hb (by omega)).tn ht (by omega);have hb2:Below w.heap.size w w' :=hbW.trans (ht.below (by omega) (fun k e=>by omega))
  have hset:∀u0 u1 u2 u3,Below w.heap.size w ((((w'.setCell ⟨w.heap.size,0,none⟩ u0).setCell ⟨w.heap.size,1,none⟩ u1).setCell ⟨w.heap.size,2,none⟩ u2).setCell ⟨w.heap.size,3,none⟩ u3):=fun u0 u1 u2 u3=>(((hb2.setCell (p:=⟨w.heap.size,0,none⟩) (Nat.le_refl _) u0).setCell (p:=⟨w.heap.size,1,none⟩) (Nat.le_refl _) u1).setCell (p:=⟨w.heap.size,2,none⟩) (Nat.le_refl _) u2).setCell (p:=⟨w.heap.size,3,none⟩) (Nat.le_refl _) u3
  rcases hres with⟨h,rfl⟩|⟨ss,c,vc,vr,q1,q2,rfl,q4,q5⟩
  ·exact⟨none,0,0,none,0,0,0,0,9,rfl,hrow,hset _ _ _ _,.inl ⟨h,rfl⟩⟩
  ·obtain⟨a1,c1,rfl⟩:=own_sh q4
   obtain⟨a2,c2,rfl⟩:=own_sh q5;have n1:=own_ne q4 (N:=w.heap.size) (by omega);have n2:=own_ne q5 (N:=w.heap.size) (by omega)
   exact⟨a1,_,c1,a2,_,c2,_,_,0,rfl,hrow,hset _ _ _ _,.inr ⟨ss,c,_,_,q1,q2,rfl,own_mono (owns_other (owns_other (owns_other (owns_other q4 n1 _ _) n1 _ _) n1 _ _) n1 _ _) (by omega),own_mono (owns_other (owns_other (owns_other (owns_other q5 n2 _ _) n2 _ _) n2 _ _) n2 _ _) (by omega)⟩⟩
 clear ha hr hE hfS hSp hft
 go_enter Tryz.func30,Tryz.ntmps30
 go_wp2_with (first
  |(go_at_call 61;refine(uh CN).mono ?_;rintro e w1 ⟨bx,bf,bi,rfl,hp,hb,h1,h2,h3⟩;rw[hs0] at hb h1 h2;have HP:=hide hp;have HB:=hide hb;clear hp hb)
  |(go_at_call 60;refine(uh CT _ bx bf bi (uh HP) (uh HB) h1 h2).mono ?_;rintro e w2 ⟨a1,n1,c1,a2,n2,c2,ex,ck,er,rfl,hrow,hpost⟩;have HPO:=hide hpost;have HRO:=hide hrow;have r0:=hrow.cell 0 (by simp);have r1:=hrow.cell 1 (by simp);have r2:=hrow.cell 2 (by simp);have r3:=hrow.cell 3 (by simp);have f0:=hrow.frozen 0;have f1:=hrow.frozen 1;have f2:=hrow.frozen 2;have f3:=hrow.frozen 3;simp only[List.getElem_cons_zero,List.getElem_cons_succ] at r0 r1 r2 r3;clear hpost hrow)
  |fail)
 have hR:=((((uh HRO).set 0 (.slice a1 n1 c1)).set 1 (.slice a2 n2 c2)).set 2 (.int .i64 ex)).set 3 (.int .i64 ck);have o0:=hR.cell 0 (by simp);have o1:=hR.cell 1 (by simp);have o2:=hR.cell 2 (by simp);have o3:=hR.cell 3 (by simp);simp only[List.set_cons_zero,List.set_cons_succ,List.getElem_cons_zero,List.getElem_cons_succ] at o0 o1 o2 o3
 refine bodyPost_ret (v:= .tuple #[.agg #[.slice a1 n1 c1,.slice a2 n2 c2,.int .i64 ex,.int .i64 ck],.int .i64 er]) ?_ rfl (uh HPO);simp[results,Tryz.results30,go_sem,o0,o1,o2,o3]
theorem makerRun_any (l:Pl.Bs) (hl:l.length≤8388608) (fs:List Pl.File) (ef:List Pl.Eff) (S:List Pl.Bs) (a ae:Option Addr) (cap b o ce L be oe:Nat) (clock:Int) (w:World)
 (ha:0<fs.length→a=some ⟨b,o,none⟩) (hr:RdF w b o fs) (hbw:b<w.heap.size) (hfl:fs.length≤8388608) (hE:EffOk w L be oe ae ef S) (hL:L≤w.heap.size) (hfS:∀f∈fs,f.path∈S) (hSp:∀p∈S,p.length≤maxLen):
 Calls Tryz.prog 30 #[.string ⟨l.toArray⟩,.slice a fs.length cap,.slice ae ef.length ce,.int .i64 clock] w fun e w' =>ARunPost l fs ef clock w e w' :=by
 have hb0:Below w.heap.size w (w.alloc (.cells #[.slice none 0 0,.slice none 0 0,.int .i64 0,.int .i64 0] 48)):=(Below.refl _ w).alloc (Nat.le_refl _) _;exact makerRun_gen l hl fs ef S a ae cap b o ce L be oe clock w ha (hr.below hb0 hbw) (by omega) hfl (hE.tn (Tn.later (p:=fun _=>False) hb0) hL (fun k e=>e.elim)) (by omega) hfS hSp
end Go.Proofs.YtjelacjggijmfaaGreatDoor
namespace Go.Proofs.YtjelacjggijmfaaGreatDoor
open Go.RowKit Go.MapKept Go.ChangeMaps Go.Maps
structure FsOk (fs0:List Pl.File) (path goal:Pl.Bs):Prop where
 few:fs0.length≤8388608
 text:∃M,101*M≤2000000000∧∀p g,Pl.look (fs0.foldl Pl.addF []) p=some g→g.text.length+1≤M∧g.text.length≤1073741824
 many:(fs0.foldl Pl.addF []).length≤4000000000
 long:∀f∈fs0.foldl Pl.addF [],f.path.length≤8388608
 name:∃P,P≤80000∧NmB (bookF (fs0.foldl Pl.addF []) path).2.2 (fs0.foldl Pl.addF []) (goalF (bookF (fs0.foldl Pl.addF []) path).2.2 goal) P
theorem compile_any {fs0:List Pl.File} {path goal:Pl.Bs} (hF:FsOk fs0 path goal) (a:Option Addr) (cap b o:Nat) (W:World) (ha:0<fs0.length→a=some ⟨b,o,none⟩) (hr:RdF W b o fs0) (hbw:b<W.heap.size) (hg:Glob W):
 Calls Tryz.prog 11 #[.slice a fs0.length cap,.string ⟨path.toArray⟩,.string ⟨goal.toArray⟩] W fun e W' =>TextP (fs0.foldl Pl.addF []) path goal W e W' :=by
 obtain⟨M,hM,hf⟩:=hF.text;obtain⟨P,hP,hn⟩:=hF.name;have C:=hide (text_any fs0 path goal a cap b o M P W ha hr hbw hF.few hg hf hM hF.many hP hF.long hn);clear ha hr hf hn hF
 go_enter Tryz.func11,Tryz.ntmps11
 go_wp2_with fail
 refine(uh C).mono ?_
 rintro e w1 ⟨r,h1,rfl,h3⟩
 have H:=hide (show TextP (fs0.foldl Pl.addF []) path goal W (.returned (.tuple #[.string ⟨r.1.toArray⟩,.int .i64 (r.2.1:Int),.int .i64 (r.2.2:Int)])) w1 from⟨r,h1,rfl,h3⟩);clear h1 h3 C
 go_wp2_with fail
 go_ret3
 exact uh H
def RunRes (l:Pl.Bs) (fs:List Pl.File) (ef:List Pl.Eff) (clock:Int) (B:Nat) (e:Ending) (w' :World):Prop:=
 (¬Pl.checkOf l∧e= .returned (.tuple #[zRes,.int .i64 9]))∨
  ∃ss c vc vr,Pl.load l=some (ss,c)∧Pl.checkOf l∧e= .returned (.tuple #[.agg #[vc,vr,.int .i64 (Pl.runW c ss ef (Pl.newW fs clock)).exit,.int .i64 (Pl.runW c ss ef (Pl.newW fs clock)).clock],.int .i64 0])∧
   Strs w' B vc (Pl.runW c ss ef (Pl.newW fs clock)).cmds∧AFls w' B vr (Pl.sortF (Pl.runW c ss ef (Pl.newW fs clock)).files)
section
variable {l:Pl.Bs} {fs:List Pl.File} {ef:List Pl.Eff} {clock:Int} {B:Nat} {e:Ending} {w w' :World}
theorem RunRes.shape (h:RunRes l fs ef clock B e w'):∃a1 n1 c1 a2 n2 c2 ex ck er,e= .returned (.tuple #[.agg #[.slice a1 n1 c1,.slice a2 n2 c2,.int .i64 ex,.int .i64 ck],.int .i64 er]):=by
 rcases h with⟨_,rfl⟩|⟨ss,c,vc,vr,_,_,rfl,h4,h5⟩
 ·exact⟨none,0,0,none,0,0,0,0,9,rfl⟩
 ·obtain⟨a1,c1,rfl⟩:=own_sh h4
  obtain⟨a2,c2,rfl⟩:=own_sh h5;exact⟨a1,_,c1,a2,_,c2,_,_,0,rfl⟩
theorem RunRes.set {N k:Nat} (h:RunRes l fs ef clock B e w') (hN:N<B) (u:Value):RunRes l fs ef clock B e (w'.setCell ⟨N,k,none⟩ u):=by
 rcases h with h|⟨ss,c,vc,vr,h1,h2,h3,h4,h5⟩
 ·exact .inl h
 ·exact .inr ⟨ss,c,vc,vr,h1,h2,h3,owns_other h4 (own_ne h4 hN) _ _,owns_other h5 (own_ne h5 hN) _ _⟩
theorem RunRes.later (h:RunRes l fs ef clock B e w) (hb:Below w.heap.size w w'):RunRes l fs ef clock B e w' :=by
 rcases h with h|⟨ss,c,vc,vr,h1,h2,h3,h4,h5⟩
 ·exact .inl h
 ·exact .inr ⟨ss,c,vc,vr,h1,h2,h3,own_same h4 (fun k hk=>hb.block k (World.ownsRow.lt h4 k hk).2),own_same h5 (fun k hk=>hb.block k (World.ownsRow.lt h5 k hk).2)⟩
theorem RunRes.low {C:Nat} (h:RunRes l fs ef clock B e w) (hC:C≤B):RunRes l fs ef clock C e w:=by
 rcases h with h|⟨ss,c,vc,vr,h1,h2,h3,h4,h5⟩
 ·exact .inl h
 ·exact .inr ⟨ss,c,vc,vr,h1,h2,h3,own_mono h4 hC,own_mono h5 hC⟩
end
def MakeP (fs0:List Pl.File) (path goal:Pl.Bs) (ef:List Pl.Eff) (clock:Int) (W:World) (e:Ending) (W' :World):Prop:=
 Below W.heap.size W W' ∧∃r,TextR (fs0.foldl Pl.addF []) path goal r∧((r.2.1≠0∧e= .returned (.tuple #[zRes,.int .i64 (r.2.1:Int),.int .i64 (r.2.2:Int)]))∨
  (r.2.1=0∧∃v er,e= .returned (.tuple #[v,.int .i64 er,.int .i64 0])∧RunRes r.1 fs0 ef clock W.heap.size (.returned (.tuple #[v,.int .i64 er])) W'))
end Go.Proofs.YtjelacjggijmfaaGreatDoor
