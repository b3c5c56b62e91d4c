/-
  The program's run over all instructions: those that are left out, and those that are done.
-/
import Derived.Test.YtjelacjggijmfaaGreatDoorTGH4
import Derived.Test.YtjelacjggijmfaaGreatDoorTSP7
set_option maxHeartbeats 4000000
set_option maxRecDepth 20000
namespace Go.Proofs.YtjelacjggijmfaaGreatDoor
open Go.RowKit Go.MapKept Go.ChangeMaps Go.Maps
attribute [local go_sem↓] Go.wp_at_zero Go.wp_at_succ
theorem do2_any (at_ nx F G:Nat) (B bm bx bf bi:Nat) (ap:Option Addr) (cp:Nat) (ss:List Pl.Bs) (ve:Value) (ef:List Pl.Eff) (vs vg:Value) (st:List Bool) (fl:Nat→Bool) (go:Nat) (X:Pl.Wd) (w:World) (h:MM w B bm bx bf bi ap cp ss ve ef vs vg st fl go X) (hst:st.length≤18) (hF:F<ss.length):
 Calls Tryz.prog 133 #[.pointer (some ⟨bm,0,none⟩),.agg #[.int .u8 2,.int .i64 at_,.int .i64 nx,.int .i64 F,.int .i64 G]] w fun e w' =>e= .returned (.tuple #[])∧∃vs' vg',MM w' B bm bx bf bi ap cp ss ve ef vs' vg' (st++[(Pl.look X.files ss[F]).isNone]) fl go X∧MTn bm bx bf vs vg vs' vg' w w' :=by
 obtain⟨b,hb,-⟩:=h.str (by omega);subst hb;have hbw:Below w.heap.size w (w.alloc (.cells #[.int .u8 2,.int .i64 at_,.int .i64 nx,.int .i64 F,.int .i64 G] 254)):=(Below.refl _ w).alloc (Nat.le_refl _) _;have HM0:=hide (h.later hbw);have HT0:Hid (MTn bm bx bf vs vg vs vg w (w.alloc (.cells #[.int .u8 2,.int .i64 at_,.int .i64 nx,.int .i64 F,.int .i64 G] 254))):=MTn.later hbw
 have HR0:Hid (Row (w.alloc (.cells #[.int .u8 2,.int .i64 at_,.int .i64 nx,.int .i64 F,.int .i64 G] 254)) w.heap.size 254 (insL 2 at_ nx F G)):=Row.new w 254 [.int .u8 2,.int .i64 at_,.int .i64 nx,.int .i64 F,.int .i64 G]
 have HS:Hid (∀(W:World) (vs1 vg1:Value) (st1:List Bool) (X1:Pl.Wd),MM W B bm bx bf bi (some ⟨b,0,none⟩) cp ss ve ef vs1 vg1 st1 fl go X1→Row W w.heap.size 254 (insL 2 at_ nx F G)→W.cell? ⟨bm,0,none⟩=some (.pointer (some ⟨bx,0,none⟩))∧W.cell? ⟨bm,1,none⟩=some (.slice (some ⟨b,0,none⟩) ss.length cp)∧W.cell? ⟨w.heap.size,3,none⟩=some (.int .i64 F)∧W.cell? ⟨b,F,none⟩=some (.string ⟨ss[F].toArray⟩)):=fun W vs1 vg1 st1 X1 hm hr=>⟨hm.row.cell? (i:=0) rfl,hm.row.cell? (i:=1) rfl,hr.cell? (i:=3) rfl,by obtain⟨b',hb',hc'⟩:=hm.str (by omega);cases hb';exact hc' F hF⟩
 have HFR:Hid (∀(W Z:World) (v1 v2:Value),Row W w.heap.size 254 (insL 2 at_ nx F G)→MTn bm bx bf vs vg v1 v2 W Z→Row Z w.heap.size 254 (insL 2 at_ nx F G)):=fun W Z v1 v2 hr ht=>h.far (Nat.le_refl _) hr ht
 have CP:Hid (∀(W:World) (z:Bool),(MM W B bm bx bf bi (some ⟨b,0,none⟩) cp ss ve ef vs vg st fl go X∧Row W w.heap.size 254 (insL 2 at_ nx F G)∧MTn bm bx bf vs vg vs vg w W)→Calls Tryz.prog 173 #[.pointer (some ⟨bm,0,none⟩),.bool z] W fun e w' =>e= .returned (.tuple #[])∧(∃vs',MM w' B bm bx bf bi (some ⟨b,0,none⟩) cp ss ve ef vs' vg (st++[z]) fl go X∧MTn bm bx bf vs vg vs' vg w w')∧w'.cell? ⟨bm,0,none⟩=some (.pointer (some ⟨bx,0,none⟩))∧w'.cell? ⟨bm,1,none⟩=some (.slice (some ⟨b,0,none⟩) ss.length cp)∧w'.cell? ⟨w.heap.size,3,none⟩=some (.int .i64 F)∧w'.cell? ⟨b,F,none⟩=some (.string ⟨ss[F].toArray⟩)):=fun W z hp=>by
  refine(push_any z _ _ _ _ _ _ _ _ _ _ _ _ _ _ _ _ W hp.1 (by omega)).mono ?_
  rintro e w' ⟨he,vs',hm,ht⟩
  exact⟨he,⟨vs',hm,hp.2.2.trans ht⟩,uh HS _ _ _ _ _ hm (uh HFR _ _ _ _ hp.2.1 ht)⟩
 have CH:Hid (∀W,(MM W B bm bx bf bi (some ⟨b,0,none⟩) cp ss ve ef vs vg st fl go X∧Row W w.heap.size 254 (insL 2 at_ nx F G)∧MTn bm bx bf vs vg vs vg w W)→Calls Tryz.prog 174 #[.pointer (some ⟨bx,0,none⟩),.string ⟨ss[F].toArray⟩] W fun e w' =>e= .returned (.bool (Pl.look X.files ss[F]).isSome)∧(MM w' B bm bx bf bi (some ⟨b,0,none⟩) cp ss ve ef vs vg st fl go X∧Row w' w.heap.size 254 (insL 2 at_ nx F G)∧MTn bm bx bf vs vg vs vg w w')∧w'.cell? ⟨bm,0,none⟩=some (.pointer (some ⟨bx,0,none⟩))∧w'.cell? ⟨bm,1,none⟩=some (.slice (some ⟨b,0,none⟩) ss.length cp)∧w'.cell? ⟨w.heap.size,3,none⟩=some (.int .i64 F)∧w'.cell? ⟨b,F,none⟩=some (.string ⟨ss[F].toArray⟩)):=fun W hp=>by
  refine(has_any bx bf bi _ _ _ _ _ W hp.1.pw).mono ?_
  rintro e w' ⟨he,hb'⟩
  exact⟨he,⟨hp.1.later hb',hp.2.1.later hb',hp.2.2.trans (MTn.later hb')⟩,uh HS _ _ _ _ _ (hp.1.later hb') (hp.2.1.later hb')⟩
 have hq:(Pl.look X.files ss[F]).isNone= !(Pl.look X.files ss[F]).isSome:=by cases Pl.look X.files ss[F]<;>rfl
 rw[hq];generalize (Pl.look X.files ss[F]).isSome=q at*;clear hq;have s0:=uh HS _ _ _ _ _ (uh HM0) (uh HR0);have hne:=h.lm;have hlw:=h.lw;clear h hbw;have i1:(F:Int)<(ss.length:Int):=by omega
 have i2:(0:Int)≤(F:Int):=by omega
 obtain⟨x0,x1,x2,x3⟩:=s0
 have HW0:Hid (MM (w.alloc (.cells #[.int .u8 2,.int .i64 at_,.int .i64 nx,.int .i64 F,.int .i64 G] 254)) B bm bx bf bi (some ⟨b,0,none⟩) cp ss ve ef vs vg st fl go X∧Row (w.alloc (.cells #[.int .u8 2,.int .i64 at_,.int .i64 nx,.int .i64 F,.int .i64 G] 254)) w.heap.size 254 (insL 2 at_ nx F G)∧MTn bm bx bf vs vg vs vg w (w.alloc (.cells #[.int .u8 2,.int .i64 at_,.int .i64 nx,.int .i64 F,.int .i64 G] 254))):=⟨uh HM0,uh HR0,uh HT0⟩
 go_enter Tryz.func133,Tryz.ntmps133
 go_wp2_with fail
 generalize w.alloc (.cells #[.int .u8 2,.int .i64 at_,.int .i64 nx,.int .i64 F,.int .i64 G] 254)=V at*;have HV1:Hid (MM V.drew B bm bx bf bi (some ⟨b,0,none⟩) cp ss ve ef vs vg st fl go X∧Row V.drew w.heap.size 254 (insL 2 at_ nx F G)∧MTn bm bx bf vs vg vs vg w V.drew):=⟨(uh HW0).1.later (Below.refl _ V).drew,(uh HW0).2.1,(uh HW0).2.2.trans (MTn.later (Below.refl _ V).drew)⟩
 go_region_held3 (fun w' =>w'.cell? ⟨bm,0,none⟩=some (.pointer (some ⟨bx,0,none⟩))∧w'.cell? ⟨bm,1,none⟩=some (.slice (some ⟨b,0,none⟩) ss.length cp)∧w'.cell? ⟨w.heap.size,3,none⟩=some (.int .i64 F)∧w'.cell? ⟨b,F,none⟩=some (.string ⟨ss[F].toArray⟩)) (go_keep) (first
  |(go_at_call 174;refine(uh CH _ ?_).mono ?_;exact uh HV1;rintro e w2 ⟨rfl,hp2,z0,z1,z2,z3⟩;have HP2:=hide hp2;clear hp2)
  |(go_at_call 173;refine(uh CP _ _ ?_).mono ?_;exact uh HP2;rintro e w3 ⟨rfl,hm3,y0,y1,y2,y3⟩;have HM3:=hide hm3;clear hm3))
 all_goals go_wp2_with fail
 all_goals go_end0
 all_goals(obtain ⟨vs3,hm3,ht3⟩:=uh HM3;exact⟨rfl,vs3,vg,hm3,ht3⟩)
theorem do3_any (at_ nx F G:Nat) (B bm bx bf bi:Nat) (ap:Option Addr) (cp:Nat) (ss:List Pl.Bs) (ve:Value) (ef:List Pl.Eff) (vs vg:Value) (st:List Bool) (fl:Nat→Bool) (go:Nat) (X:Pl.Wd) (w:World) (h:MM w B bm bx bf bi ap cp ss ve ef vs vg st fl go X) (hst:st.length≤18) (hF:F<ss.length) (hG:G<ss.length):
 Calls Tryz.prog 133 #[.pointer (some ⟨bm,0,none⟩),.agg #[.int .u8 3,.int .i64 at_,.int .i64 nx,.int .i64 F,.int .i64 G]] w fun e w' =>e= .returned (.tuple #[])∧∃vs' vg',MM w' B bm bx bf bi ap cp ss ve ef vs' vg' (st++[Pl.newer X.files ss[F] ss[G]]) fl go X∧MTn bm bx bf vs vg vs' vg' w w' :=by
 obtain⟨b,hb,-⟩:=h.str (by omega);subst hb;have hbw:Below w.heap.size w (w.alloc (.cells #[.int .u8 3,.int .i64 at_,.int .i64 nx,.int .i64 F,.int .i64 G] 254)):=(Below.refl _ w).alloc (Nat.le_refl _) _;have HM0:=hide (h.later hbw);have HT0:Hid (MTn bm bx bf vs vg vs vg w (w.alloc (.cells #[.int .u8 3,.int .i64 at_,.int .i64 nx,.int .i64 F,.int .i64 G] 254))):=MTn.later hbw
 have HR0:Hid (Row (w.alloc (.cells #[.int .u8 3,.int .i64 at_,.int .i64 nx,.int .i64 F,.int .i64 G] 254)) w.heap.size 254 (insL 3 at_ nx F G)):=Row.new w 254 [.int .u8 3,.int .i64 at_,.int .i64 nx,.int .i64 F,.int .i64 G]
 have HS:Hid (∀(W:World) (vs1 vg1:Value) (st1:List Bool) (X1:Pl.Wd),MM W B bm bx bf bi (some ⟨b,0,none⟩) cp ss ve ef vs1 vg1 st1 fl go X1→Row W w.heap.size 254 (insL 3 at_ nx F G)→W.cell? ⟨bm,0,none⟩=some (.pointer (some ⟨bx,0,none⟩))∧W.cell? ⟨bm,1,none⟩=some (.slice (some ⟨b,0,none⟩) ss.length cp)∧W.cell? ⟨w.heap.size,3,none⟩=some (.int .i64 F)∧W.cell? ⟨w.heap.size,4,none⟩=some (.int .i64 G)∧W.cell? ⟨b,F,none⟩=some (.string ⟨ss[F].toArray⟩)∧W.cell? ⟨b,G,none⟩=some (.string ⟨ss[G].toArray⟩)):=fun W vs1 vg1 st1 X1 hm hr=>⟨hm.row.cell? (i:=0) rfl,hm.row.cell? (i:=1) rfl,hr.cell? (i:=3) rfl,hr.cell? (i:=4) rfl,by obtain⟨b',hb',hc'⟩:=hm.str (by omega);cases hb';exact⟨hc' F hF,hc' G hG⟩⟩
 have HFR:Hid (∀(W Z:World) (v1 v2:Value),Row W w.heap.size 254 (insL 3 at_ nx F G)→MTn bm bx bf vs vg v1 v2 W Z→Row Z w.heap.size 254 (insL 3 at_ nx F G)):=fun W Z v1 v2 hr ht=>h.far (Nat.le_refl _) hr ht
 have CP:Hid (∀(W:World) (z:Bool),(MM W B bm bx bf bi (some ⟨b,0,none⟩) cp ss ve ef vs vg st fl go X∧Row W w.heap.size 254 (insL 3 at_ nx F G)∧MTn bm bx bf vs vg vs vg w W)→Calls Tryz.prog 173 #[.pointer (some ⟨bm,0,none⟩),.bool z] W fun e w' =>e= .returned (.tuple #[])∧(∃vs',MM w' B bm bx bf bi (some ⟨b,0,none⟩) cp ss ve ef vs' vg (st++[z]) fl go X∧MTn bm bx bf vs vg vs' vg w w')∧w'.cell? ⟨bm,0,none⟩=some (.pointer (some ⟨bx,0,none⟩))∧w'.cell? ⟨bm,1,none⟩=some (.slice (some ⟨b,0,none⟩) ss.length cp)∧w'.cell? ⟨w.heap.size,3,none⟩=some (.int .i64 F)∧w'.cell? ⟨w.heap.size,4,none⟩=some (.int .i64 G)∧w'.cell? ⟨b,F,none⟩=some (.string ⟨ss[F].toArray⟩)∧w'.cell? ⟨b,G,none⟩=some (.string ⟨ss[G].toArray⟩)):=fun W z hp=>by
  refine(push_any z _ _ _ _ _ _ _ _ _ _ _ _ _ _ _ _ W hp.1 (by omega)).mono ?_
  rintro e w' ⟨he,vs',hm,ht⟩
  exact⟨he,⟨vs',hm,hp.2.2.trans ht⟩,uh HS _ _ _ _ _ hm (uh HFR _ _ _ _ hp.2.1 ht)⟩
 have CH:Hid (∀W,(MM W B bm bx bf bi (some ⟨b,0,none⟩) cp ss ve ef vs vg st fl go X∧Row W w.heap.size 254 (insL 3 at_ nx F G)∧MTn bm bx bf vs vg vs vg w W)→Calls Tryz.prog 175 #[.pointer (some ⟨bx,0,none⟩),.string ⟨ss[F].toArray⟩,.string ⟨ss[G].toArray⟩] W fun e w' =>e= .returned (.bool (Pl.newer X.files ss[F] ss[G]))∧(MM w' B bm bx bf bi (some ⟨b,0,none⟩) cp ss ve ef vs vg st fl go X∧Row w' w.heap.size 254 (insL 3 at_ nx F G)∧MTn bm bx bf vs vg vs vg w w')∧w'.cell? ⟨bm,0,none⟩=some (.pointer (some ⟨bx,0,none⟩))∧w'.cell? ⟨bm,1,none⟩=some (.slice (some ⟨b,0,none⟩) ss.length cp)∧w'.cell? ⟨w.heap.size,3,none⟩=some (.int .i64 F)∧w'.cell? ⟨w.heap.size,4,none⟩=some (.int .i64 G)∧w'.cell? ⟨b,F,none⟩=some (.string ⟨ss[F].toArray⟩)∧w'.cell? ⟨b,G,none⟩=some (.string ⟨ss[G].toArray⟩)):=fun W hp=>by
  refine(newer_any bx bf bi _ _ _ _ _ _ W hp.1.pw).mono ?_
  rintro e w' ⟨he,hb'⟩
  exact⟨he,⟨hp.1.later hb',hp.2.1.later hb',hp.2.2.trans (MTn.later hb')⟩,uh HS _ _ _ _ _ (hp.1.later hb') (hp.2.1.later hb')⟩
 generalize Pl.newer X.files ss[F] ss[G]=q at*;have s0:=uh HS _ _ _ _ _ (uh HM0) (uh HR0);have hne:=h.lm;have hlw:=h.lw;clear h hbw;have i1:(F:Int)<(ss.length:Int):=by omega
 have i2:(0:Int)≤(F:Int):=by omega
 have i3:(G:Int)<(ss.length:Int):=by omega
 have i4:(0:Int)≤(G:Int):=by omega
 obtain⟨x0,x1,x2,x3,x4,x5⟩:=s0
 have HW0:Hid (MM (w.alloc (.cells #[.int .u8 3,.int .i64 at_,.int .i64 nx,.int .i64 F,.int .i64 G] 254)) B bm bx bf bi (some ⟨b,0,none⟩) cp ss ve ef vs vg st fl go X∧Row (w.alloc (.cells #[.int .u8 3,.int .i64 at_,.int .i64 nx,.int .i64 F,.int .i64 G] 254)) w.heap.size 254 (insL 3 at_ nx F G)∧MTn bm bx bf vs vg vs vg w (w.alloc (.cells #[.int .u8 3,.int .i64 at_,.int .i64 nx,.int .i64 F,.int .i64 G] 254))):=⟨uh HM0,uh HR0,uh HT0⟩
 go_enter Tryz.func133,Tryz.ntmps133
 go_wp2_with fail
 generalize w.alloc (.cells #[.int .u8 3,.int .i64 at_,.int .i64 nx,.int .i64 F,.int .i64 G] 254)=V at*;have HV1:Hid (MM V.drew B bm bx bf bi (some ⟨b,0,none⟩) cp ss ve ef vs vg st fl go X∧Row V.drew w.heap.size 254 (insL 3 at_ nx F G)∧MTn bm bx bf vs vg vs vg w V.drew):=⟨(uh HW0).1.later (Below.refl _ V).drew,(uh HW0).2.1,(uh HW0).2.2.trans (MTn.later (Below.refl _ V).drew)⟩
 go_region_held3 (fun w' =>w'.cell? ⟨bm,0,none⟩=some (.pointer (some ⟨bx,0,none⟩))∧w'.cell? ⟨bm,1,none⟩=some (.slice (some ⟨b,0,none⟩) ss.length cp)∧w'.cell? ⟨w.heap.size,3,none⟩=some (.int .i64 F)∧w'.cell? ⟨w.heap.size,4,none⟩=some (.int .i64 G)∧w'.cell? ⟨b,F,none⟩=some (.string ⟨ss[F].toArray⟩)∧w'.cell? ⟨b,G,none⟩=some (.string ⟨ss[G].toArray⟩)) (go_keep) (first
  |(go_at_call 175;refine(uh CH _ ?_).mono ?_;exact uh HV1;rintro e w2 ⟨rfl,hp2,z0,z1,z2,z3,z4,z5⟩;have HP2:=hide hp2;clear hp2)
  |(go_at_call 173;refine(uh CP _ _ ?_).mono ?_;exact uh HP2;rintro e w3 ⟨rfl,hm3,y0,y1,y2,y3,y4,y5⟩;have HM3:=hide hm3;clear hm3))
 all_goals go_wp2_with fail
 all_goals go_end0
 all_goals(obtain ⟨vs3,hm3,ht3⟩:=uh HM3;exact⟨rfl,vs3,vg,hm3,ht3⟩)
theorem do4_any (at_ nx F G:Nat) (B bm bx bf bi:Nat) (ap:Option Addr) (cp:Nat) (ss:List Pl.Bs) (ve:Value) (ef:List Pl.Eff) (vs vg:Value) (st:List Bool) (fl:Nat→Bool) (go:Nat) (X:Pl.Wd) (w:World) (h:MM w B bm bx bf bi ap cp ss ve ef vs vg st fl go X) (hst:st.length≤18) (hF:F<256):
 Calls Tryz.prog 133 #[.pointer (some ⟨bm,0,none⟩),.agg #[.int .u8 4,.int .i64 at_,.int .i64 nx,.int .i64 F,.int .i64 G]] w fun e w' =>e= .returned (.tuple #[])∧∃vs' vg',MM w' B bm bx bf bi ap cp ss ve ef vs' vg' (st++[fl F]) fl go X∧MTn bm bx bf vs vg vs' vg' w w' :=by
 have hbw:Below w.heap.size w (w.alloc (.cells #[.int .u8 4,.int .i64 at_,.int .i64 nx,.int .i64 F,.int .i64 G] 254)):=(Below.refl _ w).alloc (Nat.le_refl _) _;have HM0:=hide (h.later hbw);have HT0:Hid (MTn bm bx bf vs vg vs vg w (w.alloc (.cells #[.int .u8 4,.int .i64 at_,.int .i64 nx,.int .i64 F,.int .i64 G] 254))):=MTn.later hbw
 have HR0:Hid (Row (w.alloc (.cells #[.int .u8 4,.int .i64 at_,.int .i64 nx,.int .i64 F,.int .i64 G] 254)) w.heap.size 254 (insL 4 at_ nx F G)):=Row.new w 254 [.int .u8 4,.int .i64 at_,.int .i64 nx,.int .i64 F,.int .i64 G]
 have HS:Hid (∀(W:World) (vs1 vg1:Value) (st1:List Bool) (X1:Pl.Wd),MM W B bm bx bf bi ap cp ss ve ef vs1 vg1 st1 fl go X1→Row W w.heap.size 254 (insL 4 at_ nx F G)→W.cell? ⟨w.heap.size,3,none⟩=some (.int .i64 F)∧W.cell? ⟨bm,3+F,none⟩=some (.bool (fl F))):=fun W vs1 vg1 st1 X1 hm hr=>⟨hr.cell? (i:=3) rfl,hm.row.cell? (mCells_flag F hF)⟩
 have HFR:Hid (∀(W Z:World) (v1 v2:Value),Row W w.heap.size 254 (insL 4 at_ nx F G)→MTn bm bx bf vs vg v1 v2 W Z→Row Z w.heap.size 254 (insL 4 at_ nx F G)):=fun W Z v1 v2 hr ht=>h.far (Nat.le_refl _) hr ht
 have CP:Hid (∀(W:World) (z:Bool),(MM W B bm bx bf bi ap cp ss ve ef vs vg st fl go X∧Row W w.heap.size 254 (insL 4 at_ nx F G)∧MTn bm bx bf vs vg vs vg w W)→Calls Tryz.prog 173 #[.pointer (some ⟨bm,0,none⟩),.bool z] W fun e w' =>e= .returned (.tuple #[])∧(∃vs',MM w' B bm bx bf bi ap cp ss ve ef vs' vg (st++[z]) fl go X∧MTn bm bx bf vs vg vs' vg w w')∧w'.cell? ⟨w.heap.size,3,none⟩=some (.int .i64 F)∧w'.cell? ⟨bm,3+F,none⟩=some (.bool (fl F))):=fun W z hp=>by
  refine(push_any z _ _ _ _ _ _ _ _ _ _ _ _ _ _ _ _ W hp.1 (by omega)).mono ?_
  rintro e w' ⟨he,vs',hm,ht⟩
  exact⟨he,⟨vs',hm,hp.2.2.trans ht⟩,uh HS _ _ _ _ _ hm (uh HFR _ _ _ _ hp.2.1 ht)⟩
 have s0:=uh HS _ _ _ _ _ (uh HM0) (uh HR0);have hne:=h.lm;have hlw:=h.lw;clear h hbw;have i1:(F:Int)<256:=by omega
 have i2:(0:Int)≤(F:Int):=by omega
 obtain⟨x0,x1⟩:=s0
 have HW0:Hid (MM (w.alloc (.cells #[.int .u8 4,.int .i64 at_,.int .i64 nx,.int .i64 F,.int .i64 G] 254)) B bm bx bf bi ap cp ss ve ef vs vg st fl go X∧Row (w.alloc (.cells #[.int .u8 4,.int .i64 at_,.int .i64 nx,.int .i64 F,.int .i64 G] 254)) w.heap.size 254 (insL 4 at_ nx F G)∧MTn bm bx bf vs vg vs vg w (w.alloc (.cells #[.int .u8 4,.int .i64 at_,.int .i64 nx,.int .i64 F,.int .i64 G] 254))):=⟨uh HM0,uh HR0,uh HT0⟩
 go_enter Tryz.func133,Tryz.ntmps133
 go_wp2_with fail
 generalize w.alloc (.cells #[.int .u8 4,.int .i64 at_,.int .i64 nx,.int .i64 F,.int .i64 G] 254)=V at*;have HV1:Hid (MM V.drew B bm bx bf bi ap cp ss ve ef vs vg st fl go X∧Row V.drew w.heap.size 254 (insL 4 at_ nx F G)∧MTn bm bx bf vs vg vs vg w V.drew):=⟨(uh HW0).1.later (Below.refl _ V).drew,(uh HW0).2.1,(uh HW0).2.2.trans (MTn.later (Below.refl _ V).drew)⟩
 go_region_held3 (fun w' =>w'.cell? ⟨w.heap.size,3,none⟩=some (.int .i64 F)∧w'.cell? ⟨bm,3+F,none⟩=some (.bool (fl F))) (go_keep) (first
  |(go_at_call 173;refine(uh CP _ _ ?_).mono ?_;exact uh HV1;rintro e w3 ⟨rfl,hm3,y0,y1⟩;have HM3:=hide hm3;clear hm3))
 all_goals go_wp2_with fail
 all_goals go_end0
 all_goals(obtain ⟨vs3,hm3,ht3⟩:=uh HM3;exact⟨rfl,vs3,vg,hm3,ht3⟩)
theorem do7_any (at_ nx F G:Nat) (B bm bx bf bi:Nat) (ap:Option Addr) (cp:Nat) (ss:List Pl.Bs) (ae:Option Addr) (ce L be oe:Nat) (S:List Pl.Bs) (ef:List Pl.Eff) (vs vg:Value) (st:List Bool) (fl:Nat→Bool) (go:Nat) (X:Pl.Wd) (w:World) (h:MM w B bm bx bf bi ap cp ss (.slice ae ef.length ce) ef vs vg st fl go X) (hF:F<ss.length) (hx:X.exit=0) (hae:0<ef.length→ae=some ⟨be,oe,none⟩)
 (hE:RdE w L be oe ef) (hL0:L≤bm) (hL1:L≤bx) (hL2:L≤bf) (hfit:Fit S X.files) (hS:S.length≤8388608) (hEs:∀e∈ef,∀f∈e.writes,f.path∈S) (hel:ef.length≤8388608) (hwl:∀e∈ef,e.writes.length≤8388608) (hcl:X.cmds.length≤8388608):
 Calls Tryz.prog 133 #[.pointer (some ⟨bm,0,none⟩),.agg #[.int .u8 7,.int .i64 at_,.int .i64 nx,.int .i64 F,.int .i64 G]] w fun e w' =>e= .returned (.tuple #[])∧∃vs' vg',MM w' B bm bx bf bi ap cp ss (.slice ae ef.length ce) ef vs' vg' st fl go (Pl.giveW ef X ss[F])∧MTn bm bx bf vs vg vs' vg' w w' :=by
 obtain⟨b,hb,-⟩:=h.str (by omega);subst hb;have hbw:Below w.heap.size w (w.alloc (.cells #[.int .u8 7,.int .i64 at_,.int .i64 nx,.int .i64 F,.int .i64 G] 254)):=(Below.refl _ w).alloc (Nat.le_refl _) _;have HM0:=hide (h.later hbw);have HT0:Hid (MTn bm bx bf vs vg vs vg w (w.alloc (.cells #[.int .u8 7,.int .i64 at_,.int .i64 nx,.int .i64 F,.int .i64 G] 254))):=MTn.later hbw
 have HR0:Hid (Row (w.alloc (.cells #[.int .u8 7,.int .i64 at_,.int .i64 nx,.int .i64 F,.int .i64 G] 254)) w.heap.size 254 (insL 7 at_ nx F G)):=Row.new w 254 [.int .u8 7,.int .i64 at_,.int .i64 nx,.int .i64 F,.int .i64 G]
 have HS:Hid (∀(W:World) (vs1 vg1:Value) (st1:List Bool) (X1:Pl.Wd),MM W B bm bx bf bi (some ⟨b,0,none⟩) cp ss (.slice ae ef.length ce) ef vs1 vg1 st1 fl go X1→Row W w.heap.size 254 (insL 7 at_ nx F G)→W.cell? ⟨bm,1,none⟩=some (.slice (some ⟨b,0,none⟩) ss.length cp)∧W.cell? ⟨w.heap.size,3,none⟩=some (.int .i64 F)∧W.cell? ⟨b,F,none⟩=some (.string ⟨ss[F].toArray⟩)):=fun W vs1 vg1 st1 X1 hm hr=>⟨hm.row.cell? (i:=1) rfl,hr.cell? (i:=3) rfl,by obtain⟨b',hb',hc'⟩:=hm.str (by omega);cases hb';exact hc' F hF⟩
 have HFR:Hid (∀(W Z:World) (v1 v2:Value),Row W w.heap.size 254 (insL 7 at_ nx F G)→MTn bm bx bf vs vg v1 v2 W Z→Row Z w.heap.size 254 (insL 7 at_ nx F G)):=fun W Z v1 v2 hr ht=>h.far (Nat.le_refl _) hr ht
 have CG:Hid (∀W,(MM W B bm bx bf bi (some ⟨b,0,none⟩) cp ss (.slice ae ef.length ce) ef vs vg st fl go X∧Row W w.heap.size 254 (insL 7 at_ nx F G)∧MTn bm bx bf vs vg vs vg w W)→Calls Tryz.prog 177 #[.pointer (some ⟨bm,0,none⟩),.string ⟨ss[F].toArray⟩] W fun e w' =>e= .returned (.tuple #[])∧(∃vg',MM w' B bm bx bf bi (some ⟨b,0,none⟩) cp ss (.slice ae ef.length ce) ef vs vg' st fl go (Pl.giveW ef X ss[F])∧MTn bm bx bf vs vg vs vg' w w')∧w'.cell? ⟨bm,1,none⟩=some (.slice (some ⟨b,0,none⟩) ss.length cp)∧w'.cell? ⟨w.heap.size,3,none⟩=some (.int .i64 F)∧w'.cell? ⟨b,F,none⟩=some (.string ⟨ss[F].toArray⟩)):=fun W hp=>by
  have hEW:RdE W L be oe ef:=hE.below (hp.2.2.tn.below (B:=L) (by have:=h.lm;have:=h.lw;omega) (fun k e=>by
   rcases e with rfl|rfl|rfl|e|e
   ·exact hL0
   ·exact hL1
   ·exact hL2
   ·have:=(h.stack.lt k e.symm).1;have:=h.lm;omega
   ·have:=(h.given.lt k e.symm).1;have:=h.lm;omega))
  refine(mgive_any ss[F] S L be oe ce ae _ _ _ _ _ _ _ _ _ _ _ _ _ _ _ W hp.1 hx hae hEW hL0 hL1 hL2 hfit hS hEs hel hwl hcl).mono ?_
  rintro e w' ⟨he,vg',hm,ht⟩
  exact⟨he,⟨vg',hm,hp.2.2.trans ht⟩,uh HS _ _ _ _ _ hm (uh HFR _ _ _ _ hp.2.1 ht)⟩
 clear hE hEs hwl hfit hae;have s0:=uh HS _ _ _ _ _ (uh HM0) (uh HR0);have hne:=h.lm;have hlw:=h.lw;clear h hbw;have i1:(F:Int)<(ss.length:Int):=by omega
 have i2:(0:Int)≤(F:Int):=by omega
 obtain⟨x0,x1,x2⟩:=s0
 have HW0:Hid (MM (w.alloc (.cells #[.int .u8 7,.int .i64 at_,.int .i64 nx,.int .i64 F,.int .i64 G] 254)) B bm bx bf bi (some ⟨b,0,none⟩) cp ss (.slice ae ef.length ce) ef vs vg st fl go X∧Row (w.alloc (.cells #[.int .u8 7,.int .i64 at_,.int .i64 nx,.int .i64 F,.int .i64 G] 254)) w.heap.size 254 (insL 7 at_ nx F G)∧MTn bm bx bf vs vg vs vg w (w.alloc (.cells #[.int .u8 7,.int .i64 at_,.int .i64 nx,.int .i64 F,.int .i64 G] 254))):=⟨uh HM0,uh HR0,uh HT0⟩
 go_enter Tryz.func133,Tryz.ntmps133
 go_wp2_with fail
 generalize w.alloc (.cells #[.int .u8 7,.int .i64 at_,.int .i64 nx,.int .i64 F,.int .i64 G] 254)=V at*
 have HV1:Hid (MM V.drew B bm bx bf bi (some ⟨b,0,none⟩) cp ss (.slice ae ef.length ce) ef vs vg st fl go X∧Row V.drew w.heap.size 254 (insL 7 at_ nx F G)∧MTn bm bx bf vs vg vs vg w V.drew):=⟨(uh HW0).1.later (Below.refl _ V).drew,(uh HW0).2.1,(uh HW0).2.2.trans (MTn.later (Below.refl _ V).drew)⟩
 go_region_held3 (fun w' =>w'.cell? ⟨bm,1,none⟩=some (.slice (some ⟨b,0,none⟩) ss.length cp)∧w'.cell? ⟨w.heap.size,3,none⟩=some (.int .i64 F)∧w'.cell? ⟨b,F,none⟩=some (.string ⟨ss[F].toArray⟩)) (go_keep) (first
  |(go_at_call 177;refine(uh CG _ ?_).mono ?_;exact uh HV1;rintro e w3 ⟨rfl,hm3,y0,y1,y2⟩;have HM3:=hide hm3;clear hm3))
 all_goals go_wp2_with fail
 all_goals go_end0
 all_goals(obtain ⟨vg3,hm3,ht3⟩:=uh HM3;exact⟨rfl,vs,vg3,hm3,ht3⟩)
theorem do8_any (at_ nx F G:Nat) (B bm bx bf bi:Nat) (ap:Option Addr) (cp:Nat) (ss:List Pl.Bs) (ve:Value) (ef:List Pl.Eff) (vs vg:Value) (st:List Bool) (fl:Nat→Bool) (go:Nat) (X:Pl.Wd) (w:World) (h:MM w B bm bx bf bi ap cp ss ve ef vs vg st fl go X) (hF:F<256):
 Calls Tryz.prog 133 #[.pointer (some ⟨bm,0,none⟩),.agg #[.int .u8 8,.int .i64 at_,.int .i64 nx,.int .i64 F,.int .i64 G]] w fun e w' =>e= .returned (.tuple #[])∧∃vs' vg',MM w' B bm bx bf bi ap cp ss ve ef vs' vg' st (fset fl F) go X∧MTn bm bx bf vs vg vs' vg' w w' :=by
 have hbw:Below w.heap.size w (w.alloc (.cells #[.int .u8 8,.int .i64 at_,.int .i64 nx,.int .i64 F,.int .i64 G] 254)):=(Below.refl _ w).alloc (Nat.le_refl _) _;have HM0:=hide (h.later hbw);have HT0:Hid (MTn bm bx bf vs vg vs vg w (w.alloc (.cells #[.int .u8 8,.int .i64 at_,.int .i64 nx,.int .i64 F,.int .i64 G] 254))):=MTn.later hbw
 have HR0:Hid (Row (w.alloc (.cells #[.int .u8 8,.int .i64 at_,.int .i64 nx,.int .i64 F,.int .i64 G] 254)) w.heap.size 254 (insL 8 at_ nx F G)):=Row.new w 254 [.int .u8 8,.int .i64 at_,.int .i64 nx,.int .i64 F,.int .i64 G]
 have HS:Hid (∀(W:World) (vs1 vg1:Value) (st1:List Bool) (X1:Pl.Wd),MM W B bm bx bf bi ap cp ss ve ef vs1 vg1 st1 fl go X1→Row W w.heap.size 254 (insL 8 at_ nx F G)→W.cell? ⟨w.heap.size,3,none⟩=some (.int .i64 F)):=fun W vs1 vg1 st1 X1 hm hr=>hr.cell? (i:=3) rfl
 have HFR:Hid (∀(W Z:World) (v1 v2:Value),Row W w.heap.size 254 (insL 8 at_ nx F G)→MTn bm bx bf vs vg v1 v2 W Z→Row Z w.heap.size 254 (insL 8 at_ nx F G)):=fun W Z v1 v2 hr ht=>h.far (Nat.le_refl _) hr ht
 have HSE:Hid (∀W,(MM W B bm bx bf bi ap cp ss ve ef vs vg st fl go X∧Row W w.heap.size 254 (insL 8 at_ nx F G)∧MTn bm bx bf vs vg vs vg w W)→MM (W.setCell ⟨bm,3+F,none⟩ (.bool true)) B bm bx bf bi ap cp ss ve ef vs vg st (fset fl F) go X∧MTn bm bx bf vs vg vs vg w (W.setCell ⟨bm,3+F,none⟩ (.bool true))):=fun W hp=>⟨(hp.1.mark F hF).1,hp.2.2.trans (hp.1.mark F hF).2⟩
 have g1:=(uh HM0).row.cell? (mCells_flag F hF);have g2:=(uh HM0).row.frozen (3+F);have s0:=uh HS _ _ _ _ _ (uh HM0) (uh HR0);have hne:=h.lm;have hlw:=h.lw;clear h hbw;have i1:(F:Int)<256:=by omega
 have i2:(0:Int)≤(F:Int):=by omega
 have hne2:¬w.heap.size=bm:=by omega
 have HW0:Hid (MM (w.alloc (.cells #[.int .u8 8,.int .i64 at_,.int .i64 nx,.int .i64 F,.int .i64 G] 254)) B bm bx bf bi ap cp ss ve ef vs vg st fl go X∧Row (w.alloc (.cells #[.int .u8 8,.int .i64 at_,.int .i64 nx,.int .i64 F,.int .i64 G] 254)) w.heap.size 254 (insL 8 at_ nx F G)∧MTn bm bx bf vs vg vs vg w (w.alloc (.cells #[.int .u8 8,.int .i64 at_,.int .i64 nx,.int .i64 F,.int .i64 G] 254))):=⟨uh HM0,uh HR0,uh HT0⟩
 go_enter Tryz.func133,Tryz.ntmps133
 go_wp2_with fail
 generalize w.alloc (.cells #[.int .u8 8,.int .i64 at_,.int .i64 nx,.int .i64 F,.int .i64 G] 254)=V at*;have HV1:Hid (MM V.drew B bm bx bf bi ap cp ss ve ef vs vg st fl go X∧Row V.drew w.heap.size 254 (insL 8 at_ nx F G)∧MTn bm bx bf vs vg vs vg w V.drew):=⟨(uh HW0).1.later (Below.refl _ V).drew,(uh HW0).2.1,(uh HW0).2.2.trans (MTn.later (Below.refl _ V).drew)⟩
 have k1:=((uh HW0).2.1.other hne2 (3+F) (.bool true)).cell? (i:=3) rfl
 go_region_held3 (fun w' =>w'.cell? ⟨w.heap.size,3,none⟩=some (.int .i64 F)) (go_keep) (fail)
 all_goals go_wp2_with fail
 all_goals go_end0
 all_goals exact⟨rfl,vs,vg,uh HSE _ (uh HV1)⟩
end Go.Proofs.YtjelacjggijmfaaGreatDoor
namespace Go.Proofs.YtjelacjggijmfaaGreatDoor
open Go.RowKit Go.MapKept Go.ChangeMaps Go.Maps
def goA (i:Pl.Ins) (st:List Bool) (go:Nat):Nat:=if i.op=6 then(if st.getLast?.getD false then go else i.next+i.first) else go
theorem st_one {st:List Bool} (h:1≤st.length):∃r y,st=r++[y]:=by
 rcases List.eq_nil_or_concat st with rfl|⟨s1,y,rfl⟩
 ·simp at h
 ·exact⟨s1,y,by simp⟩
theorem st_two {st:List Bool} (h:2≤st.length):∃r x y,st=r++[x,y]:=by
 obtain⟨s1,y,rfl⟩:=st_one (Nat.le_trans (by omega) h);obtain⟨r,x,rfl⟩:=st_one (st:=s1) (by simp at h;omega);exact⟨r,x,y,by simp⟩
structure EffOk (w:World) (L be oe:Nat) (ae:Option Addr) (ef:List Pl.Eff) (S:List Pl.Bs):Prop where
 at' :0<ef.length→ae=some ⟨be,oe,none⟩
 rd:RdE w L be oe ef
 names:∀e∈ef,∀f∈e.writes,f.path∈S
 many:ef.length≤8388608
 writes:∀e∈ef,e.writes.length≤8388608
 few:S.length≤8388608
theorem do_any (i:Pl.Ins) (ae:Option Addr) (ce L be oe:Nat) (S:List Pl.Bs) (B bm bx bf bi:Nat) (ap:Option Addr) (cp:Nat) (ss:List Pl.Bs) (ef:List Pl.Eff) (vs vg:Value) (st:List Bool) (fl:Nat→Bool) (go:Nat) (X:Pl.Wd) (w:World)
 (h:MM w B bm bx bf bi ap cp ss (.slice ae ef.length ce) ef vs vg st fl go X) (h1:1≤i.op) (h8:i.op≤8) (hok:Pl.okOps ss.length i) (htk:Pl.taken i.op≤st.length) (h18:st.length≤18) (hF:i.first≤65535) (hF2:i.op=4∨i.op=8→i.first<256) (hn:i.next≤8388608)
 (hx:X.exit=0) (hE:EffOk w L be oe ae ef S) (hL0:L≤bm) (hL1:L≤bx) (hL2:L≤bf) (hfit:Fit S X.files) (hcl:X.cmds.length≤8388608):
 Calls Tryz.prog 133 #[.pointer (some ⟨bm,0,none⟩),insV i] w fun e w' =>e= .returned (.tuple #[])∧∃vs' vg',MM w' B bm bx bf bi ap cp ss (.slice ae ef.length ce) ef vs' vg' (Pl.act ss ef i st fl X).2.1 (Pl.act ss ef i st fl X).2.2.1 (goA i st go) (Pl.act ss ef i st fl X).2.2.2∧MTn bm bx bf vs vg vs' vg' w w' :=by
 obtain⟨op,at_,nx,F,G⟩:=i;simp only at*;unfold insV;have hops:op=1∨op=2∨op=3∨op=4∨op=5∨op=6∨op=7∨op=8:=by omega
 have hgd:∀n (hn:n<ss.length),ss.getD n []=ss[n]:=fun n hn=>by rw[List.getD_eq_getElem?_getD,List.getElem?_eq_getElem hn];rfl
 rcases hops with rfl|rfl|rfl|rfl|rfl|rfl|rfl|rfl
 ·exact do1_any at_ nx F G _ _ _ _ _ _ _ _ _ _ _ _ _ _ _ _ w h h18 (hok.1 rfl)
 ·have hl:=hok.2.1 (.inl rfl)
  have:=do2_any at_ nx F G _ _ _ _ _ _ _ _ _ _ _ _ _ _ _ _ w h h18 hl;rw[←hgd F hl] at this;exact this
 ·obtain⟨hl,hl'⟩:=hok.2.2 rfl
  have:=do3_any at_ nx F G _ _ _ _ _ _ _ _ _ _ _ _ _ _ _ _ w h h18 hl hl';rw[←hgd F hl,←hgd G hl'] at this;exact this
 ·exact do4_any at_ nx F G _ _ _ _ _ _ _ _ _ _ _ _ _ _ _ _ w h h18 (hF2 (.inl rfl))
 ·obtain⟨r,x,y,rfl⟩:=st_two htk
  have:=do5_any r x y at_ nx F G _ _ _ _ _ _ _ _ _ _ _ _ _ _ _ w h (by simp at h18;omega);have e1:(r++[x,y]).dropLast.dropLast=r:=by rw[show r++[x,y]=(r++[x])++[y] by simp,List.dropLast_concat,List.dropLast_concat]
  have e2:(r++[x,y]).getLast?.getD false=y:=by simp
  have e3:(r++[x,y]).dropLast.getLast?.getD false=x:=by rw[show r++[x,y]=(r++[x])++[y] by simp,List.dropLast_concat];simp
  have e4:Pl.act ss ef ⟨5,at_,nx,F,G⟩ (r++[x,y]) fl X=(nx,r++[y||x],fl,X):=by unfold Pl.act;simp only[e1,e2,e3];rfl
  rw[e4];exact this
 ·obtain⟨r,y,rfl⟩:=st_one htk
  have:=do6_any r y at_ nx F G _ _ _ _ _ _ _ _ _ _ _ _ _ _ _ w h (by simp at h18;omega) hn hF;have e4:(Pl.act ss ef ⟨6,at_,nx,F,G⟩ (r++[y]) fl X).2=(r,fl,X):=by unfold Pl.act;simp
  have e5:goA ⟨6,at_,nx,F,G⟩ (r++[y]) go=if y then go else nx+F:=by unfold goA;simp
  rw[e4,e5];exact this
 ·have hl:=hok.2.1 (.inr rfl)
  have:=do7_any at_ nx F G _ _ _ _ _ _ _ _ ae ce L be oe S _ _ _ _ _ _ _ w h hl hx hE.at' hE.rd hL0 hL1 hL2 hfit hE.few hE.names hE.many hE.writes hcl;rw[←hgd F hl] at this;exact this
 ·exact do8_any at_ nx F G _ _ _ _ _ _ _ _ _ _ _ _ _ _ _ _ w h (hF2 (.inr rfl))
end Go.Proofs.YtjelacjggijmfaaGreatDoor
namespace Go.Pl
open Go Go.RowKit
inductive Reach (c:Bs):Nat→Nat→Prop
 |here (p:Nat):Reach c p p
 |on {p q:Nat} (hp:p<c.length) (hw:whole c p) (h:Reach c (mkIns c p).next q):Reach c p q
theorem Reach.le {c:Bs} {p q:Nat} (h:Reach c p q):p≤q:=by
 induction h with
 |here=>omega
 |on hp hw h ih=>have:=next_gt hw;omega
theorem snd_reach {c:Bs} {m:Nat}:∀{f p h:Nat} {A:Aw} {q x:Nat},Snd c m f p h A→A q=some x→Reach c p q
 |0,_,_,_,_,_,h,_=>h.elim
 |f+1,p,h,A,q,x,hs,hx=>by
  by_cases hqp:q=p
  ·subst hqp;exact .here _
  obtain⟨_,⟨hp,hw,ho,_,_,h6,hn⟩|⟨hp,_,hz⟩⟩:=hs
  ·have:onward A (mkIns c p) h q=some x:=by
    unfold onward put;have hd:del A p q=some x:=by unfold del;rw[if_neg hqp];exact hx
    split
    ·rename_i ho6
     dsimp only;split
     ·rename_i hq
      have:=h6 ho6 x (by rw[←hq];exact hd);rw[this];rfl
     ·exact hd
    ·exact hd
   exact .on hp hw (snd_reach hn this)
  ·rw[hz q hqp] at hx;cases hx
theorem Sn.reach {c:Bs} {m p h:Nat} (hs:Sn c m p h) (hp:p<c.length) (h6:opAt c p=6):Reach c (mkIns c p).next ((mkIns c p).next+(mkIns c p).first):=by
 obtain⟨A,hA⟩:=hs;obtain⟨_,_,_,_,_,_,f,hf⟩:=(spec_step hp).1 hA;refine snd_reach hf (x:=rise (opAt c p) h) ?_;unfold onward put;rw[if_pos (show (mkIns c p).op=6 from h6)];simp;rfl
end Go.Pl
namespace Go.Proofs.YtjelacjggijmfaaGreatDoor
open Go.RowKit Go.MapKept Go.ChangeMaps Go.Maps
structure RunS (c:Pl.Bs) (ss:List Pl.Bs) (ef:List Pl.Eff) (S:List Pl.Bs) (R:Pl.Wd) (pre:List (Pl.Ins×Bool)) (p:Nat) (st:List Bool) (fl:Nat→Bool) (go:Nat) (X:Pl.Wd):Prop where
 inv:∃f,InsInv c pre f p
 sn:Pl.Sn c ss.length (max p go) st.length
 en:Pl.Ends c ss ef (max p go) st fl X R
 reach:p<go→Pl.Reach c p go
 x0:X.exit=0
 fit:Fit S X.files
 cm:X.cmds.length≤p
theorem RunS.cut {c:Pl.Bs} {ss:List Pl.Bs} {ef:List Pl.Eff} {S:List Pl.Bs} {R:Pl.Wd} {pre post:List (Pl.Ins×Bool)} {x:Pl.Ins×Bool} {p:Nat} {st:List Bool} {fl:Nat→Bool} {go:Nat} {X:Pl.Wd}
 (h:RunS c ss ef S R pre p st fl go X) (hL:Pl.ilist c (c.length+1) 0=pre++x::post):p<c.length∧Pl.whole c p∧x=(Pl.mkIns c p,true)∧∃g,InsInv c (pre++[x]) g (Pl.mkIns c p).next:=by
 obtain⟨f,hI⟩:=h.inv
 have hp:p<c.length:=by
  by_cases hp:p<c.length
  ·exact hp
  ·have h1:=hI.done hp
   rw[hL] at h1;simp at h1
 have hw:Pl.whole c p:=by
  by_cases hg:p<go
  ·cases h.reach hg with
   |here=>omega
   |on _ hw _=>exact hw
  ·have hs:=h.sn
   rw[Nat.max_eq_left (by omega)] at hs;exact(hs.fits hp).whole
 obtain⟨g,h1,h2⟩:=hI.step hp hw;rw[hL] at h1;have:=List.append_cancel_left h1;simp only[List.cons.injEq] at this;obtain⟨rfl,_⟩:=this;exact⟨hp,hw,rfl,g,h2⟩
section
variable {c:Pl.Bs} {ss:List Pl.Bs} {ef:List Pl.Eff} {S:List Pl.Bs} {R:Pl.Wd} {pre:List (Pl.Ins×Bool)} {x:Pl.Ins×Bool} {p:Nat} {st:List Bool} {fl:Nat→Bool} {go:Nat} {X:Pl.Wd}
theorem RunS.skip (h:RunS c ss ef S R pre p st fl go X) (hg:p<go) (hn:∃g,InsInv c (pre++[x]) g (Pl.mkIns c p).next) (hw:Pl.whole c p):RunS c ss ef S R (pre++[x]) (Pl.mkIns c p).next st fl go X:=by
 have hgt:=Pl.next_gt hw
 have hr:Pl.Reach c (Pl.mkIns c p).next go:=by
  cases h.reach hg with
  |here=>omega
  |on _ _ h=>exact h
 have hle:=hr.le;have h1:=h.sn;have h2:=h.en;rw[Nat.max_eq_right (by omega)] at h1 h2;exact⟨hn,by rw[Nat.max_eq_right hle];exact h1,by rw[Nat.max_eq_right hle];exact h2,fun _=>hr,h.x0,h.fit,by have:=h.cm;omega⟩
theorem RunS.next (h:RunS c ss ef S R pre p st fl go X) (hg:¬p<go) (hp:p<c.length) (hEs:∀e∈ef,∀f∈e.writes,f.path∈S) (hn:∃g,InsInv c (pre++[x]) g (Pl.mkIns c p).next):
 ((Pl.act ss ef (Pl.mkIns c p) st fl X).2.2.2.exit=0→RunS c ss ef S R (pre++[x]) (Pl.mkIns c p).next (Pl.act ss ef (Pl.mkIns c p) st fl X).2.1 (Pl.act ss ef (Pl.mkIns c p) st fl X).2.2.1 (goA (Pl.mkIns c p) st go) (Pl.act ss ef (Pl.mkIns c p) st fl X).2.2.2)∧
 (¬(Pl.act ss ef (Pl.mkIns c p) st fl X).2.2.2.exit=0→(Pl.act ss ef (Pl.mkIns c p) st fl X).2.2.2=R):=by
 have h1:=h.sn;have h2:=h.en;rw[Nat.max_eq_left (by omega)] at h1 h2;have hf:=h1.fits hp;have hgt:=Pl.next_gt hf.whole;obtain⟨n1,n2⟩:=h1.next (ss:=ss) (ef:=ef) (fl:=fl) (X:=X) hp;have n3:=h2.step hp h.x0 n2
 have hmax:(Pl.act ss ef (Pl.mkIns c p) st fl X).1=max (Pl.mkIns c p).next (goA (Pl.mkIns c p) st go):=by
  unfold goA;have ho:(Pl.mkIns c p).op=Pl.opAt c p:=rfl
  by_cases h6:(Pl.mkIns c p).op=6
  ·rw[if_pos h6]
   have e1:(Pl.act ss ef (Pl.mkIns c p) st fl X).1=if st.getLast?.getD false then(Pl.mkIns c p).next else(Pl.mkIns c p).next+(Pl.mkIns c p).first:=by
    unfold Pl.act;rw[h6];simp
   rw[e1];split<;>omega
  ·rw[if_neg h6]
   have e1:(Pl.act ss ef (Pl.mkIns c p) st fl X).1=(Pl.mkIns c p).next:=by
    unfold Pl.act
    rcases Pl.isz_ops hf.whole.1 with e|e|e|e|e|e|e|e<;>first|(exact absurd (ho.trans e) h6)|(rw [ho,e];simp)
   rw[e1];omega
 rw[hmax] at n1 n3;refine⟨fun hx=>⟨hn,n1,n3,fun hlt=> ?_,hx,?_,?_⟩,fun hx=>n3.stop (fun e=>hx e.2)⟩
 ·unfold goA at hlt⊢
  split at hlt
  ·rename_i h6
   rw[if_pos h6];split at hlt
   ·omega
   ·rename_i ht
    rw[if_neg ht];exact h1.reach hp h6
  ·omega
 ·have:(Pl.act ss ef (Pl.mkIns c p) st fl X).2.2.2=X∨∃d,(Pl.act ss ef (Pl.mkIns c p) st fl X).2.2.2=Pl.giveW ef X d:=by
   unfold Pl.act
   repeat' split
   all_goals first|exact .inl rfl|exact .inr ⟨_,rfl⟩
  rcases this with e|⟨d,e⟩
  ·rw[e];exact h.fit
  ·rw[e]
   have hfit:=h.fit;unfold Pl.giveW;split
   ·exact hfit
   ·rename_i e' he'
    exact Fit.puts _ _ hfit (hEs e' (List.mem_of_find?_eq_some he'))
 ·have:(Pl.act ss ef (Pl.mkIns c p) st fl X).2.2.2.cmds.length≤X.cmds.length+1:=by
   unfold Pl.act
   repeat' split
   all_goals first|(simp only;omega)|(simp only[give_cmds'];simp)
  have:=h.cm;omega
end
end Go.Proofs.YtjelacjggijmfaaGreatDoor
