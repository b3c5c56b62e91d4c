/-
  Compiles of package makerlaw: Compile answers the document's error and its line, or a sound plan that does in every world what the document tells of the nodes. Proved of all arguments whose values and letters together come to at most 1048576: the row and its card.
-/
import Derived.Test.YtjelacjggijmfaaGreatDoorYCQ1
namespace Go.Proofs.YtjelacjggijmfaaGreatDoor
open Go.Pl Go.Mk Go.Cp Go.Proofs.Tryz
open Go.ChangeShapes Go.WideShapes Go.ChangeAt Go.RowKit
set_option maxRecDepth 100000
set_option maxHeartbeats 40000000 in
theorem aby:joinedFacts Tryz.pinned.checked.prog 3 Tryz.f3 (Rows.OpenSpec.upto Rows.compilesSpec).bare Rows.compilesUptoRow=true:=by
 unfold joinedFacts;simp only[U0]
 repeat' (refine And.intro ?_ ?_)
 all_goals(as_aux_lemma=>kernel_rfl)
theorem abu:Rows.CompilesUptoSaid:=by
 refine OpenClaim.holds_of_cond 3 Tryz.f3 ?_ ?_ ?_ ?_ ?_ ?_ ?_ ⟨?_,?_,?_,?_,?_⟩ ?_ ?_ ?_ ?_ ?_ ?_ func3 ?_ ?_ ?_ (λa b H c _ F=>by rw[OpenClaim.pre_eq_preRow];exact abx a b H c F)
 case refine_1=>as_aux_lemma=>rfl
 case refine_2=>as_aux_lemma=>rfl
 case refine_3=>as_aux_lemma=>rfl
 case refine_4=>as_aux_lemma=>rfl
 case refine_5=>as_aux_lemma=>rfl
 case refine_6=>as_aux_lemma=>rfl
 case refine_7=>as_aux_lemma=>rfl
 case refine_8=>as_aux_lemma=>rfl
 case refine_9=>as_aux_lemma=>rfl
 case refine_10=>as_aux_lemma=>rfl
 case refine_11=>as_aux_lemma=>rfl
 case refine_12=>as_aux_lemma=>rfl
 case refine_13=>as_aux_lemma=>rfl
 case refine_14=>as_aux_lemma=>rfl
 case refine_15=>as_aux_lemma=>rfl
 case refine_16=>as_aux_lemma=>rfl
 case refine_17=>as_aux_lemma=>rfl
 case refine_18=>as_aux_lemma=>kernel_rfl
 case refine_19=>exact aby
 case refine_20=>as_aux_lemma=>exact Xe (by kernel_rfl)
 case refine_21=>as_aux_lemma=>unfold Func.isWrapper;first|(rw [TP (by decide+kernel)];kernel_rfl)|(rw [TJ (by decide+kernel)];exact⟨rfl,rfl⟩)
theorem abA (f:FuncId)(fn:Func)(e:Tryz.pinned.checked.prog.funcNamed Rows.compilesUptoRow.func=some f)(g:Tryz.pinned.checked.prog.funcs[f]?=some fn):
 false=Tryz.pinned.checked.prog.looks []/\∀(c:Nat) a,fn.params[c]?=some a->Tryz.pinned.checked.prog.wantsStandIn a=false:=by
 obtain rfl:f=3:=UX ((show Tryz.prog.funcNamed Rows.compilesUptoRow.func=some 3 by kernel_rfl).symm.trans e)|>.symm;obtain rfl:fn=Tryz.f3:=(UX (Tryz.func3.symm.trans g)).symm;refine⟨by kernel_rfl,λc a b=> ?_⟩;rw[params3] at b;have d:=Array.mem_of_getElem? b;simp only[List.mem_toArray,Ue,Vl,Xm] at d;rcases d with rfl|rfl|rfl|rfl|rfl|rfl
 ·exact(show Tryz.prog.wantsStandIn 22=false by kernel_rfl)
 ·exact(show Tryz.prog.wantsStandIn 9=false by kernel_rfl)
 ·exact(show Tryz.prog.wantsStandIn 9=false by kernel_rfl)
 ·exact(show Tryz.prog.wantsStandIn 22=false by kernel_rfl)
 ·exact(show Tryz.prog.wantsStandIn 23=false by kernel_rfl)
 ·exact(show Tryz.prog.wantsStandIn 3=false by kernel_rfl)
theorem compiles_card_upto:Rows.CompilesUptoCardSaid:=Claim7.holds_tied_plain_at .later [] _ _ _ _ abu (λ_ h=>by cases h) (by kernel_rfl) (λ_ h=>by cases h) compilesUpto_row_tie rfl ⟨rfl,rfl⟩ (by kernel_rfl) rfl abA (by kernel_rfl)
end Go.Proofs.YtjelacjggijmfaaGreatDoor
