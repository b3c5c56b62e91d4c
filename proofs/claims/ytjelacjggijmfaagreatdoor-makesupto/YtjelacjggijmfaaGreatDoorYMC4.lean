/-
  Makes of package makerlaw: Make, twice, answers the document's error and its line, or what the document tells of the nodes in their order; what is handed in stays, what comes out is the caller's. Proved of all arguments whose values and letters together come to at most 1048576: the row and its card.
-/
import Derived.Test.YtjelacjggijmfaaGreatDoorYMC3
namespace Go.Proofs.YtjelacjggijmfaaGreatDoor
open Pl Mk Cp Proofs.Tryz
open Go.ChangeShapes Go.WideShapes Go.ChangeAt Go.RowKit
set_option maxRecDepth 100000
set_option maxHeartbeats 40000000 in
theorem agi:joinedFacts Tryz.pinned.checked.prog 4 Tryz.f4 (Rows.OpenSpec.upto Rows.makesSpec).bare Rows.makesUptoRow=true:=by
 unfold joinedFacts;simp only[Zn]
 repeat' (refine And.intro ?_ ?_)
 all_goals(as_aux_lemma=>kernel_rfl)
theorem age:Rows.MakesUptoSaid:=by
 refine OpenClaim.holds_of_cond 4 Tryz.f4 ?_ ?_ ?_ ?_ ?_ ?_ ?_ ⟨?_,?_,?_,?_,?_⟩ ?_ ?_ ?_ ?_ ?_ ?_ func4 ?_ ?_ ?_ (λa b H c _ F=>by rw[OpenClaim.pre_eq_preRow];exact agj a b H c F)
 case refine_1=>as_aux_lemma=>rfl
 case refine_2=>as_aux_lemma=>rfl
 case refine_3=>as_aux_lemma=>rfl
 case refine_4=>as_aux_lemma=>rfl
 case refine_5=>as_aux_lemma=>rfl
 case refine_6=>as_aux_lemma=>rfl
 case refine_7=>as_aux_lemma=>rfl
 case refine_8=>as_aux_lemma=>rfl
 case refine_9=>as_aux_lemma=>rfl
 case refine_10=>as_aux_lemma=>rfl
 case refine_11=>as_aux_lemma=>rfl
 case refine_12=>as_aux_lemma=>rfl
 case refine_13=>as_aux_lemma=>rfl
 case refine_14=>as_aux_lemma=>rfl
 case refine_15=>as_aux_lemma=>rfl
 case refine_16=>as_aux_lemma=>rfl
 case refine_17=>as_aux_lemma=>rfl
 case refine_18=>as_aux_lemma=>kernel_rfl
 case refine_19=>exact agi
 case refine_20=>as_aux_lemma=>exact q9 (by kernel_rfl)
 case refine_21=>as_aux_lemma=>unfold Func.isWrapper;first|(rw [Yd (by decide+kernel)];kernel_rfl)|(rw [Yb (by decide+kernel)];exact⟨rfl,rfl⟩)
theorem agn (f:FuncId)(fn:Func)(e:Tryz.pinned.checked.prog.funcNamed Rows.makesUptoRow.func=some f)(g:Tryz.pinned.checked.prog.funcs[f]?=some fn):
 false=Tryz.pinned.checked.prog.looks []/\∀(c:Nat) a,fn.params[c]?=some a->Tryz.pinned.checked.prog.wantsStandIn a=false:=by
 obtain rfl:f=4:=YW ((show Tryz.prog.funcNamed Rows.makesUptoRow.func=some 4 by kernel_rfl).symm.trans e)|>.symm;obtain rfl:fn=Tryz.f4:=(YW (Tryz.func4.symm.trans g)).symm;refine⟨by kernel_rfl,λc a b=> ?_⟩;rw[params4] at b;have d:=Array.mem_of_getElem? b;simp only[List.mem_toArray,YD,ZC,k8] at d;rcases d with rfl|rfl|rfl|rfl|rfl
 ·exact(show Tryz.prog.wantsStandIn 22=false by kernel_rfl)
 ·exact(show Tryz.prog.wantsStandIn 9=false by kernel_rfl)
 ·exact(show Tryz.prog.wantsStandIn 9=false by kernel_rfl)
 ·exact(show Tryz.prog.wantsStandIn 23=false by kernel_rfl)
 ·exact(show Tryz.prog.wantsStandIn 3=false by kernel_rfl)
theorem makes_card_upto:Rows.MakesUptoCardSaid:=Claim7.holds_tied_plain_at .later [] _ _ _ _ age (λ_ h=>by cases h) (by kernel_rfl) (λ_ h=>by cases h) makesUpto_row_tie rfl ⟨rfl,rfl⟩ (by kernel_rfl) rfl agn (by kernel_rfl)
end Go.Proofs.YtjelacjggijmfaaGreatDoor
