/- . -/
import Derived.Test.YtjelacjggijmfaaGreatDoorYMC2
namespace Go.Proofs.YtjelacjggijmfaaGreatDoor
open Pl Mk Cp Proofs.Tryz
open Go.ChangeShapes Go.WideShapes Go.ChangeAt RowKit
set_option maxRecDepth 100000
theorem agf (a:Os):laidMet prog Rows.makesUptoRow.laid (({World.holding prog a ⟨#[],#[],[]⟩ with heap:=aD (World.holding prog a ⟨#[],#[],[]⟩).heap}:ay).forCall (λ_ _=>0) ⟨#[],#[.slice none 0 0,.string ⟨#[]⟩,.string ⟨#[]⟩,.slice none 0 0,.int .i64 0],[]⟩).memory:=laidMet_of_run' 8 (by kernel_rfl) (by kernel_rfl)
theorem agm (a:Os){H:Type}(c:TypeId×az->H):∃b,DataW.whole c prog (({World.holding prog a ⟨#[],#[],[]⟩ with heap:=aD (World.holding prog a ⟨#[],#[],[]⟩).heap}:ay).forCall (λ_ _=>0) ⟨#[],#[.slice none 0 0,.string ⟨#[]⟩,.string ⟨#[]⟩,.slice none 0 0,.int .i64 0],[]⟩).memory Tryz.f4.params.toList Rows.makesSpec.vars false #[Value.slice none 0 0,.string ⟨#[]⟩,.string ⟨#[]⟩,.slice none 0 0,.int .i64 0].toList 8=some ([.nil,.lit (.string []),.lit (.string []),.nil,.lit (.int .i64 0)],[],b):=⟨[],by kernel_rfl⟩
theorem agj (a:Os)(d:a.Started)(H:Type)(b:TypeId×az->H)(F:Stop.Interp):
 ReturnsInHanded {} checked a 4 .any ((Rows.OpenSpec.upto Rows.makesSpec).preRow b prog Tryz.f4 Rows.makesUptoRow.domain false Rows.makesUptoRow.laid) (((Rows.OpenSpec.upto Rows.makesSpec).at F).post b prog Tryz.f4 false true false false):=by
 obtain⟨m,e⟩:=agm a b;refine returnsInHanded_of_row (C:=checked) (s:=Rows.OpenSpec.upto Rows.makesSpec) bG d (by kernel_rfl) func4
  (witness_row_at (enc:=b) (C:=checked) false ({World.holding prog a ⟨#[],#[],[]⟩ with heap:=aD (World.holding prog a ⟨#[],#[],[]⟩).heap}) #[.slice none 0 0,.string ⟨#[]⟩,.string ⟨#[]⟩,.slice none 0 0,.int .i64 0] rfl (by kernel_rfl) (by kernel_rfl) (by kernel_rfl)
   (OpenSpec.preRow_of_cond 8 e (by kernel_rfl) (λk f=>by cases f;kernel_rfl) (by kernel_rfl) (agf a))) ?_
 intro W base args l i bo j g _ c _ n h _;exact agh H b W base args l i bo j g (c _ rfl) h
