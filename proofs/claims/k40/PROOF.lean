import PyProof.Rows.All
import Wide.All
import OpenK.AllK
import Wide.FinOn
import Lean
import PyProof.EqAt
import PyProof.EqKinds
import PyProof.TupleCall
import KE.KSortAsk
import KE.KIntText
import KE.KMinBuiltin
import PyProof.MeetsStr2
import KE.KTabLook
import PySem.Challenge.RW_cutless_k40_bounds_of_a_step
local macro_rules|`(∅)=>`(by lia)
local macro_rules|`(⋯)=>`(by kernel_rfl)
local macro_rules|`(⇑$_)=>`(by decide)
local macro_rules|`(↥$_)=>`(by simp)
local macro_rules|`(command|def $n:declId $s:optDeclSig $v:declVal)=>`(command|noncomputable def $n:declId $s:optDeclSig $v:declVal)
local macro_rules|`(tactic|decide)=>`(tactic|decide +kernel)
open And renaming intro->ax
open Array renaming length_toList->bu,getElem?_eq_getElem->bT,getElem?_eq_some_iff->dJ,forIn_toList->iV,getD->kz,getElem?_setIfInBounds_self_of_lt->lM,getElem?_setIfInBounds_ne->pF,toList_filterMap->yP,getElem?_eq_none->yQ,mem_of_getElem?->yT,getElem?_mapIdx->yU,toList_push->DN,replicate->HV
open Array.Perm renaming refl->cQ
open Bool renaming and_eq_true->aa,false_ne_true->ao,false_eq_true->aP,eq_iff_iff->cV,not_true->eC,or_eq_true->fk,and_self->fo,or_eq_true_iff->iS,eq_false_iff->jH,not_eq_true'->pE,true_and->wF
open Classical renaming byContradiction->iR,choose_spec->uN
open False renaming elim->bS
open ForInStep renaming yield->jL
open Iff renaming rfl->cY
open Int renaming emod_lt_of_pos->bL,emod_nonneg->bZ,toNat_natCast->jK
open List renaming mem_cons_of_mem->ar,mem_cons_self->au,length_map->av,length_append->ay,getElem?_eq_getElem->aA,mem_cons->aB,size_toArray->aC,getElem?_eq_some_iff->aD,mem_append_left->aF,length_cons->aI,mem_append_right->aQ,getElem?_set_ne->aU,mem_map->aW,getElem?_append_left->ba,mem_append->bb,replicate->bc,getElem?_map->bf,range->bo,map_cons->bp,all_eq_true->bq,append_nil->bw,getElem?_append_right->bz,length_take->bJ,length_set->bO,mem_of_getElem?->bP,mem_singleton->bQ,length_nil->bR,getElem?_set_self->bV,filterMap_cons->cb,map_append->cw,not_mem_nil->cz,any_eq_true->cA,getElem?_eq_none->cX,lookup_cons->dh,getElem?_take_of_lt->dt,mem_map_of_mem->dE,getD_eq_getElem?_getD->dK,length_singleton->dO,pairwise_append->dW,getElem?_of_mem->dX,mem_of_elem_eq_true->eB,nodup_cons->fh,forIn_cons->fi,append_assoc->fA,mem_range->fF,toArray->fJ,pairwise_iff_getElem->fR,of_mem_zip->gk,foldl_cons->gq,contains_cons->gu,length_eq_zero_iff->gD,getElem?_replicate->gE,pairwise_map->gI,map_map->gJ,length_replicate->gY,contains_iff_mem->gZ,length_drop->hJ,filter_eq_self->iQ,drop_eq_getElem_cons->jv,length_range->jG,filterMap_cons_some->jJ,getElem_mem->kh,getD->km,filter_cons_of_neg->kn,take_append_drop->lJ,eq_nil_or_concat->lK,concat_eq_append->lL,all_cons->nM,zip_nil_right->nS,zip_cons_cons->nU,mem_filterMap->nV,nodup_append->pB,attachWith_map_subtype_val->pM,take_length->qu,isEmpty_nil->qv,elem->qw,length->sF,mem_filter->sJ,length_zip->sL,length_eraseIdx_of_lt->uM,set_eq_of_length_le->wC,getLast?_singleton->yN,filter_cons_of_pos->yO,map_nil->yR,set_append_right->As,mem_iff_getElem->BV,getLast?_append->BW,take_succ_cons->DF,map_congr_left->DG,drop_succ_cons->DH,filter_append->DK,take_add_one->HL,zipIdx_cons->HQ,nodup_range->HR,drop_length->HS,zipIdx_nil->Kw,nil_append->Kx
open Nat renaming le_refl->aw,ne_of_lt->aH,lt_of_lt_of_le->aY,lt_succ_of_lt->bE,le_trans->bF,lt_irrefl->cy,zero_le->cC,lt_or_ge->cF,lt_succ_self->cK,lt_of_le_of_lt->dq,le_of_lt_succ->dz,ne_of_gt->eY,le_add_right->fQ,add_le_add_left->fX,mod_lt->ju,zero_add->ll,succ_pos->lq,le_of_lt->lr,lt_or_eq_of_le->oU,add_sub_cancel->oV,add_right_comm->oW,lt_trichotomy->pL,min_le_right->sD,le_max_right->sE,le_succ->sI,le_max_left->tF,add_assoc->yM,min_self->Ar,add_le_add_right->DE,eq_zero_or_pos->HK,le_succ_of_le->HP,not_lt_zero->Ln,min_le_left->Lo,min_eq_left->Lp
open Nat.succ renaming inj->mK
open Option renaming bind_eq_bind->ag,bind_eq_some_iff->aj,map_eq_some_iff->aJ,bind_some->aL,isNone_iff_eq_none->cU,map_some->dy,isSome_iff_exists->fV,getD_none->DJ
open Option.some renaming inj->bA
open PyProof.Rows renaming callWith_type1->gU,AllBare->kB,listUpdate_at->lg,slot_tuple_getitem->lR,call_isinstance_of->sx,SortKind->tu,get?_update_seq->yK,subscriptTail_builtinR->HF,IntsAre->HM,seqEpoch_at->Kt,bubble_perm->Ku,IsTup->Ky
open PyProof.Rows.F renaming plain_set_update_loop->dg,entry_set_update_loop->jI
open PyProof.Rows.IsTup renaming new->wD
open PySem renaming wpAny_bind->ae,Value->af,Shared->ah,wpAny_pure->ak,Addr->aq,Expr->aG,Program->aO,Around->aR,World->aZ,wpAny_newObj_type->bx,Stmt->bD,Heap->bG,wpAny_loadPart_at->bM,wpAny_holding->cc,wpAny_call_entry->cg,sizeLine_eq->cj,wpAny_setState_of->cD,wpAny_seqItems->cJ,wpAny_mono->cP,wpAny_field->cR,wpAny_callSpecial?_slot->cS,wpAny_truthy_bool->dF,wpAny_isSubtype_exc->dI,FuncData->dU,Builtin->dY,codeAny_builtin->eK,SetTable->eL,plainId_quiet->eO,wpAny_setField->eW,Scope->eX,wpAny_Call_Name_kw->fy,wpAny_passesOwn->fE,wpAny_pyIter_list->fI,wpAny_askSetting->gh,GenState->gG,wpAny_setField_rec->gN,wpAny_of_eq->gR,Operator->ic,Keyword->ie,builtinLookup_eq_fast->iF,wpAny_letGo->iT,wpAny_specialOf->jr,wpAny_execs_nil->jt,codeAny_mono->jE,NameKind->kf,wpAny_standAt->kZ,ExceptHandler->lx,wpAny_isInstance->lP,noFill_tuple_add->lQ,wpAny_rule->mG,wpAny_loadPart'->mH,typeLookup_type->mI,wpAny_updateSeq_pair->oN,codeAny_call_builtin->oO,PassesOwn->pA,wpAny_setEntries_of->pJ,wpAny_onRaise->qp,wpAny_attempt->qq,seq_tuple_add->qr,Result->sy,IsPart->sG,wpAny_typeOf->sZ,wpAny_setEpoch_of->tj,OwnTail->tD,IsPair->wz,Arguments->wA,wpAny_updateSeq->yJ,wpAny_tryCatch->Ak,wpAny_newFunctionEnv_cells->Al,wpAny_call->Am,isSubtype_type->An,call_meets->Ao,wpAny_newList->DB,wpAny_comprehension_free->DC,filterMap_getElem?_range->DD,Comprehension->DI,IsZip->DL,seqIndex_neg->HG,concat_meets->HH,codeAny_compStart_list->HI,codeAny_call_function->HN,wpAny_newFunctionEnv->Kq,wpAny_loadName_local->Kr,seqIndex_of->Ks,Walks->Kv,Const->Kz,wpAny_loadName_cell->Lm,wpAny_pyIter_tuple->Ox,wpAny_Name->Oy,typeIs_str->Oz,wpAny_storeSet_of->OA,wpAny_pyIter_slot->OB,wpAny_assign_Name->OC,fits_of_scanBound->OD,eqIsQuiet_byValue->OE,OsState->OF
open PySem.Around renaming under_plainId->dS,frames_deeper->yV
open PySem.Builtin.Builtins renaming bindParams->lU
open PySem.Builtin.Int renaming intBits->uP
open PySem.Builtin.List renaming listExtendWith->nQ,listTooLong->pC,listSameRef->pD
open PySem.Builtin.Slice renaming slicePlaces->fj,sliceAdjust->ig,sliceApplied->nO
open PySem.Builtin.SmallTypes renaming ownedTupleIsFree->da,ownedTupleHandOut->jk
open PySem.Builtin.Str renaming occurrences->qx
open PySem.Builtin.Tuple renaming tupleHashOf->cn,tupleExact->fB,tupleItemsOf->nN
open PySem.Calls renaming Name_function_global->tH,call_function_entry->uO,evalArgs_plain->Au
open PySem.Code renaming quiet_builtin->DM
open PySem.Heap renaming get?_push_of_some->ai,lt_size->az,get?_push_size->aE,size_push->bH,get?_update_self->cZ,get?_update_other->dG,SameBut->fM,get?_none_of_le->BX,ExtBut->BY
open PySem.Heap.SameBut renaming update->bU
open PySem.NameKind renaming free->bX,cell->lT
open PySem.Obj renaming mapSeq->cu,mapFields->ke,putSet->oR,data_mapFields->HJ
open PySem.PassesOwn renaming never->oQ
open PySem.ScopeKind renaming function->yL
open PySem.SeqAt.EqAt renaming same->HU
open PySem.SetTable renaming sizeAbove->aM,grown->aX,below->de,insertAt->iU,fill->sH,tooFull->BU
open PySem.SetTable.below renaming go->kA
open PySem.Str renaming ofString->du
open PySem.Value renaming ref->bj,none->cq,builtin->jF,bool->ky,type->nJ,int->wB,notImplemented->Aq
open PySem.W.Looks renaming of_pure->mL
open PySem.Walks renaming list->tq
open PySem.pickOrder renaming go->tm
open Subtype renaming val->lj
open Sum renaming inl->mJ,inr->pK
open True renaming intro->nR
set_option Elab.async false
set_option linter.all false
set_option genInjectivity false
set_option genSizeOf false
set_option maxRecDepth 100000
set_option maxHeartbeats 4000000
section
-- CHANGE: your row's module here,as the last of these rows
namespace L2
open PySem PySem.Spec PyProof.Rows
abbrev Key:=Sum Int Str
def KZ:Key->af->Bool
 | .inl k,v=>Value.isInt k v
 | .inr x,v=>Value.isStrOf x v
def QS (w:aZ):Key->Int
 | .inl k=>hashInt k
 | .inr x=>hashStr w x
def dQ:∀ {k:Key} {v:af},KZ k v = true->(∃ i t,k = mJ i/\v = wB i t)\/(∃ x t,k = pK x/\v = Value.str x t)
 | .inl i,v,h=>by
   obtain ⟨t,e⟩:=Value.isInt_shape (k:=i) (v:=v) h
   exact .inl ⟨i,t,rfl,e⟩
 | .inr x,v,h=>by
   obtain ⟨t,e⟩:=Value.isStrOf_shape (x:=x) (v:=v) h;exact .inr ⟨x,t,rfl,e⟩
def ND (a b:Int):decide ((mJ a:Key) = mJ b) = (a == b):=by
 by_cases e:a = b
 . subst e;simp
 . have h:¬ (mJ a:Key) = mJ b:=λq=>e (Sum.inl.inj q);rw [decide_eq_false h];exact (beq_eq_false_iff_ne.mpr e).symm
def NA (a b:Str):decide ((pK a:Key) = pK b) = decide (a = b):=by
 by_cases e:a = b
 . subst e;simp
 . have h:¬ (pK a:Key) = pK b:=λq=>e (Sum.inr.inj q);rw [decide_eq_false h,decide_eq_false e]
def NC (a:Int) (b:Str):decide ((mJ a:Key) = pK b) = false:=decide_eq_false (λq=>nomatch q)
def NB (a:Str) (b:Int):decide ((pK a:Key) = mJ b) = false:=decide_eq_false (λq=>nomatch q)
def Qn (prog:aO) (w:aZ):PySem.KeyKind prog w Key where
 is:=KZ
 hash:=QS w
 inj:=λv a b ha hb=>by
  rcases dQ ha with ⟨i,t,rfl,rfl⟩ | ⟨x,t,rfl,rfl⟩
  . rcases dQ hb with ⟨j,u,rfl,e⟩ | ⟨y,u,rfl,e⟩
    . injection e with e1 _;rw [e1]
    . exact nomatch e
  . rcases dQ hb with ⟨j,u,rfl,e⟩ | ⟨y,u,rfl,e⟩
    . exact nomatch e
    . injection e with e1 _;rw [e1]
 byValue:=λk v h=>by
  rcases dQ h with ⟨i,t,rfl,rfl⟩ | ⟨x,t,rfl,rfl⟩<;>rfl
 pyHash:=λhv h=>by
  rcases dQ hv with ⟨i,t,rfl,rfl⟩ | ⟨x,t,rfl,rfl⟩
  . exact wpAny_pyHash_int h
  . exact wpAny_pyHash_str h
 eqBool:=λhu hv h=>by
  rcases dQ hu with ⟨i,t,rfl,rfl⟩ | ⟨x,t,rfl,rfl⟩
  . rcases dQ hv with ⟨j,u,rfl,rfl⟩ | ⟨y,u,rfl,rfl⟩
    . rw [ND] at h;exact wpAny_eqBool_int h
    . rw [NC] at h;exact SeqAt.EqAt.int_str i t y u _ _ _ _ h
  . rcases dQ hv with ⟨j,u,rfl,rfl⟩ | ⟨y,u,rfl,rfl⟩
    . rw [NB] at h;exact SeqAt.EqAt.str_int x t j u _ _ _ _ h
    . rw [NA] at h;exact wpAny_eqBool_str h
 «strs»:=λk x t v h=>by
  rcases dQ h with ⟨i,u,rfl,e⟩ | ⟨y,u,rfl,e⟩
  . exact nomatch e
  . injection e with e1 _;subst e1;cases v<;>rfl
end L2
namespace L2
open PySem PySem.Spec PyProof.Rows
set_option genInjectivity true in
inductive V where
 | non | bl (b:Bool) | int (i:Int) | str (x:Str) | ref (a:aq) | ty (n:String)
 deriving DecidableEq
def RelV:V->af->Prop
 | .non,u=>u = cq
 | .bl b,u=>u = ky b
 | .int i,u=>∃ t,u = wB i t
 | .str x,u=>∃ t,u = Value.str x t
 | .ref a,u=>u = bj a
 | .ty n,u=>u = nJ n
abbrev Vals:List V->List af->Prop:=Paired RelV
def Vals.length {xs:List V} {us:List af} (r:Vals xs us):xs.length = us.length:=Paired.length r
def Vals.get:∀ {xs:List V} {us:List af} {i:Nat} {x:V},Vals xs us->xs[i]? = some x->∃ u,us[i]? = some u/\RelV x u
 | _,_,_,_,.nil,e=>by simp at e
 | _,_,0,_,.cons r _,e=>by simp at e;subst e;exact ⟨_,rfl,r⟩
 | _,_,i+1,x,.cons _ t,e=>by
   obtain ⟨u,h1,h2⟩:=Vals.get (i:=i) (x:=x) t (by simpa using e);exact ⟨u,by simpa using h1,h2⟩
def Vals.set {x:V} {u:af} (r:RelV x u):∀ {xs:List V} {us:List af} (i:Nat),Vals xs us->Vals (xs.set i x) (us.set i u)
 | _,_,_,.nil=>.nil
 | _,_,0,.cons _ t=>.cons r t
 | _,_,i+1,.cons q t=>.cons q (Vals.set r i t)
def Vals.append:∀ {xs ys:List V} {us ws:List af},Vals xs us->Vals ys ws->Vals (xs++ys) (us++ws)
 | _,_,_,_,.nil,s=>s
 | _,_,_,_,.cons r t,s=>.cons r (Vals.append t s)
def Vals.take:∀ {xs:List V} {us:List af} (n:Nat),Vals xs us->Vals (xs.take n) (us.take n)
 | _,_,0,_=>.nil
 | _,_,_+1,.nil=>.nil
 | _,_,n+1,.cons r t=>.cons r (Vals.take n t)
def Vals.drop:∀ {xs:List V} {us:List af} (n:Nat),Vals xs us->Vals (xs.drop n) (us.drop n)
 | _,_,0,r=>r
 | _,_,_+1,.nil=>.nil
 | _,_,n+1,.cons _ t=>Vals.drop n t
def iP:Option V->Option af->Prop
 | some v,some u=>RelV v u
 | none,none=>True
 | _,_=>False
def KV {κ:Type}:List (κ × V)->List (κ × af)->Prop:=Paired λ(p:κ × V) (q:κ × af)=>p.1 = q.1/\RelV p.2 q.2
def kV:Key->V
 | .inl i=>.int i
 | .inr x=>.str x
inductive HO where
 | lst (xs:List V)
 | tup (xs:List V)
 | own (x:aq)
 | frz (o:Obj) (u:HO)
 | tbl (ps:Array af)
 | ext (φ:bG->Prop)
abbrev Hp:=aq->Option HO
def upd (H:Hp) (a:aq) (o:HO):Hp:=λb=>if b = a then some o else H b
def cm {H:Hp} {a:aq} {o:HO}:upd H a o a = some o:=by unfold upd;rw [if_pos rfl]
def bN {H:Hp} {a b:aq} {o:HO} (h:b≠a):upd H a o b = H b:=by unfold upd;rw [if_neg h]
def gL {H:Hp} {a b:aq} {o:HO} (h:H a = some o) (h':H b = none):a≠b:=by
 intro e;subst e;rw [h] at h';cases h'
section
variable (P:aO) (w:aZ)
def gH (P:aO) (w:aZ) (H:Hp) (h:bG) (a:aq):HO->Prop
 | .lst xs=>xs.length<=sizeLine/\∃ (its:List af) (n:Nat),Vals xs its/\h.get? a = some { cls:=.type "list",data:=.seq its.toArray n }
 | .tup xs=>xs.length<=sizeLine/\∃ its:List af,Vals xs its/\Ky h a its.toArray
 | .own _=>∃ o,h.get? a = some o
 | .frz o u=>h.get? a = some o/\gH P w H h a u
 | .tbl ps=>h.get? a = some { cls:=.none,data:=.fields ps }
 | .ext φ=>φ h/\(∃ o,h.get? a = some o)/\∀ h1 h2:bG,φ h1->(∀ o,h1.get? a = some o->h2.get? a = some o)->φ h2
def HOk (H:Hp) (h:bG):Prop:=∀ a o,H a = some o->gH P w H h a o
end
section
variable {P:aO} {w:aZ} {H H':Hp} {h h':bG} {a:aq} {o:HO}
def gH.lt (x:gH P w H h a o):a < h.objs.size:=by
 cases o with
 | lst xs=>obtain ⟨_,_,_,_,e⟩:=x;exact az e
 | tup xs=>obtain ⟨_,_,_,p⟩:=x;exact p.lt
 | own y=>obtain ⟨_,e⟩:=x;exact az e
 | frz ob u=>obtain ⟨e,_⟩:=x;exact az e
 | tbl ps=>exact az (show h.get? a = some _ from x)
 | ext φ=>obtain ⟨_,⟨_,e⟩,_⟩:=x;exact az e
def Paired.mapP {α β:Type} {F G:α->β->Prop}:∀ {l₁:List α} {l₂:List β},Paired F l₁ l₂->(∀ a b,F a b->G a b)->Paired G l₁ l₂
 | _,_,.nil,_=>.nil
 | _,_,.cons r t,f=>.cons (f _ _ r) (Paired.mapP t f)
def gH.stay (x:gH P w H h a o) (k:∀ b u,(b = a\/H b = some (.own a))->h.get? b = some u->h'.get? b = some u)
 (ho:∀ b,H b = some (.own a)->H' b = some (.own a)) (ht:∀ b xs,H b = some (.tup xs)->H' b = some (.tup xs)):gH P w H' h' a o:=by
 induction o with
 | lst xs=>obtain ⟨z,its,n,r,e⟩:=x;exact ⟨z,its,n,r,k _ _ (.inl rfl) e⟩
 | tup xs=>obtain ⟨z,its,r,ob,e,c⟩:=x;exact ⟨z,its,r,ob,k _ _ (.inl rfl) e,c⟩
 | own y=>obtain ⟨ob,e⟩:=x;exact ⟨ob,k _ _ (.inl rfl) e⟩
 | frz ob u ih=>obtain ⟨e,q⟩:=x;exact ⟨k _ _ (.inl rfl) e,ih q⟩
 | tbl ps =>
   have e:h.get? a = some { cls:=.none,data:=.fields ps }:=x;show h'.get? a = some { cls:=.none,data:=.fields ps }
   exact k a _ (.inl rfl) e
 | ext φ=>obtain ⟨p,⟨o,e⟩,st⟩:=x;exact ⟨st _ _ p λo q=>k _ _ (.inl rfl) q,⟨o,k _ _ (.inl rfl) e⟩,st⟩
def HOk.lt (x:HOk P w H h) (e:H a = some o):a < h.objs.size:=(x a o e).lt
def HOk.fresh (x:HOk P w H h) (e:h.objs.size<=a):H a = none:=by
 cases q:H a with
 | none=>rfl
 | some u=>exact absurd (aY (x.lt q) e) (cy _)
def HOk.kept (x:HOk P w H h) (k:∀ b u,h.get? b = some u->h'.get? b = some u):HOk P w H h':=λa o e =>
 (x a o e).stay (λb u _ q=>k b u q) (λ_ q=>q) λ_ _ q=>q
def HOk.laid (x:HOk P w H h) (k:∀ b u,h.get? b = some u->h'.get? b = some u) (hp:h.objs.size<=a) (new:gH P w (upd H a o) h' a o):HOk P w (upd H a o) h':=λb u e=>by
 have hn:=x.fresh hp;by_cases hb:b = a
 . subst hb;rw [cm] at e;cases e;exact new
 . rw [bN hb] at e;exact (x b u e).stay (λc v _ q=>k c v q) (λc q=>by rw [bN (gL q hn)];exact q) λc xs q=>by rw [bN (gL q hn)];exact q
end
def Rd (H:Hp) (a:aq) (u:HO):Prop:=H a = some u\/∃ o,H a = some (.frz o u)
def Rd.ok {P:aO} {w:aZ} {H:Hp} {h:bG} {a:aq} {u:HO} (r:Rd H a u) (x:HOk P w H h):gH P w H h a u:=by
 rcases r with r | ⟨o,r⟩
 . exact x a u r
 . obtain ⟨_,q⟩:=x a _ r;exact q
def Mut:Option HO->Prop
 | some (.lst _)=>True
 | some (.ext _)=>True
 | _=>False
section
variable {P:aO} {w:aZ} {H:Hp} {h h':bG} {x e:aq} {o':HO}
def HOk.write (ok:HOk P w H h) (mu:Mut (H x)) (he:e = x\/H e = some (.own x)) (k:∀ b u,b≠e->h.get? b = some u->h'.get? b = some u) (heo:∃ u,h'.get? e = some u)
 (new:gH P w (upd H x o') h' x o'):HOk P w (upd H x o') h':=λb u q=>by
 have nown:∀ c y,H c = some (.own y)->c≠x:=λc y r z=>by subst z;rw [r] at mu;exact mu
 have ntup:∀ c xs,H c = some (.tup xs)->c≠x:=λc xs r z=>by subst z;rw [r] at mu;exact mu
 by_cases hb:b = x
 . subst hb;rw [cm] at q;cases q;exact new
 . rw [bN hb] at q;by_cases hbe:b = e
   . have q':H b = some (.own x):=by
      rcases he with z | z
      . exact absurd (hbe.trans z) hb
      . rw [hbe];exact z
     rw [q] at q';cases q';obtain ⟨v,hv⟩:=heo;exact ⟨v,by rw [hbe];exact hv⟩
   . refine (ok b u q).stay (λc v hc r=>k c v ?_ r) (λc r=>by rw [bN (nown c b r)];exact r) λc xs r=>by rw [bN (ntup c xs r)];exact r
     rcases hc with rfl | hc
     . exact hbe
     . rintro rfl;rcases he with z | z
       . exact nown c b hc z
       . rw [hc] at z;cases z;exact hb rfl
end
structure Un (fs ex:List aq) (H H':Hp) (h h':bG):Prop where
 keep:∀ b o,h.get? b = some o->H b = none->b∉fs->b∉ex->h'.get? b = some o
 slot:∀ b o,h.get? b = some o->H b = none->b∈fs->b∉ex->∃ sl,h'.get? b = some { o with slots:=sl }
 free:∀ b o,h.get? b = some o->H b = none->b∉ex->H' b = none
 there:∀ b o,h.get? b = some o->b∉ex->∃ o',h'.get? b = some o'
 tups:∀ b xs,H b = some (.tup xs)->H' b = some (.tup xs)
 frzs:∀ b o u,H b = some (.frz o u)->H' b = some (.frz o u)
 tbls:∀ b ps,H b = some (.tbl ps)->∃ more,H' b = some (.tbl (ps++more))
section
variable {fs fs' ex ex':List aq} {H H1 H2:Hp} {h h1 h2 h':bG} {a x e:aq} {o:HO}
def Un.any (u:Un fs ex H H1 h h1) (q:h.get? b = some ob) (n:H b = none) (hx:b∉ex):∃ sl,h1.get? b = some { ob with slots:=sl }:=by
 by_cases hb:b∈fs
 . exact u.slot b ob q n hb hx
 . exact ⟨ob.slots,u.keep b ob q n hb hx⟩
def Un.kept (k:∀ b u,h.get? b = some u->h'.get? b = some u):Un fs ex H H h h' :=
 ⟨λb ob q _ _ _=>k b ob q,λb ob q _ _ _=>⟨ob.slots,k b ob q⟩,λ_ _ _ n _=>n,λb ob q _=>⟨ob,k b ob q⟩,λ_ _ q=>q,λ_ _ _ q=>q,λ_ ps q=>⟨#[],by rw [q];simp⟩⟩
def Un.refl:Un fs ex H H h h:=Un.kept λ_ _ q=>q
def Un.laid (k:∀ b u,h.get? b = some u->h'.get? b = some u) (hp:h.objs.size<=a) (hn:H a = none):Un fs ex H (upd H a o) h h' where
 keep:=λb u q _ _ _=>k b u q
 slot:=λb u q _ _ _=>⟨u.slots,k b u q⟩
 free:=λb u q n _=>by rw [bN (aH (aY (az q) hp))];exact n
 there:=λb u q _=>⟨u,k b u q⟩
 tups:=λb xs q=>by rw [bN (gL q hn)];exact q
 frzs:=λb u xs q=>by rw [bN (gL q hn)];exact q
 tbls:=λb ps q=>⟨#[],by rw [bN (gL q hn),q];simp⟩
def Un.write (mu:Mut (H x)) (he:e = x\/H e = some (.own x)) (k:∀ b u,b≠e->h.get? b = some u->h'.get? b = some u) (heo:∃ u,h'.get? e = some u):Un fs ex H (upd H x o) h h':=by
 have hx:∀ b,H b = none->b≠x:=λb n z=>by subst z;rw [n] at mu;exact mu
 have hb:∀ b,H b = none->b≠e:=λb n z=>by
  subst z;rcases he with r | r
  . exact hx b n r
  . rw [n] at r;cases r
 have hm:∀ b u,H b = some u->¬ Mut (some u)->b≠x:=λb u q nm z=>by subst z;rw [q] at mu;exact nm mu
 refine ⟨λb u q n _ _=>k b u (hb b n) q,λb u q n _ _=>⟨u.slots,k b u (hb b n) q⟩,λb u q n _=>by rw [bN (hx b n)];exact n,λb u q _=>?_,
  λb xs q=>by rw [bN (hm b _ q λz=>z)];exact q,λb u xs q=>by rw [bN (hm b _ q λz=>z)];exact q,λb ps q=>⟨#[],by rw [bN (hm b _ q λz=>z),q];simp⟩⟩
 by_cases hbe:b = e
 . subst hbe;exact heo
 . exact ⟨u,k b u hbe q⟩
end
def trk (h:bG) (H:Hp):List aq:=(bo h.objs.size).filter λa=>(H a).isSome
def sR (h:bG) (H:Hp):bG:=PySem.W.hideAll h (trk h H)
def Df (h:bG) (H:Hp):(sR h H).objs.size = h.objs.size:=PySem.W.hideAll_size _ _
def GO (e:h.get? b = some o) (n:H b = none):(sR h H).get? b = some o :=
 PySem.W.hideAll_get _ e λhm=>by
  have q:(H b).isSome = true:=(sJ.mp hm).2;rw [n] at q;simp at q
def JF (e:(sR h H).get? b = some o):h.get? b = some o/\H b = none:=by
 have e':h.get? b = some o:=PySem.W.of_hideAll (trk h H) e;refine ⟨e',?_⟩
 cases q:H b with
 | none=>rfl
 | some x =>
   have hm:b∈trk h H:=sJ.mpr ⟨fF.mpr (az e'),by simp [q]⟩;have z:(sR h H).get? b = none:=PySem.W.hideAll_none (trk h H) hm;rw [z] at e;cases e
end L2
namespace L2
open PySem PySem.Spec PyProof.Rows
structure Mod (K:PySem.W.Frag) (mg:Str->Option af) (base:bG):Prop where
 kin:K.In base
 glob:base.Ns mainGlobals mg
 blt:∃ mb,base.Ns builtinsNs mb/\∀ x:Str,x≠"__name__"->mb x = bootBuiltins x
 nolimit:base.NoLimit
structure Cx where
 prog:aO
 w:aZ
 K:PySem.W.Frag
 mg:Str->Option af
 base:bG
 A:aR
 N:List Str
 s₀:ah
 H₀:Hp
 env:Env
 outer:List Env
 stack:List Env
 ex:List aq
 fn:Str->Bool
 calm:Bool
 pn:List (aq × Obj)
 xe:af->ah->Prop
def frs (l:List Env):List aq:=l.filterMap (·.frame)
noncomputable abbrev Cx.fs (X:Cx):List aq:=frs X.outer
def Vis (sc:eX) (x:Str):Prop:=sc.names.lookup x = some .local\/sc.names.lookup x = some .cell\/sc.names.lookup x = some .free
def Loc (sc:eX) (x:Str):Prop:=sc.names.lookup x = some .local\/sc.names.lookup x = some .cell
def Look (env:Env) (h:bG) (m:Str->Option af) (x:Str) (u:af):Prop :=
 (env.kindOf x = some .local/\m x = some u)\/((env.kindOf x = some .cell\/env.kindOf x = some .free)/\∃ c,env.cells.lookup x = some c/\h.IsCell c (some u))
structure Cx.Ok (X:Cx):Prop where
 mod:Mod X.K X.mg X.base
 kind:X.env.scope.kind = .function
 glob:X.env.globals = mainGlobals
 blt:X.env.builtins = builtinsNs
 above:X.s₀.heap.objs.size<=X.env.locals
 inj:∀ x y c,X.env.cells.lookup x = some c->X.env.cells.lookup y = some c->x = y
 has:∀ x,(X.env.kindOf x = some .cell\/X.env.kindOf x = some .free)->∃ c,X.env.cells.lookup x = some c
 cab:∀ x c,X.fn x = true->X.env.cells.lookup x = some c->X.s₀.heap.objs.size<=c
 hd:X.calm = true->X.A.handled = none
 frames:X.A.frames = some X.stack
 stk:X.stack = X.outer\/(X.stack = X.env::X.outer/\X.env.frame = some X.env.locals)
 exf:∀ b∈X.ex,b≠X.env.locals/\∀ x c,X.env.cells.lookup x = some c->c≠b
 bs:∀ b o,X.base.get? b = some o->X.s₀.heap.get? b = some o/\X.H₀ b = none
 bsz:X.base.objs.size<=X.s₀.heap.objs.size
 noex:∀ b o,X.base.get? b = some o->b∉X.ex
 exfs:∀ b∈X.ex,b∉X.fs
 funs:X.s₀.heap.FunFrames X.base X.outer
 frf:∀ b∈X.fs,X.H₀ b = none
structure Inv (X:Cx) (pins:List (aq × Obj)) (σ:List (Option V)) (H:Hp) (s:ah):Prop where
 ok:X.Ok
 os:s.os = X.s₀.os
 bare:kB s.gens
 base:Un X.fs X.ex X.H₀ H X.s₀.heap s.heap
 loc:∃ m,s.heap.Ns X.env.locals m/\∀ (i:Nat) (x:Str) (v:V),X.N[i]? = some x->σ[i]? = some (some v)->Vis X.env.scope x->∃ u,RelV v u/\Look X.env s.heap m x u
 cell:∀ x c,X.env.cells.lookup x = some c->∃ v,s.heap.IsCell c v
 free:H X.env.locals = none
 freeC:∀ x c,X.env.cells.lookup x = some c->H c = none
 pin:∀ p∈X.pn++pins,s.heap.get? p.1 = some p.2/\H p.1 = none/\p.1≠X.env.locals/\p.1∉X.fs/\∀ v,p.2.data≠.cell v
 hok:HOk X.prog X.w H s.heap
 len:σ.length = X.N.length
section
variable {X:Cx} {pins:List (aq × Obj)} {σ:List (Option V)} {H H':Hp} {s:ah} {h':bG}
def Cx.Ok.nofr (ok:X.Ok) (e:X.base.get? b = some o):b∉X.fs:=λhb=>by
 have:=(ok.funs.mem hb).1;rw [e] at this;cases this
def Inv.bs (I:Inv X pins σ H s):∀ b o,X.base.get? b = some o->s.heap.get? b = some o/\H b = none:=λb o e =>
 ⟨I.base.keep b o (I.ok.bs b o e).1 (I.ok.bs b o e).2 (I.ok.nofr e) (I.ok.noex b o e),I.base.free b o (I.ok.bs b o e).1 (I.ok.bs b o e).2 (I.ok.noex b o e)⟩
def Inv.bk (I:Inv X pins σ H s):∀ b o,X.base.get? b = some o->s.heap.get? b = some o:=λb o e=>(I.bs b o e).1
def Inv.mod (I:Inv X pins σ H s):Mod X.K X.mg X.base:=I.ok.mod
def Inv.kIn (I:Inv X pins σ H s):X.K.In s.heap:=I.ok.mod.kin.keeps I.bk
def Inv.lt (I:Inv X pins σ H s):X.env.locals < s.heap.objs.size:=let ⟨_,hn,_⟩:=I.loc;hn.lt
def Inv.sz (I:Inv X pins σ H s):X.s₀.heap.objs.size<=s.heap.objs.size:=bF I.ok.above (lr I.lt)
def Inv.nofs (I:Inv X pins σ H s) (h:s.heap.objs.size<=a):a∉X.fs:=λhb=>by
 obtain ⟨_,o,ho,_⟩:=I.ok.funs.mem hb;exact absurd (aY (az ho) (bF I.sz h)) (cy _)
def Inv.cne (I:Inv X pins σ H s):∀ x c,X.env.cells.lookup x = some c->c≠X.env.locals:=λx c e z=>by
 obtain ⟨v,o,ho,hd⟩:=I.cell x c e;obtain ⟨m,⟨o',es,ep,ho',hd',_⟩,_⟩:=I.loc;rw [z,ho'] at ho;cases ho;rw [hd'] at hd;cases hd
def Inv.funs (I:Inv X pins σ H s):s.heap.FunFrames X.base X.outer:=by
 have all:∀ (l:List Env),(∀ b∈frs l,b∈X.fs)->X.s₀.heap.FunFrames X.base l->s.heap.FunFrames X.base l:=by
  intro l
  induction l with
  | nil=>intro _ _;trivial
  | cons env r ih =>
    intro hs hl;obtain ⟨hk,⟨L,o,hf,hn,ho,hd⟩,hr⟩:=hl;have hL:L∈X.fs:=hs L (by unfold frs;rw [cb,hf];exact au);obtain ⟨sl,e⟩:=I.base.slot L o ho (I.ok.frf L hL) hL λz=>I.ok.exfs L z hL;exact ⟨hk,⟨L,_,hf,hn,e,hd⟩,ih (λb hb=>hs b (by unfold frs;rw [cb,hf];exact ar _ hb)) hr⟩
 exact all X.outer (λ_ hb=>hb) I.ok.funs
def Inv.stack (I:Inv X pins σ H s):s.heap.FunFrames X.base X.stack:=by
 rcases I.ok.stk with e | ⟨e,hf⟩
 . rw [e];exact I.funs
 . rw [e];obtain ⟨m,hn,_⟩:=I.loc;refine .cons (by rw [I.ok.kind];decide) hf hn ?_ I.funs;exact BX (bF I.ok.bsz I.ok.above)
def Inv.stkSub (I:Inv X pins σ H s):∀ b∈frs X.stack,b∈X.env.locals::X.fs:=λb hb=>by
 rcases I.ok.stk with e | ⟨e,hf⟩
 . rw [e] at hb;exact ar _ hb
 . rw [e] at hb;unfold frs at hb;rw [cb,hf] at hb;exact hb
def Inv.stkFree (I:Inv X pins σ H s):∀ b∈frs X.stack,H b = none:=λb hb=>by
 rcases aB.mp (I.stkSub b hb) with e | hb
 . rw [e];exact I.free
 . obtain ⟨_,o,ho,_⟩:=I.ok.funs.mem hb;exact I.base.free b o ho (I.ok.frf b hb) λz=>I.ok.exfs b z hb
def Inv.step {g':Array gG} {t':Nat} {d':Drawn} {ch:List aq} (I:Inv X pins σ H s)
 (hch:∀ b∈ch,(b∈X.ex\/X.s₀.heap.objs.size<=b)/\b≠X.env.locals/\(∀ x c,X.env.cells.lookup x = some c->c≠b)/\∀ p∈X.pn++pins,p.1≠b)
 (keep:∀ b o,b≠X.env.locals->b∉X.fs->b∉ch->s.heap.get? b = some o->H b = none->h'.get? b = some o)
 (slot:∀ b o,b≠X.env.locals->b∈X.fs->b∉ch->s.heap.get? b = some o->H b = none->∃ sl,h'.get? b = some { o with slots:=sl }) (free:∀ b o,b∉ch->s.heap.get? b = some o->H b = none->H' b = none)
 (there:∀ b o,b∉ch->s.heap.get? b = some o->∃ o',h'.get? b = some o')
 (tups:∀ b xs,H b = some (.tup xs)->H' b = some (.tup xs)) (frzs:∀ b o u,H b = some (.frz o u)->H' b = some (.frz o u)) (tbls:∀ b ps,H b = some (.tbl ps)->∃ more,H' b = some (.tbl (ps++more)))
 (ns:∀ m,s.heap.Ns X.env.locals m->h'.Ns X.env.locals m) (hok:HOk X.prog X.w H' h') (hg:kB g') :
 Inv X pins σ H' { s with heap:=h',gens:=g',drawn:=d',toks:=t' }:=by
 have neL:∀ b o,X.s₀.heap.get? b = some o->b≠X.env.locals:=λb o e=>aH (aY (az e) I.ok.above)
 have neC:∀ b o,X.s₀.heap.get? b = some o->b∉X.ex->b∉ch:=λb o e hx hb=>by
  rcases (hch b hb).1 with z | z
  . exact hx z
  . exact absurd (aY (az e) z) (cy _)
 have cellK:∀ x c,X.env.cells.lookup x = some c->∀ v,s.heap.IsCell c v->h'.IsCell c v:=λx c e v zz=>by
  obtain ⟨o,ho,hd⟩:=zz;have nch:c∉ch:=λz=>(hch c z).2.2.1 x c e rfl;by_cases hc:c∈X.fs
  . obtain ⟨sl,q⟩:=slot c o (I.cne x c e) hc nch ho (I.freeC x c e);exact ⟨_,q,hd⟩
  . exact ⟨o,keep c o (I.cne x c e) hc nch ho (I.freeC x c e),hd⟩
 refine ⟨I.ok,I.os,hg,⟨λb o e n hb hx=>?_,λb o e n hb hx=>?_,λb o e n hx=>?_,λb o e hx=>?_,λb xs e=>tups b xs (I.base.tups b xs e),λb o xs e=>frzs b o xs (I.base.frzs b o xs e),λb ps e=>?_⟩,?_,λx c e=>?_,?_,λx c e=>?_,λp hp=>?_,hok,I.len⟩
 . exact keep b o (neL b o e) hb (neC b o e hx) (I.base.keep b o e n hb hx) (I.base.free b o e n hx)
 . obtain ⟨sl,e1⟩:=I.base.slot b o e n hb hx;obtain ⟨sl',e2⟩:=slot b _ (neL b o e) hb (neC b o e hx) e1 (I.base.free b o e n hx);exact ⟨sl',e2⟩
 . obtain ⟨o',e1⟩:=I.base.there b o e hx;exact free b o' (neC b o e hx) e1 (I.base.free b o e n hx)
 . obtain ⟨o',e1⟩:=I.base.there b o e hx;exact there b o' (neC b o e hx) e1
 . obtain ⟨m1,e1⟩:=I.base.tbls b ps e;obtain ⟨m2,e2⟩:=tbls b _ e1;exact ⟨m1++m2,by rw [e2,Array.append_assoc]⟩
 . obtain ⟨m,hn,hl⟩:=I.loc;refine ⟨m,ns m hn,λi x v e1 e2 e3=>?_⟩;obtain ⟨u,r,l⟩:=hl i x v e1 e2 e3;refine ⟨u,r,?_⟩;rcases l with l | ⟨k,c,e,z⟩
   . exact .inl l
   . exact .inr ⟨k,c,e,cellK x c e _ z⟩
 . obtain ⟨v,z⟩:=I.cell x c e;exact ⟨v,cellK x c e v z⟩
 . obtain ⟨m,⟨o,_,_,ho,_⟩,_⟩:=I.loc;exact free _ o (λz=>(hch _ z).2.1 rfl) ho I.free
 . obtain ⟨v,o,ho,hd⟩:=I.cell x c e;exact free c o (λz=>(hch c z).2.2.1 x c e rfl) ho (I.freeC x c e)
 . obtain ⟨e,n,ne,nf,d⟩:=I.pin p hp;have nch:p.1∉ch:=λz=>(hch p.1 z).2.2.2 p hp rfl;exact ⟨keep p.1 p.2 ne nf nch e n,free p.1 p.2 nch e n,ne,nf,d⟩
def Inv.un {t':Nat} (I:Inv X pins σ H s) (u:Un X.fs [] H H' s.heap h') (hok:HOk X.prog X.w H' h'):Inv X pins σ H' { s with heap:=h',toks:=t' }:=by
 obtain ⟨m,⟨o,es,ep,ho,r⟩,_⟩:=id I.loc;obtain ⟨sl,hL⟩:=u.any ho I.free ↥0
 exact I.step (g':=s.gens) (d':=s.drawn) (ch:=[]) (λ_ z=>nomatch z) (λb o _ hb _ e n=>u.keep b o e n hb ↥0) (λb o _ hb _ e n=>u.slot b o e n hb ↥0) (λb o _ e n=>u.free b o e n ↥0) (λb o _ e=>u.there b o e ↥0) u.tups u.frzs u.tbls (λm' hm=>by
  obtain ⟨o',es',ep',ho',r'⟩:=hm;rw [ho] at ho';cases ho';exact ⟨_,es',ep',hL,r'⟩) hok I.bare
def Inv.call {g':Array gG} {t':Nat} {d':Drawn} {ch:List aq} (I:Inv X pins σ H s) (u:Un (frs X.stack) ch H H' s.heap h') (hok:HOk X.prog X.w H' h') (hg:kB g')
 (hch:∀ b∈ch,(b∈X.ex\/X.s₀.heap.objs.size<=b)/\b≠X.env.locals/\(∀ x c,X.env.cells.lookup x = some c->c≠b)/\∀ p∈X.pn++pins,p.1≠b) :
 Inv X pins σ H' { s with heap:=h',gens:=g',drawn:=d',toks:=t' }:=by
 obtain ⟨m,⟨o,es,ep,ho,r⟩,_⟩:=id I.loc;obtain ⟨sl,hL⟩:=u.any ho I.free λz=>(hch _ z).2.1 rfl
 exact I.step (ch:=ch) hch (λb o hL hb hc e n=>u.keep b o e n (λz=>(aB.mp (I.stkSub b z)).elim hL hb) hc) (λb o _ _ hc e n=>u.any e n hc) (λb o hc e n=>u.free b o e n hc) (λb o hc e=>u.there b o e hc) u.tups u.frzs u.tbls (λm' hm=>by
  obtain ⟨o',es',ep',ho',r'⟩:=hm;rw [ho] at ho';cases ho';exact ⟨_,es',ep',hL,r'⟩) hok hg
def Inv.turned {t':Nat} {it:aq} (I:Inv X pins σ H s) (k:∀ b o,b≠it->s.heap.get? b = some o->h'.get? b = some o) (hn:H it = none) (hL:it≠X.env.locals)
 (h1:it∈X.ex\/X.s₀.heap.objs.size<=it) (h2:∀ x c,X.env.cells.lookup x = some c->c≠it) (h3:∀ p∈X.pn++pins,p.1≠it):Inv X pins σ H { s with heap:=h',toks:=t' }:=by
 have nit:∀ b u,H b = some u->b≠it:=λb u e z=>by rw [z,hn] at e;cases e
 refine I.step (g':=s.gens) (d':=s.drawn) (ch:=[it]) (λb hb=>?_) (λb o _ _ hc e _=>k b o (λz=>hc (by simp [z])) e) (λb o _ _ hc e _=>⟨o.slots,k b o (λz=>hc (by simp [z])) e⟩) (λ_ _ _ _ n=>n)
  (λb o hc e=>⟨o,k b o (λz=>hc (by simp [z])) e⟩) (λ_ _ e=>e) (λ_ _ _ e=>e) (λb ps e=>⟨#[],by rw [e];simp⟩) (λm hm=>?_) (λb u e=>?_) I.bare
 . have e:b = it:=by simpa using hb
   subst e;exact ⟨h1,hL,h2,h3⟩
 . obtain ⟨o,es,ep,ho,r⟩:=hm;exact ⟨o,es,ep,k _ o (Ne.symm hL) ho,r⟩
 . refine (I.hok b u e).stay (λc v hc q=>k c v ?_ q) (λ_ q=>q) λ_ _ q=>q;rcases hc with z | z
   . rw [z];exact nit b u e
   . exact nit c _ z
def Inv.tok (I:Inv X pins σ H s) (t:Nat):Inv X pins σ H { s with toks:=t }:=I.un (h':=s.heap) (t':=t) Un.refl I.hok
def Inv.kept {t':Nat} (I:Inv X pins σ H s) (k:∀ b u,s.heap.get? b = some u->h'.get? b = some u):Inv X pins σ H { s with heap:=h',toks:=t' }:=I.un (Un.kept k) (I.hok.kept k)
def Inv.laid {a:aq} {o:HO} {t':Nat} (I:Inv X pins σ H s) (k:∀ b u,s.heap.get? b = some u->h'.get? b = some u) (hp:s.heap.objs.size<=a) (new:gH X.prog X.w (upd H a o) h' a o) :
 Inv X pins σ (upd H a o) { s with heap:=h',toks:=t' }:=I.un (Un.laid k hp (I.hok.fresh hp)) (I.hok.laid k hp new)
def Inv.write (I:Inv X pins σ H s) (mu:Mut (H x)) (he:e = x\/H e = some (.own x)) (k:∀ b u,b≠e->s.heap.get? b = some u->h'.get? b = some u) (heo:∃ u,h'.get? e = some u)
 (new:gH X.prog X.w (upd H x o) h' x o):Inv X pins σ (upd H x o) { s with heap:=h',toks:=t' }:=I.un (Un.write mu he k heo) (I.hok.write mu he k heo new)
def Inv.pins_of (I:Inv X pins σ H s) (h:∀ p∈pins',s.heap.get? p.1 = some p.2/\H p.1 = none/\p.1≠X.env.locals/\p.1∉X.fs/\∀ v,p.2.data≠.cell v):Inv X pins' σ H s :=
 ⟨I.ok,I.os,I.bare,I.base,I.loc,I.cell,I.free,I.freeC,λp hp=>(bb.mp hp).elim (λz=>I.pin p (aF _ z)) (h p),I.hok,I.len⟩
def xT {N:List Str} (hN:N.Nodup) {i j:Nat} {x:Str} (a:N[i]? = some x) (b:N[j]? = some x):i = j:=by
 obtain ⟨h1,e1⟩:=aD.mp a;obtain ⟨h2,e2⟩:=aD.mp b;exact (List.getElem_inj hN).mp (e1.trans e2.symm)
def CC {M:Model} {A:aR} {E:af->ah->Prop} {i:Nat} {x:Str} {v:V} {u:af} {Q:Unit->ah->Prop} (I:Inv X pins σ H s) (hN:X.N.Nodup) (hi:X.N[i]? = some x) (hx:Loc X.env.scope x) (r:RelV v u)
 (h:∀ s',Inv X pins (σ.set i (some v)) H s'->(∃ a,fM a s.heap s'.heap/\(a = X.env.locals\/X.env.cells.lookup x = some a))->Q () s') (hf:X.fn x = true\/X.env.scope.names.lookup x = some .local:=by first | exact .inl rfl | exact .inr rfl | assumption):wpAny M A (storeName X.env x u) Q E s:=by
 obtain ⟨m,hn,hl⟩:=id I.loc;have hcls:(X.env.scope.kind == .class || (X.env.scope.kind == .module && X.env.locals != X.env.globals)) = false:=by rw [I.ok.kind];rfl
 have hiσ:i < σ.length:=by rw [I.len];exact (aD.mp hi).1
 have cne:=I.cne
 have tracked:∀ {a:aq} {h':bG},(∃ o,s.heap.get? a = some o/\H a = none)->fM a s.heap h'->HOk X.prog X.w H h':=λ{a h'} ha hs b ob e=>by
  obtain ⟨_,_,hfree⟩:=ha;refine (I.hok b ob e).stay (λc w' hc q=>(hs.2 c ?_).trans q) (λ_ q=>q) λ_ _ q=>q;rintro rfl;rcases hc with rfl | hc
  . rw [hfree] at e;cases e
  . rw [hfree] at hc;cases hc
 rcases hx with hk | hk
 . refine wpAny_storeName_local hk hn (λh' hn' hs=>?_) hcls;obtain ⟨oL,_,_,hoL,_⟩:=id hn;refine h _ ⟨I.ok,I.os,I.bare,⟨λb o e n hb hx=>?_,λb o e n hb hx=>?_,I.base.free,λb o e hx=>?_,I.base.tups,I.base.frzs,I.base.tbls⟩,⟨_,hn',λj y v' e1 e2 e3=>?_⟩,λy c e=>?_,I.free,I.freeC,λp hp=>?_,tracked ⟨oL,hoL,I.free⟩ hs,by simpa using I.len⟩ ⟨_,hs,.inl rfl⟩
   . exact (hs.2 b (aH (aY (az e) I.ok.above))).trans (I.base.keep b o e n hb hx)
   . obtain ⟨sl,e1⟩:=I.base.slot b o e n hb hx;exact ⟨sl,(hs.2 b (aH (aY (az e) I.ok.above))).trans e1⟩
   . obtain ⟨o',e1⟩:=I.base.there b o e hx;exact ⟨o',(hs.2 b (aH (aY (az e) I.ok.above))).trans e1⟩
   . by_cases hj:j = i
     . subst hj;rw [hi] at e1;cases e1;rw [bV hiσ] at e2;cases e2;exact ⟨u,r,.inl ⟨hk,↥0⟩⟩
     . rw [aU (Ne.symm hj)] at e2;obtain ⟨u',r',q⟩:=hl j y v' e1 e2 e3;refine ⟨u',r',?_⟩;rcases q with ⟨k,e⟩ | ⟨k,c,e,z⟩
       . refine .inl ⟨k,?_⟩;have:y≠x:=λe=>hj (xT hN e1 (e▸hi));simp [this,e]
       . exact .inr ⟨k,c,e,z.sameBut hs (cne y c e)⟩
   . obtain ⟨w',z⟩:=I.cell y c e;exact ⟨w',z.sameBut hs (cne y c e)⟩
   . obtain ⟨e,n,ne,nf,d⟩:=I.pin p hp;exact ⟨(hs.2 p.1 ne).trans e,n,ne,nf,d⟩
 . have hfn:X.fn x = true:=by
    rcases hf with z | z
    . exact z
    . rw [z] at hk;cases hk
   obtain ⟨c,hc⟩:=I.ok.has x (.inl hk);obtain ⟨w',z⟩:=I.cell x c hc;refine wpAny_storeName_cell I.ok.kind hk hc z (λh' hc' hs=>?_);obtain ⟨oc,hoc,hocd⟩:=id z;refine h { s with heap:=h' } ⟨I.ok,I.os,I.bare,⟨λb o e n hb hx=>?_,λb o e n hb hx=>?_,I.base.free,λb o e hx=>?_,I.base.tups,I.base.frzs,I.base.tbls⟩,⟨m,hn.sameBut hs (Ne.symm (cne x c hc)),λj y v' e1 e2 e3=>?_⟩,λy c' e=>?_,I.free,I.freeC,λp hp=>?_,tracked ⟨oc,hoc,I.freeC x c hc⟩ hs,by simpa using I.len⟩ ⟨c,hs,.inr hc⟩
   . exact (hs.2 b (aH (aY (az e) (I.ok.cab x c hfn hc)))).trans (I.base.keep b o e n hb hx)
   . obtain ⟨sl,e1⟩:=I.base.slot b o e n hb hx;exact ⟨sl,(hs.2 b (aH (aY (az e) (I.ok.cab x c hfn hc)))).trans e1⟩
   . obtain ⟨o',e1⟩:=I.base.there b o e hx;exact ⟨o',(hs.2 b (aH (aY (az e) (I.ok.cab x c hfn hc)))).trans e1⟩
   . by_cases hj:j = i
     . subst hj;rw [hi] at e1;cases e1;rw [bV hiσ] at e2;cases e2;exact ⟨u,r,.inr ⟨.inl hk,c,hc,hc'⟩⟩
     . rw [aU (Ne.symm hj)] at e2;obtain ⟨u',r',q⟩:=hl j y v' e1 e2 e3;refine ⟨u',r',?_⟩;rcases q with q | ⟨k,c',e,z'⟩
       . exact .inl q
       . refine .inr ⟨k,c',e,z'.sameBut hs ?_⟩;rintro rfl;exact hj (xT hN e1 (I.ok.inj _ _ _ e hc▸hi))
   . by_cases hcc:c' = c
     . subst hcc;exact ⟨_,hc'⟩
     . obtain ⟨w2,z2⟩:=I.cell y c' e;exact ⟨w2,z2.sameBut hs hcc⟩
   . obtain ⟨e,n,ne,nf,d⟩:=I.pin p hp;refine ⟨(hs.2 p.1 ?_).trans e,n,ne,nf,d⟩;intro q;rw [q,hoc] at e;have q':oc = p.2:=bA e;exact d w' (by rw [<- q'];exact hocd)
def kF (I:Inv X pins σ H s) (hN:X.N.Nodup) (hi:X.N[i]? = some x) (hx:Loc X.env.scope x) (r:RelV v u)
 (h:∀ s',Inv X pins (σ.set i (some v)) H s'->Q () s') (hf:X.fn x = true\/X.env.scope.names.lookup x = some .local:=by first | exact .inl rfl | exact .inr rfl | assumption):wpAny M A (storeName X.env x u) Q E s :=
 CC I hN hi hx r (λs' I' _=>h s' I') hf
def Inv.call' (I:Inv X pins σ H s) (ho:s'.os = s.os) (u:Un (frs X.stack) ch H H' s.heap s'.heap) (hok:HOk X.prog X.w H' s'.heap) (hg:kB s'.gens)
 (hch:∀ b∈ch,(b∈X.ex\/X.s₀.heap.objs.size<=b)/\b≠X.env.locals/\(∀ x c,X.env.cells.lookup x = some c->c≠b)/\∀ p∈X.pn++pins,p.1≠b):Inv X pins σ H' s':=by
 obtain ⟨h',g',d',t',o'⟩:=s';have e:o' = s.os:=ho;subst e;exact I.call (g':=g') (t':=t') (d':=d') u hok hg hch
end
abbrev XK:=af->Option aq->Hp->Prop
abbrev St:=List (Option V)
abbrev VK:=V->Hp->Prop
abbrev TE:=St->Hp->VK->Prop
abbrev TT:=St->Hp->(Bool->Hp->Prop)->Prop
abbrev TA:=St->Hp->(List V->Hp->Prop)->Prop
structure Ends where
 nx:St->Hp->Prop
 rt:VK
 bk:St->Hp->Prop:=λ_ _=>False
 ct:St->Hp->Prop:=λ_ _=>False
abbrev TS:=Ends->St->Hp->Prop
def EP (X:Cx) (pins:List (aq × Obj)) (σ:St) (Q:VK) (u:af) (s':ah):Prop:=∃ v H',Inv X pins σ H' s'/\RelV v u/\Q v H'
def TP (X:Cx) (pins:List (aq × Obj)) (σ:St) (Q:Bool->Hp->Prop) (b:Bool) (s':ah):Prop:=∃ H',Inv X pins σ H' s'/\Q b H'
def AP (X:Cx) (pins:List (aq × Obj)) (σ:St) (Q:List V->Hp->Prop) (us:List af) (s':ah):Prop:=∃ vs H',Inv X pins σ H' s'/\Vals vs us/\Q vs H'
def SP (X:Cx) (pins:List (aq × Obj)) (D:Ends) (f:Flow) (s':ah):Prop :=
 match f with
 | .next=>∃ σ' H',Inv X pins σ' H' s'/\D.nx σ' H'
 | .brk=>∃ σ' H',Inv X pins σ' H' s'/\D.bk σ' H'
 | .cont=>∃ σ' H',Inv X pins σ' H' s'/\D.ct σ' H'
 | .ret u=>∃ v σ' H',Inv X pins σ' H' s'/\RelV v u/\D.rt v H'
def PE (X:Cx) (e:aG) (t:TE):Prop :=
 ∀ (pins:List (aq × Obj)) (s:ah) (σ:St) (H:Hp) (Q:VK),Inv X pins σ H s->t σ H Q->wpAny (model X.prog X.w) X.A (eval e X.env) (EP X pins σ Q) X.xe s
def PT (X:Cx) (e:aG) (t:TT):Prop :=
 ∀ (pins:List (aq × Obj)) (s:ah) (σ:St) (H:Hp) (Q:Bool->Hp->Prop),Inv X pins σ H s->t σ H Q->wpAny (model X.prog X.w) X.A (isTrue e X.env (eval e X.env)) (TP X pins σ Q) X.xe s
def PW (X:Cx) (e:aG) (t:TT):Prop :=
 ∀ (whole:Sem af) (pins:List (aq × Obj)) (s:ah) (σ:St) (H:Hp) (Q:Bool->Hp->Prop),Inv X pins σ H s->t σ H Q->wpAny (model X.prog X.w) X.A (isTrue e X.env whole) (TP X pins σ Q) X.xe s
def PW.pt {X:Cx} {e:aG} {t:TT} (h:PW X e t):PT X e t:=h _
def PA (X:Cx) (es:List aG) (t:TA):Prop :=
 ∀ (pos:Pos) (pins:List (aq × Obj)) (s:ah) (σ:St) (H:Hp) (Q:List V->Hp->Prop),Inv X pins σ H s->t σ H Q->wpAny (model X.prog X.w) X.A (spliced (backTo pos (starEach es X.env))) (AP X pins σ Q) X.xe s
def PS (X:Cx) (st:bD) (t:TS):Prop :=
 ∀ (pins:List (aq × Obj)) (s:ah) (σ:St) (H:Hp) (D:Ends),Inv X pins σ H s->t D σ H->wpAny (model X.prog X.w) X.A (exec st X.env) (SP X pins D) X.xe s
def PSs (X:Cx) (st:List bD) (t:TS):Prop :=
 ∀ (pins:List (aq × Obj)) (s:ah) (σ:St) (H:Hp) (D:Ends),Inv X pins σ H s->t D σ H->wpAny (model X.prog X.w) X.A (execs st X.env) (SP X pins D) X.xe s
def thn {α:Type} {t:Sem α} {Q Q':α->ah->Prop} {M:Model} {A:aR} {E:af->ah->Prop} {s:ah} (h:wpAny M A t Q E s) (hQ:∀ a s,Q a s->Q' a s):wpAny M A t Q' E s:=cP h hQ λ_ _ x=>x
end L2
namespace L2
open PySem PySem.Spec PyProof.Rows
section
variable {X:Cx}
def zw (i:Nat):TE:=λσ H Q=>∃ v,σ[i]? = some (some v)/\Q v H
def tC (v:V):TE:=λ_ H Q=>Q v H
def iK (hN:X.N[i]? = some x) (hv:Vis X.env.scope x) (hd:(x == ("__debug__":Str)) = false:=by decide) (hcd:(x == ("__classdict__":Str)) = false:=by decide):PE X (.Name x pos) (zw i):=by
 intro pins s σ H Q I h;obtain ⟨v,e,h⟩:=h;obtain ⟨m,hn,hl⟩:=I.loc;obtain ⟨u,r,l⟩:=hl i x v hN e hv;have fin:EP X pins σ Q u s:=⟨v,H,I,r,h⟩;rcases l with ⟨hk,hm⟩ | ⟨hk,c,hc,hcell⟩
 . exact Oy (Kr I.ok.kind hk hn hm fin) hd
 . rcases hk with hk | hk
   . exact Oy (Lm I.ok.kind hk hc hcell fin) hd
   . exact Oy (wpAny_loadName_free I.ok.kind hk hc hcell fin hcd) hd
def FK:PE X (.Constant (.int i) j pos) (tC (.int i)):=λ_ _ _ H _ I h=>wpAny_Constant_int ⟨.int i,H,I.tok _,⟨_,rfl⟩,h⟩
def Po:PE X (.Constant (.bool b) j pos) (tC (.bl b)):=λ_ _ _ H _ I h=>Constant_bool ⟨.bl b,H,I,rfl,h⟩
def MO:PE X (.Constant .none j pos) (tC .non):=λ_ _ _ H _ I h=>Constant_none ⟨.non,H,I,rfl,h⟩
def zL:PE X (.Constant (.str x) j pos) (tC (.str x)):=λ_ _ _ H _ I h=>Calls.Constant_str ⟨.str x,H,I.tok _,⟨_,rfl⟩,h⟩
def Gl (X:Cx) (x:Str):Prop:=X.env.kindOf x = some .globalImplicit
def jT (I:Inv X pins σ H s) (hg:Gl X x) (hm:X.mg x = some u) (h:Q u s)
 (hd:(x == ("__debug__":Str)) = false:=by decide):wpAny (model X.prog X.w) X.A (eval (.Name x pos) X.env) Q E s :=
 tH I.ok.kind hg (Calls.loadGlobal_global (by rw [I.ok.glob];exact I.mod.glob.keeps I.bk) hm h) hd
def oy {E:af->ah->Prop} {pins:List (aq × Obj)} {s:ah} {σ:St} {H:Hp} {x:Str} {u:af} {pos:Pos} {Q:af->ah->Prop} (I:Inv X pins σ H s) (hg:Gl X x) (hm:X.mg x = none) (hv:bootBuiltins x = some u) (h:Q u s)
 (hn:x≠"__name__":=by decide) (hd:(x == ("__debug__":Str)) = false:=by decide):wpAny (model X.prog X.w) X.A (eval (.Name x pos) X.env) Q E s:=by
 obtain ⟨mb,h1,h2⟩:=I.mod.blt;exact tH I.ok.kind hg (Calls.loadGlobal_builtin (by rw [I.ok.glob];exact I.mod.glob.keeps I.bk) hm (by rw [I.ok.blt];exact h1.keeps I.bk) ((h2 x hn).trans hv) h) hd
def Jq (hg:Gl X x) (hm:X.mg x = some u) (r:RelV v u) (hd:(x == ("__debug__":Str)) = false:=by decide):PE X (.Name x pos) (tC v) :=
 λ_ _ _ H _ I h=>jT I hg hm ⟨v,H,I,r,h⟩ hd
def Ba (hg:Gl X x) (hm:X.mg x = none) (hv:bootBuiltins x = some u) (r:RelV v u) (hn:x≠"__name__":=by decide) (hd:(x == ("__debug__":Str)) = false:=by decide):PE X (.Name x pos) (tC v) :=
 λ_ _ _ H _ I h=>oy I hg hm hv ⟨v,H,I,r,h⟩ hn hd
variable {a b:aG} {ta tb:TE} {pos:Pos}
def tB (t:TE):TT:=λσ H Q=>t σ H λx H1=>∃ c,x = .bl c/\Q c H1
def Fv {e:aG} {t:TE} (h:PE X e t) (he:∀ whole,isTrue e X.env whole = (do let v <- whole;standAt e.pos;holding [v] (truthy v)):=by intro _;rfl):PT X e (tB t):=by
 intro pins s σ H Q I hw;refine isTrue_plain (thn (h pins s σ H _ I hw) λv s1 ⟨x,H1,I1,r1,q1⟩=>?_) (he _);obtain ⟨d,rfl,q⟩:=q1;cases r1;exact dF ⟨H1,I1,q⟩
variable {tA tB':TT} {rest:List aG}
def QG (t u:TT):TT:=λσ H Q=>t σ H λc H1=>if c = true then u σ H1 Q else Q false H1
def tOr (t u:TT):TT:=λσ H Q=>t σ H λc H1=>if c = true then Q true H1 else u σ H1 Q
def QA (t:TT):TT:=λσ H Q=>t σ H λc H1=>Q (!c) H1
def Jg (ha:PT X a tA):PW X (.BoolOp .And [a] pos) tA:=by
 intro wh pins s σ H Q I h;refine isTrue_and (thn (ha pins s σ H Q I h) λc s1 e=>?_)
 cases c with
 | true=>exact isTrue_and_nil e
 | false=>exact e
def Ft (ha:PT X a tA):PW X (.BoolOp .Or [a] pos) tA:=by
 intro wh pins s σ H Q I h;refine isTrue_or (thn (ha pins s σ H Q I h) λc s1 e=>?_)
 cases c with
 | false=>exact isTrue_or_nil e
 | true=>exact e
def MD (ha:PT X a tA) (hb:PW X (.BoolOp .And (b::rest) pos) tB'):PW X (.BoolOp .And (a::b::rest) pos) (QG tA tB'):=by
 intro wh pins s σ H Q I h;refine isTrue_and (thn (ha pins s σ H _ I h) λc s1 ⟨H1,I1,q1⟩=>?_)
 cases c with
 | true=>exact hb wh pins s1 σ H1 Q I1 q1
 | false=>exact ⟨H1,I1,q1⟩
def Fu (ha:PT X a tA) (hb:PW X (.BoolOp .Or (b::rest) pos) tB'):PW X (.BoolOp .Or (a::b::rest) pos) (tOr tA tB'):=by
 intro wh pins s σ H Q I h;refine isTrue_or (thn (ha pins s σ H _ I h) λc s1 ⟨H1,I1,q1⟩=>?_)
 cases c with
 | true=>exact ⟨H1,I1,q1⟩
 | false=>exact hb wh pins s1 σ H1 Q I1 q1
def Fw (ha:PT X a tA):PT X (.UnaryOp .Not a pos) (QA tA):=by
 intro pins s σ H Q I h;exact isTrue_not (ha pins s σ H (λc H1=>Q (!c) H1) I h)
def OZ (ta tb:TE):TE:=λσ H Q=>ta σ H λx H1=>∃ c,x = .bl c/\if c = true then tb σ H1 Q else Q (.bl false) H1
def Qz (ta tb:TE):TE:=λσ H Q=>ta σ H λx H1=>∃ c,x = .bl c/\if c = true then Q (.bl true) H1 else tb σ H1 Q
def OU (ta:TE):TE:=λσ H Q=>ta σ H λx H1=>∃ c,x = .bl c/\Q (.bl (!c)) H1
def zM (h:PE X a t):PE X (.BoolOp op [a] pos) t:=λpins s σ H Q I hw=>BoolOp_one (h pins s σ H Q I hw)
def FP (ha:PE X a ta) (hb:PE X (.BoolOp .And (b::rest) pos) tb):PE X (.BoolOp .And (a::b::rest) pos) (OZ ta tb):=by
 intro pins s σ H Q I h;refine BoolOp_and (thn (ha pins s σ H _ I h) λv s1 ⟨x,H1,I1,r1,q1⟩=>?_);obtain ⟨c,rfl,q1⟩:=q1;cases r1;refine dF ?_
 cases c with
 | true=>exact hb pins s1 σ H1 Q I1 q1
 | false=>exact ⟨.bl false,H1,I1,rfl,q1⟩
def KP (ha:PE X a ta) (hb:PE X (.BoolOp .Or (b::rest) pos) tb):PE X (.BoolOp .Or (a::b::rest) pos) (Qz ta tb):=by
 intro pins s σ H Q I h;refine BoolOp_or (thn (ha pins s σ H _ I h) λv s1 ⟨x,H1,I1,r1,q1⟩=>?_);obtain ⟨c,rfl,q1⟩:=q1;cases r1;refine dF ?_
 cases c with
 | false=>exact hb pins s1 σ H1 Q I1 q1
 | true=>exact ⟨.bl true,H1,I1,rfl,q1⟩
def FI (ha:PE X a ta):PE X (.UnaryOp .Not a pos) (OU ta):=by
 intro pins s σ H Q I h;refine UnaryOp_ (thn (ha pins s σ H _ I h) λv s1 ⟨x,H1,I1,r1,q1⟩=>?_);obtain ⟨c,rfl,q1⟩:=q1;cases r1;exact not_of (dF ⟨.bl (!c),H1,I1,rfl,q1⟩)
def tIf (t:TT) (ta tb:TE):TE:=λσ H Q=>t σ H λc H1=>if c = true then ta σ H1 Q else tb σ H1 Q
def FL {c:aG} (hc:PT X c tA) (ha:PE X a ta) (hb:PE X b tb):PE X (.IfExp c a b pos) (tIf tA ta tb):=by
 intro pins s σ H Q I h;refine wpAny_IfExp (thn (hc pins s σ H _ I h) λd s1 ⟨H1,I1,q1⟩=>?_)
 cases d with
 | true=>exact ha pins s1 σ H1 Q I1 q1
 | false=>exact hb pins s1 σ H1 Q I1 q1
end
end L2
namespace L2
open PySem PySem.Spec PyProof.Rows
def SqL (K:PySem.W.Frag) (H:Hp) (a:aq) (xs:List V):Prop :=
 Rd H a (.lst xs) \/
  ∃ (o:Obj) (its:Array af) (n:Nat),K.lookup a = some o/\o.cls = .type "list"/\o.dict = none/\o.data = .seq its n/\its.size<=sizeLine/\Vals xs its.toList
def SqT (K:PySem.W.Frag) (H:Hp) (a:aq) (xs:List V):Prop :=
 Rd H a (.tup xs) \/
  ∃ (o:Obj) (its:Array af) (n:Nat),K.lookup a = some o/\o.cls = .type "tuple"/\o.data = .seq its n/\its.size<=sizeLine/\Vals xs its.toList
def Rf:af->Option V
 | .none=>some .non
 | .bool b=>some (.bl b)
 | .int i _=>some (.int i)
 | .str x _=>some (.str x)
 | .ref a=>some (.ref a)
 | .type n=>some (.ty n)
 | _=>none
def RelV.abs (r:RelV x u):Rf u = some x:=by
 cases x with
 | non=>cases r;rfl
 | bl _=>cases r;rfl
 | int _=>obtain ⟨t,rfl⟩:=r;rfl
 | str _=>obtain ⟨t,rfl⟩:=r;rfl
 | ref _=>cases r;rfl
 | ty _=>cases r;rfl
def RelV.inj {x y:V} {u:af} (r:RelV x u) (q:RelV y u):x = y:=bA (r.abs.symm.trans q.abs)
def Vals.inj:∀ {xs ys:List V} {us:List af},Vals xs us->Vals ys us->xs = ys
 | _,_,_,.nil,.nil=>rfl
 | _,_,_,.cons r t,.cons r' t'=>by rw [r.inj r',Vals.inj t t']
section
variable {X:Cx} {pins:List (aq × Obj)} {σ:St} {H:Hp} {s:ah} {a:aq} {xs ys:List V}
def SqL.of {K:PySem.W.Frag} (h:H a = some (.lst xs)):SqL K H a xs:=.inl (.inl h)
def SqT.of {K:PySem.W.Frag} (h:H a = some (.tup xs)):SqT K H a xs:=.inl (.inl h)
def Inv.list (I:Inv X pins σ H s) (h:SqL X.K H a xs):∃ its:List af,Vals xs its/\PlainL s.heap a its.toArray/\xs.length<=sizeLine:=by
 rcases h with h | ⟨o,its,n,hk,hc,hd,hs,hz,r⟩
 . obtain ⟨z,its,n,r,e⟩:=h.ok I.hok;exact ⟨its,r,⟨_,n,e,rfl,rfl,rfl⟩,z⟩
 . refine ⟨its.toList,r,⟨o,n,I.kIn a o hk,hc,hd,by simpa using hs⟩,?_⟩;have e:=r.length;simp only [bu] at e
   lia
def Inv.tuple (I:Inv X pins σ H s) (h:SqT X.K H a xs):∃ its:List af,Vals xs its/\Ky s.heap a its.toArray/\xs.length<=sizeLine:=by
 rcases h with h | ⟨o,its,n,hk,hc,hs,hz,r⟩
 . obtain ⟨z,its,r,p⟩:=h.ok I.hok;exact ⟨its,r,p,z⟩
 . refine ⟨its.toList,r,⟨o,I.kIn a o hk,hc,n,by simpa using hs⟩,?_⟩;have e:=r.length;simp only [bu] at e
   lia
def Inv.list_inj (I:Inv X pins σ H s) (h:SqL X.K H a xs) (h':SqL X.K H a ys):xs = ys:=by
 obtain ⟨its,r,⟨o,n,e,_,_,d⟩,_⟩:=I.list h;obtain ⟨its',r',⟨o',n',e',_,_,d'⟩,_⟩:=I.list h';rw [e] at e';cases e';rw [d] at d';injection d' with d1 _;have:its = its':=by simpa using congrArg Array.toList d1
 subst this;exact r.inj r'
def Inv.tuple_inj (I:Inv X pins σ H s) (h:SqT X.K H a xs) (h':SqT X.K H a ys):xs = ys:=by
 obtain ⟨its,r,⟨o,e,_,n,d⟩,_⟩:=I.tuple h;obtain ⟨its',r',⟨o',e',_,n',d'⟩,_⟩:=I.tuple h';rw [e] at e';cases e';rw [d] at d';injection d' with d1 _;have:its = its':=by simpa using congrArg Array.toList d1
 subst this;exact r.inj r'
end
abbrev Cx.wish (X:Cx) (E:af->ah->Prop):Cx:={ X with xe:=E }
abbrev Cx.nox (X:Cx):Cx:=X.wish λ_ _=>False
def Cx.Ok.wish {X:Cx} (ok:X.Ok) (E:af->ah->Prop):(X.wish E).Ok :=
 ⟨ok.mod,ok.kind,ok.glob,ok.blt,ok.above,ok.inj,ok.has,ok.cab,ok.hd,ok.frames,ok.stk,ok.exf,ok.bs,ok.bsz,ok.noex,ok.exfs,ok.funs,ok.frf⟩
def Cx.Ok.unwish {X:Cx} {E:af->ah->Prop} (ok:(X.wish E).Ok):X.Ok :=
 ⟨ok.mod,ok.kind,ok.glob,ok.blt,ok.above,ok.inj,ok.has,ok.cab,ok.hd,ok.frames,ok.stk,ok.exf,ok.bs,ok.bsz,ok.noex,ok.exfs,ok.funs,ok.frf⟩
section
variable {X:Cx} {pins:List (aq × Obj)} {σ:St} {H:Hp} {s:ah} {E:af->ah->Prop}
def Inv.wish (I:Inv X pins σ H s) (E:af->ah->Prop):Inv (X.wish E) pins σ H s:=⟨I.ok.wish E,I.os,I.bare,I.base,I.loc,I.cell,I.free,I.freeC,I.pin,I.hok,I.len⟩
def Inv.unwish (I:Inv (X.wish E) pins σ H s):Inv X pins σ H s:=⟨I.ok.unwish,I.os,I.bare,I.base,I.loc,I.cell,I.free,I.freeC,I.pin,I.hok,I.len⟩
def SP.unwish {D:Ends} {f:Flow} {s':ah} (h:SP (X.wish E) pins D f s'):SP X pins D f s':=by
 cases f with
 | next=>obtain ⟨σ',H',I,q⟩:=h;exact ⟨σ',H',I.unwish,q⟩
 | brk=>obtain ⟨σ',H',I,q⟩:=h;exact ⟨σ',H',I.unwish,q⟩
 | cont=>obtain ⟨σ',H',I,q⟩:=h;exact ⟨σ',H',I.unwish,q⟩
 | ret u=>obtain ⟨v,σ',H',I,r,q⟩:=h;exact ⟨v,σ',H',I.unwish,r,q⟩
def PT.nox {e:aG} {t:TT} (h:PT X.nox e t):PT X e t:=λpins s σ H Q I hw =>
 cP (h pins s σ H Q (I.wish _) hw) (λ_ _ ⟨H',I',q⟩=>⟨H',I'.unwish,q⟩) λ_ _ z=>bS z
def PSs.nox {st:List bD} {t:TS} (h:PSs X.nox st t):PSs X st t:=λpins s σ H D I hw =>
 cP (h pins s σ H D (I.wish _) hw) (λ_ _ q=>q.unwish) λ_ _ z=>bS z
end
section
variable {X:Cx} {st:bD} {rest:List bD} {t u:TS} {e:aG} {te:TE} {pos:Pos}
def KG:TS:=λD σ H=>D.nx σ H
def Qx (t u:TS):TS:=λD σ H=>t { D with nx:=u D } σ H
def pT:PSs X [] KG:=λ_ _ σ H _ I h=>jt ⟨σ,H,I,h⟩
def kH (h1:PS X st t) (h2:PSs X rest u):PSs X (st::rest) (Qx t u):=by
 intro pins s σ H D I h;refine wpAny_execs_cons (thn (h1 pins s σ H { D with nx:=u D } I h) λf s1 q=>?_)
 cases f with
 | next =>
   obtain ⟨σ',H',I',q⟩:=q
   exact h2 pins s1 σ' H' D I' q
 | ret v=>exact q
 | brk=>exact q
 | cont=>exact q
def AW (h1:PS X st t):PSs X [st] t:=by
 intro pins s σ H D I h;refine wpAny_execs_cons (thn (h1 pins s σ H D I h) λf s1 q=>?_)
 cases f with
 | next=>exact jt q
 | ret v=>exact q
 | brk=>exact q
 | cont=>exact q
def LZ:TS:=λD σ H=>D.bk σ H
def OX:TS:=λD σ H=>D.ct σ H
def Ql:PS X (.Pass pos) KG:=λ_ _ σ H _ I h=>wpAny_Pass ⟨σ,H,I,h⟩
def Pl:PS X (.Break pos) LZ:=λ_ _ σ H _ I h=>wpAny_Break ⟨σ,H,I,h⟩
def KO:PS X (.Continue pos) OX:=λ_ _ σ H _ I h=>wpAny_Continue ⟨σ,H,I,h⟩
def Inv.quiet {pins:List (aq × Obj)} {σ:St} {H:Hp} {s:ah} (I:Inv X pins σ H s):interactive X.env = false:=by simp [interactive,I.ok.kind]
def OV (te:TE):TS:=λD σ H=>te σ H λ_ H1=>D.nx σ H1
def pU (he:PE X e te) (hs:swapsWith e none pos.line X.env = pure false:=by rfl):PS X (.Expr e pos) (OV te):=by
 intro pins s σ H D I h;exact wpAny_Expr_any (thn (he pins s σ H _ I h) λv s1 ⟨x,H1,I1,r1,q1⟩=>⟨σ,H1,I1,q1⟩) I.quiet hs
def Qy (te:TE):TS:=λD σ H=>te σ H D.rt
def zI (he:PE X e te):PS X (.Return (some e) pos) (Qy te):=by
 intro pins s σ H D I h;exact wpAny_Return_some (thn (he pins s σ H _ I h) λv s1 ⟨x,H1,I1,r1,q1⟩=>⟨x,σ,H1,I1,r1,q1⟩)
def OS:TS:=λD _ H=>D.rt .non H
def Qj:PS X (.Return none pos) OS:=λ_ _ σ H _ I h=>wpAny_Return_none ⟨.non,σ,H,I,rfl,h⟩
def QC (c:TT) (t u:TS):TS:=λD σ H=>c σ H λb H1=>if b = true then t D σ H1 else u D σ H1
def FC {c:aG} {a b:List bD} {tc:TT} (hc:PT X c tc) (ha:PSs X a t) (hb:PSs X b u):PS X (.If c a b pos) (QC tc t u):=by
 intro pins s σ H D I h;refine wpAny_If (thn (hc pins s σ H _ I h) λd s1 ⟨H1,I1,q1⟩=>?_)
 cases d with
 | true=>exact ha pins s1 σ H1 D I1 q1
 | false=>exact hb pins s1 σ H1 D I1 q1
def LY:TS:=λ_ _ _=>False
def Fy:PS X st LY:=λ_ _ _ _ _ _ h=>h.elim
end
abbrev TG:=V->St->Hp->(St->Hp->Prop)->Prop
abbrev TGs:=List V->St->Hp->(St->Hp->Prop)->Prop
def PG (X:Cx) (target:aG) (t:TG):Prop :=
 ∀ (pins:List (aq × Obj)) (s:ah) (σ:St) (H:Hp) (v:V) (u:af) (Q:St->Hp->Prop),Inv X pins σ H s->RelV v u->t v σ H Q ->
  wpAny (model X.prog X.w) X.A (assign target X.env u) (λ_ s'=>∃ σ' H',Inv X pins σ' H' s'/\Q σ' H') X.xe s
def PGs (X:Cx) (ts:List aG) (t:TGs):Prop :=
 ∀ (pins:List (aq × Obj)) (s:ah) (σ:St) (H:Hp) (vs:List V) (us:List af) (Q:St->Hp->Prop),Inv X pins σ H s->Vals vs us->t vs σ H Q ->
  wpAny (model X.prog X.w) X.A (assignInOrder ((assignEach ts X.env).map (·.2)) us) (λ_ s'=>∃ σ' H',Inv X pins σ' H' s'/\Q σ' H') X.xe s
abbrev Ou:=V->V->V->Hp->(Hp->Prop)->Prop
def Qc (X:Cx) (t:Ou):Prop :=
 ∀ (pins:List (aq × Obj)) (s:ah) (σ:St) (H:Hp) (o i v:V) (ov iv u:af) (Q:Hp->Prop),Inv X pins σ H s->RelV o ov->RelV i iv->RelV v u->t o i v H Q ->
  wpAny (model X.prog X.w) X.A (setItem ov iv u) (λ_ s'=>∃ H',Inv X pins σ H' s'/\Q H') X.xe s
abbrev TIp:=V->V->Hp->VK->Prop
def PIp (X:Cx) (op:ic) (t:TIp):Prop :=
 ∀ (pins:List (aq × Obj)) (s:ah) (σ:St) (H:Hp) (x y:V) (v u:af) (Q:VK),Inv X pins σ H s->RelV x v->RelV y u->t x y H Q ->
  wpAny (model X.prog X.w) X.A (inplaceOp op v u) (EP X pins σ Q) X.xe s
section
variable {X:Cx} {pos:Pos}
def uw (i:Nat):TG:=λv σ H Q=>Q (σ.set i (some v)) H
def vA (hN:X.N.Nodup) (hi:X.N[i]? = some x) (hx:Loc X.env.scope x) (hf:X.fn x = true\/X.env.scope.names.lookup x = some .local:=by first | exact .inl rfl | exact .inr rfl | assumption):PG X (.Name x pos) (uw i):=by
 intro pins s σ H v u Q I r h;exact OC (kF I hN hi hx r (λs' I'=>⟨_,H,I',h⟩) hf)
def NN:TGs:=λvs σ H Q=>vs = []/\Q σ H
def BB (t:TG) (u:TGs):TGs:=λvs σ H Q=>∃ v r,vs = v::r/\t v σ H λσ' H'=>u r σ' H' Q
def AY:PGs X [] NN:=by
 intro pins s σ H vs us Q I r h;obtain ⟨e,h⟩:=h;subst e;cases r;exact assignInOrder_nil ⟨σ,H,I,h⟩
def qV {e:aG} {es:List aG} {t:TG} {u:TGs} (h1:PG X e t) (h2:PGs X es u)
 (hs:(assignEach (e::es) X.env).map (·.2) = assign e X.env::(assignEach es X.env).map (·.2):=by rfl):PGs X (e::es) (BB t u):=by
 intro pins s σ H vs us Q I r h;obtain ⟨v,vr,e1,h⟩:=h;subst e1
 cases r with
 | cons r rr =>
   rw [hs];refine assignInOrder_cons (thn (h1 pins s σ H _ _ _ I r h) λ_ s1 ⟨σ1,H1,I1,q1⟩=>?_);exact h2 pins s1 σ1 H1 _ _ Q I1 rr q1
def QX (K:PySem.W.Frag) (n:Nat) (t:TGs):TG:=λv σ H Q=>∃ a xs,v = .ref a/\SqT K H a xs/\xs.length = n/\t xs σ H Q
def ML (hc:X.calm = true) (h:PGs X es t)
 (hn:(assignEach es X.env).length = n:=by rfl) (hst:(assignEach es X.env).findIdx? (·.1) = none:=by rfl):PG X (.Tuple es k pos) (QX X.K n t):=by
 intro pins s σ H v u Q I r hw;obtain ⟨a,xs,e1,hq,hl,hw⟩:=hw;subst e1;cases r;obtain ⟨its,rv,ht,hz⟩:=I.tuple hq;refine assign_Tuple_tuple (I.ok.hd hc) ht (by simp [hn,<- hl,rv.length]) hst λh' hx=>?_;have I1:Inv X pins σ H { s with heap:=h' }:=I.kept (t':=s.toks) λb o e=>hx b o (aH (az e)) e;exact h pins _ σ H xs _ Q I1 (by simpa using rv) hw
def QY (to ti:TE) (t:Ou):TG:=λv σ H Q=>to σ H λo H1=>ti σ H1 λi H2=>t o i v H2 λH3=>Q σ H3
def MM {o i:aG} {to ti:TE} {t:Ou} (ho:PE X o to) (hi:PE X i ti) (hs:Qc X t)
 (ha:∀ v,assign (.Subscript o i pos) X.env v = (do
   let ov <- holding [v] (eval o X.env)
   let iv <- holding [v,ov] (eval i X.env)
   standAt pos
   holding [v,ov,iv] (setItem ov iv v)
   release [v,ov,iv] []):=by intro _;rfl):PG X (.Subscript o i pos) (QY to ti t):=by
 intro pins s σ H v u Q I r h;rw [ha];refine ae (cc (thn (ho pins s σ H _ I h) λov s1 ⟨x,H1,I1,r1,q1⟩=>?_));refine ae (cc (thn (hi pins s1 σ H1 _ I1 q1) λiv s2 ⟨y,H2,I2,r2,q2⟩=>?_));refine ae (kZ (ae (cc (thn (hs pins s2 σ H2 x y v ov iv u _ I2 r1 r2 r q2) λ_ s3 ⟨H3,I3,q3⟩=>?_))));exact wpAny_release ⟨σ,H3,I3,q3⟩
def Iv (te:TE) (g:TG):TS:=λD σ H=>te σ H λx H1=>g x σ H1 D.nx
def FE {tg e:aG} {te:TE} {g:TG} (he:PE X e te) (hg:PG X tg g) (hs:swapsWithSole [tg] e pos.line X.env = pure false:=by rfl) (hw:swappedStores [tg] e X.env = pure none:=by rfl)
 (h1:(assignEach [tg] X.env).map (·.2) = [assign tg X.env]:=by rfl):PS X (.Assign [tg] e pos) (Iv te g):=by
 intro pins s σ H D I h;refine wpAny_Assign_stores (thn (he pins s σ H _ I h) λv s1 ⟨x,H1,I1,r1,q1⟩=>?_) hs hw;rw [h1];exact thn (hg pins s1 σ H1 x v _ I1 r1 q1) λ_ s2 q=>q
def vx {i:Nat} {x:Str} {e:aG} {te:TE} {pos':Pos} (hN:X.N.Nodup) (hi:X.N[i]? = some x) (hx:Loc X.env.scope x) (he:PE X e te) (hs:swapsWith e (some (.Name x pos')) pos.line X.env = pure false:=by rfl) (hf:X.fn x = true\/X.env.scope.names.lookup x = some .local:=by first | exact .inl rfl | exact .inr rfl | assumption) :
 PS X (.Assign [.Name x pos'] e pos) (Iv te (uw i)):=by
 intro pins s σ H D I h;refine wpAny_Assign_Name (thn (he pins s σ H _ I h) λv s1 ⟨y,H1,I1,r1,q1⟩=>?_) hs;exact kF I1 hN hi hx r1 (λs2 I2=>⟨_,H1,I2,q1⟩) hf
def QF (i:Nat) (te:TE) (ti:TIp):TS:=λD σ H=>∃ x,σ[i]? = some (some x)/\te σ H λy H1=>ti x y H1 λz H2=>D.nx (σ.set i (some z)) H2
def MH {i:Nat} {x:Str} {e:aG} {te:TE} {op:ic} {ti:TIp} {pos':Pos} (hN:X.N.Nodup) (hi:X.N[i]? = some x) (hx:Loc X.env.scope x) (he:PE X e te) (ho:PIp X op ti) (hf:X.fn x = true\/X.env.scope.names.lookup x = some .local:=by first | exact .inl rfl | exact .inr rfl | assumption) :
 PS X (.AugAssign (.Name x pos') op e pos) (QF i te ti):=by
 intro pins s σ H D I h;obtain ⟨v,e1,h⟩:=h;obtain ⟨m,hn,hl⟩:=I.loc;have vis:Vis X.env.scope x:=by rcases hx with k | k;exact .inl k;exact .inr (.inl k)
 obtain ⟨u,r,l⟩:=hl i x v hi e1 vis;refine wpAny_AugAssign_Name ?_
 have go:wpAny (model X.prog X.w) X.A (eval e X.env) (λw s₂=>wpAny (model X.prog X.w) X.A (inplaceOp op u w) (λr s₃=>wpAny (model X.prog X.w) X.A (storeName X.env x r) (λ_=>SP X pins D .next) X.xe s₃) X.xe s₂) X.xe s:=by
  refine thn (he pins s σ H _ I h) λw s1 zz=>?_;obtain ⟨y,H1,I1,r1,q1⟩:=zz;refine thn (ho pins s1 σ H1 v y u w _ I1 r r1 q1) λz s2 zz=>?_;obtain ⟨zv,H2,I2,r2,q2⟩:=zz;exact kF I2 hN hi hx r2 (λs3 I3=>⟨_,H2,I3,q2⟩) hf
 rcases l with ⟨hk,hm⟩ | ⟨hk,c,hc,hcell⟩
 . exact Kr I.ok.kind hk hn hm go
 . rcases hk with hk | hk
   . exact Lm I.ok.kind hk hc hcell go
   . rcases hx with k | k
     . have:X.env.scope.names.lookup x = some .free:=hk;rw [k] at this;cases this
     . have:X.env.scope.names.lookup x = some .free:=hk;rw [k] at this;cases this
def ipI (f:Int->Int->Int):TIp:=λx y H Q=>∃ i j,x = .int i/\y = .int j/\Q (.int (f i j)) H
def NM:PIp X .Add (ipI λi j=>i+j):=by
 intro pins s σ H x y v u Q I r1 r2 h;obtain ⟨i,j,e1,e2,q⟩:=h;subst e1;subst e2;obtain ⟨t,rfl⟩:=r1;obtain ⟨t',rfl⟩:=r2;exact iadd_int ⟨.int _,H,I.tok _,⟨_,rfl⟩,q⟩
def QU:PIp X .Sub (ipI λi j=>i - j):=by
 intro pins s σ H x y v u Q I r1 r2 h;obtain ⟨i,j,e1,e2,q⟩:=h;subst e1;subst e2;obtain ⟨t,rfl⟩:=r1;obtain ⟨t',rfl⟩:=r2;exact isub_int ⟨.int _,H,I.tok _,⟨_,rfl⟩,q⟩
end
section
variable {X:Cx} {pos:Pos}
def LX (c:TT) (tb:TS):TS:=λD σ H=>∃ W:Nat->St->Hp->Prop,(∃ m,W m σ H)/\∀ m σ H,W m σ H ->
 c σ H λb H1=>if b = true then ∃ N:St->Hp->Prop,(∀ σ' H',N σ' H'->∃ m',m' < m/\W m' σ' H')/\tb { D with nx:=N,ct:=N,bk:=D.nx } σ H1 else D.nx σ H1
def xK {c:aG} {body:List bD} {tc:TT} {tb:TS} (hp:pA (model X.prog X.w) X.A X.env X.xe) (hc:PT X c tc) (hb:PSs X body tb):PS X (.While c body [] pos) (LX tc tb):=by
 intro pins s σ H D I h;obtain ⟨W,⟨m0,w0⟩,turn⟩:=h;refine wpAny_While (codeAny_whileLoop (λn s'=>∃ σ' H',Inv X pins σ' H' s'/\W n σ' H') ?_ m0 ⟨σ,H,I,w0⟩);rintro n s1 ⟨σ1,H1,I1,w1⟩;refine fE hp (thn (hc pins s1 σ1 H1 _ I1 (turn n σ1 H1 w1)) λb s2 ⟨H2,I2,q2⟩=>?_)
 cases b with
 | true =>
   obtain ⟨N,hN,q2⟩:=q2;rw [if_pos rfl];refine fE hp (thn (hb pins s2 σ1 H2 _ I2 q2) λf s3 q3=>?_)
   cases f with
   | next =>
     obtain ⟨σ3,H3,I3,n3⟩:=q3;obtain ⟨m',hm,w3⟩:=hN σ3 H3 n3
     exact ⟨m',hm,σ3,H3,I3,w3⟩
   | cont =>
     obtain ⟨σ3,H3,I3,n3⟩:=q3;obtain ⟨m',hm,w3⟩:=hN σ3 H3 n3
     exact ⟨m',hm,σ3,H3,I3,w3⟩
   | brk=>exact q3
   | ret v=>exact q3
 | false =>
   rw [if_neg ao];exact jt ⟨σ1,H2,I2,q2⟩
end
structure It where
 go:Nat->Hp->Prop
 yld:Nat->Hp->V->Hp->Prop
 stop:Nat->Hp->Prop
def kx (X:Cx) (pins:List (aq × Obj)) (H:Hp) (b:aq):Prop :=
 H b = none/\b≠X.env.locals/\b∉X.fs/\(b∈X.ex\/X.s₀.heap.objs.size<=b)/\(∀ x c,X.env.cells.lookup x = some c->c≠b)/\∀ p∈X.pn++pins,p.1≠b
def Inv.fpOk (I:Inv X pins σ H s) (hb:s.heap.objs.size<=b) (hn:H' b = none):kx X pins H' b:=by
 refine ⟨hn,eY (aY I.lt hb),I.nofs hb,.inr (bF I.sz hb),λx c e z=>?_,λp hp z=>?_⟩
 . obtain ⟨v,q⟩:=I.cell x c e;exact absurd (aY q.lt (by rw [z];exact hb)) (cy _)
 . exact absurd (aY (az (I.pin p hp).1) (by rw [z];exact hb)) (cy _)
structure Turn (P:aO) (w:aZ) (K:PySem.W.Frag) (tg:aG) (J:It) (fp:List aq) (it:aq) (tn:Nat->bG->Prop):Prop where
 mem:it∈fp
 obj:∀ i h,tn i h->∀ b∈fp,∃ o,h.get? b = some o/\∀ v,o.data≠.cell v
 keep:∀ i h h',tn i h->(∀ b∈fp,∀ o,h.get? b = some o->h'.get? b = some o)->tn i h'
 item:∀ (X:Cx),X.prog = P->X.w = w->X.K = K->X.calm = true->∀ (i:Nat) (pins:List (aq × Obj)) (s:ah) (σ:St) (H:Hp) (E:af->ah->Prop),Inv X pins σ H s->(∀ b∈fp,kx X pins H b)->tn i s.heap->J.go i H ->
  wpAny (model P w) X.A (pyNext (.ref it)) (λr s1=>∃ u,r = some u /\
   wpAny (model P w) X.A (letOwnedTupleGo tg (.ref it) u) (λ_ s2=>∃ x H',Inv X pins σ H' s2/\RelV x u/\J.yld i H x H'/\tn (i+1) s2.heap/\∀ b∈fp,H' b = none) E s1) E s
 done:∀ (X:Cx),X.prog = P->X.w = w->X.K = K->X.calm = true->∀ (i:Nat) (pins:List (aq × Obj)) (s:ah) (σ:St) (H:Hp) (E:af->ah->Prop),Inv X pins σ H s->(∀ b∈fp,kx X pins H b)->tn i s.heap->J.stop i H ->
  wpAny (model P w) X.A (pyNext (.ref it)) (λr s1=>r = none/\Inv X pins σ H s1) E s
 self:∀ (A:aR) (i:Nat) (s:ah) (Q:af->ah->Prop) (E:af->ah->Prop),tn i s.heap->Q (.ref it) s->wpAny (model P w) A (pyIter (.ref it)) Q E s
abbrev TI:=St->Hp->(It->Hp->Prop)->Prop
def PIE (X:Cx) (pins:List (aq × Obj)) (σ:St) (tg:aG) (R:It->Hp->Prop) (itv:af) (s2:ah):Prop :=
 ∃ (it:aq) (fp:List aq) (tn:Nat->bG->Prop) (J:It) (H':Hp),itv = .ref it/\Inv X pins σ H' s2/\Turn X.prog X.w X.K tg J fp it tn/\tn 0 s2.heap/\(∀ b∈fp,kx X pins H' b)/\R J H'
def PI (X:Cx) (tg iter:aG) (wi:TI):Prop :=
 ∀ (pins:List (aq × Obj)) (s:ah) (σ:St) (H:Hp) (R:It->Hp->Prop),Inv X pins σ H s->wi σ H R ->
  wpAny (model X.prog X.w) X.A (eval iter X.env) (λv s1=>wpAny (model X.prog X.w) X.A (pyIter v) (PIE X pins σ tg R) X.xe s1) X.xe s
def Bz (ho:s.heap.get? it = some o) (hc:o.cls = .type n) (hd:o.data = .fields vs)
 (hn:["enumerate","zip","dict_itemiterator","dict_reverseitemiterator","odict_iterator","itertools.zip_longest","itertools.pairwise"].contains n = false) (hQ:Q () s):wpAny M A (letOwnedTupleGo tg (.ref it) u) Q E s:=by
 unfold letOwnedTupleGo
 cases tg<;>first
  | exact ak hQ
  | (cases u<;>first
      | exact ak hQ
      | (refine ae (wpAny_load ho ?_)
         rw [hc,hd];show wpAny M A (if (["enumerate","zip","dict_itemiterator","dict_reverseitemiterator","odict_iterator","itertools.zip_longest","itertools.pairwise"].contains n && vs[0]? == some (rawInt _)) = true then _ else _) Q E s;rw [if_neg (by intro h;rw [hn,Bool.false_and] at h;cases h)];exact ak hQ))
def Itl (K:PySem.W.Frag) (a:aq):It :=
 ⟨λi H=>∃ xs x,SqL K H a xs/\xs[i]? = some x,λi H x H'=>H' = H/\∀ xs,SqL K H a xs->xs[i]? = some x,λi H=>∃ xs,SqL K H a xs/\xs.length<=i⟩
def Itt (K:PySem.W.Frag) (a:aq):It :=
 ⟨λi H=>∃ xs x,SqT K H a xs/\xs[i]? = some x,λi H x H'=>H' = H/\∀ xs,SqT K H a xs->xs[i]? = some x,λi H=>∃ xs,SqT K H a xs/\xs.length<=i⟩
def Itr (lo:Int) (n:Nat):It:=⟨λi _=>i < n,λi H x H'=>H' = H/\x = .int (lo+i),λi _=>n<=i⟩
def Cz {P:aO} {w:aZ} {K:PySem.W.Frag} {tg:aG} (a it:aq):Turn P w K tg (Itl K a) [it] it (λi h=>h.IsListIter it a i) where
 mem:=by simp
 obj:=λi h st b hb=>by
  have e:b = it:=by simpa using hb
  subst e;obtain ⟨o,e,c,d⟩:=st;exact ⟨o,e,λv z=>by rw [d] at z;cases z⟩
 keep:=λi h h' st k=>st.at λo e=>k it ↥0 o e
 item:=by
  intro X hP hw hK hc i pins s σ H E I hf st hg;subst hP hw hK;obtain ⟨xs,x,hq,hx⟩:=hg;obtain ⟨its,rv,p,hz⟩:=I.list hq;obtain ⟨u,hu,ru⟩:=rv.get hx;obtain ⟨f0,f1,f2,f3,f4,f5⟩:=hf it ↥0;refine wpAny_pyNext_list_item st p.isList (x:=u) (by simpa using hu) λh' st' sb=>?_;have I1:Inv X pins σ H { s with heap:=h' }:=I.turned (t':=s.toks) (λb o hb e=>(sb.2 b hb).trans e) f0 f1 f3 f4 f5;obtain ⟨o,e,c,d⟩:=id st';exact ⟨u,rfl,Bz (s:={ s with heap:=h' }) e c d ⇑0 ⟨x,H,I1,ru,⟨rfl,λys hy=>by rw [I.list_inj hy hq];exact hx⟩,st',λb hb=>(hf b hb).1⟩⟩
 done:=by
  intro X hP hw hK hc i pins s σ H E I hf st hg;subst hP hw hK;obtain ⟨xs,hq,hx⟩:=hg;obtain ⟨its,rv,p,hz⟩:=I.list hq;obtain ⟨f0,f1,f2,f3,f4,f5⟩:=hf it ↥0;have hl:=rv.length;exact wpAny_pyNext_list_end (I.ok.hd hc) st p.isList (by simp;lia) λh' eb=>⟨rfl,I.turned (t':=s.toks) (λb o hb e=>eb b o hb e) f0 f1 f3 f4 f5⟩
 self:=λ_ _ _ _ _ st h=>wpAny_pyIter_listiter st h
def zo {P:aO} {w:aZ} {K:PySem.W.Frag} {tg:aG} (a it:aq):Turn P w K tg (Itt K a) [it] it (λi h=>h.IsTupleIter it a i) where
 mem:=by simp
 obj:=λi h st b hb=>by
  have e:b = it:=by simpa using hb
  subst e;obtain ⟨o,e,c,d⟩:=st;exact ⟨o,e,λv z=>by rw [d] at z;cases z⟩
 keep:=λi h h' st k=>st.at λo e=>k it ↥0 o e
 item:=by
  intro X hP hw hK hc i pins s σ H E I hf st hg;subst hP hw hK;obtain ⟨xs,x,hq,hx⟩:=hg;obtain ⟨its,rv,p,hz⟩:=I.tuple hq;obtain ⟨u,hu,ru⟩:=rv.get hx;obtain ⟨f0,f1,f2,f3,f4,f5⟩:=hf it ↥0;refine wpAny_pyNext_tuple_item st (show s.heap.IsTuple a its.toArray from p) (x:=u) (by simpa using hu) λh' st' sb=>?_;have I1:Inv X pins σ H { s with heap:=h' }:=I.turned (t':=s.toks) (λb o hb e=>(sb.2 b hb).trans e) f0 f1 f3 f4 f5;obtain ⟨o,e,c,d⟩:=id st';exact ⟨u,rfl,Bz (s:={ s with heap:=h' }) e c d ⇑0 ⟨x,H,I1,ru,⟨rfl,λys hy=>by rw [I.tuple_inj hy hq];exact hx⟩,st',λb hb=>(hf b hb).1⟩⟩
 done:=by
  intro X hP hw hK hc i pins s σ H E I hf st hg;subst hP hw hK;obtain ⟨xs,hq,hx⟩:=hg;obtain ⟨its,rv,p,hz⟩:=I.tuple hq;obtain ⟨f0,f1,f2,f3,f4,f5⟩:=hf it ↥0;have hl:=rv.length;exact wpAny_pyNext_tuple_end (I.ok.hd hc) st (show s.heap.IsTuple a its.toArray from p) (by simp;lia) λh' eb=>⟨rfl,I.turned (t':=s.toks) (λb o hb e=>eb b o hb e) f0 f1 f3 f4 f5⟩
 self:=λ_ _ _ _ _ st h=>wpAny_pyIter_tupleiter st h
def zq {P:aO} {w:aZ} {K:PySem.W.Frag} {tg:aG} (it:aq) (lo:Int) (n:Nat):Turn P w K tg (Itr lo n) [it] it (λi h=>IsRangeIter h it (lo+(i:Nat) * 1) ((n:Int) - (i:Nat)) 1) where
 mem:=by simp
 obj:=λi h st b hb=>by
  have e:b = it:=by simpa using hb
  subst e
  exact ⟨_,st,λv z=>by
   have z':Data.fields _ = Data.cell v:=z;cases z'⟩
 keep:=λi h h' st k=>k it ↥0 _ st
 item:=by
  intro X hP hw hK hc i pins s σ H E I hf st hg;subst hP hw hK;obtain ⟨f0,f1,f2,f3,f4,f5⟩:=hf it ↥0;have W:=Walks.range (prog:=X.prog) (w:=X.w) (I.ok.hd hc) it lo 1 n;refine W.item i s _ _ hg st λv h' tk hv st' kk=>?_;obtain ⟨t,rfl⟩:=hv;have I1:Inv X pins σ H { s with heap:=h',toks:=tk }:=I.turned (λb o hb e=>kk b o (by simpa using hb) e) f0 f1 f3 f4 f5;refine ⟨_,rfl,Bz (s:={ s with heap:=h',toks:=tk }) (n:="range_iterator") st' rfl rfl ⇑0 ⟨.int (lo+i),H,I1,⟨t,?_⟩,⟨rfl,rfl⟩,st',λb hb=>(hf b hb).1⟩⟩;rw [Int.mul_one]
 done:=by
  intro X hP hw hK hc i pins s σ H E I hf st hg;subst hP hw hK;obtain ⟨f0,f1,f2,f3,f4,f5⟩:=hf it ↥0;exact wpAny_pyNext_range_end (I.ok.hd hc) st (by have:n<=i:=hg;lia) λh' eb=>⟨rfl,I.turned (t':=s.toks) (λb o hb e=>eb b o hb e) f0 f1 f3 f4 f5⟩
 self:=λ_ _ _ _ _ st h=>wpAny_pyIter_rangeiter st h
end L2
namespace L2
open PySem PySem.Spec PyProof.Rows
section
variable {X:Cx} {tg:aG}
def Fm {pins:List (aq × Obj)} {σ:St} {H:Hp} {s:ah} {R:It->Hp->Prop} {E:af->ah->Prop} {lo hi:Int} {t u v:Tok} {tk:Nat} (I:Inv X pins σ H s) (h1:-(2 ^ 62)<=lo) (h2:lo < 2 ^ 62) (h3:-(2 ^ 62)<=hi) (h4:hi < 2 ^ 62)
 (q:R (Itr lo (hi - lo).toNat) H):wpAny (model X.prog X.w) X.A (pyIter (.ref s.heap.objs.size)) (PIE X pins σ tg R) E { s with heap:=s.heap.push { cls:=.type "range",data:=.fields #[.int lo t,.int hi u,.int 1 v] },toks:=tk }:=by
 refine wpAny_pyIter_range (IsRange.new ..) (small_one h1 h2 h3 h4) ?_;have I1:Inv X pins σ H { s with heap:=s.heap.push { cls:=.type "range",data:=.fields #[.int lo t,.int hi u,.int 1 v] },toks:=tk }:=I.kept λb o e=>ai _ e
 refine ⟨(s.heap.push { cls:=.type "range",data:=.fields #[.int lo t,.int hi u,.int 1 v] }).objs.size,[(s.heap.push { cls:=.type "range",data:=.fields #[.int lo t,.int hi u,.int 1 v] }).objs.size],_,_,H,rfl,
  I1.kept (t':=tk) λb o e=>ai _ e,zq _ lo (hi - lo).toNat,?_,λb hb=>?_,q⟩
 . have e1:lo+((0:Nat):Int) * 1 = lo:=by simp
   have e2:(((hi - lo).toNat:Nat):Int) - ((0:Nat):Int) = Builtin.Range.rangeSize lo hi 1:=by rw [rangeSize_one];split<;>lia
   show IsRangeIter _ _ (lo+((0:Nat):Int) * 1) ((((hi - lo).toNat:Nat):Int) - ((0:Nat):Int)) 1;rw [e1,e2];exact aE _ rfl
 . have e:b = (s.heap.push { cls:=.type "range",data:=.fields #[.int lo t,.int hi u,.int 1 v] }).objs.size:=by simpa using hb
   subst e;exact I1.fpOk (aw _) (I1.hok.fresh (aw _))
def PN (ta:TA):TI:=λσ H R=>ta σ H λvs H1=>∃ j:Int,vs = [.int j]/\-(2 ^ 62)<=j/\j < 2 ^ 62/\R (Itr 0 j.toNat) H1
def CO {a:aG} {ta:TA} {p pos:Pos} (hg:Gl X "range") (hm:X.mg "range" = none) (ha:PA X [a] ta) (hs:starEach [a] X.env = [(false,eval a X.env)]:=by rfl):PI X tg (.Call (.Name "range" p) [a] [] pos) (PN ta):=by
 intro pins s σ H R I h;refine Call_ (oy I hg hm boot_range (gU (thn (ha pos pins s σ H _ I h) λus s1 ⟨vs,H1,I1,r1,q1⟩=>?_) hs rfl));obtain ⟨j,e,q1,q2,q⟩:=q1;subst e
 cases r1 with
 | cons r rr =>
   cases rr;obtain ⟨t,rfl⟩:=r;exact call_range_1 (Fm I1 ∅ ∅ q1 q2 (by simpa using q))
def QD (wi:TI) (g:TG) (tb:TS):TS:=λD σ H=>wi σ H λJ H1=>∃ W:Nat->Nat->St->Hp->Prop,(∃ m,W 0 m σ H1)/\∀ i m σ H,W i m σ H ->
 (J.stop i H/\D.nx σ H)\/(J.go i H/\∃ N:St->Hp->Prop,(∀ σ' H',N σ' H'->∃ m',m' < m/\W (i+1) m' σ' H')/\∀ x H',J.yld i H x H'->g x σ H' λσ2 H2=>tb { D with nx:=N,ct:=N,bk:=D.nx } σ2 H2)
def qU (fp:List aq) (h:bG):List (aq × Obj):=fp.filterMap λb=>(h.get? b).map λo=>(b,o)
def jS (hb:b∈fp) (e:h.get? b = some o):(b,o)∈qU fp h:=nV.mpr ⟨b,hb,by rw [e];rfl⟩
def CW (hp:p∈qU fp h):p.1∈fp/\h.get? p.1 = some p.2:=by
 obtain ⟨b,hb,e⟩:=nV.mp hp
 cases q:h.get? b with
 | none=>rw [q] at e;cases e
 | some o =>
   rw [q] at e;have e':(b,o) = p:=bA e;subst e';exact ⟨hb,q⟩
def Inv.pinned (I:Inv X pins σ H s) (hf:∀ b∈fp,kx X pins H b) (ho:∀ b∈fp,∃ o,s.heap.get? b = some o/\∀ v,o.data≠.cell v):Inv X (pins++qU fp s.heap) σ H s :=
 I.pins_of λp hp=>(bb.mp hp).elim (λz=>I.pin p (aQ _ z)) λz=>by
  obtain ⟨hb,e⟩:=CW z;obtain ⟨f0,f1,f2,_⟩:=hf p.1 hb;obtain ⟨o,e',d⟩:=ho p.1 hb;rw [e] at e';cases e';exact ⟨e,f0,f1,f2,d⟩
def Inv.unpinned (I:Inv X (pins++pl) σ H s):Inv X pins σ H s:=I.pins_of λp hp=>I.pin p (aQ _ (aF _ hp))
def MG (hp:pA (model X.prog X.w) X.A X.env X.xe) (hc:X.calm = true) (hi:PI X tg iter wi) (hg:PG X tg g) (hb:PSs X body tb)
 (hs:∀ x,foldedSetIterable iter X.env x = pure x:=by intro _;rfl):PS X (.For tg iter body [] pos) (QD wi g tb):=by
 intro pins s σ H D I h;refine wpAny_For (thn (hi pins s σ H _ I h) λv s1 h1=>thn h1 λitv s2 h2=>?_) hs;obtain ⟨it,fp,tn,J,H2,e,I2,T,st2,f2,W,⟨m0,w0⟩,turn⟩:=h2;subst e
 -- what stays true of the iterator's objects through the loop
 have stat:∀ {H':Hp},(∀ b∈fp,H' b = none)->∀ b∈fp,kx X pins H' b:=λhn b hb=>⟨hn b hb,(f2 b hb).2⟩;refine codeAny_forLoop_any (λn s'=>∃ i σ' H',Inv X pins σ' H' s'/\tn i s'.heap/\(∀ b∈fp,H' b = none)/\W i n σ' H') ?_ m0 ⟨0,σ,H2,I2,st2,λb hb=>(f2 b hb).1,w0⟩;rintro n s3 ⟨i,σ3,H3,I3,st3,fr3,w3⟩;rcases turn i n σ3 H3 w3 with ⟨stop,qn⟩ | ⟨go,N,hN,step⟩
 . refine fE hp (thn (T.done X rfl rfl rfl hc i pins s3 σ3 H3 X.xe I3 (stat fr3) st3 stop) λr s4 ⟨hr,I4⟩=>?_);subst hr;exact jt ⟨σ3,H3,I4,qn⟩
 . refine fE hp (thn (T.item X rfl rfl rfl hc i pins s3 σ3 H3 X.xe I3 (stat fr3) st3 go) λr s4 ⟨u,hr,h4⟩=>?_);subst hr;refine fE hp (thn h4 λ_ s5 ⟨x,H5,I5,r5,y5,st5,fr5⟩=>?_);have I5':=I5.pinned (stat fr5) (T.obj _ _ st5);refine fE hp (thn (hg _ s5 σ3 H5 x u _ I5' r5 (step x H5 y5)) λ_ s6 ⟨σ6,H6,I6,q6⟩=>?_);refine fE hp (thn (hb _ s6 σ6 H6 _ I6 q6) λf s7 q7=>?_)
   have again:∀ {σ7:St} {H7:Hp},Inv X (pins++qU fp s5.heap) σ7 H7 s7->N σ7 H7->∃ m,m < n/\∃ i σ' H',Inv X pins σ' H' s7/\tn i s7.heap/\(∀ b∈fp,H' b = none)/\W i m σ' H':=λ{σ7 H7} I7 n7=>by
    obtain ⟨m',hm,w7⟩:=hN σ7 H7 n7;refine ⟨m',hm,i+1,σ7,H7,I7.unpinned,T.keep _ _ _ st5 λb hb o e=>(I7.pin (b,o) (aQ _ (aQ _ (jS hb e)))).1,λb hb=>?_,w7⟩;obtain ⟨o,e,d⟩:=T.obj _ _ st5 b hb;exact (I7.pin (b,o) (aQ _ (aQ _ (jS hb e)))).2.1
   cases f with
   | next=>obtain ⟨σ7,H7,I7,n7⟩:=q7;exact again I7 n7
   | cont=>obtain ⟨σ7,H7,I7,n7⟩:=q7;exact again I7 n7
   | brk=>obtain ⟨σ7,H7,I7,q7⟩:=q7;exact ⟨σ7,H7,I7.unpinned,q7⟩
   | ret v=>obtain ⟨x7,σ7,H7,I7,r7,q7⟩:=q7;exact ⟨x7,σ7,H7,I7.unpinned,r7,q7⟩
end
end L2
namespace L2
open PySem PySem.Spec PyProof.Rows
abbrev R2:=V->V->Hp->VK->Prop
def OpR (X:Cx) (f:af->af->Sem af) (r:R2):Prop :=
 ∀ (pins:List (aq × Obj)) (s:ah) (σ:St) (H:Hp) (x y:V) (v u:af) (Q:VK),Inv X pins σ H s->RelV x v->RelV y u->r x y H Q ->
  wpAny (model X.prog X.w) X.A (f v u) (EP X pins σ Q) X.xe s
def UnR (X:Cx) (f:af->Sem af) (r:V->Hp->VK->Prop):Prop :=
 ∀ (pins:List (aq × Obj)) (s:ah) (σ:St) (H:Hp) (x:V) (v:af) (Q:VK),Inv X pins σ H s->RelV x v->r x H Q ->
  wpAny (model X.prog X.w) X.A (f v) (EP X pins σ Q) X.xe s
def cE (X:Cx) (f:af) (r:List V->Hp->VK->Prop):Prop :=
 ∀ (pins:List (aq × Obj)) (s:ah) (σ:St) (H:Hp) (xs:List V) (us:List af) (Q:VK),Inv X pins σ H s->Vals xs us->r xs H Q ->
  wpAny (model X.prog X.w) X.A (call f us) (EP X pins σ Q) X.xe s
def Rg (X:Cx) (r:V->Hp->(Bool->Hp->Prop)->Prop):Prop :=
 ∀ (pins:List (aq × Obj)) (s:ah) (σ:St) (H:Hp) (x:V) (v:af) (Q:Bool->Hp->Prop),Inv X pins σ H s->RelV x v->r x H Q ->
  wpAny (model X.prog X.w) X.A (truthy v) (TP X pins σ Q) X.xe s
def tOp (r:R2) (ta tb:TE):TE:=λσ H Q=>ta σ H λx H1=>tb σ H1 λy H2=>r x y H2 Q
def tUn (r:V->Hp->VK->Prop) (ta:TE):TE:=λσ H Q=>ta σ H λx H1=>r x H1 Q
def rI (C:Int->Int->Prop) (g:Int->Int->V):R2:=λx y H Q=>∃ i j,x = .int i/\y = .int j/\C i j/\Q (g i j) H
def rI0 (g:Int->Int->V):R2:=λx y H Q=>∃ i j,x = .int i/\y = .int j/\Q (g i j) H
def rU (g:Int->V):V->Hp->VK->Prop:=λx H Q=>∃ i,x = .int i/\Q (g i) H
section
variable {X:Cx} {a b c:aG} {ta tb tc:TE} {pos:Pos}
def Oi (ha:PE X a ta) (hb:PE X b tb) {pins:List (aq × Obj)} {s:ah} {σ:St} {H:Hp} {R:V->V->Hp->Prop} (I:Inv X pins σ H s)
 (h:ta σ H λx H1=>tb σ H1 λy H2=>R x y H2) {Q:af->ah->Prop} {f:af->af->Sem af}
 (hf:∀ v u s2 x y H2,Inv X pins σ H2 s2->RelV x v->RelV y u->R x y H2->wpAny (model X.prog X.w) X.A (f v u) Q X.xe s2) :
 wpAny (model X.prog X.w) X.A (eval a X.env) (λv s₁=>wpAny (model X.prog X.w) X.A (eval b X.env) (λu s₂=>wpAny (model X.prog X.w) X.A (f v u) Q X.xe s₂) X.xe s₁) X.xe s:=by
 refine thn (ha pins s σ H _ I h) λv s1 zz=>?_;obtain ⟨x,H1,I1,r1,q1⟩:=zz;refine thn (hb pins s1 σ H1 _ I1 q1) λu s2 zz=>?_;obtain ⟨y,H2,I2,r2,q2⟩:=zz;exact hf v u s2 x y H2 I2 r1 r2 q2
def xP {op:ic} {r:R2} (ho:OpR X (binaryOp op) r) (ha:PE X a ta) (hb:PE X b tb):PE X (.BinOp a op b pos) (tOp r ta tb):=by
 intro pins s σ H Q I h;exact wpAny_BinOp (Oi ha hb I h λv u s2 x y H2 I2 rx ry q=>ho pins s2 σ H2 x y v u Q I2 rx ry q)
def Pm (ho:UnR X (unaryOp op) r) (ha:PE X a ta):PE X (.UnaryOp op a pos) (tUn r ta):=by
 intro pins s σ H Q I h;exact UnaryOp_ (thn (ha pins s σ H _ I h) λv s1 ⟨x,H1,I1,r1,q1⟩=>ho pins s1 σ H1 x v Q I1 r1 q1)
def opI {f:af->af->Sem af} {C:Int->Int->Prop} {g:Int->Int->Int}
 (rule:∀ (i j:Int) (t u:Tok) (s:ah) (Q:af->ah->Prop) (E:af->ah->Prop),C i j->Q (.int (g i j) s.toks) { s with toks:=s.toks+1 }->wpAny (model X.prog X.w) X.A (f (.int i t) (.int j u)) Q E s) :
 OpR X f (rI C λi j=>.int (g i j)):=by
 intro pins s σ H x y v u Q I rx ry h;obtain ⟨i,j,rfl,rfl,hc,q⟩:=h;obtain ⟨t,rfl⟩:=rx;obtain ⟨t',rfl⟩:=ry;exact rule i j t t' s _ _ hc ⟨.int (g i j),H,I.tok _,⟨_,rfl⟩,q⟩
def Pt {f:af->af->Sem af} {g:Int->Int->Int}
 (rule:∀ (i j:Int) (t u:Tok) (s:ah) (Q:af->ah->Prop) (E:af->ah->Prop),Q (.int (g i j) s.toks) { s with toks:=s.toks+1 }->wpAny (model X.prog X.w) X.A (f (.int i t) (.int j u)) Q E s) :
 OpR X f (rI0 λi j=>.int (g i j)):=by
 intro pins s σ H x y v u Q I rx ry h;obtain ⟨i,j,rfl,rfl,q⟩:=h;obtain ⟨t,rfl⟩:=rx;obtain ⟨t',rfl⟩:=ry;exact rule i j t t' s _ _ ⟨.int (g i j),H,I.tok _,⟨_,rfl⟩,q⟩
def Pu {f:af->af->Sem af} {g:Int->Int->Bool}
 (rule:∀ (i j:Int) (t u:Tok) (s:ah) (Q:af->ah->Prop) (E:af->ah->Prop),Q (.bool (g i j)) s->wpAny (model X.prog X.w) X.A (f (.int i t) (.int j u)) Q E s) :
 OpR X f (rI0 λi j=>.bl (g i j)):=by
 intro pins s σ H x y v u Q I rx ry h;obtain ⟨i,j,rfl,rfl,q⟩:=h;obtain ⟨t,rfl⟩:=rx;obtain ⟨t',rfl⟩:=ry;exact rule i j t t' s _ _ ⟨.bl (g i j),H,I,rfl,q⟩
def Nb:OpR X (binaryOp .Add) (rI0 λi j=>.int (i+j)):=Pt λ_ _ _ _ _ _ _ q=>add_int q
def MU:OpR X (binaryOp .Sub) (rI0 λi j=>.int (i - j)):=Pt λ_ _ _ _ _ _ _ q=>sub_int q
def MW:OpR X (binaryOp .Mod) (rI (λ_ j=>0 < j) λi j=>.int (i % j)):=opI λi j _ _ _ _ _ hc q=>by
 have h1:(0:Int) < j:=hc;exact mod_int' ∅ (by rw [Int.fmod_eq_emod_of_nonneg i ∅];exact q)
def unI {f:af->Sem af} {g:Int->Int}
 (rule:∀ (i:Int) (t:Tok) (s:ah) (Q:af->ah->Prop) (E:af->ah->Prop),Q (.int (g i) s.toks) { s with toks:=s.toks+1 }->wpAny (model X.prog X.w) X.A (f (.int i t)) Q E s) :
 UnR X f (rU λi=>.int (g i)):=by
 intro pins s σ H x v Q I rx h;obtain ⟨i,rfl,q⟩:=h;obtain ⟨t,rfl⟩:=rx;exact rule i t s _ _ ⟨.int (g i),H,I.tok _,⟨_,rfl⟩,q⟩
def LS:UnR X (unaryOp .USub) (rU λi=>.int (-i)):=unI λ_ _ _ _ _ q=>neg_int q
end
def QL:V->V->Bool
 | .non,.non=>true | .non,.int _=>true | .int _,.non=>true | .non,.bl _=>true | .bl _,.non=>true | .non,.str _=>true | .str _,.non=>true
 | .int _,.int _=>true | .bl _,.bl _=>true | .str _,.str _=>true
 | .int _,.str _=>true | .str _,.int _=>true | .bl _,.str _=>true | .str _,.bl _=>true
 | _,_=>false
def rEq:R2:=λx y H Q=>QL x y = true/\Q (.bl (decide (x = y))) H
def Kg:decide (V.int i = V.int j) = (i == j):=by
 rw [cV];simp
def NS:decide (V.bl i = V.bl j) = (i == j):=by
 rw [cV];simp
def Kf:decide (V.str i = V.str j) = (i == j):=by
 rw [cV];simp
section
variable {X:Cx} {a b c:aG} {ta tb tc:TE} {pos:Pos}
def fH (I:Inv X pins σ H s) (q:Q (.bl k) H) (e:k = k'):EP X pins σ Q (.bool k') s:=by
 subst e;exact ⟨.bl k,H,I,rfl,q⟩
def Pr:OpR X (compareOp .Eq) rEq:=by
 intro pins s σ H x y v u Q I rx ry h;obtain ⟨hs,q⟩:=h
 cases x with
 | non =>
   cases rx
   cases y with
   | non=>cases ry;exact PySem.EqNone.eq_none_none (fH I q ↥0)
   | bl j=>cases ry;exact PySem.EqNone.eq_none_bool (fH I q ↥0)
   | int j=>obtain ⟨t',rfl⟩:=ry;exact PySem.EqNone.eq_none_int (fH I q ↥0)
   | str j=>obtain ⟨t',rfl⟩:=ry;exact PySem.EqNone.eq_none_str (fH I q ↥0)
   | _=>exact absurd (show false = true from hs) ao
 | bl i =>
   cases rx
   cases y with
   | non=>cases ry;exact PySem.EqNone.eq_bool_none (fH I q ↥0)
   | bl j=>cases ry;exact eq_bool (fH I q NS)
   | str j=>obtain ⟨t',rfl⟩:=ry;exact PySem.EqMixed.eq_bool_str (fH I q ↥0)
   | _=>exact absurd (show false = true from hs) ao
 | int i =>
   obtain ⟨t,rfl⟩:=rx
   cases y with
   | non=>cases ry;exact PySem.EqNone.eq_int_none (fH I q ↥0)
   | int j=>obtain ⟨t',rfl⟩:=ry;exact eq_int (fH I q Kg)
   | str j=>obtain ⟨t',rfl⟩:=ry;exact PySem.EqMixed.eq_int_str (fH I q ↥0)
   | _=>exact absurd (show false = true from hs) ao
 | str i =>
   obtain ⟨t,rfl⟩:=rx
   cases y with
   | non=>cases ry;exact PySem.EqNone.eq_str_none (fH I q ↥0)
   | bl j=>cases ry;exact PySem.EqMixed.eq_str_bool (fH I q ↥0)
   | int j=>obtain ⟨t',rfl⟩:=ry;exact PySem.EqMixed.eq_str_int (fH I q ↥0)
   | str j=>obtain ⟨t',rfl⟩:=ry;exact eq_str (fH I q Kf)
   | _=>exact absurd (show false = true from hs) ao
 | _=>cases y<;>exact absurd (show false = true from hs) ao
def Pp:OpR X (compareOp .LtE) (rI0 λi j=>.bl (decide (i<=j))):=Pu λ_ _ _ _ _ _ _ q=>le_int q
def Pq:OpR X (compareOp .Gt) (rI0 λi j=>.bl (decide (j < i))):=Pu λ_ _ _ _ _ _ _ q=>gt_int q
def CT:OpR X (compareOp .In) (λx y H Q=>∃ i j,x = .str i/\y = .str j/\Q (.bl (!(qx j i 0 j.length 1).isEmpty)) H):=by
 intro pins s σ H x y v u Q I rx ry h;obtain ⟨i,j,rfl,rfl,q⟩:=h;obtain ⟨t,rfl⟩:=rx;obtain ⟨t',rfl⟩:=ry;exact in_str (fH I q rfl)
def MY:OpR X (compareOp .Is) (λx y H Q=>y = .non/\Q (.bl (decide (x = .non))) H):=by
 intro pins s σ H x y v u Q I rx ry h;obtain ⟨rfl,q⟩:=h;cases ry;refine is_none_gen (fH I q ?_)
 cases x<;>first
  | (cases rx;rfl)
  | (obtain ⟨t,rfl⟩:=rx;rfl)
def OpR.or {f:af->af->Sem af} {r r':R2} (h:OpR X f r) (h':OpR X f r'):OpR X f (λx y H Q=>r x y H Q\/r' x y H Q):=by
 intro pins s σ H x y v u Q I rx ry q;rcases q with q | q
 . exact h pins s σ H x y v u Q I rx ry q
 . exact h' pins s σ H x y v u Q I rx ry q
def Jr {op:CmpOp} {r:R2} (ho:OpR X (compareOp op) r) (ha:PE X a ta) (hb:PE X b tb) (hm:behindInMarks op b = false):PE X (.Compare a [op] [b] pos) (tOp r ta tb):=by
 intro pins s σ H Q I h;exact wpAny_Compare1 (Oi ha hb I h λv u s2 x y H2 I2 rx ry q=>ho pins s2 σ H2 x y v u Q I2 rx ry q) hm
def OQ (t:TE):TT:=λσ H Q=>t σ H λx H'=>∃ k,x = .bl k/\Q k H'
def Jj (ho:OpR X (compareOp op) r) (ha:PE X a ta) (hb:PE X b tb) (hm:behindInMarks op b = false):PT X (.Compare a [op] [b] pos) (OQ (tOp r ta tb)):=by
 intro pins s σ H Q I h
 refine wpAny_isTrue_Compare1 (thn (ha pins s σ H _ I h) λv s1 ⟨x,H1,I1,r1,q1⟩=>thn (hb pins s1 σ H1 _ I1 q1) λu s2 ⟨y,H2,I2,r2,q2⟩ =>
  thn (ho pins s2 σ H2 x y v u _ I2 r1 r2 q2) λc s3 ⟨z,H3,I3,r3,k,e,q3⟩=>?_) hm
 subst e;cases r3;exact dF ⟨H3,I3,q3⟩
def Ot (K:PySem.W.Frag) (x:V) (H:Hp) (k:Bool):Prop :=
 match x with
 | .non=>k = false
 | .bl b=>k = b
 | .int i=>k = (i != 0)
 | .str y=>y.length<=sizeLine/\k = ((y.length:Int) != 0)
 | .ref p=>(∃ xs,SqL K H p xs/\k = !xs.isEmpty)\/(∃ xs,SqT K H p xs/\k = !xs.isEmpty)
 | _=>False
def rN {xs:List V} {its:List af} (r:Vals xs its):(!its.toArray.isEmpty) = !xs.isEmpty:=by
 cases r<;>simp
def mr:(sizeLine:Nat) < 2 ^ 63:=by rw [cj];decide
def LV:Rg X (λx H Q=>∃ k,Ot X.K x H k/\Q k H):=by
 intro pins s σ H x v Q I rx h;obtain ⟨k,e,q⟩:=h;have hl:=mr;have hs:sizeLine = 16777216:=cj
 cases x with
 | non =>
   cases rx;have e':k = false:=e;subst e'
   exact truthy_none ⟨H,I,q⟩
 | bl b =>
   cases rx;have e':k = b:=e;subst e'
   exact dF ⟨H,I,q⟩
 | int i =>
   obtain ⟨t,rfl⟩:=rx;have e':k = (i != 0):=e;subst e'
   exact PySem.P.truthy_int ⟨H,I,q⟩
 | str y =>
   obtain ⟨t,rfl⟩:=rx;obtain ⟨hy,e'⟩:y.length<=sizeLine/\k = ((y.length:Int) != 0):=e;subst e'
   exact PySem.P.truthy_str ∅ ⟨H,I.tok _,q⟩
 | ref p =>
   cases rx;have e':(∃ xs,SqL X.K H p xs/\k = !xs.isEmpty)\/(∃ xs,SqT X.K H p xs/\k = !xs.isEmpty):=e;rcases e' with ⟨xs,hx,e'⟩ | ⟨xs,hx,e'⟩
   . subst e';obtain ⟨its,r,pl,hz⟩:=I.list hx;have hlen:=r.length;exact wpAny_truthy_list pl.isList (by simp only [aC];lia) ⟨H,I.tok _,by rw [rN r];exact q⟩
   . subst e';obtain ⟨its,r,pl,hz⟩:=I.tuple hx;have hlen:=r.length
     exact truthy_tuple pl (by simp only [aC];lia) ⟨H,I.tok _,by rw [rN r];exact q⟩
 | _=>exact (show False from e).elim
def qQ (ha:PE X a ta) (he:∀ whole,isTrue a X.env whole = (do let v <- whole;standAt a.pos;holding [v] (truthy v))) :
 PT X a (λσ H Q=>ta σ H λx H'=>∃ k,Ot X.K x H' k/\Q k H'):=by
 intro pins s σ H Q I h;exact isTrue_plain (thn (ha pins s σ H _ I h) λv s1 ⟨x,H1,I1,r1,q1⟩=>LV pins s1 σ H1 x v Q I1 r1 q1) (he _)
def zO:OpR X (binaryOp .Add) (λx y H Q=>∃ i j,x = .str i/\y = .str j/\i.length+j.length<=sizeLine/\Q (.str (i++j)) H):=by
 intro pins s σ H x y v u Q I rx ry h;obtain ⟨i,j,rfl,rfl,hz,q⟩:=h;obtain ⟨t,rfl⟩:=rx;obtain ⟨t',rfl⟩:=ry;exact add_str (λt' tk=>⟨.str (i++j),H,I.tok _,⟨_,rfl⟩,q⟩) hz
def vals1 (r:Vals [x] us):∃ u,us = [u]/\RelV x u:=by
 cases r with
 | cons r1 r2=>cases r2;exact ⟨_,rfl,r1⟩
def vals2 (r:Vals [x,y] us):∃ u w',us = [u,w']/\RelV x u/\RelV y w':=by
 cases r with
 | cons r1 r2 =>
   cases r2 with
   | cons r3 r4=>cases r4;exact ⟨_,_,rfl,r1,r3⟩
def Dw:cE X (.type "int") (λxs H Q=>(∃ i,xs = [.int i]/\Q (.int i) H)\/∃ k,xs = [.bl k]/\Q (.int (if k then 1 else 0)) H):=by
 intro pins s σ H xs us Q I r h;rcases h with ⟨i,rfl,q⟩ | ⟨k,rfl,q⟩
 . obtain ⟨u,rfl,t,rfl⟩:=vals1 r;exact call_int_int ⟨.int i,H,I,⟨_,rfl⟩,q⟩
 . obtain ⟨u,rfl,r1⟩:=vals1 r;cases r1;exact call_int_bool ⟨.int (if k then 1 else 0),H,I.tok _,⟨_,rfl⟩,q⟩
end
end L2
namespace L2
open PySem PySem.Spec PyProof.Rows
structure Rj (h:bG) (x dx C:aq) (mA:Str->Option af):Prop where
 obj:h.get? x = some (PySem.W.instObj C dx)
 ns:h.Ns1 dx mA
 ne:dx≠x
section
variable {prog:aO} {w:aZ} {A:aR} {E:af->ah->Prop} {s:ah} {K:PySem.W.Frag} {x dx C f:aq} {mA:Str->Option af} {name:Str} {v:af}
end
section
variable {P:aO} {w:aZ} {H H':Hp} {h h':bG} {a C dx:aq} {fs fs':List (Str × V)}
end
structure Cls (K:PySem.W.Frag) (C:aq):Prop where
 pg:PySem.W.plainGet K C Str.empty = true
 hd:PySem.W.hasDictIn K C = true
 po:PySem.W.plainOver K C = true
 sa:PySem.W.findIn K (.ref C) "__setattr__" = some (some (.builtin "object.__setattr__"))
structure Con (K:PySem.W.Frag) (C:aq) (f:Str) (v:V) (u:af):Prop where
 at_:PySem.W.findIn K (.ref C) f = some (some u)
 rel:RelV v u
 get:PySem.W.specialIn K u "__get__" = some none
 cp:PySem.W.copiedNames.contains f = false
structure Meth (K:PySem.W.Frag) (C:aq) (m:Str) (f:aq):Prop where
 at_:PySem.W.findIn K (.ref C) m = some (some (.ref f))
 fn:PySem.W.isFn K (.ref f) = true
 kp:PySem.W.keepIn K (.ref f) = true
section
variable {X:Cx} {pins:List (aq × Obj)} {σ:St} {H:Hp} {s:ah} {a C dx:aq} {fs:List (Str × V)} {f:Str} {v:V} {A:aR} {E:af->ah->Prop}
end
section
variable {X:Cx} {o e value:aG} {f:Str} {pos pos' tpos:Pos} {ta tv:TE}
end
section
variable {X:Cx} {pins:List (aq × Obj)} {σ:St} {H:Hp} {s:ah} {A:aR} {E:af->ah->Prop} {Q:af->ah->Prop} {c:af} {b:Bool}
inductive Aj (K:PySem.W.Frag) (H:Hp):V->af->Prop where
 | non:Aj K H .non (.type "NoneType")
 | bl (x:Bool):Aj K H (.bl x) (.type "bool")
 | int (i:Int):Aj K H (.int i) (.type "int")
 | str (x:Str):Aj K H (.str x) (.type "str")
 | lst {a:aq} {xs:List V} (e:H a = some (.lst xs)):Aj K H (.ref a) (.type "list")
 | frz {a:aq} {o:Obj} {xs:List V} (e:H a = some (.frz o (.lst xs))):Aj K H (.ref a) (.type "list")
 | tup {a:aq} {xs:List V} (e:H a = some (.tup xs)):Aj K H (.ref a) (.type "tuple")
end
end L2
namespace L2
open PySem PySem.Spec PyProof.Rows
structure kv (k:Nat) (A:aR):Prop where
 hd:A.handled = none
 dp:A.depth+3 * k+5 < recursionLimit
 un:A.units+16 * k+200 < cLine
def kv.deeper {k:Nat} {A:aR} (r:kv (k+1) A) (env:Env):kv k (A.deeper env) :=
 ⟨r.hd,by have:=r.dp;show A.depth+1+3 * k+5 < _;lia,by have:=r.un;show A.units+3+16 * k+200 < _;lia⟩
def kv.depth {k:Nat} {A:aR} (r:kv k A):A.depth < recursionLimit:=by have:=r.dp;lia
def xg:TA:=λ_ H Q=>Q [] H
def kE (ta:TE) (tr:TA):TA:=λσ H Q=>ta σ H λx H1=>tr σ H1 λxs H2=>Q (x::xs) H2
section
variable {X:Cx} {e:aG} {es:List aG} {te:TE} {t:TA} {pos:Pos}
def ia:PA X [] xg:=λ_ _ _ _ H Q I h=>Calls.spliced_nil ⟨[],H,I,.nil,h⟩
def eZ (ha:PE X e te) (hr:PA X es t) (hs:starEach (e::es) X.env = (false,eval e X.env)::starEach es X.env:=by rfl):PA X (e::es) (kE te t):=by
 intro pos pins s σ H Q I h;rw [hs];show wpAny _ _ (spliced ((false,eval e X.env)::backTo pos (starEach es X.env))) _ _ s;refine Calls.spliced_cons (thn (ha pins s σ H _ I h) λu s1 ⟨x,H1,I1,r1,q1⟩=>?_);exact thn (hr pos pins s1 σ H1 _ I1 q1) λus s2 ⟨xs,H2,I2,r2,q2⟩=>⟨x::xs,H2,I2,.cons r1 r2,q2⟩
def Qw (t:TA):TE:=λσ H Q=>t σ H λxs H1=>xs.length<=sizeLine/\∀ p,H1 p = none->Q (.ref p) (upd H1 p (.tup xs))
def QB (t:TA):TE:=λσ H Q=>t σ H λxs H1=>xs.length<=sizeLine/\∀ p,H1 p = none->Q (.ref p) (upd H1 p (.lst xs))
def MN (h:PA X es t):PE X (.Tuple es x1 pos) (Qw t):=by
 intro pins s σ H Q I hq;refine wpAny_Tuple_spliced (thn (h pos pins s σ H _ I hq) λus s1 ⟨xs,H1,I1,r,z,q⟩=>⟨by rw [<- r.length];exact z,?_⟩);have hf:H1 s1.heap.objs.size = none:=I1.hok.fresh (aw _);refine ⟨.ref s1.heap.objs.size,upd H1 s1.heap.objs.size (.tup xs),I1.laid (t':=s1.toks) (λb u e=>ai _ e) (aw _) ?_,rfl,q _ hf⟩;exact ⟨z,us,r,⟨_,aE _ rfl,rfl,_,rfl⟩⟩
def zN (h:PA X es t):PE X (.List es pos) (QB t):=by
 intro pins s σ H Q I hq;refine wpAny_List_spliced (thn (h pos pins s σ H _ I hq) λus s1 ⟨xs,H1,I1,r,z,q⟩=>⟨by rw [<- r.length];exact z,?_⟩);have hf:H1 s1.heap.objs.size = none:=I1.hok.fresh (aw _);refine ⟨.ref s1.heap.objs.size,upd H1 s1.heap.objs.size (.lst xs),I1.laid (t':=s1.toks) (λb u e=>ai _ e) (aw _) ?_,rfl,q _ hf⟩;exact ⟨z,us,0,r,aE _ rfl⟩
end
abbrev Sp:=List V->Hp->VK->XK->Prop
abbrev CXT:=List Env->Hp->ah->XK->af->ah->Prop
structure HE (P:aO) (w:aZ) (K:PySem.W.Frag) (mg:Str->Option af) (base:bG) (A:aR) (outer:List Env) (s:ah) (H:Hp):Prop where
 frames:A.frames = some outer
 mod:Mod K mg base
 bs:∀ b o,base.get? b = some o->s.heap.get? b = some o/\H b = none
 bsz:base.objs.size<=s.heap.objs.size
 funs:s.heap.FunFrames base outer
 frf:∀ b∈frs outer,H b = none
 hok:HOk P w H s.heap
 bare:kB s.gens
def CE (outer:List Env) (P:aO) (w:aZ) (H:Hp) (s:ah) (Q:VK) (u:af) (s':ah):Prop :=
 ∃ v H',s'.os = s.os/\kB s'.gens/\Un (frs outer) [] H H' s.heap s'.heap/\HOk P w H' s'.heap/\RelV v u/\Q v H'
def CR (CX:CXT) (outer:List Env) (P:aO) (w:aZ) (H:Hp) (s:ah) (Q:VK) (E:XK) (r:sy) (s':ah):Prop :=
 match r with
 | .ok (.ret u)=>CE outer P w H s Q u s'
 | .ok _=>False
 | .error e=>CX outer H s E e s'
structure gM (P:aO) (w:aZ) (K:PySem.W.Frag) (mg:Str->Option af) (base:bG) (CX:CXT) (k:Nat) (f:aq) (fd:dU) (ps:List Str) (sp:Sp):Prop where
 len:∀ vs H Q E,sp vs H Q E->vs.length = ps.length
 run:∀ (A:aR) (outer:List Env) (s:ah) (H:Hp) (args:Args) (us:List af) (vs:List V) (Q:VK) (E:XK),kv k A->HE P w K mg base A outer s H->BindsTo s fd args (ps.zip us)->Vals vs us->sp vs H Q E ->
  codeAny (model P w) A (.call (.ref f) args) (CR CX outer P w H s Q E) s
section
variable {X:Cx} {pins:List (aq × Obj)} {σ:St} {H:Hp} {s s':ah}
def Inv.env0 (I:Inv X pins σ H s):HE X.prog X.w X.K X.mg X.base X.A X.stack s H :=
 ⟨I.ok.frames,I.ok.mod,I.bs,bF I.ok.bsz I.sz,I.stack,I.stkFree,I.hok,I.bare⟩
def Inv.after (I:Inv X pins σ H s) (h:CE X.stack X.prog X.w H s Q u s'):EP X pins σ Q u s':=by
 obtain ⟨v,H',os,bare,un,hok,r,q⟩:=h;obtain ⟨hh,g,d,t,os'⟩:=s';obtain rfl:os' = s.os:=os;exact ⟨v,H',I.call (h':=hh) (g':=g) (d':=d) (t':=t) (ch:=[]) un hok bare (λb z=>absurd z ↥0),r,q⟩
end
def OY (sp:Sp) (dvs:List V) (E:XK) (t:TA):TE:=λσ H Q=>t σ H λvs H1=>sp (vs++dvs) H1 Q E
def Binds (K:PySem.W.Frag) (fd:dU) (ps:List Str) (ds:List af):Prop :=
 ∀ (s:ah) (us:List af),K.In s.heap->(us++ds).length = ps.length->BindsTo s fd ⟨us,[]⟩ (ps.zip (us++ds))
def Binds.all {K:PySem.W.Frag} {fd:dU} {ps:List Str} (h:∀ us:List af,us.length = ps.length->bindArgs fd ⟨us,[]⟩ = pure (ps.zip us)):Binds K fd ps []:=λs us _ hl=>by
 rw [bw] at hl |-;exact .of_eq (h us hl)
def Passes (CX:CXT) (X:Cx) (E:XK):Prop:=∀ (pins:List (aq × Obj)) (σ:St) (H:Hp) (s:ah) (e:af) (s':ah),Inv X pins σ H s->CX X.stack H s E e s'->X.xe e s'
section
variable {X:Cx} {CX:CXT} {k:Nat} {f C:aq} {fd:dU} {ps:List Str} {sp:Sp} {dvs:List V} {ds:List af} {E:XK} {x m:Str} {p pos apos:Pos} {e o:aG} {es:List aG} {ta:TE} {t:TA}
def Mw (F:gM X.prog X.w X.K X.mg X.base CX k f fd ps sp) (hr:kv k X.A) (hb:Binds X.K fd ps ds) (hd:Vals dvs ds) (hx:Passes CX X E)
 (I:Inv X pins σ H s) (r:Vals vs us) (h:sp (vs++dvs) H Q E):wpAny (model X.prog X.w) X.A (call (.ref f) us) (EP X pins σ Q) X.xe s:=by
 have r2:Vals (vs++dvs) (us++ds):=r.append hd;have hl:(us++ds).length = ps.length:=by rw [<- r2.length];exact F.len _ _ _ _ h
 refine Am (jE (F.run X.A X.stack s H ⟨us,[]⟩ (us++ds) (vs++dvs) Q E hr I.env0 (hb s us I.kIn hl) r2 h) λr s' hq=>?_)
 cases r with
 | error e=>exact hx pins σ H s e s' I hq
 | ok fl =>
   cases fl with
   | ret u=>exact I.after hq
   | next=>exact bS hq
   | brk=>exact bS hq
   | cont=>exact bS hq
def AZ (F:gM X.prog X.w X.K X.mg X.base CX k f fd ps sp) (hr:kv k X.A) (hg:Gl X x) (hm:X.mg x = some (.ref f)) (hk:PySem.W.keepIn X.K (.ref f) = true) (hb:Binds X.K fd ps ds) (hd:Vals dvs ds) (hx:Passes CX X E)
 (ha:PA X (e::es) t) (hdb:(x == ("__debug__":Str)) = false:=by decide) (he:starEach (e::es) X.env = (false,eval e X.env)::starEach es X.env:=by rfl) (hpl:(backTo pos (starEach es X.env)).any (·.1) = false:=by rfl) :
 PE X (.Call (.Name x p) (e::es) [] pos) (OY sp dvs E t):=by
 intro pins s σ H Q I h;refine fy (jT I hg hm ?_ hdb);refine PySem.W.callWith_K (h₀:=X.base) I.ok.mod.kin hk (thn (ha pos pins s σ H _ I h) λus s1 ⟨vs,H1,I1,r,q⟩=>⟨I1.kIn,?_⟩) he hpl;exact Mw F hr hb hd hx I1 r q
structure Mk (K:PySem.W.Frag) (C f:aq):Prop where
 makes:PySem.W.makesIn K C = true
 init:PySem.W.findIn K (.ref C) "__init__" = some (some (.ref f))
 fn:PySem.W.isFn K (.ref f) = true
 kp:PySem.W.keepIn K (.ref C) = true
end
def PK (X:Cx) (kws:List ie) (t:TA):Prop :=
 ∀ (pos:Pos) (pins:List (aq × Obj)) (s:ah) (σ:St) (H:Hp) (Q:List V->Hp->Prop),Inv X pins σ H s->t σ H Q->wpAny (model X.prog X.w) X.A (evalAll ((backToKw pos (keywordEach kws X.env)).map (·.2))) (AP X pins σ Q) X.xe s
section
variable {X:Cx} {CX:CXT} {k:Nat} {f C:aq} {fd:dU} {ps ks:List Str} {sp:Sp} {E:XK} {x m:Str} {p pos apos kpos:Pos} {e o:aG} {es:List aG} {kws:List ie} {te ta:TE} {t tk:TA} {nm:Option Str}
def MI:PK X [] xg:=λ_ _ _ _ H Q I h=>wpAny_evalAll_nil ⟨[],H,I,.nil,h⟩
def Jm (ha:PE X e te) (hr:PK X kws t):PK X (⟨nm,e,kpos⟩::kws) (kE te t):=by
 intro pos pins s σ H Q I h;show wpAny _ _ (evalAll ((do let v <- eval e X.env;standAt pos;pure v)::(backToKw pos (keywordEach kws X.env)).map (·.2))) _ _ s;refine wpAny_evalAll_cons (ae (thn (ha pins s σ H _ I h) λu s1 ⟨x,H1,I1,r1,q1⟩=>ae (kZ (ak ?_))));exact thn (hr pos pins s1 σ H1 _ I1 q1) λus s2 ⟨xs,H2,I2,r2,q2⟩=>⟨x::xs,H2,I2,.cons r1 r2,q2⟩
structure Ri (K:PySem.W.Frag) (fd:dU) (ps ks:List Str) (g:List af->List af->List af) (gV:List V->List V->List V):Prop where
 to:∀ (s:ah) (us ws:List af),K.In s.heap->(g us ws).length = ps.length->BindsTo s fd ⟨us,ks.zip ws⟩ (ps.zip (g us ws))
 rel:∀ {vs:List V} {us:List af} {zs:List V} {ws:List af},Vals vs us->Vals zs ws->Vals (gV vs zs) (g us ws)
variable {g:List af->List af->List af} {gV:List V->List V->List V}
end
structure jj (N P:List Str) (sc:eX):Prop where
 kind:sc.kind = .function
 co:sc.isCoroutine = false
 gen:sc.isGenerator = false
 nd:N.Nodup
 pre:N.take P.length = P
 par:∀ x∈P,sc.names.lookup x = some .local\/sc.names.lookup x = some .cell
 nofree:∀ y∈sc.names,y.2≠.free
def uF {kindOf:Str->Option kf} {x:Str}:∀ {binds:List (Str × af)} {m:Str->Option af},(∀ v,(x,v)∉binds)->bindL kindOf binds m x = m x
 | [],_,_=>rfl
 | (n,v)::r,m,h=>by
   unfold bindL;rw [uF λw hw=>h w (ar _ hw)];split
   . have:x≠n:=by rintro rfl;exact h v au
     simp [this]
   . rfl
def uH {kindOf:Str->Option kf} {x:Str}:∀ {binds:List (Str × af)} {m:Str->Option af},(∀ v,(x,v)∉binds)->bindC kindOf binds m x = m x
 | [],_,_=>rfl
 | (n,v)::r,m,h=>by
   unfold bindC;rw [uH λw hw=>h w (ar _ hw)];split
   . rfl
   . have:x≠n:=by rintro rfl;exact h v au
     simp [this]
def uG {kindOf:Str->Option kf} {x:Str} {v:af}:∀ {P:List Str} {vs:List af} {i:Nat} {m:Str->Option af},P.Nodup->P[i]? = some x->vs[i]? = some v->kindOf x = some .local ->
 bindL kindOf (P.zip vs) m x = some v
 | [],_,_,_,_,h,_,_=>by simp at h
 | _::_,[],_,_,_,_,h,_=>by simp at h
 | p::P,w::vs,0,m,nd,h1,h2,hk=>by
   simp at h1 h2;subst h1;subst h2;show bindL kindOf ((p,w)::P.zip vs) m p = _;unfold bindL;rw [uF λv hv=>(fh.mp nd).1 (gk hv).1,if_pos hk]
   simp
 | p::P,w::vs,i+1,m,nd,h1,h2,hk=>by
   show bindL kindOf ((p,w)::P.zip vs) m x = _;unfold bindL;exact uG (i:=i) (fh.mp nd).2 (by simpa using h1) (by simpa using h2) hk
def uI {kindOf:Str->Option kf} {x:Str} {v:af}:∀ {P:List Str} {vs:List af} {i:Nat} {m:Str->Option af},P.Nodup->P[i]? = some x->vs[i]? = some v->kindOf x≠some .local ->
 bindC kindOf (P.zip vs) m x = some v
 | [],_,_,_,_,h,_,_=>by simp at h
 | _::_,[],_,_,_,_,h,_=>by simp at h
 | p::P,w::vs,0,m,nd,h1,h2,hk=>by
   simp at h1 h2;subst h1;subst h2;show bindC kindOf ((p,w)::P.zip vs) m p = _;unfold bindC;rw [uH λv hv=>(fh.mp nd).1 (gk hv).1,if_neg hk]
   simp
 | p::P,w::vs,i+1,m,nd,h1,h2,hk=>by
   show bindC kindOf ((p,w)::P.zip vs) m x = _;unfold bindC;exact uI (i:=i) (fh.mp nd).2 (by simpa using h1) (by simpa using h2) hk
def start (N:List Str) (vs:List V):St:=vs.map some++bc (N.length - vs.length) none
def ka (CX:CXT) (P:aO) (w:aZ) (K:PySem.W.Frag) (mg:Str->Option af) (base:bG) (N:List Str) (qual:Str) (scope:eX) (f:aq) (cd:af) (A:aR) (outer:List Env) (s:ah) (H:Hp) (E:XK):Cx where
 prog:=P
 w:=w
 K:=K
 mg:=mg
 base:=base
 A:=A.deeper (envOfC qual scope s.heap.objs.size f cd)
 N:=N
 s₀:=s
 H₀:=H
 env:=envOfC qual scope s.heap.objs.size f cd
 outer:=outer
 stack:=envOfC qual scope s.heap.objs.size f cd::outer
 ex:=[]
 calm:=true
 fn:=λ_=>true
 pn:=[]
 xe:=λe s'=>wpAny (model P w) (A.deeper (envOfC qual scope s.heap.objs.size f cd)) (leaving (envOfC qual scope s.heap.objs.size f cd) e) (λ_ s''=>CX outer H s E e s'') (λe' s''=>CX outer H s E e' s'') s'
def yB {sc:eX} {n:Nat} {x:Str} (h:sc.names.lookup x = some .cell):∃ c,(cellsFrom n sc.names []).lookup x = some c:=by
 have q:=PySem.W.cellsFrom_some sc.names n [] (.inl h);exact fV.mp q
def uq {CX:CXT} {P:aO} {w:aZ} {K:PySem.W.Frag} {mg:Str->Option af} {base:bG} {N ps:List Str} {qual:Str} {scope:eX} {f:aq} {cd:af} {A:aR} {outer:List Env} {s s1:ah} {H:Hp} {E:XK} {us:List af} {vs:List V}
 (S:jj N ps scope) (hd:A.handled = none) (e0:HE P w K mg base A outer s H) (hl:vs.length = ps.length) (r:Vals vs us)
 (x:InCallC s s.heap.objs.size (bindL (envOfC qual scope s.heap.objs.size f cd).kindOf (ps.zip us) λ_=>none) (cellsFrom (s.heap.objs.size+1) scope.names []) (bindC (envOfC qual scope s.heap.objs.size f cd).kindOf (ps.zip us) λ_=>none) s1) :
 Inv (ka CX P w K mg base N qual scope f cd A outer s H E) [] (start N vs) H s1:=by
 have hpl:ps.length<=N.length:=by have:=congrArg sF S.pre;rw [bJ] at this;lia
 obtain ⟨h1,tk,rfl,hk⟩:=x.done;have noA:∀ b:aq,b∉(ka CX P w K mg base N qual scope f cd A outer s H E).ex:=λb z=>absurd (show b∈([]:List aq) from z) ↥0
 refine ⟨⟨e0.mod,S.kind,rfl,rfl,aw _,λy z c h1 h2=>?_,λy hy=>?_,λy c _ h=>?_,λ_=>hd,yV e0.frames,.inr ⟨rfl,rfl⟩,λb z=>absurd z (noA b),e0.bs,e0.bsz,λb _ _=>noA b,λb z=>absurd z (noA b),e0.funs,e0.frf⟩,
  rfl,e0.bare,Un.kept hk,⟨_,x.toInCall.ns,λi y v h1 h2 h3=>?_⟩,λy c h=>⟨_,x.cell y c h⟩,e0.hok.fresh (aw _),λy c h=>?_,λp hp=>absurd (show p∈([]:List (aq × Obj)) from hp) ↥0,e0.hok.kept hk,?_⟩
 . exact name_of_addr x.apart (PySem.mem_of_lookup h1) (PySem.mem_of_lookup h2)
 . have hy:scope.names.lookup y = some .cell\/scope.names.lookup y = some .free:=hy;rcases hy with hy | hy
   . exact yB hy
   . exact absurd rfl (S.nofree _ (PySem.mem_of_lookup hy))
 . exact lr (x.above y c (PySem.mem_of_lookup h))
 . have hi:i < vs.length:=by
    unfold start at h2;by_cases hi:i < vs.length
    . exact hi
    . rw [bz (by simpa using hi)] at h2;rw [gE] at h2;split at h2<;>cases h2
   have ha:vs[i]? = some v:=by
    unfold start at h2;rw [ba (by simpa using hi),bf] at h2
    cases e:vs[i]? with
    | none=>rw [e] at h2;cases h2
    | some a=>rw [e] at h2;cases h2;rfl
   obtain ⟨u,hu,rv⟩:=r.get ha
   have hp:ps[i]? = some y:=by
    rw [<- S.pre,dt ∅];exact h1
   have ndP:ps.Nodup:=by rw [<- S.pre];exact S.nd.sublist (List.take_sublist _ _)
   refine ⟨u,rv,?_⟩;rcases S.par y (bP hp) with k | k
   . exact .inl ⟨k,uG ndP hp hu k⟩
   . obtain ⟨c,e⟩:=yB (n:=s.heap.objs.size+1) k;refine .inr ⟨.inl k,c,e,?_⟩;have q:=x.cell y c e;rw [uI ndP hp hu (by show scope.names.lookup y≠_;rw [k];decide)] at q;exact q
 . exact e0.hok.fresh (lr (x.above y c (PySem.mem_of_lookup h)))
 . unfold start;show _ = N.length;rw [ay,av,gY]
   lia
def Ld {CX:CXT} {P:aO} {w:aZ} {K:PySem.W.Frag} {mg:Str->Option af} {base:bG} {k:Nat} {f:aq} {name qual:Str} {params:wA} {body:List bD} {scope:eX} {dV kV doc pm cdv ct oc:af} {an od:Option aq}
 {osl:Array (Option af)} {N ps:List Str} {sp:Sp} (lk:K.lookup f = some ⟨oc,od,.func (PySem.W.fnOf name qual params body scope dV kV doc pm an cdv ct),osl⟩) (hcd:PySem.W.codeIn K cdv qual = true) (S:jj N ps scope)
 (len:∀ vs H Q E,sp vs H Q E->vs.length = ps.length)
 (hbody:∀ (A:aR) (outer:List Env) (s:ah) (H:Hp) (vs:List V) (Q:VK) (E:XK),kv k (A.deeper (envOfC qual scope s.heap.objs.size f cdv))->sp vs H Q E ->
   ∃ t,PSs (ka CX P w K mg base N qual scope f cdv A outer s H E) body t/\t { nx:=λ_ H'=>Q .non H',rt:=Q } (start N vs) H) :
 gM P w K mg base CX (k+1) f (PySem.W.fnOf name qual params body scope dV kV doc pm an cdv ct) ps sp:=by
 refine ⟨len,λA outer s H args us vs Q E hr e0 hb r hsp=>?_⟩;have hl:=len _ _ _ _ hsp;have KX:K.In s.heap:=e0.mod.kin.keeps λb o e=>(e0.bs b o e).1;have lim:s.heap.NoLimit:=e0.mod.nolimit.keeps λb o e=>(e0.bs b o e).1
 have hkind:∀ y∈ps.zip us,scope.names.lookup y.1 = some .local\/(scope.names.lookup y.1 = some .cell/\((cellsFrom (s.heap.objs.size+1) scope.names []).lookup y.1).isSome = true):=λ⟨n,v⟩ hy=>by
  rcases S.par n (gk hy).1 with q | q
  . exact .inl q
  . exact .inr ⟨q,PySem.W.cellsFrom_some _ _ _ (.inl q)⟩
 refine HN hr.depth (KX _ _ lk) rfl S.co S.gen rfl (PySem.W.codeRec_of KX hcd) (hb _ _ _ _ ?_);refine Al S.kind hkind λenv he s1 x=>?_;subst he;refine ⟨lim.keeps x.toInCall.keep,codeAny_func ?_⟩;obtain ⟨t,ht,hq⟩:=hbody A outer s H vs Q E (hr.deeper _) hsp;have I:Inv (ka CX P w K mg base N qual scope f cdv A outer s H E) [] (start N vs) H s1:=uq S hr.hd e0 hl r x;refine cP (ht [] s1 (start N vs) H _ I hq) (λfl s' hs=>?_) λe s' hs=>hs
 have fin:∀ {σ':St} {H':Hp} {v:V} {u:af},Inv (ka CX P w K mg base N qual scope f cdv A outer s H E) [] σ' H' s'->RelV v u->Q v H'->CE outer P w H s Q u s' :=
  λ{σ' H' v u} J rv q=>⟨v,H',J.os,J.bare,J.base,J.hok,rv,q⟩
 cases fl with
 | ret u =>
   obtain ⟨v,σ',H',J,rv,q⟩:=hs
   exact fin J rv q
 | next =>
   obtain ⟨σ',H',J,q⟩:=hs
   exact fin (v:=V.non) (u:=cq) J rfl q
 | brk =>
   obtain ⟨_,_,_,q⟩:=hs
   exact bS q
 | cont =>
   obtain ⟨_,_,_,q⟩:=hs;exact bS q
end L2
namespace L2
open PySem PySem.Spec PyProof.Rows
section
variable {X:Cx} {x:Str} {p pos:Pos} {e:aG} {es:List aG} {t:TA} {id T:String} {r:List V->Hp->VK->Prop}
def tCB (r:List V->Hp->VK->Prop) (t:TA):TE:=λσ H Q=>t σ H λvs H1=>r vs H1 Q
def gW (hc:cE X (.builtin id) r) (hg:Gl X x) (hm:X.mg x = none) (hv:bootBuiltins x = some (.builtin id)) (ha:PA X (e::es) t) (hn:x≠"__name__":=by decide) (hdb:(x == ("__debug__":Str)) = false:=by decide)
 (he:starEach (e::es) X.env = (false,eval e X.env)::starEach es X.env:=by rfl) (hpl:(backTo pos (starEach es X.env)).any (·.1) = false:=by rfl):PE X (.Call (.Name x p) (e::es) [] pos) (tCB r t):=by
 intro pins s σ H Q I h;refine fy (oy I hg hm hv ?_ hn hdb);exact PyProof.Rows.callWith_builtin1 (thn (ha pos pins s σ H _ I h) λus s1 ⟨vs,H1,I1,r1,q1⟩=>hc pins s1 σ H1 vs us Q I1 r1 q1) he hpl
def jy (hc:cE X (.type T) r) (hg:Gl X x) (hm:X.mg x = none) (hv:bootBuiltins x = some (.type T)) (ha:PA X (e::es) t) (hn:x≠"__name__":=by decide) (hdb:(x == ("__debug__":Str)) = false:=by decide)
 (he:starEach (e::es) X.env = (false,eval e X.env)::starEach es X.env:=by rfl) (hpl:(backTo pos (starEach es X.env)).any (·.1) = false:=by rfl):PE X (.Call (.Name x p) (e::es) [] pos) (tCB r t):=by
 intro pins s σ H Q I h;refine fy (oy I hg hm hv ?_ hn hdb);exact gU (thn (ha pos pins s σ H _ I h) λus s1 ⟨vs,H1,I1,r1,q1⟩=>hc pins s1 σ H1 vs us Q I1 r1 q1) he hpl
end
end L2
namespace HT
open PySem PyProof.Rows
section
open PySem.SeqAt
open PySem.AutoSeq1 (wpAny_loadPart')
open PySem.MeetsSeq PySem.MeetsSeq2 PySem.MeetsSeq3
end
section
variable {prog:aO} {w:aZ} {A:aR} {E:af->ah->Prop} {s:ah}
def cat_tup (ht:Ky s.heap t vs.toArray) (hb:Ky s.heap b ws.toArray) (hv:vs≠[])
 (h1:ws = []->Q (.ref t) s) (h2:ws≠[]->Q (.ref s.heap.objs.size) { s with heap:=s.heap.push { cls:=.type "tuple",data:=.seq (vs++ws).toArray } })
 (hsz:vs.length+ws.length<=sizeLine):wpAny (model prog w) A (binaryOp .Add (.ref t) (.ref b)) Q E s:=by
 obtain ⟨⟨cls,dd,data,sl⟩,ho,hc,n,hd⟩:=id ht;obtain ⟨⟨cls2,dd2,data2,sl2⟩,ho2,hc2,n2,hd2⟩:=id hb;simp only at hc hd hc2 hd2;subst hc hd hc2 hd2;have e:vs.toArray++ws.toArray = (vs++ws).toArray:=by simp
 by_cases hw:ws = []
 . exact HH ⟨_,ho,rfl⟩ ⟨_,ho2,rfl⟩ lQ qr PySem.F.slot_tuple_add PySem.F.entry_tuple_add (PySem.F.args_tuple_add_2 _ _)
    (tuple_addW1 t b vs.toArray ws.toArray n n2 dd dd2 sl sl2 (by simpa using hv) (by simp [hw])) ⟨ho,ho2,h1 hw⟩
 . refine HH ⟨_,ho,rfl⟩ ⟨_,ho2,rfl⟩ lQ qr PySem.F.slot_tuple_add PySem.F.entry_tuple_add (PySem.F.args_tuple_add_2 _ _)
    (tuple_addW2 t b vs.toArray ws.toArray n n2 dd dd2 sl sl2 (by simpa using hv) (by simpa using hw) (by rw [aC,aC];exact hsz)) ⟨ho,ho2,?_⟩
   rw [e];exact h2 hw
def sIx (n d:Nat):Option Int->Nat
 | none=>d
 | some v=>if v < 0 then (v+(n:Int)).toNat else min v.toNat n
def Mv (n d:Nat) (hd:d<=n) (o:Option Int):sIx n d o<=n:=by
 cases o with
 | none=>exact hd
 | some v =>
   show (if v < 0 then (v+(n:Int)).toNat else min v.toNat n)<=n;by_cases hv:v < 0
   . rw [if_pos hv];lia
   . rw [if_neg hv];exact sD _ _
def BI (v:Int) (n d:Nat):(if v < 0 then max (v+(n:Int)) 0 else min v (n:Int)) = ((sIx n d (some v):Nat):Int):=by
 show (if v < 0 then max (v+(n:Int)) 0 else min v (n:Int)) = (((if v < 0 then (v+(n:Int)).toNat else min v.toNat n):Nat):Int);by_cases hv:v < 0
 . simp only [if_pos hv];lia
 . simp only [if_neg hv];lia
def Ai (lo hi:Option Int) (n:Nat):ig lo hi 1 (n:Int) = (((sIx n 0 lo:Nat):Int),((sIx n n hi:Nat):Int)):=by
 have h1:¬ ((1:Int) < 0):=by lia
 unfold ig;simp only [h1,if_false];refine Prod.ext ?_ ?_
 . cases lo with
   | none=>rfl
   | some v=>exact BI v n 0
 . cases hi with
   | none=>rfl
   | some v=>exact BI v n n
def zJ (i j:Nat):fj (i:Int) (j:Int) 1 = j - i:=by
 unfold fj;have h1:(1:Int) > 0:=by lia
 simp only [h1,if_true,Int.ediv_one];split<;>lia
def qL {v:af} {o:Option Int} {Q:Option Int->ah->Prop} (p:sG v o) (h:Q o s):wpAny (model prog w) A (Builtin.Slice.slicePartIndex v) Q E s:=by
 cases p with
 | none=>exact slicePart_none h
 | int i t=>exact slicePart_int h
def oh {sl:aq} {vl vu:af} {lo hi:Option Int} {n:Nat} {Q:Int × Int × Nat->ah->Prop} (hs:s.heap.IsSliceOf sl vl vu .none) (pl:sG vl lo) (pu:sG vu hi)
 (h:Q (((sIx n 0 lo:Nat):Int),1,sIx n n hi - sIx n 0 lo) s):wpAny (model prog w) A (nO (.ref sl) (pure (n:Int))) Q E s:=by
 obtain ⟨os,hos,hcs,hds⟩:=id hs;unfold nO Builtin.Slice.sliceFields;refine ae (ae (cR hos hds (x:=vl) rfl (ae (cR hos hds (x:=vu) rfl (ae (cR hos hds (x:=.none) rfl (ak ?_)))))));refine ae (slicePart_none ?_);show wpAny _ _ (if ((1:Int) == 0) = true then _ else _) _ _ s;rw [if_neg ⇑0];refine ae (qL pl (ae (qL pu (ae (ak ?_)))));show wpAny _ _ (match ig lo hi 1 (n:Int) with | (lo,hi)=>pure (lo,(1:Int),fj lo hi 1)) _ _ s;rw [Ai lo hi n];show wpAny _ _ (pure (((sIx n 0 lo:Nat):Int),(1:Int),fj ((sIx n 0 lo:Nat):Int) ((sIx n n hi:Nat):Int) 1)) _ _ s;rw [zJ];exact ak h
def FG (xs:Array af) (i k:Nat):((bo k).filterMap λ(m:Nat)=>xs[((i:Int)+(m:Int) * 1).toNat]?).toArray = ((xs.toList.drop i).take k).toArray:=by
 have e:(λ(m:Nat)=>xs[((i:Int)+(m:Int) * 1).toNat]?) = λm=>xs[i+m]? := by
  funext m
  have:((i:Int)+(m:Int) * 1).toNat = i+m:=by lia
  rw [this]
 rw [e];have:=pick_run xs i k;rw [List.filterMap_map] at this;have e2:((λx=>xs[x]?) ∘ λx=>i+x) = λm=>xs[i+m]? := rfl;rw [e2] at this;rw [this]
def getItem_tuple_cut {t sl:aq} {items:Array af} {vl vu:af} {lo hi:Option Int} {Q:af->ah->Prop} (ht:Ky s.heap t items) (hs:s.heap.IsSliceOf sl vl vu .none) (pl:sG vl lo) (pu:sG vu hi)
 (hw:¬ (sIx items.size 0 lo = 0/\sIx items.size items.size hi = items.size))
 (h:Q (.ref s.heap.objs.size) { s with heap:=s.heap.push { cls:=.type "tuple",data:=.seq ((items.toList.drop (sIx items.size 0 lo)).take (sIx items.size items.size hi - sIx items.size 0 lo)).toArray } })
 (hsz:items.size<=sizeLine):wpAny (model prog w) A (getItem (.ref t) (.ref sl)) Q E s:=by
 have htake:sizeOk (.seq ((items.toList.drop (sIx items.size 0 lo)).take (sIx items.size items.size hi - sIx items.size 0 lo)).toArray):=by
  show ((items.toList.drop (sIx items.size 0 lo)).take (sIx items.size items.size hi - sIx items.size 0 lo)).toArray.size<=sizeLine;rw [aC,bJ,hJ,bu];omega
 have hj:sIx items.size items.size hi<=items.size:=Mv _ _ (aw _) hi;obtain ⟨os,hos,hcs,hds⟩:=id hs;have hTs:s.TypeIs (.ref sl) "slice":=⟨os,hos,hcs⟩;unfold getItem
 try with_reducible refine cc ?_
 first | refine ae (ak ?_) | skip
 refine ae (wpAny_sequenceKey ht.typeIs ⇑0 ?_)
 refine ae (cS (name:=du "__getitem__") ht.typeIs lR
  (cg lR ht.typeIs entry_tuple_getitem ?_ (args_tuple_getitem _ _)))
 show wpAny _ _ (nN (.ref t) >>= _) _ _ s;refine ae (tupleItemsOf_ ht ?_);refine ae (sZ hTs ?_);rw [if_pos ⇑0];refine ae (oh hs pl pu ?_)
 have hno:¬ ((((sIx items.size 0 lo:Nat):Int) == 0 && (1:Int) == 1 && (sIx items.size items.size hi - sIx items.size 0 lo) == items.size) = true):=by
  intro q;rw [aa,aa] at q;have q1:((sIx items.size 0 lo:Nat):Int) = 0:=eq_of_beq q.1.1;have q2:sIx items.size items.size hi - sIx items.size 0 lo = items.size:=eq_of_beq q.2;exact hw ⟨by omega,by omega⟩
 show wpAny _ _ (if (((sIx items.size 0 lo:Nat):Int) == 0 && (1:Int) == 1 && (sIx items.size items.size hi - sIx items.size 0 lo) == items.size) = true then _ else _) _ _ s;rw [if_neg hno,FG]
 first
  | exact ae (m:=fB _) (bx (ak ⟨_,rfl,ak h⟩) htake)
  | exact ae (m:=fB _) (bx (ae (ak (ak ⟨_,rfl,ak h⟩))) htake)
  | exact ae (ae (m:=fB _) (bx (ak (ak ⟨_,rfl,ak h⟩)) htake))
  | exact ae (ae (m:=fB _) (bx (ak ⟨_,rfl,ak h⟩) htake))
end
end HT
namespace L2
open PySem PySem.Spec PyProof.Rows
abbrev TO:=St->Hp->(Option Int->Hp->Prop)->Prop
def PO (X:Cx) (e:Option aG) (t:TO):Prop :=
 ∀ (pins:List (aq × Obj)) (s:ah) (σ:St) (H:Hp) (Q:Option Int->Hp->Prop),Inv X pins σ H s->t σ H Q ->
  wpAny (model X.prog X.w) X.A (evalPart e X.env) (λu s'=>∃ o H',Inv X pins σ H' s'/\sG u o/\Q o H') X.xe s
def Iu:TO:=λ_ H Q=>Q none H
def OT (t:TE):TO:=λσ H Q=>t σ H λx H1=>∃ i,x = .int i/\Q (some i) H1
section
variable {X:Cx} {e:aG} {te:TE} {lo hi:Option aG} {tl th:TO} {pos p2:Pos}
def Jl:PO X none Iu:=by
 intro pins s σ H Q I h;rw [evalPart_none];exact ak ⟨none,H,I,.none,h⟩
def Jk (h:PE X e te):PO X (some e) (OT te):=by
 intro pins s σ H Q I hw;rw [evalPart_some];refine thn (h pins s σ H _ I hw) λu s1 zz=>?_;obtain ⟨x,H1,I1,r1,q1⟩:=zz;obtain ⟨i,rfl,q⟩:=q1;obtain ⟨t,rfl⟩:=r1;exact ⟨some i,H1,I1,.int i t,q⟩
def SlR (X:Cx) (r:V->Option Int->Option Int->Hp->VK->Prop):Prop :=
 ∀ (pins:List (aq × Obj)) (s:ah) (σ:St) (H:Hp) (x:V) (v vl vu:af) (lo hi:Option Int) (sl:aq) (Q:VK),Inv X pins σ H s->RelV x v->s.heap.IsSliceOf sl vl vu .none->sG vl lo->sG vu hi->r x lo hi H Q ->
  ∃ T id,typeLookup (.type T) "__getitem__" = pure (some (.builtin id))/\s.TypeIs v T/\wpAny (model X.prog X.w) X.A (getItem v (.ref sl)) (EP X pins σ Q) X.xe s
def SlR.or {r r':V->Option Int->Option Int->Hp->VK->Prop} (h:SlR X r) (h':SlR X r'):SlR X (λx lo hi H Q=>r x lo hi H Q\/r' x lo hi H Q):=by
 intro pins s σ H x v vl vu lo hi sl Q I rx hs pl pu q;rcases q with q | q
 . exact h pins s σ H x v vl vu lo hi sl Q I rx hs pl pu q
 . exact h' pins s σ H x v vl vu lo hi sl Q I rx hs pl pu q
def tSl (r:V->Option Int->Option Int->Hp->VK->Prop) (te:TE) (tl th:TO):TE:=λσ H Q=>te σ H λx H1=>tl σ H1 λl H2=>th σ H2 λu H3=>r x l u H3 Q
def xO (hr:SlR X r) (he:PE X e te) (hl:PO X lo tl) (hu:PO X hi th):PE X (.Subscript e (.Slice lo hi none p2) pos) (tSl r te tl th):=by
 intro pins s σ H Q I h;refine Subscript_ (thn (he pins s σ H _ I h) λv s1 ⟨x,H1,I1,r1,q1⟩=>?_);refine wpAny_Slice (thn (hl pins s1 σ H1 _ I1 q1) λvl s2 ⟨l,H2,I2,pl,q2⟩=>thn (hu pins s2 σ H2 _ I2 q2) λvu s3 ⟨u,H3,I3,pu,q3⟩=>?_);rw [evalPart_none];refine ak ?_;have I4:Inv X pins σ H3 { s3 with heap:=s3.heap.push { cls:=.type "slice",data:=.fields #[vl,vu,.none] } }:=I3.kept (t':=s3.toks) λb ob q=>ai _ q;obtain ⟨T,id,hT,ht,hg⟩:=hr pins { s3 with heap:=s3.heap.push { cls:=.type "slice",data:=.fields #[vl,vu,.none] } } σ H3 x v vl vu l u s3.heap.objs.size Q I4 r1 (Heap.IsSliceOf.new ..) pl pu q3;show wpAny (model X.prog X.w) X.A (subscriptTail e (.Slice lo hi none p2) v (.ref s3.heap.objs.size)) (EP X pins σ Q) X.xe { s3 with heap:=s3.heap.push { cls:=.type "slice",data:=.fields #[vl,vu,.none] } };exact tail_any (ops:=[.ref s3.heap.objs.size,v]) ht hT hg (by with_unfolding_all rfl)
def sU (xs:List V) (lo hi:Option Int):List V:=(xs.drop (HT.sIx xs.length 0 lo)).take (HT.sIx xs.length xs.length hi - HT.sIx xs.length 0 lo)
def px (xs:List V) (lo hi:Option Int):(sU xs lo hi).length<=xs.length:=by
 unfold sU;rw [bJ,hJ]
 lia
def QN (K:PySem.W.Frag):V->Option Int->Option Int->Hp->VK->Prop:=λx lo hi H Q=>∃ a xs,x = .ref a/\SqT K H a xs /\
 ¬ (HT.sIx xs.length 0 lo = 0/\HT.sIx xs.length xs.length hi = xs.length)/\∀ p,H p = none->Q (.ref p) (upd H p (.tup (sU xs lo hi)))
def Mp:SlR X (QN X.K):=by
 intro pins s σ H x v vl vu lo hi sl Q I rx hs pl pu h;obtain ⟨a,xs,rfl,hx,hw,q⟩:=h;cases rx;obtain ⟨its,r,ht,hz⟩:=I.tuple hx;have hlen:its.toArray.size = xs.length:=by rw [aC];exact r.length.symm
 refine ⟨"tuple",_,PyProof.Rows.slot_tuple_getitem.lookup,ht.typeIs,?_⟩;refine HT.getItem_tuple_cut ht hs pl pu (by rw [hlen];exact hw) ?_ (by rw [hlen];exact hz);rw [hlen];refine ⟨.ref s.heap.objs.size,_,I.laid (t':=s.toks) (o:=.tup (sU xs lo hi)) (λb ob q=>ai _ q) (aw _) ?_,rfl,q _ (I.hok.fresh (aw _))⟩;exact ⟨bF (px xs lo hi) hz,_,(r.drop (HT.sIx xs.length 0 lo)).take (HT.sIx xs.length xs.length hi - HT.sIx xs.length 0 lo),wD _ _⟩
def KN (K:PySem.W.Frag):R2:=λx y H Q=>∃ a b xs ys,x = .ref a/\y = .ref b/\SqT K H a xs/\SqT K H b ys/\xs≠[]/\xs.length+ys.length<=sizeLine /\
 (ys = []->Q (.ref a) H)/\(ys≠[]->∀ p,H p = none->Q (.ref p) (upd H p (.tup (xs++ys))))
def Vals.nil_iff (r:Vals xs us):us = []↔xs = []:=by
 cases r with
 | nil=>simp
 | cons _ _=>simp
def Jw:OpR X (binaryOp .Add) (KN X.K):=by
 intro pins s σ H x y v u Q I rx ry h;obtain ⟨a,b,xs,ys,rfl,rfl,ha,hb,hx,hz,q1,q2⟩:=h;cases rx;cases ry;obtain ⟨its,r1,p1,_⟩:=I.tuple ha;obtain ⟨its2,r2,p2,_⟩:=I.tuple hb;refine HT.cat_tup p1 p2 (λz=>hx (r1.nil_iff.mp z)) (λz=>⟨.ref a,H,I,rfl,q1 (r2.nil_iff.mp z)⟩) (λz=>?_) (by rw [<- r1.length,<- r2.length];exact hz);refine ⟨.ref s.heap.objs.size,_,I.laid (t':=s.toks) (o:=.tup (xs++ys)) (λb ob q=>ai _ q) (aw _) ?_,rfl,q2 (λw=>z (r2.nil_iff.mpr w)) _ (I.hok.fresh (aw _))⟩;exact ⟨by rw [ay];exact hz,_,r1.append r2,wD _ _⟩
end
end L2
namespace L2
open PySem PySem.Spec PyProof.Rows
def ixN (n:Nat) (i:Int):Option Nat:=if 0<=i then (if i < n then some i.toNat else none) else if -(n:Int)<=i then some (i+n).toNat else none
def atI {α:Type} (xs:List α) (i:Int):Option α:=(ixN xs.length i).bind λj=>xs[j]?
def Bp (h:ixN n i = some j):seqIndex? i n = some j/\j < n/\-(n:Int)<=i/\i < n:=by
 unfold ixN at h;by_cases h0:0<=i
 . rw [if_pos h0] at h;by_cases h1:i < n
   . rw [if_pos h1] at h;have e:i.toNat = j:=bA h;exact ⟨by rw [Ks h0 h1,e],∅,∅,h1⟩
   . rw [if_neg h1] at h;cases h
 . rw [if_neg h0] at h;by_cases h1:-(n:Int)<=i
   . rw [if_pos h1] at h;have e:(i+n).toNat = j:=bA h;exact ⟨by rw [HG ∅ h1,e],∅,h1,∅⟩
   . rw [if_neg h1] at h;cases h
def wx {α:Type} {xs:List α} {i:Int} {v:α} (h:atI xs i = some v):∃ j,seqIndex? i xs.length = some j/\xs[j]? = some v/\j < xs.length/\-(xs.length:Int)<=i/\i < xs.length:=by
 unfold atI at h
 cases e:ixN xs.length i with
 | none=>rw [e] at h;cases h
 | some j =>
   rw [e] at h;obtain ⟨h1,h2,h3,h4⟩:=Bp e;exact ⟨j,h1,h,h2,h3,h4⟩
def atI_nat {α:Type} {xs:List α} {j:Nat} {v:α} (h:xs[j]? = some v):atI xs (j:Int) = some v:=by
 have hj:j < xs.length:=(aD.mp h).1
 have e:ixN xs.length (j:Int) = some j:=by
  unfold ixN;rw [if_pos ∅,if_pos ∅];simp
 unfold atI;rw [e];exact h
def PlainIx (b:aG):Prop:=∀ o i,subscripted b false o i = operate [o,i] (getItem o i)
def IxR (X:Cx) (r:R2):Prop :=
 ∀ (value slice:aG) (pins:List (aq × Obj)) (s:ah) (σ:St) (H:Hp) (x y:V) (v u:af) (Q:VK),Inv X pins σ H s->RelV x v->RelV y u->r x y H Q ->
  subscripted slice false v u = operate [v,u] (getItem v u)->wpAny (model X.prog X.w) X.A (subscriptTail value slice v u) (EP X pins σ Q) X.xe s
def MtR (X:Cx) (id:String) (r:V->List V->Hp->VK->Prop):Prop :=
 ∀ (pins:List (aq × Obj)) (s:ah) (σ:St) (H:Hp) (x:V) (xs:List V) (v:af) (us:List af) (Q:VK),Inv X pins σ H s->RelV x v->Vals xs us->r x xs H Q ->
  wpAny (model X.prog X.w) X.A (call (.builtin id) (v::us)) (EP X pins σ Q) X.xe s
section
variable {X:Cx} {a b:aG} {ta tb:TE} {pos:Pos}
def IxR.or {r r':R2} (h:IxR X r) (h':IxR X r'):IxR X (λx y H Q=>r x y H Q\/r' x y H Q):=by
 intro value slice pins s σ H x y v u Q I rx ry q hs;rcases q with q | q
 . exact h value slice pins s σ H x y v u Q I rx ry q hs
 . exact h' value slice pins s σ H x y v u Q I rx ry q hs
def Pn (hr:IxR X r) (ha:PE X a ta) (hb:PE X b tb) (hs:PlainIx b):PE X (.Subscript a b pos) (tOp r ta tb):=by
 intro pins s σ H Q I h;exact Subscript_ (Oi ha hb I h λv u s2 x y H2 I2 rx ry q=>hr a b pins s2 σ H2 x y v u Q I2 rx ry q (hs _ _))
def Ph (K:PySem.W.Frag):R2:=λx y H Q=>∃ p xs i v,x = .ref p/\y = .int i/\SqL K H p xs/\atI xs i = some v/\Q v H
def Pf (K:PySem.W.Frag):R2:=λx y H Q=>∃ p xs i v,x = .ref p/\y = .int i/\SqT K H p xs/\atI xs i = some v/\Q v H
def Pg:R2:=λx y H Q=>∃ z i c,x = .str z/\y = .int i/\z.length<=sizeLine/\atI z.cps.toList i = some c/\Q (.str ⟨#[c]⟩) H
def JQ:IxR X (Ph X.K):=by
 intro value slice pins s σ H x y v u Q I rx ry h hs;obtain ⟨p,xs,i,z,rfl,rfl,hq,he,q⟩:=h;cases rx;obtain ⟨t,rfl⟩:=ry;obtain ⟨its,r,pl,hz⟩:=I.list hq;obtain ⟨j,h1,h2,h3,h4,h5⟩:=wx he;obtain ⟨w,ew,rw'⟩:=r.get h2;have hl:=r.length;have hn:=mr;have fin:EP X pins σ Q w s:=⟨z,H,I,rw',q⟩;by_cases h0:0<=i
 . have hj:i.toNat = j:=by
    rw [Ks h0 h5] at h1;exact bA h1
   exact item_listR pl.isList h0 ∅ (by rw [hj];simpa using ew) fin hs
 . have hj:(i+(its.toArray.size:Int)).toNat = j:=by
    rw [HG ∅ h4] at h1;rw [aC,<- hl];exact bA h1
   exact HF (x:=w) pl.isList.typeIs slot_list_getitem.lookup
    (wpAny_getItem_list_neg (Q:=λr s'=>r = w/\EP X pins σ Q r s') pl.isList ∅ (by rw [aC]<;>lia) ∅ (by rw [hj];simpa using ew) ⟨rfl,fin⟩) hs
def NF:IxR X (Pf X.K):=by
 intro value slice pins s σ H x y v u Q I rx ry h hs;obtain ⟨p,xs,i,z,rfl,rfl,hq,he,q⟩:=h;cases rx;obtain ⟨t,rfl⟩:=ry;obtain ⟨its,r,pl,hz⟩:=I.tuple hq;obtain ⟨j,h1,h2,h3,h4,h5⟩:=wx he;obtain ⟨w,ew,rw'⟩:=r.get h2;have hl:=r.length;have hn:=mr;have fin:EP X pins σ Q w s:=⟨z,H,I,rw',q⟩
 exact HF (x:=w) pl.typeIs slot_tuple_getitem.lookup
  (getItem_tuple (j:=j) (Q:=λr s'=>r = w/\EP X pins σ Q r s') pl ∅ ∅ (by rw [aC,<- hl];exact h1) (by simpa using ew) ⟨rfl,fin⟩) hs
def NG:IxR X Pg:=by
 intro value slice pins s σ H x y v u Q I rx ry h hs;obtain ⟨z,i,c,rfl,rfl,hz,he,q⟩:=h;obtain ⟨t,rfl⟩:=rx;obtain ⟨t',rfl⟩:=ry;obtain ⟨j,h1,h2,h3,h4,h5⟩:=wx he;have hl:z.cps.toList.length = z.length:=by simp [Str.length]
 rw [hl] at h1 h4 h5;have hn:=mr
 exact tail_any (Oz s z t) slot_str_getitem.lookup (getItem_str (c:=c) (by
  have e1:decide (i < -(2 ^ 63:Int)) = false:=decide_eq_false ∅;have e2:decide (i ≥ 2 ^ 63) = false:=decide_eq_false ∅;rw [e1,e2,Bool.or_false]) (by rw [h1];simpa using h2) ⟨.str ⟨#[c]⟩,H,I.tok _,⟨_,rfl⟩,q⟩) hs
def rIx (K:PySem.W.Frag):R2:=λx y H Q=>Ph K x y H Q\/Pf K x y H Q\/Pg x y H Q
def NH:IxR X (rIx X.K):=JQ.or (NF.or NG)
def zV (its:List af) (n j:Nat) (u:af):cu (·.setIfInBounds j u) { cls:=.type "list",data:=.seq its.toArray n } = { cls:=.type "list",data:=.seq (its.set j u).toArray n }:=by
 simp [cu]
def Inv.lst {pins:List (aq × Obj)} {σ:St} {H:Hp} {s:ah} {p:aq} {xs:List V} (I:Inv X pins σ H s) (h:H p = some (.lst xs)) :
 ∃ (its:List af) (n:Nat),Vals xs its/\s.heap.get? p = some { cls:=.type "list",data:=.seq its.toArray n }/\xs.length<=sizeLine:=by
 obtain ⟨z,its,n,r,e⟩:=I.hok p _ h;exact ⟨its,n,r,e,z⟩
def Inv.lstUpd {pins:List (aq × Obj)} {σ:St} {H:Hp} {s:ah} {p:aq} {xs ys:List V} {its its':List af} {n n':Nat} {f:Obj->Obj} (I:Inv X pins σ H s) (h:H p = some (.lst xs))
 (ho:s.heap.get? p = some { cls:=.type "list",data:=.seq its.toArray n }) (hf:f { cls:=.type "list",data:=.seq its.toArray n } = { cls:=.type "list",data:=.seq its'.toArray n' }) (r:Vals ys its') (hz:ys.length<=sizeLine) (t:Nat) :
 Inv X pins σ (upd H p (.lst ys)) { s with heap:=s.heap.update p f,toks:=t }:=by
 have e:(s.heap.update p f).get? p = some { cls:=.type "list",data:=.seq its'.toArray n' }:=by
  rw [cZ f ho (by rw [hf]<;>rfl),hf]
 refine I.write (x:=p) (e:=p) (by rw [h];trivial) (.inl rfl) (λb u hb q=>(dG _ _ (Ne.symm hb)).trans q) ⟨_,e⟩ ?_;exact ⟨hz,its',n',r,e⟩
def Pe:V->V->V->Hp->(Hp->Prop)->Prop:=λo i v H Q=>∃ p xs k j,o = .ref p/\i = .int k/\H p = some (.lst xs)/\ixN xs.length k = some j/\Q (upd H p (.lst (xs.set j v)))
def set_list:Qc X Pe:=by
 intro pins s σ H o i v ov iv u Q I ro ri rv h;obtain ⟨p,xs,k,j,rfl,rfl,hp,hj,q⟩:=h;cases ro;obtain ⟨t,rfl⟩:=ri;obtain ⟨its,n,r,ho,hz⟩:=I.lst hp;obtain ⟨h1,h2,h3,h4⟩:=Bp hj;have hl:=r.length;have hn:=mr
 have I':Inv X pins σ (upd H p (.lst (xs.set j v))) { s with heap:=s.heap.update p (cu (·.setIfInBounds j u)) } :=
  I.lstUpd hp ho (zV its n j u) (r.set rv j) (by rw [bO];exact hz) s.toks
 by_cases h0:0<=k
 . have hk:k.toNat = j:=by
    rw [Ks h0 h4] at h1;exact bA h1
   exact PySem.W.ki_setAt ho h0 ∅ (by rw [aC,<- hl];exact h4) (by rw [hk];exact ⟨_,I',q⟩)
 . have hk:(k+(its.toArray.size:Int)).toNat = j:=by
    rw [HG ∅ h3] at h1;rw [aC,<- hl];exact bA h1
   exact PySem.W.ki_setBack ho ∅ (by rw [aC,<- hl];exact h3) ∅ (by rw [hk];exact ⟨_,I',q⟩)
def vg (lo hi:Option Int) (n:Nat):(sliceBounds lo hi none n).1 = ((HT.sIx n 0 lo:Nat):Int)/\(sliceBounds lo hi none n).2.1 = ((HT.sIx n n hi:Nat):Int)/\(sliceBounds lo hi none n).2.2 = 1:=by
 refine ⟨?_,?_,rfl⟩
 . cases lo with
   | none=>simp [sliceBounds,HT.sIx]
   | some i =>
     simp only [sliceBounds,HT.sIx,DJ,show (1:Int) > 0 by decide,if_true];by_cases h:i < 0
     . simp only [h,if_true]<;>lia
     . simp only [h,if_false]<;>lia
 . cases hi with
   | none=>simp [sliceBounds,HT.sIx]
   | some i =>
     simp only [sliceBounds,HT.sIx,DJ,show (1:Int) > 0 by decide,if_true];by_cases h:i < 0
     . simp only [h,if_true]<;>lia
     . simp only [h,if_false]<;>lia
def sO (its:List af) (lo hi:Option Int):slicePick its.toArray lo hi none = ((its.drop (HT.sIx its.length 0 lo)).take (HT.sIx its.length its.length hi - HT.sIx its.length 0 lo)).toArray:=by
 obtain ⟨h1,h2,h3⟩:=vg lo hi its.toArray.size;unfold slicePick;rw [h1,h2,h3];simp only [sliceRange_one,pick_run,aC]<;>rfl
def QP (K:PySem.W.Frag):V->Option Int->Option Int->Hp->VK->Prop:=λx lo hi H Q=>∃ a xs,x = .ref a/\SqL K H a xs/\∀ p,H p = none->Q (.ref p) (upd H p (.lst (sU xs lo hi)))
def AJ:SlR X (QP X.K):=by
 intro pins s σ H x v vl vu lo hi sl Q I rx hs pl pu h;obtain ⟨a,xs,rfl,hx,q⟩:=h;cases rx;obtain ⟨its,r,ht,hz⟩:=I.list hx;have hlen:=r.length;refine ⟨"list",_,slot_list_getitem.lookup,ht.isList.typeIs,?_⟩;refine wpAny_getItem_list_slice ht.isList hs pl pu .none ↥0 ?_ (by rw [aC]<;>lia);rw [sO,<- hlen];refine ⟨.ref s.heap.objs.size,_,I.laid (t':=s.toks) (o:=.lst (sU xs lo hi)) (λb ob q=>ai _ q) (aw _) ?_,rfl,q _ (I.hok.fresh (aw _))⟩;exact ⟨bF (px xs lo hi) hz,_,0,(r.drop (HT.sIx xs.length 0 lo)).take (HT.sIx xs.length xs.length hi - HT.sIx xs.length 0 lo),aE _ rfl⟩
def wu:cE X (.builtin "len") (λxs H Q=>∃ p ys,xs = [.ref p]/\(SqL X.K H p ys\/SqT X.K H p ys)/\Q (.int ys.length) H):=by
 intro pins s σ H xs us Q I r h;obtain ⟨p,ys,rfl,hq,q⟩:=h;obtain ⟨u,rfl,rx⟩:=vals1 r;cases rx;have hn:=mr;rcases hq with hq | hq
 . obtain ⟨its,r',pl,hz⟩:=I.list hq;have hlen:=r'.length;exact Calls.call_len_list pl.isList (by simp only [aC]<;>lia) ⟨.int ys.length,H,I.tok _,⟨s.toks+1,by rw [aC,hlen]⟩,q⟩
 . obtain ⟨its,r',pl,hz⟩:=I.tuple hq;have hlen:=r'.length;exact len_tuple pl (by simp only [aC]<;>lia) ⟨.int ys.length,H,I.tok _,⟨s.toks+1,by rw [aC,hlen]⟩,q⟩
def wt:cE X (.builtin "len") (λxs H Q=>∃ z,xs = [.str z]/\z.length<=sizeLine/\Q (.int z.length) H):=by
 intro pins s σ H xs us Q I r h;obtain ⟨z,rfl,hz,q⟩:=h;obtain ⟨u,rfl,t,rfl⟩:=vals1 r;have hn:=mr;exact len_str ∅ ⟨.int z.length,H,I.tok _,⟨_,rfl⟩,q⟩
def cE.or {f:af} {r r':List V->Hp->VK->Prop} (h:cE X f r) (h':cE X f r'):cE X f (λxs H Q=>r xs H Q\/r' xs H Q):=by
 intro pins s σ H xs us Q I rs q;rcases q with q | q
 . exact h pins s σ H xs us Q I rs q
 . exact h' pins s σ H xs us Q I rs q
def nG:cE X (.type "list") (λxs H Q=>∃ p ys,xs = [.ref p]/\(SqL X.K H p ys\/SqT X.K H p ys)/\∀ l,H l = none->Q (.ref l) (upd H l (.lst ys))):=by
 intro pins s σ H xs us Q I r h;obtain ⟨p,ys,rfl,hq,q⟩:=h;obtain ⟨u,rfl,rx⟩:=vals1 r;cases rx
 have fin:∀ (its:List af),Vals ys its->ys.length<=sizeLine->∀ (h':bG) (c':Nat),(∀ b o',s.heap.get? b = some o'->h'.get? b = some o') ->
  h'.get? s.heap.objs.size = some { cls:=.type "list",dict:=none,data:=.seq its.toArray c',slots := #[] }->EP X pins σ Q (.ref s.heap.objs.size) { s with heap:=h' }:=λits r' hz h' c' kp e =>
  ⟨.ref s.heap.objs.size,_,I.laid (t':=s.toks) kp (aw _) (show gH X.prog X.w _ h' _ (.lst ys) from ⟨hz,its,c',r',e⟩),rfl,q _ (I.hok.fresh (aw _))⟩
 rcases hq with hq | hq
 . obtain ⟨its,r',pl,hz⟩:=I.list hq;have hlen:=r'.length;obtain ⟨o,ho,hc,n,hd⟩:=pl.isList;exact call_list_seq p (.inl rfl) ho hc hd (λh' c' kp e=>fin its r' hz h' c' kp e) (by simp only [aC]<;>lia)
 . obtain ⟨its,r',pl,hz⟩:=I.tuple hq;have hlen:=r'.length;obtain ⟨o,ho,hc,n,hd⟩:=pl;exact call_list_seq p (.inr rfl) ho hc hd (λh' c' kp e=>fin its r' hz h' c' kp e) (by simp only [aC]<;>lia)
def sW:cE X (.type "tuple") (λxs H Q=>∃ p ys,xs = [.ref p]/\((SqL X.K H p ys/\∀ l,H l = none->Q (.ref l) (upd H l (.tup ys)))\/(SqT X.K H p ys/\Q (.ref p) H))):=by
 intro pins s σ H xs us Q I r h;obtain ⟨p,ys,rfl,h⟩:=h;obtain ⟨u,rfl,rx⟩:=vals1 r;cases rx;rcases h with ⟨hq,q⟩ | ⟨hq,q⟩
 . obtain ⟨its,r',pl,hz⟩:=I.list hq;have hlen:=r'.length;refine call_tuple_list pl.isList (λh' kp=>?_) (by simp only [aC]<;>lia);have I1:Inv X pins σ H { s with heap:=h' }:=I.kept (t':=s.toks) kp
   have I2:Inv X pins σ (upd H h'.objs.size (.tup ys)) { s with heap:=h'.push { cls:=.type "tuple",data:=.seq its.toArray } } :=
    I1.laid (t':=s.toks) (λb o e=>ai _ e) (aw _) (show gH X.prog X.w _ _ _ (.tup ys) from ⟨hz,its,r',wD _ _⟩)
   exact ⟨.ref h'.objs.size,_,I2,rfl,q _ (I1.hok.fresh (aw _))⟩
 . obtain ⟨its,r',pl,hz⟩:=I.tuple hq;exact call_tuple_same pl ⟨.ref p,H,I,rfl,q⟩
def tyV (K:PySem.W.Frag) (T:String) (x:V) (H:Hp):Prop:=match x with
 | .str _=>T = "str"
 | .int _=>T = "int"
 | .ref p=>(T = "list"/\∃ xs,SqL K H p xs)\/(T = "tuple"/\∃ o,K.lookup p = some o/\o.cls = .type "tuple"/\o.dict = none)
 | _=>False
def LU (I:Inv X pins σ H s) (r:RelV x v) (ty:tyV X.K T x H) :
 s.TypeIs v T/\∀ a,v = .ref a->∃ ob,s.heap.get? a = some ob/\ob.dict = none:=by
 cases x with
 | str z =>
   obtain ⟨t,rfl⟩:=r;cases (show T = "str" from ty)
   exact ⟨Oz s z t,λ_ e=>nomatch e⟩
 | int i =>
   obtain ⟨t,rfl⟩:=r;cases (show T = "int" from ty)
   exact ⟨typeIs_int s i t,λ_ e=>nomatch e⟩
 | ref p =>
   cases r;rcases ty with ⟨rfl,xs,hq⟩ | ⟨rfl,o,hk,hc,hd⟩
   . obtain ⟨its,_,pl,_⟩:=I.list hq;refine ⟨pl.isList.typeIs,λa e=>?_⟩;cases e;obtain ⟨o,n,e,c,hd,_⟩:=pl;exact ⟨o,e,hd⟩
   . refine ⟨⟨o,I.kIn p o hk,hc⟩,λa e=>?_⟩;cases e
     exact ⟨o,I.kIn _ o hk,hd⟩
 | _=>exact bS ty
def tBM (K:PySem.W.Frag) (T:String) (r:V->List V->Hp->VK->Prop) (to:TE) (t:TA):TE:=λσ H Q=>to σ H λx H1=>tyV K T x H1/\t σ H1 λxs H2=>r x xs H2 Q
variable {o e:aG} {es:List aG} {to:TE} {t:TA} {name:Str} {apos cpos:Pos} {T id:String} {r:V->List V->Hp->VK->Prop}
def FO (pa:PlainAttrs T) (slot:Slot T name id) (hty:typeOf (.builtin id) = pure (.type "method_descriptor")) (hm:MtR X id r) (ho:PE X o to) (ha:PA X (e::es) t)
 (hbase:attributeBase o name X.env (eval o X.env) = eval o X.env:=by rfl)
 (hfew:((backTo cpos (starEach (e::es) X.env)).all (λx=>!x.1) && (backToKw cpos (keywordEach [] X.env)).all (λx=>x.1.isSome)
   && decide ((e::es).length+([]:List ie).length+(if ([]:List ie).isEmpty then 0 else 1) < 30)) = true:=by rfl)
 (hline:(apos.endLine == cpos.line) = true:=by rfl) (hs:starEach (e::es) X.env = (false,eval e X.env)::starEach es X.env:=by rfl) (hplain:(backTo cpos (starEach es X.env)).any (·.1) = false:=by rfl) :
 PE X (.Call (.Attribute o name apos) (e::es) [] cpos) (tBM X.K T r to t):=by
 intro pins s σ H Q I h;refine wpAny_Call_method_late hbase hfew hline rfl (thn (ho pins s σ H _ I h) λv s1 ⟨x,H1,I1,r1,ty,q1⟩=>?_);obtain ⟨h1,h2⟩:=LU I1 r1 ty;refine ⟨T,id,pa,slot,hty,h1,h2,?_⟩;have hA:=ha cpos pins s1 σ H1 _ I1 q1;rw [hs] at hA |-;refine Calls.callWith_builtin (by show (false || (backTo cpos (starEach es X.env)).any (·.1)) = false;rw [hplain]<;>rfl) (Au ?_);exact thn hA λus s2 ⟨vs,H2,I2,r2,q2⟩=>hm pins s2 σ H2 x vs v us Q I2 r1 r2 q2
end
end L2
namespace L2
open PySem PySem.Spec PyProof.Rows
def MtM (X:Cx) (id:String) (r:V->List V->Hp->VK->Prop):Prop :=
 ∀ (pins:List (aq × Obj)) (s:ah) (σ:St) (H:Hp) (x:V) (xs:List V) (v:af) (us:List af) (Q:VK),Inv X pins σ H s->RelV x v->Vals xs us->r x xs H Q ->
  wpAny (model X.prog X.w) X.A (call (.builtin id) (v::us)) (EP X pins σ Q) X.xe s
def Vals.one:∀ {x:V} {us:List af},Vals [x] us->∃ u,us = [u]/\RelV x u
 | _,_,.cons r .nil=>⟨_,rfl,r⟩
def Vals.two (h:Vals [x,y] us):∃ u v,us = [u,v]/\RelV x u/\RelV y v:=by
 cases h with
 | cons r t =>
   obtain ⟨u,rfl,q⟩:=Vals.one t;exact ⟨_,_,rfl,r,q⟩
section
variable {X:Cx} {pins:List (aq × Obj)} {σ:St} {H:Hp} {s:ah} {l b:aq} {xs ys zs:List V}
def Inv.lset {its its':List af} {n:Nat} {f:Array af->Array af} {t':Nat} (I:Inv X pins σ H s) (hH:H l = some (.lst xs))
 (e:s.heap.get? l = some { cls:=.type "list",data:=.seq its.toArray n }) (hf:f its.toArray = its'.toArray) (hv:Vals ys its') (hz:ys.length<=sizeLine) :
 Inv X pins σ (upd H l (.lst ys)) { s with heap:=s.heap.update l (cu f),toks:=t' }:=by
 have q:=PySem.IsL.update e f;rw [hf] at q;refine I.write (x:=l) (e:=l) (by rw [hH];exact trivial) (.inl rfl) (λb' u hb hu=>(dG s.heap (cu f) (Ne.symm hb)).trans hu) ⟨_,q⟩ ?_;exact ⟨hz,its',_,hv,q⟩
def Inv.lnew (I:Inv X pins σ H s) (hv:Vals ys its) (hz:ys.length<=sizeLine) :
 Inv X pins σ (upd H s.heap.objs.size (.lst ys)) { s with heap:=s.heap.push { cls:=.type "list",data:=.seq its.toArray },toks:=t' } :=
 I.laid (λ_ _ q=>ai _ q) (aw _) ⟨hz,its,0,hv,aE _ rfl⟩
def Inv.fresh (I:Inv X pins σ H s):H s.heap.objs.size = none:=I.hok.fresh (aw _)
def Inv.lstM (I:Inv X pins σ H s) (hH:H l = some (.lst xs)):xs.length<=sizeLine/\∃ (its:List af) (n:Nat),Vals xs its/\xs.length = its.length/\s.heap.get? l = some { cls:=.type "list",data:=.seq its.toArray n }:=by
 obtain ⟨z,its,n,r,e⟩:=I.hok l _ hH;exact ⟨z,its,n,r,r.length,e⟩
def Gf {n:Nat} (h:n<=sizeLine):pC n = false:=by
 unfold pC;exact decide_eq_false ∅
end
section
variable {X:Cx}
def Je:V->List V->Hp->VK->Prop:=λx vs H Q=>∃ l xs y,x = .ref l/\vs = [y]/\H l = some (.lst xs)/\xs.length < sizeLine/\Q .non (upd H l (.lst (xs++[y])))
def ox:MtM X "list.append" Je:=by
 intro pins s σ H x vs v us Q I rx rv h;obtain ⟨l,xs,y,rfl,rfl,hH,hz,q⟩:=h;cases rx;obtain ⟨u,rfl,ru⟩:=rv.one;obtain ⟨z,its,n,r,hl,e⟩:=I.lstM hH;refine Ao F.slot_list_append ⟨_,e,rfl⟩ F.entry_list_append (F.args_list_append_2 _ _) (PySem.list_append l its.toArray n u (by rw [aC];lia)) ⟨e,?_⟩;refine ⟨.non,_,I.lset (its':=its++[u]) hH e ↥0 (r.append (.cons ru .nil)) ?_,rfl,q⟩;rw [ay,dO]
 lia
end
section
variable {prog:aO} {w:aZ} {A:aR} {E:af->ah->Prop} {s:ah}
end
section
variable {X:Cx}
end
end L2
namespace Att
open PySem PySem.W PySem.Calls PyProof.Rows
def pG:∀ (ns:List Int) (vs:List af),WellAll P h vs (ns.map WData.int)->HM vs ns:=by
 intro ns
 induction ns with
 | nil =>
   intro vs w;rw [yR] at w;cases w
   exact .nil
 | cons n ns ih =>
   intro vs w;rw [bp] at w
   cases w with
   | cons a b =>
     cases a;exact .cons _ _ (ih _ b)
def CK {l:OpenLaw} {n:Nat} (hn:l.most = some n) {P:Params} {h:bG} {args:List WData} {vals:List af}
 (hpre:l.row.toRowW.claim.pre args = true) (hwl:WellAll P h vals args) :
 ∃ a vs ns,vals = [bj a]/\args = [WData.list (ns.map WData.int)]/\h.get? a = some { cls:=.type "list",data:=.seq vs.toArray }/\HM vs ns/\ns.length<=n:=by
 have hsh:WShape.hasAll [] args [.list .int] = true:=(pre_splitW hpre).1;have hc:l.pre.holds [] { args:=args } = true:=(pre_splitW hpre).2;obtain ⟨d,r,rfl,h1,h2⟩:=hasAllW_cons hsh;obtain rfl:=hasAllW_nil h2;obtain ⟨xs,rfl,h3⟩:=hasW_list h1;obtain ⟨ns,rfl⟩:=items_int h3
 have hlen:ns.length<=n:=by
  unfold OpenLaw.pre at hc
  have h4:(WTm.not (.lt (.lit (.int (n:Int))) (.len (.arg 0)))).holds [] { args:=[.list (ns.map .int)] } = true:=by
   have h4:=(holds_andW hc).1;rw [hn] at h4;exact h4
  have h5:=condW_of h4 (w_not (w_lt w_lit (w_len_list (w_arg rfl))));rw [av] at h5;refine Nat.le_of_not_lt λq=>?_;have q':(n:Int) < ((ns.length:Nat):Int):=by lia
  first
   | (rw [decide_eq_true q'] at h5;exact absurd h5 ⇑0)
   | (simp at h5;lia)
 cases hwl with
 | cons w1 w2 =>
   cases w2
   cases w1 with
   | list ho hall=>exact ⟨_,_,ns,rfl,rfl,ho,pG ns _ hall,hlen⟩
def CN (l:OpenLaw) (args:List WData):l.row.toRowW.claim.post args (.bool true) args = true :=
 postW_of (r:=l.row.toRowW) (X:=(true == true))
  (show WShape.has [] (.bool true) .bool = true by first | rfl | decide | simp [WShape.has,WShape.arms,WShape.armsAll])
  (show (WTm.eq .res (.lit (.bool true))).value [] { args:=args,res:=some (.bool true),after:=args } = some (.bool (true == true)) from w_eq_bool (w_res rfl) w_lit) rfl
def attach_call {l:OpenLaw} {n:Nat} {q:aO} {loose:List Str} {XP:(Str->Option af)->bG->Prop} {YP:aZ->bG->Prop} {d:DefRec}
 (hn:l.most = some n) (hdf:d.params.defaults = [])
 (call:∀ (w:aZ) (s₀ s₁:ah) (mg mb:Str->Option af) (fa:aq) (o:Obj) (pm cd doc:af) (a:aq) (vs:List af) (ns:List Int),
   Ground q loose [] XP w s₀ mg mb s₁.heap->YP w s₁.heap ->
   s₁.heap.get? fa = some o->o.data = .func (docDef d.name d.params d.body d.scope pm cd doc)->s₁.heap.CodeRec cd d.name->mg d.name = some (.ref fa) ->
   s₁.heap.get? a = some { cls:=.type "list",data:=.seq vs.toArray }->HM vs ns->ns.length<=n->s₁.gens = #[] ->
   codeAny (model l.prog w) callerA (.call (.ref fa) ⟨[.ref a],[]⟩) (λr s'=>r = .ok (.ret (.bool true))/\OldK s₁.heap s'.heap/\s'.os = s₁.os/\kB s'.gens) s₁) :
 WalkO q loose XP YP l.row.toRowW d [] (λf vs=>PySem.call f vs):=by
 intro w s₀ s₁ mg mb G Y fa o pm cd doc dV kV ho hd hcd hD hmg hg args vals as hpre hlay hrd hwl hlo;obtain rfl:dV = .none:=Dflts.none hD hdf;obtain rfl:kV = .none:=Dflts.noKw hD;obtain ⟨a,vs,ns,rfl,rfl,hobj,hints,hlen⟩:=CK hn hpre hwl;refine enter_call (jE (call w s₀ s₁ mg mb fa o pm cd doc a vs ns G Y ho (fd_plain hd) hcd hmg hobj hints hlen hg) λr s' hq=>?_);obtain ⟨rfl,h2,h3,h4⟩:=hq;exact ⟨.inl ⟨.bool true,.bool true,[],rfl,λ_=>rfl,.bool true,CN l _,λ_=>⟨List.Pairwise.nil,λ_ hm=>(nomatch hm)⟩⟩,h2,h3,h4⟩
section
variable {prog:aO} {w:aZ} {A:aR} {E:af->ah->Prop} {s:ah} {K:Frag}
end
end Att
namespace L2
open PySem PySem.Spec PyProof.Rows
def tP:∀ {vs:List af} {ns:List Int},HM vs ns->Vals (ns.map V.int) vs
 | _,_,.nil=>.nil
 | _,_,.cons n t h=>.cons ⟨t,rfl⟩ (tP h)
end L2
namespace L2
open PySem PySem.Spec PyProof.Rows
end L2
namespace L2
open PySem PySem.Spec PyProof.Rows
def eA (s:bD):wA:=match s with
 | .FunctionDef _ a _ _ _ _ _ _ _ _=>a
 | _=>{ posonlyargs:=[],args:=[],vararg:=none,kwonlyargs:=[],kw_defaults:=[],kwarg:=none,defaults:=[] }
def cO (s:bD):List bD:=match s with
 | .FunctionDef _ _ b _ _ _ _ _ _ _=>b
 | _=>[]
def aS (s:bD):eX:=match s with
 | .FunctionDef _ _ _ _ _ _ sc _ _ _=>sc
 | _=>{ kind:=.function,names:=[],isGenerator:=false,isCoroutine:=false }
abbrev CX0:CXT:=λ_ _ _ _ _ _=>False
abbrev E0:XK:=λ_ _ _=>False
def KR:Passes CX0 X E0:=λ_ _ _ _ _ _ _ h=>h.elim
structure Fun (K:PySem.W.Frag) (x qual:Str) (st:bD) (f:aq) (fd:dU):Prop where
 ex:∃ (oc:af) (od:Option aq) (dV kV doc pm:af) (an:Option aq) (cdv ct:af) (osl:Array (Option af)),
  fd = PySem.W.fnOf x qual (eA st) (cO st) (aS st) dV kV doc pm an cdv ct/\K.lookup f = some ⟨oc,od,.func fd,osl⟩/\PySem.W.codeIn K cdv qual = true
 kp:PySem.W.keepIn K (.ref f) = true
section
variable {P:aO} {w:aZ} {K:PySem.W.Frag} {mg:Str->Option af} {base:bG}
def rR {x qual:Str} {st:bD} {f:aq} {oc:af} {od an:Option aq} {osl:Array (Option af)} {dV kV doc pm cdv ct:af} (l:K.lookup f = some ⟨oc,od,.func (PySem.W.fnOf x qual (eA st) (cO st) (aS st) dV kV doc pm an cdv ct),osl⟩)
 (c:PySem.W.codeIn K cdv qual = true) (k:PySem.W.keepIn K (.ref f) = true):Fun K x qual st f (PySem.W.fnOf x qual (eA st) (cO st) (aS st) dV kV doc pm an cdv ct):=⟨⟨oc,od,dV,kV,doc,pm,an,cdv,ct,osl,rfl,l,c⟩,k⟩
end
section
variable {X:Cx}
end
def jq {A B:Prop} (h:B):if false = true then A else B:=by
 rw [if_neg ao];exact h
def kr {A B:Prop} (h:A):if true = true then A else B:=by
 rw [if_pos rfl];exact h
def iO (H H':Hp):Prop:=∀ b o,H b = some o->H' b = some o
def iO.refl (H:Hp):iO H H:=λ_ _ h=>h
end L2
end
section
namespace L2
open PySem PySem.Spec PyProof.Rows
section
variable {κ:Type} [DecidableEq κ]
end
section
variable {P:aO} {w:aZ} {H:Hp} {h:bG} {a:aq}
end
section
variable {X:Cx} {pins:List (aq × Obj)} {σ:St} {H:Hp} {s:ah} {a:aq} {y v:V} {u r:af} {o:Option V} {A:aR} {E:af->ah->Prop}
end
section
variable {X:Cx} {pins:List (aq × Obj)} {σ:St} {H:Hp} {s:ah} {a:aq} {kvs:List (Key × V)} {k:Key} {u:af} {A:aR} {E:af->ah->Prop}
end
section
variable {X:Cx} {o i e value:aG} {pos pos' tpos:Pos} {td ty tv:TE}
end
section
variable {X:Cx} {pos:Pos}
end
structure M1 (X:Cx) (o:aG) (m:Str) (apos:Pos) (e:aG) (cpos:Pos):Prop where
 base:attributeBase o m X.env (eval o X.env) = eval o X.env
 few:((backTo cpos (starEach [e] X.env)).all (λx=>!x.1) && (backToKw cpos (keywordEach [] X.env)).all (λx=>x.1.isSome)
  && decide (([e]:List aG).length+([]:List ie).length+(if ([]:List ie).isEmpty then 0 else 1) < 30)) = true
 line:(apos.endLine == cpos.line) = true
 trees:backTo cpos (starEach [e] X.env) = [(false,eval e X.env)]
structure M2 (X:Cx) (o:aG) (m:Str) (apos:Pos) (e f:aG) (cpos:Pos):Prop where
 base:attributeBase o m X.env (eval o X.env) = eval o X.env
 few:((backTo cpos (starEach [e,f] X.env)).all (λx=>!x.1) && (backToKw cpos (keywordEach [] X.env)).all (λx=>x.1.isSome)
  && decide (([e,f]:List aG).length+([]:List ie).length+(if ([]:List ie).isEmpty then 0 else 1) < 30)) = true
 line:(apos.endLine == cpos.line) = true
 trees:backTo cpos (starEach [e,f] X.env) = [(false,eval e X.env),(false,eval f X.env)]
section
variable {X:Cx} {pins:List (aq × Obj)} {σ:St} {H:Hp} {s:ah} {a:aq} {y d:V} {u r:af} {o:Option V} {A:aR} {E:af->ah->Prop}
end
section
variable {X:Cx} {o e f:aG} {apos cpos:Pos} {td ty tx:TE}
end
section
variable {X:Cx} {pins:List (aq × Obj)} {σ:St} {H:Hp} {s:ah} {a:aq} {kvs:List (Key × V)} {A:aR} {E:af->ah->Prop}
end
section
variable {X:Cx} {pins:List (aq × Obj)} {σ:St} {H:Hp} {s:ah} {a:aq} {y:V} {u:af} {A:aR} {E:af->ah->Prop}
end
abbrev TU:=St->Hp->(St->Hp->Prop)->Prop
def PU (X:Cx) (m:Sem Unit) (t:TU):Prop :=
 ∀ (pins:List (aq × Obj)) (s:ah) (σ:St) (H:Hp) (Q:St->Hp->Prop),Inv X pins σ H s->t σ H Q ->
  wpAny (model X.prog X.w) X.A m (λ_ s'=>∃ σ' H',Inv X pins σ' H' s'/\Q σ' H') X.xe s
def PTs (X:Cx) (ifs:List aG) (t:TT):Prop :=
 ∀ (pins:List (aq × Obj)) (s:ah) (σ:St) (H:Hp) (Q:Bool->Hp->Prop),Inv X pins σ H s->t σ H Q ->
  wpAny (model X.prog X.w) X.A (forIn ifs true λc r=>if r = true then do let ok <- isTrue c X.env (eval c X.env);pure (jL ok) else pure (jL r)) (TP X pins σ Q) X.xe s
section
variable {X:Cx}
def Ji:PTs X [] (λ_ H Q=>Q true H):=λpins s σ H Q I h=>wpAny_tests_nil ⟨H,I,h⟩
def Jh (hc:PT X c t):PTs X [c] t:=λpins s σ H Q I h=>wpAny_tests_one (hc pins s σ H Q I h)
def tLp (J:It) (g:TG) (tt:TT) (tb:TU):TU:=λσ H Q=>∃ W:Nat->Nat->St->Hp->Prop,(∃ m,W 0 m σ H)/\∀ i m σ H,W i m σ H ->
 (J.stop i H/\Q σ H)\/(J.go i H/\∀ x H',J.yld i H x H'->g x σ H' λσ2 H2=>tt σ2 H2 λb H3 =>
   if b = true then tb σ2 H3 λσ4 H4=>∃ m',m' < m/\W (i+1) m' σ4 H4 else ∃ m',m' < m/\W (i+1) m' σ2 H3)
def Lf
 (hx:X.xe = λ_ _=>False) (hc:X.calm = true)
 (hq:(Code.compLoop e d (.ref it) acc X.env).quiet = true)
 (hden:(model X.prog X.w).den (.compLoop e d (.ref it) acc X.env) = (compTurn e d (.ref it) acc X.env).onRaise (λx=>do noteFrame x X.env;theTreesLotGoes x))
 (hund:X.A.under (.compLoop e d (.ref it) acc X.env) = X.A)
 (hturn:compTurn e d (.ref it) acc X.env = (do
   standAt ip
   match <- pyNext (.ref it) with
   | none=>pure (.done .next)
   | some v =>
     letOwnedTupleGo tg (.ref it) v
     assign tg X.env v
     let mut ok:=true
     for c in ifs do
      if ok then ok <- isTrue c X.env (eval c X.env)
     if ok then body
     again (.compLoop e d (.ref it) acc X.env)))
 (T:Turn X.prog X.w X.K tg J fp it tn) (hg:PG X tg g) (ht:PTs X ifs tt) (hb:PU X body tb) {R:sy->ah->Prop}
 {pins:List (aq × Obj)} {s:ah} {σ:St} {H:Hp} {Q:St->Hp->Prop} (I:Inv X pins σ H s) (st:tn 0 s.heap) (f:∀ b∈fp,kx X pins H b) (h:tLp J g tt tb σ H Q)
 (hR:∀ s' σ' H',Inv X pins σ' H' s'->Q σ' H'->R (.ok .next) s'):codeAny (model X.prog X.w) X.A (.compLoop e d (.ref it) acc X.env) R s:=by
 obtain ⟨W,⟨m0,w0⟩,turn⟩:=h;have stat:∀ {H':Hp},(∀ b∈fp,H' b = none)->∀ b∈fp,kx X pins H' b:=λhn b hb=>⟨hn b hb,(f b hb).2⟩;refine codeAny_loop hq (λn s'=>∃ i σ' H',Inv X pins σ' H' s'/\tn i s'.heap/\(∀ b∈fp,H' b = none)/\W i n σ' H') ?_ m0 ⟨0,σ,H,I,st,λb hb=>(f b hb).1,w0⟩;rintro n s3 ⟨i,σ3,H3,I3,st3,fr3,w3⟩;rw [hden,hund,hturn];refine wpAny_noted ?_
 have cut:∀ {α:Type} {m:Sem α} {Q:α->ah->Prop} {s:ah} {E':af->ah->Prop},wpAny (model X.prog X.w) X.A m Q X.xe s->wpAny (model X.prog X.w) X.A m Q E' s:=λz=>by
  rw [hx] at z;exact wpAny_noRaise z
 refine ae (kZ (ae ?_));rcases turn i n σ3 H3 w3 with ⟨stop,qn⟩ | ⟨go,step⟩
 . refine cut (thn (T.done X rfl rfl rfl hc i pins s3 σ3 H3 X.xe I3 (stat fr3) st3 stop) λr s4 ⟨hr,I4⟩=>?_);subst hr;exact ak (hR s4 σ3 H3 I4 qn)
 . refine cut (thn (T.item X rfl rfl rfl hc i pins s3 σ3 H3 X.xe I3 (stat fr3) st3 go) λr s4 ⟨u,hr,h4⟩=>?_);subst hr;refine ae (cut (thn h4 λ_ s5 ⟨x,H5,I5,r5,y5,st5,fr5⟩=>?_));have I5':=I5.pinned (stat fr5) (T.obj _ _ st5);refine ae (cut (thn (hg _ s5 σ3 H5 x u _ I5' r5 (step x H5 y5)) λ_ s6 ⟨σ6,H6,I6,q6⟩=>?_))
   have again:∀ {σ7:St} {H7:Hp} {s7:ah},Inv X (pins++qU fp s5.heap) σ7 H7 s7->(∃ m',m' < n/\W (i+1) m' σ7 H7)->∃ m,m < n/\∃ i σ' H',Inv X pins σ' H' s7/\tn i s7.heap/\(∀ b∈fp,H' b = none)/\W i m σ' H':=λ{σ7 H7 s7} I7 n7=>by
    obtain ⟨m',hm,w7⟩:=n7;refine ⟨m',hm,i+1,σ7,H7,I7.unpinned,T.keep _ _ _ st5 λb hb o e=>(I7.pin (b,o) (aQ _ (aQ _ (jS hb e)))).1,λb hb=>?_,w7⟩;obtain ⟨o,e,d⟩:=T.obj _ _ st5 b hb;exact (I7.pin (b,o) (aQ _ (aQ _ (jS hb e)))).2.1
   refine ae (cut (thn (ht _ s6 σ6 H6 _ I6 q6) λok s7 ⟨H7,I7,q7⟩=>?_))
   cases ok with
   | false =>
     rw [if_neg ao] at q7
     exact ak ⟨rfl,again I7 q7⟩
   | true =>
     rw [if_pos rfl] at q7;refine ae (cut (thn (hb _ s7 σ6 H7 _ I7 q7) λ_ s8 ⟨σ8,H8,I8,q8⟩=>?_));exact ak ⟨rfl,again I8 q8⟩
end
def iN (env:Env):List (Str × kf)->List (Str × aq)->List (Str × aq)
 | [],cs=>cs
 | (n,k)::r,cs=>iN env r (if k == .free then (n,(env.cells.lookup n).getD 0)::cs else cs)
def BH:∀ (names:List (Str × kf)) (cs:List (Str × aq)),(∀ x,(x,bX)∈names->∃ c,env.cells.lookup x = some c) ->
 (forIn names cs λx r=>match x with | (name,kind)=>(do
   if (kind == bX) = true then do
    let y <- cellOf env name
    pure (jL ((name,y)::r))
   else pure (jL r):Sem (ForInStep (List (Str × aq))))) = (pure (iN env names cs):Sem (List (Str × aq)))
 | [],cs,_=>rfl
 | (n,k)::r,cs,h=>by
   have ih:=λcs=>BH (env:=env) r cs λx hx=>h x (ar _ hx);rw [fi];by_cases hk:k = .free
   . subst hk;obtain ⟨c,e⟩:=h n au;have e2:cellOf env n = pure c:=by unfold cellOf;rw [e]
     simp only [beq_self_eq_true,if_true,e2,pure_bind,iN,e,Option.getD_some];exact ih _
   . have hb:(k == bX) = false:=by simpa using hk
     simp only [hb,aP,if_false,pure_bind,iN];exact ih _
def Hl (h:∀ x,(x,bX)∈scope.names->∃ c,env.cells.lookup x = some c):closureFor scope env = pure (iN env scope.names []):=by
 have q:=BH (env:=env) scope.names [] h;unfold closureFor;rw [<- bind_pure (pure (iN env scope.names []):Sem _),<- q]
def wa:∀ (names:List (Str × kf)) (cs:List (Str × aq)),(∀ x,(x,bX)∈names->∃ c,env.cells.lookup x = some c)->∀ p∈iN env names cs,p∈cs\/env.cells.lookup p.1 = some p.2
 | [],cs,_,p,hp=>.inl hp
 | (n,k)::r,cs,h,p,hp=>by
   unfold iN at hp;have ih:=wa (env:=env) r _ (λx hx=>h x (ar _ hx)) p hp;rcases ih with ih | ih
   . by_cases hk:k = .free
     . subst hk;rw [if_pos ↥0] at ih;rcases aB.mp ih with rfl | ih
       . obtain ⟨c,e⟩:=h n au;right;rw [e];rfl
       . exact .inl ih
     . rw [if_neg (by simpa using hk)] at ih;exact .inl ih
   . exact .inr ih
def wb:∀ (names:List (Str × kf)) (cs:List (Str × aq)) (x:Str),((x,bX)∈names\/∃ c,(x,c)∈cs)->∃ c,(x,c)∈iN env names cs
 | [],cs,x,h=>by
   rcases h with h | h
   . cases h
   . exact h
 | (n,k)::r,cs,x,h=>by
   unfold iN;refine wb (env:=env) r _ x ?_;rcases h with h | ⟨c,h⟩
   . rcases aB.mp h with e | h
     . cases e;right;rw [if_pos ↥0];exact ⟨_,au⟩
     . exact .inl h
   . right;split
     . exact ⟨c,ar _ h⟩
     . exact ⟨c,h⟩
def jo {α:Type}:∀ {l:List (Str × α)} {x:Str} {c:α},(x,c)∈l->∃ d,l.lookup x = some d
 | [],_,_,h=>by cases h
 | (y,d)::r,x,c,h=>by
   rw [dh]
   cases e:x == y with
   | true=>exact ⟨d,rfl⟩
   | false =>
     rcases aB.mp h with q | q
     . cases q;simp at e
     . exact jo q
structure sv (X:Cx) (scope:eX):Prop where
 kind:scope.kind = .function
 nocell:∀ y∈scope.names,y.2≠.cell
 names:∀ y∈scope.names,y.2 = .local->scope.names.lookup y.1 = some .local
 free:∀ x,(x,bX)∈scope.names->X.env.kindOf x = some .cell\/X.env.kindOf x = some .free
def cxC (X:Cx) (scope:eX) (cl:List (Str × aq)) (C:aq) (Nc:List Str) (s:ah) (H:Hp) (fp:List aq):Cx :=
 { X with N:=Nc,s₀:=s,H₀:=H,env:=compEnvC scope cl C X.env,outer:=X.stack,ex:=fp,fn:=λ_=>false,pn:=[],xe:=λ_ _=>False }
def iJ {scope:eX} {env:Env}:∀ (names:List (Str × kf)) (x:Str),
 (names.map λ(n,k)=>if (k == bX && env.scope.kind == .function && env.kindOf n == some .cell) then (n,lT) else (n,k)).lookup x =
   (names.lookup x).map λk=>if (k == bX && env.scope.kind == .function && env.kindOf x == some .cell) then lT else k
 | [],x=>rfl
 | (n,k)::r,x=>by
   have ih:=iJ (scope:=scope) (env:=env) r x;rw [bp]
   cases hx:x == n with
   | true =>
     have e:x = n:=by simpa using hx
     subst e;by_cases hc:(k == bX && env.scope.kind == .function && env.kindOf x == some .cell) = true
     . simp only [hc,if_true,dh,beq_self_eq_true,dy]
     . simp only [hc,if_false,dh,beq_self_eq_true,dy,aP]
   | false =>
     by_cases hc:(k == bX && env.scope.kind == .function && env.kindOf n == some .cell) = true
     . simp only [hc,if_true,dh,hx];exact ih
     . simp only [hc,if_false,dh,hx,aP];exact ih
def oG {scope:eX} {env:Env} {cl:List (Str × aq)} {C:aq} (x:Str):(compEnvC scope cl C env).kindOf x =
 (scope.names.lookup x).map λk=>if (k == bX && env.scope.kind == .function && env.kindOf x == some .cell) then lT else k:=iJ (scope:=scope) (env:=env) scope.names x
def sV (nc:∀ y∈scope.names,y.2≠.cell) (h:(compEnvC scope cl C env).kindOf x = some .cell\/(compEnvC scope cl C env).kindOf x = some .free) :
 scope.names.lookup x = some .free:=by
 rw [oG] at h
 cases e:scope.names.lookup x with
 | none=>rw [e] at h;simp at h
 | some k =>
   rw [e] at h;have hm:=PySem.mem_of_lookup e;have:=nc _ hm;simp only [dy] at h;cases k<;>simp_all
def ur {X:Cx} {scope:eX} {C:aq} {Nc:List Str} {s:ah} {h1:bG} {t1:Nat} {H:Hp} {fp:List aq} {pins:List (aq × Obj)} {σ:St}
 (S:sv X scope) (I:Inv X pins σ H s) (hf:∀ b∈fp,kx X pins H b) (hfl:∀ b∈fp,b < s.heap.objs.size) (hC:C = s.heap.objs.size) (hns:h1.Ns C λ_=>none) (hk:∀ b o,s.heap.get? b = some o->h1.get? b = some o)
 (hN:∀ i x,i < X.N.length->Nc[i]? = some x->Vis scope x->X.N[i]? = some x/\scope.names.lookup x = some .free) (hl:X.N.length<=Nc.length) :
 Inv (cxC X scope (iN X.env scope.names []) C Nc s H fp) [] (σ++bc (Nc.length - X.N.length) none) H { s with heap:=h1,toks:=t1 }:=by
 have hcl:∀ x,(x,bX)∈scope.names->∃ c,X.env.cells.lookup x = some c:=λx hx=>I.ok.has x (S.free x hx)
 have hlk:∀ x c,(iN X.env scope.names []).lookup x = some c->X.env.cells.lookup x = some c:=λx c e=>by
  have:=wa scope.names [] hcl _ (PySem.mem_of_lookup e);rcases this with z | z
  . cases z
  . exact z
 subst hC
 have neC:∀ x c,(iN X.env scope.names []).lookup x = some c->c < s.heap.objs.size:=λx c e=>by
  obtain ⟨v,z⟩:=I.cell x c (hlk x c e);exact z.lt
 refine ⟨⟨I.ok.mod,S.kind,I.ok.glob,I.ok.blt,aw _,λx y c e1 e2=>I.ok.inj x y c (hlk x c e1) (hlk y c e2),λx hx=>?_,λx c z _=>absurd z ao,I.ok.hd,I.ok.frames,.inl rfl,λb hb=>⟨aH (hfl b hb),λx c e=>(hf b hb).2.2.2.2.1 x c (hlk x c e)⟩,
  I.bs,bF I.ok.bsz I.sz,λb o e hb=>?_,λb hb hz=>?_,I.stack,I.stkFree⟩,rfl,I.bare,Un.kept hk,⟨_,hns,λi x v e1 e2 e3=>?_⟩,λx c e=>?_,I.hok.fresh (aw _),λx c e=>I.freeC x c (hlk x c e),λp hp=>absurd (show p∈([]:List (aq × Obj)) from hp) ↥0,I.hok.kept hk,?_⟩
 . have q:=sV (cl:=iN X.env scope.names []) (C:=s.heap.objs.size) S.nocell hx;obtain ⟨c,hm⟩:=wb (env:=X.env) scope.names [] x (.inl (PySem.mem_of_lookup q));exact jo hm
 . obtain ⟨_,_,_,f3,_⟩:=hf b hb;rcases f3 with z | z
   . exact I.ok.noex b o e z
   . exact absurd (aY (az e) (bF I.ok.bsz z)) (cy _)
 . obtain ⟨_,f1,f2,_⟩:=hf b hb;rcases aB.mp (I.stkSub b hz) with q | q
   . exact f1 q
   . exact f2 q
 . have e1:Nc[i]? = some x:=e1
   have hi:i < X.N.length:=by
    by_cases hi:i < X.N.length
    . exact hi
    . rw [bz (by rw [I.len];omega),gE] at e2;split at e2<;>cases e2
   rw [ba (by rw [I.len];exact hi)] at e2
   have vis:Vis scope x:=by
    have e3:Vis (relabel scope X.env) x:=e3;unfold Vis relabel at e3;rw [iJ (scope:=scope)] at e3;unfold Vis
    cases q:scope.names.lookup x with
    | none=>rw [q] at e3;simp at e3
    | some k =>
      rw [q] at e3;simp only [dy] at e3;have:=S.nocell _ (PySem.mem_of_lookup q);cases k<;>simp_all
   obtain ⟨n1,n2⟩:=hN i x hi e1 vis;obtain ⟨m,hn,hl'⟩:=I.loc;have kd:=S.free x (PySem.mem_of_lookup n2)
   have visX:Vis X.env.scope x:=by
    rcases kd with z | z
    . exact .inr (.inl z)
    . exact .inr (.inr z)
   obtain ⟨u,r,l⟩:=hl' i x v n1 e2 visX;refine ⟨u,r,.inr ?_⟩;rcases l with ⟨k,_⟩ | ⟨k,c,ec,z⟩
   . rcases kd with z | z
     . rw [z] at k;cases k
     . rw [z] at k;cases k
   . obtain ⟨c',hm⟩:=wb (env:=X.env) scope.names [] x (.inl (PySem.mem_of_lookup n2));obtain ⟨c2,hc2⟩:=jo hm;have:=hlk x c2 hc2;rw [ec] at this;cases this;refine ⟨?_,c,hc2,?_⟩
     . show (compEnvC scope (iN X.env scope.names []) s.heap.objs.size X.env).kindOf x = some .cell\/(compEnvC scope (iN X.env scope.names []) s.heap.objs.size X.env).kindOf x = some .free;rw [oG,n2];simp only [dy];split
       . exact .inl rfl
       . exact .inr rfl
     . obtain ⟨o,ho,hd⟩:=z;exact ⟨o,hk _ _ ho,hd⟩
 . obtain ⟨v,o,ho,hd⟩:=I.cell x c (hlk x c e);exact ⟨v,o,hk _ _ ho,hd⟩
 . show _ = Nc.length;rw [ay,gY,I.len];omega
def ED (D:aq) (te:TE):TU:=λσ H Q=>te σ H λy H'=>∃ xs,H' D = some (.lst xs)/\xs.length < sizeLine/\Q σ (upd H' D (.lst (xs++[y])))
def AV (he:PE X elt te):PU X (do let _ <- call (.builtin "list.append") [.ref D,<- eval elt X.env]) (ED D te):=by
 intro pins s σ H Q I h;refine ae (thn (he pins s σ H _ I h) λu s1 ⟨y,H1,I1,r1,xs,hD,hz,q⟩=>?_);refine ae (thn (ox pins s1 σ H1 (.ref D) [y] (.ref D) [u] (λ_ H'=>Q σ H') I1 rfl (.cons r1 .nil) ⟨D,xs,y,rfl,rfl,hD,hz,q⟩) λ_ s2 ⟨_,H2,I2,_,q2⟩=>?_);exact ak ⟨σ,H2,I2,q2⟩
def tLC (k:Nat) (wi:TI) (g:TG) (tt:TT) (te:TE):TE:=λσ H Q=>wi σ H λJ H1=>∀ D,H1 D = none ->
 tLp J g tt (ED D te) (σ++bc k none) (upd H1 D (.lst [])) λ_ H2=>Q (.ref D) H2
def rO
 (I:Inv X pins σ H s) (hf:∀ b∈fp,kx X pins H b) (hC:C = s.heap.objs.size) (J:Inv (cxC X scope cl C Nc s H fp) [] σ' H' s') (hs:fM C s'.heap h2):Inv X pins σ H' { s' with heap:=h2 }:=by
 have hok:HOk X.prog X.w H' h2:=λb ob e=>by
  refine (J.hok b ob e).stay (λc w' hc q=>(hs.2 c ?_).trans q) (λ_ q=>q) λ_ _ q=>q;rintro rfl;have fr:H' c = none:=J.free;rcases hc with rfl | hc
  . rw [fr] at e;cases e
  . rw [fr] at hc;cases hc
 have neC:∀ b o,s.heap.get? b = some o->b≠C:=λb o e=>by rw [hC];exact aH (az e)
 refine I.call' (s':={ s' with heap:=h2 }) (ch:=fp) J.os ⟨λb o e n hb hx=>?_,λb o e n hb hx=>?_,λb o e n hx=>J.base.free b o e n hx,λb o e hx=>?_,J.base.tups,J.base.frzs,J.base.tbls⟩ hok J.bare λb hb=>?_
 . exact (hs.2 b (neC b o e)).trans (J.base.keep b o e n hb hx)
 . obtain ⟨sl,z⟩:=J.base.slot b o e n hb hx;exact ⟨sl,(hs.2 b (neC b o e)).trans z⟩
 . obtain ⟨o',z⟩:=J.base.there b o e hx;exact ⟨o',(hs.2 b (neC b o e)).trans z⟩
 . obtain ⟨f0,f1,f2,f3,f4,f5⟩:=hf b hb;exact ⟨f3,f1,f4,f5⟩
def rT
 (S:sv X scope) (I:Inv X pins σ H s) (hf:∀ b∈fp,kx X pins H b) (hfl:∀ b∈fp,b < s.heap.objs.size) (hC:C = s.heap.objs.size) (hn:∀ b∈fp,H' b = none) :
 ∀ b∈fp,kx (cxC X scope (iN X.env scope.names []) C Nc s H fp) [] H' b:=λb hb=>by
 have hcl:∀ x,(x,bX)∈scope.names->∃ c,X.env.cells.lookup x = some c:=λx hx=>I.ok.has x (S.free x hx);obtain ⟨f0,f1,f2,f3,f4,f5⟩:=hf b hb;refine ⟨hn b hb,?_,λz=>?_,.inl hb,λx c e=>?_,λp hp=>absurd (show p∈([]:List (aq × Obj)) from hp) ↥0⟩
 . show b≠C;rw [hC];exact aH (hfl b hb)
 . rcases aB.mp (I.stkSub b z) with q | q
   . exact f1 q
   . exact f2 q
 . have:=wa scope.names [] hcl _ (PySem.mem_of_lookup e);rcases this with z | z
   . cases z
   . exact f4 x c z
def FJ
 (hx:X.xe = λ_ _=>False) (hc:X.calm = true) (S:sv X scope) (hN:∀ i x,i < X.N.length->Nc[i]? = some x->Vis scope x->X.N[i]? = some x/\scope.names.lookup x = some .free) (hl:X.N.length<=Nc.length)
 (hi:PI X tg iter wi) (hg:∀ cl C s H fp,PG (cxC X scope cl C Nc s H fp) tg g) (ht:∀ cl C s H fp,PTs (cxC X scope cl C Nc s H fp) ifs tt) (he:∀ cl C s H fp,PE (cxC X scope cl C Nc s H fp) elt te)
 (hs:∀ x,foldedSetIterable iter X.env x = pure x):PE X (.ListComp elt [⟨tg,iter,ifs,0⟩] scope pos) (tLC (Nc.length - X.N.length) wi g tt te):=by
 intro pins s σ H Q I h;rw [eval_ListComp]
 have cutE:∀ {α:Type} {m:Sem α} {Q:α->ah->Prop} {s:ah} {E':af->ah->Prop},wpAny (model X.prog X.w) X.A m Q X.xe s->wpAny (model X.prog X.w) X.A m Q E' s:=λz=>by
  rw [hx] at z;exact wpAny_noRaise z
 refine DC (use:=none) rfl hs (Hl λx hz=>I.ok.has x (S.free x hz)) S.kind S.names (thn (hi pins s σ H _ I h) λv s1 h1=>thn h1 λitv s2 h2=>?_);obtain ⟨it,fp,tn,J,H2,e,I2,T,st2,f2,q⟩:=h2;subst e;refine bx (hd:=by size_fits) ?_;have hfr:=I2.fresh;have I3:Inv X pins σ (upd H2 s2.heap.objs.size (.lst [])) { s2 with heap:=s2.heap.push { cls:=.type "list",data:=.seq ([]:List af).toArray } }:=I2.lnew (t':=s2.toks) (its:=[]) .nil (cC _);have st3:tn 0 (s2.heap.push { cls:=.type "list",data:=.seq ([]:List af).toArray }):=T.keep _ _ _ st2 λb _ o e=>ai _ e
 have fl3:∀ b∈fp,b < s2.heap.objs.size:=λb hb=>by
  obtain ⟨o,e,_⟩:=T.obj _ _ st2 b hb;exact az e
 have ne3:∀ b∈fp,upd H2 s2.heap.objs.size (.lst []) b = none:=λb hb=>by rw [bN (aH (fl3 b hb))];exact (f2 b hb).1
 have f3:∀ b∈fp,kx X pins (upd H2 s2.heap.objs.size (.lst [])) b:=λb hb=>⟨ne3 b hb,(f2 b hb).2⟩;have q3:=q s2.heap.objs.size hfr;generalize hH3:upd H2 s2.heap.objs.size (.lst []) = H3 at I3 ne3 f3 q3;generalize hs3:({ s2 with heap:=s2.heap.push { cls:=.type "list",data:=.seq ([]:List af).toArray } }:ah) = s3 at I3;have hs3h:s3.heap = s2.heap.push { cls:=.type "list",data:=.seq ([]:List af).toArray }:=by rw [<- hs3]
 rw [<- hs3h] at st3;have fl4:∀ b∈fp,b < s3.heap.objs.size:=λb hb=>by rw [hs3h,bH];exact bE (fl3 b hb)
 refine Kq S.nocell (by intro y hy;simp at hy) (λh1 hns hsb=>?_) S.kind;have keep1:∀ b o,s3.heap.get? b = some o->h1.get? b = some o:=λb o e=>hsb.extBut b o (aH (az e)) (ai _ e);have J0:=ur (h1:=h1) (t1:=s3.toks+([]:List (Str × af)).length) S I3 f3 fl4 rfl (by simpa using hns) keep1 hN hl;have st4:tn 0 h1:=T.keep _ _ _ st3 λb _ o e=>keep1 b o e
 have loop:∀ s4:ah,s4 = { s3 with heap:=h1,toks:=s3.toks+([]:List (Str × af)).length } ->
  codeAny (model X.prog X.w) X.A (.compLoop (.ListComp elt [⟨tg,iter,ifs,0⟩] scope pos) 0 (.ref it) (.ref s2.heap.objs.size) (compEnvC scope (iN X.env scope.names []) s3.heap.objs.size X.env))
   (compPost (model X.prog X.w) X.A X.xe none (EP X pins σ Q) (.ref s2.heap.objs.size) s3.heap.objs.size) s4:=by
  rintro s4 rfl
  refine Lf (X:=cxC X scope (iN X.env scope.names []) s3.heap.objs.size Nc s3 H3 fp) (ip:=iter.pos) (body:=(do let _ <- call (.builtin "list.append") [.ref s2.heap.objs.size,<- eval elt (compEnvC scope (iN X.env scope.names []) s3.heap.objs.size X.env)]))
   rfl hc rfl rfl rfl (by rw [compTurn_list]<;>rfl) T (hg _ _ _ _ _) (ht _ _ _ _ _) (AV (he _ _ _ _ _)) J0 st4 (rT S I3 f3 fl4 rfl ne3) q3 ?_
  intro s' σ' H' J' q';obtain ⟨m,hn,_⟩:=J'.loc;exact ⟨m,hn,λh2 hs2=>⟨.ref s2.heap.objs.size,H',rO I3 f3 rfl J' hs2,rfl,q'⟩⟩
 exact HI (loop _ rfl) (T.self _ _ _ _ _ st4 (loop _ rfl))
def FA
 (hx:X.xe = λ_ _=>False) (hc:X.calm = true) (S:sv X scope) (hN:∀ i x,i < X.N.length->Nc[i]? = some x->Vis scope x->X.N[i]? = some x/\scope.names.lookup x = some .free) (hl:X.N.length<=Nc.length)
 (hi:PI X tg iter wi) (hg:∀ cl C s H fp,PG (cxC X scope cl C Nc s H fp) tg g) (ht:∀ cl C s H fp,PTs (cxC X scope cl C Nc s H fp) ifs tt) (he:∀ cl C s H fp,PE (cxC X scope cl C Nc s H fp) elt te)
 (hs:∀ x,foldedSetIterable iter X.env x = pure x)
 (hNd:X.N.Nodup) (hy:X.N[i]? = some y) (hv:Loc X.env.scope y) (hf:X.fn y = true\/X.env.scope.names.lookup y = some .local)
 (hsw:swapsWith (.ListComp elt [⟨tg,iter,ifs,0⟩] scope pos) (some (.Name y py)) spos.line X.env = pure true) :
 PS X (.Assign [.Name y py] (.ListComp elt [⟨tg,iter,ifs,0⟩] scope pos) spos) (Iv (tLC (Nc.length - X.N.length) wi g tt te) (uw i)):=by
 intro pins s σ H Q I h;rw [exec_Assign_Name_used _ _ _ _ hsw];refine ae (kZ (ae ?_));show wpAny _ X.A (do let _ <- comprehension (.ListComp elt [⟨tg,iter,ifs,0⟩] scope pos) scope X.env _ (newList []) false (eval iter X.env) (some (assign (.Name y py) X.env))) _ _ s
 refine ae (cP (DC (use:=some (assign (.Name y py) X.env)) (Q:=λ_ s'=>SP X pins Q .next s') rfl hs (Hl λx hz=>I.ok.has x (S.free x hz)) S.kind S.names
  (thn (hi pins s σ H _ I h) λv s1 h1=>thn h1 λitv s2 h2=>?_)) (λ_ s' hq=>ak (ak hq)) λ_ _ e=>e)
 obtain ⟨it,fp,tn,J,H2,e,I2,T,st2,f2,q⟩:=h2;subst e;refine bx (hd:=by size_fits) ?_;have hfr:=I2.fresh;have I3:Inv X pins σ (upd H2 s2.heap.objs.size (.lst [])) { s2 with heap:=s2.heap.push { cls:=.type "list",data:=.seq ([]:List af).toArray } }:=I2.lnew (t':=s2.toks) (its:=[]) .nil (cC _);have st3:tn 0 (s2.heap.push { cls:=.type "list",data:=.seq ([]:List af).toArray }):=T.keep _ _ _ st2 λb _ o e=>ai _ e
 have fl3:∀ b∈fp,b < s2.heap.objs.size:=λb hb=>by
  obtain ⟨o,e,_⟩:=T.obj _ _ st2 b hb;exact az e
 have ne3:∀ b∈fp,upd H2 s2.heap.objs.size (.lst []) b = none:=λb hb=>by rw [bN (aH (fl3 b hb))];exact (f2 b hb).1
 have f3:∀ b∈fp,kx X pins (upd H2 s2.heap.objs.size (.lst [])) b:=λb hb=>⟨ne3 b hb,(f2 b hb).2⟩;have q3:=q s2.heap.objs.size hfr;generalize hH3:upd H2 s2.heap.objs.size (.lst []) = H3 at I3 ne3 f3 q3;generalize hs3:({ s2 with heap:=s2.heap.push { cls:=.type "list",data:=.seq ([]:List af).toArray } }:ah) = s3 at I3;have hs3h:s3.heap = s2.heap.push { cls:=.type "list",data:=.seq ([]:List af).toArray }:=by rw [<- hs3]
 rw [<- hs3h] at st3;have fl4:∀ b∈fp,b < s3.heap.objs.size:=λb hb=>by rw [hs3h,bH];exact bE (fl3 b hb)
 refine Kq S.nocell (by intro y hy;simp at hy) (λh1 hns hsb=>?_) S.kind;have keep1:∀ b o,s3.heap.get? b = some o->h1.get? b = some o:=λb o e=>hsb.extBut b o (aH (az e)) (ai _ e);have J0:=ur (h1:=h1) (t1:=s3.toks+([]:List (Str × af)).length) S I3 f3 fl4 rfl (by simpa using hns) keep1 hN hl;have st4:tn 0 h1:=T.keep _ _ _ st3 λb _ o e=>keep1 b o e
 have loop:∀ s4:ah,s4 = { s3 with heap:=h1,toks:=s3.toks+([]:List (Str × af)).length } ->
  codeAny (model X.prog X.w) X.A (.compLoop (.ListComp elt [⟨tg,iter,ifs,0⟩] scope pos) 0 (.ref it) (.ref s2.heap.objs.size) (compEnvC scope (iN X.env scope.names []) s3.heap.objs.size X.env))
   (compPost (model X.prog X.w) X.A X.xe (some (assign (.Name y py) X.env)) (λ_ s'=>SP X pins Q .next s') (.ref s2.heap.objs.size) s3.heap.objs.size) s4:=by
  rintro s4 rfl
  refine Lf (X:=cxC X scope (iN X.env scope.names []) s3.heap.objs.size Nc s3 H3 fp) (ip:=iter.pos) (body:=(do let _ <- call (.builtin "list.append") [.ref s2.heap.objs.size,<- eval elt (compEnvC scope (iN X.env scope.names []) s3.heap.objs.size X.env)]))
   rfl hc rfl rfl rfl (by rw [compTurn_list]<;>rfl) T (hg _ _ _ _ _) (ht _ _ _ _ _) (AV (he _ _ _ _ _)) J0 st4 (rT S I3 f3 fl4 rfl ne3) q3 ?_
  intro s' σ' H' J' q';have hC:H' s3.heap.objs.size = none:=J'.free;obtain ⟨m,hn,_⟩:=J'.loc;have hn:s'.heap.Ns s3.heap.objs.size m:=hn
  -- the frame's state,the block's own names still there
  have I4:Inv X pins σ H' s':=rO I3 f3 rfl J' (Heap.SameBut.refl _ _);obtain ⟨oc,es,ep,ho,hd,hr⟩:=id hn;have above:X.s₀.heap.objs.size<=s3.heap.objs.size:=I3.sz;have hL:s3.heap.objs.size≠X.env.locals:=eY I3.lt;have hfs:s3.heap.objs.size∉X.fs:=I3.nofs (aw _)
  have I5:Inv X (pins++[(s3.heap.objs.size,oc)]) σ H' s':=I4.pins_of λp hp=>by
   rcases bb.mp hp with hp | hp
   . exact I4.pin p (aQ _ hp)
   . have:p = (s3.heap.objs.size,oc):=by simpa using hp
     subst this;exact ⟨ho,hC,hL,hfs,λv z=>by rw [hd] at z;cases z⟩
  show wpAny _ _ (assign (.Name y py) X.env (.ref s2.heap.objs.size)) _ _ _;refine OC (kF (v:=.ref s2.heap.objs.size) I5 hNd hy hv rfl (λs5 I6=>?_) hf);have hp6:=I6.pin (s3.heap.objs.size,oc) (aQ _ (aQ _ ↥0));refine ⟨m,⟨oc,es,ep,hp6.1,hd,hr⟩,λh' hsb'=>?_⟩;have I7:Inv X pins (σ.set i (some (.ref s2.heap.objs.size))) H' s5:=I6.unpinned;refine ⟨_,H',I7.turned (h':=h') (t':=s5.toks) (it:=s3.heap.objs.size) (λb o hb e=>(hsb'.2 b hb).trans e) hC hL (.inr above) (λx c e z=>?_) (λp hp z=>?_),q'⟩
  . obtain ⟨v,o,hoc,hdc⟩:=I3.cell x c e;have:=az hoc;rw [z] at this;exact absurd this (cy _)
  . have hq:=(I3.pin p hp).1;have:=az hq;rw [z] at this;exact absurd this (cy _)
 exact HI (loop _ rfl) (T.self _ _ _ _ _ st4 (loop _ rfl))
section
variable {X:Cx}
def QO:V->Option Int->Option Int->Hp->VK->Prop:=λx lo hi H Q=>∃ t,x = .str t/\t.length<=sizeLine/\Q (.str (Txt.slice t lo hi)) H
def part_of {v:af} {lo:Option Int} (h:sG v lo):∃ l:Option (Int × Tok),v = partValue l/\l.map (·.1) = lo:=by
 cases h with
 | none=>exact ⟨none,rfl,rfl⟩
 | int i t=>exact ⟨some (i,t),rfl,rfl⟩
def Mq:SlR X QO:=by
 intro pins s σ H x v vl vu lo hi sl Q I rx hs pl pu h;obtain ⟨t,rfl,hz,q⟩:=h;obtain ⟨k,rfl⟩:=rx;obtain ⟨l,rfl,rfl⟩:=part_of pl;obtain ⟨u,rfl,rfl⟩:=part_of pu;refine ⟨"str",_,PySem.F.slot_str_getitem.lookup,Oz _ _ _,wpAny_getItem_str_slice (l:=l) (u:=u) (st:=none) hs rfl ?_⟩;exact post_val_or_str ⟨bF (Txt.slice_le t _ _) hz,λt' k=>⟨.str _,H,I.tok _,⟨_,rfl⟩,q⟩⟩
def sQ:typeLookup (.type "tuple") (dunderI "add") = pure none:=by rw [mI,iF];kernel_rfl
def Qp:PIp X .Add (KN X.K):=by
 intro pins s σ H x y v u Q I rx ry h;obtain ⟨a,b,xs,ys,rfl,rfl,ha,hb,hx,hz,q1,q2⟩:=h;cases rx;cases ry;obtain ⟨its,r1,p1,_⟩:=I.tuple ha;obtain ⟨its2,r2,p2,_⟩:=I.tuple hb;obtain ⟨⟨cls,dd,data,sl⟩,ho,hc,n,hd⟩:=id p1;obtain ⟨⟨cls2,dd2,data2,sl2⟩,ho2,hc2,n2,hd2⟩:=id p2;simp only at hc hd hc2 hd2;subst hc hd hc2 hd2;have e:its.toArray++its2.toArray = (its++its2).toArray:=by simp
 have hv:its≠[]:=λz=>hx (r1.nil_iff.mp z);refine wpAny_inplaceOp_concat ⟨_,ho,rfl⟩ ⟨_,ho2,rfl⟩ sQ lQ qr ?_;by_cases hw:its2 = []
 . exact Ao PySem.F.slot_tuple_add ⟨_,ho,rfl⟩ PySem.F.entry_tuple_add (PySem.F.args_tuple_add_2 _ _)
    (tuple_addW1 a b its.toArray its2.toArray n n2 dd dd2 sl sl2 (by simpa using hv) (by simp [hw])) ⟨ho,ho2,⟨.ref a,H,I,rfl,q1 (r2.nil_iff.mp hw)⟩⟩
 . refine Ao PySem.F.slot_tuple_add ⟨_,ho,rfl⟩ PySem.F.entry_tuple_add (PySem.F.args_tuple_add_2 _ _)
    (tuple_addW2 a b its.toArray its2.toArray n n2 dd dd2 sl sl2 (by simpa using hv) (by simpa using hw) (by rw [aC,aC,<- r1.length,<- r2.length];exact hz)) ⟨ho,ho2,?_⟩
   rw [e];refine ⟨.ref s.heap.objs.size,_,I.laid (t':=s.toks) (o:=.tup (xs++ys)) (λb ob q=>ai _ q) (aw _) ?_,rfl,q2 (λw=>hw (r2.nil_iff.mpr w)) _ (I.hok.fresh (aw _))⟩;exact ⟨by rw [ay];exact hz,_,r1.append r2,wD _ _⟩
end
end L2
end
section
namespace PP
open PySem PySem.W PyProof.Rows
def ans {α:Type} (lt:Nat->Nat->Bool):KasT α->α
 | .ret a=>a
 | .ask i j k=>ans lt (k (lt i j))
def dR {α β:Type} (lt:Nat->Nat->Bool) (f:α->KasT β):∀ t:KasT α,ans lt (t.bind f) = ans lt (f (ans lt t))
 | .ret a=>rfl
 | .ask i j k=>by
   show ans lt ((k (lt i j)).bind f) = _;rw [dR lt f (k (lt i j))];rfl
def fC {α:Type} (lt:Nat->Nat->Bool) (i j:Nat) (k:Bool->KasT α):ans lt (.ask i j k) = ans lt (k (lt i j)):=rfl
def iy {α:Type} (lt:Nat->Nat->Bool) (a:α):ans lt (.ret a) = a:=rfl
structure Ord (lt:Nat->Nat->Bool):Prop where
 as:∀ a b,lt a b = true->lt b a = false
 tr:∀ a b c,lt b a = false->lt c b = false->lt c a = false
section
variable {lt:Nat->Nat->Bool} (O:Ord lt)
def Up (lt:Nat->Nat->Bool) (p:Array Nat) (m:Nat):Prop:=∀ i j,i<=j->j < m->lt (p.getD j 0) (p.getD i 0) = false
def Dn' (lt:Nat->Nat->Bool) (p:Array Nat) (m:Nat):Prop:=∀ i j,i<=j->j < m->lt (p.getD i 0) (p.getD j 0) = false
include O
theorem Ord.refl (a:Nat):lt a a = false:=by
 cases h:lt a a with
 | false=>rfl
 | true=>have:=O.as a a h;rw [h] at this;cases this
theorem Up.one (p:Array Nat):Up lt p 1:=λi j h1 h2=>by
 have e1:j = 0:=by lia
 have e2:i = 0:=by lia
 subst e1;subst e2;exact O.refl _
theorem Up.more {p:Array Nat} {n:Nat} (h:Up lt p n) (hn:1<=n) (h2:lt (p.getD n 0) (p.getD (n - 1) 0) = false):Up lt p (n+1):=λi j h3 h4=>by
 by_cases e:j = n
 . subst e;by_cases e':i = j
   . subst e';exact O.refl _
   . exact O.tr _ _ _ (h i (j - 1) ∅ ∅) h2
 . exact h i j h3 ∅
theorem Dn'.more {p:Array Nat} {n:Nat} (h:Dn' lt p n) (hn:1<=n) (h2:lt (p.getD (n - 1) 0) (p.getD n 0) = false):Dn' lt p (n+1):=λi j h3 h4=>by
 by_cases e:j = n
 . subst e;by_cases e':i = j
   . subst e';exact O.refl _
   . exact O.tr _ _ _ h2 (h i (j - 1) ∅ ∅)
 . exact h i j h3 ∅
theorem Ag (p:Array Nat):∀ (f n:Nat),1<=n->Up lt p n->n<=ans lt (kas_asc p f n)/\ans lt (kas_asc p f n)<=n+f/\Up lt p (ans lt (kas_asc p f n))/\(ans lt (kas_asc p f n) < n+f->lt (p.getD (ans lt (kas_asc p f n)) 0) (p.getD (ans lt (kas_asc p f n) - 1) 0) = true)
 | 0,n,_,h=>⟨aw _,aw _,h,λz=>absurd z (cy _)⟩
 | f+1,n,hn,h=>by
   unfold kas_asc;rw [fC]
   cases c:lt (p.getD n 0) (p.getD (n - 1) 0) with
   | true =>
     rw [if_pos rfl,iy]
     exact ⟨aw _,∅,h,λ_=>c⟩
   | false =>
     rw [if_neg ao];obtain ⟨a1,a2,a3,a4⟩:=Ag p f (n+1) ∅ (h.more O hn c);exact ⟨∅,∅,a3,λz=>a4 ∅⟩
omit O in
theorem getD_eq (p:Array Nat) (k:Nat):p.getD k 0 = (p[k]?).getD 0:=by
 simp [Array.getD_eq_getD_getElem?]
omit O in
theorem iX (hj:j<=p.size) (k:Nat):(kas_rev p i j).getD k 0 = if i<=k/\k < j then p.getD (i+j - 1 - k) 0 else p.getD k 0:=by
 rw [getD_eq,kas_rev,getElem?_mirror hj ((j - i) / 2) ∅ k];by_cases h:i<=k/\k < j
 . rw [if_pos h];by_cases h2:(i<=k/\k < i+(j - i) / 2)\/(j - (j - i) / 2<=k/\k < j)
   . rw [if_pos h2,getD_eq]
   . rw [if_neg h2,getD_eq];have:i+j - 1 - k = k:=by lia
     rw [this]
 . rw [if_neg h];by_cases h2:(i<=k/\k < i+(j - i) / 2)\/(j - (j - i) / 2<=k/\k < j)
   . exfalso;lia
   . rw [if_neg h2,getD_eq]
omit O in
theorem iI (p:Array Nat) (i j:Nat):(kas_rev p i j).size = p.size:=mirror_size _ _ _ _
omit O in
theorem eP (p:Array Nat) (i j:Nat):(kas_rev p i j).Perm p:=mirror_perm _ _ _ _
theorem Dn'.rev (h:Dn' lt p n) (hn:n<=p.size):Up lt (kas_rev p 0 n) n:=λi j h1 h2=>by
 rw [iX hn,iX hn,if_pos ⟨∅,h2⟩,if_pos ⟨∅,∅⟩];exact h _ _ ∅ ∅
def Eqv (lt:Nat->Nat->Bool) (p:Array Nat) (a b:Nat):Prop:=∀ i j,a<=i->i < b->a<=j->j < b->lt (p.getD i 0) (p.getD j 0) = false
theorem Dn'.turn (h:Dn' lt p n) (hn:n<=p.size) (e:Eqv lt p a n):Dn' lt (kas_rev p a n) n:=λi j h1 h2=>by
 rw [iX hn,iX hn];by_cases hi:a<=i
 . rw [if_pos ⟨hi,∅⟩,if_pos ⟨∅,h2⟩];exact e _ _ ∅ ∅ ∅ ∅
 . rw [if_neg ∅];by_cases hj:a<=j
   . rw [if_pos ⟨hj,h2⟩];exact h _ _ ∅ ∅
   . rw [if_neg ∅];exact h _ _ h1 h2
theorem qg:∀ (f:Nat) (p:Array Nat) (n q:Nat),1<=n->q < n->n+f<=p.size->Dn' lt p n->Eqv lt p (n - (q+1)) n ->
 let r:=ans lt (kas_desc f p n q)
 r.1.size = p.size/\r.1.Perm p/\n<=r.2.1/\r.2.1<=n+f/\r.2.2 < r.2.1/\Dn' lt r.1 r.2.1/\Eqv lt r.1 (r.2.1 - (r.2.2+1)) r.2.1
 | 0,p,n,q,hn,hq,hz,h,e=>⟨rfl,cQ _,aw _,aw _,hq,h,e⟩
 | f+1,p,n,q,hn,hq,hz,h,e=>by
   unfold kas_desc;rw [fC]
   cases c:lt (p.getD n 0) (p.getD (n - 1) 0) with
   | true =>
     rw [if_pos rfl];have c':=O.as _ _ c
     have one:∀ p':Array Nat,Eqv lt p' (n+1 - (0+1)) (n+1):=λp' i j h1 h2 h3 h4=>by
      have e1:i = j:=by lia
      rw [e1];exact O.refl _
     by_cases hq0:q > 0
     . rw [if_pos hq0]
       have hT:Dn' lt (kas_rev p (n - (q+1)) n) (n+1):=by
        refine (h.turn O ∅ e).more O hn ?_;rw [iX ∅,iX ∅,if_pos ⟨∅,∅⟩,if_neg ∅];exact O.tr _ _ _ c' (e _ _ ∅ ∅ ∅ ∅)
       obtain ⟨a1,a2,a3,a4,a5,a6,a7⟩:=qg f (kas_rev p (n - (q+1)) n) (n+1) 0 ∅ ∅ (by rw [iI];lia) hT (one _);exact ⟨by rw [a1,iI],a2.trans (eP _ _ _),∅,∅,a5,a6,a7⟩
     . rw [if_neg hq0];obtain ⟨a1,a2,a3,a4,a5,a6,a7⟩:=qg f p (n+1) 0 ∅ ∅ ∅ (h.more O hn c') (one _)
       exact ⟨a1,a2,∅,∅,a5,a6,a7⟩
   | false =>
     rw [if_neg ao,fC]
     cases d:lt (p.getD (n - 1) 0) (p.getD n 0) with
     | true =>
       rw [if_pos rfl,iy]
       exact ⟨rfl,cQ _,aw _,fQ _ _,hq,h,e⟩
     | false =>
       rw [if_neg ao]
       have hE:Eqv lt p (n+1 - (q+1+1)) (n+1):=λi j h1 h2 h3 h4=>by
        by_cases ei:i = n
        . subst ei;by_cases ej:j = i
          . subst ej;exact O.refl _
          . exact O.tr _ _ _ (e _ _ ∅ ∅ ∅ ∅) c
        . by_cases ej:j = n
          . subst ej;exact O.tr _ _ _ d (e _ _ ∅ ∅ ∅ ∅)
          . exact e _ _ ∅ ∅ ∅ ∅
       obtain ⟨a1,a2,a3,a4,a5,a6,a7⟩:=qg f p (n+1) (q+1) ∅ ∅ ∅ (h.more O hn d) hE;exact ⟨a1,a2,∅,∅,a5,a6,a7⟩
theorem xa (p:Array Nat) (n m:Nat) (hn:1<=n) (hm:n<=m) (hz:m<=p.size) (h:Dn' lt p n) :
 let r:=ans lt (kas_tail3 n m p)
 r.2.size = p.size/\r.2.Perm p/\1<=r.1/\r.1<=m/\Up lt r.2 r.1:=by
 unfold kas_tail3;rw [dR,iy];obtain ⟨a1,a2,a3,_⟩:=Ag O (kas_rev p 0 n) (m - n) n hn (h.rev O ∅);exact ⟨iI _ _ _,eP _ _ _,∅,∅,a3⟩
theorem ph (p:Array Nat) (n m:Nat) (hn:1<=n) (hm:n < m) (hz:m<=p.size) (h:Dn' lt p (n+1)) :
 let r:=ans lt (kas_descPart n m p)
 r.2.size = p.size/\r.2.Perm p/\1<=r.1/\r.1<=m/\Up lt r.2 r.1:=by
 unfold kas_descPart;rw [dR]
 have one:Eqv lt p (n+1 - (0+1)) (n+1):=λi j h1 h2 h3 h4=>by
  have e1:i = j:=by lia
  rw [e1];exact O.refl _
 obtain ⟨a1,a2,a3,a4,a5,a6,a7⟩:=qg O (m - (n+1)) p (n+1) 0 ∅ ∅ ∅ h one;generalize ans lt (kas_desc (m - (n+1)) p (n+1) 0) = r at a1 a2 a3 a4 a5 a6 a7;by_cases hq:r.2.2 > 0
 . rw [if_pos hq];obtain ⟨b1,b2,b3,b4,b5⟩:=xa O (kas_rev r.1 (r.2.1 - (r.2.2+1)) r.2.1) r.2.1 m ∅ ∅ (by rw [iI];lia) (a6.turn O ∅ a7);exact ⟨by rw [b1,iI,a1],(b2.trans (eP _ _ _)).trans a2,b3,b4,b5⟩
 . rw [if_neg hq];obtain ⟨b1,b2,b3,b4,b5⟩:=xa O r.1 r.2.1 m ∅ ∅ ∅ a6;exact ⟨by rw [b1,a1],b2.trans a2,b3,b4,b5⟩
theorem Hh (p:Array Nat) (m:Nat) (hm:1<=m) (hz:m<=p.size) :
 let r:=ans lt (kas_count m p)
 r.2.size = p.size/\r.2.Perm p/\1<=r.1/\r.1<=m/\Up lt r.2 r.1:=by
 unfold kas_count;rw [dR];obtain ⟨a1,a2,a3,a4⟩:=Ag O p (m - 1) 1 (aw _) (Up.one O p);generalize ans lt (kas_asc p (m - 1) 1) = n at a1 a2 a3 a4;by_cases e:(n == m) = true
 . rw [if_pos e,iy];exact ⟨rfl,cQ _,a1,∅,a3⟩
 . rw [if_neg e];have ne:n≠m:=λz=>e (by rw [z];simp);have c:=a4 ∅;by_cases h1:n > 1
   . rw [if_pos h1,fC]
     cases d:lt (p.getD 0 0) (p.getD (n - 1) 0) with
     | true =>
       rw [if_pos rfl,iy]
       exact ⟨rfl,cQ _,a1,∅,a3⟩
     | false =>
       rw [if_neg ao]
       have hE:Eqv lt p 0 n:=λi j _ hi _ hj=>by
        have x1:lt (p.getD 0 0) (p.getD j 0) = false:=O.tr _ _ _ (a3 j (n - 1) ∅ ∅) d;exact O.tr _ _ _ x1 (a3 0 i ∅ hi)
       have hD:Dn' lt (kas_rev p 0 n) (n+1):=by
        refine (Dn'.turn O (p:=p) (n:=n) (a:=0) (λi j hi hj=>hE i j ∅ ∅ ∅ (by omega)) ∅ hE).more O a1 ?_;rw [iX ∅,iX ∅,if_pos ⟨∅,∅⟩,if_neg ∅];exact O.tr _ _ _ (O.as _ _ c) (hE _ _ ∅ ∅ ∅ ∅)
       obtain ⟨b1,b2,b3,b4,b5⟩:=ph O (kas_rev p 0 n) n m a1 ∅ (by rw [iI];omega) hD;exact ⟨by rw [b1,iI],b2.trans (eP _ _ _),b3,b4,b5⟩
   . rw [if_neg h1];have e1:n = 1:=by lia
     subst e1
     have hD:Dn' lt p (1+1):=by
      refine Dn'.more O (n:=1) (λi j h1 h2=>?_) (aw _) (O.as _ _ c);have e1:i = j:=by lia
      rw [e1];exact O.refl _
     exact ph O p 1 m (aw _) ∅ hz hD
theorem qS (p:Array Nat) (k:Nat) (h:Up lt p k):∀ (f l r:Nat),l<=r->r<=k->r - l<=f->(∀ i,i < l->lt (p.getD k 0) (p.getD i 0) = false)->(∀ i,r<=i->i < k->lt (p.getD i 0) (p.getD k 0) = false) ->
 let x:=ans lt (kas_place p k f l r)
 x<=k/\(∀ i,i < x->lt (p.getD k 0) (p.getD i 0) = false)/\∀ i,x<=i->i < k->lt (p.getD i 0) (p.getD k 0) = false
 | 0,l,r,h1,h2,h3,h4,h5=>by
   have e:l = r:=by lia
   subst e
   exact ⟨h2,h4,h5⟩
 | f+1,l,r,h1,h2,h3,h4,h5=>by
   unfold kas_place;by_cases hlr:l ≥ r
   . rw [if_pos hlr,iy];have e:l = r:=by lia
     subst e;exact ⟨h2,h4,h5⟩
   . rw [if_neg hlr,fC]
     cases c:lt (p.getD k 0) (p.getD ((l+r) / 2) 0) with
     | true =>
       rw [if_pos rfl];refine qS p k h f l ((l+r) / 2) ∅ ∅ ∅ h4 λi hi hk=>?_
       exact O.tr _ _ _ (O.as _ _ c) (h _ i (by omega) hk)
     | false =>
       rw [if_neg ao];refine qS p k h f ((l+r) / 2+1) r ∅ h2 ∅ (λi hi=>?_) h5;exact O.tr _ _ _ (h i ((l+r) / 2) ∅ ∅) c
theorem Hu:∀ (f:Nat) (p:Array Nat) (k:Nat),k+f<=p.size->Up lt p k ->
 let r:=ans lt (kas_bin f p k)
 r.size = p.size/\r.Perm p/\Up lt r (k+f)
 | 0,p,k,_,h=>⟨rfl,cQ _,h⟩
 | f+1,p,k,hz,h=>by
   unfold kas_bin;rw [dR];obtain ⟨a1,a2,a3⟩:=qS O p k h k 0 k ∅ ∅ ∅ (λi hi=>by lia) (λi h1 h2=>by lia);generalize ans lt (kas_place p k k 0 k) = l at a1 a2 a3
   have bg:∀ t,(bubble p k (k - l)).getD t 0 = if t = l then p.getD k 0 else if l < t/\t<=k then p.getD (t - 1) 0 else p.getD t 0:=λt=>by
    rw [getD_eq,getElem?_bubble ∅ (k - l) ∅ t];have e1:k - (k - l) = l:=by lia
    rw [e1];by_cases h1:t = l
    . rw [if_pos h1,if_pos h1,getD_eq]
    . rw [if_neg h1,if_neg h1];by_cases h2:l < t/\t<=k
      . rw [if_pos h2,if_pos h2,getD_eq]
      . rw [if_neg h2,if_neg h2,getD_eq]
   have hU:Up lt (bubble p k (k - l)) (k+1):=λi j h1 h2=>by
    rw [bg i,bg j];by_cases i1:i = l
    . rw [if_pos i1];by_cases j1:j = l
      . rw [if_pos j1];exact O.refl _
      . rw [if_neg j1,if_pos ⟨∅,∅⟩];exact a3 _ ∅ ∅
    . rw [if_neg i1];by_cases i2:l < i/\i<=k
      . rw [if_pos i2,if_neg ∅,if_pos ⟨∅,∅⟩];exact h _ _ ∅ ∅
      . rw [if_neg i2];by_cases j1:j = l
        . rw [if_pos j1];exact a2 i ∅
        . rw [if_neg j1];by_cases j2:l < j/\j<=k
          . rw [if_pos j2];exact h _ _ ∅ ∅
          . rw [if_neg j2];exact h _ _ h1 ∅
   obtain ⟨b1,b2,b3⟩:=Hu f (bubble p k (k - l)) (k+1) (by rw [bubble_size];lia) hU;exact ⟨by rw [b1,bubble_size],b2.trans (Ku _ _ _),by rw [show k+(f+1) = k+1+f by lia];exact b3⟩
theorem Iy (n:Nat) (hn:1<=n) :
 let r:=ans lt (kas_sort n)
 r.size = n/\r.Perm (fJ (bo n))/\Up lt r n:=by
 unfold kas_sort;rw [dR];have hs:(fJ (bo n)).size = n:=by simp
 obtain ⟨a1,a2,a3,a4,a5⟩:=Hh O (fJ (bo n)) n hn ∅;generalize ans lt (kas_count n (fJ (bo n))) = r at a1 a2 a3 a4 a5;by_cases h:r.1 < n
 . rw [if_pos h];have e:max r.1 1 = r.1:=by lia
   rw [e];obtain ⟨b1,b2,b3⟩:=Hu O (n - r.1) r.2 r.1 ∅ a5;have e2:r.1+(n - r.1) = n:=by lia
   rw [e2] at b3;exact ⟨∅,b2.trans a2,b3⟩
 . rw [if_neg h,iy];have e:r.1 = n:=by lia
   exact ⟨∅,a2,by rw [<- e];exact a5⟩
end
end PP
end
section
namespace PP
open PySem
set_option genInjectivity true in
inductive D where
 | non | bl (b:Bool) | int (i:Int) | str (x:Str) | lst (ds:List D) | tup (ds:List D) | fn (k:Nat) (ds:List D)
 deriving Inhabited
mutual
noncomputable def eqD:D->D->Bool
 | .non,.non=>true
 | .bl a,.bl b=>a == b
 | .bl a,.int b=>(if a then 1 else 0) == b
 | .int a,.bl b=>a == (if b then 1 else 0)
 | .int a,.int b=>a == b
 | .str a,.str b=>a == b
 | .lst a,.lst b=>gy a b
 | .tup a,.tup b=>gy a b
 | _,_=>false
noncomputable def gy:List D->List D->Bool
 | [],[]=>true
 | x::xs,y::ys=>eqD x y && gy xs ys
 | _,_=>false
end
mutual
noncomputable def ltD:D->D->Option Bool
 | .int a,.int b=>some (decide (a < b))
 | .str a,.str b=>some (decide (a.cps.toList < b.cps.toList))
 | .tup a,.tup b=>eF a b
 | _,_=>none
noncomputable def eF:List D->List D->Option Bool
 | [],[]=>some false
 | [],_::_=>some true
 | _::_,[]=>some false
 | x::xs,y::ys=>if eqD x y = true then eF xs ys else ltD x y
end
mutual
noncomputable def dep:D->Nat
 | .lst ds | .tup ds=>cI ds+1
 | .fn _ _=>100000
 | _=>0
noncomputable def cI:List D->Nat
 | []=>0
 | x::xs=>max (dep x) (cI xs)
end
mutual
noncomputable def lf:D->Bool
 | .lst _=>false
 | .fn _ _=>false
 | .tup ds=>lfL ds
 | _=>true
noncomputable def lfL:List D->Bool
 | []=>true
 | x::xs=>lf x && lfL xs
end
def flat:D->Bool
 | .non | .bl _ | .int _ | .str _=>true
 | _=>false
def tv:D->Option Bool
 | .non=>some false
 | .bl b=>some b
 | .int i=>some (i != 0)
 | .str x=>if x.length<=sizeLine then some ((x.length:Int) != 0) else none
 | .lst ds | .tup ds=>some (!ds.isEmpty)
 | .fn _ _=>none
inductive Op where
 | add | sub | mul | mod | fdiv
 deriving DecidableEq
inductive Cop where
 | lt | le | gt | eq | ne | isin | notin | is
 deriving DecidableEq
inductive Blt where
 | len | toInt | toTup | toLst | any | sum | sorted
 deriving DecidableEq
def oZ (i j:Int):Bool:=(decide (-(2 ^ 64) < i) && decide (i < 2 ^ 64)) || (decide (-(2 ^ 64) < j) && decide (j < 2 ^ 64)) || (decide (i.natAbs < 2 ^ 200) && decide (j.natAbs < 2 ^ 200))
def xF (x:Str) (n:Nat):Str:=⟨(bc n x.cps.toList).flatten.toArray⟩
def Oq:D->D->Option D
 | .int a,.int b=>some (.int (a+b))
 | .str a,.str b=>if a.length+b.length<=sizeLine then some (.str (a++b)) else none
 | .tup [],.tup b=>some (.tup b)
 | .tup (x::a),.tup b=>if (x::a).length+b.length<=sizeLine then some (.tup (x::a++b)) else none
 | .lst a,.lst b=>if a.length+b.length<=sizeLine then some (.lst (a++b)) else none
 | _,_=>none
def Oj:D->D->Option D
 | .int a,.int b=>some (.int (a+b))
 | _,_=>none
def Ma:D->D->Option D
 | .int a,.int b=>some (.int (a - b))
 | _,_=>none
def Nn:D->D->Option D
 | .int a,.int b=>if oZ a b then some (.int (a * b)) else none
 | .str a,.int b=>if 0<=b/\b<=1000/\a.length<=1000 then some (.str (xF a b.toNat)) else none
 | _,_=>none
def Np:D->D->Option D
 | .int a,.int b=>if 0 < b then some (.int (a % b)) else none
 | _,_=>none
def GY:D->D->Option D
 | .int a,.int b=>if 0 < b/\b < 1000000000000000000000000000000000000000000000000000000000000 then some (.int (a / b)) else none
 | _,_=>none
def opD:Op->D->D->Option D
 | .add=>Oq | .sub=>Ma | .mul=>Nn | .mod=>Np | .fdiv=>GY
def kin:D->D->Bool
 | .bl _,.bl _ | .int _,.int _ | .str _,.str _ | .lst _,.lst _ | .tup _,.tup _=>true
 | _,_=>false
def ij (a b:D):Bool:=kin a b && decide (min (dep a) (dep b)<=150) && decide (max (dep a) (dep b) < 100000)
def Px:D->D->Bool
 | .int _,.str _=>true
 | .str _,.int _=>true
 | _,_=>false
def MT (p:Int->Int->Bool):D->D->Option Bool
 | .int a,.int b=>some (p a b)
 | _,_=>none
def Nk (y x:Str):Bool:=!(qx y x 0 y.length 1).isEmpty
def inD (a:D):D->Option Bool
 | .lst ds=>if dep a<=150/\cI ds < 99999 then some (ds.any λy=>eqD y a) else none
 | .tup ds=>if dep a<=150/\cI ds < 99999 then some (ds.any λy=>eqD y a) else none
 | .str y=>match a with
   | .str x=>some (Nk y x)
   | _=>none
 | _=>none
def lN (a b:D):Option Bool:=if min (dep a) (dep b)<=150/\max (dep a) (dep b) < 100000 then ltD a b else none
def jn (ds:List D) (i j:Nat):Bool:=(lN (ds.getD i .non) (ds.getD j .non)).getD false
def fN (ds:List D):List D:=if ds.length < 2 then ds else (ans (jn ds) (PySem.W.kas_sort ds.length)).toList.map λi=>ds.getD i .non
def bK:D->Nat
 | .str _=>1
 | .int _=>2
 | .tup (.str _::_)=>3
 | .tup (.int _::_)=>4
 | _=>0
def sortable (ds:List D):Bool:=decide (ds.length < 64) && (ds.all λx=>bK x != 0 && bK x == bK (ds.getD 0 .non)) && ds.all λx=>ds.all λy=>(lN x y).isSome
mutual
noncomputable def hb:D->Bool
 | .str _ | .int _=>true
 | .tup ds=>hbL ds
 | _=>false
noncomputable def hbL:List D->Bool
 | []=>true
 | d::ds=>hb d && hbL ds
end
def hok:D->Bool
 | .tup (.str x::ds)=>hbL ds && decide (cI ds<=7)
 | _=>false
def pI (ds:List D) (d:D):List D:=if ds.any (λy=>eqD y d) then ds else ds++[d]
def ku (ds:List D):List D:=ds.foldl pI []
def ltB (a b:D):Bool:=(lN a b).getD false
def tot (ds:List D):Bool:=ds.all λa=>ds.all λb=>!(ltB a b && ltB b a) && (ltB a b || ltB b a || eqD a b) && ds.all λc=>ltB b a || ltB c b || !ltB c a
def NL:D->Bool
 | .non=>true
 | _=>false
def isD (a:D):D->Option Bool
 | .non=>some (NL a)
 | _=>none
def leD:D->D->Option Bool
 | .int a,.int b=>some (decide (a<=b))
 | .str a,.str b=>some (!decide (b.cps.toList < a.cps.toList))
 | _,_=>none
def lO:Cop->D->D->Option Bool
 | .lt,x,y=>lN x y
 | .le,x,y=>leD x y
 | .gt,x,y=>MT (λa b=>decide (b < a)) x y
 | .eq,a,b=>if ij a b then some (eqD a b) else if Px a b = true then some false else none
 | .ne,a,b=>if ij a b then some (!eqD a b) else none
 | .isin,a,y=>inD a y
 | .notin,a,y=>(inD a y).map (!·)
 | .is,a,y=>isD a y
def ixD:D->D->Option D
 | .lst ds,.int i=>L2.atI ds i
 | .tup ds,.int i=>L2.atI ds i
 | .str x,.int i=>if x.length<=sizeLine then (L2.atI x.cps.toList i).map λc=>.str ⟨#[c]⟩ else none
 | _,_=>none
def cutD (ds:List D) (lo hi:Option Int):List D:=(ds.drop (HT.sIx ds.length 0 lo)).take (HT.sIx ds.length ds.length hi - HT.sIx ds.length 0 lo)
def slD:D->Option Int->Option Int->Option D
 | .lst ds,lo,hi=>some (.lst (cutD ds lo hi))
 | .tup ds,lo,hi=>if HT.sIx ds.length 0 lo = 0/\HT.sIx ds.length ds.length hi = ds.length then none else some (.tup (cutD ds lo hi))
 | .str x,lo,hi=>if x.length<=sizeLine then some (.str (Txt.slice x lo hi)) else none
 | _,_,_=>none
def uu:List D->Option (List Int)
 | []=>some []
 | .int i::r=>(uu r).map (i::·)
 | _=>none
def JM:List D->Option D
 | [.str x]=>if x.length<=sizeLine then some (.int x.length) else none
 | [.lst ds]=>some (.int ds.length)
 | [.tup ds]=>some (.int ds.length)
 | _=>none
def sM:List Int->Int
 | []=>0
 | n::ns=>ns.foldl (λa b=>if b > a then b else a) n
def uX:List D->Option D
 | [.int i]=>some (.int i)
 | [.bl b]=>some (.int (if b then 1 else 0))
 | [.str x]=>if x.length<=640 then (PySem.intText? x).map .int else none
 | _=>none
def uW:List D->Option D
 | [.lst ds]=>some (.tup ds)
 | [.tup ds]=>some (.tup ds)
 | _=>none
def nZ:List D->Option D
 | [.lst ds]=>some (.lst ds)
 | [.tup ds]=>some (.lst ds)
 | _=>none
def Iw:List D->Option D
 | [.lst ds]=>(uu ds).map λns=>.int ns.sum
 | _=>none
def mE:List D->Option (List Bool)
 | []=>some []
 | .bl i::r=>(mE r).map (i::·)
 | _=>none
def Ko:List D->Option D
 | [.lst ds]=>(mE ds).map λbs=>.bl (bs.any id)
 | _=>none
def pQ:List D->Option D
 | [.lst ds]=>if sortable ds = true then some (.lst (fN ds)) else none
 | _=>none
def kU:Blt->List D->Option D
 | .len=>JM | .toInt=>uX | .toTup=>uW | .toLst=>nZ | .any=>Ko | .sum=>Iw | .sorted=>pQ
inductive Sl where
 | no | val (d:D) | own (ds:List D) | fnc (k:Nat) (cs:List D)
 deriving Inhabited
abbrev Loc:=List Sl
inductive Tg where
 | nm (i:Nat)
 | tp (is:List Nat)
 | pr (i:Nat) (is:List Nat)
inductive Mt | split | part | ends | join | index
mutual
inductive E where
 | var (i:Nat)
 | pk (i:Nat)
 | glob (g:Nat)
 | int (i:Int) | bl (b:Bool) | non | str (x:Str)
 | bin (op:Op) (a b:E)
 | cmp (op:Cop) (a b:E)
 | and (a b:E) | or (a b:E) | not (a:E) | neg (a:E)
 | ite (c a b:E)
 | tup (es:Es) | lst (es:Es)
 | ix (a b:E)
 | sl (a:E) (lo hi:Eo)
 | call (f:Nat) (es:Es)
 | calld (f:Nat) (es:Es)
 | blt (f:Blt) (es:Es)
 | bad
 | maxd (a:E) (n:Int)
 | ssd (a:E)
 | comp (k:Nat) (tg:Tg) (src:It) (ifs:Eo) (elt:E)
inductive Es where
 | nil | cons (e:E) (es:Es)
inductive Eo where
 | no | yes (e:E)
inductive It where
 | rng (e:E) | sq (e:E) | zp (es:Es)
end
def get (δ:Loc) (i:Nat):Option D:=match δ[i]? with
 | some (.val d)=>some d
 | some (.own ds)=>some (.lst ds)
 | _=>none
def GV (δ:Loc) (i:Nat):Option D:=match δ[i]? with
 | _=>get δ i
def demote (δ:Loc) (i:Nat):Loc:=match δ[i]? with
 | some (.own ds)=>δ.set i (.val (.lst ds))
 | _=>δ
def fZ (δ:Loc):Tg->D->Option Loc
 | .nm i,d=>if i < δ.length then some (δ.set i (.val d)) else none
 | .tp is,.tup ds=>if is.length = ds.length/\is.all (· < δ.length) = true then some ((is.zip ds).foldl (λδ p=>δ.set p.1 (.val p.2)) δ) else none
 | .tp is,.lst ds=>if is.length = ds.length/\is.all (· < δ.length) = true then some ((is.zip ds).foldl (λδ p=>δ.set p.1 (.val p.2)) δ) else none
 | .pr i is,.tup [a,.tup ds]=>if i < δ.length/\is.length = ds.length/\is.all (· < δ.length) = true then some ((is.zip ds).foldl (λδ p=>δ.set p.1 (.val p.2)) (δ.set i (.val a))) else none
 | _,_=>none
def Fg:D->Option (List D)
 | .lst ds=>some ds
 | .tup ds=>some ds
 | _=>none
def DQ (xs ys:List D):List D:=(xs.zip ys).map λp=>.tup [p.1,p.2]
def zpD:List D->Option (List D)
 | [x,y]=>(Fg x).bind λxs=>(Fg y).map λys=>DQ xs ys
 | _=>none
def items:D->Option (List D)
 | .lst ds=>some ds
 | .tup ds=>some ds
 | .str x=>if x.length<=sizeLine then some (x.cps.toList.map λc=>.str ⟨#[c]⟩) else none
 | _=>none
def qN (lo:Int) (n:Nat):List D:=(bo n).map λ(i:Nat)=>D.int (lo+i)
def nE (f:D->Loc->Option (Option D × Loc)):List D->Loc->Option (List D × Loc)
 | [],δ=>some ([],δ)
 | x::xs,δ=>do
   let (o,δ1) <- f x δ
   let (ys,δ2) <- nE f xs δ1
   return (match o with | some y=>y::ys | none=>ys,δ2)
structure Cl where
 call:Nat->List D->Option D
 gl:List D
 hf:Nat->Bool
section
variable (cx:Cl)
mutual
noncomputable def evE:E->Loc->Option (D × Loc)
 | .var i,δ=>do return (<- GV δ i,demote δ i)
 | .pk i,δ=>do return (<- get δ i,δ)
 | .glob g,δ=>do return (<- cx.gl[g]?,δ)
 | .int i,δ=>some (.int i,δ)
 | .bl b,δ=>some (.bl b,δ)
 | .non,δ=>some (.non,δ)
 | .str x,δ=>some (.str x,δ)
 | .bin op a b,δ=>do
   let (x,δ1) <- evE a δ
   let (y,δ2) <- evE b δ1
   return (<- opD op x y,δ2)
 | .cmp op a b,δ=>do
   let (x,δ1) <- evE a δ
   let (y,δ2) <- evE b δ1
   return (.bl (<- lO op x y),δ2)
 | .and a b,δ=>do
   match <- evE a δ with
   | (.bl true,δ1)=>evE b δ1
   | (.bl false,δ1)=>some (.bl false,δ1)
   | _=>none
 | .or a b,δ=>do
   match <- evE a δ with
   | (.bl true,δ1)=>some (.bl true,δ1)
   | (.bl false,δ1)=>evE b δ1
   | _=>none
 | .not a,δ=>do
   match <- evE a δ with
   | (.bl b,δ1)=>some (.bl (!b),δ1)
   | _=>none
 | .neg a,δ=>do
   match <- evE a δ with
   | (.int i,δ1)=>some (.int (-i),δ1)
   | _=>none
 | .ssd a,δ=>do
   match <- evE a δ with
   | (.lst ds,δ1)=>if (ds.all hok && sortable (ku ds) && tot (ku ds)) = true then some (.lst (fN (ku ds)),δ1) else none
   | _=>none
 | .maxd a n,δ=>do
   match <- evE a δ with
   | (.lst ds,δ1)=>(uu ds).map λns=>(.int (if ns = [] then n else sM ns),δ1)
   | _=>none
 | .ite c a b,δ=>do
   let (k,δ1) <- evT c δ
   if k then evE a δ1 else evE b δ1
 | .tup es,δ=>do
   let (ds,δ1) <- eH es δ
   if ds.length<=sizeLine then return (.tup ds,δ1) else none
 | .lst es,δ=>do
   let (ds,δ1) <- eH es δ
   if ds.length<=sizeLine then return (.lst ds,δ1) else none
 | .ix a b,δ=>do
   let (x,δ1) <- evE a δ
   let (y,δ2) <- evE b δ1
   return (<- ixD x y,δ2)
 | .sl a lo hi,δ=>do
   let (x,δ1) <- evE a δ
   let (l,δ2) <- evO lo δ1
   let (h,δ3) <- evO hi δ2
   return (<- slD x l h,δ3)
 | .call f es,δ=>do
   let (ds,δ1) <- eH es δ
   return (<- cx.call f ds,δ1)
 | .calld f es,δ=>do
   let (ds,δ1) <- eH es δ
   return (<- cx.call f (ds++[.non]),δ1)
 | .blt f es,δ=>do
   let (ds,δ1) <- eH es δ
   return (<- kU f ds,δ1)
 | .bad,_=>none
 | .comp k tg src ifs elt,δ=>do
   let (ds,δ1) <- evI src δ
   let (ys,δ2) <- nE (λx δ0=>do
    let δ2 <- fZ (δ0++bc k .no) tg x
    let (b,δ3) <- evG ifs δ2
    if b then do
     let (y,δ4) <- evE elt δ3
     return (some y,δ4.take δ0.length)
    else return (none,δ3.take δ0.length)) ds δ1
   if ys.length<=sizeLine then return (.lst ys,δ2) else none
noncomputable def evT:E->Loc->Option (Bool × Loc)
 | .and a b,δ=>do
   let (k,δ1) <- evT a δ
   if k then evT b δ1 else some (false,δ1)
 | .or a b,δ=>do
   let (k,δ1) <- evT a δ
   if k then some (true,δ1) else evT b δ1
 | .not a,δ=>do
   let (k,δ1) <- evT a δ
   return (!k,δ1)
 | .cmp op a b,δ=>do
   let (x,δ1) <- evE a δ
   let (y,δ2) <- evE b δ1
   return (<- lO op x y,δ2)
 | .ix a b,δ=>do
   let (x,δ1) <- evE a δ
   let (y,δ2) <- evE b δ1
   let d <- ixD x y
   return (<- tv d,δ2)
 | .var i,δ=>do
   let d <- get δ i
   return (<- tv d,δ)
 | .pk i,δ=>do
   let d <- get δ i
   return (<- tv d,δ)
 | .call f es,δ=>do
   let (ds,δ1) <- eH es δ
   let d <- cx.call f ds
   return (<- tv d,δ1)
 | .blt f es,δ=>do
   let (ds,δ1) <- eH es δ
   let d <- kU f ds
   return (<- tv d,δ1)
 | _,_=>none
noncomputable def eH:Es->Loc->Option (List D × Loc)
 | .nil,δ=>some ([],δ)
 | .cons e es,δ=>do
   let (d,δ1) <- evE e δ
   let (ds,δ2) <- eH es δ1
   return (d::ds,δ2)
noncomputable def evO:Eo->Loc->Option (Option Int × Loc)
 | .no,δ=>some (none,δ)
 | .yes e,δ=>do
   match <- evE e δ with
   | (.int i,δ1)=>some (some i,δ1)
   | _=>none
noncomputable def evG:Eo->Loc->Option (Bool × Loc)
 | .no,δ=>some (true,δ)
 | .yes e,δ=>evT e δ
noncomputable def evI:It->Loc->Option (List D × Loc)
 | .rng e,δ=>do
   match <- evE e δ with
   | (.int j,δ1)=>if -(2 ^ 62)<=j/\j < 2 ^ 62 then some (qN 0 j.toNat,δ1) else none
   | _=>none
 | .sq e,δ=>do
   let (d,δ1) <- evE e δ
   return (<- items d,δ1)
 | .zp es,δ=>do
   let (ds,δ1) <- eH es δ
   return (<- zpD ds,δ1)
end
end
inductive Out where
 | nx (δ:Loc) | rt (d:D) (δ:Loc) | ro (d:D) (δ:Loc)
mutual
inductive S where
 | asg (tg:Tg) (e:E)
 | new (i:Nat) (e:E)
 | cmp (own:Bool) (i:Nat) (e:E)
 | aug (i:Nat) (op:Op) (e:E)
 | ret (e:E)
 | ifs (c:E) (a b:Ss)
 | for_ (tg:Tg) (src:It) (body:Ss)
 | while_ (c:E) (body:Ss)
 | append (i:Nat) (e:E)
 | extend (i:Nat) (e:E)
 | setix (i:Nat) (j e:E)
 | opq (f:Cl->Loc->Option Out)
 | bad
inductive Ss where
 | nil | cons (s:S) (ss:Ss)
end
def forL (f:D->Loc->Option Out):List D->Loc->Option Out
 | [],δ=>some (.nx δ)
 | x::xs,δ=>match f x δ with
   | some (.nx δ1)=>forL f xs δ1
   | some (.rt d δ1)=>some (.rt d δ1)
   | some (.ro ds δ1)=>some (.ro ds δ1)
   | none=>none
def me (c:Loc->Option (Bool × Loc)) (f:Loc->Option Out):Nat->Loc->Option Out
 | 0,_=>none
 | n+1,δ=>match c δ with
   | some (true,δ1)=>match f δ1 with
     | some (.nx δ2)=>me c f n δ2
     | some (.rt d δ2)=>some (.rt d δ2)
     | some (.ro ds δ2)=>some (.ro ds δ2)
     | none=>none
   | some (false,δ1)=>some (.nx δ1)
   | none=>none
def vB:Nat:=1000000
section
variable (cx:Cl)
mutual
noncomputable def evS:S->Loc->Option Out
 | .asg tg e,δ=>do
   let (d,δ1) <- evE cx e δ
   return .nx (<- fZ δ1 tg d)
 | .new i e,δ=>do
   match <- evE cx e δ with
   | (.lst ds,δ1)=>if i < δ1.length then some (.nx (δ1.set i (.own ds))) else none
   | _=>none
 | .cmp own i e,δ=>do
   match <- evE cx e δ with
   | (.lst ds,δ1)=>if i < δ1.length then some (.nx (δ1.set i (if own then .own ds else .val (.lst ds)))) else none
   | _=>none
 | .aug i op e,δ=>do
   match δ[i]? with
   | some (.val x)=>do
     let (y,δ1) <- evE cx e δ
     match op with
     | .add=>(Oj x y).map λz=>.nx (δ1.set i (.val z))
     | _=>none
   | _=>none
 | .ret e,δ=>do
   let (d,δ1) <- evE cx e δ
   return .rt d δ1
 | .ifs c a b,δ=>do
   let (k,δ1) <- evT cx c δ
   if k then dD a δ1 else dD b δ1
 | .for_ tg src body,δ=>do
   let (ds,δ1) <- evI cx src δ
   forL (λx δ0=>match fZ δ0 tg x with
    | some δ2=>dD body δ2
    | none=>none) ds δ1
 | .while_ c body,δ=>me (λδ0=>evT cx c δ0) (λδ0=>dD body δ0) 1000 δ
 | .append i e,δ=>match δ[i]? with
   | some (.own _)=>do
     let (d,δ1) <- evE cx e δ
     match δ1[i]? with
     | some (.own ds)=>if ds.length < sizeLine then some (.nx (δ1.set i (.own (ds++[d])))) else none
     | _=>none
   | _=>none
 | .extend i e,δ=>match δ[i]? with
   | some (.own _)=>do
     match <- evE cx e δ with
     | (.lst ys,δ1)=>match δ1[i]? with
       | some (.own ds)=>if ds.length+ys.length<=sizeLine then some (.nx (δ1.set i (.own (ds++ys)))) else none
       | _=>none
     | _=>none
   | _=>none
 | .setix i j e,δ=>do
   let (d,δ1) <- evE cx e δ
   match δ1[i]? with
   | some (.own _)=>do
     match <- evE cx j δ1 with
     | (.int k,δ2)=>match δ2[i]? with
       | some (.own ds)=>match L2.ixN ds.length k with
         | some m=>some (.nx (δ2.set i (.own (ds.set m d))))
         | none=>none
       | _=>none
     | _=>none
   | _=>none
 | .opq f,δ=>f cx δ
 | .bad,_=>none
noncomputable def dD:Ss->Loc->Option Out
 | .nil,δ=>some (.nx δ)
 | .cons s ss,δ=>match evS s δ with
   | some (.nx δ1)=>dD ss δ1
   | o=>o
end
end
structure Fd where
 name:Str
 ps:List Str
 loc:List Str
 body:Ss
 hf:Bool:=false
def outD:Option Out->Option D
 | some (.rt d _)=>some d
 | some (.ro d _)=>some d
 | some (.nx _)=>some .non
 | _=>none
def MR:Option Out->Option D
 | some (.ro d _)=>some d
 | _=>none
def init (n:Nat) (ds:List D):Loc:=ds.map .val++bc (n - ds.length) .no
def hfs (G:List Fd) (f:Nat):Bool:=match G[f]? with
 | some fd=>fd.hf
 | none=>false
def PL (n:Nat) (ds:List D) (k:Nat) (cs:List D):Loc:=ds.map .val++Sl.fnc k cs::bc (n - (ds.length+1)) .no
def entry (hf:Bool) (n:Nat) (ds:List D):Option Loc:=match hf with
 | false=>some (init n ds)
 | true=>match ds.getLast? with
   | some (.fn k cs)=>some (PL n ds.dropLast k cs)
   | _=>none
def run (G:List Fd) (gl:List D):Nat->Nat->List D->Option D
 | 0,_,_=>none
 | n+1,f,ds=>match G[f]? with
   | some fd=>if ds.length = fd.ps.length then (match entry fd.hf (fd.ps++fd.loc).length ds with
     | some δ=>outD (dD ⟨run G gl n,gl,hfs G⟩ fd.body δ)
     | none=>none) else none
   | none=>match G[f - vB]? with
     | some fd=>if vB<=f/\ds.length = fd.ps.length then (match entry fd.hf (fd.ps++fd.loc).length ds with
       | some δ=>MR (dD ⟨run G gl n,gl,hfs G⟩ fd.body δ)
       | none=>none) else none
     | none=>none
def bY:E->Bool
 | .pk _=>true
 | _=>false
mutual
noncomputable def np:E->Bool
 | .bin _ a b | .cmp _ a b | .and a b | .or a b | .ix a b=>np a && np b
 | .not a=>np a
 | .neg a=>np a
 | .maxd a _=>np a
 | .ssd a=>np a
 | .ite c a b=>np c && np a && np b
 | .tup es | .lst es | .call _ es | .calld _ es | .blt _ es=>npS es
 | .sl a lo hi=>np a && npO lo && npO hi
 | .comp _ _ src ifs elt=>npI src && npO ifs && np elt
 | _=>true
noncomputable def npS:Es->Bool
 | .nil=>true
 | .cons e es=>np e && npS es
noncomputable def npO:Eo->Bool
 | .no=>true
 | .yes e=>np e
noncomputable def npI:It->Bool
 | .rng e=>np e
 | .sq e=>np e
 | .zp es=>npS es
end
end PP
example:PP.evE ⟨λ_ _=>none,[],λ_=>false⟩ (.bin .add (.int 1) (.int 2)) [] = some (.int 3,[]):=rfl
end
section
namespace PP
open PySem L2
def KLs (K:PySem.W.Frag) (a:aq) (xs:List V):Prop:=∃ (its:Array af) (n:Nat),K.lookup a = some ⟨.type "list",none,.seq its n,#[]⟩/\its.size<=sizeLine/\Vals xs its.toList
def Ls (K:PySem.W.Frag) (H:Hp) (F:aq->Prop) (a:aq) (xs:List V):Prop:=(Rd H a (.lst xs)/\¬ F a)\/KLs K a xs
def LsB (K:PySem.W.Frag) (H:Hp) (a:aq) (xs:List V):Prop:=Rd H a (.lst xs)\/KLs K a xs
def Ls.b {K:PySem.W.Frag} {H:Hp} {F:aq->Prop} {a:aq} {xs:List V} (h:Ls K H F a xs):LsB K H a xs:=h.imp (·.1) id
def LsB.sq (h:LsB K H a xs):SqL K H a xs:=by
 rcases h with h | ⟨its,n,h1,h2,h3⟩
 . exact .inl h
 . exact .inr ⟨_,its,n,h1,rfl,rfl,rfl,h2,h3⟩
def Ls.sq (h:Ls K H F a xs):SqL K H a xs:=h.b.sq
def LsB.obj (I:Inv X pins σ H s) (h:LsB X.K H a xs) :
 ∃ (its:List af) (n:Nat),Vals xs its/\s.heap.get? a = some { cls:=.type "list",data:=.seq its.toArray n }/\xs.length<=sizeLine:=by
 rcases h with h | ⟨its,n,h1,h2,h3⟩
 . obtain ⟨z,its,n,r,e⟩:=h.ok I.hok;exact ⟨its,n,r,e,z⟩
 . refine ⟨its.toList,n,h3,?_,?_⟩
   . have:=I.kIn a _ h1;simpa using this
   . have:=h3.length;rw [this];simpa using h2
mutual
noncomputable def Rel (K:PySem.W.Frag) (H:Hp) (F:aq->Prop):D->V->Prop
 | .non,v=>v = .non
 | .bl b,v=>v = .bl b
 | .int i,v=>v = .int i
 | .str x,v=>v = .str x
 | .lst ds,v=>∃ a xs,v = .ref a/\Ls K H F a xs/\aK K H F ds xs
 | .tup ds,v=>∃ a xs,v = .ref a/\SqT K H a xs/\aK K H F ds xs
 | .fn _ _,_=>False
noncomputable def aK (K:PySem.W.Frag) (H:Hp) (F:aq->Prop):List D->List V->Prop
 | [],xs=>xs = []
 | d::ds,xs=>∃ y ys,xs = y::ys/\Rel K H F d y/\aK K H F ds ys
end
def NT:HO->Prop
 | .tbl _=>False
 | _=>True
structure Sim (H H':Hp):Prop where
 nt:∀ b o,NT o->H b = some o->H' b = some o
 tb:∀ b ps,H b = some (.tbl ps)->∃ qs,H' b = some (.tbl qs)
def Sim.of (h:iO H H'):Sim H H':=⟨λb o _ e=>h b o e,λb ps e=>⟨ps,h b _ e⟩⟩
def Sim.refl (H:Hp):Sim H H:=⟨λb o _ e=>e,λb ps e=>⟨ps,e⟩⟩
def Sim.trans (a:Sim H H1) (b:Sim H1 H2):Sim H H2:=⟨λx o n e=>b.nt x o n (a.nt x o n e),λx ps e=>by
 obtain ⟨qs,e⟩:=a.tb x ps e;exact b.tb x qs e⟩
def Fz (H:Hp) (a:aq) (o:Obj):Prop:=H a = some (.frz o (.ext λh=>h.get? a = some o))
structure Lam where
 qual:Str
 params:wA
 body:aG
 scope:eX
 ps:List Str
 caps:List Str
class Tbs where
 ts:List (aq × Str)
 lams:List (Nat × Lam)
 gds:List (Str × List (Str × Int))
 dfs:List Nat
variable [Tbs]
def Mo:HO->Prop
 | .lst _=>True
 | .ext _=>True
 | _=>False
def flV:D->V
 | .bl b=>.bl b
 | .int i=>.int i
 | .str x=>.str x
 | _=>.non
def oM (H:Hp):List aq->List D->Prop
 | [],ds=>ds = []
 | c::r,ds=>∃ d ds' o u,ds = d::ds'/\flat d = true/\Fz H c o/\o.data = .cell (some u)/\RelV (flV d) u/\oM H r ds'
def FnV (H:Hp) (k:Nat) (cs:List D) (a:aq):Prop:=∃ (L:Lam) (pm ctv:af) (c':aq) (oc:Obj) (vs:Array af) (tk:Tok) (cells:List aq),
 Tbs.lams.lookup k = some L/\Fz H a (PySem.W.kla_obj "<lambda>" L.qual L.params L.body L.scope (L.caps.zip cells) pm c' ctv)/\Fz H c' oc/\oc.data = .fields vs/\vs[1]? = some (.str L.qual tk)/\cells.Nodup/\cells.length = L.caps.length/\oM H cells cs
def oM.keep {H H':Hp} (k:∀ a o,Fz H a o->Fz H' a o):∀ {cells:List aq} {cs:List D},oM H cells cs->oM H' cells cs
 | [],_,h=>h
 | c::r,cs,h=>by
   obtain ⟨d,ds',o,u,e,h1,h2,h3,h4,h5⟩:=h;exact ⟨d,ds',o,u,e,h1,k _ _ h2,h3,h4,oM.keep k h5⟩
def FnV.keep {H H':Hp} (k:∀ a o,Fz H a o->Fz H' a o) {n:Nat} {cs:List D} {a:aq} (h:FnV H n cs a):FnV H' n cs a:=by
 obtain ⟨L,pm,ctv,c',oc,vs,tk,cells,h1,h2,h3,h4,h5,h6,h7,h8⟩:=h;exact ⟨L,pm,ctv,c',oc,vs,tk,cells,h1,k _ _ h2,k _ _ h3,h4,h5,h6,h7,h8.keep k⟩
def kY (H:Hp):Prop:=∀ t∈Tbs.ts,∃ ps,H t.1 = some (.tbl ps)/\TriplesOk ps.toList/\∀ pos cv,codeAmong pos ps.toList = some cv->∃ c o vs tk,cv = .ref c/\Fz H c o/\o.data = .fields vs/\vs[1]? = some (.str t.2 tk)
def kY.keep {H H':Hp} (h:kY H) (k:∀ b o,¬ Mo o->H b = some o->H' b = some o):kY H':=λt ht=>by
 obtain ⟨ps,h1,h2,h3⟩:=h t ht;refine ⟨ps,k _ _ (λz=>z) h1,h2,λpos cv e=>?_⟩;obtain ⟨c,o,vs,tk,e1,e2,e3⟩:=h3 pos cv e;exact ⟨c,o,vs,tk,e1,k _ _ (λz=>z) e2,e3⟩
def FD (F:aq->Prop) (H:Hp):Prop:=∀ b,F b->∃ o,H b = some o/\(Mo o\/(∃ ps,o = .tbl ps)/\∃ t∈Tbs.ts,t.1 = b)
def FD.not (fd:FD F H) (e:H a = some o) (n:¬ Mo o) (t:NT o):¬ F a:=λz=>by
 obtain ⟨u,e2,h⟩:=fd a z;rw [e] at e2;cases e2;rcases h with h | ⟨⟨ps,rfl⟩,_⟩
 . exact n h
 . exact t
def FD.none (fd:FD F H) (e:H a = Option.none):¬ F a:=λz=>by
 obtain ⟨u,e2,_⟩:=fd a z;rw [e] at e2;cases e2
def TF (F:aq->Prop):Prop:=∀ t∈Tbs.ts,F t.1
structure Gh where
 h:Hp
 R:aq->Prop
def Gh.free (G:Gh) (a:aq):Prop:=G.h a = none/\¬ G.R a
def g0:Gh:=⟨λ_=>none,λ_=>False⟩
structure Step (G:Gh) (F:aq->Prop) (H:Hp) (F':aq->Prop) (H':Hp):Prop where
 keep:∀ b o,NT o->H b = some o->¬ F b->H' b = some o
 grow:∀ b,F' b->F b\/H b = none
 res:∀ b o,G.R b->F b->H b = some o->F' b/\H' b = some o
 tb:∀ b ps,H b = some (.tbl ps)->∃ qs,H' b = some (.tbl qs)
def Step.refl:Step G F H F H:=⟨λ_ _ _ h _=>h,λ_ h=>.inl h,λ_ _ _ h e=>⟨h,e⟩,λ_ ps e=>⟨ps,e⟩⟩
def Step.trans (a:Step G F H F1 H1) (b:Step G F1 H1 F2 H2):Step G F H F2 H2 where
 keep:=λx o t h n=>b.keep x o t (a.keep x o t h n) λz=>by
  rcases a.grow x z with q | q
  . exact n q
  . rw [h] at q;cases q
 grow:=λx h=>by
  rcases b.grow x h with q | q
  . exact a.grow x q
  . by_cases f:F x
    . exact .inl f
    . right
      cases e:H x with
      | none=>rfl
      | some o =>
        by_cases t:NT o
        . rw [a.keep x o t e f] at q;cases q
        . cases o<;>first | (exact absurd trivial t) | skip
          obtain ⟨qs,z⟩:=a.tb x _ e;rw [z] at q;cases q
 res:=λx o r h e=>by
  obtain ⟨h1,e1⟩:=a.res x o r h e;exact b.res x o r h1 e1
 tb:=λx ps e=>by
  obtain ⟨qs,e⟩:=a.tb x ps e;exact b.tb x qs e
def Step.of_same (h:iO H H'):Step G F H F H':=⟨λb o _ e _=>h b o e,λ_ h=>.inl h,λb o _ f e=>⟨f,h b o e⟩,λb ps e=>⟨ps,h b _ e⟩⟩
section
variable {K:PySem.W.Frag} {G:Gh} {H H':Hp} {F F':aq->Prop}
def AQ (t:NT u) (k:∀ b o,NT o->H b = some o->¬ F b->H' b = some o) (n:¬ F a) (h:Rd H a u):Rd H' a u:=by
 rcases h with h | ⟨o,h⟩
 . exact .inl (k a _ t h n)
 . exact .inr ⟨o,k a _ trivial h n⟩
def xh (fd:FD F H) (k:∀ b o,NT o->H b = some o->¬ F b->H' b = some o) (h:SqT K H a xs):SqT K H' a xs:=by
 rcases h with h | h
 . refine .inl (AQ trivial k (λz=>?_) h);rcases h with h | ⟨o,h⟩
   . exact fd.not h (λz=>z) trivial z
   . exact fd.not h (λz=>z) trivial z
 . exact .inr h
def Ls.step {a:aq} {xs:List V} (s:Step G F H F' H') (h:Ls K H F a xs):Ls K H' F' a xs:=by
 rcases h with ⟨h1,h2⟩ | h
 . refine .inl ⟨AQ trivial s.keep h2 h1,λz=>?_⟩;rcases s.grow a z with q | q
   . exact h2 q
   . rcases h1 with h | ⟨o,h⟩
     . rw [h] at q;cases q
     . rw [h] at q;cases q
 . exact .inr h
def vQ (fd:FD F H) (k:∀ b o,NT o->H b = some o->¬ F b->H' b = some o):∀ a o,Fz H a o->Fz H' a o:=λa o h=>by
 exact k a _ trivial h (fd.not h (λz=>z) trivial)
mutual
theorem Rel.step (fd:FD F H) (s:Step G F H F' H'):∀ (d:D) (v:V),Rel K H F d v->Rel K H' F' d v
 | .non,v,h=>by unfold Rel at h |-;exact h
 | .bl b,v,h=>by unfold Rel at h |-;exact h
 | .int i,v,h=>by unfold Rel at h |-;exact h
 | .str x,v,h=>by unfold Rel at h |-;exact h
 | .lst ds,v,h=>by
   unfold Rel at h |-;obtain ⟨a,xs,e,h1,h3⟩:=h
   exact ⟨a,xs,e,h1.step s,aK.step fd s ds xs h3⟩
 | .tup ds,v,h=>by
   unfold Rel at h |-;obtain ⟨a,xs,e,h1,h3⟩:=h
   exact ⟨a,xs,e,xh fd s.keep h1,aK.step fd s ds xs h3⟩
 | .fn _ _,v,h=>by unfold Rel at h;exact h.elim
theorem aK.step (fd:FD F H) (s:Step G F H F' H'):∀ (ds:List D) (xs:List V),aK K H F ds xs->aK K H' F' ds xs
 | [],xs,h=>by unfold aK at h |-;exact h
 | d::ds,xs,h=>by
   unfold aK at h |-;obtain ⟨y,ys,e,h1,h2⟩:=h;exact ⟨y,ys,e,Rel.step fd s d y h1,aK.step fd s ds ys h2⟩
end
def Rel.less (fd:FD F H) (hs:∀ b,F' b->F b) {d:D} {v:V} (h:Rel K H F d v):Rel K H F' d v :=
 Rel.step (G:=g0) fd ⟨λ_ _ _ h _=>h,λb z=>.inl (hs b z),λ_ _ r _ _=>r.elim,λ_ ps e=>⟨ps,e⟩⟩ d v h
def aK.less (fd:FD F H) (hs:∀ b,F' b->F b) {ds:List D} {xs:List V} (h:aK K H F ds xs):aK K H F' ds xs :=
 aK.step (G:=g0) fd ⟨λ_ _ _ h _=>h,λb z=>.inl (hs b z),λ_ _ r _ _=>r.elim,λ_ ps e=>⟨ps,e⟩⟩ ds xs h
mutual
theorem Rel.free (fd:FD F' H):∀ (d:D) (v:V),lf d = true->Rel K H F d v->Rel K H F' d v
 | .non,v,_,h=>by unfold Rel at h |-;exact h
 | .bl b,v,_,h=>by unfold Rel at h |-;exact h
 | .int i,v,_,h=>by unfold Rel at h |-;exact h
 | .str x,v,_,h=>by unfold Rel at h |-;exact h
 | .lst ds,v,l,h=>by unfold lf at l;cases l
 | .tup ds,v,l,h=>by
   unfold lf at l;unfold Rel at h |-;obtain ⟨a,xs,e,h1,h3⟩:=h
   exact ⟨a,xs,e,h1,aK.free fd ds xs l h3⟩
 | .fn _ _,v,l,h=>by unfold lf at l;cases l
theorem aK.free (fd:FD F' H):∀ (ds:List D) (xs:List V),lfL ds = true->aK K H F ds xs->aK K H F' ds xs
 | [],xs,_,h=>by unfold aK at h |-;exact h
 | d::ds,xs,l,h=>by
   unfold lfL at l;rw [aa] at l;unfold aK at h |-;obtain ⟨y,ys,e,h1,h2⟩:=h;exact ⟨y,ys,e,Rel.free fd d y l.1 h1,aK.free fd ds ys l.2 h2⟩
end
def aK.length:∀ {ds:List D} {xs:List V},aK K H F ds xs->xs.length = ds.length
 | [],xs,h=>by unfold aK at h;subst h;rfl
 | d::ds,xs,h=>by
   unfold aK at h;obtain ⟨y,ys,e,_,h2⟩:=h;subst e;rw [aI,aI,aK.length h2]
def aK.get:∀ {ds:List D} {xs:List V} {i:Nat} {d:D},aK K H F ds xs->ds[i]? = some d->∃ v,xs[i]? = some v/\Rel K H F d v
 | [],_,_,_,_,e=>by simp at e
 | d::ds,xs,i,d',h,e=>by
   unfold aK at h;obtain ⟨y,ys,q,h1,h2⟩:=h;subst q
   cases i with
   | zero=>simp at e;subst e;exact ⟨y,rfl,h1⟩
   | succ i =>
     obtain ⟨v,h3,h4⟩:=aK.get (i:=i) h2 (by simpa using e);exact ⟨v,by simpa using h3,h4⟩
def aK.append:∀ {ds es:List D} {xs ys:List V},aK K H F ds xs->aK K H F es ys->aK K H F (ds++es) (xs++ys)
 | [],es,xs,ys,h,h'=>by unfold aK at h;subst h;exact h'
 | d::ds,es,xs,ys,h,h'=>by
   unfold aK at h;obtain ⟨y,zs,q,h1,h2⟩:=h;subst q;show aK K H F (d::(ds++es)) (y::(zs++ys));unfold aK;exact ⟨y,zs++ys,rfl,h1,aK.append h2 h'⟩
def aK.one (h:Rel K H F d v):aK K H F [d] [v]:=by
 unfold aK;exact ⟨v,[],rfl,h,by unfold aK;rfl⟩
def aK.nil:aK K H F [] []:=by unfold aK;rfl
def aK.cons {d:D} {v:V} {ds:List D} {xs:List V} (h:Rel K H F d v) (t:aK K H F ds xs):aK K H F (d::ds) (v::xs):=by
 unfold aK;exact ⟨v,xs,rfl,h,t⟩
def aK.take:∀ {ds:List D} {xs:List V} (n:Nat),aK K H F ds xs->aK K H F (ds.take n) (xs.take n)
 | [],xs,n,h=>by unfold aK at h;subst h;simp;exact aK.nil
 | d::ds,xs,0,h=>by simp;exact aK.nil
 | d::ds,xs,n+1,h=>by
   unfold aK at h;obtain ⟨y,ys,q,h1,h2⟩:=h;subst q;rw [DF,DF];exact aK.cons h1 (aK.take n h2)
def aK.drop:∀ {ds:List D} {xs:List V} (n:Nat),aK K H F ds xs->aK K H F (ds.drop n) (xs.drop n)
 | [],xs,n,h=>by unfold aK at h;subst h;simp;exact aK.nil
 | d::ds,xs,0,h=>h
 | d::ds,xs,n+1,h=>by
   unfold aK at h;obtain ⟨y,ys,q,h1,h2⟩:=h;subst q;rw [DH,DH];exact aK.drop n h2
def aK.set {d:D} {v:V} (r:Rel K H F d v):∀ {ds:List D} {xs:List V} (n:Nat),aK K H F ds xs->aK K H F (ds.set n d) (xs.set n v)
 | [],xs,n,h=>by unfold aK at h;subst h;simp;exact aK.nil
 | e::ds,xs,0,h=>by
   unfold aK at h;obtain ⟨y,ys,q,h1,h2⟩:=h;subst q
   exact aK.cons r h2
 | e::ds,xs,n+1,h=>by
   unfold aK at h;obtain ⟨y,ys,q,h1,h2⟩:=h;subst q;exact aK.cons h1 (aK.set r n h2)
def aK.cut (lo hi:Option Int) (h:aK K H F ds xs):aK K H F (cutD ds lo hi) (sU xs lo hi):=by
 unfold cutD sU;rw [h.length];exact (h.drop _).take _
end
def dN (K:PySem.W.Frag) (H:Hp) (F:aq->Prop) (d:D) (v:V):Prop:=Rel K H F d v\/∃ a xs ds,d = .lst ds/\v = .ref a/\H a = some (.lst xs)/\aK K H F ds xs
def RelM (m:Bool) (K:PySem.W.Frag) (H:Hp) (F:aq->Prop) (d:D) (v:V):Prop:=if m = true then dN K H F d v else Rel K H F d v
def RelM.b {m:Bool} {K:PySem.W.Frag} {H:Hp} {F:aq->Prop} {d:D} {v:V} (h:RelM m K H F d v):dN K H F d v:=by
 unfold RelM at h;split at h
 . exact h
 . exact .inl h
def dN.same {K:PySem.W.Frag} {G:Gh} {H H':Hp} {F F':aq->Prop} {d:D} {v:V} (fd:FD F H) (s:Step G F H F' H') (k:Sim H H') (h:dN K H F d v):dN K H' F' d v:=by
 rcases h with h | ⟨a,xs,ds,e1,e2,h1,h2⟩
 . exact .inl (Rel.step fd s d v h)
 . exact .inr ⟨a,xs,ds,e1,e2,k.nt _ _ trivial h1,aK.step fd s ds xs h2⟩
def RelM.step {m:Bool} {K:PySem.W.Frag} {G:Gh} {H H':Hp} {F F':aq->Prop} {d:D} {v:V} (fd:FD F H) (s:Step G F H F' H') (k:m = true->Sim H H') (h:RelM m K H F d v):RelM m K H' F' d v:=by
 cases m with
 | true=>exact dN.same fd s (k rfl) h
 | false=>exact Rel.step fd s d v h
def fD (K:PySem.W.Frag) (G:Gh) (F:aq->Prop) (H:Hp) (o:Option (Option V)):Sl->Prop
 | .no=>True
 | .val d=>∃ v,o = some (some v)/\Rel K H F d v
 | .own ds=>∃ a xs,o = some (some (.ref a))/\F a/\G.free a/\H a = some (.lst xs)/\aK K H F ds xs
 | .fnc k cs=>∃ a,o = some (some (.ref a))/\FnV H k cs a
def ow:Sl->Bool
 | .own _=>true
 | _=>false
structure Ok (K:PySem.W.Frag) (G:Gh) (F:aq->Prop) (σ:St) (H:Hp) (δ:Loc):Prop where
 same:Sim G.h H
 fd:FD F H
 rf:∀ b,G.R b->F b
 rl:∀ b,G.R b->∃ o,H b = some o/\Mo o
 tf:TF F
 tabs:kY H
 len:δ.length = σ.length
 sl:∀ (i:Nat) (s:Sl),δ[i]? = some s->fD K G F H σ[i]? s
 apart:∀ (i j:Nat) (s t:Sl) (a:aq),δ[i]? = some s->δ[j]? = some t->ow s = true->ow t = true->σ[i]? = some (some (.ref a))->σ[j]? = some (some (.ref a))->i = j
section
variable {K:PySem.W.Frag} {G:Gh} {H H':Hp} {F F':aq->Prop} {σ:St} {δ:Loc}
def fD.same {o:Option (Option V)} (fd:FD F H) (k:iO H H'):∀ {s:Sl},fD K G F H o s->fD K G F H' o s
 | .no,_=>trivial
 | .val d,h=>by
   obtain ⟨v,e,h⟩:=h
   exact ⟨v,e,Rel.step (G:=G) fd (Step.of_same k) d v h⟩
 | .own ds,h=>by
   obtain ⟨a,xs,e,h1,h2,h3,h4⟩:=h
   exact ⟨a,xs,e,h1,h2,k _ _ h3,aK.step (G:=G) fd (Step.of_same k) ds xs h4⟩
 | .fnc n cs,h=>by
   obtain ⟨a,e,h⟩:=h;exact ⟨a,e,h.keep λa o z=>k _ _ z⟩
def FD.same (fd:FD F H) (k:iO H H'):FD F H':=λb h=>by
 obtain ⟨o,e,q⟩:=fd b h;exact ⟨o,k _ _ e,q⟩
def AN {P:aq->Prop} (h:∀ b,P b->∃ o,H b = some o/\Mo o) (k:iO H H'):∀ b,P b->∃ o,H' b = some o/\Mo o:=λb z=>by
 obtain ⟨o,e,q⟩:=h b z;exact ⟨o,k _ _ e,q⟩
def Ok.same' (h:Ok K G F σ H δ) (k:iO H H'):Ok K G F σ H' δ :=
 ⟨h.same.trans (.of k),h.fd.same k,h.rf,AN h.rl k,h.tf,h.tabs.keep λb o _ e=>k b o e,h.len,λi s e=>(h.sl i s e).same h.fd k,h.apart⟩
def cB (h:H p = none) (o:HO):iO H (upd H p o):=λb u q=>by rw [bN (gL q h)];exact q
def fD.less {o:Option (Option V)} (fd:FD F H) (hs:∀ b,F' b->F b):∀ {s:Sl},(∀ a,ow s = true->o = some (some (.ref a))->F' a)->fD K G F H o s->fD K G F' H o s
 | .no,_,_=>trivial
 | .val d,_,h=>by
   obtain ⟨v,e,h⟩:=h
   exact ⟨v,e,Rel.less fd hs h⟩
 | .own ds,q,h=>by
   obtain ⟨a,xs,e,h1,h2,h3,h4⟩:=h
   exact ⟨a,xs,e,q a rfl e,h2,h3,aK.less fd hs h4⟩
 | .fnc n cs,_,h=>h
inductive iP (K:PySem.W.Frag) (H:Hp) (F:aq->Prop):D->HO->Prop
 | lst {ds:List D} {xs:List V}:aK K H F ds xs->iP K H F (.lst ds) (.lst xs)
def owS:D->Sl
 | .lst ds=>.own ds
 | _=>.no
def Jt {d d':D} (h:ow (owS d) = true) (e:owS d = owS d'):d = d':=by
 cases d<;>first | (cases h;done) | skip
 . cases d'<;>first | (cases e;rfl) | cases e
def iP.mo {d:D} {o:HO} (h:iP K H F d o):Mo o/\ow (owS d) = true:=by
 cases h<;>exact ⟨trivial,rfl⟩
def iP.step (fd:FD F H) (s:Step G F H F' H') {d:D} {o:HO} (h:iP K H F d o):iP K H' F' d o:=by
 cases h with
 | lst h=>exact .lst (aK.step fd s _ _ h)
def iP.sl {o:Option (Option V)} {a:aq} {d:D} {u:HO} (e:o = some (some (.ref a))) (hF:F a) (hg:G.free a) (h:H a = some u) (r:iP K H F d u):fD K G F H o (owS d):=by
 cases r with
 | lst r=>exact ⟨a,_,e,hF,hg,h,r⟩
def fD.ow {o:Option (Option V)} {s:Sl} (h:fD K G F H o s) (q:ow s = true):∃ a u d,o = some (some (.ref a))/\F a/\G.free a/\H a = some u/\iP K H F d u/\s = owS d:=by
 cases s with
 | own ds =>
   obtain ⟨a,xs,e,h1,h2,h3,h4⟩:=h
   exact ⟨a,_,.lst ds,e,h1,h2,h3,.lst h4,rfl⟩
 | _=>cases q
def fD.stay0 (fd:FD F H) (st:Step G' F H F' H') (k:∀ a u,o = some (some (.ref a))->F a->G.free a->H a = some u->F' a/\H' a = some u):∀ {s:Sl},fD K G F H o s->fD K G F' H' o s
 | .no,_=>trivial
 | .fnc n cs,h=>by
   obtain ⟨v,e,z⟩:=h
   exact ⟨v,e,z.keep (vQ fd st.keep)⟩
 | .val d,h=>by
   obtain ⟨v,e,z⟩:=h
   exact ⟨v,e,Rel.step fd st d v z⟩
 | .own ds,h=>by
   obtain ⟨a,u,d,e,h1,h2,h3,h4,e5⟩:=fD.ow h rfl;rw [e5];obtain ⟨k1,k2⟩:=k a u e h1 h2 h3;exact iP.sl e k1 h2 k2 (h4.step fd st)
def fD.stay {o:Option (Option V)} (fd:FD F H) (st:Step G F H F' H') (k:∀ a u,o = some (some (.ref a))->F a->G.free a->H a = some u->F' a/\H' a = some u) {s:Sl} (h:fD K G F H o s):fD K G F' H' o s:=fD.stay0 fd st k h
def fD.free {G':Gh} {o:Option (Option V)} (k:∀ a,F a->G.free a->G'.free a):∀ {s:Sl},fD K G F H o s->fD K G' F H o s
 | .no,_=>trivial
 | .fnc n cs,h=>h
 | .val d,h=>h
 | .own ds,h=>by
   obtain ⟨a,xs,e,h1,h2,h3⟩:=h;exact ⟨a,xs,e,h1,k a h1 h2,h3⟩
def iP.rel (fd:FD F H) (hs:∀ b,F' b->F b) {a:aq} (n:¬ F' a) {d:D} {u:HO} (h:H a = some u) (r:iP K H F d u):Rel K H F' d (.ref a):=by
 cases r with
 | lst r =>
   unfold Rel;exact ⟨a,_,rfl,.inl ⟨.inl h,n⟩,aK.less fd hs r⟩
def fS {α:Type} {l:List α} {i j:Nat} {x y:α} (hi:i < l.length) (q:(l.set i x)[j]? = some y):(j = i/\y = x)\/(j≠i/\l[j]? = some y):=by
 by_cases hj:j = i
 . subst hj;rw [bV hi] at q;cases q;exact .inl ⟨rfl,rfl⟩
 . rw [aU (Ne.symm hj)] at q;exact .inr ⟨hj,q⟩
def Ok.demote (h:Ok K G F σ H δ) {i:Nat} {d:D} {a:aq} (e:δ[i]? = some (owS d)) (eo:ow (owS d) = true) (ea:σ[i]? = some (some (.ref a))) :
 Ok K G (λb=>F b/\b≠a) σ H (δ.set i (.val d))/\Rel K H (λb=>F b/\b≠a) d (.ref a):=by
 have hi:i < δ.length:=(aD.mp e).1;obtain ⟨a',u,d',e1,h1,h2,h3,h4,ed⟩:=fD.ow (h.sl i _ e) eo;rw [ea] at e1;cases e1;have ed:=Jt eo ed;subst ed;have hs:∀ b,(F b/\b≠a)->F b:=λb z=>z.1;have r:Rel K H (λb=>F b/\b≠a) d (.ref a):=iP.rel h.fd hs (λz=>z.2 rfl) h3 h4
 have tf':TF λb=>F b/\b≠a:=λt ht=>⟨h.tf t ht,λw=>by
  obtain ⟨ps,e2,_⟩:=h.tabs t ht;rw [w,h3] at e2;cases e2;exact h4.mo.1⟩
 refine ⟨⟨h.same,λb z=>h.fd b z.1,λb z=>⟨h.rf b z,λw=>h2.2 (by rw [<- w];exact z)⟩,h.rl,tf',h.tabs,by rw [bO];exact h.len,λj s q=>?_,λj k s t b q1 q2 o1 o2 p1 p2=>?_⟩,r⟩
 . rcases fS hi q with ⟨rfl,rfl⟩ | ⟨hj,q⟩
   . exact ⟨.ref a,ea,r⟩
   . refine (h.sl j s q).less h.fd hs λb z zb=>?_;obtain ⟨b',u',d',e1,f1,_⟩:=fD.ow (h.sl j _ q) z;rw [zb] at e1;cases e1;exact ⟨f1,λw=>hj (h.apart j i _ _ a q e z eo (by rw [zb,w]) ea)⟩
 . rcases fS hi q1 with ⟨rfl,rfl⟩ | ⟨hj,q1⟩
   . cases o1
   . rcases fS hi q2 with ⟨rfl,rfl⟩ | ⟨hk,q2⟩
     . cases o2
     . exact h.apart j k s t b q1 q2 o1 o2 p1 p2
def Ok.set (h:Ok K G F σ H δ) {i:Nat} {d:D} {v:V} (hi:i < δ.length) (r:Rel K H F d v):Ok K G F (σ.set i (some v)) H (δ.set i (.val d)):=by
 have hi':i < σ.length:=by rw [<- h.len];exact hi
 refine ⟨h.same,h.fd,h.rf,h.rl,h.tf,h.tabs,by rw [bO,bO];exact h.len,λj s q=>?_,λj k s t b q1 q2 o1 o2 p1 p2=>?_⟩
 . rcases fS hi q with ⟨rfl,rfl⟩ | ⟨hj,q⟩
   . exact ⟨v,by rw [bV hi'],r⟩
   . rw [aU (Ne.symm hj)];exact h.sl j s q
 . rcases fS hi q1 with ⟨rfl,rfl⟩ | ⟨hj,q1⟩
   . cases o1
   . rcases fS hi q2 with ⟨rfl,rfl⟩ | ⟨hk,q2⟩
     . cases o2
     . rw [aU (Ne.symm hj)] at p1;rw [aU (Ne.symm hk)] at p2;exact h.apart j k s t b q1 q2 o1 o2 p1 p2
def Ok.ownO (h:Ok K G F σ H δ) {i:Nat} {d:D} {u:HO} {p:aq} (hi:i < δ.length) (hp:F p) (hg:G.free p) (e:H p = some u) (r:iP K H F d u)
 (hn:∀ (j:Nat) s,δ[j]? = some s->ow s = true->σ[j]?≠some (some (.ref p))):Ok K G F (σ.set i (some (.ref p))) H (δ.set i (owS d)):=by
 have hi':i < σ.length:=by rw [<- h.len];exact hi
 refine ⟨h.same,h.fd,h.rf,h.rl,h.tf,h.tabs,by rw [bO,bO];exact h.len,λj s q=>?_,λj k s t b q1 q2 o1 o2 p1 p2=>?_⟩
 . rcases fS hi q with ⟨rfl,rfl⟩ | ⟨hj,q⟩
   . exact iP.sl (by rw [bV hi']) hp hg e r
   . rw [aU (Ne.symm hj)];exact h.sl j s q
 . rcases fS hi q1 with ⟨rfl,rfl⟩ | ⟨hj,q3⟩
   . rcases fS hi q2 with ⟨rfl,rfl⟩ | ⟨hk,q2⟩
     . rfl
     . rw [bV hi'] at p1;rw [aU (Ne.symm hk)] at p2;cases p1;exact (hn k t q2 o2 p2).elim
   . rw [aU (Ne.symm hj)] at p1;rcases fS hi q2 with ⟨rfl,rfl⟩ | ⟨hk,q2⟩
     . rw [bV hi'] at p2;cases p2;exact (hn j s q3 o1 p1).elim
     . rw [aU (Ne.symm hk)] at p2;exact h.apart j k s t b q3 q2 o1 o2 p1 p2
def Ok.own (h:Ok K G F σ H δ) {i:Nat} {ds:List D} {xs:List V} {p:aq} (hi:i < δ.length) (hp:F p) (hg:G.free p) (e:H p = some (.lst xs)) (r:aK K H F ds xs)
 (hn:∀ (j:Nat) s,δ[j]? = some s->ow s = true->σ[j]?≠some (some (.ref p))):Ok K G F (σ.set i (some (.ref p))) H (δ.set i (.own ds)):=h.ownO (d:=.lst ds) hi hp hg e (.lst r) hn
def Ok.writeO (h:Ok K G F σ H δ) {i:Nat} {d d':D} {a:aq} {u:HO} (e:δ[i]? = some (owS d)) (eo:ow (owS d) = true) (ea:σ[i]? = some (some (.ref a))) (r:iP K H F d' u) :
 Ok K G F σ (upd H a u) (δ.set i (owS d'))/\Step G F H F (upd H a u):=by
 have hi:i < δ.length:=(aD.mp e).1;have e':=e;obtain ⟨a',x,d0,e1,h1,h2,h3,h4,_⟩:=fD.ow (h.sl i _ e) eo;rw [ea] at e1;cases e1
 have nt:NT x:=by
  have m:=h4.mo.1;cases x<;>first | trivial | exact m
 have st:Step G F H F (upd H a u):=⟨λb o _ q n=>by
  rw [bN (λz:b = a=>n (by rw [z];exact h1))];exact q,λb z=>.inl z,λb o r z e=>⟨z,by rw [bN (λw:b = a=>h2.2 (by rw [<- w];exact r))];exact e⟩,λb ps e=>⟨ps,by rw [bN (λw:b = a=>by rw [w,h3] at e;cases e;exact nt)];exact e⟩⟩
 have tb':kY (upd H a u):=h.tabs.keep λb o n e=>by rw [bN (λw:b = a=>by rw [w,h3] at e;cases e;exact n h4.mo.1)];exact e
 refine ⟨⟨⟨λb o t q=>?_,λb ps q=>?_⟩,λb z=>?_,h.rf,λb z=>?_,h.tf,tb',by rw [bO];exact h.len,λj s q=>?_,λj k s t b q1 q2 o1 o2 p1 p2=>?_⟩,st⟩
 . have:=h.same.nt b o t q;rw [bN (λz:b = a=>by rw [z,h2.1] at q;cases q)];exact this
 . rw [bN (λz:b = a=>by rw [z,h2.1] at q;cases q)];exact h.same.tb b ps q
 . by_cases hb:b = a
   . subst hb;exact ⟨u,cm,.inl r.mo.1⟩
   . rw [bN hb];exact h.fd b z
 . by_cases hb:b = a
   . subst hb;exact ⟨u,cm,r.mo.1⟩
   . rw [bN hb];exact h.rl b z
 . rcases fS hi q with ⟨rfl,rfl⟩ | ⟨hj,q⟩
   . exact iP.sl ea h1 h2 cm (r.step h.fd st)
   . cases eq:ow s with
     | true =>
       refine fD.stay h.fd st (λb v e f1 f2 f3=>⟨f1,?_⟩) (h.sl j s q);rw [bN (λw:b = a=>hj (h.apart j i _ _ a q e' eq eo (by rw [e,w]) ea))]
       exact f3
     | false =>
       have z:=h.sl j s q
       cases s with
       | no=>trivial
       | fnc n cs =>
         obtain ⟨v,e,z⟩:=z
         exact ⟨v,e,z.keep (vQ h.fd st.keep)⟩
       | val d =>
         obtain ⟨v,e,z⟩:=z
         exact ⟨v,e,Rel.step h.fd st d v z⟩
       | own _=>cases eq
 . have un:∀ (m:Nat) (g:Sl),(δ.set i (owS d'))[m]? = some g->ow g = true->∃ g',δ[m]? = some g'/\ow g' = true:=λm g q o=>by
    rcases fS hi q with ⟨rfl,rfl⟩ | ⟨hj,q⟩
    . exact ⟨_,e,eo⟩
    . exact ⟨g,q,o⟩
   obtain ⟨g1,q1,o1⟩:=un j _ q1 o1;obtain ⟨g2,q2,o2⟩:=un k _ q2 o2;exact h.apart j k g1 g2 b q1 q2 o1 o2 p1 p2
def Ok.write (h:Ok K G F σ H δ) (e:δ[i]? = some (.own ds)) (ea:σ[i]? = some (some (.ref a))) (r:aK K H F es ys) :
 Ok K G F σ (upd H a (.lst ys)) (δ.set i (.own es))/\Step G F H F (upd H a (.lst ys)):=h.writeO (d:=.lst ds) (d':=.lst es) e rfl ea (.lst r)
def Mo.nt {o:HO} (m:Mo o):NT o:=by
 cases o<;>first | trivial | exact m
def Step.of_sim (rl:∀ b,G.R b->∃ o,H b = some o/\Mo o) (k:Sim H H'):Step G F H F H':=⟨λb o t e _=>k.nt b o t e,λb z=>.inl z,λb o r f e=>⟨f,by
 obtain ⟨u,e2,m⟩:=rl b r;rw [e] at e2;cases e2;exact k.nt b _ m.nt e⟩,k.tb⟩
def Ok.call (h:Ok K G F σ H δ) (k:Sim H H') (t:kY H'):Ok K G F σ H' δ/\Step G F H F H':=by
 have st:Step G F H F H':=Step.of_sim h.rl k;refine ⟨⟨h.same.trans k,λb z=>?_,h.rf,λb z=>?_,h.tf,t,h.len,λi s e=>?_,h.apart⟩,st⟩
 . obtain ⟨o,e,m⟩:=h.fd b z;rcases m with m | ⟨⟨ps,rfl⟩,t⟩
   . exact ⟨o,k.nt _ _ m.nt e,.inl m⟩
   . obtain ⟨qs,e⟩:=k.tb b ps e;exact ⟨_,e,.inr ⟨⟨qs,rfl⟩,t⟩⟩
 . obtain ⟨o,e,m⟩:=h.rl b z;exact ⟨o,k.nt _ _ m.nt e,m⟩
 . cases eq:ow s with
   | true =>
     obtain ⟨_,_,_,_,_,_,h3,h4,_⟩:=fD.ow (h.sl i s e) eq;refine fD.stay h.fd st (λb v e2 f1 f2 f3=>⟨f1,?_⟩) (h.sl i s e);obtain ⟨o,e3,m⟩:=h.fd b f1;rw [f3] at e3;cases e3;rcases m with m | ⟨⟨ps,rfl⟩,t,ht,eb⟩
     . exact k.nt _ _ m.nt f3
     . exfalso;obtain ⟨c,w,d,e5,_,_,e7,r7,_⟩:=fD.ow (h.sl i s e) eq;rw [e2] at e5;cases e5;rw [f3] at e7;cases e7
       exact r7.mo.1
   | false =>
     have q:=h.sl i s e
     cases s with
     | no=>trivial
     | fnc n cs =>
       obtain ⟨v,e,r⟩:=q
       exact ⟨v,e,r.keep (vQ h.fd st.keep)⟩
     | val d =>
       obtain ⟨v,e,r⟩:=q
       exact ⟨v,e,Rel.step h.fd st d v r⟩
     | own _=>cases eq
end
end PP
end
section
namespace PP
open PySem L2 PyProof.Rows PySem.SeqAt
variable [Tbs]
def Di (xs:List (Array Nat)):∀ a:Array Nat,(xs.foldl (·++·) a).toList = a.toList++(xs.map (·.toList)).flatten:=by
 induction xs with
 | nil=>intro a;simp
 | cons x r ih=>intro a;rw [gq,ih];simp
def JH (x:Str) (n:Int) (h:0<=n):Txt.mul x n = xF x n.toNat:=by
 unfold Txt.mul xF;by_cases h1:n < 1
 . have:n = 0:=by lia
   subst this;rfl
 . rw [if_neg h1];by_cases h2:(n == 1 || x.length == 0) = true
   . rw [if_pos h2];rw [fk] at h2;rcases h2 with h2 | h2
     . have:n = 1:=by simpa using h2
       subst this;simp
     . have e:x.cps = #[]:=by
        have:x.cps.size = 0:=by simpa [Str.length] using h2
        exact Array.eq_empty_of_size_eq_zero this
       cases x;simp at e;subst e;simp
   . rw [if_neg h2];congr 1;apply Array.ext';rw [Di];simp
def Ju:OpR X (binaryOp .Mult) (λx y H Q=>∃ i n,x = .str i/\y = .int n/\(0<=n/\n<=1000/\i.length<=1000)/\Q (.str (xF i n.toNat)) H):=by
 intro pins s σ H x y v u Q I rx ry h;obtain ⟨i,n,rfl,rfl,⟨h1,h2,h3⟩,q⟩:=h;obtain ⟨t,rfl⟩:=rx;obtain ⟨t',rfl⟩:=ry;refine SB.mul ⟨?_,λa _ b=>?_,λa _=>?_⟩ λt' k=>?_
 . simp;lia
 . have:(1000:Int)<=(2 ^ 63 - 1) / n:=by rw [Int.le_ediv_iff_mul_le ∅];lia
   lia
 . have:i.length * n.toNat<=1000 * 1000:=Nat.mul_le_mul h3 ∅;have z:=cj;unfold Builtin.Str.tooLong;simp
   lia
 . rw [JH i n h1];exact ⟨.str _,H,I.tok _,⟨_,rfl⟩,q⟩
mutual
noncomputable def RdV (h:bG):D->af->Prop
 | .non,u=>u = .none
 | .bl b,u=>u = .bool b
 | .int i,u=>∃ t,u = .int i t
 | .str x,u=>∃ t,u = .str x t
 | .lst ds,u=>∃ a its,u = .ref a/\h.IsList a its/\RdL h ds its.toList
 | .tup ds,u=>∃ a its,u = .ref a/\h.IsTuple a its/\RdL h ds its.toList
 | .fn _ _,_=>False
noncomputable def RdL (h:bG):List D->List af->Prop
 | [],us=>us = []
 | d::ds,us=>∃ w ws,us = w::ws/\RdV h d w/\RdL h ds ws
end
mutual
theorem zF (I:Inv X pins σ H s):∀ (d:D) (v:V) (u:af),Rel X.K H F d v->RelV v u->dep d < 100000->RdV s.heap d u
 | .non,v,u,h,r,_=>by unfold Rel at h;subst h;unfold RdV;exact r
 | .bl b,v,u,h,r,_=>by unfold Rel at h;subst h;unfold RdV;exact r
 | .int b,v,u,h,r,_=>by unfold Rel at h;subst h;unfold RdV;exact r
 | .str b,v,u,h,r,_=>by unfold Rel at h;subst h;unfold RdV;exact r
 | .lst ds,v,u,h,r,hd=>by
   unfold dep at hd;unfold Rel at h;obtain ⟨a,xs,e,h1,h3⟩:=h;subst e;cases (show u = bj a from r);obtain ⟨its,rv,p,hz⟩:=I.list h1.sq;unfold RdV
   exact ⟨a,its.toArray,rfl,p.isList,oi I ds xs its h3 rv ∅⟩
 | .tup ds,v,u,h,r,hd=>by
   unfold dep at hd;unfold Rel at h;obtain ⟨a,xs,e,h1,h3⟩:=h;subst e;cases (show u = bj a from r);obtain ⟨its,rv,p,hz⟩:=I.tuple h1;unfold RdV
   exact ⟨a,its.toArray,rfl,p,oi I ds xs its h3 rv ∅⟩
 | .fn _ _,v,u,h,r,_=>by unfold Rel at h;exact h.elim
theorem oi (I:Inv X pins σ H s):∀ (ds:List D) (xs:List V) (us:List af),aK X.K H F ds xs->Vals xs us->cI ds < 100000->RdL s.heap ds us
 | [],xs,us,h,r,_=>by unfold aK at h;subst h;cases r;unfold RdL;rfl
 | d::ds,xs,us,h,r,hd=>by
   unfold cI at hd;unfold aK at h;obtain ⟨y,ys,e,h1,h2⟩:=h;subst e
   cases r with
   | cons r1 r2 =>
     unfold RdL;exact ⟨_,_,rfl,zF I d y _ h1 r1 ∅,oi I ds ys _ h2 r2 ∅⟩
end
def fG (I:Inv X pins σ H s) (h:dN X.K H F d v) (r:RelV v u) (hd:dep d < 100000):RdV s.heap d u:=by
 rcases h with h | ⟨a,xs,ds,rfl,rfl,h1,h2⟩
 . exact zF I d v u h r hd
 . cases (show u = bj a from r);obtain ⟨its,rv,p,hz⟩:=I.list (.inl (.inl h1));unfold RdV;unfold dep at hd;exact ⟨a,its.toArray,rfl,p.isList,oi I ds xs its h2 rv ∅⟩
mutual
theorem RdV.inj:∀ (d e:D) (u:af),RdV h d u->RdV h e u->d = e
 | .non,e,u,a,b=>by
   unfold RdV at a;subst a
   cases e<;>unfold RdV at b<;>first | rfl | (obtain ⟨_,_,b,_⟩:=b;cases b;done) | (obtain ⟨_,b⟩:=b;cases b;done) | (cases b;done)
 | .bl x,e,u,a,b=>by
   unfold RdV at a;subst a
   cases e<;>unfold RdV at b<;>first | (cases b;rfl) | (obtain ⟨_,_,b,_⟩:=b;cases b;done) | (obtain ⟨_,b⟩:=b;cases b;done) | (cases b;done)
 | .int x,e,u,a,b=>by
   unfold RdV at a;obtain ⟨t,a⟩:=a;subst a
   cases e<;>unfold RdV at b<;>first | (obtain ⟨_,_,b,_⟩:=b;cases b;done) | (obtain ⟨_,b⟩:=b;cases b;rfl) | (obtain ⟨_,b⟩:=b;cases b;done) | (cases b;done)
 | .str x,e,u,a,b=>by
   unfold RdV at a;obtain ⟨t,a⟩:=a;subst a
   cases e<;>unfold RdV at b<;>first | (obtain ⟨_,_,b,_⟩:=b;cases b;done) | (obtain ⟨_,b⟩:=b;cases b;rfl) | (obtain ⟨_,b⟩:=b;cases b;done) | (cases b;done)
 | .lst ds,e,u,a,b=>by
   unfold RdV at a;obtain ⟨l,its,a,h1,h2⟩:=a;subst a
   cases e with
   | lst es =>
     unfold RdV at b;obtain ⟨l',its',b,k1,k2⟩:=b;cases b;obtain ⟨o,g1,g2,n,g3⟩:=h1;obtain ⟨o',f1,f2,n',f3⟩:=k1;rw [g1] at f1;cases f1;rw [g3] at f3;cases f3
     rw [RdL.inj ds es _ h2 k2]
   | tup es =>
     unfold RdV at b;obtain ⟨l',its',b,k1,k2⟩:=b;cases b;obtain ⟨o,g1,g2,_⟩:=h1;obtain ⟨o',f1,f2,_⟩:=k1;rw [g1] at f1;cases f1
     rw [g2] at f2;injection f2 with f2;exact absurd f2 ⇑0
   | _=>unfold RdV at b;first | (obtain ⟨_,b⟩:=b;cases b) | cases b
 | .tup ds,e,u,a,b=>by
   unfold RdV at a;obtain ⟨l,its,a,h1,h2⟩:=a;subst a
   cases e with
   | tup es =>
     unfold RdV at b;obtain ⟨l',its',b,k1,k2⟩:=b;cases b;obtain ⟨o,g1,g2,n,g3⟩:=h1;obtain ⟨o',f1,f2,n',f3⟩:=k1;rw [g1] at f1;cases f1;rw [g3] at f3;cases f3
     rw [RdL.inj ds es _ h2 k2]
   | lst es =>
     unfold RdV at b;obtain ⟨l',its',b,k1,k2⟩:=b;cases b;obtain ⟨o,g1,g2,_⟩:=h1;obtain ⟨o',f1,f2,_⟩:=k1;rw [g1] at f1;cases f1
     rw [g2] at f2;injection f2 with f2;exact absurd f2 ⇑0
   | _=>unfold RdV at b;first | (obtain ⟨_,b⟩:=b;cases b) | cases b
 | .fn _ _,e,u,a,b=>by unfold RdV at a;exact a.elim
theorem RdL.inj:∀ (ds es:List D) (us:List af),RdL h ds us->RdL h es us->ds = es
 | [],es,us,a,b=>by
   unfold RdL at a;subst a
   cases es with
   | nil=>rfl
   | cons e es=>unfold RdL at b;obtain ⟨_,_,b,_⟩:=b;cases b
 | d::ds,es,us,a,b=>by
   unfold RdL at a;obtain ⟨w,ws,a,h1,h2⟩:=a;subst a
   cases es with
   | nil=>unfold RdL at b;cases b
   | cons e es =>
     unfold RdL at b;obtain ⟨_,_,b,k1,k2⟩:=b;cases b;rw [RdV.inj d e w h1 k1,RdL.inj ds es ws h2 k2]
end
mutual
theorem nz:∀ d:D,dep d < 100000->eqD d d = true
 | .non,_=>by unfold eqD;rfl
 | .bl b,_=>by unfold eqD;simp
 | .int b,_=>by unfold eqD;simp
 | .str b,_=>by unfold eqD;simp
 | .lst ds,h=>by unfold eqD;exact oB ds (by unfold dep at h;lia)
 | .tup ds,h=>by unfold eqD;exact oB ds (by unfold dep at h;lia)
 | .fn _ _,h=>by unfold dep at h;lia
theorem oB:∀ ds:List D,cI ds < 100000->gy ds ds = true
 | [],_=>by unfold gy;rfl
 | d::ds,h=>by
   unfold cI at h;unfold gy;rw [nz d ∅,oB ds ∅];rfl
end
def pairD (ds es:List D) (j:Nat):Bool:=match ds[j]?,es[j]? with
 | some x,some y=>eqD x y
 | _,_=>false
def lC:∀ (ds es:List D),(bo (min ds.length es.length)).all (pairD ds es) = true/\ds.length = es.length↔gy ds es = true
 | [],[]=>by unfold gy;simp
 | [],_::_=>by unfold gy;simp
 | _::_,[]=>by unfold gy;simp
 | d::ds,e::es=>by
   have ih:=lC ds es;have e1:min (d::ds).length (e::es).length = min ds.length es.length+1:=by simp only [aI];lia
   rw [e1,List.range_succ_eq_map,nM,List.all_map];have e2:(pairD (d::ds) (e::es) ∘ Nat.succ) = pairD ds es:=by funext j;simp [pairD]
   rw [e2];unfold gy;rw [aa,aa,<- ih];have e3:pairD (d::ds) (e::es) 0 = eqD d e:=rfl;rw [e3];simp only [aI];constructor
   . rintro ⟨⟨a,b⟩,c⟩;exact ⟨a,b,∅⟩
   . rintro ⟨a,b,c⟩;exact ⟨⟨a,b⟩,∅⟩
def rZ (h:ds.length = es.length):(bo ds.length).all (pairD ds es) = gy ds es:=by
 have q:=lC ds es;rw [<- h,Ar] at q;rw [cV];rw [<- q];simp
def vT (h:ds.length≠es.length):gy ds es = false:=by
 have q:=lC ds es;rw [jH];intro z;exact h (q.mpr z).2
def oE (ds es:List D):((bo (min ds.length es.length)).all (pairD ds es) && ds.length == es.length) = gy ds es:=by
 have q:=lC ds es;rw [cV,aa,<- q];simp
def RdL.length:∀ {ds:List D} {us:List af},RdL h ds us->us.length = ds.length
 | [],us,a=>by unfold RdL at a;subst a;rfl
 | d::ds,us,a=>by
   unfold RdL at a;obtain ⟨w,ws,a,_,h2⟩:=a;subst a;rw [aI,aI,RdL.length h2]
def mm1 (a b c d:Nat):min a c<=min (max a b) (max c d):=Nat.le_min.mpr ⟨bF (Lo _ _) (tF _ _),bF (sD _ _) (tF _ _)⟩
def mm2 (a b c d:Nat):min b d<=min (max a b) (max c d):=Nat.le_min.mpr ⟨bF (Lo _ _) (sE _ _),bF (sD _ _) (sE _ _)⟩
mutual
theorem se:∀ (a b:D) (A:aR) (s:ah) (u v:af),RdV s.heap a u->RdV s.heap b v->A.units+min (dep a) (dep b) < cLine->EqAt A s u v (eqD a b)
 | .non,b,A,s,u,v,ra,rb,hu=>by
   unfold RdV at ra;subst ra
   cases b with
   | non=>unfold RdV at rb;subst rb;unfold eqD;exact HU _
   | bl b=>unfold RdV at rb;subst rb;unfold eqD;exact EqAt.none_bool b
   | int b=>unfold RdV at rb;obtain ⟨t,rfl⟩:=rb;unfold eqD;exact EqAt.none_int b t
   | str b=>unfold RdV at rb;obtain ⟨t,rfl⟩:=rb;unfold eqD;exact EqAt.none_str b t
   | lst ds=>unfold RdV at rb;obtain ⟨l,its,rfl,h1,h2⟩:=rb;unfold eqD;exact EqAt.none_list h1 ∅
   | tup ds=>unfold RdV at rb;obtain ⟨l,its,rfl,h1,h2⟩:=rb;unfold eqD;exact EqAt.none_tuple h1 ∅
   | fn _ _=>unfold RdV at rb;exact rb.elim
 | .bl a,b,A,s,u,v,ra,rb,hu=>by
   unfold RdV at ra;subst ra
   cases b with
   | non=>unfold RdV at rb;subst rb;unfold eqD;exact EqAt.bool_none a
   | bl b=>unfold RdV at rb;subst rb;unfold eqD;exact EqAt.bool_bool a b
   | int b=>unfold RdV at rb;obtain ⟨t,rfl⟩:=rb;unfold eqD;exact EqAt.bool_int a b t
   | str b=>unfold RdV at rb;obtain ⟨t,rfl⟩:=rb;unfold eqD;exact EqAt.bool_str a b t
   | lst ds=>unfold RdV at rb;obtain ⟨l,its,rfl,h1,h2⟩:=rb;unfold eqD;exact EqAt.bool_list a h1 ∅
   | tup ds=>unfold RdV at rb;obtain ⟨l,its,rfl,h1,h2⟩:=rb;unfold eqD;exact EqAt.bool_tuple a h1 ∅
   | fn _ _=>unfold RdV at rb;exact rb.elim
 | .int a,b,A,s,u,v,ra,rb,hu=>by
   unfold RdV at ra;obtain ⟨t',rfl⟩:=ra
   cases b with
   | non=>unfold RdV at rb;subst rb;unfold eqD;exact EqAt.int_none a t'
   | bl b=>unfold RdV at rb;subst rb;unfold eqD;exact EqAt.int_bool a t' b
   | int b=>unfold RdV at rb;obtain ⟨t,rfl⟩:=rb;unfold eqD;exact EqAt.int_int a t' b t
   | str b=>unfold RdV at rb;obtain ⟨t,rfl⟩:=rb;unfold eqD;exact EqAt.int_str a t' b t
   | lst ds=>unfold RdV at rb;obtain ⟨l,its,rfl,h1,h2⟩:=rb;unfold eqD;exact EqAt.int_list a t' h1 ∅
   | tup ds=>unfold RdV at rb;obtain ⟨l,its,rfl,h1,h2⟩:=rb;unfold eqD;exact EqAt.int_tuple a t' h1 ∅
   | fn _ _=>unfold RdV at rb;exact rb.elim
 | .str a,b,A,s,u,v,ra,rb,hu=>by
   unfold RdV at ra;obtain ⟨t',rfl⟩:=ra
   cases b with
   | non=>unfold RdV at rb;subst rb;unfold eqD;exact EqAt.str_none a t'
   | bl b=>unfold RdV at rb;subst rb;unfold eqD;exact EqAt.str_bool a t' b
   | int b=>unfold RdV at rb;obtain ⟨t,rfl⟩:=rb;unfold eqD;exact EqAt.str_int a t' b t
   | str b=>unfold RdV at rb;obtain ⟨t,rfl⟩:=rb;unfold eqD;exact EqAt.str_str a t' b t
   | lst ds=>unfold RdV at rb;obtain ⟨l,its,rfl,h1,h2⟩:=rb;unfold eqD;exact EqAt.str_list a t' h1 ∅
   | tup ds=>unfold RdV at rb;obtain ⟨l,its,rfl,h1,h2⟩:=rb;unfold eqD;exact EqAt.str_tuple a t' h1 ∅
   | fn _ _=>unfold RdV at rb;exact rb.elim
 | .lst ds,b,A,s,u,v,ra,rb,hu=>by
   have ra':=ra;unfold RdV at ra;obtain ⟨l,its,rfl,h1,h2⟩:=ra
   cases b with
   | non=>unfold RdV at rb;subst rb;unfold eqD;exact EqAt.list_none h1 ∅
   | bl b=>unfold RdV at rb;subst rb;unfold eqD;exact EqAt.list_bool b h1 ∅
   | int b=>unfold RdV at rb;obtain ⟨t,rfl⟩:=rb;unfold eqD;exact EqAt.list_int b t h1 ∅
   | str b=>unfold RdV at rb;obtain ⟨t,rfl⟩:=rb;unfold eqD;exact EqAt.list_str b t h1 ∅
   | tup es=>unfold RdV at rb;obtain ⟨l',its',rfl,k1,k2⟩:=rb;unfold eqD;exact EqAt.list_tuple h1 k1 ∅
   | lst es =>
     have rb':=rb;unfold RdV at rb;obtain ⟨l',its',rfl,k1,k2⟩:=rb;by_cases hl:l = l'
     . subst hl;have e:=RdV.inj _ _ _ ra' rb';cases e;have hd:dep (.lst ds) < 100000:=by rw [Ar] at hu;have:cLine = 9900:=rfl;lia
       rw [nz _ hd];exact HU _
     . unfold eqD;have n1:its.size = ds.length:=by simpa using h2.length
       have n2:its'.size = es.length:=by simpa using k2.length
       have he:∀ j (j1:j < its.size) (j2:j < its'.size),EqAt A.in1 s its[j] its'[j] (pairD ds es j):=λj j1 j2=>by
        have q:=jY ds es A.in1 s its.toList its'.toList h2 k2 (by show A.units+1+_ < _;unfold dep at hu;lia) j (by simpa using j1) (by simpa using j2);simpa using q
       refine EqAt.of_refs hl ?_;by_cases hsz:its.size = its'.size
       . rw [<- rZ (by lia:ds.length = es.length),<- n1];exact RcAt.lists h1 k1 hsz ∅ he
       . rw [vT (by lia:ds.length≠es.length)]
         exact RcAt.lists_lengths h1 k1 (by simpa using hsz) ∅
   | fn _ _=>unfold RdV at rb;exact rb.elim
 | .tup ds,b,A,s,u,v,ra,rb,hu=>by
   have ra':=ra;unfold RdV at ra;obtain ⟨l,its,rfl,h1,h2⟩:=ra
   cases b with
   | non=>unfold RdV at rb;subst rb;unfold eqD;exact EqAt.tuple_none h1 ∅
   | bl b=>unfold RdV at rb;subst rb;unfold eqD;exact EqAt.tuple_bool b h1 ∅
   | int b=>unfold RdV at rb;obtain ⟨t,rfl⟩:=rb;unfold eqD;exact EqAt.tuple_int b t h1 ∅
   | str b=>unfold RdV at rb;obtain ⟨t,rfl⟩:=rb;unfold eqD;exact EqAt.tuple_str b t h1 ∅
   | lst es=>unfold RdV at rb;obtain ⟨l',its',rfl,k1,k2⟩:=rb;unfold eqD;exact EqAt.tuple_list h1 k1 ∅
   | tup es =>
     have rb':=rb;unfold RdV at rb;obtain ⟨l',its',rfl,k1,k2⟩:=rb;by_cases hl:l = l'
     . subst hl;have e:=RdV.inj _ _ _ ra' rb';cases e;have hd:dep (.tup ds) < 100000:=by rw [Ar] at hu;have:cLine = 9900:=rfl;lia
       rw [nz _ hd];exact HU _
     . unfold eqD;have n1:its.size = ds.length:=by simpa using h2.length
       have n2:its'.size = es.length:=by simpa using k2.length
       have he:∀ j (j1:j < its.size) (j2:j < its'.size),EqAt A.in1 s its[j] its'[j] (pairD ds es j):=λj j1 j2=>by
        have q:=jY ds es A.in1 s its.toList its'.toList h2 k2 (by show A.units+1+_ < _;unfold dep at hu;lia) j (by simpa using j1) (by simpa using j2);simpa using q
       refine EqAt.of_refs hl ?_;rw [<- oE,<- n1,<- n2]
       exact RcAt.tuples h1 k1 ∅ he
   | fn _ _=>unfold RdV at rb;exact rb.elim
 | .fn _ _,b,A,s,u,v,ra,rb,hu=>by unfold RdV at ra;exact ra.elim
theorem jY:∀ (ds es:List D) (A:aR) (s:ah) (us vs:List af),RdL s.heap ds us->RdL s.heap es vs->A.units+min (cI ds) (cI es) < cLine->∀ j (h1:j < us.length) (h2:j < vs.length),EqAt A s us[j] vs[j] (pairD ds es j)
 | [],_,_,_,us,_,ra,_,_,j,h1,_=>by unfold RdL at ra;subst ra;exact absurd h1 (Ln _)
 | _::_,[],_,_,_,vs,_,rb,_,j,_,h2=>by unfold RdL at rb;subst rb;exact absurd h2 (Ln _)
 | d::ds,e::es,A,s,us,vs,ra,rb,hu,j,h1,h2=>by
   unfold RdL at ra rb;obtain ⟨w,ws,rfl,a1,a2⟩:=ra;obtain ⟨w',ws',rfl,b1,b2⟩:=rb;unfold cI at hu
   cases j with
   | zero=>exact se d e A s w w' a1 b1 (dq (fX (mm1 _ _ _ _) _) hu)
   | succ j =>
     have q:=jY ds es A s ws ws' a2 b2 (dq (fX (mm2 _ _ _ _) _) hu) j (by simpa using h1) (by simpa using h2);simpa [pairD] using q
end
def BK (h:i.natAbs < 2 ^ 200):uP i<=2 ^ 20:=by
 unfold uP;split
 . exact cC _
 . rename_i h0;have:i.natAbs.log2 < 200:=(Nat.log2_lt (by simpa using h0)).mpr h;have:(200:Nat)<=2 ^ 20:=by decide
   lia
def JI (h:oZ i j = true):IntMulOk i j:=by
 unfold oZ at h;simp only [fk,aa,decide_eq_true_eq] at h;rcases h with (h | h) | h
 . exact .of_left (intBits_le_64 h.1 h.2)
 . exact .of_right (intBits_le_64 h.1 h.2)
 . exact .of_bits (BK h.1) (BK h.2)
def Jv:OpR X (binaryOp .Mult) (rI IntMulOk λi j=>.int (i * j)):=opI λ_ _ _ _ _ _ _ hc q=>PyProof.Rows.mul_int q hc
def FQ:OpR X (binaryOp .FloorDiv) (rI (λ_ j=>0 < j/\j < 1000000000000000000000000000000000000000000000000000000000000) λi j=>.int (i / j)):=opI λi j _ _ _ _ _ hc q=>by
 have h1:(0:Int) < j:=hc.1;have h2:j < 1000000000000000000000000000000000000000000000000000000000000:=hc.2;refine PyProof.Rows.floordiv_int ∅ (by rw [Int.fdiv_eq_ediv_of_nonneg i ∅];exact q) (.inl (PyProof.noPylong_of_log2 ?_));exact Nat.lt_trans ((Nat.log2_lt (k:=200) ∅).mpr (aY (show j.natAbs < 1000000000000000000000000000000000000000000000000000000000000 by lia) ⇑0)) ⇑0
section
variable {X:Cx}
def Na (hu:X.A.units+200 < cLine):OpR X (compareOp .Eq) (λx y H Q=>∃ F a b,dN X.K H F a x/\dN X.K H F b y/\ij a b = true/\Q (.bl (eqD a b)) H):=by
 intro pins s σ H x y v u Q I rx ry h;obtain ⟨F,a,b,ha,hb,hk,q⟩:=h;unfold ij at hk;rw [aa,aa] at hk;obtain ⟨⟨hk,hd⟩,hm⟩:=hk;replace hd:=of_decide_eq_true hd;replace hm:=of_decide_eq_true hm;have ra:=fG I ha rx ∅;have rb:=fG I hb ry ∅;have fin:∀ k:Bool,k = eqD a b->EP X pins σ Q (.bool k) s:=λk e=>⟨.bl k,H,I,rfl,by rw [e];exact q⟩
 cases a<;>cases b<;>first
  | (exact absurd (show false = true from hk) ao)
  | skip
 . unfold RdV at ra rb;subst ra;subst rb;exact RcAt.bool_bool _ _ _ _ _ _ (fin _ (by unfold eqD;rfl))
 . unfold RdV at ra rb;obtain ⟨t,rfl⟩:=ra;obtain ⟨t',rfl⟩:=rb;exact RcAt.int_int _ _ _ _ _ _ _ _ (fin _ (by unfold eqD;rfl))
 . unfold RdV at ra rb;obtain ⟨t,rfl⟩:=ra;obtain ⟨t',rfl⟩:=rb;exact RcAt.str_str _ _ _ _ _ _ _ _ (fin _ (by unfold eqD;rfl))
 . rename_i ds es;unfold RdV at ra rb;obtain ⟨l,its,rfl,h1,h2⟩:=ra;obtain ⟨l',its',rfl,k1,k2⟩:=rb;have n1:its.size = ds.length:=by simpa using h2.length
   have n2:its'.size = es.length:=by simpa using k2.length
   have he:∀ j (j1:j < its.size) (j2:j < its'.size),EqAt X.A.in1 s its[j] its'[j] (pairD ds es j):=λj j1 j2=>by
    have q:=jY ds es X.A.in1 s its.toList its'.toList h2 k2 (by show X.A.units+1+_ < _;unfold dep at hd;lia) j (by simpa using j1) (by simpa using j2);simpa using q
   by_cases hsz:its.size = its'.size
   . refine eq_listAt h1 k1 hsz ∅ he (fin _ ?_);unfold eqD;rw [n1];exact rZ ∅
   . refine eq_list_lengthsAt h1 k1 (by simpa using hsz) ∅ (fin _ ?_);unfold eqD;exact (vT ∅).symm
 . rename_i ds es;unfold RdV at ra rb;obtain ⟨l,its,rfl,h1,h2⟩:=ra;obtain ⟨l',its',rfl,k1,k2⟩:=rb;have n1:its.size = ds.length:=by simpa using h2.length
   have n2:its'.size = es.length:=by simpa using k2.length
   have he:∀ j (j1:j < its.size) (j2:j < its'.size),EqAt X.A.in1 s its[j] its'[j] (pairD ds es j):=λj j1 j2=>by
    have q:=jY ds es X.A.in1 s its.toList its'.toList h2 k2 (by show X.A.units+1+_ < _;unfold dep at hd;lia) j (by simpa using j1) (by simpa using j2);simpa using q
   refine eq_tupleAt h1 k1 ∅ he (fin _ ?_);unfold eqD;rw [n1,n2];exact oE ds es
def MV (hu:X.A.units+200 < cLine):OpR X (compareOp .NotEq) (λx y H Q=>∃ F a b,dN X.K H F a x/\dN X.K H F b y/\ij a b = true/\Q (.bl (!eqD a b)) H):=by
 intro pins s σ H x y v u Q I rx ry h;obtain ⟨F,a,b,ha,hb,hk,q⟩:=h;unfold ij at hk;rw [aa,aa] at hk;obtain ⟨⟨hk,hd⟩,hm⟩:=hk;replace hd:=of_decide_eq_true hd;replace hm:=of_decide_eq_true hm;have ra:=fG I ha rx ∅;have rb:=fG I hb ry ∅;have fin:∀ k:Bool,k = (!eqD a b)->EP X pins σ Q (.bool k) s:=λk e=>⟨.bl k,H,I,rfl,by rw [e];exact q⟩
 cases a<;>cases b<;>first
  | (exact absurd (show false = true from hk) ao)
  | skip
 . unfold RdV at ra rb;subst ra;subst rb;exact RcNeAt.bool_bool _ _ _ _ _ _ (fin _ (by unfold eqD;rfl))
 . unfold RdV at ra rb;obtain ⟨t,rfl⟩:=ra;obtain ⟨t',rfl⟩:=rb;exact RcNeAt.int_int _ _ _ _ _ _ _ _ (fin _ (by unfold eqD;rfl))
 . unfold RdV at ra rb;obtain ⟨t,rfl⟩:=ra;obtain ⟨t',rfl⟩:=rb;exact RcNeAt.str_str _ _ _ _ _ _ _ _ (fin _ (by unfold eqD;rfl))
 . rename_i ds es;unfold RdV at ra rb;obtain ⟨l,its,rfl,h1,h2⟩:=ra;obtain ⟨l',its',rfl,k1,k2⟩:=rb;have n1:its.size = ds.length:=by simpa using h2.length
   have n2:its'.size = es.length:=by simpa using k2.length
   have he:∀ j (j1:j < its.size) (j2:j < its'.size),EqAt X.A.in1 s its[j] its'[j] (pairD ds es j):=λj j1 j2=>by
    have q:=jY ds es X.A.in1 s its.toList its'.toList h2 k2 (by show X.A.units+1+_ < _;unfold dep at hd;lia) j (by simpa using j1) (by simpa using j2);simpa using q
   by_cases hsz:its.size = its'.size
   . refine RcNeAt.lists h1 k1 hsz ∅ he _ _ _ _ (fin _ ?_);unfold eqD;rw [n1,rZ ∅]
   . refine RcNeAt.lists_lengths h1 k1 (by simpa using hsz) ∅ _ _ _ _ (fin _ ?_);unfold eqD;rw [vT ∅];rfl
 . rename_i ds es;unfold RdV at ra rb;obtain ⟨l,its,rfl,h1,h2⟩:=ra;obtain ⟨l',its',rfl,k1,k2⟩:=rb;have n1:its.size = ds.length:=by simpa using h2.length
   have n2:its'.size = es.length:=by simpa using k2.length
   have he:∀ j (j1:j < its.size) (j2:j < its'.size),EqAt X.A.in1 s its[j] its'[j] (pairD ds es j):=λj j1 j2=>by
    have q:=jY ds es X.A.in1 s its.toList its'.toList h2 k2 (by show X.A.units+1+_ < _;unfold dep at hd;lia) j (by simpa using j1) (by simpa using j2);simpa using q
   refine RcNeAt.tuples h1 k1 ∅ he _ _ _ _ (fin _ ?_);unfold eqD;rw [n1,n2,oE ds es]
open Classical in
def isEq (h:bG) (a:D) (u:af):Bool:=if ∃ d,RdV h d u/\eqD d a = true then true else false
def Bs (r:RdV h d u):isEq h a u = eqD d a:=by
 unfold isEq
 cases e:eqD d a with
 | true=>rw [if_pos ⟨d,r,e⟩]
 | false =>
   rw [if_neg];rintro ⟨d',r',e'⟩;rw [RdV.inj d d' u r r',e'] at e;cases e
def kX:∀ {ds:List D} {us:List af},RdL h ds us->us.any (isEq h a) = ds.any λd=>eqD d a
 | [],us,r=>by unfold RdL at r;subst r;rfl
 | d::ds,us,r=>by
   unfold RdL at r;obtain ⟨w,ws,rfl,h1,h2⟩:=r;rw [List.any_cons,List.any_cons,Bs h1,kX h2]
def kN (rv:RdV s.heap a v) (hu:A.units+dep a < cLine):∀ {ds:List D} {us:List af},RdL s.heap ds us->∀ u∈us,EqAt A s u v (isEq s.heap a u)
 | [],us,r=>λu hm=>by unfold RdL at r;subst r;cases hm
 | d::ds,us,r=>λu hm=>by
   unfold RdL at r;obtain ⟨w,ws,rfl,h1,h2⟩:=r;rcases aB.mp hm with rfl | hm
   . rw [Bs h1];exact se d a A s u v h1 rv ∅
   . exact kN rv hu h2 u hm
def MZ (hu:X.A.units+200 < cLine):OpR X (compareOp .In) (λx y H Q=>∃ F a ds,dN X.K H F a x/\(dN X.K H F (.lst ds) y\/dN X.K H F (.tup ds) y)/\(dep a<=150/\cI ds < 99999)/\Q (.bl (ds.any λd=>eqD d a)) H):=by
 intro pins s σ H x y v u Q I rx ry h;obtain ⟨F,a,ds,ha,hb,⟨hd,hm⟩,q⟩:=h;have ra:=fG I ha rx ∅;have fin:∀ k:Bool,k = (ds.any λd=>eqD d a)->EP X pins σ Q (.bool k) s:=λk e=>⟨.bl k,H,I,rfl,by rw [e];exact q⟩;rcases hb with hb | hb
 . have rb:=fG I hb ry (by unfold dep;lia);unfold RdV at rb;obtain ⟨l',its',rfl,k1,k2⟩:=rb;refine in_listAt (isEq s.heap a) k1 (λw hw=>kN ra (by show X.A.units+1+_ < _;lia) k2 w (by simpa using hw)) (fin _ ?_);rw [show its'.any (isEq s.heap a) = its'.toList.any (isEq s.heap a) by simp,kX k2]
 . have rb:=fG I hb ry (by unfold dep;lia);unfold RdV at rb;obtain ⟨l',its',rfl,k1,k2⟩:=rb;refine in_tupleAt (isEq s.heap a) k1 (λw hw=>kN ra (by show X.A.units+1+_ < _;lia) k2 w (by simpa using hw)) (fin _ ?_);rw [show its'.any (isEq s.heap a) = its'.toList.any (isEq s.heap a) by simp,kX k2]
def CQ (hu:X.A.units+200 < cLine):OpR X (compareOp .NotIn) (λx y H Q=>∃ F a ds,dN X.K H F a x/\(dN X.K H F (.lst ds) y\/dN X.K H F (.tup ds) y)/\(dep a<=150/\cI ds < 99999)/\Q (.bl (!ds.any λd=>eqD d a)) H):=by
 intro pins s σ H x y v u Q I rx ry h;obtain ⟨F,a,ds,ha,hb,⟨hd,hm⟩,q⟩:=h;have ra:=fG I ha rx ∅;have fin:∀ k:Bool,k = (!ds.any λd=>eqD d a)->EP X pins σ Q (.bool k) s:=λk e=>⟨.bl k,H,I,rfl,by rw [e];exact q⟩;rcases hb with hb | hb
 . have rb:=fG I hb ry (by unfold dep;lia);unfold RdV at rb;obtain ⟨l',its',rfl,k1,k2⟩:=rb;refine notIn_listAt (isEq s.heap a) k1 (λw hw=>kN ra (by show X.A.units+1+_ < _;lia) k2 w (by simpa using hw)) (fin _ ?_);rw [show its'.any (isEq s.heap a) = its'.toList.any (isEq s.heap a) by simp,kX k2]
 . have rb:=fG I hb ry (by unfold dep;lia);unfold RdV at rb;obtain ⟨l',its',rfl,k1,k2⟩:=rb;refine notIn_tupleAt (isEq s.heap a) k1 (λw hw=>kN ra (by show X.A.units+1+_ < _;lia) k2 w (by simpa using hw)) (fin _ ?_);rw [show its'.any (isEq s.heap a) = its'.toList.any (isEq s.heap a) by simp,kX k2]
def qR (ns:List Int):∀ j,preSum (λi=>ns.getD i 0) j = (ns.take j).sum
 | 0=>by simp [preSum]
 | j+1=>by
   rw [preSum,qR ns j,HL,List.sum_append]
   cases e:ns[j]? with
   | none=>simp [e]
   | some v=>simp [e]
def wX {ns:List Int}:∀ {xs:List V} {us:List af},xs = ns.map V.int->Vals xs us->∀ i v,us[i]? = some v->∃ t,v = wB (ns.getD i 0) t:=by
 induction ns with
 | nil=>intro xs us e r i v h;subst e;cases r;simp at h
 | cons n ns ih =>
   intro xs us e r i v h;subst e
   cases r with
   | cons r1 r2 =>
     cases i with
     | zero=>simp at h;subst h;obtain ⟨t,e⟩:=r1;exact ⟨t,by simpa using e⟩
     | succ i =>
       obtain ⟨t,e⟩:=ih rfl r2 i v (by simpa using h);exact ⟨t,by simpa using e⟩
def Io {ns:List Bool}:∀ {xs:List V} {us:List af},xs = ns.map V.bl->Vals xs us->∀ i v,us[i]? = some v->v = ky (ns.getD i false):=by
 induction ns with
 | nil=>intro xs us e r i v h;subst e;cases r;simp at h
 | cons n ns ih =>
   intro xs us e r i v h;subst e
   cases r with
   | cons r1 r2 =>
     cases i with
     | zero=>simp at h;subst h;have e:_ = ky n:=r1;simpa using e
     | succ i=>simpa using ih rfl r2 i v (by simpa using h)
def zG (bs:List Bool):((bo bs.length).any λi=>bs.getD i false) = bs.any id:=by
 rw [cV,cA,cA];constructor
 . rintro ⟨i,hi,e⟩;have hi':=fF.mp hi;refine ⟨bs[i],kh hi',?_⟩;simpa [km,aA hi'] using e
 . rintro ⟨b,hb,e⟩;obtain ⟨i,hi,rfl⟩:=List.getElem_of_mem hb;exact ⟨i,fF.mpr hi,by simpa [km,aA hi] using e⟩
def Dx (hc:X.calm = true):cE X (.builtin "any") (λxs H Q=>∃ (p:aq) (ns:List Bool),xs = [.ref p]/\SqL X.K H p (ns.map V.bl)/\Q (.bl (ns.any id)) H):=by
 intro pins s σ H xs us Q I r h;obtain ⟨p,ns,rfl,hq,q⟩:=h;obtain ⟨u,rfl,rx⟩:=vals1 r;cases rx;obtain ⟨its,rv,pl,hz⟩:=I.list hq;have hlt:p < s.heap.objs.size:=by obtain ⟨o,e,_⟩:=pl.isList;exact az e
 refine call_any_walk (fI pl.isList ?_)
 refine ⟨s.heap.objs.size,[s.heap.objs.size,p],[s.heap.objs.size],its.toArray.size,_,_,λi=>ns.getD i false,rfl,tq (A:=X.A.in1) (I.ok.hd hc) s.heap.objs.size p (aH hlt) its.toArray,
  ⟨⟨_,aE _ rfl,rfl,rfl⟩,?_⟩,λi v s' Q' E' hP hQ=>?_,λh' tk hk=>?_⟩
 . obtain ⟨o,e,r⟩:=pl.isList;exact ⟨o,ai _ e,r⟩
 . rw [Io rfl rv i v (by simpa using hP)];exact dF hQ
 . have e:its.toArray.size = ns.length:=by rw [aC,<- rv.length,av]
   rw [e,zG];exact ⟨.bl (ns.any id),H,I.kept (h':=h') (t':=tk) (λb o e=>hk b o (by simp;exact aH (az e)) (ai _ e)),rfl,q⟩
def Ds (hc:X.calm = true):cE X (.builtin "sum") (λxs H Q=>∃ (p:aq) (ns:List Int),xs = [.ref p]/\SqL X.K H p (ns.map V.int)/\Q (.int ns.sum) H):=by
 intro pins s σ H xs us Q I r h;obtain ⟨p,ns,rfl,hq,q⟩:=h;obtain ⟨u,rfl,rx⟩:=vals1 r;cases rx;obtain ⟨its,rv,pl,hz⟩:=I.list hq;have hlt:p < s.heap.objs.size:=by obtain ⟨o,e,_⟩:=pl.isList;exact az e
 refine call_sum_walkG (fI pl.isList ?_)
 refine ⟨s.heap.objs.size,[s.heap.objs.size,p],[s.heap.objs.size],its.toArray.size,_,_,λi=>ns.getD i 0,rfl,tq (A:=X.A.in1) (I.ok.hd hc) s.heap.objs.size p (aH hlt) its.toArray,
  ⟨⟨_,aE _ rfl,rfl,rfl⟩,?_⟩,λb hb=>?_,λi v e=>?_,λh' tk t' hk=>?_⟩
 . obtain ⟨o,e,r⟩:=pl.isList;exact ⟨o,ai _ e,r⟩
 . have:b = s.heap.objs.size\/b = p:=by simpa using hb
   show b < (s.heap.push _).objs.size;rw [bH];rcases this with rfl | rfl
   . exact cK _
   . exact bE hlt
 . exact wX rfl rv i v (by simpa using e)
 . refine ⟨.int ns.sum,H,I.kept (h':=h') (t':=tk) λb o e=>?_,⟨t',?_⟩,q⟩
   . exact hk b o (by simp;exact aH (az e)) (ai _ e)
   . rw [qR];have e:its.toArray.size = ns.length:=by rw [aC,<- rv.length,av]
     rw [e,qu]
def CA (h:ns≠[]):sM (ns++[v]) = if v > sM ns then v else sM ns:=by
 cases ns with
 | nil=>exact absurd rfl h
 | cons n ns =>
   show (ns++[v]).foldl _ n = _;rw [List.foldl_append];rfl
def yD (ns:List Int):∀ k,k < ns.length->ns.getD (argBest (λi j=>decide (ns.getD i 0 > ns.getD j 0)) k) 0 = sM (ns.take (k+1))
 | 0,h=>by
   cases ns with
   | nil=>cases h
   | cons n ns=>simp [argBest,sM]
 | k+1,h=>by
   have ih:=yD ns k ∅;have e:ns[k+1]? = some (ns.getD (k+1) 0):=by rw [dK,aA h];rfl
   have e2:ns.take (k+1+1) = ns.take (k+1)++[ns.getD (k+1) 0]:=by rw [HL,e];rfl
   rw [e2,CA (by cases ns with
    | nil=>cases h
    | cons _ _=>simp),<- ih]
   show ns.getD (if decide (ns.getD (k+1) 0 > ns.getD (argBest (λi j=>decide (ns.getD i 0 > ns.getD j 0)) k) 0) = true then k+1 else argBest (λi j=>decide (ns.getD i 0 > ns.getD j 0)) k) 0 = _;by_cases hb:ns.getD (k+1) 0 > ns.getD (argBest (λi j=>decide (ns.getD i 0 > ns.getD j 0)) k) 0
   . rw [if_pos (decide_eq_true hb),if_pos hb]
   . rw [if_neg (by simpa using hb),if_neg hb]
def Ho {prog:aO} {w:aZ} {A:aR} {E:af->ah->Prop} {s:ah} {t b:aq} {ws:List af} {Q:af->ah->Prop} (ht:Ky s.heap t ([]:List af).toArray) (hb:Ky s.heap b ws.toArray) (h:Q (.ref b) s):wpAny (model prog w) A (binaryOp .Add (.ref t) (.ref b)) Q E s:=by
 obtain ⟨⟨cls,dd,data,sl⟩,ho,hc,n,hd⟩:=id ht;obtain ⟨⟨cls2,dd2,data2,sl2⟩,ho2,hc2,n2,hd2⟩:=id hb;simp only at hc hd hc2 hd2;subst hc hd hc2 hd2;exact HH ⟨_,ho,rfl⟩ ⟨_,ho2,rfl⟩ lQ qr PySem.F.slot_tuple_add PySem.F.entry_tuple_add (PySem.F.args_tuple_add_2 _ _) (tuple_addW0 t b _ ws.toArray n n2 dd dd2 sl sl2 rfl) ⟨ho,ho2,h⟩
def Jy:OpR X (binaryOp .Add) (λx y H Q=>∃ a b ys,x = .ref a/\y = .ref b/\SqT X.K H a []/\SqT X.K H b ys/\Q (.ref b) H):=by
 intro pins s σ H x y v u Q I rx ry h;obtain ⟨a,b,ys,rfl,rfl,ha,hb,q⟩:=h;cases rx;cases ry;obtain ⟨its,r1,p1,_⟩:=I.tuple ha;obtain ⟨its2,r2,p2,_⟩:=I.tuple hb;cases r1;exact Ho p1 p2 ⟨.ref b,H,I,rfl,q⟩
def tyName:Blt->Option String
 | _=>none
def NJ (I:Inv X pins σ H s) (h:dN X.K H F (.lst ds) v) (r:RelV v u):∃ l its,u = .ref l/\s.heap.IsList l its:=by
 rcases h with h | ⟨a,xs,_,_,rfl,h1,_⟩
 . unfold Rel at h;obtain ⟨a,xs,rfl,h1,_⟩:=h;obtain ⟨its,_,p,_⟩:=I.list h1.sq;exact ⟨a,_,r,p.isList⟩
 . obtain ⟨its,_,p,_⟩:=I.list (.inl (.inl h1));exact ⟨a,_,r,p.isList⟩
def NI (I:Inv X pins σ H s) (h:dN X.K H F (.tup ds) v) (r:RelV v u):∃ l its,u = .ref l/\s.heap.IsTuple l its:=by
 rcases h with h | ⟨a,xs,_,e,_⟩
 . unfold Rel at h;obtain ⟨a,xs,rfl,h1,_⟩:=h;obtain ⟨its,_,p,_⟩:=I.tuple h1;exact ⟨a,_,r,p⟩
 . cases e
def Hr (hT:tyName f = some T):cE X (.builtin "isinstance") (λxs H Q=>∃ F d x b,dN X.K H F d x/\xs = [x,.ty T]/\kU f [d] = some (.bl b)/\Q (.bl b) H):=by
 intro pins s σ H xs us Q I r h;obtain ⟨F,d,x,b,hr,rfl,hb,q⟩:=h;obtain ⟨u,w',rfl,ru,rw'⟩:=vals2 r;cases (show w' = nJ T from rw');have fin:∀ tk,EP X pins σ Q (.bool b) { s with toks:=tk }:=λtk=>⟨.bl b,H,I.tok tk,rfl,q⟩
 cases d with
 | non=>have rd:=fG I hr ru (by unfold dep;lia);unfold RdV at rd;subst rd;cases f<;>simp [tyName] at hT<;>subst hT<;>simp [kU] at hb<;>subst hb<;>exact PySem.W.kia_one PySem.W.kitx_none I.kIn nR rfl (λz=>nomatch z) fin
 | bl y=>have rd:=fG I hr ru (by unfold dep;lia);unfold RdV at rd;subst rd;cases f<;>simp [tyName] at hT<;>subst hT<;>simp [kU] at hb<;>subst hb<;>exact PySem.W.kia_one PySem.W.kitx_bool I.kIn nR rfl (λz=>nomatch z) fin
 | int y=>have rd:=fG I hr ru (by unfold dep;lia);unfold RdV at rd;obtain ⟨t,rfl⟩:=rd;cases f<;>simp [tyName] at hT<;>subst hT<;>simp [kU] at hb<;>subst hb<;>exact PySem.W.kia_one PySem.W.kitx_int I.kIn nR rfl (λz=>nomatch z) fin
 | str y=>have rd:=fG I hr ru (by unfold dep;lia);unfold RdV at rd;obtain ⟨t,rfl⟩:=rd;cases f<;>simp [tyName] at hT<;>subst hT<;>simp [kU] at hb<;>subst hb<;>exact PySem.W.kia_one PySem.W.kitx_str I.kIn nR rfl (λz=>nomatch z) fin
 | lst y =>
   obtain ⟨l,its,rfl,⟨o,h1,h2,_⟩⟩:=NJ I hr ru
   cases f<;>simp [tyName] at hT<;>subst hT<;>simp [kU] at hb<;>subst hb<;>exact PySem.W.kia_one PySem.W.kitx_list I.kIn ⟨o,h1,h2⟩ rfl (λz=>nomatch z) fin
 | tup y =>
   obtain ⟨l,its,rfl,⟨o,h1,h2,_⟩⟩:=NI I hr ru
   cases f<;>simp [tyName] at hT<;>subst hT<;>simp [kU] at hb<;>subst hb<;>exact PySem.W.kia_one PySem.W.kitx_tuple I.kIn ⟨o,h1,h2⟩ rfl (λz=>nomatch z) fin
 | fn _ _=>cases f<;>simp [tyName] at hT<;>simp [kU] at hb
def Its (x:Str):L2.It:=⟨λi _=>i < x.cps.size,λi H v H'=>H' = H/\∃ c,x.cps[i]? = some c/\v = .str ⟨#[c]⟩,λi _=>i = x.cps.size⟩
def qD {P:aO} {w:aZ} {K:PySem.W.Frag} {tg:aG} {it:aq} {n:Nat} {PV:Nat->af->Prop} {St:Nat->bG->Prop} {J:L2.It} {ty:String}
 (W:∀ A:aR,A.handled = none->Kv P w A it [it] [it] n PV St) (hst:∀ i h,St i h->∃ (o:Obj) (vs:Array af),h.get? it = some o/\o.cls = .type ty/\o.data = .fields vs)
 (hn:["enumerate","zip","dict_itemiterator","dict_reverseitemiterator","odict_iterator","itertools.zip_longest","itertools.pairwise"].contains ty = false)
 (go:∀ i H,J.go i H->i < n) (stop:∀ i H,J.stop i H->i = n) (yld:∀ i v H,PV i v->∃ x,RelV x v/\J.yld i H x H)
 (self:∀ (A:aR) (i:Nat) (s:ah) (Q:af->ah->Prop) (E:af->ah->Prop),St i s.heap->Q (.ref it) s->wpAny (model P w) A (pyIter (.ref it)) Q E s) :
 Turn P w K tg J [it] it St where
 mem:=by simp
 obj:=λi h st b hb=>by
  have e:b = it:=by simpa using hb
  subst e;obtain ⟨o,vs,e,c,d⟩:=hst i h st;exact ⟨o,e,λv z=>by rw [d] at z;cases z⟩
 keep:=λi h h' st k=>(W { } rfl).frame i h h' st k
 item:=by
  intro X hP hw hK hc i pins s σ H E I hf st hg;subst hP hw hK;obtain ⟨f0,f1,f2,f3,f4,f5⟩:=hf it ↥0;refine (W X.A (I.ok.hd hc)).item i s _ _ (go i H hg) st λv h' tk hv st' kk=>?_;have I1:Inv X pins σ H { s with heap:=h',toks:=tk }:=I.turned (λb o hb e=>kk b o (by simpa using hb) e) f0 f1 f3 f4 f5;obtain ⟨o,vs,e,c,d⟩:=hst _ _ st';obtain ⟨x,r,y⟩:=yld i v H hv;exact ⟨v,rfl,Bz (s:={ s with heap:=h',toks:=tk }) e c d hn ⟨x,H,I1,r,y,st',λb hb=>(hf b hb).1⟩⟩
 done:=by
  intro X hP hw hK hc i pins s σ H E I hf st hg;subst hP hw hK;obtain ⟨f0,f1,f2,f3,f4,f5⟩:=hf it ↥0;have e:=stop i H hg;subst e;exact (W X.A (I.ok.hd hc)).done s _ _ st λh' tk kk=>⟨rfl,I.turned (λb o hb e=>kk b o (by simpa using hb) e) f0 f1 f3 f4 f5⟩
 self:=self
def Ey {P:aO} {w:aZ} {K:PySem.W.Frag} {tg:aG} (it:aq) (x:Str) (t:Tok):Turn P w K tg (Its x) [it] it (λi h=>h.IsStrIter it (strIterType x) x t i):=by
 unfold strIterType;split
 . exact qD (ty:="str_ascii_iterator") (λA hA=>Walks.strAscii hA it x t) (λi h ⟨o,e,c,d⟩=>⟨o,_,e,c,d⟩) ⇑0 (λi H z=>z) (λi H z=>z) (λi v H ⟨c,u,h1,h2⟩=>⟨.str ⟨#[c]⟩,⟨u,h2⟩,rfl,c,h1,rfl⟩) λ_ _ _ _ _ st h=>wpAny_pyIter_striter_ascii st h
 . exact qD (ty:="str_iterator") (λA hA=>Walks.strWide hA it x t) (λi h ⟨o,e,c,d⟩=>⟨o,_,e,c,d⟩) ⇑0 (λi H z=>z) (λi H z=>z) (λi v H ⟨c,u,h1,h2⟩=>⟨.str ⟨#[c]⟩,⟨u,h2⟩,rfl,c,h1,rfl⟩) λ_ _ _ _ _ st h=>wpAny_pyIter_striter_wide st h
end
end PP
end
section
namespace PP
open PySem L2 PyProof.Rows PySem.SeqAt PySem.Calls
def Kept (P:Nat->af->Prop) (bt:Nat->Nat->Bool):Nat->List af->Prop
 | 0,l=>l = []
 | j+1,l=>∃ v,l = [v,v]/\P (argBest bt j) v
def Given (P:Nat->af->Prop) (bt:Nat->Nat->Bool) (d:af):Nat->af->Prop
 | 0,v=>v = d
 | j+1,v=>P (argBest bt j) v
section
variable {prog:aO} {w:aZ} {A:aR} {R:sy->ah->Prop} {I:aq} {fp wr:List aq} {n:Nat} {P:Nat->af->Prop} {St:Nat->bG->Prop}
def vG:(toString "max"++toString ".loop":String) = "max.loop":=by decide
def JG {d:af} (W:Kv prog w A.in1 I fp wr n P St) {bt:Nat->Nat->Bool} (hcmp:CmpOf prog w A.in1 .Gt P bt) {S:aq} (hSf:S∉fp):∀ (k j:Nat) (s:ah) (l:List af) (c:Nat),j+k = n->St j s.heap->Kept P bt j l ->
 s.heap.get? S = some { cls:=.type "list",dict:=none,data:=.seq l.toArray c,slots := #[] } ->
 (∀ v h' tk,Given P bt d n v->(∀ b o,b∉wr->b≠S->s.heap.get? b = some o->h'.get? b = some o)->R (.ok (.ret v)) { s with heap:=h',toks:=tk }) ->
 codeAny (model prog w) A (.builtin "max.loop" ⟨[.ref I,.none,.ref S],[(("default":Str),d)]⟩) R s:=by
 have hSw:S∉wr:=λh=>hSf (W.sub _ h);have up:∀ {h:bG} {f:Obj->Obj} {b:aq} {o:Obj},b≠S->h.get? b = some o->(h.update S f).get? b = some o:=λhb e=>(dG _ _ (Ne.symm hb)).trans e;intro k
 induction k with
 | zero =>
   intro j s l c hk hst hl hS hR;obtain rfl:j = n:=by lia
   refine eK F.entry_max_loop ?_;rw [dS F.plain_max_loop _];show wpAny _ A.in1 (seqItems? (.ref S) >>= _) _ _ s;refine ae (cJ hS rfl ?_);show wpAny _ A.in1 (tryCatch (pyNext (.ref I)) _ >>= _) _ _ s;refine ae (Ak (W.done s _ _ hst λh' tk hk'=>?_))
   cases j with
   | zero =>
     cases hl
     exact ae (mG (ak (hR d h' tk rfl λb o hbw _ e=>hk' b o hbw e)))
   | succ j =>
     obtain ⟨v,rfl,hv⟩:=hl;show wpAny _ A.in1 (updateSeq S (λ_ => #[]) >>= _) _ _ _
     exact ae (yJ (hk' S _ hSw hS) rfl (ae (iT (ak (hR v _ tk hv λb o hbw hbS e=>up hbS (hk' b o hbw e))))))
 | succ k ih =>
   intro j s l c hk hst hl hS hR;refine eK F.entry_max_loop ?_;rw [dS F.plain_max_loop _];show wpAny _ A.in1 (seqItems? (.ref S) >>= _) _ _ s;refine ae (cJ hS rfl ?_);show wpAny _ A.in1 (tryCatch (pyNext (.ref I)) _ >>= _) _ _ s;refine ae (Ak (W.item j s _ _ ∅ hst λv h' tk hP hst' hk'=>?_));have hS':=hk' S _ hSw hS
   have again:∀ (h2:bG) (l2:List af) (c2:Nat),(∀ b o,b≠S->h'.get? b = some o->h2.get? b = some o)->h2.get? S = some { cls:=.type "list",dict:=none,data:=.seq l2.toArray c2,slots := #[] }->Kept P bt (j+1) l2 ->
    codeAny (model prog w) A (.builtin "max.loop" ⟨[.ref I,.none,.ref S],[(("default":Str),d)]⟩) R { s with heap:=h2,toks:=tk }:=λh2 l2 c2 hk2 hS2 hl2 =>
    ih (j+1) _ l2 c2 ∅ (W.frame _ _ _ hst' λb hbf o e=>hk2 b o (λz=>hSf (z▸hbf)) e) hl2 hS2 λv' h'' tk'' hP' hk''=>hR v' h'' tk'' hP' λb o hbw hbS e=>hk'' b o hbw hbS (hk2 b o hbS (hk' b o hbw e))
   cases j with
   | zero =>
     cases hl;show wpAny _ A.in1 (updateSeq S (λ_ => #[v,v]) >>= _) _ _ _;refine ae (yJ hS' rfl ?_);rw [vG]
     exact ak ⟨eO F.plain_max_loop _,again _ [v,v] _ (λb o hb e=>up hb e) (cZ _ hS' rfl) ⟨v,rfl,hP⟩⟩
   | succ j =>
     obtain ⟨u,rfl,hu⟩:=hl;show wpAny _ A.in1 (tryCatch (holding [v,v] (richCompare .Gt v u >>= _)) _ >>= _) _ _ _;refine ae (Ak (cc (ae (hcmp (j+1) (argBest bt j) v u _ _ _ hP hu ?_))));refine ae (cc (dF (ae (iT (ak ?_)))))
     cases hb:bt (j+1) (argBest bt j) with
     | true =>
       rw [if_pos rfl];refine ae (yJ hS' rfl (ae (iT ?_)));rw [vG]
       exact ak ⟨eO F.plain_max_loop _,again _ [v,v] _ (λb o hb e=>up hb e) (cZ _ hS' rfl) ⟨v,rfl,by simp only [argBest,hb,if_true];exact hP⟩⟩
     | false =>
       rw [if_neg ⇑0];refine ae (iT ?_);rw [vG];exact ak ⟨eO F.plain_max_loop _,again _ [u,u] c (λb o _ e=>e) hS' ⟨u,rfl,by simp only [argBest,hb,aP,if_false];exact hu⟩⟩
end
def Nm (a d:af):argsOk "max" ⟨[a],[(du "default",d)]⟩:=by unfold argsOk;kernel_rfl
def sX {prog:aO} {w:aZ} {A:aR} {E:af->ah->Prop} {s:ah} {x d:af} {Q:af->ah->Prop}
 (h:wpAny (model prog w) A.in1 (pyIter x) (λit s₂=>∃ I fp wr n P St bt,it = .ref I/\Kv prog w A.in1 I fp wr n P St/\St 0 s₂.heap/\(∀ b∈fp,b < s₂.heap.objs.size)/\CmpOf prog w A.in1 .Gt P bt /\
   ∀ v h' tk,Given P bt d n v->(∀ b o,b∉wr->s₂.heap.get? b = some o->h'.get? b = some o)->Q v { s₂ with heap:=h',toks:=tk }) E s) :
 wpAny (model prog w) A (call (.builtin "max") [x] [(("default":Str),d)]) Q E s:=by
 refine PyProof.Rows.kmb_tree F.kind_max F.plain_max F.entry_max (Nm x d) ?_;show wpAny _ A.in1 (lU "max" ["key","default"] 0 ⟨[],[(("default":Str),d)]⟩ >>= _) _ _ s;refine ae (gR (show lU "max" ["key","default"] 0 ⟨[],[(("default":Str),d)]⟩ = pure [none,some d] from rfl) ?_);refine ae (ak (ae (cP h (λit s₂ h₂=>?_) λ_ _ e=>e)));obtain ⟨I,fp,wr,n,P,St,bt,rfl,W,hst,hfp,hcmp,hQ⟩:=h₂;refine ae (bx ?_);have hSf:s₂.heap.objs.size∉fp:=λhm=>cy _ (hfp _ hm);rw [vG];refine ak ⟨eO F.plain_max_loop _,JG W hcmp hSf n 0 _ [] _ ∅ (W.frame _ _ _ hst λb _ o e=>ai _ e) rfl (aE _ rfl) λv h' tk hP hk=>?_⟩;exact hQ v h' tk hP λb o hbw e=>hk b o hbw (aH (az e)) (ai _ e)
def Ll (X:Cx) (f:af) (ks:List Str) (r:List V->List V->Hp->VK->Prop):Prop :=
 ∀ (pins:List (aq × Obj)) (s:ah) (σ:L2.St) (H:Hp) (xs zs:List V) (us ws:List af) (Q:VK),Inv X pins σ H s->Vals xs us->Vals zs ws->r xs zs H Q ->
  wpAny (model X.prog X.w) X.A (call f us (ks.zip ws)) (EP X pins σ Q) X.xe s
variable {X:Cx} [Tbs]
def Du (hc:X.calm = true):Ll X (.builtin "max") [du "default"] (λxs zs H Q=>∃ (p:aq) (ns:List Int) (z:V),xs = [.ref p]/\zs = [z]/\SqL X.K H p (ns.map V.int)/\Q (if ns = [] then z else .int (sM ns)) H):=by
 intro pins s σ H xs zs us ws Q I r rz h;obtain ⟨p,ns,z,rfl,rfl,hq,q⟩:=h;obtain ⟨u,rfl,rx⟩:=vals1 r;obtain ⟨d,rfl,rd⟩:=vals1 rz;cases rx;obtain ⟨its,rv,pl,hz⟩:=I.list hq;have hlt:p < s.heap.objs.size:=by obtain ⟨o,e,_⟩:=pl.isList;exact az e
 have hlen:its.toArray.size = ns.length:=by rw [aC,<- rv.length,av]
 have hval:∀ i v,its.toArray[i]? = some v->∃ t,v = wB (ns.getD i 0) t:=λi v e=>wX rfl rv i v (by simpa using e);refine sX (fI pl.isList ?_)
 refine ⟨s.heap.objs.size,[s.heap.objs.size,p],[s.heap.objs.size],its.toArray.size,_,_,λi j=>decide (ns.getD i 0 > ns.getD j 0),rfl,tq (A:=X.A.in1) (I.ok.hd hc) s.heap.objs.size p (aH hlt) its.toArray,
  ⟨⟨_,aE _ rfl,rfl,rfl⟩,?_⟩,λb hb=>?_,CmpOf.ints_gt (λi=>ns.getD i 0) hval,λv h' tk hv hk=>?_⟩
 . obtain ⟨o,e,r⟩:=pl.isList;exact ⟨o,ai _ e,r⟩
 . have:b = s.heap.objs.size\/b = p:=by simpa using hb
   show b < (s.heap.push _).objs.size;rw [bH];rcases this with rfl | rfl
   . exact cK _
   . exact bE hlt
 . refine ⟨_,H,I.kept (h':=h') (t':=tk) λb o e=>hk b o (by simp;exact aH (az e)) (ai _ e),?_,q⟩;rw [hlen] at hv
   cases ns with
   | nil=>rw [if_pos rfl];cases hv;exact rd
   | cons n ns =>
     rw [if_neg ↥0];obtain ⟨t,rfl⟩:=hval _ _ hv;refine ⟨t,?_⟩;rw [yD (n::ns) _ (cK _),show ns.length+1 = (n::ns).length from rfl,qu]
def QE (r:List V->List V->Hp->VK->Prop) (t tk:TA):TE:=λσ H Q=>t σ H λvs H1=>tk σ H1 λzs H2=>r vs zs H2 Q
def CP {id:String} {ks:List Str} {r:List V->List V->Hp->VK->Prop} {x:Str} {e:aG} {es:List aG} {kws:List ie} {p pos:Pos} {t tk:TA} (hc:Ll X (.builtin id) ks r) (hg:Gl X x) (hm:X.mg x = none) (hv:bootBuiltins x = some (.builtin id)) (ha:PA X (e::es) t) (hkw:PK X kws tk)
 (hn:x≠"__name__") (hdb:(x == ("__debug__":Str)) = false) (he:starEach (e::es) X.env = (false,eval e X.env)::starEach es X.env) (hpl:(backTo pos (starEach es X.env)).any (·.1) = false)
 (hall:(backToKw pos (keywordEach kws X.env)).all (·.1.isSome) = true:=by rfl) (hks:(backToKw pos (keywordEach kws X.env)).filterMap (·.1) = ks:=by rfl) (hno:(backToKw pos (keywordEach kws X.env)).any (·.1.isNone) = false:=by rfl) :
 PE X (.Call (.Name x p) (e::es) kws pos) (QE r t tk):=by
 intro pins s σ H Q I h;refine fy (oy I hg hm hv ?_ hn hdb)
 have h2:wpAny (model X.prog X.w) X.A (spliced (backTo pos (starEach (e::es) X.env))) (λvs s₁=>wpAny (model X.prog X.w) X.A (evalAll ((backToKw pos (keywordEach kws X.env)).map (·.2)))
  (λkvs s₂=>wpAny (model X.prog X.w) X.A (call (.builtin id) vs (((backToKw pos (keywordEach kws X.env)).filterMap (·.1)).zip kvs)) (EP X pins σ Q) X.xe s₂) X.xe s₁) X.xe s:=by
  refine thn (ha pos pins s σ H _ I h) λus s1 zz=>?_;obtain ⟨vs,H1,I1,r1,q1⟩:=zz;refine thn (hkw pos pins s1 σ H1 _ I1 q1) λws s2 zz=>?_;obtain ⟨zs,H2,I2,rz,q2⟩:=zz;rw [hks];exact hc pins s2 σ H2 vs zs us ws Q I2 r1 rz q2
 refine callWith_kw h2 (by rw [he];rfl) ?_ hall hno;rw [he];show (false || (backTo pos (starEach es X.env)).any (·.1)) = false;rw [hpl];rfl
end PP
end
section
namespace PP
open PySem L2 PySem.SeqAt PyProof.Rows PySem.W
open AutoSeq1 (wpAny_loadPart')
open MeetsSeq MeetsSeq2 MeetsSeq3 SeqRoads2
variable [Tbs]
def HD (A:aR) (s:ah) (u v:af) (b:Bool):Prop:=∀ (prog:aO) (w:aZ) (E:af->ah->Prop) (Q:af->ah->Prop),Q (.bool b) s->wpAny (model prog w) A (richCompare .Lt u v) Q E s
def yH (A:aR) (s:ah) (last:Bool):List (af × af)->Bool->Prop
 | [],b=>b = last
 | (p,q)::r,b=>∃ e,EqAt A s p q e/\if e = true then yH A s last r b else HD A s p q b
def zt (l m:aq) (xs ys:Array af) (n n2:Nat) (dd dd2:Option aq) (sl sl2:Array (Option af)) (b:Bool) :
 Meets (dY.«tuple.__lt__» ⟨[.ref l,.ref m],[]⟩)
  (λA R s=>s.heap.get? l = some ⟨.type "tuple",dd,.seq xs n,sl⟩/\s.heap.get? m = some ⟨.type "tuple",dd2,.seq ys n2,sl2⟩ /\
    yH A.in1 s (decide (xs.size < ys.size)) (xs.toList.zip ys.toList) b/\R (.ok (.ret (.bool b))) s) :=
 .of_wp λprog w A R s h=>by
  obtain ⟨h0,g0,d0,t0,o0⟩:=s;obtain ⟨hx,hy,hlex,hR⟩:=h;have sub:=AutoSeq1.sub_tuple_tuple
  wp_walk using mH hx,mH hy,wpAny_forIn_list _ (λrest st s'=>st.1 = none/\s' = ⟨h0,g0,d0,t0,o0⟩/\yH A.in1 ⟨h0,g0,d0,t0,o0⟩ (decide (xs.size < ys.size)) rest b) _
  case turn =>
   rintro ⟨y,x⟩ rest st s' ⟨hst,rfl,e,he,hr⟩;refine ae (he prog w _ _ ?_)
   cases e with
   | true =>
     rw [if_pos rfl] at hr
     wp_walk
     exact ⟨rfl,rfl,hr⟩
   | false =>
     rw [if_neg ao] at hr;have hr':∀ {Q:af->ah->Prop} {E:af->ah->Prop},Q (.bool b) ⟨h0,g0,d0,t0,o0⟩->wpAny (model prog w) A.in1 (richCompare .Lt y x) Q E ⟨h0,g0,d0,t0,o0⟩:=λ{Q E} h=>hr prog w E Q h
     wp_walk using hr'
     exact ⟨_,rfl,hR⟩
  case fin =>
   rintro ⟨b1,b2⟩ s' ⟨hst,rfl,hl⟩;simp only at hst;subst hst;have hl:b = decide (xs.size < ys.size):=hl
   wp_walk
   refine ⟨_,rfl,?_⟩;have:Builtin.Tuple.tupleCompareSizes .Lt xs.size ys.size = .bool b:=by rw [hl];rfl
   rw [this];exact hR
  case h=>exact ⟨rfl,rfl,hlex⟩
def HD.tuples (hx:s.heap.IsTuple l xs) (hy:s.heap.IsTuple m ys) (hu:A.units < cLine) (h:yH A.in1 s (decide (xs.size < ys.size)) (xs.toList.zip ys.toList) b):HD A s (.ref l) (.ref m) b:=by
 intro prog w E Q q;obtain ⟨⟨c1,d1,t1,s1⟩,e1,k1,n1,f1⟩:=hx;obtain ⟨⟨c2,d2,t2,s2⟩,e2,k2,n2,f2⟩:=hy;have k1:c1 = _:=k1;have f1:t1 = _:=f1;have k2:c2 = _:=k2;have f2:t2 = _:=f2;subst k1 f1 k2 f2;have nn:ky b≠Aq:=λz=>nomatch z;exact richCompare_meets_room (op:=.Lt) ⟨_,e1,rfl⟩ ⟨_,e2,rfl⟩ F.slot_tuple_lt F.entry_tuple_lt (F.args_tuple_lt_2 _ _) (zt l m xs ys n1 n2 d1 d2 s1 s2 b) ⟨e1,e2,h,(show ky b≠Aq/\Q (.bool b) s from ⟨nn,q⟩)⟩ hu
mutual
theorem zW:∀ (a b:D) (A:aR) (s:ah) (u v:af) (k:Bool),RdV s.heap a u->RdV s.heap b v->A.units+min (dep a) (dep b)+1 < cLine->ltD a b = some k->HD A s u v k
 | .int a,b,A,s,u,v,k,ra,rb,hu,h=>by
   cases b with
   | int b =>
     unfold ltD at h;cases h;unfold RdV at ra rb;obtain ⟨t,rfl⟩:=ra;obtain ⟨t',rfl⟩:=rb;intro prog w E Q q
     exact lt_int q
   | _=>unfold ltD at h;cases h
 | .str a,b,A,s,u,v,k,ra,rb,hu,h=>by
   cases b with
   | str b =>
     unfold ltD at h;cases h;unfold RdV at ra rb;obtain ⟨t,rfl⟩:=ra;obtain ⟨t',rfl⟩:=rb;intro prog w E Q q
     exact lt_str q
   | _=>unfold ltD at h;cases h
 | .tup a,b,A,s,u,v,k,ra,rb,hu,h=>by
   cases b with
   | tup b =>
     unfold ltD at h;unfold RdV at ra rb;obtain ⟨l,xs,rfl,h1,h2⟩:=ra;obtain ⟨m,ys,rfl,k1,k2⟩:=rb;have n1:xs.size = a.length:=by simpa using h2.length
     have n2:ys.size = b.length:=by simpa using k2.length
     refine HD.tuples h1 k1 (by omega) ?_;rw [n1,n2];unfold dep at hu
     exact yd a b A.in1 s xs.toList ys.toList k h2 k2 (by show A.units+1+_+1 < _;omega) h
   | _=>unfold ltD at h;cases h
 | .non,b,A,s,u,v,k,ra,rb,hu,h=>by cases b<;>(unfold ltD at h;cases h)
 | .bl x,b,A,s,u,v,k,ra,rb,hu,h=>by cases b<;>(unfold ltD at h;cases h)
 | .lst x,b,A,s,u,v,k,ra,rb,hu,h=>by cases b<;>(unfold ltD at h;cases h)
 | .fn x y,b,A,s,u,v,k,ra,rb,hu,h=>by cases b<;>(unfold ltD at h;cases h)
theorem yd:∀ (as bs:List D) (A:aR) (s:ah) (us vs:List af) (k:Bool),RdL s.heap as us->RdL s.heap bs vs->A.units+min (cI as) (cI bs)+1 < cLine->eF as bs = some k->yH A s (decide (as.length < bs.length)) (us.zip vs) k
 | [],[],A,s,us,vs,k,ra,rb,hu,h=>by
   unfold RdL at ra rb;subst ra;subst rb;unfold eF at h;cases h
   rfl
 | [],y::ys,A,s,us,vs,k,ra,rb,hu,h=>by
   unfold RdL at ra;subst ra;unfold eF at h;cases h;show true = decide _
   simp
 | x::xs,[],A,s,us,vs,k,ra,rb,hu,h=>by
   unfold RdL at rb;subst rb;unfold eF at h;cases h;rw [nS];show false = decide _
   simp
 | x::xs,y::ys,A,s,us,vs,k,ra,rb,hu,h=>by
   unfold RdL at ra rb;obtain ⟨u,us',rfl,ra1,ra2⟩:=ra;obtain ⟨v,vs',rfl,rb1,rb2⟩:=rb;unfold eF at h;unfold cI at hu;refine ⟨eqD x y,se x y A s u v ra1 rb1 (dq (bF (fX (mm1 _ _ _ _) _) (fQ _ 1)) hu),?_⟩
   cases e:eqD x y with
   | true =>
     rw [e,if_pos rfl] at h;rw [if_pos rfl];have:=yd xs ys A s us' vs' k ra2 rb2 (dq (DE (fX (mm2 _ _ _ _) _) 1) hu) h;have e1:decide ((x::xs).length < (y::ys).length) = decide (xs.length < ys.length):=by simp
     rw [e1]
     exact this
   | false =>
     rw [e,if_neg ao] at h;rw [if_neg ao];exact zW x y A s u v k ra1 rb1 (dq (DE (fX (mm1 _ _ _ _) _) 1) hu) h
end
def MX (hu:X.A.units+200 < cLine):OpR X (compareOp .Lt) (λx y H Q=>∃ F a b k,dN X.K H F a x/\dN X.K H F b y/\lN a b = some k/\Q (.bl k) H):=by
 intro pins s σ H x y v u Q I rx ry h;obtain ⟨F,a,b,k,ha,hb,e,q⟩:=h;unfold lN at e;split at e
 . exact zW a b X.A s v u k (fG I ha rx (by omega)) (fG I hb ry (by omega)) (by omega) e X.prog X.w X.xe _ ⟨.bl k,H,I,rfl,q⟩
 . cases e
def Jx:OpR X (binaryOp .Add) (λx y H Q=>∃ l b xs zs,x = .ref l/\y = .ref b/\LsB X.K H l xs/\LsB X.K H b zs/\xs.length+zs.length<=sizeLine/\∀ p,H p = none->Q (.ref p) (upd H p (.lst (xs++zs)))):=by
 intro pins s σ H x y v u Q I rx ry h;obtain ⟨l,b,xs,zs,rfl,rfl,h1,h2,hz,q⟩:=h;cases rx;cases ry;obtain ⟨i1,n1,r1,e1,z1⟩:=h1.obj I;obtain ⟨i2,n2,r2,e2,z2⟩:=h2.obj I;have l1:=r1.length;have l2:=r2.length;refine PySem.P.add_list e1 e2 ?_ (by simp only [aC];omega);rw [show i1.toArray++i2.toArray = (i1++i2).toArray by simp];exact ⟨.ref _,_,I.lnew (t':=s.toks) (r1.append r2) (by rw [ay];omega),rfl,q _ I.fresh⟩
end PP
end
section
namespace PP
open PySem PySem.W PyProof.Rows
def inR {α:Type} (lt:Nat->Nat->Bool) (n:Nat):KasT α->Prop
 | .ret _=>True
 | .ask i j k=>i < n/\j < n/\inR lt n (k (lt i j))
def jz {α β:Type} {lt:Nat->Nat->Bool} {n:Nat} {f:α->KasT β}:∀ {t:KasT α},inR lt n t->inR lt n (f (ans lt t))->inR lt n (t.bind f)
 | .ret a,_,h=>h
 | .ask i j k,⟨h1,h2,h3⟩,h=>⟨h1,h2,jz h3 h⟩
def iM {α:Type} {lt:Nat->Nat->Bool} {n:Nat} {c:Prop} [Decidable c] {a b:KasT α} (h1:inR lt n a) (h2:inR lt n b):inR lt n (if c then a else b):=by
 by_cases h:c
 . rw [if_pos h];exact h1
 . rw [if_neg h];exact h2
def All (p:Array Nat) (n:Nat):Prop:=0 < n/\∀ x∈p,x < n
def All.at {p:Array Nat} {n:Nat} (h:All p n) (k:Nat):p.getD k 0 < n:=by
 rw [getD_eq]
 cases e:p[k]? with
 | none=>exact h.1
 | some x=>exact h.2 x (yT e)
def All.perm {p q:Array Nat} {n:Nat} (h:All p n) (e:q.Perm p):All q n:=⟨h.1,λx hx=>h.2 x (e.mem_iff.mp hx)⟩
section
variable {lt:Nat->Nat->Bool} {n:Nat}
def Ah {p:Array Nat} (h:All p n):∀ f k,inR lt n (kas_asc p f k)
 | 0,k=>trivial
 | f+1,k=>⟨h.at _,h.at _,iM trivial (Ah h f (k+1))⟩
def qh:∀ (f:Nat) (p:Array Nat) (k q:Nat),All p n->inR lt n (kas_desc f p k q)/\All (ans lt (kas_desc f p k q)).1 n
 | 0,p,k,q,h=>⟨trivial,h⟩
 | f+1,p,k,q,h=>by
   unfold kas_desc;have r1:=qh f (kas_rev p (k - (q+1)) k) (k+1) 0 (h.perm (eP _ _ _));have r2:=qh f p (k+1) 0 h;have r3:=qh f p (k+1) (q+1) h;refine ⟨⟨h.at _,h.at _,iM (iM r1.1 r2.1) ⟨h.at _,h.at _,iM trivial r3.1⟩⟩,?_⟩;rw [fC]
   cases lt (p.getD k 0) (p.getD (k - 1) 0) with
   | true =>
     rw [if_pos rfl];by_cases hq:q > 0
     . rw [if_pos hq];exact r1.2
     . rw [if_neg hq];exact r2.2
   | false =>
     rw [if_neg ao,fC]
     cases lt (p.getD (k - 1) 0) (p.getD k 0) with
     | true=>rw [if_pos rfl];exact h
     | false=>rw [if_neg ao];exact r3.2
def xf {p:Array Nat} (h:All p n) (a m:Nat):inR lt n (kas_tail3 a m p)/\All (ans lt (kas_tail3 a m p)).2 n:=by
 unfold kas_tail3;have h':=h.perm (eP p 0 a);refine ⟨jz (Ah h' _ _) trivial,?_⟩;rw [dR,iy];exact h'
def pj {p:Array Nat} (h:All p n) (a m:Nat):inR lt n (kas_descPart a m p)/\All (ans lt (kas_descPart a m p)).2 n:=by
 unfold kas_descPart;obtain ⟨d1,d2⟩:=qh (lt:=lt) (m - (a+1)) p (a+1) 0 h;rw [dR];generalize hr:ans lt (kas_desc (m - (a+1)) p (a+1) 0) = r at d2;have t1:=xf (lt:=lt) (d2.perm (eP r.1 (r.2.1 - (r.2.2+1)) r.2.1)) r.2.1 m;have t2:=xf (lt:=lt) d2 r.2.1 m;refine ⟨jz d1 (by rw [hr];exact iM t1.1 t2.1),?_⟩;by_cases hq:r.2.2 > 0
 . rw [if_pos hq];exact t1.2
 . rw [if_neg hq];exact t2.2
def Hi {p:Array Nat} (h:All p n) (m:Nat):inR lt n (kas_count m p)/\All (ans lt (kas_count m p)).2 n:=by
 unfold kas_count;rw [dR];have a1:=Ah (lt:=lt) h (m - 1) 1;generalize hk:ans lt (kas_asc p (m - 1) 1) = k;have t1:=pj (lt:=lt) (h.perm (eP p 0 k)) k m;have t2:=pj (lt:=lt) h k m;refine ⟨jz a1 (by rw [hk];exact iM trivial (iM ⟨h.at _,h.at _,iM trivial t1.1⟩ t2.1)),?_⟩;by_cases e:(k == m) = true
 . rw [if_pos e];exact h
 . rw [if_neg e];by_cases h1:k > 1
   . rw [if_pos h1,fC]
     cases lt (p.getD 0 0) (p.getD (k - 1) 0) with
     | true=>rw [if_pos rfl];exact h
     | false=>rw [if_neg ao];exact t1.2
   . rw [if_neg h1];exact t2.2
def qT {p:Array Nat} (h:All p n) (k:Nat):∀ f l r,inR lt n (kas_place p k f l r)
 | 0,l,r=>trivial
 | f+1,l,r=>by
   unfold kas_place;exact iM trivial ⟨h.at _,h.at _,iM (qT h k f _ _) (qT h k f _ _)⟩
def Hv:∀ (f:Nat) (p:Array Nat) (k:Nat),All p n->inR lt n (kas_bin f p k)
 | 0,p,k,h=>trivial
 | f+1,p,k,h=>by
   unfold kas_bin;exact jz (qT h k _ _ _) (Hv f _ _ (h.perm (Ku _ _ _)))
def AG (hn:0 < n):inR lt n (kas_sort n):=by
 unfold kas_sort;have h:All (fJ (bo n)) n:=⟨hn,λx hx=>by simpa using hx⟩;obtain ⟨c1,c2⟩:=Hi (lt:=lt) h n;exact jz c1 (iM (Hv _ _ _ c2) trivial)
end
def Bo {α:Type} {prog:aO} {w:aZ} {A:aR} {κ:tu} {vs:List af} {lt:Nat->Nat->Bool} {n:Nat} {s:ah} {Q:α->ah->Prop}
 (ha:∀ i j,i < n->j < n->∀ C:Bool->ah->Prop,C (lt i j) s->kas_ask prog w A κ vs i j C s):∀ t:KasT α,inR lt n t->Q (ans lt t) s->t.kasWp (kas_ask prog w A κ vs) Q s
 | .ret a,_,q=>q
 | .ask i j k,⟨h1,h2,h3⟩,q=>ha i j h1 h2 _ (Bo ha (k (lt i j)) h3 q)
def gb (lt:Nat->Nat->Bool) (vs:List af):List af:=if vs.length < 2 then vs else (ans lt (kas_sort vs.length)).toList.map λi=>vs.getD i cq
section
variable {prog:aO} {w:aZ} {A:aR} {E:af->ah->Prop} {s:ah}
def ng {a:aq} {vs:List af} {n:Nat} {lt:Nat->Nat->Bool} {κ:tu} {P:PySem.Fin->ah->Prop} (ho:s.heap.get? a = some (seqObj "list" vs.toArray n)) (h64:vs.length < 64)
 (hlen:(gb lt vs).length = vs.length)
 (hk:2<=vs.length->∀ h':bG,(∀ b o,b≠a->s.heap.get? b = some o->h'.get? b = some o)->∀ C:tu->ah->Prop,C κ { s with heap:=h' }->wpAny (model prog w) A (keyKind' vs.toArray) C (λ_ _=>False) { s with heap:=h' })
 (ha:∀ h':bG,(∀ b o,b≠a->s.heap.get? b = some o->h'.get? b = some o)->∀ i j,i < vs.length->j < vs.length->∀ C:Bool->ah->Prop,C (lt i j) { s with heap:=h' }->kas_ask prog w A κ vs i j C { s with heap:=h' })
 (q:P (.done (.ret .none)) { s with heap:=sortedHeap s.heap a vs (gb lt vs).toArray }):wpAny (model prog w) A (dY.«list.sort» ⟨[.ref a],[]⟩) P E s:=by
 have la:a < s.heap.objs.size:=az ho;obtain ⟨e1,o1⟩:∃ e1,(s.heap.update a (cu λ_=>(#[]:Array af))).get? a = some (seqObj "list" #[] e1):=⟨_,yK ho λ_ => #[]⟩;have o3:(((s.heap.update a (cu λ_=>(#[]:Array af))).push (seqObj "tuple" vs.toArray 0)).push (seqObj "list" #[] 0)).get? a = some (seqObj "list" #[] e1):=ai _ (ai _ o1)
 have keep:∀ b o,b≠a->s.heap.get? b = some o->(((s.heap.update a (cu λ_=>(#[]:Array af))).push (seqObj "tuple" vs.toArray 0)).push (seqObj "list" #[] 0)).get? b = some o:=λb o hb e =>
  ai _ (ai _ ((dG _ _ (Ne.symm hb)).trans e))
 have sz:(gb lt vs).toArray.size<=sizeLine:=by rw [aC,hlen,cj];lia
 rw [list_sort_plain];refine ae (listItems_at ho rfl (ae (lg ho rfl ?_ (by rw [aC,cj];lia) (cC _))));refine ae (Kt o1 rfl (ae (wpAny_newTuple ?_ (by show vs.length<=_;rw [cj];lia))));refine ae (DB (cc ?_) (cC _));show wpAny (model prog w) A _ P E { s with heap:=((s.heap.update a (cu λ_=>(#[]:Array af))).push (seqObj "tuple" vs.toArray 0)).push (seqObj "list" #[] 0) };dsimp only;by_cases h2:vs.toArray.size < 2
 . have hv:vs.length < 2:=by simpa using h2
   have eo:gb lt vs = vs:=by unfold gb;rw [if_pos hv]
   rw [if_pos h2,if_pos h2];refine ae (ak ?_);rw [StateT.run_pure];refine ae (ak ?_);dsimp only;refine ae (Kt o3 rfl ?_)
   have em:(arrOf (SortSt.mk' general' (vs.toArray.zip vs.toArray) #[] 7 none)).map (·.2) = (gb lt vs).toArray:=by
    rw [eo];show (vs.toArray.zip vs.toArray).map (·.2) = vs.toArray;apply Array.ext
    . simp
    . intro i h1 h2;simp
   rw [em];refine ae (lg o3 rfl ?_ (cC _) (HP sz));simp only [bne_self_eq_false,aP,if_false];exact ak q
 . have hv:¬ vs.length < 2:=by simpa using h2
   have eo:gb lt vs = (ans lt (kas_sort vs.length)).toList.map λi=>vs.getD i cq:=by unfold gb;rw [if_neg hv]
   rw [if_neg h2,if_neg h2];refine ae (cP (hk ∅ _ keep (λκ' s'=>κ' = κ/\s' = { s with heap:=((s.heap.update a (cu λ_=>(#[]:Array af))).push (seqObj "tuple" vs.toArray 0)).push (seqObj "list" #[] 0) }) ⟨rfl,rfl⟩) (λκ' s0 hk=>?_) λ_ _ x=>x.elim);obtain ⟨rfl,rfl⟩:=hk
   refine ae (cP (kat_run (Q:=λst' s'=>s' = { s with heap:=((s.heap.update a (cu λ_=>(#[]:Array af))).push (seqObj "tuple" vs.toArray 0)).push (seqObj "list" #[] 0) }/\∃ p:Array Nat,arrOf st' = p.map (kas_item (vs.toArray.zip vs.toArray))/\failedOf st' = none/\p = ans lt (kas_sort vs.length))
    (G:=λp s'=>s' = { s with heap:=((s.heap.update a (cu λ_=>(#[]:Array af))).push (seqObj "tuple" vs.toArray 0)).push (seqObj "list" #[] 0) }/\p = ans lt (kas_sort vs.length)) rfl ∅ h64 (λp st' s' a1 a2 a3 a4=>⟨a4.1,p,a2,a3,a4.2⟩)
    (Bo (lt:=lt) (n:=vs.length) (λi j h1 h2 C hc=>ha _ keep i j h1 h2 C hc) _ (AG ∅) ⟨rfl,rfl⟩)) ?_ λ_ _ e=>e)
   rintro ⟨⟨⟩,st'⟩ s' ⟨rfl,p,har,hf,rfl⟩;dsimp only;rw [kat_snds rfl har,<- eo];refine ae (Kt o3 rfl (ae (lg o3 rfl ?_ (cC _) (HP sz))));rw [hf];simp only [bne_self_eq_false,aP,if_false];exact ak q
def CD {κ:tu} (hl:s.heap.IsList l vs.toArray) (h64:vs.length < 64) (hlen:(gb lt vs).length = vs.length)
 (hk:2<=vs.length->∀ (A':aR) (h':bG),A'.units<=A.units+2->(∀ b o,s.heap.get? b = some o->h'.get? b = some o)->∀ C:tu->ah->Prop,C κ { s with heap:=h' }->wpAny (model prog w) A' (keyKind' vs.toArray) C (λ_ _=>False) { s with heap:=h' })
 (ha:∀ (A':aR) (h':bG),A'.units<=A.units+2->(∀ b o,s.heap.get? b = some o->h'.get? b = some o)->∀ i j,i < vs.length->j < vs.length->∀ C:Bool->ah->Prop,C (lt i j) { s with heap:=h' }->kas_ask prog w A' κ vs i j C { s with heap:=h' })
 (q:Q (.ref (s.heap.objs.size+1)) { s with heap:=sortedAll s.heap vs (gb lt vs).toArray }):wpAny (model prog w) A (call (.builtin "sorted") [.ref l]) Q E s:=by
 refine uO kind_sorted plain_sorted entry_sorted (args_sorted1 _) ?_;unfold dY.«sorted»;refine ae (m:=checkCount "sorted" 1 1 _) (ak ?_);refine ae (collect_list hl (ae (DB ?_ (by rw [cj];lia))) (by rw [cj];lia));have hs:((s.heap.push (seqObj "list" #[] 0)).update s.heap.objs.size (cu (·++vs.toArray))).objs.size = s.heap.objs.size+1:=by rw [Heap.size_update,size_push']
 have hL:(((s.heap.push (seqObj "list" #[] 0)).update s.heap.objs.size (cu (·++vs.toArray))).push (seqObj "list" vs.toArray 0)).get? (s.heap.objs.size+1) = some (seqObj "list" vs.toArray 0):=by
  rw [<- hs];exact aE _ rfl
 have keep:∀ b o,s.heap.get? b = some o->b≠s.heap.objs.size+1/\(((s.heap.push (seqObj "list" #[] 0)).update s.heap.objs.size (cu (·++vs.toArray))).push (seqObj "list" vs.toArray 0)).get? b = some o:=λb o e=>by
  have hlt:b < s.heap.objs.size:=az e;exact ⟨aH (bE hlt),ai _ ((dG _ _ (eY hlt)).trans (ai _ e))⟩
 show wpAny _ _ _ _ _ { s with heap:=((s.heap.push (seqObj "list" #[] 0)).update s.heap.objs.size (cu (·++vs.toArray))).push (seqObj "list" vs.toArray 0) };rw [hs];refine ae (cc (cg slot_list_sort ⟨_,hL,rfl⟩ entry_list_sort ?body (args_list_sort _)))
 case body =>
  refine ng (lt:=lt) (κ:=κ) hL h64 hlen (λh2 h' kp=>hk h2 _ h' ?_ λb o e=>kp b o (keep b o e).1 (keep b o e).2) (λh' kp=>ha _ h' ?_ λb o e=>kp b o (keep b o e).1 (keep b o e).2) ?_
  . exact aw _
  . exact aw _
  . exact ⟨_,rfl,ak ⟨_,rfl,q⟩⟩
end
end PP
end
section
namespace PP
open PySem L2 PySem.SeqAt PyProof.Rows PySem.W
variable [Tbs]
section
variable {lt:Nat->Nat->Bool}
def lH:∀ (f:Nat) (p:Array Nat) (k q:Nat),(ans lt (kas_desc f p k q)).1.Perm p
 | 0,p,k,q=>cQ _
 | f+1,p,k,q=>by
   unfold kas_desc;rw [fC]
   cases lt (p.getD k 0) (p.getD (k - 1) 0) with
   | true =>
     rw [if_pos rfl];by_cases hq:q > 0
     . rw [if_pos hq];exact (lH f _ _ _).trans (eP _ _ _)
     . rw [if_neg hq];exact lH f _ _ _
   | false =>
     rw [if_neg ao,fC]
     cases lt (p.getD (k - 1) 0) (p.getD k 0) with
     | true=>rw [if_pos rfl];exact cQ _
     | false=>rw [if_neg ao];exact lH f _ _ _
def qG (a m:Nat) (p:Array Nat):(ans lt (kas_tail3 a m p)).2.Perm p:=by
 unfold kas_tail3;rw [dR,iy];exact eP _ _ _
def lY (a m:Nat) (p:Array Nat):(ans lt (kas_descPart a m p)).2.Perm p:=by
 unfold kas_descPart;rw [dR];have d:=lH (lt:=lt) (m - (a+1)) p (a+1) 0;generalize ans lt (kas_desc (m - (a+1)) p (a+1) 0) = r at d;by_cases hq:r.2.2 > 0
 . rw [if_pos hq];exact ((qG _ _ _).trans (eP _ _ _)).trans d
 . rw [if_neg hq];exact (qG _ _ _).trans d
def Aa (m:Nat) (p:Array Nat):(ans lt (kas_count m p)).2.Perm p:=by
 unfold kas_count;rw [dR];generalize ans lt (kas_asc p (m - 1) 1) = k;by_cases e:(k == m) = true
 . rw [if_pos e];exact cQ _
 . rw [if_neg e];by_cases h1:k > 1
   . rw [if_pos h1,fC]
     cases lt (p.getD 0 0) (p.getD (k - 1) 0) with
     | true=>rw [if_pos rfl];exact cQ _
     | false=>rw [if_neg ao];exact (lY _ _ _).trans (eP _ _ _)
   . rw [if_neg h1];exact lY _ _ _
def yC:∀ (f:Nat) (p:Array Nat) (k:Nat),(ans lt (kas_bin f p k)).Perm p
 | 0,p,k=>cQ _
 | f+1,p,k=>by
   unfold kas_bin;rw [dR];exact (yC f _ _).trans (Ku _ _ _)
def CF (n:Nat):(ans lt (kas_sort n)).Perm (fJ (bo n)):=by
 unfold kas_sort;rw [dR];have c:=Aa (lt:=lt) n (fJ (bo n));generalize ans lt (kas_count n (fJ (bo n))) = r at c;by_cases h:r.1 < n
 . rw [if_pos h];exact (yC _ _ _).trans c
 . rw [if_neg h];exact c
def gK (n:Nat):(ans lt (kas_sort n)).toList.Perm (bo n):=by
 have:=(CF (lt:=lt) n).toList;simpa using this
end
mutual
theorem RdV.keep (k:∀ b o,h.get? b = some o->h'.get? b = some o):∀ (d:D) (u:af),RdV h d u->RdV h' d u
 | .non,u,r=>by unfold RdV at r |-;exact r
 | .bl _,u,r=>by unfold RdV at r |-;exact r
 | .int _,u,r=>by unfold RdV at r |-;exact r
 | .str _,u,r=>by unfold RdV at r |-;exact r
 | .lst ds,u,r=>by
   unfold RdV at r |-;obtain ⟨a,its,e,⟨o,h1,h2⟩,h3⟩:=r
   exact ⟨a,its,e,⟨o,k _ _ h1,h2⟩,RdL.keep k ds _ h3⟩
 | .tup ds,u,r=>by
   unfold RdV at r |-;obtain ⟨a,its,e,⟨o,h1,h2⟩,h3⟩:=r
   exact ⟨a,its,e,⟨o,k _ _ h1,h2⟩,RdL.keep k ds _ h3⟩
 | .fn _ _,u,r=>by unfold RdV at r;exact r.elim
theorem RdL.keep (k:∀ b o,h.get? b = some o->h'.get? b = some o):∀ (ds:List D) (us:List af),RdL h ds us->RdL h' ds us
 | [],us,r=>by unfold RdL at r |-;exact r
 | d::ds,us,r=>by
   unfold RdL at r |-;obtain ⟨w,ws,e,r1,r2⟩:=r;exact ⟨w,ws,e,RdV.keep k d w r1,RdL.keep k ds ws r2⟩
end
def RdL.nth:∀ {ds:List D} {us:List af} (i:Nat),RdL h ds us->i < ds.length->RdV h (ds.getD i .non) (us.getD i cq)
 | [],us,i,r,hi=>by simp at hi
 | d::ds,us,i,r,hi=>by
   unfold RdL at r;obtain ⟨w,ws,rfl,r1,r2⟩:=r
   cases i with
   | zero=>exact r1
   | succ i=>exact RdL.nth i r2 (by simpa using hi)
section
variable {prog:aO} {w:aZ} {s:ah}
def KS {A:aR} {E:af->ah->Prop} {a b:D} {u v:af} {k:Bool} {Q:Bool->ah->Prop} (ra:RdV s.heap a u) (rb:RdV s.heap b v) (hk:(bK a = 1/\bK b = 1)\/(bK a = 2/\bK b = 2)) (h:ltD a b = some k) (q:Q k s):wpAny (model prog w) A (oneLt' true u v) Q E s:=by
 rcases hk with ⟨h1,h2⟩ | ⟨h1,h2⟩
 . cases a<;>first | (simp [bK] at h1;done) | skip
   . cases b<;>first | (simp [bK] at h2;done) | skip
     . unfold RdV at ra rb;obtain ⟨t,rfl⟩:=ra;obtain ⟨t',rfl⟩:=rb;unfold ltD at h;cases h;exact oneLt_str q
     . rename_i l;cases l with
       | nil=>simp [bK] at h2
       | cons x r=>cases x<;>simp [bK] at h2
   . rename_i l;cases l with
     | nil=>simp [bK] at h1
     | cons x r=>cases x<;>simp [bK] at h1
 . cases a<;>first | (simp [bK] at h1;done) | skip
   . cases b<;>first | (simp [bK] at h2;done) | skip
     . unfold RdV at ra rb;obtain ⟨t,rfl⟩:=ra;obtain ⟨t',rfl⟩:=rb;unfold ltD at h;cases h;exact oneLt_int q
     . rename_i l;cases l with
       | nil=>simp [bK] at h2
       | cons x r=>cases x<;>simp [bK] at h2
   . rename_i l;cases l with
     | nil=>simp [bK] at h1
     | cons x r=>cases x<;>simp [bK] at h1
def ye:∀ (as bs:List D) (us vs:List af) (i:Nat),RdL s.heap as us->RdL s.heap bs vs->A.units+min (cI as) (cI bs)+1 < cLine->eF as bs = some k->fin = decide (as.length < bs.length) ->
 (i = 0->∀ x y,as.head? = some x->bs.head? = some y->(bK x = 1/\bK y = 1)\/(bK x = 2/\bK y = 2))->Q k s->KatLex prog w A true fin Q (us.zip vs) i s
 | [],[],us,vs,i,ra,rb,hu,h,hf,hh,q=>by
   unfold RdL at ra rb;subst ra;subst rb;unfold eF at h;cases h;subst hf
   exact kat_nil q
 | [],y::ys,us,vs,i,ra,rb,hu,h,hf,hh,q=>by
   unfold RdL at ra;subst ra;unfold eF at h;cases h;have:fin = true:=by rw [hf];simp
   subst this
   exact kat_nil q
 | x::xs,[],us,vs,i,ra,rb,hu,h,hf,hh,q=>by
   unfold RdL at rb;subst rb;unfold eF at h;cases h;have:fin = false:=by rw [hf];simp
   subst this;rw [nS]
   exact kat_nil q
 | x::xs,y::ys,us,vs,i,ra,rb,hu,h,hf,hh,q=>by
   unfold RdL at ra rb;obtain ⟨u,us',rfl,ra1,ra2⟩:=ra;obtain ⟨v,vs',rfl,rb1,rb2⟩:=rb;unfold eF at h;unfold cI at hu;rw [nU];refine kat_cons (se x y A s u v ra1 rb1 ∅ prog w _ _ ?_)
   cases e:eqD x y with
   | true =>
     rw [e,if_pos rfl] at h
     exact kat_yes (ye xs ys us' vs' (i+1) ra2 rb2 ∅ h (by rw [hf];simp) (λz=>by lia) q)
   | false =>
     rw [e,if_neg ao] at h;refine kat_no ?_;by_cases hi:i = 0
     . subst hi;exact KS ra1 rb1 (hh rfl x y rfl rfl) h q
     . have e0:(true && i == 0) = false:=by simp [hi]
       rw [e0];exact kat_one u v (zW x y A s u v k ra1 rb1 ∅ h prog w _ _ q)
end
end PP
end
section
namespace PP
open PySem
structure Ck where
 N:List Str
 sc:eX
 fns:List (Str × List Str)
 gn:List Str
def Cy (sc:eX) (x:Str):Bool:=match sc.names.lookup x with
 | some .local=>true | some .cell=>true | some .free=>true | _=>false
def Nx (sc:eX) (x:Str):Bool:=match sc.names.lookup x with
 | some .local=>true | some .cell=>true | _=>false
def glB (sc:eX) (x:Str):Bool:=match sc.names.lookup x with
 | some .globalImplicit=>true | _=>false
def Gg (x:Str):Bool:=!(x == ("__debug__":Str)) && !(x == ("__classdict__":Str)) && !(x == ("__name__":Str))
def fu (c:Ck) (i:Nat) (x:Str):Bool:=decide (c.N[i]? = some x) && Cy c.sc x && Gg x
def eV (c:Ck) (i:Nat) (x:Str):Bool:=decide (c.N[i]? = some x) && Nx c.sc x && Gg x
def dw (c:Ck) (x:Str):Bool:=glB c.sc x && Gg x
def Jz:Op->ic->Bool
 | .add,.Add=>true | .sub,.Sub=>true | .mul,.Mult=>true | .mod,.Mod=>true | .fdiv,.FloorDiv=>true
 | _,_=>false
def BG:Cop->CmpOp->Bool
 | .lt,.Lt=>true | .le,.LtE=>true | .gt,.Gt=>true | .eq,.Eq=>true | .ne,.NotEq=>true | .isin,.In=>true | .notin,.NotIn=>true | .is,.Is=>true
 | _,_=>false
def uE:Blt->Str
 | .len=>"len" | .toInt=>"int" | .toTup=>"tuple" | .toLst=>"list" | .any=>"any" | .sum=>"sum" | .sorted=>"sorted"
def jD:List Str:=["len","min","max","int","str","tuple","list","dict","sum","isinstance","bool","range","sorted","set","zip","any","divmod","reversed","all"]
def jR:Es->Bool
 | .nil=>true
 | .cons e es=>!bY e && jR es
def sP:Es->Bool
 | .nil=>true
 | .cons e es=>(!bY e || npS es) && sP es
def yk:Es->Nat
 | .nil=>0
 | .cons _ es=>yk es+1
def st (x:aG):Str:=match x with
 | .Name y _=>y
 | .Attribute _ m _=>m
 | _=>""
def cst (x:aG):Kz:=match x with
 | .Constant v _ _=>v
 | _=>.none
def e1 (x:aG):aG:=match x with
 | .BinOp y _ _ _=>y
 | .Compare y _ _ _=>y
 | .UnaryOp _ y _=>y
 | .IfExp t _ _ _=>t
 | .Subscript y _ _=>y
 | .Call f _ _ _=>f
 | .Attribute y _ _=>y
 | .ListComp e _ _ _=>e
 | .SetComp e _ _ _=>e
 | _=>x
def bop (x:aG):ic:=match x with
 | .BinOp _ o _ _=>o
 | _=>.Add
def e2 (x:aG):aG:=match x with
 | .BinOp _ _ z _=>z
 | .IfExp _ y _ _=>y
 | .Subscript _ z _=>z
 | _=>x
def Ra (x:aG):List CmpOp:=match x with
 | .Compare _ os _ _=>os
 | _=>[]
def ls (x:aG):List aG:=match x with
 | .Compare _ _ zs _=>zs
 | .BoolOp _ vs _=>vs
 | .Tuple es _ _=>es
 | .List es _=>es
 | .Call _ as _ _=>as
 | _=>[]
def Rc (x:aG):PySem.BoolOp:=match x with
 | .BoolOp o _ _=>o
 | _=>.And
def po (x:aG):Pos:=match x with
 | .Name _ p=>p
 | .BoolOp _ _ p=>p
 | .Call _ _ _ p=>p
 | .Attribute _ _ p=>p
 | .ListComp _ _ _ p=>p
 | _=>⟨0,0,0,0⟩
def uop (x:aG):PySem.UnaryOp:=match x with
 | .UnaryOp o _ _=>o
 | _=>.Not
def e3 (x:aG):aG:=match x with
 | .IfExp _ _ z _=>z
 | _=>x
def o1 (x:aG):Option aG:=match x with
 | .Slice l _ _ _=>l
 | _=>none
def o2 (x:aG):Option aG:=match x with
 | .Slice _ h _ _=>h
 | _=>none
def o3 (x:aG):Option aG:=match x with
 | .Slice _ _ s _=>s
 | _=>none
def kws (x:aG):List ie:=match x with
 | .Call _ _ ks _=>ks
 | _=>[]
def gns (x:aG):List DI:=match x with
 | .ListComp _ gs _ _=>gs
 | .SetComp _ gs _ _=>gs
 | _=>[]
def scp (x:aG) (d:eX):eX:=match x with
 | .ListComp _ _ sc _=>sc
 | .SetComp _ _ sc _=>sc
 | _=>d
def jM:aG->Nat
 | .Name .. => 0
 | .Constant .. => 1
 | .BinOp .. => 2
 | .Compare .. => 3
 | .BoolOp .. => 4
 | .UnaryOp .. => 5
 | .IfExp .. => 6
 | .Tuple .. => 7
 | .List .. => 8
 | .Subscript .. => 9
 | .Slice .. => 10
 | .Call .. => 11
 | .Attribute .. => 12
 | .ListComp .. => 13
 | .SetComp .. => 14
 | .JoinedStr .. => 15
 | .FormattedValue .. => 16
 | _=>99
def PJ (x:aG):Nat->Prop
 | 0=>∃ y p,x = .Name y p
 | 1=>∃ v n p,x = .Constant v n p
 | 2=>∃ y o z p,x = .BinOp y o z p
 | 3=>∃ y os zs p,x = .Compare y os zs p
 | 4=>∃ o vs p,x = .BoolOp o vs p
 | 5=>∃ o y p,x = .UnaryOp o y p
 | 6=>∃ t y z p,x = .IfExp t y z p
 | 7=>∃ es n p,x = .Tuple es n p
 | 8=>∃ es p,x = .List es p
 | 9=>∃ y z p,x = .Subscript y z p
 | 10=>∃ l u s p,x = .Slice l u s p
 | 11=>∃ f as ks p,x = .Call f as ks p
 | 12=>∃ y m p,x = .Attribute y m p
 | 13=>∃ e gs sc p,x = .ListComp e gs sc p
 | 14=>∃ e gs sc p,x = .SetComp e gs sc p
 | 15=>∃ vs p,x = .JoinedStr vs p
 | 16=>∃ y cv sp p,x = .FormattedValue y cv sp p
 | _=>True
def GN (x:aG):PJ x (jM x):=by
 cases x<;>first | trivial | exact ⟨_,_,rfl⟩ | exact ⟨_,_,_,rfl⟩ | exact ⟨_,_,_,_,rfl⟩ | exact ⟨_,_,_,_,_,rfl⟩
def eN (h:((jM x == n) && b) = true):PJ x n/\b = true:=by
 rw [aa] at h;exact ⟨eq_of_beq h.1▸GN x,h.2⟩
@[irreducible] noncomputable def cH (x:aG) (k:Str->Bool):Bool:=(jM x == 0) && k (st x)
def bC (h:cH x k = true):∃ y p,x = .Name y p/\k y = true:=by
 unfold cH at h;obtain ⟨⟨y,p,rfl⟩,h⟩:=eN h;exact ⟨y,p,rfl,h⟩
@[irreducible] noncomputable def onC (x:aG) (k:Kz->Bool):Bool:=(jM x == 1) && k (cst x)
def kJ (h:onC x k = true):∃ v n p,x = .Constant v n p/\k v = true:=by
 unfold onC at h;obtain ⟨⟨v,n,p,rfl⟩,h⟩:=eN h;exact ⟨v,n,p,rfl,h⟩
@[irreducible] noncomputable def FZ (x:aG) (k:aG->ic->aG->Bool):Bool:=(jM x == 2) && k (e1 x) (bop x) (e2 x)
def xS (h:FZ x k = true):∃ y o z p,x = .BinOp y o z p/\k y o z = true:=by
 unfold FZ at h;obtain ⟨⟨y,o,z,p,rfl⟩,h⟩:=eN h;exact ⟨y,o,z,p,rfl,h⟩
@[irreducible] noncomputable def FY (x:aG) (k:aG->List CmpOp->List aG->Bool):Bool:=(jM x == 3) && k (e1 x) (Ra x) (ls x)
def rm (h:FY x k = true):∃ y os zs p,x = .Compare y os zs p/\k y os zs = true:=by
 unfold FY at h;obtain ⟨⟨y,os,zs,p,rfl⟩,h⟩:=eN h;exact ⟨y,os,zs,p,rfl,h⟩
@[irreducible] noncomputable def CV (x:aG) (k:PySem.BoolOp->List aG->Pos->Bool):Bool:=(jM x == 4) && k (Rc x) (ls x) (po x)
def jQ (h:CV x k = true):∃ o vs p,x = .BoolOp o vs p/\k o vs p = true:=by
 unfold CV at h;obtain ⟨⟨o,vs,p,rfl⟩,h⟩:=eN h;exact ⟨o,vs,p,rfl,h⟩
@[irreducible] noncomputable def CU (x:aG) (k:PySem.UnaryOp->aG->Bool):Bool:=(jM x == 5) && k (uop x) (e1 x)
def lD (h:CU x k = true):∃ o y p,x = .UnaryOp o y p/\k o y = true:=by
 unfold CU at h;obtain ⟨⟨o,y,p,rfl⟩,h⟩:=eN h;exact ⟨o,y,p,rfl,h⟩
@[irreducible] noncomputable def Ng (x:aG) (k:aG->aG->aG->Bool):Bool:=(jM x == 6) && k (e1 x) (e2 x) (e3 x)
def Bf (h:Ng x k = true):∃ t y z p,x = .IfExp t y z p/\k t y z = true:=by
 unfold Ng at h;obtain ⟨⟨t,y,z,p,rfl⟩,h⟩:=eN h;exact ⟨t,y,z,p,rfl,h⟩
@[irreducible] noncomputable def qZ (x:aG) (k:List aG->Bool):Bool:=(jM x == 7) && k (ls x)
def gX (h:qZ x k = true):∃ es n p,x = .Tuple es n p/\k es = true:=by
 unfold qZ at h;obtain ⟨⟨es,n,p,rfl⟩,h⟩:=eN h;exact ⟨es,n,p,rfl,h⟩
@[irreducible] noncomputable def Be (x:aG) (k:List aG->Bool):Bool:=(jM x == 8) && k (ls x)
def mX (h:Be x k = true):∃ es p,x = .List es p/\k es = true:=by
 unfold Be at h;obtain ⟨⟨es,p,rfl⟩,h⟩:=eN h;exact ⟨es,p,rfl,h⟩
@[irreducible] noncomputable def ui (x:aG) (k:aG->aG->Bool):Bool:=(jM x == 9) && k (e1 x) (e2 x)
def kI (h:ui x k = true):∃ y z p,x = .Subscript y z p/\k y z = true:=by
 unfold ui at h;obtain ⟨⟨y,z,p,rfl⟩,h⟩:=eN h;exact ⟨y,z,p,rfl,h⟩
@[irreducible] noncomputable def Nd (x:aG) (k:Option aG->Option aG->Option aG->Bool):Bool:=(jM x == 10) && k (o1 x) (o2 x) (o3 x)
def Bd (h:Nd x k = true):∃ l u s p,x = .Slice l u s p/\k l u s = true:=by
 unfold Nd at h;obtain ⟨⟨l,u,s,p,rfl⟩,h⟩:=eN h;exact ⟨l,u,s,p,rfl,h⟩
@[irreducible] noncomputable def rp (x:aG) (k:aG->List aG->List ie->Pos->Bool):Bool:=(jM x == 11) && k (e1 x) (ls x) (kws x) (po x)
def ot (h:rp x k = true):∃ f as ks p,x = .Call f as ks p/\k f as ks p = true:=by
 unfold rp at h;obtain ⟨⟨f,as,ks,p,rfl⟩,h⟩:=eN h;exact ⟨f,as,ks,p,rfl,h⟩
@[irreducible] noncomputable def Ni (x:aG) (k:aG->Str->Pos->Bool):Bool:=(jM x == 12) && k (e1 x) (st x) (po x)
def JE (h:Ni x k = true):∃ y m p,x = .Attribute y m p/\k y m p = true:=by
 unfold Ni at h;obtain ⟨⟨y,m,p,rfl⟩,h⟩:=eN h;exact ⟨y,m,p,rfl,h⟩
@[irreducible] noncomputable def JC (x:aG) (k:aG->List DI->eX->Pos->Bool):Bool:=(jM x == 13) && k (e1 x) (gns x) (scp x default) (po x)
def pV (h:JC x k = true):∃ e gs sc p,x = .ListComp e gs sc p/\k e gs sc p = true:=by
 unfold JC at h;obtain ⟨⟨e,gs,sc,p,rfl⟩,h⟩:=eN h;exact ⟨e,gs,sc,p,rfl,h⟩
def sls (x:bD):List aG:=match x with
 | .Assign ts _ _=>ts
 | _=>[]
def s1 (x:bD):aG:=match x with
 | .Assign _ y _=>y
 | .AugAssign t _ _ _=>t
 | .If t _ _ _=>t
 | .For t _ _ _ _=>t
 | .While t _ _ _=>t
 | .Expr y _=>y
 | _=>.Constant .none 0 ⟨0,0,0,0⟩
def sop (x:bD):ic:=match x with
 | .AugAssign _ o _ _=>o
 | _=>.Add
def s2 (x:bD):aG:=match x with
 | .AugAssign _ _ y _=>y
 | .For _ it _ _ _=>it
 | _=>.Constant .none 0 ⟨0,0,0,0⟩
def so (x:bD):Option aG:=match x with
 | .Return y _=>y
 | _=>none
def sb (x:bD):List bD:=match x with
 | .If _ y _ _=>y
 | .For _ _ y _ _=>y
 | .While _ y _ _=>y
 | _=>[]
def sc2 (x:bD):List bD:=match x with
 | .If _ _ z _=>z
 | .For _ _ _ z _=>z
 | .While _ _ z _=>z
 | _=>[]
def uZ:bD->Nat
 | .Assign .. => 0
 | .AugAssign .. => 1
 | .Return .. => 2
 | .If .. => 3
 | .For .. => 4
 | .While .. => 5
 | .Expr .. => 6
 | _=>99
def PH (x:bD):Nat->Prop
 | 0=>∃ ts y p,x = .Assign ts y p
 | 1=>∃ t o y p,x = .AugAssign t o y p
 | 2=>∃ y p,x = .Return y p
 | 3=>∃ t y z p,x = .If t y z p
 | 4=>∃ t it y z p,x = .For t it y z p
 | 5=>∃ t y z p,x = .While t y z p
 | 6=>∃ y p,x = .Expr y p
 | _=>True
def GK (x:bD):PH x (uZ x):=by
 cases x<;>first | trivial | exact ⟨_,_,rfl⟩ | exact ⟨_,_,_,rfl⟩ | exact ⟨_,_,_,_,rfl⟩ | exact ⟨_,_,_,_,_,rfl⟩
def jV (h:((uZ x == n) && b) = true):PH x n/\b = true:=by
 rw [aa] at h;exact ⟨eq_of_beq h.1▸GK x,h.2⟩
@[irreducible] noncomputable def lW (x:bD) (k:List aG->aG->Bool):Bool:=(uZ x == 0) && k (sls x) (s1 x)
def iL (h:lW x k = true):∃ ts y p,x = .Assign ts y p/\k ts y = true:=by
 unfold lW at h;obtain ⟨⟨ts,y,p,rfl⟩,h⟩:=jV h;exact ⟨ts,y,p,rfl,h⟩
@[irreducible] noncomputable def Gb (x:bD) (k:aG->ic->aG->Bool):Bool:=(uZ x == 1) && k (s1 x) (sop x) (s2 x)
def Ga (h:Gb x k = true):∃ t o y p,x = .AugAssign t o y p/\k t o y = true:=by
 unfold Gb at h;obtain ⟨⟨t,o,y,p,rfl⟩,h⟩:=jV h;exact ⟨t,o,y,p,rfl,h⟩
@[irreducible] noncomputable def uj (x:bD) (k:Option aG->Bool):Bool:=(uZ x == 2) && k (so x)
def rh (h:uj x k = true):∃ y p,x = .Return y p/\k y = true:=by
 unfold uj at h;obtain ⟨⟨y,p,rfl⟩,h⟩:=jV h;exact ⟨y,p,rfl,h⟩
@[irreducible] noncomputable def xR (x:bD) (k:aG->List bD->List bD->Bool):Bool:=(uZ x == 3) && k (s1 x) (sb x) (sc2 x)
def rk (h:xR x k = true):∃ t y z p,x = .If t y z p/\k t y z = true:=by
 unfold xR at h;obtain ⟨⟨t,y,z,p,rfl⟩,h⟩:=jV h;exact ⟨t,y,z,p,rfl,h⟩
@[irreducible] noncomputable def FW (x:bD) (k:aG->aG->List bD->List bD->Bool):Bool:=(uZ x == 4) && k (s1 x) (s2 x) (sb x) (sc2 x)
def FV (h:FW x k = true):∃ t it y z p,x = .For t it y z p/\k t it y z = true:=by
 unfold FW at h;obtain ⟨⟨t,it,y,z,p,rfl⟩,h⟩:=jV h;exact ⟨t,it,y,z,p,rfl,h⟩
@[irreducible] noncomputable def JA (x:bD) (k:aG->List bD->List bD->Bool):Bool:=(uZ x == 5) && k (s1 x) (sb x) (sc2 x)
def Bc (h:JA x k = true):∃ t y z p,x = .While t y z p/\k t y z = true:=by
 unfold JA at h;obtain ⟨⟨t,y,z,p,rfl⟩,h⟩:=jV h;exact ⟨t,y,z,p,rfl,h⟩
@[irreducible] noncomputable def zR (x:bD) (k:aG->Bool):Bool:=(uZ x == 6) && k (s1 x)
def pW (h:zR x k = true):∃ y p,x = .Expr y p/\k y = true:=by
 unfold zR at h;obtain ⟨⟨y,p,rfl⟩,h⟩:=jV h;exact ⟨y,p,rfl,h⟩
section
variable {α:Type} {xs:List α}
@[irreducible] noncomputable def on0 (xs:List α) (k:Bool):Bool:=match xs with
 | []=>k
 | _=>false
def eE (h:on0 xs k = true):xs = []/\k = true:=by
 unfold on0 at h;cases xs<;>first | exact ⟨rfl,h⟩ | cases h
@[irreducible] noncomputable def onS (xs:List α) (k:α->List α->Bool):Bool:=match xs with
 | y::ys=>k y ys
 | _=>false
def dk (h:onS xs k = true):∃ y ys,xs = y::ys/\k y ys = true:=by
 unfold onS at h;cases xs<;>first | exact ⟨_,_,rfl,h⟩ | cases h
@[irreducible] noncomputable def on1 (xs:List α) (k:α->Bool):Bool:=onS xs λy ys=>on0 ys (k y)
def cT (h:on1 xs k = true):∃ y,xs = [y]/\k y = true:=by
 unfold on1 at h;obtain ⟨y,ys,rfl,h1⟩:=dk h;obtain ⟨rfl,h2⟩:=eE h1;exact ⟨y,rfl,h2⟩
@[irreducible] noncomputable def on2 (xs:List α) (k:α->α->Bool):Bool:=onS xs λy ys=>on1 ys (k y)
def rA (h:on2 xs k = true):∃ y z,xs = [y,z]/\k y z = true:=by
 unfold on2 at h;obtain ⟨y,ys,rfl,h1⟩:=dk h;obtain ⟨z,rfl,h2⟩:=cT h1;exact ⟨y,z,rfl,h2⟩
end
@[irreducible] noncomputable def onI (v:Kz) (k:Int->Bool):Bool:=match v with
 | .int i=>k i
 | _=>false
def FT (h:onI v k = true):∃ i,v = .int i/\k i = true:=by
 unfold onI at h;cases v<;>first | exact ⟨_,rfl,h⟩ | cases h
@[irreducible] noncomputable def onB (v:Kz) (k:Bool->Bool):Bool:=match v with
 | .bool i=>k i
 | _=>false
def Nh (h:onB v k = true):∃ i,v = .bool i/\k i = true:=by
 unfold onB at h;cases v<;>first | exact ⟨_,rfl,h⟩ | cases h
@[irreducible] noncomputable def onT (v:Kz) (k:Str->Bool):Bool:=match v with
 | .str i=>k i
 | _=>false
def zP (h:onT v k = true):∃ i,v = .str i/\k i = true:=by
 unfold onT at h;cases v<;>first | exact ⟨_,rfl,h⟩ | cases h
def Lb:Kz->Bool
 | .none=>true
 | _=>false
def GF (h:Lb v = true):v = .none:=by
 cases v<;>first | rfl | cases h
@[irreducible] noncomputable def mY (x:aG) (k:Str->List aG->Bool):Bool:=rp x λf as ks _=>cH f λn=>on0 ks (k n as)
def dH (h:mY x k = true):∃ n np as p,x = .Call (.Name n np) as [] p/\k n as = true:=by
 unfold mY at h;obtain ⟨f,as,ks,p,rfl,h1⟩:=ot h;obtain ⟨n,np,rfl,h2⟩:=bC h1;obtain ⟨rfl,h3⟩:=eE h2;exact ⟨n,np,as,p,rfl,h3⟩
@[irreducible] noncomputable def JD (x:aG) (k:Str->aG->Str->Kz->Bool):Bool:=rp x λf as ks _=>cH f λn=>on1 as λy=>on1 ks λkw=>match kw.arg with
 | some a=>onC kw.value λv=>k n y a v
 | none=>false
def Bg (h:JD x k = true):∃ n np y a v vn vp kp p,x = .Call (.Name n np) [y] [⟨some a,.Constant v vn vp,kp⟩] p/\k n y a v = true:=by
 unfold JD at h;obtain ⟨f,as,ks,p,rfl,h1⟩:=ot h;obtain ⟨n,np,rfl,h2⟩:=bC h1;obtain ⟨y,rfl,h3⟩:=cT h2;obtain ⟨⟨arg,value,kp⟩,rfl,h4⟩:=cT h3
 cases arg with
 | none=>cases h4
 | some a =>
   obtain ⟨v,vn,vp,e,h5⟩:=kJ h4;subst e;exact ⟨n,np,y,a,v,vn,vp,kp,p,rfl,h5⟩
@[irreducible] noncomputable def onM (x:aG) (k:aG->Str->List aG->Bool):Bool:=rp x λf as ks cp=>Ni f λy m ap=>on0 ks (decide (ap.endLine = cp.line) && k y m as)
def zQ (h:onM x k = true):∃ y m ap as cp,x = .Call (.Attribute y m ap) as [] cp/\ap.endLine = cp.line/\k y m as = true:=by
 unfold onM at h;obtain ⟨f,as,ks,cp,rfl,h1⟩:=ot h;obtain ⟨y,m,ap,rfl,h2⟩:=JE h1;obtain ⟨rfl,h3⟩:=eE h2;rw [aa] at h3;exact ⟨y,m,ap,as,cp,rfl,of_decide_eq_true h3.1,h3.2⟩
@[irreducible] noncomputable def onG (g:DI) (k:aG->aG->List aG->Bool):Bool:=decide (g.is_async = 0) && k g.target g.iter g.ifs
def FU (h:onG g k = true):∃ t it il,g = ⟨t,it,il,0⟩/\k t it il = true:=by
 obtain ⟨t,it,il,a⟩:=g;unfold onG at h;rw [aa] at h;have e:a = 0:=of_decide_eq_true h.1;subst e;exact ⟨t,it,il,rfl,h.2⟩
def Iq:aG->Option (List Str)
 | .Name x _=>some [x]
 | .Tuple es _ _=>es.mapM fun | .Name x _=>some x | _=>none
 | _=>none
def Kk (c:Ck):List Nat->List aG->Bool
 | [],es=>on0 es true
 | i::is,es=>onS es λe r=>cH e (λx=>eV c i x) && Kk c is r
def we (c:Ck):Tg->aG->Bool
 | .nm i,x=>cH x λy=>eV c i y
 | .tp is,x=>qZ x λes=>Kk c is es
 | .pr i is,x=>qZ x λes=>on2 es λa b=>cH a (λy=>eV c i y) && qZ b λes=>Kk c is es
def CB (n:Nat):Tg->Bool
 | .nm i=>decide (n<=i)
 | .tp is=>is.all λi=>decide (n<=i)
 | .pr i is=>decide (n<=i) && is.all λi=>decide (n<=i)
def rH (ts:List Str) (N:List Str):List Str:=N.map λy=>if ts.contains y then y++(" ":Str) else y
def mT (c:Ck) (sc:eX):Bool :=
 decide (sc.kind = .function) && sc.names.all λp=>decide (p.2≠.cell) && (!decide (p.2 = .local) || decide (sc.names.lookup p.1 = some .local)) &&
  (!decide (p.2 = .free) || (match c.sc.names.lookup p.1 with | some .cell=>true | some .free=>true | _=>false))
def namesOk (c:Ck) (sc:eX) (Nc:List Str):Bool :=
 decide Nc.Nodup && (bo c.N.length).all λi=>match Nc[i]? with
  | some x=>!Cy sc x || (decide (c.N[i]? = some x) && decide (sc.names.lookup x = some .free))
  | none=>false
def GD:PySem.UnaryOp->Bool
 | .Not=>true
 | _=>false
def isNeg:PySem.UnaryOp->Bool
 | .USub=>true
 | _=>false
def rM (h:GD o = true):o = .Not:=by cases o<;>first | rfl | cases h
def GG (h:isNeg o = true):o = .USub:=by cases o<;>first | rfl | cases h
@[irreducible] noncomputable def onO (x:Option aG) (k:aG->Bool):Bool:=match x with
 | some y=>k y
 | none=>false
def oo (h:onO x k = true):∃ y,x = some y/\k y = true:=by
 unfold onO at h
 cases x with
 | none=>cases h
 | some y=>exact ⟨y,rfl,h⟩
def fW:aG->Bool
 | .Name .. | .Constant .. | .BinOp .. | .Compare .. | .BoolOp .. | .UnaryOp .. | .IfExp .. | .Tuple .. | .List .. | .Subscript .. | .Call .. | .ListComp .. => true
 | .JoinedStr .. => true
 | _=>false
variable [Tbs]
def JV (x:aG):Bool:=jM x == 7
mutual
noncomputable def ckE (c:Ck):E->aG->Bool
 | .var i,x=>cH x λy=>fu c i y
 | .pk i,x=>cH x λy=>fu c i y
 | .glob g,x=>cH x λy=>decide (c.gn[g]? = some y) && dw c y
 | .int i,x=>onC x λv=>onI v λj=>decide (i = j)
 | .bl b,x=>onC x λv=>onB v λj=>decide (b = j)
 | .non,x=>onC x Lb
 | .str t,x=>onC x λv=>onT v λu=>decide (t = u)
 | .bin op a b,x=>FZ x λy o z=>Jz op o && ckE c a y && ckE c b z && (!bY a || np b)
 | .cmp op a b,x=>FY x λy os zs=>on1 os λo=>on1 zs λz=>BG op o && ckE c a y && ckE c b z && (!bY a || np b)
 | .and a b,x=>CV x λo vs p=>onS vs λy r=>onS r λz r2=>(match o with
   | .And=>true
   | .Or=>false) && ckE c a y && ckE c b (match r2 with
   | []=>z
   | _::_=>.BoolOp .And (z::r2) p) && !bY a && !bY b
 | .or a b,x=>CV x λo vs p=>onS vs λy r=>onS r λz r2=>(match o with
   | .And=>false
   | .Or=>true) && ckE c a y && ckE c b (match r2 with
   | []=>z
   | _::_=>.BoolOp .Or (z::r2) p) && !bY a && !bY b
 | .not a,x=>CU x λo y=>GD o && ckE c a y && !bY a
 | .neg a,x=>CU x λo y=>isNeg o && ckE c a y && !bY a
 | .ssd a,x=>mY x λf as=>on1 as λw=>mY w λg as=>on1 as λy=>decide (f = ("sorted":Str)) && decide (g = ("set":Str)) && dw c f && dw c g && ckE c a y && !bY a
 | .maxd a n,x=>JD x λf y k v=>onI v λi=>decide (f = ("max":Str)) && decide (k = du "default") && decide (n = i) && dw c f && ckE c a y && !bY a
 | .ite k a b,x=>Ng x λt y z=>ckE c k t && ckE c a y && ckE c b z && !bY a && !bY b
 | .tup es,x=>qZ x λxs=>jC c es xs && jR es
 | .lst es,x=>Be x λxs=>jC c es xs && jR es
 | .ix a b,x=>ui x λy z=>ckE c a y && ckE c b z && (!bY a || np b) && !bY b
 | .sl a lo hi,x=>ui x λy z=>Nd z λl h s=>s.isNone && (ckE c a y && ckO c lo l && ckO c hi h && (!bY a || (npO lo && npO hi)))
 | .call f es,x=>mY x λn xs=>(match c.fns[f]? with
    | some (m,ps)=>decide (m = n) && dw c n && decide (ps.length = yk es) && jC c es xs && jR es && !xs.isEmpty
    | none=>false)
 | .calld f es,x=>mY x λn xs=>(match c.fns[f]? with
    | some (m,ps)=>decide (m = n) && dw c n && decide (ps.length = yk es+1) && jC c es xs && jR es && !xs.isEmpty && Tbs.dfs.contains f
    | none=>false)
 | .blt f es,x=>mY x λn xs=>decide (uE f = n) && dw c n && (match tyName f with
    | some T=>on2 xs λy w=>cH w λt=>decide (t = (T:Str)) && dw c t && jC c es [y] && sP es
    | none=>!xs.isEmpty && jC c es xs && sP es)
 | .bad,x=>fW x
 | .comp k tg src ifs elt,x=>JC x λex gs sc _=>on1 gs λg=>onG g λt it il=>(match Iq t with
    | some ts=>decide (ts.length = k) && CB c.N.length tg && mT c sc && namesOk c sc (rH ts c.N++ts) && we ⟨rH ts c.N++ts,sc,c.fns,c.gn⟩ tg t && ckI c src t it &&
       ckG ⟨rH ts c.N++ts,sc,c.fns,c.gn⟩ ifs il && ckE ⟨rH ts c.N++ts,sc,c.fns,c.gn⟩ elt ex && !bY elt
    | none=>false)
noncomputable def jC (c:Ck):Es->List aG->Bool
 | .nil,xs=>on0 xs true
 | .cons e es,xs=>onS xs λy ys=>ckE c e y && jC c es ys
noncomputable def ckO (c:Ck):Eo->Option aG->Bool
 | .no,x=>x.isNone
 | .yes e,x=>onO x λy=>ckE c e y && !bY e
noncomputable def ckG (c:Ck):Eo->List aG->Bool
 | .no,x=>on0 x true
 | .yes e,x=>on1 x λy=>ckE c e y
noncomputable def ckI (c:Ck):It->aG->aG->Bool
 | .rng e,_,x=>mY x λn xs=>on1 xs λy=>decide (n = ("range":Str)) && dw c n && ckE c e y && !bY e
 | .sq e,_,x=>ckE c e x && !bY e
 | .zp es,t,x=>mY x λn xs=>on2 xs λu v=>JV t && decide (n = ("zip":Str)) && dw c n && jC c es [u,v] && jR es
end
def iE (h:jC c es (y::ys) = true):∃ e es',es = .cons e es'/\ckE c e y = true/\jC c es' ys = true:=by
 cases es with
 | nil=>cases (eE h).1
 | cons e es =>
   obtain ⟨_,_,q,h'⟩:=dk h;cases q;rw [aa] at h';exact ⟨e,es,rfl,h'⟩
def wZ (h:we c tg t = true):(∃ x p,t = .Name x p)\/∃ es n p,t = .Tuple es n p:=by
 cases tg with
 | nm i=>obtain ⟨x,p,rfl,_⟩:=bC h;exact .inl ⟨x,p,rfl⟩
 | tp is=>obtain ⟨es,n,p,rfl,_⟩:=gX h;exact .inr ⟨es,n,p,rfl⟩
 | pr i is=>obtain ⟨es,n,p,rfl,_⟩:=gX h;exact .inr ⟨es,n,p,rfl⟩
def hdN (h:cH x k = true):fW x = true:=by obtain ⟨_,_,rfl,_⟩:=bC h;rfl
def hdC (h:onC x k = true):fW x = true:=by obtain ⟨_,_,_,rfl,_⟩:=kJ h;rfl
def hdF (h:mY x k = true):fW x = true:=by obtain ⟨_,_,_,_,rfl,_⟩:=dH h;rfl
def hdK (h:JD x k = true):fW x = true:=by obtain ⟨_,_,_,_,_,_,_,_,_,rfl,_⟩:=Bg h;rfl
def hdB (h:CV x k = true):fW x = true:=by obtain ⟨_,_,_,rfl,_⟩:=jQ h;rfl
def hdU (h:CU x k = true):fW x = true:=by obtain ⟨_,_,_,rfl,_⟩:=lD h;rfl
def hdS (h:ui x k = true):fW x = true:=by obtain ⟨_,_,_,rfl,_⟩:=kI h;rfl
def cG (h:ckE c e x = true):fW x = true:=by
 cases e with
 | var i=>exact hdN h
 | pk i=>exact hdN h
 | glob g=>exact hdN h
 | int i=>exact hdC h
 | bl b=>exact hdC h
 | non=>exact hdC h
 | str t=>exact hdC h
 | bin op a b=>obtain ⟨_,_,_,_,rfl,_⟩:=xS h;rfl
 | cmp op a b=>obtain ⟨_,_,_,_,rfl,_⟩:=rm h;rfl
 | and a b=>exact hdB h
 | or a b=>exact hdB h
 | not a=>exact hdU h
 | neg a=>exact hdU h
 | ssd a=>exact hdF h
 | maxd a n=>exact hdK h
 | ite k a b=>obtain ⟨_,_,_,_,rfl,_⟩:=Bf h;rfl
 | tup es=>obtain ⟨_,_,_,rfl,_⟩:=gX h;rfl
 | lst es=>obtain ⟨_,_,rfl,_⟩:=mX h;rfl
 | ix a b=>exact hdS h
 | sl a lo hi=>exact hdS h
 | call f es=>exact hdF h
 | calld f es=>exact hdF h
 | blt f es=>exact hdF h
 | bad=>exact h
 | comp k tg src ifs elt=>obtain ⟨_,_,_,_,rfl,_⟩:=pV h;rfl
def cW (h:fW x = true) (xs:List aG) (env:Env):starEach (x::xs) env = (false,eval x env)::starEach xs env:=by
 cases x<;>first | rfl | (exact absurd h ao)
def GP (h:fW x = true) (env:Env) (v:af):foldedSetIterable x env v = pure v:=by
 cases x<;>first | rfl | (exact absurd h ao)
def uv (h:fW x = true) (op:CmpOp):behindInMarks op x = false:=by
 cases x<;>first | rfl | (exact absurd h ao)
def JZ (h:fW x = true):L2.PlainIx x:=by
 intro o i;cases x<;>first | rfl | (exact absurd h ao)
def jU:aG->Bool
 | .ListComp .. => true
 | _=>false
def jW (h:fW x = true) (hc:jU x = false) (t:Option aG) (n:Nat) (env:Env):swapsWith x t n env = pure false:=by
 cases x<;>first | rfl | (exact absurd h ao) | (exact absurd hc.symm ao)
def GI:E->Bool
 | .comp .. => true
 | _=>false
@[irreducible] noncomputable def Nf (x:aG) (k:Str->Pos->Bool):Bool:=(jM x == 0) && k (st x) (po x)
def JB (h:Nf x k = true):∃ y p,x = .Name y p/\k y p = true:=by
 unfold Nf at h;obtain ⟨⟨y,p,rfl⟩,h⟩:=eN h;exact ⟨y,p,rfl,h⟩
def QT (x:bD) (n:Nat):Bool:=match x with
 | .Pass _=>n == 0
 | .Break _=>n == 1
 | .Continue _=>n == 2
 | _=>false
def Qo (h:QT x n = true):∃ p,(n = 0/\x = .Pass p)\/(n = 1/\x = .Break p)\/(n = 2/\x = .Continue p):=by
 cases x<;>first | (cases h;done) | skip
 . exact ⟨_,.inl ⟨eq_of_beq h,rfl⟩⟩
 . exact ⟨_,.inr (.inl ⟨eq_of_beq h,rfl⟩)⟩
 . exact ⟨_,.inr (.inr ⟨eq_of_beq h,rfl⟩)⟩
def newOk:E->Bool
 | .lst _=>true
 | .blt .toLst _=>true
 | .sl _ _ _=>true
 | _=>false
def isNm (x:aG):Bool:=jM x == 0
mutual
noncomputable def ckS (c:Ck):S->bD->Bool
 | .asg tg e,x=>lW x λts y=>on1 ts λt=>we c tg t && ckE c e y && !bY e && !jU y && (isNm t || !JV y)
 | .new i e,x=>lW x λts y=>on1 ts λt=>cH t λt=>eV c i t && ckE c e y && !jU y && newOk e
 | .cmp own i e,x=>GI e && lW x λts y=>on1 ts λt=>Nf t λt tp=>JC y λex gs sc p=>eV c i t && ckE c e (.ListComp ex gs sc p) && ((decide (c.sc.names.lookup t = some .local) && decide (tp.line = p.line) && !(sc.names.any λ(n,k)=>n == t && (k == .local || k == .cell))) || (!own && decide (c.sc.names.lookup t = some .cell)))
 | .aug i op e,x=>Gb x λt o y=>cH t λt=>eV c i t && Jz op o && ckE c e y && !bY e
 | .ret e,x=>uj x λy=>onO y λy=>ckE c e y && !bY e
 | .ifs k a b,x=>xR x λt y z=>ckE c k t && wg c a y && wg c b z
 | .for_ tg src body,x=>FW x λt it y z=>on0 z (we c tg t && ckI c src t it && wg c body y)
 | .while_ k body,x=>JA x λt y z=>on0 z (ckE c k t && wg c body y)
 | .append i e,x=>zR x λw=>onM w λy m as=>cH y λy=>on1 as λz=>decide (m = ("append":Str)) && fu c i y && ckE c e z && !bY e
 | .extend i e,x=>zR x λw=>onM w λy m as=>cH y λy=>on1 as λz=>decide (m = ("extend":Str)) && fu c i y && ckE c e z && !bY e
 | .setix i j e,x=>lW x λts y=>on1 ts λt=>ui t λw z=>cH w λt=>fu c i t && ckE c e y && !bY e && !jU y && ckE c j z && !bY j
 | .opq _,_=>false
 | .bad,_=>true
noncomputable def wg (c:Ck):Ss->List bD->Bool
 | .nil,xs=>on0 xs true
 | .cons s ss,xs=>onS xs λy ys=>ckS c s y && wg c ss ys
end
end PP
end
section
namespace PP
open PySem L2 PyProof.Rows
variable [Tbs]
def Qb (K:PySem.W.Frag) (G:Gh) (F:aq->Prop) (σ:L2.St) (H:Hp) (m nP:Bool) (d:D) (δ':Loc) (Q:VK):Prop :=
 ∀ v H' F',Step G F H F' H'->(nP = true->Sim H H')->Ok K G F' σ H' δ'->RelM m K H' F' d v->Q v H'
def tE (K:PySem.W.Frag) (cx:Cl) (e:E):TE:=λσ H Q=>∃ G F δ d δ',Ok K G F σ H δ/\evE cx e δ = some (d,δ')/\Qb K G F σ H (bY e) (np e) d δ' Q
def tT (K:PySem.W.Frag) (cx:Cl) (e:E):TT:=λσ H Q=>∃ G F δ b δ',Ok K G F σ H δ/\evT cx e δ = some (b,δ') /\
 ∀ H' F',Step G F H F' H'->(np e = true->Sim H H')->Ok K G F' σ H' δ'->Q b H'
def pz (K:PySem.W.Frag) (H:Hp) (F:aq->Prop):Es->List D->List V->Prop
 | .nil,ds,vs=>ds = []/\vs = []
 | .cons e es,ds,vs=>∃ d ds' v vs',ds = d::ds'/\vs = v::vs'/\RelM (bY e) K H F d v/\pz K H F es ds' vs'
def tEs (K:PySem.W.Frag) (cx:Cl) (es:Es):TA:=λσ H Q=>∃ G F δ ds δ',Ok K G F σ H δ/\eH cx es δ = some (ds,δ') /\
 ∀ vs H' F',Step G F H F' H'->(npS es = true->Sim H H')->Ok K G F' σ H' δ'->pz K H' F' es ds vs->Q vs H'
def tO (K:PySem.W.Frag) (cx:Cl) (o:Eo):TO:=λσ H Q=>∃ G F δ d δ',Ok K G F σ H δ/\evO cx o δ = some (d,δ') /\
 ∀ H' F',Step G F H F' H'->(npO o = true->Sim H H')->Ok K G F' σ H' δ'->Q d H'
def tG (K:PySem.W.Frag) (cx:Cl) (o:Eo):TT:=λσ H Q=>∃ G F δ b δ',Ok K G F σ H δ/\evG cx o δ = some (b,δ') /\
 ∀ H' F',Step G F H F' H'->(npO o = true->Sim H H')->Ok K G F' σ H' δ'->Q b H'
def Wk (K:PySem.W.Frag) (G:Gh) (F:aq->Prop) (H:Hp) (J:L2.It) (ds:List D):Prop:=∀ F2 H2,Step G F H F2 H2->FD F2 H2->∀ i:Nat,
 (∀ d,ds[i]? = some d->J.go i H2/\∀ x H3,J.yld i H2 x H3->iO H2 H3/\Rel K H3 F2 d x)/\(i = ds.length->J.stop i H2)
def tI (K:PySem.W.Frag) (cx:Cl) (t:It):TI:=λσ H R=>∃ G F δ ds δ',Ok K G F σ H δ/\evI cx t δ = some (ds,δ') /\
 ∀ J H' F',Step G F H F' H'->(npI t = true->Sim H H')->Ok K G F' σ H' δ'->(∀ G',Wk K G' F' H' J ds)->R J H'
section
variable {K:PySem.W.Frag} {cx:Cl} {X:Cx}
def PE.imp (h:PE X e t) (w:∀ σ H Q,t' σ H Q->t σ H Q):PE X e t':=λpins s σ H Q I q=>h pins s σ H Q I (w σ H Q q)
def PT.imp (h:PT X e t) (w:∀ σ H Q,t' σ H Q->t σ H Q):PT X e t':=λpins s σ H Q I q=>h pins s σ H Q I (w σ H Q q)
def two {a b:E} {σ:L2.St} {G:Gh} {H:Hp} {F:aq->Prop} {δ δ1 δ2:Loc} {x y:D} (ok:Ok K G F σ H δ) (ea:evE cx a δ = some (x,δ1)) (eb:evE cx b δ1 = some (y,δ2)) (pc:(!bY a || np b) = true) {R:V->V->Hp->Prop}
 (k:∀ v u H2 F2,Step G F H F2 H2->((np a && np b) = true->Sim H H2)->Ok K G F2 σ H2 δ2->RelM (bY a) K H2 F2 x v->RelM (bY b) K H2 F2 y u->R v u H2) :
 tE K cx a σ H λv H1=>tE K cx b σ H1 λu H2=>R v u H2:=by
 refine ⟨G,F,δ,x,δ1,ok,ea,λv H1 F1 st1 sm1 ok1 r1=>⟨G,F1,δ1,y,δ2,ok1,eb,λu H2 F2 st2 sm2 ok2 r2=>?_⟩⟩;refine k v u H2 F2 (st1.trans st2) (λz=>?_) ok2 (RelM.step ok1.fd st2 (λz=>sm2 (by rw [z] at pc;simpa using pc)) r1) r2;rw [aa] at z;exact (sm1 z.1).trans (sm2 z.2)
def dN.int {H:Hp} {F:aq->Prop} {i:Int} {v:V} (h:dN K H F (.int i) v):v = .int i:=by
 rcases h with h | ⟨_,_,_,e,_⟩
 . unfold Rel at h;exact h
 . cases e
def dN.bl (h:dN K H F (.bl i) v):v = .bl i:=by
 rcases h with h | ⟨_,_,_,e,_⟩
 . unfold Rel at h;exact h
 . cases e
def dN.str {H:Hp} {F:aq->Prop} {i:Str} {v:V} (h:dN K H F (.str i) v):v = .str i:=by
 rcases h with h | ⟨_,_,_,e,_⟩
 . unfold Rel at h;exact h
 . cases e
def dN.tup {H:Hp} {F:aq->Prop} {ds:List D} {v:V} (h:dN K H F (.tup ds) v):∃ a xs,v = .ref a/\SqT K H a xs/\aK K H F ds xs:=by
 rcases h with h | ⟨_,_,_,e,_⟩
 . unfold Rel at h;exact h
 . cases e
def dN.lst {H:Hp} {F:aq->Prop} {ds:List D} {v:V} (h:dN K H F (.lst ds) v):∃ a xs,v = .ref a/\LsB K H a xs/\aK K H F ds xs:=by
 rcases h with h | ⟨a,xs,_,e,e2,h1,h2⟩
 . unfold Rel at h;obtain ⟨a,xs,e,h1,h2⟩:=h;exact ⟨a,xs,e,h1.b,h2⟩
 . cases e;exact ⟨a,xs,e2,.inl (.inl h1),h2⟩
def dC {H:Hp} {F:aq->Prop} (i:Int):Rel K H F (.int i) (.int i):=by unfold Rel;rfl
def mj (i:Bool):Rel K H F (.bl i) (.bl i):=by unfold Rel;rfl
def iY {H:Hp} {F:aq->Prop} (i:Str):Rel K H F (.str i) (.str i):=by unfold Rel;rfl
def AO:Rel K H F .non .non:=by unfold Rel;rfl
def Ok.laid {σ:L2.St} {G:Gh} {H:Hp} {F:aq->Prop} {δ:Loc} {p:aq} (ok:Ok K G F σ H δ) (hp:H p = none) (o:HO):Ok K G F σ (upd H p o) δ/\Step G F H F (upd H p o)/\Sim H (upd H p o)/\¬ F p :=
 ⟨ok.same' (cB hp o),Step.of_same (cB hp o),.of (cB hp o),ok.fd.none hp⟩
def mh {σ:L2.St} {G:Gh} {H:Hp} {F:aq->Prop} {δ:Loc} {p:aq} {ds:List D} {xs:List V} (ok:Ok K G F σ H δ) (hp:H p = none) (r:aK K H F ds xs):Rel K (upd H p (.tup xs)) F (.tup ds) (.ref p):=by
 unfold Rel;exact ⟨p,xs,rfl,SqT.of cm,aK.step (G:=G) ok.fd (Step.of_same (cB hp _)) ds xs r⟩
def mi {σ:L2.St} {G:Gh} {H:Hp} {F:aq->Prop} {δ:Loc} {p:aq} {ds:List D} {xs:List V} (ok:Ok K G F σ H δ) (hp:H p = none) (r:aK K H F ds xs):Rel K (upd H p (.lst xs)) F (.lst ds) (.ref p):=by
 unfold Rel;exact ⟨p,xs,rfl,.inl ⟨.inl cm,(ok.laid hp (.lst xs)).2.2.2⟩,aK.step (G:=G) ok.fd (Step.of_same (cB hp _)) ds xs r⟩
def IL {a b:E} {y z:aG} {op:Op} {o:ic} {pos:Pos} (ho:Jz op o = true) (pc:(!bY a || np b) = true) (ha:PE X y (tE X.K cx a)) (hb:PE X z (tE X.K cx b)):PE X (.BinOp y o z pos) (tE X.K cx (.bin op a b)):=by
 intro pins s σ H Q I h;obtain ⟨G,F,δ,d,δ',ok,ev,post⟩:=h;simp only [evE,ag,aj] at ev;obtain ⟨⟨x,δ1⟩,ea,⟨y',δ2⟩,eb,d',hd,e⟩:=ev;cases e;dsimp only at eb hd post;have fin:∀ v H2 F2,Step G F H F2 H2->((np a && np b) = true->Sim H H2)->Ok X.K G F2 σ H2 δ2->Rel X.K H2 F2 d v->Q v H2:=λv H2 F2 st sm ok2 r=>post v H2 F2 st sm ok2 r;cases op<;>cases o<;>first | (exact absurd ho ao) | skip
 . refine xP (Nb.or (zO.or (Jw.or (Jy.or Jx)))) ha hb pins s σ H Q I (two ok ea eb pc λv u H2 F2 st sm ok2 r1 r2=>?_);change Oq x y' = some d at hd;unfold Oq at hd;split at hd
   . cases hd;have e1:=r1.b.int;have e2:=r2.b.int;subst e1;subst e2;exact .inl ⟨_,_,rfl,rfl,fin _ _ _ st sm ok2 (dC _)⟩
   . split at hd
     . cases hd;have e1:=r1.b.str;have e2:=r2.b.str;subst e1;subst e2;exact .inr (.inl ⟨_,_,rfl,rfl,‹_›,fin _ _ _ st sm ok2 (iY _)⟩)
     . cases hd
   . cases hd;obtain ⟨p1,xs1,e1,s1,l1⟩:=r1.b.tup;obtain ⟨p2,xs2,e2,s2,l2⟩:=r2.b.tup;subst e1;subst e2;unfold aK at l1;subst l1;refine .inr (.inr (.inr (.inl ⟨p1,p2,xs2,rfl,rfl,s1,s2,fin _ _ _ st sm ok2 ?_⟩)));unfold Rel;exact ⟨p2,xs2,rfl,s2,l2⟩
   . split at hd
     . rename_i q;cases hd;obtain ⟨p1,xs1,e1,s1,l1⟩:=r1.b.tup;obtain ⟨p2,xs2,e2,s2,l2⟩:=r2.b.tup;subst e1;subst e2;refine .inr (.inr (.inl ⟨p1,p2,xs1,xs2,rfl,rfl,s1,s2,λz=>?_,by rw [l1.length,l2.length];exact q,λz=>?_,λ_ p hp=>?_⟩))
       . have:=l1.length;rw [z] at this;cases this
       . refine fin _ _ _ st sm ok2 ?_;have e:∀ {ys:List D},aK X.K H2 F2 ys xs2->ys = []:=λ{ys} r=>by have:=r.length;rw [z] at this;exact gD.mp this.symm
         have:=e l2;subst this;rw [bw];unfold Rel;exact ⟨p1,xs1,rfl,s1,l1⟩
       . obtain ⟨o1,o2,o3,o4⟩:=ok2.laid hp (.tup (xs1++xs2));exact fin _ _ _ (st.trans o2) (λz=>(sm z).trans o3) o1 (mh ok2 hp (l1.append l2))
     . cases hd
   . split at hd
     . rename_i q;cases hd;obtain ⟨p1,xs1,e1,s1,l1⟩:=r1.b.lst;obtain ⟨p2,xs2,e2,s2,l2⟩:=r2.b.lst;subst e1;subst e2;refine .inr (.inr (.inr (.inr ⟨p1,p2,xs1,xs2,rfl,rfl,s1,s2,by rw [l1.length,l2.length];exact q,λp hp=>?_⟩)));obtain ⟨o1,o2,o3,o4⟩:=ok2.laid hp (.lst (xs1++xs2));exact fin _ _ _ (st.trans o2) (λz=>(sm z).trans o3) o1 (mi ok2 hp (l1.append l2))
     . cases hd
   . cases hd
 . refine xP MU ha hb pins s σ H Q I (two ok ea eb pc λv u H2 F2 st sm ok2 r1 r2=>?_);change Ma x y' = some d at hd;unfold Ma at hd;split at hd<;>first | (cases hd;done) | skip
   cases hd;have e1:=r1.b.int;have e2:=r2.b.int;subst e1;subst e2;exact ⟨_,_,rfl,rfl,fin _ _ _ st sm ok2 (dC _)⟩
 . refine xP (Jv.or Ju) ha hb pins s σ H Q I (two ok ea eb pc λv u H2 F2 st sm ok2 r1 r2=>?_);change Nn x y' = some d at hd;unfold Nn at hd;split at hd<;>first | (cases hd;done) | skip
   . split at hd
     . rename_i q;cases hd;have e1:=r1.b.int;have e2:=r2.b.int;subst e1;subst e2;refine .inl ⟨_,_,rfl,rfl,?_,fin _ _ _ st sm ok2 (dC _)⟩;exact JI q
     . cases hd
   . split at hd
     . rename_i q;cases hd;have e1:=r1.b.str;have e2:=r2.b.int;subst e1;subst e2;exact .inr ⟨_,_,rfl,rfl,q,fin _ _ _ st sm ok2 (iY _)⟩
     . cases hd
 . refine xP MW ha hb pins s σ H Q I (two ok ea eb pc λv u H2 F2 st sm ok2 r1 r2=>?_);change Np x y' = some d at hd;unfold Np at hd;split at hd<;>first | (cases hd;done) | skip
   split at hd
   . rename_i q;cases hd;have e1:=r1.b.int;have e2:=r2.b.int;subst e1;subst e2;exact ⟨_,_,rfl,rfl,q,fin _ _ _ st sm ok2 (dC _)⟩
   . cases hd
 . refine xP FQ ha hb pins s σ H Q I (two ok ea eb pc λv u H2 F2 st sm ok2 r1 r2=>?_);change GY x y' = some d at hd;unfold GY at hd;split at hd<;>first | (cases hd;done) | skip
   split at hd
   . rename_i q;cases hd;have e1:=r1.b.int;have e2:=r2.b.int;subst e1;subst e2;exact ⟨_,_,rfl,rfl,q,fin _ _ _ st sm ok2 (dC _)⟩
   . cases hd
end
end PP
end
section
namespace PP
open PySem L2 PySem.SeqAt PyProof.Rows PySem.W
variable [Tbs]
def dB (h:sortable ds = true):ds.length < 64/\(∀ x∈ds,bK x≠0/\bK x = bK (ds.getD 0 .non))/\∀ x∈ds,∀ y∈ds,∃ k,lN x y = some k:=by
 unfold sortable at h;simp only [aa,bq,decide_eq_true_eq] at h;obtain ⟨⟨h1,h2⟩,h3⟩:=h;refine ⟨h1,λx hx=>?_,λx hx y hy=>fV.mp (h3 x hx y hy)⟩;have:=h2 x hx;exact ⟨by simpa using this.1,by simpa using this.2⟩
def tX (ds:List D):(fN ds).length = ds.length:=by
 unfold fN;by_cases h:ds.length < 2
 . rw [if_pos h]
 . rw [if_neg h,av,(gK ds.length).length_eq,jG]
def su {K:PySem.W.Frag} {H:Hp} {F:aq->Prop} {ds:List D} {xs:List V} (r:aK K H F ds xs):∀ (is:List Nat),(∀ i∈is,i < ds.length)->aK K H F (is.map λi=>ds.getD i .non) (is.map λi=>xs.getD i .non)
 | [],_=>aK.nil
 | i::is,h=>by
   have hi:=h i au;obtain ⟨v,hv,rv⟩:=r.get (i:=i) (d:=ds.getD i .non) (by simp [hi]);have e:xs.getD i .non = v:=by simp [hv]
   rw [bp,bp,e];exact aK.cons rv (su r is λj hj=>h j (ar _ hj))
def sr (r:Vals xs us):∀ (is:List Nat),(∀ i∈is,i < xs.length)->Vals (is.map λi=>xs.getD i .non) (is.map λi=>us.getD i cq)
 | [],_=>.nil
 | i::is,h=>by
   have hi:=h i au;obtain ⟨u,hu,ru⟩:=r.get (i:=i) (x:=xs.getD i .non) (by simp [hi]);have e:us.getD i cq = u:=by simp [hu]
   rw [bp,bp,e];exact .cons ru (sr r is λj hj=>h j (ar _ hj))
def Gx {M:Model} {A:aR} {E:af->ah->Prop} {s:ah} {ds:List D} {us:List af} (r:RdL s.heap ds us) (hk:∀ x∈ds,bK x≠0/\bK x = bK (ds.getD 0 .non)) (h2:2<=us.length) {Q:tu->ah->Prop}
 (q:Q (if bK (ds.getD 0 .non) < 3 then oneType' else tuples' true) s):wpAny M A (keyKind' us.toArray) Q E s:=by
 have hl:=r.length
 have all:∀ v∈us,∃ d∈ds,RdV s.heap d v:=by
  have:∀ (ds:List D) (us:List af),RdL s.heap ds us->∀ v∈us,∃ d∈ds,RdV s.heap d v:=by
   intro ds
   induction ds with
   | nil=>intro us r v hv;unfold RdL at r;subst r;cases hv
   | cons d ds ih =>
     intro us r v hv;unfold RdL at r;obtain ⟨w,ws,rfl,r1,r2⟩:=r;rcases aB.mp hv with rfl | hv
     . exact ⟨d,au,r1⟩
     . obtain ⟨d',h1,h2⟩:=ih ws r2 v hv;exact ⟨d',ar _ h1,h2⟩
  exact this ds us r
 generalize hn:bK (ds.getD 0 .non) = n at hk q
 have tups:∀ (T:af) (P:D->Prop),(∀ d,P d->∀ u,RdV s.heap d u->Looks M s.heap (typeOf u) T)->(∀ x∈ds,∃ y r,x = .tup (y::r)/\P y)->∃ fs,KatTups s.heap us fs/\fs.length = us.length/\∀ v∈fs,Looks M s.heap (typeOf v) T:=by
  intro T P hP hx
  have:∀ (ds:List D) (us:List af),RdL s.heap ds us->(∀ x∈ds,∃ y r,x = .tup (y::r)/\P y)->∃ fs,KatTups s.heap us fs/\fs.length = us.length/\∀ v∈fs,Looks M s.heap (typeOf v) T:=by
   intro ds
   induction ds with
   | nil=>intro us r _;unfold RdL at r;subst r;exact ⟨[],KatTups.nil,rfl,λv hv=>by cases hv⟩
   | cons d ds ih =>
     intro us r hx;unfold RdL at r;obtain ⟨w,ws,rfl,r1,r2⟩:=r;obtain ⟨fs,f1,f2,f3⟩:=ih ws r2 λx h=>hx x (ar _ h);obtain ⟨y,rr,rfl,py⟩:=hx d au;unfold RdV at r1;obtain ⟨a,its,rfl,⟨o,h1,hc,m,hd⟩,h3⟩:=r1;unfold RdL at h3;obtain ⟨f,fr,e,g1,g2⟩:=h3;refine ⟨f::fs,KatTups.cons h1 hc hd ?_ f1,by simp [f2],λv hv=>?_⟩
     . have:its.toList[0]? = some f:=by rw [e];rfl
       simpa using this
     . rcases aB.mp hv with rfl | hv
       . exact hP y py _ g1
       . exact f3 v hv
  exact this ds us r hx
 match n,hk,q with
 | 0,hk,q =>
   obtain ⟨x,hx⟩:∃ x,x∈ds:=by
    cases ds with
    | nil=>rw [hl] at h2;simp at h2
    | cons x r=>exact ⟨x,au⟩
   exact absurd (hk x hx).2 (hk x hx).1
 | 1,hk,q =>
   refine kas_kind (T:=.type "str") h2 (λv hv=>?_) ⇑0 ⇑0 q;obtain ⟨d,hd,rd⟩:=all v hv;have:=(hk d hd).2;cases d<;>first | (simp [bK] at this;done) | skip
   . unfold RdV at rd;obtain ⟨t,rfl⟩:=rd;exact mL rfl
   . rename_i l;cases l with
     | nil=>simp [bK] at this
     | cons x r=>cases x<;>simp [bK] at this
 | 2,hk,q =>
   refine kas_kind (T:=.type "int") h2 (λv hv=>?_) ⇑0 ⇑0 q;obtain ⟨d,hd,rd⟩:=all v hv;have:=(hk d hd).2;cases d<;>first | (simp [bK] at this;done) | skip
   . unfold RdV at rd;obtain ⟨t,rfl⟩:=rd;exact mL rfl
   . rename_i l;cases l with
     | nil=>simp [bK] at this
     | cons x r=>cases x<;>simp [bK] at this
 | 3,hk,q =>
   obtain ⟨fs,f1,f2,f3⟩:=tups (.type "str") (λy=>∃ x,y = .str x) (λd ⟨x,e⟩ u rd=>by subst e;unfold RdV at rd;obtain ⟨t,rfl⟩:=rd;exact mL rfl) λx hx=>by
    have:=(hk x hx).2;cases x<;>first | (simp [bK] at this;done) | skip
    rename_i l;cases l with
    | nil=>simp [bK] at this
    | cons x r=>cases x<;>first | (simp [bK] at this;done) | exact ⟨_,_,rfl,_,rfl⟩
   exact kat_kind f1 ∅ f3 ⇑0 q
 | 4,hk,q =>
   obtain ⟨fs,f1,f2,f3⟩:=tups (.type "int") (λy=>∃ x,y = .int x) (λd ⟨x,e⟩ u rd=>by subst e;unfold RdV at rd;obtain ⟨t,rfl⟩:=rd;exact mL rfl) λx hx=>by
    have:=(hk x hx).2;cases x<;>first | (simp [bK] at this;done) | skip
    rename_i l;cases l with
    | nil=>simp [bK] at this
    | cons x r=>cases x<;>first | (simp [bK] at this;done) | exact ⟨_,_,rfl,_,rfl⟩
   exact kat_kind f1 ∅ f3 ⇑0 q
 | m+5,hk,q =>
   obtain ⟨x,hx⟩:∃ x,x∈ds:=by
    cases ds with
    | nil=>rw [hl] at h2;simp at h2
    | cons x r=>exact ⟨x,au⟩
   have:=(hk x hx).2;exfalso;cases x<;>first | (simp [bK] at this;done) | skip
   rename_i l;cases l with
   | nil=>simp [bK] at this
   | cons x r=>cases x<;>simp [bK] at this
def vV:∀ {ds:List D},(∀ x∈ds,dep x < 100000)->cI ds < 100000
 | [],_=>by unfold cI;lia
 | d::ds,h=>by
   have h1:=h d au;have h2:=vV λx hx=>h x (ar _ hx);unfold cI
   lia
def vc (hs:sortable ds = true):cI ds < 100000:=by
 obtain ⟨_,_,hlt⟩:=dB hs;refine vV λx hx=>?_;obtain ⟨b,hb⟩:=hlt x hx x hx;unfold lN at hb;split at hb
 . lia
 . cases hb
def Lk {prog:aO} {w:aZ} {A A':aR} {s:ah} {h':bG} {ds:List D} {its:List af} (hu:A.units+200 < cLine) (hA:A'.units<=A.units+2) (rd:RdL s.heap ds its) (l3:its.length = ds.length) (hs:sortable ds = true)
 (k:∀ b o,s.heap.get? b = some o->h'.get? b = some o) (i j:Nat) (hi:i < its.length) (hj:j < its.length) (C:Bool->ah->Prop) (c:C (jn ds i j) { s with heap:=h' }) :
 kas_ask prog w A' (if bK (ds.getD 0 .non) < 3 then oneType' else tuples' true) its i j C { s with heap:=h' }:=by
 obtain ⟨h64,hk,hlt⟩:=dB hs
 have mem:∀ i,i < its.length->ds.getD i .non∈ds:=λi hi=>by
  have:i < ds.length:=by lia
  rw [dK,aA this];exact kh this
 obtain ⟨b,hb⟩:=hlt _ (mem i hi) _ (mem j hj);have eb:jn ds i j = b:=by unfold jn;rw [hb];rfl
 rw [eb] at c;have ri:=RdV.keep k _ _ (RdL.nth i rd ∅);have rj:=RdV.keep k _ _ (RdL.nth j rd ∅);have ki:=hk _ (mem i hi);have kj:=hk _ (mem j hj);unfold lN at hb;split at hb
 . rename_i hd;unfold kas_ask;generalize ds.getD i .non = x at ri hb hd ki;generalize ds.getD j .non = y at rj hb hd kj;generalize its.getD i cq = u at ri;generalize its.getD j cq = v at rj;generalize bK (ds.getD 0 .non) = n0 at ki kj;by_cases h3:n0 < 3
   . rw [if_pos h3,keyLt'_oneType];refine KS (s:={ s with heap:=h' }) ri rj ?_ hb c;have:=ki.1;have k1:n0 = 1\/n0 = 2:=by lia
     rcases k1 with k1 | k1
     . exact .inl ⟨∅,∅⟩
     . exact .inr ⟨∅,∅⟩
   . rw [if_neg h3]
     have tx:∀ z:D,bK z = n0->∃ p r,z = .tup (p::r)/\((n0 = 3/\bK p = 1)\/(n0 = 4/\bK p = 2)):=λz hz=>by
      cases z<;>first | (simp [bK] at hz;lia) | skip
      rename_i l
      cases l with
      | nil=>simp [bK] at hz;lia
      | cons p r=>cases p<;>first | (simp [bK] at hz;lia) | exact ⟨_,_,rfl,by simp [bK] at hz |-;lia⟩
     obtain ⟨p1,r1,rfl,w1⟩:=tx x ki.2;obtain ⟨p2,r2,rfl,w2⟩:=tx y kj.2;unfold RdV at ri rj;obtain ⟨a1,i1,rfl,⟨o1,g1,c1,m1,d1⟩,t1⟩:=ri;obtain ⟨a2,i2,rfl,⟨o2,g2,c2,m2,d2⟩,t2⟩:=rj;have z1:i1.size = (p1::r1).length:=by simpa using t1.length
     have z2:i2.size = (p2::r2).length:=by simpa using t2.length
     unfold ltD at hb;unfold dep at hd;refine kat_lt (s:={ s with heap:=h' }) g1 d1 g2 d2 (ye (s:={ s with heap:=h' }) (p1::r1) (p2::r2) i1.toList i2.toList 0 t1 t2 ∅ hb (by rw [z1,z2]) (λ_ x y hx hy=>?_) c);cases hx;cases hy;rcases w1 with ⟨e,w1⟩ | ⟨e,w1⟩<;>rcases w2 with ⟨e',w2⟩ | ⟨e',w2⟩<;>first | (exact .inl ⟨w1,w2⟩) | (exact .inr ⟨w1,w2⟩) | lia
 . cases hb
def wo {X:Cx} (hu:X.A.units+200 < cLine):cE X (.builtin "sorted") (λxs H Q=>∃ F ds v,xs = [v]/\dN X.K H F (.lst ds) v/\sortable ds = true/\∀ p ys,H p = none->aK X.K H F (fN ds) ys->Q (.ref p) (upd H p (.lst ys))):=by
 intro pins s σ H xs us Q I r h;obtain ⟨F,ds,v,rfl,rb,hs,q⟩:=h;obtain ⟨a,ws,rfl,hl,rl⟩:=rb.lst;obtain ⟨u,rfl,rx⟩:=vals1 r;cases rx;obtain ⟨its,n,rv,ho,hz⟩:=hl.obj I;obtain ⟨h64,hk,hlt⟩:=dB hs;have rd:=oi I ds ws its rl rv (vc hs);have l1:=rl.length;have l2:=rv.length;have l3:its.length = ds.length:=by lia
 have isl:s.heap.IsList a its.toArray:=⟨_,ho,rfl,n,rfl⟩;have out:gb (jn ds) its = (if its.length < 2 then its else (ans (jn ds) (kas_sort its.length)).toList.map λi=>its.getD i cq):=rfl
 have hlen:(gb (jn ds) its).length = its.length:=by
  rw [out];by_cases h:its.length < 2
  . rw [if_pos h]
  . rw [if_neg h,av,(gK its.length).length_eq,jG]
 have small:∀ i∈(ans (jn ds) (kas_sort its.length)).toList,i < its.length:=λi hi=>by simpa using (gK its.length).mem_iff.mp hi
 -- the values in their new places
 have hv:∃ ys,Vals ys (gb (jn ds) its)/\aK X.K H F (fN ds) ys:=by
  rw [out];unfold fN;by_cases h:its.length < 2
  . rw [if_pos h,if_pos ∅];exact ⟨ws,rv,rl⟩
  . rw [if_neg h,if_neg ∅,<- l3];exact ⟨_,sr rv _ λi hi=>by rw [l2];exact small i hi,su rl _ λi hi=>by rw [<- l3];exact small i hi⟩
 obtain ⟨ys,vy,ry⟩:=hv;refine CD (lt:=jn ds) (κ:=if bK (ds.getD 0 .non) < 3 then oneType' else tuples' true) isl ∅ hlen (λh2 A' h' hA k C c=>?_) (λA' h' hA k i j hi hj C c=>?_) ?_
 . exact Gx (s:={ s with heap:=h' }) (RdL.keep k ds its rd) hk h2 c
 . exact Lk hu hA rd l3 hs k i j hi hj C c
 . obtain ⟨e,he⟩:=sortedAll_at s.heap its (gb (jn ds) its).toArray;refine ⟨.ref (s.heap.objs.size+1),upd H (s.heap.objs.size+1) (.lst ys),I.laid (t':=s.toks) (λb u hb=>sortedAll_old hb) (sI _) ⟨?_,_,e,vy,he⟩,rfl,q _ _ (I.hok.fresh (sI _)) ry⟩;rw [ry.length,tX,cj]
   lia
end PP
end
section
namespace PP
open PySem PySem.W PyProof.Rows
section
variable {prog:aO} {w:aZ} {A:aR} {E:af->ah->Prop} {s:ah}
end
end PP
end
section
namespace PP
open PySem L2 PySem.SeqAt PyProof.Rows PySem.W
variable [Tbs]
end PP
end
section
namespace PP
open PySem L2 PyProof.Rows
variable [Tbs]
section
variable {K:PySem.W.Frag} {cx:Cl} {X:Cx}
def gF (r:Rel K H F d v):RelM false K H F d v:=r
def rC (K:PySem.W.Frag) (op:Cop):R2:=λx y H Q=>∃ F a b k,dN K H F a x/\dN K H F b y/\lO op a b = some k/\Q (.bl k) H
def MS (h:MT p a b = some k):∃ i j,a = .int i/\b = .int j/\k = p i j:=by
 unfold MT at h;split at h
 . cases h;exact ⟨_,_,rfl,rfl,rfl⟩
 . cases h
def Lc (h:inD a b = some k):(∃ ds,(b = .lst ds\/b = .tup ds)/\(dep a<=150/\cI ds < 99999)/\k = ds.any λy=>eqD y a)\/∃ x y,a = .str x/\b = .str y/\k = Nk y x:=by
 unfold inD at h;split at h
 . split at h
   . cases h;exact .inl ⟨_,.inl rfl,‹_›,rfl⟩
   . cases h
 . split at h
   . cases h;exact .inl ⟨_,.inr rfl,‹_›,rfl⟩
   . cases h
 . split at h
   . cases h;exact .inr ⟨_,_,rfl,rfl,rfl⟩
   . cases h
 . cases h
def vD:OpR X (compareOp .NotIn) (λx y H Q=>∃ i j,x = .str i/\y = .str j/\Q (.bl (!Nk j i)) H):=by
 intro pins s σ H x y v u Q I rx ry h;obtain ⟨i,j,rfl,rfl,q⟩:=h;obtain ⟨t,rfl⟩:=rx;obtain ⟨t',rfl⟩:=ry;exact PySem.P.notIn_str ⟨.bl _,H,I,rfl,q⟩
def OpR.imp (h:OpR X f r) (w:∀ x y H Q,r' x y H Q->r x y H Q):OpR X f r':=λpins s σ H x y v u Q I rx ry q=>h pins s σ H x y v u Q I rx ry (w _ _ _ _ q)
def PD (h:isD a b = some k) (ra:dN K H F a x) (rb:dN K H F b y):y = .non/\k = decide (x = .non):=by
 cases b<;>first | (cases h;done) | skip
 cases h;refine ⟨?_,?_⟩
 . rcases rb with r | ⟨_,_,_,e,_⟩
   . unfold Rel at r;exact r
   . cases e
 . rcases ra with r | ⟨_,_,_,rfl,rfl,_⟩
   . cases a<;>unfold Rel at r<;>first | (subst r;rfl) | (obtain ⟨_,_,rfl,_⟩:=r;rfl) | exact r.elim
   . rfl
def PB (h:leD a b = some k):(∃ i j,a = .int i/\b = .int j/\k = decide (i<=j))\/∃ i j,a = .str i/\b = .str j/\k = !decide (j.cps.toList < i.cps.toList):=by
 unfold leD at h;split at h
 . cases h;exact .inl ⟨_,_,rfl,rfl,rfl⟩
 . cases h;exact .inr ⟨_,_,rfl,rfl,rfl⟩
 . cases h
def CS:OpR X (compareOp .LtE) (λx y H Q=>∃ i j,x = .str i/\y = .str j/\Q (.bl (!decide (j.cps.toList < i.cps.toList))) H):=by
 intro pins s σ H x y v u Q I rx ry h;obtain ⟨i,j,rfl,rfl,q⟩:=h;obtain ⟨t,rfl⟩:=rx;obtain ⟨t',rfl⟩:=ry;exact PySem.P.le_str ⟨.bl _,H,I,rfl,q⟩
def opC (hu:X.A.units+200 < cLine) (ho:BG op o = true):OpR X (compareOp o) (rC X.K op):=by
 cases op<;>cases o<;>first | (exact absurd ho ao) | skip
 . exact OpR.imp (MX hu) λx y H Q ⟨F,a,b,k,ra,rb,e,q⟩=>⟨F,a,b,k,ra,rb,e,q⟩
 . refine OpR.imp (Pp.or CS) λx y H Q zz=>?_;obtain ⟨F,a,b,k,ra,rb,e,q⟩:=zz;rcases PB e with ⟨i,j,rfl,rfl,rfl⟩ | ⟨i,j,rfl,rfl,rfl⟩
   . exact .inl ⟨i,j,ra.int,rb.int,q⟩
   . exact .inr ⟨i,j,ra.str,rb.str,q⟩
 . refine OpR.imp Pq λx y H Q zz=>?_;obtain ⟨F,a,b,k,ra,rb,e,q⟩:=zz;obtain ⟨i,j,rfl,rfl,rfl⟩:=MS e;exact ⟨i,j,ra.int,rb.int,q⟩
 . refine OpR.imp ((Na hu).or Pr) λx y H Q zz=>?_;obtain ⟨F,a,b,k,ra,rb,e,q⟩:=zz;change (if ij a b = true then some (eqD a b) else if Px a b = true then some false else none) = some k at e;split at e
   . cases e;exact .inl ⟨F,a,b,ra,rb,‹_›,q⟩
   . split at e
     . rename_i hm;cases e;cases a<;>cases b<;>first | (cases hm;done) | skip
       . rw [ra.int,rb.str];exact .inr ⟨rfl,q⟩
       . rw [ra.str,rb.int];exact .inr ⟨rfl,q⟩
     . cases e
 . refine OpR.imp (MV hu) λx y H Q zz=>?_;obtain ⟨F,a,b,k,ra,rb,e,q⟩:=zz;change (if ij a b = true then some (!eqD a b) else none) = some k at e;split at e
   . cases e;exact ⟨F,a,b,ra,rb,‹_›,q⟩
   . cases e
 . intro pins s σ H x y v u Q I rx ry h;obtain ⟨F,a,b,k,ra,rb,e,q⟩:=h;rcases Lc e with ⟨ds,hb,hd,rfl⟩ | ⟨x',y',rfl,rfl,rfl⟩
   . refine MZ hu pins s σ H x y v u Q I rx ry ⟨F,a,ds,ra,?_,hd,q⟩;rcases hb with rfl | rfl
     . exact .inl rb
     . exact .inr rb
   . exact CT pins s σ H x y v u Q I rx ry ⟨x',y',ra.str,rb.str,q⟩
 . intro pins s σ H x y v u Q I rx ry h;obtain ⟨F,a,b,k,ra,rb,e,q⟩:=h;change (inD a b).map (!·) = some k at e;rw [aJ] at e;obtain ⟨k',e,rfl⟩:=e;rcases Lc e with ⟨ds,hb,hd,rfl⟩ | ⟨x',y',rfl,rfl,rfl⟩
   . refine CQ hu pins s σ H x y v u Q I rx ry ⟨F,a,ds,ra,?_,hd,q⟩;rcases hb with rfl | rfl
     . exact .inl rb
     . exact .inr rb
   . exact vD pins s σ H x y v u Q I rx ry ⟨x',y',ra.str,rb.str,q⟩
 . refine OpR.imp MY λx y H Q zz=>?_;obtain ⟨F,a,b,k,ra,rb,e,q⟩:=zz;obtain ⟨e1,e2⟩:=PD e ra rb;exact ⟨e1,e2▸q⟩
def NX (ev:evE cx (.cmp op a b) δ = some (d,δ')):∃ x δ1 y k,evE cx a δ = some (x,δ1)/\evE cx b δ1 = some (y,δ')/\lO op x y = some k/\d = .bl k:=by
 simp only [evE,ag,aj] at ev;obtain ⟨⟨x,δ1⟩,ea,⟨y',δ2⟩,eb,k,hd,e⟩:=ev;cases e;exact ⟨x,δ1,y',k,ea,eb,hd,rfl⟩
def Kj (ev:evT cx (.cmp op a b) δ = some (k,δ')):∃ x δ1 y,evE cx a δ = some (x,δ1)/\evE cx b δ1 = some (y,δ')/\lO op x y = some k:=by
 simp only [evT,ag,aj] at ev;obtain ⟨⟨x,δ1⟩,ea,⟨y',δ2⟩,eb,k,hd,e⟩:=ev;cases e;exact ⟨x,δ1,y',ea,eb,hd⟩
def IK (hu:X.A.units+200 < cLine) (ho:BG op o = true) (pc:(!bY a || np b) = true) (ha:PE X y (tE X.K cx a)) (hb:PE X z (tE X.K cx b)) (hm:behindInMarks o z = false) :
 PE X (.Compare y [o] [z] pos) (tE X.K cx (.cmp op a b)):=by
 refine PE.imp (Jr (opC hu ho) ha hb hm) λσ H Q h=>?_;obtain ⟨G,F,δ,d,δ',ok,ev,post⟩:=h;obtain ⟨x,δ1,y',k,ea,eb,hd,rfl⟩:=NX ev;exact two ok ea eb pc λv u H2 F2 st sm ok2 r1 r2=>⟨F2,x,y',k,r1.b,r2.b,hd,post _ H2 F2 st sm ok2 (gF (mj k))⟩
def EM (hu:X.A.units+200 < cLine) (ho:BG op o = true) (pc:(!bY a || np b) = true) (ha:PE X y (tE X.K cx a)) (hb:PE X z (tE X.K cx b)) (hm:behindInMarks o z = false) :
 PT X (.Compare y [o] [z] pos) (tT X.K cx (.cmp op a b)):=by
 refine PT.imp (Jj (opC hu ho) ha hb hm) λσ H Q h=>?_;obtain ⟨G,F,δ,k,δ',ok,ev,post⟩:=h;obtain ⟨x,δ1,y',ea,eb,hd⟩:=Kj ev;exact two ok ea eb pc λv u H2 F2 st sm ok2 r1 r2=>⟨F2,x,y',k,r1.b,r2.b,hd,k,rfl,post H2 F2 st sm ok2⟩
def eU (n:(!bY e) = true) (h:RelM (bY e) K H F d v):Rel K H F d v:=by
 have e1:bY e = false:=by simpa using n
 rw [e1] at h;exact h
def snd_and (na:(!bY a) = true) (nb:(!bY b) = true) (ha:PE X y (tE X.K cx a)) (hb:PE X (.BoolOp .And (z::r) pos) (tE X.K cx b)):PE X (.BoolOp .And (y::z::r) pos) (tE X.K cx (.and a b)):=by
 refine PE.imp (FP ha hb) λσ H Q h=>?_;obtain ⟨G,F,δ,d,δ',ok,ev,post⟩:=h;simp only [evE,ag,aj] at ev;obtain ⟨⟨x,δ1⟩,ea,ev⟩:=ev;refine ⟨G,F,δ,x,δ1,ok,ea,λv H1 F1 st1 sm1 ok1 r1=>?_⟩;replace r1:=eU na r1;have np1:np (.and a b) = (np a && np b):=rfl
 cases x with
 | bl k =>
   unfold Rel at r1;refine ⟨k,r1,?_⟩
   cases k with
   | true =>
     rw [if_pos rfl];refine ⟨G,F1,δ1,d,δ',ok1,ev,λu H2 F2 st2 sm2 ok2 r2=>post u H2 F2 (st1.trans st2) (λn=>?_) ok2 (gF (eU nb r2))⟩;rw [np1,aa] at n
     exact (sm1 n.1).trans (sm2 n.2)
   | false =>
     rw [if_neg ao];cases ev
     exact post _ H1 F1 st1 (λn=>by rw [np1,aa] at n;exact sm1 n.1) ok1 (gF (mj false))
 | _=>cases ev
def EF (na:(!bY a) = true) (nb:(!bY b) = true) (ha:PE X y (tE X.K cx a)) (hb:PE X (.BoolOp .Or (z::r) pos) (tE X.K cx b)):PE X (.BoolOp .Or (y::z::r) pos) (tE X.K cx (.or a b)):=by
 refine PE.imp (KP ha hb) λσ H Q h=>?_;obtain ⟨G,F,δ,d,δ',ok,ev,post⟩:=h;simp only [evE,ag,aj] at ev;obtain ⟨⟨x,δ1⟩,ea,ev⟩:=ev;refine ⟨G,F,δ,x,δ1,ok,ea,λv H1 F1 st1 sm1 ok1 r1=>?_⟩;replace r1:=eU na r1;have np1:np (.or a b) = (np a && np b):=rfl
 cases x with
 | bl k =>
   unfold Rel at r1;refine ⟨k,r1,?_⟩
   cases k with
   | false =>
     rw [if_neg ao];refine ⟨G,F1,δ1,d,δ',ok1,ev,λu H2 F2 st2 sm2 ok2 r2=>post u H2 F2 (st1.trans st2) (λn=>?_) ok2 (gF (eU nb r2))⟩;rw [np1,aa] at n
     exact (sm1 n.1).trans (sm2 n.2)
   | true =>
     rw [if_pos rfl];cases ev
     exact post _ H1 F1 st1 (λn=>by rw [np1,aa] at n;exact sm1 n.1) ok1 (gF (mj true))
 | _=>cases ev
def IE (na:(!bY a) = true) (ha:PE X y (tE X.K cx a)):PE X (.UnaryOp .Not y pos) (tE X.K cx (.not a)):=by
 refine PE.imp (FI ha) λσ H Q h=>?_;obtain ⟨G,F,δ,d,δ',ok,ev,post⟩:=h;simp only [evE,ag,aj] at ev;obtain ⟨⟨x,δ1⟩,ea,ev⟩:=ev;refine ⟨G,F,δ,x,δ1,ok,ea,λv H1 F1 st1 sm1 ok1 r1=>?_⟩;replace r1:=eU na r1
 cases x with
 | bl k =>
   unfold Rel at r1;cases ev
   exact ⟨k,r1,post _ H1 F1 st1 sm1 ok1 (gF (mj _))⟩
 | _=>cases ev
def PT.pw (h:PT X (.BoolOp op vs pos) t):PW X (.BoolOp op vs pos) t:=λ_ pins s σ H Q I q=>h pins s σ H Q I q
def xm (ha:PT X y (tT X.K cx a)) (hb:PW X (.BoolOp .And (z::r) pos) (tT X.K cx b)):PT X (.BoolOp .And (y::z::r) pos) (tT X.K cx (.and a b)):=by
 refine PT.imp (MD ha hb).pt λσ H Q h=>?_;obtain ⟨G,F,δ,d,δ',ok,ev,post⟩:=h;simp only [evT,ag,aj] at ev;obtain ⟨⟨k,δ1⟩,ea,ev⟩:=ev;have np1:np (.and a b) = (np a && np b):=rfl;refine ⟨G,F,δ,k,δ1,ok,ea,λH1 F1 st1 sm1 ok1=>?_⟩
 cases k with
 | true =>
   rw [if_pos rfl];refine ⟨G,F1,δ1,d,δ',ok1,ev,λH2 F2 st2 sm2 ok2=>post H2 F2 (st1.trans st2) (λn=>?_) ok2⟩;rw [np1,aa] at n
   exact (sm1 n.1).trans (sm2 n.2)
 | false =>
   rw [if_neg ao];cases ev;exact post H1 F1 st1 (λn=>by rw [np1,aa] at n;exact sm1 n.1) ok1
def AH (ha:PT X y (tT X.K cx a)) (hb:PW X (.BoolOp .Or (z::r) pos) (tT X.K cx b)):PT X (.BoolOp .Or (y::z::r) pos) (tT X.K cx (.or a b)):=by
 refine PT.imp (Fu ha hb).pt λσ H Q h=>?_;obtain ⟨G,F,δ,d,δ',ok,ev,post⟩:=h;simp only [evT,ag,aj] at ev;obtain ⟨⟨k,δ1⟩,ea,ev⟩:=ev;have np1:np (.or a b) = (np a && np b):=rfl;refine ⟨G,F,δ,k,δ1,ok,ea,λH1 F1 st1 sm1 ok1=>?_⟩
 cases k with
 | false =>
   rw [if_neg ao];refine ⟨G,F1,δ1,d,δ',ok1,ev,λH2 F2 st2 sm2 ok2=>post H2 F2 (st1.trans st2) (λn=>?_) ok2⟩;rw [np1,aa] at n
   exact (sm1 n.1).trans (sm2 n.2)
 | true =>
   rw [if_pos rfl];cases ev;exact post H1 F1 st1 (λn=>by rw [np1,aa] at n;exact sm1 n.1) ok1
def EL (ha:PT X y (tT X.K cx a)):PT X (.UnaryOp .Not y pos) (tT X.K cx (.not a)):=by
 refine PT.imp (Fw ha) λσ H Q h=>?_;obtain ⟨G,F,δ,d,δ',ok,ev,post⟩:=h;simp only [evT,ag,aj] at ev;obtain ⟨⟨k,δ1⟩,ea,ev⟩:=ev;cases ev;exact ⟨G,F,δ,k,δ1,ok,ea,λH1 F1 st1 sm1 ok1=>post H1 F1 st1 sm1 ok1⟩
def II (na:(!bY a) = true) (nb:(!bY b) = true) (hc:PT X t (tT X.K cx c)) (ha:PE X y (tE X.K cx a)) (hb:PE X z (tE X.K cx b)):PE X (.IfExp t y z pos) (tE X.K cx (.ite c a b)):=by
 refine PE.imp (FL hc ha hb) λσ H Q h=>?_;obtain ⟨G,F,δ,d,δ',ok,ev,post⟩:=h;simp only [evE,ag,aj] at ev;obtain ⟨⟨k,δ1⟩,ea,ev⟩:=ev;have np1:np (.ite c a b) = (np c && np a && np b):=rfl;refine ⟨G,F,δ,k,δ1,ok,ea,λH1 F1 st1 sm1 ok1=>?_⟩
 cases k with
 | true =>
   rw [if_pos rfl];refine ⟨G,F1,δ1,d,δ',ok1,ev,λu H2 F2 st2 sm2 ok2 r2=>post u H2 F2 (st1.trans st2) (λn=>?_) ok2 (gF (eU na r2))⟩;rw [np1,aa,aa] at n
   exact (sm1 n.1.1).trans (sm2 n.1.2)
 | false =>
   rw [if_neg ao];refine ⟨G,F1,δ1,d,δ',ok1,ev,λu H2 F2 st2 sm2 ok2 r2=>post u H2 F2 (st1.trans st2) (λn=>?_) ok2 (gF (eU nb r2))⟩;rw [np1,aa,aa] at n;exact (sm1 n.1.1).trans (sm2 n.2)
def Ok.look (ok:Ok K G F σ H δ) (e:get δ i = some d):∃ v,σ[i]? = some (some v)/\dN K H F d v/\∃ F',Step G F H F' H/\Ok K G F' σ H (PP.demote δ i)/\Rel K H F' d v:=by
 unfold get at e
 cases q:δ[i]? with
 | none=>rw [q] at e;cases e
 | some s =>
   rw [q] at e
   cases s with
   | no=>cases e
   | fnc _ _=>cases e
   | val d' =>
     cases e;obtain ⟨v,e1,r⟩:=ok.sl i _ q;refine ⟨v,e1,.inl r,F,Step.refl,?_,r⟩
     unfold PP.demote;rw [q];exact ok
   | own ds =>
     cases e;obtain ⟨a,xs,e1,h1,h2,h3,h4⟩:=ok.sl i _ q;obtain ⟨o1,o2⟩:=ok.demote (d:=.lst ds) q rfl e1;refine ⟨.ref a,e1,.inr ⟨a,xs,ds,rfl,rfl,h3,h4⟩,λb=>F b/\b≠a,⟨λ_ _ _ z _=>z,λb z=>.inl z.1,λb o r z e=>⟨⟨z,λw=>h2.2 (by rw [<- w];exact r)⟩,e⟩,λ_ ps e=>⟨ps,e⟩⟩,?_,o2⟩;unfold PP.demote;rw [q];exact o1
def Ok.lookV (ok:Ok K G F σ H δ) (e:GV δ i = some d):∃ v,σ[i]? = some (some v)/\∃ F',Step G F H F' H/\Ok K G F' σ H (PP.demote δ i)/\Rel K H F' d v:=by
 obtain ⟨v,e1,_,h⟩:=ok.look (by unfold GV at e;exact e);exact ⟨v,e1,h⟩
def Iz (hN:X.N[i]? = some x) (hv:Vis X.env.scope x) (hd:(x == ("__debug__":Str)) = false) (hcd:(x == ("__classdict__":Str)) = false):PE X (.Name x pos) (tE X.K cx (.var i)):=by
 refine PE.imp (iK hN hv hd hcd) λσ H Q h=>?_;obtain ⟨G,F,δ,d,δ',ok,ev,post⟩:=h;simp only [evE,ag,aj] at ev;obtain ⟨d',e1,e⟩:=ev;cases e;obtain ⟨v,ev,F',st,ok',r⟩:=ok.lookV e1;exact ⟨v,ev,post v H F' st (λ_=>Sim.refl H) ok' (gF r)⟩
def Mf (hN:X.N[i]? = some x) (hv:Vis X.env.scope x) (hd:(x == ("__debug__":Str)) = false) (hcd:(x == ("__classdict__":Str)) = false):PE X (.Name x pos) (tE X.K cx (.pk i)):=by
 refine PE.imp (iK hN hv hd hcd) λσ H Q h=>?_;obtain ⟨G,F,δ,d,δ',ok,ev,post⟩:=h;simp only [evE,ag,aj] at ev;obtain ⟨d',e1,e⟩:=ev;cases e;obtain ⟨v,ev,rb,_⟩:=ok.look e1;exact ⟨v,ev,post v H F Step.refl (λ_=>Sim.refl H) ok rb⟩
def zu (r:dN K H F d v) (e:tv d = some k):Ot K v H k:=by
 cases d with
 | non=>cases e;rcases r with r | ⟨_,_,_,z,_⟩;(unfold Rel at r;subst r;rfl);cases z
 | bl b=>cases e;have:=r.bl;subst this;rfl
 | int i=>cases e;have:=r.int;subst this;rfl
 | str x =>
   change (if x.length<=sizeLine then some ((x.length:Int) != 0) else none) = some k at e;split at e
   . cases e;have:=r.str;subst this;exact ⟨‹_›,rfl⟩
   . cases e
 | lst ds =>
   cases e;obtain ⟨a,xs,rfl,h1,h2⟩:=r.lst;refine .inl ⟨xs,h1.sq,?_⟩;have:=h2.length
   cases ds<;>cases xs<;>first | rfl | (simp at this)
 | tup ds =>
   cases e;obtain ⟨a,xs,rfl,h1,h2⟩:=r.tup;refine .inr ⟨xs,h1,?_⟩;have:=h2.length
   cases ds<;>cases xs<;>first | rfl | (simp at this)
 | fn _ _=>cases e
def xl (he:e = .var i\/e = .pk i) (hN:X.N[i]? = some x) (hv:Vis X.env.scope x) (hd:(x == ("__debug__":Str)) = false) (hcd:(x == ("__classdict__":Str)) = false):PT X (.Name x pos) (tT X.K cx e):=by
 refine PT.imp (qQ (iK hN hv hd hcd) λ_=>rfl) λσ H Q h=>?_;obtain ⟨G,F,δ,k,δ',ok,ev,post⟩:=h
 have ev':∃ d,get δ i = some d/\tv d = some k/\δ = δ':=by
  rcases he with rfl | rfl
  . simp only [evT,ag,aj] at ev;obtain ⟨d,e1,k',e2,e⟩:=ev;cases e;exact ⟨d,e1,e2,rfl⟩
  . simp only [evT,ag,aj] at ev;obtain ⟨d,e1,k',e2,e⟩:=ev;cases e;exact ⟨d,e1,e2,rfl⟩
 obtain ⟨d,e1,e2,rfl⟩:=ev';obtain ⟨v,ev,rb,_⟩:=ok.look e1;exact ⟨v,ev,k,zu rb e2,post H F Step.refl (λ_=>Sim.refl H) ok⟩
def IJ:PE X (.Constant (.int i) j pos) (tE X.K cx (.int i)) :=
 PE.imp FK λσ H Q ⟨G,F,δ,d,δ',ok,ev,post⟩=>by cases ev;exact post _ H F Step.refl (λ_=>Sim.refl H) ok (gF (dC i))
def Mi:PE X (.Constant (.bool i) j pos) (tE X.K cx (.bl i)) :=
 PE.imp Po λσ H Q ⟨G,F,δ,d,δ',ok,ev,post⟩=>by cases ev;exact post _ H F Step.refl (λ_=>Sim.refl H) ok (gF (mj i))
def IB:PE X (.Constant (.str i) j pos) (tE X.K cx (.str i)) :=
 PE.imp zL λσ H Q ⟨G,F,δ,d,δ',ok,ev,post⟩=>by cases ev;exact post _ H F Step.refl (λ_=>Sim.refl H) ok (gF (iY i))
def IF:PE X (.Constant .none j pos) (tE X.K cx .non) :=
 PE.imp MO λσ H Q ⟨G,F,δ,d,δ',ok,ev,post⟩=>by cases ev;exact post _ H F Step.refl (λ_=>Sim.refl H) ok (gF AO)
def EH (hg:Gl X x) (hm:X.mg x = some u) (r:RelV v u) (hr:∀ d,cx.gl[g]? = some d->∀ H F,Rel X.K H F d v) (hd:(x == ("__debug__":Str)) = false):PE X (.Name x pos) (tE X.K cx (.glob g)):=by
 refine PE.imp (Jq hg hm r hd) λσ H Q h=>?_;obtain ⟨G,F,δ,d,δ',ok,ev,post⟩:=h;simp only [evE,ag,aj] at ev;obtain ⟨d',e1,e⟩:=ev;cases e;exact post v H F Step.refl (λ_=>Sim.refl H) ok (gF (hr d e1 H F))
def IG (n:(!bY a) = true) (ha:PE X y (tE X.K cx a)):PE X (.UnaryOp .USub y pos) (tE X.K cx (.neg a)):=by
 refine PE.imp (Pm LS ha) λσ H Q h=>?_;obtain ⟨G,F,δ,d,δ',ok,ev,post⟩:=h;simp only [evE,ag,aj] at ev;obtain ⟨⟨x,δ1⟩,ea,ev⟩:=ev
 cases x with
 | int i =>
   cases ev;refine ⟨G,F,δ,_,_,ok,ea,λv H1 F1 st sm ok1 r=>?_⟩;have:=r.b.int;subst this
   exact ⟨i,rfl,post _ H1 F1 st sm ok1 (gF (dC _))⟩
 | _=>cases ev
end
section
variable {K:PySem.W.Frag} {cx:Cl} {X:Cx}
def vf:PA X [] (tEs X.K cx .nil):=by
 refine λpos pins s σ H Q I h=>ia pos pins s σ H Q I ?_;obtain ⟨G,F,δ,ds,δ',ok,ev,post⟩:=h;simp only [eH] at ev;cases ev;exact post [] H F Step.refl (λ_=>Sim.refl H) ok ⟨rfl,rfl⟩
def qI (pc:(!bY a || npS es) = true) (ha:PE X y (tE X.K cx a)) (hr:PA X ys (tEs X.K cx es)) (hs:starEach (y::ys) X.env = (false,eval y X.env)::starEach ys X.env):PA X (y::ys) (tEs X.K cx (.cons a es)):=by
 refine λpos pins s σ H Q I h=>eZ ha hr hs pos pins s σ H Q I ?_;obtain ⟨G,F,δ,ds,δ',ok,ev,post⟩:=h;simp only [eH,ag,aj] at ev;obtain ⟨⟨x,δ1⟩,ea,⟨ds',δ2⟩,eb,e⟩:=ev;cases e;refine ⟨G,F,δ,x,δ1,ok,ea,λv H1 F1 st1 sm1 ok1 r1=>⟨G,F1,δ1,ds',δ2,ok1,eb,λvs H2 F2 st2 sm2 ok2 r2=>?_⟩⟩;refine post (v::vs) H2 F2 (st1.trans st2) (λz=>?_) ok2 ⟨x,ds',v,vs,rfl,rfl,RelM.step ok1.fd st2 (λz=>sm2 (by rw [z] at pc;simpa using pc)) r1,r2⟩;have z':(np a && npS es) = true:=z;rw [aa] at z';exact (sm1 z'.1).trans (sm2 z'.2)
def pz.rl:∀ {es:Es} {ds:List D} {vs:List V},jR es = true->pz K H F es ds vs->aK K H F ds vs
 | .nil,ds,vs,_,h=>by obtain ⟨rfl,rfl⟩:=h;exact aK.nil
 | .cons e es,ds,vs,n,h=>by
   obtain ⟨d,ds',v,vs',rfl,rfl,h1,h2⟩:=h;have n':(!bY e && jR es) = true:=n;rw [aa] at n';exact aK.cons (eU n'.1 h1) (pz.rl n'.2 h2)
def BR (K:PySem.W.Frag) (H:Hp) (F:aq->Prop):List D->List V->Prop
 | [],vs=>vs = []
 | d::ds,vs=>∃ v vs',vs = v::vs'/\dN K H F d v/\BR K H F ds vs'
def pz.bl:∀ {es:Es} {ds:List D} {vs:List V},pz K H F es ds vs->BR K H F ds vs
 | .nil,ds,vs,h=>by obtain ⟨rfl,rfl⟩:=h;rfl
 | .cons e es,ds,vs,h=>by
   obtain ⟨d,ds',v,vs',rfl,rfl,h1,h2⟩:=h;exact ⟨v,vs',rfl,h1.b,pz.bl h2⟩
def yj {f:List D->Option D} {es:Es} {δ δ':Loc} {d:D} (ev:(do let (ds,δ1) <- eH cx es δ;return (<- f ds,δ1)) = some (d,δ')):∃ ds,eH cx es δ = some (ds,δ')/\f ds = some d:=by
 simp only [ag,aj] at ev;obtain ⟨⟨ds,δ1⟩,ea,d',hd,e⟩:=ev;cases e;exact ⟨ds,ea,hd⟩
def IA (n:jR es = true) (h:PA X xs (tEs X.K cx es)):PE X (.Tuple xs k pos) (tE X.K cx (.tup es)):=by
 refine PE.imp (MN h) λσ H Q h=>?_;obtain ⟨G,F,δ,d,δ',ok,ev,post⟩:=h;simp only [evE,ag,aj] at ev;obtain ⟨⟨ds,δ1⟩,ea,ev⟩:=ev;split at ev
 . rename_i hz;cases ev;refine ⟨G,F,δ,ds,δ1,ok,ea,λvs H1 F1 st1 sm1 ok1 r1=>?_⟩;have r:=r1.rl n;refine ⟨by rw [r.length];exact hz,λp hp=>?_⟩;obtain ⟨o1,o2,o3,o4⟩:=ok1.laid hp (.tup vs);exact post _ _ _ (st1.trans o2) (λz=>(sm1 z).trans o3) o1 (gF (mh ok1 hp r))
 . cases ev
def IH (n:jR es = true) (h:PA X xs (tEs X.K cx es)):PE X (.List xs pos) (tE X.K cx (.lst es)):=by
 refine PE.imp (zN h) λσ H Q h=>?_;obtain ⟨G,F,δ,d,δ',ok,ev,post⟩:=h;simp only [evE,ag,aj] at ev;obtain ⟨⟨ds,δ1⟩,ea,ev⟩:=ev;split at ev
 . rename_i hz;cases ev;refine ⟨G,F,δ,ds,δ1,ok,ea,λvs H1 F1 st1 sm1 ok1 r1=>?_⟩;have r:=r1.rl n;refine ⟨by rw [r.length];exact hz,λp hp=>?_⟩;obtain ⟨o1,o2,o3,o4⟩:=ok1.laid hp (.lst vs);exact post _ _ _ (st1.trans o2) (λz=>(sm1 z).trans o3) o1 (gF (mi ok1 hp r))
 . cases ev
def aK.at {H:Hp} {F:aq->Prop} {ds:List D} {xs:List V} {i:Int} {d:D} (h:aK K H F ds xs) (e:atI ds i = some d):∃ v,atI xs i = some v/\Rel K H F d v:=by
 unfold atI at e |-;rw [h.length]
 cases q:ixN ds.length i with
 | none=>rw [q] at e;cases e
 | some j =>
   rw [q] at e;exact h.get e
def Mg (pc:(!bY a || np b) = true) (ha:PE X y (tE X.K cx a)) (hb:PE X z (tE X.K cx b)) (hp:PlainIx z):PE X (.Subscript y z pos) (tE X.K cx (.ix a b)):=by
 refine PE.imp (Pn NH ha hb hp) λσ H Q h=>?_;obtain ⟨G,F,δ,d,δ',ok,ev,post⟩:=h;simp only [evE,ag,aj] at ev;obtain ⟨⟨x,δ1⟩,ea,⟨y',δ2⟩,eb,d',hd,e⟩:=ev;cases e;dsimp only at eb hd post;refine two ok ea eb pc λv u H2 F2 st sm ok2 r1 r2=>?_;unfold ixD at hd;split at hd
 . have e2:=r2.b.int;obtain ⟨p,xs,e1,h1,h2⟩:=r1.b.lst;obtain ⟨w,hw,rw'⟩:=h2.at hd;exact .inl ⟨p,xs,_,w,e1,e2,h1.sq,hw,post _ _ _ st sm ok2 (gF rw')⟩
 . have e2:=r2.b.int;obtain ⟨p,xs,e1,h1,h2⟩:=r1.b.tup;obtain ⟨w,hw,rw'⟩:=h2.at hd;exact .inr (.inl ⟨p,xs,_,w,e1,e2,h1,hw,post _ _ _ st sm ok2 (gF rw')⟩)
 . have e2:=r2.b.int;have e1:=r1.b.str;split at hd
   . rename_i hz;rw [aJ] at hd;obtain ⟨c,hc,rfl⟩:=hd;exact .inr (.inr ⟨_,_,c,e1,e2,hz,hc,post _ _ _ st sm ok2 (gF (iY _))⟩)
   . cases hd
 . cases hd
def KH (h:∀ e,o = .yes e->∃ y,l = some y/\(!bY e) = true/\PE X y (tE X.K cx e)) (hn:o = .no->l = none):PO X l (tO X.K cx o):=by
 cases o with
 | no =>
   rw [hn rfl];intro pins s σ H Q I q;refine Jl pins s σ H Q I ?_;obtain ⟨G,F,δ,d,δ',ok,ev,post⟩:=q;simp only [evO] at ev;cases ev
   exact post H F Step.refl (λ_=>Sim.refl H) ok
 | yes e =>
   obtain ⟨y,rfl,n,hy⟩:=h e rfl;intro pins s σ H Q I q;refine Jk hy pins s σ H Q I ?_;obtain ⟨G,F,δ,d,δ',ok,ev,post⟩:=q;simp only [evO,ag,aj] at ev;obtain ⟨⟨x,δ1⟩,ea,ev⟩:=ev
   cases x with
   | int i =>
     cases ev
     exact ⟨G,F,δ,.int i,δ',ok,ea,λv H1 F1 st1 sm1 ok1 r1=>⟨i,by have:=eU n r1;unfold Rel at this;exact this,post H1 F1 st1 sm1 ok1⟩⟩
   | _=>cases ev
def Me {a:E} {lo hi:Eo} {y:aG} {l h:Option aG} {pos p2:Pos} (pc:(!bY a || (npO lo && npO hi)) = true) (ha:PE X y (tE X.K cx a)) (hl:PO X l (tO X.K cx lo)) (hh:PO X h (tO X.K cx hi)):PE X (.Subscript y (.Slice l h none p2) pos) (tE X.K cx (.sl a lo hi)):=by
 refine PE.imp (xO (AJ.or (Mp.or Mq)) ha hl hh) λσ H Q h=>?_;obtain ⟨G,F,δ,d,δ',ok,ev,post⟩:=h;simp only [evE,ag,aj] at ev;obtain ⟨⟨x,δ1⟩,ea,⟨l',δ2⟩,eb,⟨h',δ3⟩,ec,d',hd,e⟩:=ev;cases e;dsimp only at eb ec hd post;refine ⟨G,F,δ,x,δ1,ok,ea,λv H1 F1 st1 sm1 ok1 r1=>⟨G,F1,δ1,l',δ2,ok1,eb,λH2 F2 st2 sm2 ok2=>⟨G,F2,δ2,h',δ3,ok2,ec,λH3 F3 st3 sm3 ok3=>?_⟩⟩⟩;have st:=st2.trans st3
 have rb:dN X.K H3 F3 x v:=by
  refine (RelM.step ok1.fd st (λz=>?_) r1).b;rw [z] at pc;have pc':(npO lo && npO hi) = true:=by simpa using pc
  rw [aa] at pc';exact (sm2 pc'.1).trans (sm3 pc'.2)
 have fin:∀ w H4,iO H3 H4->Ok X.K G F3 σ H4 δ3->Rel X.K H4 F3 d w->Q w H4:=λw H4 s4 o4 r4=>post w H4 F3 ((st1.trans st).trans (Step.of_same s4)) (λz=>by
  have z':(np a && npO lo && npO hi) = true:=z;rw [aa,aa] at z';exact (((sm1 z'.1.1).trans (sm2 z'.1.2)).trans (sm3 z'.2)).trans (.of s4)) o4 (gF r4)
 unfold slD at hd;split at hd
 . cases hd;obtain ⟨p,xs,e1,h1,h2⟩:=rb.lst;refine .inl ⟨p,xs,e1,h1.sq,λq hq=>?_⟩;obtain ⟨o1,o2,o3,o4⟩:=ok3.laid hq (.lst (sU xs l' h'));exact fin _ _ (cB hq _) o1 (mi ok3 hq (h2.cut l' h'))
 . split at hd
   . cases hd
   . rename_i hw;cases hd;obtain ⟨p,xs,e1,h1,h2⟩:=rb.tup;refine .inr (.inl ⟨p,xs,e1,h1,by rw [h2.length];exact hw,λq hq=>?_⟩);obtain ⟨o1,o2,o3,o4⟩:=ok3.laid hq (.tup (sU xs l' h'));exact fin _ _ (cB hq _) o1 (mh ok3 hq (h2.cut l' h'))
 . split at hd
   . cases hd;have e1:=rb.str;subst e1;exact .inr (.inr ⟨_,rfl,‹_›,fin _ _ (λb o e=>e) ok3 (iY _)⟩)
   . cases hd
 . cases hd
def spF (K:PySem.W.Frag) (f:List D->Option D):Sp:=λvs H Q _=>∃ F ds d,FD F H/\TF F/\kY H/\aK K H F ds vs/\f ds = some d/\∀ v H',Sim H H'->kY H'->Rel K H' F d v->Q v H'
def EJ {f:Nat} {es:Es} {x:Str} {y:aG} {ys:List aG} {k:Nat} {a:aq} {fd:dU} {ps:List Str} {p pos:Pos} (n:jR es = true) (fn:gM X.prog X.w X.K X.mg X.base CX0 k a fd ps (spF X.K (cx.call f))) (hr:kv k X.A) (hg:Gl X x)
 (hm:X.mg x = some (.ref a)) (hk:PySem.W.keepIn X.K (.ref a) = true) (hb:Binds X.K fd ps []) (hA:PA X (y::ys) (tEs X.K cx es)) (hd:(x == ("__debug__":Str)) = false) (he:starEach (y::ys) X.env = (false,eval y X.env)::starEach ys X.env) (hpl:(backTo pos (starEach ys X.env)).any (·.1) = false) :
 PE X (.Call (.Name x p) (y::ys) [] pos) (tE X.K cx (.call f es)):=by
 refine PE.imp (AZ fn hr hg hm hk hb .nil (KR) hA hd he hpl) λσ H Q h=>?_;obtain ⟨G,F,δ,d,δ',ok,ev,post⟩:=h;simp only [evE] at ev;obtain ⟨ds,ea,hd⟩:=yj ev;refine ⟨G,F,δ,ds,δ',ok,ea,λvs H1 F1 st1 sm1 ok1 r1=>?_⟩;show spF X.K (cx.call f) (vs++[]) H1 Q E0;rw [bw];exact ⟨F1,ds,d,ok1.fd,ok1.tf,ok1.tabs,r1.rl n,hd,λv H2 s2 t2 r2=>post v H2 F1 (st1.trans (ok1.call s2 t2).2) (λz=>(sm1 z).trans s2) (ok1.call s2 t2).1 (gF r2)⟩
def pR {e:E} {x:aG} {es:Es} {f:List D->Option D} (hE:PE X x (tE X.K cx e)) (he:∀ whole,isTrue x X.env whole = (do let v <- whole;standAt x.pos;holding [v] (truthy v))) (n:bY e = false)
 (e1:∀ δ,evE cx e δ = (do let (ds,δ1) <- eH cx es δ;return (<- f ds,δ1))) (e2:∀ δ,evT cx e δ = (do let (ds,δ1) <- eH cx es δ;let d <- f ds;return (<- tv d,δ1))):PT X x (tT X.K cx e):=by
 refine PT.imp (qQ hE he) λσ H Q h=>?_;obtain ⟨G,F,δ,k,δ',ok,ev,post⟩:=h;rw [e2] at ev;simp only [ag,aj] at ev;obtain ⟨⟨ds,δ1⟩,ea,d,hd,k',hk,e⟩:=ev;cases e;refine ⟨G,F,δ,d,δ1,ok,?_,λv H1 F1 st1 sm1 ok1 r1=>⟨k,zu r1.b hk,post H1 F1 st1 sm1 ok1⟩⟩;rw [e1];simp only [ag,aj];exact ⟨(ds,δ1),ea,d,hd,rfl⟩
def EK (hE:PE X x (tE X.K cx e)) (he:∀ whole,isTrue x X.env whole = (do let v <- whole;standAt x.pos;holding [v] (truthy v))) (e2:∀ δ k δ',evT cx e δ = some (k,δ')->∃ d,evE cx e δ = some (d,δ')/\tv d = some k):PT X x (tT X.K cx e) :=
 PT.imp (qQ hE he) λσ H Q ⟨G,F,δ,k,δ',ok,ev,post⟩=>let ⟨d,e1,e3⟩:=e2 _ _ _ ev;⟨G,F,δ,d,δ',ok,e1,λv H1 F1 st1 sm1 ok1 r1=>⟨k,zu r1.b e3,post H1 F1 st1 sm1 ok1⟩⟩
def rB (K:PySem.W.Frag) (f:List D->Option D):List V->Hp->VK->Prop:=λxs H Q=>∃ F ds d,FD F H/\BR K H F ds xs/\f ds = some d/\∀ v H',iO H H'->Rel K H' F d v->Q v H'
def cE.imp {f:af} {r r':List V->Hp->VK->Prop} (h:cE X f r) (w:∀ xs H Q,r' xs H Q->r xs H Q):cE X f r':=λpins s σ H xs us Q I rv q=>h pins s σ H xs us Q I rv (w _ _ _ q)
def b1 (h:BR K H F [d] xs):∃ v,xs = [v]/\dN K H F d v:=by
 obtain ⟨v,vs,rfl,h1,h2⟩:=h;cases h2;exact ⟨v,rfl,h1⟩
def uk (fd:FD F H) (hp:H p = none):¬ F p:=fd.none hp
def Od:cE X (.builtin "len") (rB X.K JM):=by
 refine cE.imp (wu.or wt) λxs H Q zz=>?_;obtain ⟨F,ds,d,fd,r,e,q⟩:=zz;unfold JM at e;split at e
 . split at e
   . cases e;obtain ⟨v,rfl,rv⟩:=b1 r;exact .inr ⟨_,by rw [rv.str],‹_›,q _ _ (iO.refl H) (dC _)⟩
   . cases e
 . cases e;obtain ⟨v,rfl,rv⟩:=b1 r;obtain ⟨a,ys,rfl,h1,h2⟩:=rv.lst;exact .inl ⟨a,ys,rfl,.inl h1.sq,by rw [h2.length];exact q _ _ (iO.refl H) (dC _)⟩
 . cases e;obtain ⟨v,rfl,rv⟩:=b1 r;obtain ⟨a,ys,rfl,h1,h2⟩:=rv.tup;exact .inl ⟨a,ys,rfl,.inr h1,by rw [h2.length];exact q _ _ (iO.refl H) (dC _)⟩
 . cases e
def Dv:cE X (.type "int") (λxs H Q=>∃ x n,xs = [.str x]/\PySem.intText? x = some n/\x.length<=640/\Q (.int n) H):=by
 intro pins s σ H xs us Q I rv h;obtain ⟨x,n,rfl,h1,h2,q⟩:=h;obtain ⟨u,rfl,ru⟩:=rv.one;obtain ⟨t,rfl⟩:=ru;exact PySem.W.KIN.call_text h1 h2 ⟨.int n,H,I.tok _,⟨_,rfl⟩,q⟩
def Oe:cE X (.type "int") (rB X.K uX):=by
 refine cE.imp (Dw.or Dv) λxs H Q zz=>?_;obtain ⟨F,ds,d,fd,r,e,q⟩:=zz;unfold uX at e;split at e
 . cases e;obtain ⟨v,rfl,r1⟩:=b1 r;exact .inl (.inl ⟨_,by rw [r1.int],q _ _ (iO.refl H) (dC _)⟩)
 . cases e;obtain ⟨v,rfl,r1⟩:=b1 r;exact .inl (.inr ⟨_,by rw [r1.bl],q _ _ (iO.refl H) (dC _)⟩)
 . split at e
   . rw [aJ] at e;obtain ⟨n,e1,rfl⟩:=e;obtain ⟨v,rfl,r1⟩:=b1 r;exact .inr ⟨_,n,by rw [r1.str],e1,‹_›,q _ _ (iO.refl H) (dC _)⟩
   . cases e
 . cases e
def tW (h:iO H H'):Step g0 F H F H':=Step.of_same h
def Oa:cE X (.type "tuple") (rB X.K uW):=by
 refine cE.imp sW λxs H Q zz=>?_;obtain ⟨F,ds,d,fd,r,e,q⟩:=zz;unfold uW at e;split at e
 . cases e;obtain ⟨v,rfl,r1⟩:=b1 r;obtain ⟨a,ys,rfl,h1,h2⟩:=r1.lst;refine ⟨a,ys,rfl,.inl ⟨h1.sq,λl hl=>q _ _ (cB hl _) ?_⟩⟩;unfold Rel;exact ⟨l,ys,rfl,SqT.of cm,aK.step fd (tW (cB hl _)) _ _ h2⟩
 . cases e;obtain ⟨v,rfl,r1⟩:=b1 r;obtain ⟨a,ys,rfl,h1,h2⟩:=r1.tup;refine ⟨a,ys,rfl,.inr ⟨h1,q _ _ (iO.refl H) ?_⟩⟩;unfold Rel;exact ⟨a,ys,rfl,h1,h2⟩
 . cases e
def Oc:cE X (.type "list") (rB X.K nZ):=by
 refine cE.imp nG λxs H Q zz=>?_;obtain ⟨F,ds,d,fd,r,e,q⟩:=zz;unfold nZ at e;split at e
 . cases e;obtain ⟨v,rfl,r1⟩:=b1 r;obtain ⟨a,ys,rfl,h1,h2⟩:=r1.lst;refine ⟨a,ys,rfl,.inl h1.sq,λl hl=>q _ _ (cB hl _) ?_⟩;unfold Rel;exact ⟨l,ys,rfl,.inl ⟨.inl cm,uk fd hl⟩,aK.step fd (tW (cB hl _)) _ _ h2⟩
 . cases e;obtain ⟨v,rfl,r1⟩:=b1 r;obtain ⟨a,ys,rfl,h1,h2⟩:=r1.tup;refine ⟨a,ys,rfl,.inr h1,λl hl=>q _ _ (cB hl _) ?_⟩;unfold Rel;exact ⟨l,ys,rfl,.inl ⟨.inl cm,uk fd hl⟩,aK.step fd (tW (cB hl _)) _ _ h2⟩
 . cases e
def oz:∀ {ds:List D} {ns:List Int} {xs:List V},uu ds = some ns->aK K H F ds xs->xs = ns.map V.int
 | [],ns,xs,e,r=>by cases e;unfold aK at r;exact r
 | d::ds,ns,xs,e,r=>by
   unfold aK at r;obtain ⟨y,ys,rfl,h1,h2⟩:=r
   cases d with
   | int i =>
     unfold uu at e;rw [aJ] at e;obtain ⟨ms,e,rfl⟩:=e;unfold Rel at h1
     rw [h1,oz e h2,bp]
   | _=>cases e
def si:∀ {ds:List D} {ns:List Bool} {xs:List V},mE ds = some ns->aK K H F ds xs->xs = ns.map V.bl
 | [],ns,xs,e,r=>by cases e;unfold aK at r;exact r
 | d::ds,ns,xs,e,r=>by
   unfold aK at r;obtain ⟨y,ys,rfl,h1,h2⟩:=r
   cases d with
   | bl i =>
     unfold mE at e;rw [aJ] at e;obtain ⟨ms,e,rfl⟩:=e;unfold Rel at h1
     rw [h1,si e h2,bp]
   | _=>cases e
def Of (hc:X.calm = true):cE X (.builtin "any") (rB X.K Ko):=by
 refine cE.imp (Dx hc) λxs H Q zz=>?_;obtain ⟨F,ds,d,fd,r,e,q⟩:=zz;unfold Ko at e;split at e
 . rw [aJ] at e;obtain ⟨ns,e,rfl⟩:=e;obtain ⟨v,rfl,r1⟩:=b1 r;obtain ⟨a,ys,rfl,h1,h2⟩:=r1.lst;rw [si e h2] at h1;exact ⟨a,ns,rfl,h1.sq,q _ _ (iO.refl H) (mj _)⟩
 . cases e
def Ob (hc:X.calm = true):cE X (.builtin "sum") (rB X.K Iw):=by
 refine cE.imp (Ds hc) λxs H Q zz=>?_;obtain ⟨F,ds,d,fd,r,e,q⟩:=zz;unfold Iw at e;split at e
 . rw [aJ] at e;obtain ⟨ns,e,rfl⟩:=e;obtain ⟨v,rfl,r1⟩:=b1 r;obtain ⟨a,ys,rfl,h1,h2⟩:=r1.lst;rw [oz e h2] at h1;exact ⟨a,ns,rfl,h1.sq,q _ _ (iO.refl H) (dC _)⟩
 . cases e
def Dp (hu:X.A.units+200 < cLine):cE X (.builtin "sorted") (rB X.K pQ):=by
 refine cE.imp (wo hu) λxs H Q zz=>?_;obtain ⟨F,ds,d,fd,r,e,q⟩:=zz;unfold pQ at e;split at e
 . split at e
   . rename_i zs hs;cases e;obtain ⟨v,rfl,r1⟩:=b1 r;refine ⟨F,zs,v,rfl,r1,hs,λp ys hp ry=>q _ _ (cB hp _) ?_⟩;unfold Rel;exact ⟨p,ys,rfl,.inl ⟨.inl cm,uk fd hp⟩,aK.step fd (tW (cB hp _)) _ _ ry⟩
   . cases e
 . cases e
def jN {f:Blt} {es:Es} {x:Str} {p pos:Pos} {xs:List aG} (g:List D->Option D) (hg:kU f = g) (h:PE X (.Call (.Name x p) xs [] pos) (tCB (rB X.K g) (tEs X.K cx es))):PE X (.Call (.Name x p) xs [] pos) (tE X.K cx (.blt f es)):=by
 subst hg;refine PE.imp h λσ H Q h=>?_;obtain ⟨G,F,δ,d,δ',ok,ev,post⟩:=h;simp only [evE] at ev;obtain ⟨ds,ea,hd⟩:=yj ev;refine ⟨G,F,δ,ds,δ',ok,ea,λvs H1 F1 st1 sm1 ok1 r1=>?_⟩;exact ⟨F1,ds,d,ok1.fd,r1.bl,hd,λv H2 s2 r2=>post v H2 F1 (st1.trans (Step.of_same s2)) (λz=>(sm1 z).trans (.of s2)) (ok1.same' s2) (gF r2)⟩
end
end PP
end
section
namespace HT
open PySem PySem.Spec PyProof.Rows
section
variable {prog:aO} {w:aZ} {A:aR} {E:af->ah->Prop} {s:ah}
end
end HT
namespace L2
open PySem PySem.Spec PyProof.Rows
section
variable {X:Cx} {e:aG} {st:Option aG} {te:TE} {ts:TO} {pos p2:Pos}
end
end L2
namespace PP
open PySem L2 PyProof.Rows
variable [Tbs]
section
variable {K:PySem.W.Frag} {cx:Cl} {X:Cx}
end
end PP
end
section
namespace PP
open PySem L2 PyProof.Rows
variable [Tbs]
section
variable {K:PySem.W.Frag} {cx:Cl} {X:Cx}
def Mh (hT:tyName f = some T) (ht:t = (T:Str)) (hg:Gl X "isinstance") (hm:X.mg "isinstance" = none) (hgt:Gl X t) (hmt:X.mg t = none) (hy:PE X y (tE X.K cx e)) (hs:starEach [y,.Name t tp] X.env = [(false,eval y X.env),(false,eval (.Name t tp) X.env)]) :
 PE X (.Call (.Name "isinstance" p) [y,.Name t tp] [] pos) (tE X.K cx (.blt f (.cons e .nil))):=by
 have hb:bootBuiltins t = some (.type T):=by
  subst ht;cases f<;>simp [tyName] at hT<;>subst hT<;>rfl
 have hn:t≠"__name__":=by
  subst ht;cases f<;>simp [tyName] at hT<;>subst hT<;>decide
 have hdb:(t == ("__debug__":Str)) = false:=by
  subst ht;cases f<;>simp [tyName] at hT<;>subst hT<;>decide
 have hA:PA X [y,.Name t tp] (kE (tE X.K cx e) (kE (tC (.ty T)) xg)):=eZ hy (eZ (Ba hgt hmt hb rfl hn hdb) ia rfl) hs;refine PE.imp (gW (Hr hT) hg hm rfl hA ⇑0 ⇑0 hs rfl) λσ H Q h=>?_;obtain ⟨G,F,δ,d,δ',ok,ev,post⟩:=h;simp only [evE] at ev;obtain ⟨ds,ea,hd⟩:=yj ev;simp only [eH,ag,aj] at ea;obtain ⟨⟨x,δ1⟩,ea,⟨ds',δ2⟩,eb,e2⟩:=ea;cases eb;cases e2
 obtain ⟨b,rfl⟩:∃ b,d = .bl b:=by
  cases f<;>simp [tyName] at hT<;>(cases x<;>simp [kU] at hd<;>exact ⟨_,hd.symm⟩)
 refine ⟨G,F,δ,x,δ1,ok,ea,λv H1 F1 st1 sm1 ok1 r1=>?_⟩;exact ⟨F1,x,v,b,r1.b,rfl,hd,post _ H1 F1 st1 (λz=>sm1 (by have z':(np e && true) = true:=z;simpa using z')) ok1 (gF (mj b))⟩
def HX (fd:FD F H) (h1:Ls K H F a xs) (h3:aK K H F ds xs):Wk K G F H (Itl K a) ds:=by
 intro F2 H2 st fd2 i;have h4:=(h1.step st).sq;have h5:=aK.step fd st ds xs h3;refine ⟨λd e=>?_,λe=>⟨xs,h4,by rw [h5.length];lia⟩⟩;obtain ⟨v,hv,rv⟩:=h5.get e;refine ⟨⟨xs,v,h4,hv⟩,λx H3 y=>?_⟩;obtain ⟨rfl,y⟩:=y;refine ⟨λ_ _ e=>e,?_⟩;have:=y xs h4;rw [hv] at this;cases this;exact rv
def Lr (fd:FD F H) (h1:SqT K H a xs) (h3:aK K H F ds xs):Wk K G F H (Itt K a) ds:=by
 intro F2 H2 st fd2 i;have h4:=xh fd st.keep h1;have h5:=aK.step fd st ds xs h3;refine ⟨λd e=>?_,λe=>⟨xs,h4,by rw [h5.length];lia⟩⟩;obtain ⟨v,hv,rv⟩:=h5.get e;refine ⟨⟨xs,v,h4,hv⟩,λx H3 y=>?_⟩;obtain ⟨rfl,y⟩:=y;refine ⟨λ_ _ e=>e,?_⟩;have:=y xs h4;rw [hv] at this;cases this;exact rv
def Lu:Wk K G F H (Its x) (x.cps.toList.map λc=>D.str ⟨#[c]⟩):=by
 intro F2 H2 st fd2 i;refine ⟨λd e=>?_,λe=>by show i = x.cps.size;simpa using e⟩;rw [bf,aJ] at e;obtain ⟨c,hc,rfl⟩:=e;have hc':x.cps[i]? = some c:=by simpa using hc
 refine ⟨(dJ.mp hc').1,λv H3 y=>?_⟩;obtain ⟨rfl,c',h1,h2⟩:=y;refine ⟨λ_ _ e=>e,?_⟩;rw [hc'] at h1;cases h1;rw [h2];exact iY _
def Lv {G:Gh} {H:Hp} {F:aq->Prop} {lo:Int} {n:Nat}:Wk K G F H (Itr lo n) (qN lo n):=by
 intro F2 H2 st fd2 i;unfold qN;refine ⟨λd e=>?_,λe=>by rw [e];simp;exact aw n⟩;rw [bf,aJ] at e;obtain ⟨c,hc,rfl⟩:=e;have hl:i < n:=by have:=(aD.mp hc).1;simpa using this
 rw [List.getElem?_range hl] at hc;cases hc;refine ⟨hl,λv H3 y=>?_⟩;obtain ⟨rfl,h2⟩:=y;exact ⟨λ_ _ e=>e,by rw [h2];exact dC _⟩
def QW (K:PySem.W.Frag) (tl:TE):TI:=λσ H R=>tl σ H λv H1=>(∃ a,v = .ref a/\(∃ xs,SqL K H1 a xs)/\R (Itl K a) H1)\/(∃ a,v = .ref a/\(∃ xs,SqT K H1 a xs)/\R (Itt K a) H1)\/∃ x,v = .str x/\R (Its x) H1
def MK (hl:PE X l tl):PI X tg l (QW X.K tl):=by
 intro pins s σ H R I h
 have key:∀ {v:af} {s1:ah} {x:V} {H1:Hp},Inv X pins σ H1 s1->RelV x v->((∃ a,x = .ref a/\(∃ xs,SqL X.K H1 a xs)/\R (Itl X.K a) H1)\/(∃ a,x = .ref a/\(∃ xs,SqT X.K H1 a xs)/\R (Itt X.K a) H1)\/∃ y,x = .str y/\R (Its y) H1) ->
  wpAny (model X.prog X.w) X.A (pyIter v) (PIE X pins σ tg R) X.xe s1:=by
  intro v s1 x H1 I1 r1 q1;rcases q1 with ⟨a,rfl,⟨xs,hq⟩,q⟩ | ⟨a,rfl,⟨xs,hq⟩,q⟩ | ⟨z,rfl,q⟩
  . cases r1;obtain ⟨its,rv,p,hz⟩:=I1.list hq;refine fI p.isList ?_;refine ⟨s1.heap.objs.size,[s1.heap.objs.size],_,_,H1,rfl,I1.kept (t':=s1.toks) λb o e=>ai _ e,Cz a _,⟨_,aE _ rfl,rfl,rfl⟩,λb hb=>?_,q⟩;have e:b = s1.heap.objs.size:=by simpa using hb
    subst e;exact I1.fpOk (aw _) (I1.hok.fresh (aw _))
  . cases r1;obtain ⟨its,rv,p,hz⟩:=I1.tuple hq;refine Ox (show s1.heap.IsTuple a its.toArray from p) ?_;refine ⟨s1.heap.objs.size,[s1.heap.objs.size],_,_,H1,rfl,I1.kept (t':=s1.toks) λb o e=>ai _ e,zo a _,⟨_,aE _ rfl,rfl,rfl⟩,λb hb=>?_,q⟩;have e:b = s1.heap.objs.size:=by simpa using hb
    subst e;exact I1.fpOk (aw _) (I1.hok.fresh (aw _))
  . obtain ⟨t,rfl⟩:=r1;refine wpAny_pyIter_strU ?_;refine ⟨s1.heap.objs.size,[s1.heap.objs.size],_,_,H1,rfl,I1.kept (t':=s1.toks) λb o e=>ai _ e,Ey s1.heap.objs.size z t,⟨_,aE _ rfl,rfl,rfl⟩,λb hb=>?_,q⟩;have e:b = s1.heap.objs.size:=by simpa using hb
    subst e;exact I1.fpOk (aw _) (I1.hok.fresh (aw _))
 exact thn (hl pins s σ H _ I h) λv s1 ⟨x,H1,I1,r1,q1⟩=>key I1 r1 q1
def PI.imp (h:PI X tg l t) (w:∀ σ H R,t' σ H R->t σ H R):PI X tg l t':=λpins s σ H R I q=>h pins s σ H R I (w σ H R q)
def Md (n:(!bY e) = true) (hl:PE X l (tE X.K cx e)):PI X tg l (tI X.K cx (.sq e)):=by
 refine PI.imp (MK hl) λσ H R h=>?_;obtain ⟨G,F,δ,ds,δ',ok,ev,post⟩:=h;simp only [evI,ag,aj] at ev;obtain ⟨⟨d,δ1⟩,ea,ds',hd,e2⟩:=ev;cases e2;dsimp only at hd post;refine ⟨G,F,δ,d,δ1,ok,ea,λv H1 F1 st1 sm1 ok1 r1=>?_⟩;have r:=eU n r1;unfold items at hd;split at hd
 . cases hd;unfold Rel at r;obtain ⟨a,xs,e1,h1,h3⟩:=r;exact .inl ⟨a,e1,⟨xs,h1.sq⟩,post _ _ _ st1 sm1 ok1 (λ_=>HX ok1.fd h1 h3)⟩
 . cases hd;unfold Rel at r;obtain ⟨a,xs,e1,h1,h3⟩:=r;exact .inr (.inl ⟨a,e1,⟨xs,h1⟩,post _ _ _ st1 sm1 ok1 (λ_=>Lr ok1.fd h1 h3)⟩)
 . split at hd
   . cases hd;unfold Rel at r;exact .inr (.inr ⟨_,r,post _ _ _ st1 sm1 ok1 λ_=>Lu⟩)
   . cases hd
 . cases hd
def ID (n:(!bY e) = true) (hg:Gl X "range") (hm:X.mg "range" = none) (hy:PE X y (tE X.K cx e)) (hs:starEach [y] X.env = [(false,eval y X.env)]):PI X tg (.Call (.Name "range" p) [y] [] pos) (tI X.K cx (.rng e)):=by
 refine PI.imp (CO hg hm (eZ hy ia hs) hs) λσ H R h=>?_;obtain ⟨G,F,δ,ds,δ',ok,ev,post⟩:=h;simp only [evI,ag,aj] at ev;obtain ⟨⟨d,δ1⟩,ea,ev⟩:=ev
 cases d with
 | int j =>
   dsimp only at ev;split at ev
   . rename_i hj;cases ev;refine ⟨G,F,δ,.int j,_,ok,ea,λv H1 F1 st1 sm1 ok1 r1=>?_⟩;have r:=eU n r1;unfold Rel at r;subst r;exact ⟨j,rfl,hj.1,hj.2,post _ _ _ st1 sm1 ok1 λ_=>Lv⟩
   . cases ev
 | _=>cases ev
end
end PP
end
section
namespace PP
open PySem L2 PyProof.Rows Builtin.Str
variable [Tbs]
section
variable {X:Cx} {cx:Cl}
end
end PP
end
section
namespace PP
open PySem L2 PyProof.Rows
variable [Tbs]
section
variable {X:Cx} {cx:Cl}
def GdK (w:aZ) (K:PySem.W.Frag) (a:aq) (D:List (Str × Int)):Prop :=
 KTD.tabLook KTD.flatLooks (λb=>K.lookup b) a (D.map λp=>(p.1,PyData.int p.2)) = true/\(D.map (·.1)).Nodup/\KTD.hashesOf (λb=>K.lookup b) a = D.map λp=>hashStr w p.1
end
def spO (K:PySem.W.Frag) (f:List D->Option D):Sp:=λvs H Q _=>∃ F ds zs,FD F H/\TF F/\kY H/\aK K H F ds vs/\f ds = some zs/\∀ a u H',Sim H H'->kY H'->H a = none->H' a = some u->iP K H' (λb=>F b\/b = a) zs u->Q (.ref a) H'
structure Cok (X:Cx) (c:Ck) (cx:Cl) (k:Nat):Prop where
 hN:X.N = c.N
 nd:c.N.Nodup
 vis:∀ x,Vis c.sc x->Vis X.env.scope x
 gl:∀ x,c.sc.names.lookup x = some .globalImplicit->Gl X x
 st:∀ x,L2.Loc c.sc x->L2.Loc X.env.scope x/\(X.fn x = true\/X.env.scope.names.lookup x = some .local)
 kc:∀ x,(c.sc.names.lookup x = some .cell\/c.sc.names.lookup x = some .free)->X.env.kindOf x = some .cell\/X.env.kindOf x = some .free
 calm:X.calm = true
 xe:X.xe = λ_ _=>False
 room:kv k X.A
 fns:∀ (f:Nat) (x:Str) (ps:List Str),c.fns[f]? = some (x,ps)->∃ a fd,X.mg x = some (.ref a)/\PySem.W.keepIn X.K (.ref a) = true/\Binds X.K fd ps []/\gM X.prog X.w X.K X.mg X.base CX0 k a fd ps (spF X.K (cx.call f))
 fnO:∀ (f:Nat) (x:Str) (ps:List Str),c.fns[f]? = some (x,ps)->∃ a fd,X.mg x = some (.ref a)/\PySem.W.keepIn X.K (.ref a) = true/\Binds X.K fd ps []/\gM X.prog X.w X.K X.mg X.base CX0 k a fd ps (spO X.K (cx.call (f+vB)))
 fnD:∀ (f:Nat) (x:Str) (ps:List Str),c.fns[f]? = some (x,ps)->f∈Tbs.dfs->∃ a fd,X.mg x = some (.ref a)/\PySem.W.keepIn X.K (.ref a) = true/\Binds X.K fd ps [.none]/\gM X.prog X.w X.K X.mg X.base CX0 k a fd ps (spF X.K (cx.call f))
 blt:∀ x,x∈jD->X.mg x = none
 glob:∀ (g:Nat) (x:Str) (d:D),c.gn[g]? = some x->cx.gl[g]? = some d->∃ u v,X.mg x = some u/\RelV v u/\∀ H F,Rel X.K H F d v
 gsome:∀ (g:Nat) (x:Str),c.gn[g]? = some x->∃ d,cx.gl[g]? = some d
 gds:∀ (n:Str) (l:List (Str × Int)),Tbs.gds.lookup n = some l->∃ a,X.mg n = some (.ref a)/\GdK X.w X.K a l
 pos:k = 0->∀ f ds,cx.call f ds = none
def wW (h:Cy sc x = true):Vis sc x:=by
 unfold Cy at h;split at h
 . exact .inl ‹_›
 . exact .inr (.inl ‹_›)
 . exact .inr (.inr ‹_›)
 . cases h
def xZ (h:Nx sc x = true):L2.Loc sc x:=by
 unfold Nx at h;split at h
 . exact .inl ‹_›
 . exact .inr ‹_›
 . cases h
def GU (h:glB sc x = true):sc.names.lookup x = some .globalImplicit:=by
 unfold glB at h;split at h
 . assumption
 . cases h
def pX (h:Gg x = true):(x == ("__debug__":Str)) = false/\(x == ("__classdict__":Str)) = false/\x≠("__name__":Str):=by
 unfold Gg at h;rw [aa,aa] at h;refine ⟨by simpa using h.1.1,by simpa using h.1.2,?_⟩;have:=h.2;intro z;subst z
 revert this
 decide
section
variable {X:Cx} {c:Ck} {cx:Cl} {k:Nat}
def Cok.name (C:Cok X c cx k) (h:fu c i x = true):X.N[i]? = some x/\Vis X.env.scope x/\(x == ("__debug__":Str)) = false/\(x == ("__classdict__":Str)) = false:=by
 unfold fu at h;rw [aa,aa] at h;obtain ⟨⟨h1,h2⟩,h3⟩:=h;obtain ⟨n1,n2,n3⟩:=pX h3;exact ⟨by rw [C.hN];exact of_decide_eq_true h1,C.vis x (wW h2),n1,n2⟩
def Cok.to (C:Cok X c cx k) (h:eV c i x = true):X.N[i]? = some x/\L2.Loc X.env.scope x/\(X.fn x = true\/X.env.scope.names.lookup x = some .local):=by
 unfold eV at h;rw [aa,aa] at h;obtain ⟨⟨h1,h2⟩,h3⟩:=h;obtain ⟨s1,s2⟩:=C.st x (xZ h2);exact ⟨by rw [C.hN];exact of_decide_eq_true h1,s1,s2⟩
def Cok.global (C:Cok X c cx k) (h:dw c x = true):Gl X x/\(x == ("__debug__":Str)) = false/\x≠("__name__":Str):=by
 unfold dw at h;rw [aa] at h;obtain ⟨n1,n2,n3⟩:=pX h.2;exact ⟨C.gl x (GU h.1),n1,n3⟩
def Cok.units (C:Cok X c cx k):X.A.units+200 < cLine:=by have:=C.room.un;lia
def Cok.nd' (C:Cok X c cx k):X.N.Nodup:=by rw [C.hN];exact C.nd
def rQ:List Nat->TGs
 | []=>NN
 | i::is=>BB (uw i) (rQ is)
def Kb (K:PySem.W.Frag) (n:Nat) (t:TGs):TG:=λv σ H Q=>∃ a xs,v = .ref a/\(SqT K H a xs\/SqL K H a xs)/\xs.length = n/\t xs σ H Q
def nH {prog:aO} {w:aZ} {A:aR} {E:af->ah->Prop} {s:ah} {env:Env} {elts:List aG} {x1} {pos:Pos} {t:aq} {items:Array af} {Q:Unit->ah->Prop} (hh:A.handled = none) (ht:s.heap.IsList t items)
 (hn:(assignEach elts env).length = items.size) (hstar:(assignEach elts env).findIdx? (·.1) = none)
 (h:∀ h',BY s.heap.objs.size s.heap h'->wpAny (model prog w) A (assignInOrder ((assignEach elts env).map (·.2)) items.toList) Q E { s with heap:=h' }) :
 wpAny (model prog w) A (assign (.Tuple elts x1 pos) env (.ref t)) Q E s:=by
 rw [assign_Tuple];refine ae (kZ ?_);unfold unpack;rw [hn,hstar];exact ae (cc (PySem.W.kun_itemsOf hh ht h))
def zK {X:Cx} {es:List aG} {k:Nat} {t:TGs} {n:Nat} {pos:Pos} (hc:X.calm = true) (h:PGs X es t)
 (hn:(assignEach es X.env).length = n:=by rfl) (hst:(assignEach es X.env).findIdx? (·.1) = none:=by rfl):PG X (.Tuple es k pos) (Kb X.K n t):=by
 intro pins s σ H v u Q I r hw;obtain ⟨a,xs,e1,hq,hl,hw⟩:=hw;rcases hq with hq | hq
 . exact ML hc h hn hst pins s σ H v u Q I r ⟨a,xs,e1,hq,hl,hw⟩
 . subst e1;cases r;obtain ⟨its,rv,pl,hz⟩:=I.list hq;refine nH (I.ok.hd hc) pl.isList (by simp [hn,<- hl,rv.length]) hst λh' hx=>?_;have I1:Inv X pins σ H { s with heap:=h' }:=I.kept (t':=s.toks) λb o e=>hx b o (aH (az e)) e;exact h pins _ σ H xs _ Q I1 (by simpa using rv) hw
def gTg (K:PySem.W.Frag):Tg->TG
 | .nm i=>uw i
 | .tp is=>Kb K is.length (rQ is)
 | .pr i is=>Kb K 2 (BB (uw i) (BB (Kb K is.length (rQ is)) NN))
def om (C:Cok X c cx k):∀ (is:List Nat) (es:List aG),Kk c is es = true->PGs X es (rQ is)/\(assignEach es X.env).length = is.length/\(assignEach es X.env).findIdx? (·.1) = none
 | [],es,h=>by
   obtain ⟨rfl,_⟩:=eE h
   exact ⟨AY,rfl,rfl⟩
 | i::is,es,h=>by
   obtain ⟨e,r,rfl,hh⟩:=dk h;rw [aa] at hh;obtain ⟨x,p,rfl,h1⟩:=bC hh.1;obtain ⟨q1,q2,q3⟩:=om C is r hh.2;obtain ⟨n1,n2,n3⟩:=C.to h1;refine ⟨qV (vA C.nd' n1 n2 n3) q1 rfl,?_,?_⟩
   . show (assignEach r X.env).length+1 = _;rw [q2];rfl
   . show List.findIdx? _ ((false,_)::assignEach r X.env) = none;rw [List.findIdx?_cons,q3];rfl
def vd (C:Cok X c cx k) (h:we c tg t = true):PG X t (gTg X.K tg):=by
 cases tg with
 | nm i =>
   obtain ⟨_,_,rfl,h1⟩:=bC h;obtain ⟨n1,n2,n3⟩:=C.to h1
   exact vA C.nd' n1 n2 n3
 | tp is =>
   obtain ⟨_,_,_,rfl,h1⟩:=gX h;obtain ⟨q1,q2,q3⟩:=om C _ _ h1
   exact zK C.calm q1 q2 q3
 | pr i is =>
   obtain ⟨_,_,_,rfl,h1⟩:=gX h;obtain ⟨_,_,rfl,h2⟩:=rA h1;rw [aa] at h2;obtain ⟨_,_,rfl,h3⟩:=bC h2.1;obtain ⟨_,_,_,rfl,h4⟩:=gX h2.2;obtain ⟨n1,n2,n3⟩:=C.to h3;obtain ⟨q1,q2,q3⟩:=om C _ _ h4;exact zK C.calm (qV (vA C.nd' n1 n2 n3) (qV (zK C.calm q1 q2 q3) AY rfl) rfl) rfl rfl
def take_set {α:Type} (l:List α) (i n:Nat) (x:α) (h:n<=i):(l.set i x).take n = l.take n:=by
 apply List.ext_getElem?;intro j;by_cases hj:j < n
 . rw [dt hj,dt hj,aU ∅]
 . rw [cX (by rw [bJ];lia),cX (by rw [bJ];lia)]
def mP {K:PySem.W.Frag} {G:Gh} {H:Hp} {F:aq->Prop} {Q:L2.St->Hp->Prop}:∀ (is:List Nat) (ds:List D) (xs:List V) (σ:L2.St) (δ:Loc),Ok K G F σ H δ->aK K H F ds xs->is.length = ds.length->is.all (· < δ.length) = true ->
 (∀ σ',Ok K G F σ' H ((is.zip ds).foldl (λδ p=>δ.set p.1 (.val p.2)) δ)->(∀ n,(is.all λi=>decide (n<=i)) = true->σ'.take n = σ.take n)->Q σ' H)->rQ is xs σ H Q
 | [],ds,xs,σ,δ,ok,r,hl,_,q=>by
   have:ds = []:=gD.mp hl.symm;subst this;unfold aK at r
   exact ⟨r,q σ ok λ_ _=>rfl⟩
 | i::is,[],xs,σ,δ,ok,r,hl,_,q=>by simp at hl
 | i::is,d::ds,xs,σ,δ,ok,r,hl,ha,q=>by
   unfold aK at r;obtain ⟨y,ys,rfl,r1,r2⟩:=r;rw [nM,aa] at ha;refine ⟨y,ys,rfl,?_⟩;refine mP is ds ys (σ.set i (some y)) (δ.set i (.val d)) (ok.set (of_decide_eq_true ha.1) r1) r2 (by simpa using hl) ?_ λσ' o t=>q σ' o λn hn=>?_
   . rw [bO];exact ha.2
   . rw [nM,aa] at hn;rw [t n hn.2,take_set _ _ _ _ (of_decide_eq_true hn.1)]
def uY {K:PySem.W.Frag} {G:Gh} {H:Hp} {F:aq->Prop} {σ:L2.St} {δ δ':Loc} {tg:Tg} {d:D} {v:V} {Q:L2.St->Hp->Prop} (ok:Ok K G F σ H δ) (r:Rel K H F d v) (e:fZ δ tg d = some δ') (q:∀ σ',Ok K G F σ' H δ'->(∀ n,CB n tg = true->σ'.take n = σ.take n)->Q σ' H):gTg K tg v σ H Q:=by
 unfold fZ at e;split at e
 . split at e
   . cases e;exact q _ (ok.set ‹_› r) λn hn=>take_set _ _ _ _ (of_decide_eq_true hn)
   . cases e
 . split at e
   . rename_i hh;cases e;unfold Rel at r;obtain ⟨a,xs,e1,h1,h2⟩:=r;exact ⟨a,xs,e1,.inl h1,by rw [h2.length];exact hh.1.symm,mP _ _ _ _ _ ok h2 hh.1 hh.2 q⟩
   . cases e
 . split at e
   . rename_i hh;cases e;unfold Rel at r;obtain ⟨a,xs,e1,h1,h2⟩:=r;exact ⟨a,xs,e1,.inr h1.b.sq,by rw [h2.length];exact hh.1.symm,mP _ _ _ _ _ ok h2 hh.1 hh.2 q⟩
   . cases e
 . split at e
   . rename_i hh;cases e;unfold Rel at r;obtain ⟨a,xs,e1,h1,h2⟩:=r;unfold aK at h2;obtain ⟨y,ys,rfl,r1,r2⟩:=h2;unfold aK at r2;obtain ⟨z,zs,rfl,r3,r4⟩:=r2;unfold aK at r4;subst r4;unfold Rel at r3;obtain ⟨b,ws,e2,h3,h4⟩:=r3;refine ⟨a,[y,z],e1,.inl h1,rfl,y,[z],rfl,z,[],rfl,b,ws,e2,.inl h3,by rw [h4.length];exact hh.2.1.symm,?_⟩;refine mP _ _ _ _ _ (ok.set hh.1 r1) h4 hh.2.1 (by rw [bO];exact hh.2.2) λσ' o t=>⟨rfl,q σ' o λn hn=>?_⟩;have hn':=(aa _ _).mp (show (decide (n<=_) && _) = true from hn);rw [t n hn'.2,take_set _ _ _ _ (of_decide_eq_true hn'.1)]
   . cases e
 . cases e
def Ok.ext {K:PySem.W.Frag} {G:Gh} {H:Hp} {F:aq->Prop} {σ:L2.St} {δ:Loc} (h:Ok K G F σ H δ) (tl:L2.St):Ok K G F (σ++tl) H (δ++bc tl.length .no):=by
 have low:∀ (j:Nat) (s:Sl),(δ++bc tl.length .no)[j]? = some s->s = .no\/(δ[j]? = some s/\(σ++tl)[j]? = σ[j]?):=λj s e=>by
  by_cases hj:j < δ.length
  . rw [ba hj] at e;exact .inr ⟨e,ba (by rw [<- h.len];exact hj)⟩
  . rw [bz ∅,gE] at e;split at e
    . cases e;exact .inl rfl
    . cases e
 refine ⟨h.same,h.fd,h.rf,h.rl,h.tf,h.tabs,by rw [ay,ay,gY,h.len],λj s e=>?_,λi j s t a e1 e2 o1 o2 p1 p2=>?_⟩
 . rcases low j s e with rfl | ⟨e1,e2⟩
   . trivial
   . rw [e2];exact h.sl j s e1
 . rcases low i _ e1 with z | ⟨a1,a2⟩
   . subst z;cases o1
   . rcases low j _ e2 with z | ⟨b1,b2⟩
     . subst z;cases o2
     . rw [a2] at p1;rw [b2] at p2;exact h.apart i j s t a a1 b1 o1 o2 p1 p2
def Ok.cut {K:PySem.W.Frag} {G:Gh} {H:Hp} {F:aq->Prop} {σ:L2.St} {δ:Loc} (h:Ok K G F σ H δ) (n:Nat):Ok K G F (σ.take n) H (δ.take n):=by
 have low:∀ (j:Nat) (s:Sl),(δ.take n)[j]? = some s->δ[j]? = some s/\(σ.take n)[j]? = σ[j]? := λj s e=>by
  by_cases hj:j < n
  . rw [dt hj] at e;exact ⟨e,dt hj⟩
  . rw [cX (by rw [bJ];lia)] at e;cases e
 refine ⟨h.same,h.fd,h.rf,h.rl,h.tf,h.tabs,by rw [bJ,bJ,h.len],λj s e=>?_,λi j s t a e1 e2 o1 o2 p1 p2=>?_⟩
 . obtain ⟨e1,e2⟩:=low j s e;rw [e2];exact h.sl j s e1
 . obtain ⟨a1,a2⟩:=low i _ e1;obtain ⟨b1,b2⟩:=low j _ e2;rw [a2] at p1;rw [b2] at p2;exact h.apart i j s t a a1 b1 o1 o2 p1 p2
def Gh.and (G:Gh) (D:aq):Gh:=⟨G.h,λb=>G.R b\/b = D⟩
def Ok.free {K:PySem.W.Frag} {G:Gh} {H:Hp} {F:aq->Prop} {σ:L2.St} {δ:Loc} {p:aq} (h:Ok K G F σ H δ) (hp:H p = none):G.free p:=by
 refine ⟨?_,λz=>?_⟩
 . cases e:G.h p with
   | none=>rfl
   | some o =>
     by_cases t:NT o
     . rw [h.same.nt p o t e] at hp;cases hp
     . cases o<;>first | (exact absurd trivial t) | skip
       obtain ⟨qs,z⟩:=h.same.tb p _ e;rw [z] at hp;cases hp
 . obtain ⟨o,e,_⟩:=h.rl p z;rw [hp] at e;cases e
def Ok.enterO {K:PySem.W.Frag} {G:Gh} {H:Hp} {F:aq->Prop} {σ:L2.St} {δ:Loc} {p:aq} (h:Ok K G F σ H δ) (hp:H p = none) {u:HO} (hu:Mo u):Ok K (G.and p) (λb=>F b\/b = p) σ (upd H p u) δ/\Step G F H (λb=>F b\/b = p) (upd H p u):=by
 have nF:¬ F p:=uk h.fd hp;have sm:=cB hp u;have st:∀ G':Gh,Step G' F H (λb=>F b\/b = p) (upd H p u):=λG'=>⟨λb o _ e _=>sm b o e,λb z=>by rcases z with z | z;exact .inl z;exact .inr (by rw [z];exact hp),λb o _ f e=>⟨.inl f,sm b o e⟩,λb ps e=>⟨ps,sm b _ e⟩⟩;refine ⟨⟨h.same.trans (.of sm),λb z=>?_,λb z=>?_,λb z=>?_,λt ht=>.inl (h.tf t ht),h.tabs.keep λb o _ e=>sm b o e,h.len,λj s e=>?_,h.apart⟩,st G⟩
 . rcases z with z | z
   . exact h.fd.same sm b z
   . rw [z];exact ⟨u,cm,.inl hu⟩
 . rcases z with z | z
   . exact .inl (h.rf b z)
   . exact .inr z
 . rcases z with z | z
   . exact AN h.rl sm b z
   . rw [z];exact ⟨u,cm,hu⟩
 . exact fD.stay0 h.fd (st G) (λa v _ f1 _ f3=>⟨.inl f1,sm _ _ f3⟩) (fD.free (G:=G) (G':=G.and p) (λa f1 f2=>⟨f2.1,λz=>Or.elim z f2.2 λw=>nF (w▸f1)⟩) (h.sl j s e))
def Ok.enter {K:PySem.W.Frag} {G:Gh} {H:Hp} {F:aq->Prop} {σ:L2.St} {δ:Loc} {p:aq} (h:Ok K G F σ H δ) (hp:H p = none) (xs:List V):Ok K (G.and p) (λb=>F b\/b = p) σ (upd H p (.lst xs)) δ/\Step G F H (λb=>F b\/b = p) (upd H p (.lst xs)):=h.enterO hp trivial
def Ok.pokeO {K:PySem.W.Frag} {G:Gh} {H:Hp} {F:aq->Prop} {σ:L2.St} {δ:Loc} {p:aq} {x u:HO} (h:Ok K (G.and p) F σ H δ) (hg:G.free p) (hP:H p = some x) (hx:Mo x) (hu:Mo u):Ok K (G.and p) F σ (upd H p u) δ:=by
 have hF:F p:=h.rf p (.inr rfl);have nt:=hx.nt;have st0:Step g0 F H F (upd H p u):=⟨λb o _ e n=>by rw [bN (λz:b = p=>n (by rw [z];exact hF))];exact e,λb z=>.inl z,λ_ _ r _ _=>r.elim,λb ps e=>⟨ps,by rw [bN (λw:b = p=>by rw [w,hP] at e;cases e;exact nt)];exact e⟩⟩;refine ⟨⟨λb o t e=>?_,λb ps e=>?_⟩,λb z=>?_,h.rf,λb z=>?_,h.tf,h.tabs.keep λb o n e=>?_,h.len,λj s e=>?_,h.apart⟩
 . rw [bN (λz:b = p=>by have e':G.h b = some o:=e;rw [z,hg.1] at e';cases e')];exact h.same.nt b o t e
 . rw [bN (λz:b = p=>by have e':G.h b = some _:=e;rw [z,hg.1] at e';cases e')];exact h.same.tb b ps e
 . by_cases hb:b = p
   . rw [hb];exact ⟨u,cm,.inl hu⟩
   . rw [bN hb];exact h.fd b z
 . by_cases hb:b = p
   . rw [hb];exact ⟨u,cm,hu⟩
   . rw [bN hb];exact h.rl b z
 . rw [bN (λw:b = p=>by rw [w,hP] at e;cases e;exact n hx)];exact e
 . exact fD.stay0 h.fd st0 (λa v _ f1 f2 f3=>⟨f1,by rw [bN (λz:a = p=>f2.2 (.inr z))];exact f3⟩) (h.sl j s e)
def Ok.poke {K:PySem.W.Frag} {G:Gh} {H:Hp} {F:aq->Prop} {σ:L2.St} {δ:Loc} {p:aq} {zs:List V} (h:Ok K (G.and p) F σ H δ) (hg:G.free p) (hP:H p = some (.lst zs)) (xs:List V):Ok K (G.and p) F σ (upd H p (.lst xs)) δ:=h.pokeO hg hP trivial trivial
def Ok.leave {K:PySem.W.Frag} {G:Gh} {H:Hp} {F:aq->Prop} {σ:L2.St} {δ:Loc} {p:aq} (h:Ok K (G.and p) F σ H δ) (hg:G.free p):Ok K G (λb=>F b/\b≠p) σ H δ:=by
 have hs:∀ b,(F b/\b≠p)->F b:=λb z=>z.1
 have tf':TF λb=>F b/\b≠p:=λt ht=>⟨h.tf t ht,λw=>by
  obtain ⟨ps,e,_⟩:=h.tabs t ht;obtain ⟨o,hP,m⟩:=h.rl p (.inr rfl);rw [w,hP] at e;cases e;exact m⟩
 refine ⟨h.same,λb z=>h.fd b z.1,λb z=>⟨h.rf b (.inl z),λw=>hg.2 (by rw [<- w];exact z)⟩,λb z=>h.rl b (.inl z),tf',h.tabs,h.len,λj s e=>?_,h.apart⟩;refine ((h.sl j s e).less h.fd hs λa z za=>?_).free (G:=G.and p) (G':=G) λb _ z=>⟨z.1,λw=>z.2 (Or.inl w)⟩;obtain ⟨a',u,d,e1,f1,f2,_⟩:=fD.ow (h.sl j s e) z;rw [za] at e1;cases e1;exact ⟨f1,λw=>f2.2 (.inr w)⟩
def Ok.keep {K:PySem.W.Frag} {G:Gh} {H:Hp} {F:aq->Prop} {σ:L2.St} {δ:Loc} {p:aq} (h:Ok K (G.and p) F σ H δ):Ok K G F σ H δ :=
 ⟨h.same,h.fd,λb z=>h.rf b (.inl z),λb z=>h.rl b (.inl z),h.tf,h.tabs,h.len,λj s e=>(h.sl j s e).free (G:=G.and p) (G':=G) λb _ z=>⟨z.1,λw=>z.2 (Or.inl w)⟩,h.apart⟩
end
section
variable {K:PySem.W.Frag} {cx:Cl}
def yz (cx:Cl) (k:Nat) (tg:Tg) (ifs:Eo) (elt:E):D->Loc->Option (Option D × Loc):=λx δ0=>do
 let δ2 <- fZ (δ0++bc k .no) tg x
 let (b,δ3) <- evG cx ifs δ2
 if b then do
  let (y,δ4) <- evE cx elt δ3
  return (some y,δ4.take δ0.length)
 else return (none,δ3.take δ0.length)
def Ki (ev:evE cx (.comp k tg src ifs elt) δ = some (d,δ')) :
 ∃ ds δ1 ys,evI cx src δ = some (ds,δ1)/\nE (yz cx k tg ifs elt) ds δ1 = some (ys,δ')/\ys.length<=sizeLine/\d = .lst ys:=by
 simp only [evE,ag,aj] at ev;obtain ⟨⟨ds,δ1⟩,ea,⟨ys,δ2⟩,eb,ev⟩:=ev;split at ev
 . cases ev;exact ⟨ds,δ1,ys,ea,eb,‹_›,rfl⟩
 . cases ev
def Dk (h:yz cx k tg ifs elt x δ0 = some (o,δ1)):∃ δ2 b δ3,fZ (δ0++bc k .no) tg x = some δ2/\evG cx ifs δ2 = some (b,δ3) /\
 ((b = true/\∃ y δ4,evE cx elt δ3 = some (y,δ4)/\o = some y/\δ1 = δ4.take δ0.length)\/(b = false/\o = none/\δ1 = δ3.take δ0.length)):=by
 unfold yz at h;simp only [ag,aj] at h;obtain ⟨δ2,e1,⟨b,δ3⟩,e2,h⟩:=h;refine ⟨δ2,b,δ3,e1,e2,?_⟩
 cases b with
 | true =>
   simp only [if_true,aj] at h;obtain ⟨⟨y,δ4⟩,e3,h⟩:=h;cases h
   exact .inl ⟨rfl,y,δ4,e3,rfl,rfl⟩
 | false =>
   simp only [aP,if_false] at h;cases h;exact .inr ⟨rfl,rfl,rfl⟩
def Ac (h:nE f (x::xs) δ = some (ys,δ')):∃ o δ1 zs,f x δ = some (o,δ1)/\nE f xs δ1 = some (zs,δ')/\ys = (match o with | some y=>y::zs | none=>zs):=by
 unfold nE at h;simp only [ag,aj] at h;obtain ⟨⟨o,δ1⟩,e1,⟨zs,δ2⟩,e2,h⟩:=h;cases h;exact ⟨o,δ1,zs,e1,e2,rfl⟩
def Step.sub (h:Step G' F H F' H') (hs:∀ b,G.R b->G'.R b):Step G F H F' H':=⟨h.keep,h.grow,λb o r=>h.res b o (hs b r),h.tb⟩
def rV:∀ (ps:List (Nat × D)) (δ:Loc),(ps.foldl (λδ p=>δ.set p.1 (Sl.val p.2)) δ).length = δ.length:=by
 intro ps
 induction ps with
 | nil=>intro δ;rfl
 | cons a r ih=>intro δ;rw [gq,ih,bO]
def CJ (es:fZ δ tg d = some δ'):δ'.length = δ.length:=by
 unfold fZ at es;split at es
 . split at es
   . cases es;rw [bO]
   . cases es
 . split at es
   . cases es;rw [rV]
   . cases es
 . split at es
   . cases es;rw [rV]
   . cases es
 . split at es
   . cases es;rw [rV,bO]
   . cases es
 . cases es
def JL {P:List D->(aq->Prop)->L2.St->Hp->Prop} (wk:Wk K G F1 H1 J ds) (hs:∀ r F σ H,P r F σ H->Step G F1 H1 F H/\FD F H) (hm:∀ r F σ H H3,P r F σ H->iO H H3->P r F σ H3) (h0:P ds F0 σ0 H0)
 (turn:∀ d r F σ H x (N:L2.St->Hp->Prop),P (d::r) F σ H->Rel K H F d x->(∀ F4 σ4 H4,P r F4 σ4 H4->N σ4 H4)->g x σ H λσ2 H2=>tt σ2 H2 λb H3=>if b = true then tb σ2 H3 N else N σ2 H3)
 (fin:∀ F σ H,P [] F σ H->Q σ H):tLp J g tt tb σ0 H0 Q:=by
 refine ⟨λi m σc Hc=>m = ds.length - i/\i<=ds.length/\∃ F',P (ds.drop i) F' σc Hc,⟨ds.length,↥0,cC _,F0,h0⟩,?_⟩;rintro i m σc Hc ⟨rfl,hi,F',h⟩;obtain ⟨st,fd⟩:=hs _ _ _ _ h;by_cases hlt:i < ds.length
 . obtain ⟨go,yl⟩:=(wk F' Hc st fd i).1 ds[i] (aA hlt);refine .inr ⟨go,λx H3 hy=>?_⟩;obtain ⟨sm,rx⟩:=yl x H3 hy;rw [jv hlt] at h;exact turn _ _ _ _ _ x _ (hm _ _ _ _ _ h sm) rx λF4 σ4 H4 z=>⟨_,∅,rfl,hlt,F4,z⟩
 . obtain rfl:i = ds.length:=by lia
   rw [HS] at h;exact .inl ⟨(wk F' Hc st fd ds.length).2 rfl,fin _ _ _ h⟩
def Step.new {o:HO} (s:Step G F1 H1 F8 H8) (hp:H1 p = none):Step G F1 H1 F8 (upd H8 p o):=by
 refine ⟨λb o t e nf=>?_,s.grow,λb o r f e=>?_,λb ps e=>?_⟩
 . rw [bN (λw:b = p=>by rw [w,hp] at e;cases e)];exact s.keep b o t e nf
 . obtain ⟨a1,a2⟩:=s.res b o r f e;refine ⟨a1,?_⟩;rw [bN (λw:b = p=>by rw [w,hp] at e;cases e)];exact a2
 . rw [bN (λw:b = p=>by rw [w,hp] at e;cases e)];exact s.tb b ps e
def Sim.new {o:HO} (s:Sim H1 H8) (hp:H1 p = none):Sim H1 (upd H8 p o):=by
 refine ⟨λb o t e=>?_,λb ps e=>?_⟩
 . rw [bN (λw:b = p=>by rw [w,hp] at e;cases e)];exact s.nt b o t e
 . rw [bN (λw:b = p=>by rw [w,hp] at e;cases e)];exact s.tb b ps e
def Ab (n:(!bY elt) = true) (hge:CB σ.length tg = true)
 (ok1:Ok K G F1 σ H1 δ1) (wk:Wk K G F1 H1 J ds) (hp:H1 p = none) (ev:nE (yz cx k tg ifs elt) ds δ1 = some (ys,δ2)) (hz:ys.length<=sizeLine)
 (q:∀ σ' H2 F2 xs,Ok K (G.and p) F2 σ H2 δ2->H2 p = some (.lst xs)->aK K H2 F2 ys xs->Step G F1 H1 F2 H2->((npO ifs && np elt) = true->Sim H1 H2)->Q σ' H2) :
 tLp J (gTg K tg) (tG K cx ifs) (ED p (tE K cx elt)) (σ++bc k none) (upd H1 p (.lst [])) Q:=by
 have hg:=ok1.free hp;obtain ⟨ok2,st2⟩:=ok1.enter hp [];have hFs:∀ b,G.R b->(G.and p).R b:=λb z=>.inl z
 refine JL (P:=λr F' σc Hc=>∃ δi zs xs yi,(∃ tl:L2.St,σc = σ++tl/\tl.length = k)/\Ok K (G.and p) F' σ Hc δi/\nE (yz cx k tg ifs elt) r δi = some (zs,δ2)/\yi++zs = ys/\Hc p = some (.lst xs)/\aK K Hc F' yi xs/\Step G F1 H1 F' Hc /\
  ((npO ifs && np elt) = true->Sim H1 Hc)) wk (λr F σ H z=>by obtain ⟨_,_,_,_,_,ok,_,_,_,_,st,_⟩:=z;exact ⟨st,ok.fd⟩) (λr F σ H H3 z sm=>by obtain ⟨a1,a2,a3,a4,a5,ok,a6,a7,a8,a9,st,s⟩:=z;exact ⟨a1,a2,a3,a4,a5,ok.same' sm,a6,a7,sm _ _ a8,aK.step ok.fd (Step.of_same (G:=G) sm) _ _ a9,st.trans (.of_same sm),λq=>(s q).trans (.of sm)⟩) (F0:=λb=>F1 b\/b = p) ⟨δ1,ys,[],[],⟨_,rfl,↥0⟩,ok2,ev,rfl,cm,aK.nil,st2,λ_=>.of (cB hp _)⟩ ?_ ?_
 . rintro d r F' _ H3 x N ⟨δi,zs,xs,yi,⟨tl,rfl,htl⟩,ok,el,ey,eD,rl,st,sm⟩ rx hN;have hF:F' p:=ok.rf p (.inr rfl);obtain ⟨o,δ5,zs',ef,el',ez⟩:=Ac el;obtain ⟨δ6,b,δ7,es,eg,alt⟩:=Dk ef;have okx:Ok K (G.and p) F' (σ++tl) H3 (δi++bc k .no):=by rw [<- htl];exact ok.ext tl
   refine uY okx rx es λσ2 ok6 htake=>?_;have t2:σ2.take σ.length = σ:=by rw [htake _ hge,List.take_left'];rfl
   have l2:σ2.length = σ.length+k:=by
    have a1:=okx.len;have a2:=ok6.len;have e1:=CJ es;have e2:(σ++tl).length = σ.length+k:=by rw [ay,htl]
    lia
   have dl:δi.length = σ.length:=ok.len
   have tail:∃ tl':L2.St,σ2 = σ++tl'/\tl'.length = k:=by
    refine ⟨σ2.drop σ.length,?_,by rw [hJ];lia⟩
    conv=>lhs;rw [<- lJ σ.length σ2,t2]
   refine ⟨G.and p,F',δ6,b,δ7,ok6,eg,λH7 F7 st7 sm7 ok7=>?_⟩;have keepD:∀ {F8:aq->Prop} {H8:Hp},Step (G.and p) F' H3 F8 H8->H8 p = some (.lst xs):=λs8=>(s8.res p _ (.inr rfl) hF eD).2;rcases alt with ⟨rfl,y,δ8,ee,rfl,rfl⟩ | ⟨rfl,rfl,rfl⟩
   . refine kr ?_;refine ⟨G.and p,F7,δ7,y,δ8,ok7,ee,λu H8 F8 st8 sm8 ok8 r8=>?_⟩;have s78:=st7.trans st8;have eD8:=keepD s78;have ry:=eU n r8;have rl8:aK K H8 F8 yi xs:=aK.step ok.fd s78 yi xs rl;have hF8:F8 p:=ok8.rf p (.inr rfl);have pk:Step g0 F8 H8 F8 (upd H8 p (.lst (xs++[u]))):=⟨λb o _ e nf=>by rw [bN (λz:b = p=>nf (by rw [z];exact hF8))];exact e,λb z=>.inl z,λ_ _ r _ _=>r.elim,λb ps e=>⟨ps,by rw [bN (λw:b = p=>by rw [w,eD8] at e;cases e)];exact e⟩⟩;subst ez
     have hyl:yi.length < sizeLine:=by
      have:=congrArg sF ey;rw [ay] at this;simp only [aI] at this
      lia
     refine ⟨xs,eD8,by rw [rl8.length];exact hyl,hN F8 _ _ ⟨δ8.take δi.length,zs',xs++[u],yi++[y],tail,?_,el',by rw [fA];exact ey,cm,?_,?_,λz=>?_⟩⟩
     . have:=(ok8.poke hg eD8 (xs++[u])).cut δi.length;rw [dl,t2] at this;rw [dl];exact this
     . exact aK.step ok8.fd pk _ _ (rl8.append (aK.one ry))
     . exact (st.trans (s78.sub hFs)).new hp
     . have z':=z;rw [aa] at z';exact (((sm z).trans (sm7 z'.1)).trans (sm8 z'.2)).new hp
   . refine jq ?_;subst ez;refine hN F7 _ _ ⟨δ7.take δi.length,_,xs,yi,tail,?_,el',ey,keepD st7,aK.step ok.fd st7 yi xs rl,st.trans (st7.sub hFs),λz=>?_⟩
     . have:=ok7.cut δi.length;rw [dl,t2] at this;rw [dl];exact this
     . have z':=z;rw [aa] at z';exact (sm z).trans (sm7 z'.1)
 . rintro F' _ Hc ⟨δi,zs,xs,yi,_,ok,el,ey,eD,rl,st,sm⟩;cases el;rw [bw] at ey;subst ey;exact q _ Hc F' xs ok eD rl st sm
end
end PP
end
section
namespace PP
open PySem
section
variable (cx:Cl)
def wE (e:E) (δ:Loc) (Q:D->Loc->Prop):Prop:=∃ d δ',evE cx e δ = some (d,δ')/\Q d δ'
def wT (e:E) (δ:Loc) (Q:Bool->Loc->Prop):Prop:=∃ d δ',evT cx e δ = some (d,δ')/\Q d δ'
def wEs (e:Es) (δ:Loc) (Q:List D->Loc->Prop):Prop:=∃ d δ',eH cx e δ = some (d,δ')/\Q d δ'
def wG (e:Eo) (δ:Loc) (Q:Bool->Loc->Prop):Prop:=∃ d δ',evG cx e δ = some (d,δ')/\Q d δ'
def wI (e:It) (δ:Loc) (Q:List D->Loc->Prop):Prop:=∃ d δ',evI cx e δ = some (d,δ')/\Q d δ'
def wS (s:S) (δ:Loc) (Q:Out->Prop):Prop:=∃ o,evS cx s δ = some o/\Q o
def wSs (s:Ss) (δ:Loc) (Q:Out->Prop):Prop:=∃ o,dD cx s δ = some o/\Q o
def wTg (δ:Loc) (tg:Tg) (d:D) (Q:Loc->Prop):Prop:=∃ δ',fZ δ tg d = some δ'/\Q δ'
def wOp (op:Op) (x y:D) (Q:D->Prop):Prop:=∃ z,opD op x y = some z/\Q z
def zi (op:Cop) (x y:D) (Q:Bool->Prop):Prop:=∃ z,lO op x y = some z/\Q z
def zj (f:Blt) (ds:List D) (Q:D->Prop):Prop:=∃ z,kU f ds = some z/\Q z
def KC (f:Nat) (ds:List D) (Q:D->Prop):Prop:=∃ z,cx.call f ds = some z/\Q z
def Er (δ:Loc) (i:Nat) (Q:D->Prop):Prop:=∃ z,PP.get δ i = some z/\Q z
def wIx (x y:D) (Q:D->Prop):Prop:=∃ z,ixD x y = some z/\Q z
def wTv (x:D) (Q:Bool->Prop):Prop:=∃ z,tv x = some z/\Q z
def wItems (x:D) (Q:List D->Prop):Prop:=∃ z,items x = some z/\Q z
def OP (k:Nat) (tg:Tg) (ifs:Eo) (elt:E):D->Loc->Option (Option D × Loc):=λx δ0=>do
 let δ2 <- fZ (δ0++bc k .no) tg x
 let (b,δ3) <- evG cx ifs δ2
 if b then do
  let (y,δ4) <- evE cx elt δ3
  return (some y,δ4.take δ0.length)
 else return (none,δ3.take δ0.length)
def qB (k:Nat) (tg:Tg) (ifs:Eo) (elt:E) (ds:List D) (δ:Loc) (Q:List D->Loc->Prop):Prop:=∃ ys δ',nE (OP cx k tg ifs elt) ds δ = some (ys,δ')/\Q ys δ'
def PQ (tg:Tg) (body:Ss):D->Loc->Option Out:=λx δ0=>match fZ δ0 tg x with
 | some δ2=>dD cx body δ2
 | none=>none
def kq (tg:Tg) (body:Ss) (ds:List D) (δ:Loc) (Q:Out->Prop):Prop:=∃ o,forL (PQ cx tg body) ds δ = some o/\Q o
def uR (c:E) (body:Ss) (n:Nat) (δ:Loc) (Q:Out->Prop):Prop:=∃ o,me (λδ0=>evT cx c δ0) (λδ0=>dD cx body δ0) n δ = some o/\Q o
end
section
variable {α β γ:Type} {P P':α->Loc->Prop} {R R':α->Prop} {Q:β->Loc->Prop} {S:γ->Prop} {o:Option (α × Loc)} {u:Option α} {f:α × Loc->Option (β × Loc)} {g:α->Option (β × Loc)} {f':α × Loc->Option γ} {g':α->Option γ} {d:β} {r:γ} {δ:Loc} {c:Prop} [Decidable c]
def yb:(∃ r,o.bind f' = some r/\S r)↔∃ x δ1,o = some (x,δ1)/\∃ r,f' (x,δ1) = some r/\S r:=by
 cases o with
 | none=>exact ⟨λ⟨_,e,_⟩=>(by cases e),λ⟨_,_,e,_⟩=>(by cases e)⟩
 | some p=>exact ⟨λh=>⟨p.1,p.2,rfl,h⟩,λ⟨_,_,e,h⟩=>by cases e;exact h⟩
def yqs:(∃ r,u.bind g' = some r/\S r)↔∃ x,u = some x/\∃ r,g' x = some r/\S r:=by
 cases u with
 | none=>exact ⟨λ⟨_,e,_⟩=>(by cases e),λ⟨_,e,_⟩=>(by cases e)⟩
 | some p=>exact ⟨λh=>⟨p,rfl,h⟩,λ⟨_,e,h⟩=>by cases e;exact h⟩
def yr:(∃ r',some r = some r'/\S r')↔S r:=⟨λ⟨_,e,h⟩=>(by cases e;exact h),λh=>⟨_,rfl,h⟩⟩
def yi:(∃ r',(if c then some r else none) = some r'/\S r')↔c/\S r:=by
 by_cases h:c
 . rw [if_pos h];exact yr.trans ⟨λq=>⟨h,q⟩,λq=>q.2⟩
 . rw [if_neg h];exact ⟨λ⟨_,e,_⟩=>(by cases e),λq=>absurd q.1 h⟩
def yn {A:Prop} (h:¬ A):(∃ r',(none:Option γ) = some r'/\S r')↔A:=⟨λ⟨_,e,_⟩=>(by cases e),λq=>absurd q h⟩
def xq {o:Option (β × Loc)}:(∃ d δ',o = some (d,δ')/\Q d δ')↔∃ r,o = some r/\Q r.1 r.2:=⟨λ⟨_,_,e,q⟩=>⟨_,e,q⟩,λ⟨r,e,q⟩=>⟨r.1,r.2,e,q⟩⟩
def xb:(∃ d δ',o.bind f = some (d,δ')/\Q d δ')↔∃ x δ1,o = some (x,δ1)/\∃ d δ',f (x,δ1) = some (d,δ')/\Q d δ':=xq.trans (yb.trans ⟨λ⟨x,y,e,h⟩=>⟨x,y,e,xq.mpr h⟩,λ⟨x,y,e,h⟩=>⟨x,y,e,xq.mp h⟩⟩)
def x1:(∃ d δ',u.bind g = some (d,δ')/\Q d δ')↔∃ x,u = some x/\∃ d δ',g x = some (d,δ')/\Q d δ':=xq.trans (yqs.trans ⟨λ⟨x,e,h⟩=>⟨x,e,xq.mpr h⟩,λ⟨x,e,h⟩=>⟨x,e,xq.mp h⟩⟩)
def xr:(∃ d' δ',some (d,δ) = some (d',δ')/\Q d' δ')↔Q d δ:=xq.trans yr
def xi:(∃ d' δ',(if c then some (d,δ) else none) = some (d',δ')/\Q d' δ')↔c/\Q d δ:=xq.trans yi
def xn {A:Prop} (h:¬ A):(∃ d' δ',(none:Option (β × Loc)) = some (d',δ')/\Q d' δ')↔A:=xq.trans (yn h)
def xc (h:∀ x δ,P x δ↔P' x δ):(∃ x δ1,o = some (x,δ1)/\P x δ1)↔∃ x δ1,o = some (x,δ1)/\P' x δ1:=⟨λ⟨x,δ,e,p⟩=>⟨x,δ,e,(h x δ).mp p⟩,λ⟨x,δ,e,p⟩=>⟨x,δ,e,(h x δ).mpr p⟩⟩
def xd (h:∀ x,R x↔R' x):(∃ x,u = some x/\R x)↔∃ x,u = some x/\R' x:=⟨λ⟨x,e,p⟩=>⟨x,e,(h x).mp p⟩,λ⟨x,e,p⟩=>⟨x,e,(h x).mpr p⟩⟩
end
def PY {b:Bool} {P:Bool->Prop}:(∃ k,D.bl b = D.bl k/\P k)↔P b:=⟨λ⟨_,e,q⟩=>by cases e;exact q,λq=>⟨_,rfl,q⟩⟩
def GZ {b:Int} {P:Int->Prop}:(∃ k,D.int b = D.int k/\P k)↔P b:=⟨λ⟨_,e,q⟩=>by cases e;exact q,λq=>⟨_,rfl,q⟩⟩
def yh {b:List D} {P:List D->Prop}:(∃ k,D.lst b = D.lst k/\P k)↔P b:=⟨λ⟨_,e,q⟩=>by cases e;exact q,λq=>⟨_,rfl,q⟩⟩
section
variable {cx:Cl} {δ:Loc}
def LI {i:Nat} {Q:D->Loc->Prop}:wE cx (.var i) δ Q↔∃ d,GV δ i = some d/\Q d (demote δ i):=x1.trans (xd λ_=>xr)
def ON {i:Nat} {Q:D->Loc->Prop}:wE cx (.pk i) δ Q↔Er δ i λd=>Q d δ:=x1.trans (xd λ_=>xr)
def LN {i:Int} {Q:D->Loc->Prop}:wE cx (.int i) δ Q↔Q (.int i) δ:=xr
def LK {i:Str} {Q:D->Loc->Prop}:wE cx (.str i) δ Q↔Q (.str i) δ:=xr
def LQ {op:Op} {a b:E} {Q:D->Loc->Prop}:wE cx (.bin op a b) δ Q↔wE cx a δ λx δ1=>wE cx b δ1 λy δ2=>wOp op x y λz=>Q z δ2:=xb.trans (xc λ_ _=>xb.trans (xc λ_ _=>x1.trans (xd λ_=>xr)))
def LO {op:Cop} {a b:E} {Q:D->Loc->Prop}:wE cx (.cmp op a b) δ Q↔wE cx a δ λx δ1=>wE cx b δ1 λy δ2=>zi op x y λz=>Q (.bl z) δ2:=xb.trans (xc λ_ _=>xb.trans (xc λ_ _=>x1.trans (xd λ_=>xr)))
def LB {op:Cop} {a b:E} {Q:Bool->Loc->Prop}:wT cx (.cmp op a b) δ Q↔wE cx a δ λx δ1=>wE cx b δ1 λy δ2=>zi op x y λz=>Q z δ2:=xb.trans (xc λ_ _=>xb.trans (xc λ_ _=>x1.trans (xd λ_=>xr)))
def LR {a b:E} {Q:D->Loc->Prop}:wE cx (.and a b) δ Q↔wE cx a δ λx δ1=>∃ k,x = .bl k/\if k = true then wE cx b δ1 Q else Q (.bl false) δ1:=xb.trans (xc λx _=>by
 cases x with
 | bl k=>refine Iff.trans ?_ PY.symm;cases k;exact xr;exact cY
 | _=>exact xn λ⟨_,e,_⟩=>by cases e)
def LL {a:E} {Q:D->Loc->Prop}:wE cx (.neg a) δ Q↔wE cx a δ λx δ1=>∃ i,x = .int i/\Q (.int (-i)) δ1:=xb.trans (xc λx _=>by
 cases x with
 | int k=>refine Iff.trans ?_ GZ.symm;exact xr
 | _=>exact xn λ⟨_,e,_⟩=>by cases e)
def OI {a b:E} {Q:Bool->Loc->Prop}:wT cx (.or a b) δ Q↔wT cx a δ λk δ1=>if k = true then Q true δ1 else wT cx b δ1 Q:=xb.trans (xc λk _=>by cases k;exact cY;exact xr)
def LA {a:E} {Q:Bool->Loc->Prop}:wT cx (.not a) δ Q↔wT cx a δ λk δ1=>Q (!k) δ1:=xb.trans (xc λ_ _=>xr)
def Lz {i:Nat} {Q:Bool->Loc->Prop}:wT cx (.var i) δ Q↔Er δ i λd=>wTv d λb=>Q b δ:=x1.trans (xd λ_=>x1.trans (xd λ_=>xr))
def LJ {es:Es} {Q:D->Loc->Prop}:wE cx (.tup es) δ Q↔wEs cx es δ λds δ1=>ds.length<=sizeLine/\Q (.tup ds) δ1:=xb.trans (xc λ_ _=>xi)
def LM {es:Es} {Q:D->Loc->Prop}:wE cx (.lst es) δ Q↔wEs cx es δ λds δ1=>ds.length<=sizeLine/\Q (.lst ds) δ1:=xb.trans (xc λ_ _=>xi)
def OO {a b:E} {Q:D->Loc->Prop}:wE cx (.ix a b) δ Q↔wE cx a δ λx δ1=>wE cx b δ1 λy δ2=>wIx x y λz=>Q z δ2:=xb.trans (xc λ_ _=>xb.trans (xc λ_ _=>x1.trans (xd λ_=>xr)))
def mO {f:Nat} {es:Es} {Q:D->Loc->Prop}:wE cx (.call f es) δ Q↔wEs cx es δ λds δ1=>KC cx f ds λz=>Q z δ1:=xb.trans (xc λ_ _=>x1.trans (xd λ_=>xr))
def LP {f:Blt} {es:Es} {Q:D->Loc->Prop}:wE cx (.blt f es) δ Q↔wEs cx es δ λds δ1=>zj f ds λz=>Q z δ1:=xb.trans (xc λ_ _=>x1.trans (xd λ_=>xr))
def Ii {Q:List D->Loc->Prop}:wEs cx .nil δ Q↔Q [] δ:=xr
def Et {e:E} {es:Es} {Q:List D->Loc->Prop}:wEs cx (.cons e es) δ Q↔wE cx e δ λx δ1=>wEs cx es δ1 λxs δ2=>Q (x::xs) δ2:=xb.trans (xc λ_ _=>xb.trans (xc λ_ _=>xr))
def OM {Q:Bool->Loc->Prop}:wG cx .no δ Q↔Q true δ:=xr
def LH {e:E} {Q:Bool->Loc->Prop}:wG cx (.yes e) δ Q↔wT cx e δ Q:=cY
def LG {e:E} {Q:List D->Loc->Prop}:wI cx (.rng e) δ Q↔wE cx e δ λx δ1=>∃ j,x = .int j/\(-(2 ^ 62)<=j/\j < 2 ^ 62)/\Q (qN 0 j.toNat) δ1:=xb.trans (xc λx _=>by
 cases x with
 | int k=>refine Iff.trans ?_ GZ.symm;exact xi
 | _=>exact xn λ⟨_,e,_⟩=>by cases e)
def OL {e:E} {Q:List D->Loc->Prop}:wI cx (.sq e) δ Q↔wE cx e δ λx δ1=>wItems x λds=>Q ds δ1:=xb.trans (xc λ_ _=>x1.trans (xd λ_=>xr))
def uU {k:Nat} {tg:Tg} {src:It} {ifs:Eo} {elt:E} {Q:D->Loc->Prop}:wE cx (.comp k tg src ifs elt) δ Q↔wI cx src δ λds δ1=>qB cx k tg ifs elt ds δ1 λys δ2=>ys.length<=sizeLine/\Q (.lst ys) δ2:=xb.trans (xc λ_ _=>xb.trans (xc λ_ _=>xi))
def Cr {k:Nat} {tg:Tg} {ifs:Eo} {elt:E} {Q:List D->Loc->Prop}:qB cx k tg ifs elt [] δ Q↔Q [] δ:=xr
def zh {k:Nat} {tg:Tg} {ifs:Eo} {elt:E} {x:D} {xs:List D} {Q:List D->Loc->Prop}:qB cx k tg ifs elt (x::xs) δ Q↔wTg (δ++bc k .no) tg x λδ2=>wG cx ifs δ2 λb δ3 =>
 if b = true then wE cx elt δ3 λy δ4=>qB cx k tg ifs elt xs (δ4.take δ.length) λys δ5=>Q (y::ys) δ5 else qB cx k tg ifs elt xs (δ3.take δ.length) Q:=xb.trans (x1.trans (xd λ_=>xb.trans (xc λb _=>by cases b;exact xr.trans (xb.trans (xc λ_ _=>xr));exact xb.trans (xc λ_ _=>xr.trans (xb.trans (xc λ_ _=>xr))))))
end
section
variable (cx:Cl)
def qE (ss:Ss) (Q:Out->Prop):Out->Prop
 | .nx δ=>wSs cx ss δ Q
 | .rt d δ=>Q (.rt d δ)
 | .ro d δ=>Q (.ro d δ)
end
def xY (next:Loc->Prop) (Q:Out->Prop):Out->Prop
 | .nx δ=>next δ
 | .rt d δ=>Q (.rt d δ)
 | .ro d δ=>Q (.ro d δ)
def qA (δ:Loc) (i:Nat) (s:Sl) (Q:Loc->Prop):Prop:=i < δ.length/\Q (δ.set i s)
def Cf (pre δ:Loc) (i:Nat) (s:Sl) (Q:Loc->Prop):Prop:=i < δ.length/\Q (pre.reverse++δ.set i s)
def Qu (δ:Loc) (i:Nat) (s:Sl) (Q:Loc->Prop):Prop:=Q (δ.set i s)
def tL (pre δ:Loc) (i:Nat) (s:Sl) (Q:Loc->Prop):Prop:=Q (pre.reverse++δ.set i s)
def wN (pre δ:Loc) (Q:Loc->Prop):Prop:=Q (pre.reverse++δ)
def DX (δ0:Loc) (j:Nat) (δ:Loc) (i:Nat) (Q:D->Loc->Prop):Prop:=match δ[i]? with
 | some (.val d)=>Q d δ0
 | some (.own ds)=>Q (.lst ds) (δ0.set j (.val (.lst ds)))
 | _=>False
def mM (δ:Loc) (i:Nat) (Q:List D->Prop):Prop:=match δ[i]? with
 | some (.own ds)=>Q ds
 | _=>False
section
variable {cx:Cl} {δ pre:Loc}
def iG {ss:Ss} {Q:Out->Prop}:qE cx ss Q (.nx δ)↔wSs cx ss δ Q:=cY
def EB {ss:Ss} {Q:Out->Prop} {d:D}:qE cx ss Q (.rt d δ)↔Q (.rt d δ):=cY
def Gr {n:Loc->Prop} {Q:Out->Prop}:xY n Q (.nx δ)↔n δ:=cY
def DY {i:Nat} {s:Sl} {Q:Loc->Prop}:qA δ i s Q↔Cf [] δ i s Q:=cY
def Ce {i:Nat} {s t:Sl} {Q:Loc->Prop}:Cf pre (t::δ) (i+1) s Q↔Cf (t::pre) δ i s Q:=by simp [Cf]
def Cd {s t:Sl} {Q:Loc->Prop}:Cf pre (t::δ) 0 s Q↔wN pre (s::δ) Q:=by simp [Cf,wN]
def Ef {i:Nat} {s:Sl} {Q:Loc->Prop}:Qu δ i s Q↔tL [] δ i s Q:=cY
def zd {i:Nat} {s t:Sl} {Q:Loc->Prop}:tL pre (t::δ) (i+1) s Q↔tL (t::pre) δ i s Q:=by simp [tL]
def zc {s t:Sl} {Q:Loc->Prop}:tL pre (t::δ) 0 s Q↔wN pre (s::δ) Q:=by simp [tL,wN]
def Cn {t:Sl} {Q:Loc->Prop}:wN (t::pre) δ Q↔wN pre (t::δ) Q:=by simp [wN]
def Ed {Q:Loc->Prop}:wN [] δ Q↔Q δ:=cY
def Ci {δ0:Loc} {i j:Nat} {t:Sl} {Q:D->Loc->Prop}:DX δ0 j (t::δ) (i+1) Q↔DX δ0 j δ i Q:=cY
def DW {δ0:Loc} {j:Nat} {d:D} {Q:D->Loc->Prop}:DX δ0 j (.val d::δ) 0 Q↔Q d δ0:=cY
def Cq {i:Nat} {t:Sl} {Q:D->Prop}:Er (t::δ) (i+1) Q↔Er δ i Q:=cY
def Ep {ds:List D} {Q:D->Prop}:Er (.own ds::δ) 0 Q↔Q (.lst ds):=yr
def Co {i:Nat} {t:Sl} {Q:List D->Prop}:mM (t::δ) (i+1) Q↔mM δ i Q:=cY
def Eg {ds:List D} {Q:List D->Prop}:mM (.own ds::δ) 0 Q↔Q ds:=cY
def Ij {i:Nat} {Q:D->Loc->Prop}:wE cx (.var i) δ Q↔DX δ i δ i Q:=by
 rw [LI];unfold GV DX PP.get demote
 cases h:δ[i]? with
 | none=>simp
 | some s=>cases s<;>simp
def pN {Q:Out->Prop}:wSs cx .nil δ Q↔Q (.nx δ):=yr
def cL {s:S} {ss:Ss} {Q:Out->Prop}:wSs cx (.cons s ss) δ Q↔wS cx s δ (qE cx ss Q):=by
 unfold wSs wS;simp only [dD]
 cases evS cx s δ with
 | none=>exact yn (λ⟨_,e,_⟩=>by cases e)
 | some o =>
   refine Iff.trans ?_ yr.symm
   cases o with
   | nx δ1=>exact cY
   | _=>exact yr
def yZ {tg:Tg} {e:E} {Q:Out->Prop}:wS cx (.asg tg e) δ Q↔wE cx e δ λd δ1=>wTg δ1 tg d λδ2=>Q (.nx δ2):=yb.trans (xc λ_ _=>yqs.trans (xd λ_=>yr))
def Ly {i:Nat} {d:D} {Q:Loc->Prop}:wTg δ (.nm i) d Q↔qA δ i (.val d) Q:=yi
def Lx {is:List Nat} {ds:List D} {Q:Loc->Prop}:wTg δ (.tp is) (.tup ds) Q↔(is.length = ds.length/\is.all (· < δ.length) = true)/\Q ((is.zip ds).foldl (λδ p=>δ.set p.1 (.val p.2)) δ):=yi
def Ea {i:Nat} {e:E} {Q:Out->Prop}:wS cx (.new i e) δ Q↔wE cx e δ λd δ1=>∃ ds,d = .lst ds/\qA δ1 i (.own ds) λδ2=>Q (.nx δ2):=yb.trans (xc λx _=>by
 cases x with
 | lst k=>refine Iff.trans ?_ yh.symm;exact yi
 | _=>exact yn λ⟨_,e,_⟩=>by cases e)
def LD {own:Bool} {i:Nat} {e:E} {Q:Out->Prop}:wS cx (.cmp own i e) δ Q↔wE cx e δ λd δ1=>∃ ds,d = .lst ds/\qA δ1 i (bif own then .own ds else .val (.lst ds)) λδ2=>Q (.nx δ2):=yb.trans (xc λx _=>by
 cases x with
 | lst k=>refine Iff.trans ?_ yh.symm;cases own<;>exact yi
 | _=>exact yn λ⟨_,e,_⟩=>by cases e)
def Ia {i:Nat} {e:E} {Q:Out->Prop}:wS cx (.cmp false i e) δ Q↔wE cx e δ λd δ1=>∃ ds,d = .lst ds/\qA δ1 i (.val (.lst ds)) λδ2=>Q (.nx δ2):=LD
def yY {e:E} {Q:Out->Prop}:wS cx (.ret e) δ Q↔wE cx e δ λd δ1=>Q (.rt d δ1):=yb.trans (xc λ_ _=>yr)
def Eb {c:E} {a b:Ss} {Q:Out->Prop}:wS cx (.ifs c a b) δ Q↔wT cx c δ λk δ1=>if k = true then wSs cx a δ1 Q else wSs cx b δ1 Q:=yb.trans (xc λk _=>by cases k<;>exact cY)
def Ec {tg:Tg} {src:It} {body:Ss} {Q:Out->Prop}:wS cx (.for_ tg src body) δ Q↔wI cx src δ λds δ1=>kq cx tg body ds δ1 Q:=yb.trans (xc λ_ _=>cY)
def wM {c:E} {body:Ss} {Q:Out->Prop}:wS cx (.while_ c body) δ Q↔uR cx c body 1000 δ Q:=cY
def tJ {i:Nat} {e:E} {Q:Out->Prop}:wS cx (.append i e) δ Q↔mM δ i λ_=>wE cx e δ λd δ1=>mM δ1 i λds=>ds.length < sizeLine/\qA δ1 i (.own (ds++[d])) λδ2=>Q (.nx δ2):=by
 unfold wS mM;simp only [evS]
 cases δ[i]? with
 | none=>exact yn id
 | some s =>
   cases s with
   | own ds0 =>
     refine yb.trans (xc λd δ1=>?_);dsimp only
     cases h1:δ1[i]? with
     | none=>exact yn id
     | some s =>
       cases s with
       | own ds=>exact yi.trans ⟨λq=>⟨q.1,(aD.mp h1).1,q.2⟩,λq=>⟨q.1,q.2.2⟩⟩
       | _=>exact yn id
   | _=>exact yn id
def Cm {i:Nat} {e:E} {Q:Out->Prop}:wS cx (.extend i e) δ Q↔mM δ i λ_=>wE cx e δ λd δ1=>∃ ys,d = .lst ys/\mM δ1 i λds=>ds.length+ys.length<=sizeLine/\qA δ1 i (.own (ds++ys)) λδ2=>Q (.nx δ2):=by
 unfold wS mM;simp only [evS]
 cases δ[i]? with
 | none=>exact yn id
 | some s =>
   cases s with
   | own ds0 =>
     refine yb.trans (xc λd δ1=>?_)
     cases d with
     | lst ys =>
       refine Iff.trans ?_ yh.symm;dsimp only
       cases h1:δ1[i]? with
       | none=>exact yn id
       | some s =>
         cases s with
         | own ds=>exact yi.trans ⟨λq=>⟨q.1,(aD.mp h1).1,q.2⟩,λq=>⟨q.1,q.2.2⟩⟩
         | _=>exact yn id
     | _=>exact yn λ⟨_,e,_⟩=>by cases e
   | _=>exact yn id
def DZ {i:Nat} {j e:E} {Q:Out->Prop}:wS cx (.setix i j e) δ Q↔wE cx e δ λd δ1=>mM δ1 i λ_=>wE cx j δ1 λy δ2=>mM δ2 i λds=>∃ k m,y = .int k/\L2.ixN ds.length k = some m/\qA δ2 i (.own (ds.set m d)) λδ3=>Q (.nx δ3):=yb.trans (xc λd δ1=>by
 unfold mM;dsimp only
 cases δ1[i]? with
 | none=>exact yn id
 | some s =>
   cases s with
   | own ds0 =>
     refine yb.trans (xc λy δ2=>?_)
     cases y with
     | int k =>
       dsimp only
       cases h2:δ2[i]? with
       | none=>exact yn id
       | some s =>
         cases s with
         | own ds =>
           dsimp only
           cases h3:L2.ixN ds.length k with
           | none=>exact yn λ⟨_,_,e1,e2,_⟩=>by cases e1;rw [h3] at e2;cases e2
           | some m=>exact yr.trans ⟨λq=>⟨_,_,rfl,h3,(aD.mp h2).1,q⟩,λ⟨_,_,e1,e2,_,q⟩=>by cases e1;rw [h3] at e2;cases e2;exact q⟩
         | _=>exact yn id
     | _ =>
       refine yn ?_;split
       . exact λ⟨_,_,e,_⟩=>by cases e
       . exact id
   | _=>exact yn id)
def jx {tg:Tg} {body:Ss} {Q:Out->Prop}:kq cx tg body [] δ Q↔Q (.nx δ):=yr
def iB {tg:Tg} {body:Ss} {x:D} {xs:List D} {Q:Out->Prop}:kq cx tg body (x::xs) δ Q↔wTg δ tg x λδ2=>wSs cx body δ2 (xY (λδ3=>kq cx tg body xs δ3 Q) Q):=by
 unfold kq wTg wSs;simp only [forL,PQ]
 cases fZ δ tg x with
 | none=>exact yn (λ⟨_,e,_⟩=>by cases e)
 | some δ2 =>
   refine Iff.trans ?_ yr.symm;dsimp only
   cases dD cx body δ2 with
   | none=>exact yn (λ⟨_,e,_⟩=>by cases e)
   | some o =>
     refine Iff.trans ?_ yr.symm
     cases o with
     | nx δ1=>exact cY
     | _=>exact yr
def kC {c:E} {body:Ss} {n:Nat} {Q:Out->Prop}:uR cx c body (n+1) δ Q↔wT cx c δ λk δ1=>if k = true then wSs cx body δ1 (xY (λδ3=>uR cx c body n δ3 Q) Q) else Q (.nx δ1):=by
 unfold uR wT wSs;simp only [me]
 cases evT cx c δ with
 | none=>exact yn (λ⟨_,_,e,_⟩=>by cases e)
 | some p =>
   refine Iff.trans ?_ (xq.trans yr).symm;obtain ⟨k,δ1⟩:=p
   cases k with
   | false=>exact yr
   | true =>
     dsimp only
     cases dD cx body δ1 with
     | none=>exact yn (λ⟨_,e,_⟩=>by cases e)
     | some o =>
       refine Iff.trans ?_ yr.symm
       cases o with
       | nx δ1=>exact cY
       | _=>exact yr
def wQ {tg:Tg} {body:Ss} {Q:Out->Prop} (P:List D->Loc->Prop) (step:∀ x xs δ,P (x::xs) δ->wTg δ tg x λδ2=>wSs cx body δ2 (xY (P xs) Q)) (fin:∀ δ,P [] δ->Q (.nx δ)):∀ (ds:List D) (δ:Loc),P ds δ->kq cx tg body ds δ Q
 | [],δ,h=>jx.mpr (fin δ h)
 | x::xs,δ,h=>by
   rw [iB];obtain ⟨δ2,e,o,e2,q⟩:=step x xs δ h;refine ⟨δ2,e,o,e2,?_⟩
   cases o with
   | nx δ1=>exact wQ P step fin xs δ1 q
   | rt d δ1=>exact q
   | ro d δ1=>exact q
end
def En {a b:Int} {Q:D->Prop}:wOp .add (.int a) (.int b) Q↔Q (.int (a+b)):=yr
def Eh {a b:Int} {Q:D->Prop}:wOp .sub (.int a) (.int b) Q↔Q (.int (a - b)):=yr
def Ej {a b:Int} {Q:D->Prop}:wOp .mul (.int a) (.int b) Q↔oZ a b = true/\Q (.int (a * b)):=yi
def Ek {a b:Int} {Q:D->Prop}:wOp .mod (.int a) (.int b) Q↔0 < b/\Q (.int (a % b)):=yi
def Cp {a b:Int} {Q:D->Prop}:wOp .fdiv (.int a) (.int b) Q↔(0 < b/\b < 1000000000000000000000000000000000000000000000000000000000000)/\Q (.int (a / b)):=yi
def El {a b:Str} {Q:D->Prop}:wOp .add (.str a) (.str b) Q↔a.length+b.length<=sizeLine/\Q (.str (a++b)):=yi
def Ei {a:Str} {b:Int} {Q:D->Prop}:wOp .mul (.str a) (.int b) Q↔(0<=b/\b<=1000/\a.length<=1000)/\Q (.str (xF a b.toNat)):=yi
def Em {a b:List D} {Q:D->Prop}:wOp .add (.lst a) (.lst b) Q↔a.length+b.length<=sizeLine/\Q (.lst (a++b)):=yi
def Il {a b:Int} {Q:Bool->Prop}:zi .lt (.int a) (.int b) Q↔Q (decide (a < b)):=yr
def Im {a b:Int} {Q:Bool->Prop}:zi .gt (.int a) (.int b) Q↔Q (decide (b < a)):=yr
def Eu {a b:Str} {Q:Bool->Prop}:zi .eq (.str a) (.str b) Q↔Q (a == b):=yr
def wU {a:D} {ds:List D} {Q:Bool->Prop}:zi .isin a (.tup ds) Q↔(dep a<=150/\cI ds < 99999)/\Q (ds.any λy=>eqD y a):=yi
def Cw {ds:List D} {Q:D->Prop}:zj .len [.lst ds] Q↔Q (.int ds.length):=yr
def Ct {ds:List D} {Q:D->Prop}:zj .toTup [.lst ds] Q↔Q (.tup ds):=yr
def Cv {ds:List D} {Q:D->Prop}:zj .toLst [.lst ds] Q↔Q (.lst ds):=yr
def Cu {ds:List D} {Q:D->Prop}:zj .toLst [.tup ds] Q↔Q (.lst ds):=yr
def wV {ds:List D} {Q:D->Prop}:zj .sorted [.lst ds] Q↔sortable ds = true/\Q (.lst (fN ds)):=yi
def HY {ds:List D} {Q:Bool->Prop}:wTv (.lst ds) Q↔Q (!ds.isEmpty):=yr
def Ih {ds:List D} {i:Int} {Q:D->Prop}:wIx (.lst ds) (.int i) Q↔∃ d,L2.atI ds i = some d/\Q d:=cY
def zf {ds:List D} {Q:List D->Prop}:wItems (.lst ds) Q↔Q ds:=yr
def ze {ds:List D} {Q:List D->Prop}:wItems (.tup ds) Q↔Q ds:=yr
def jw (G:List Fd) (gl:List D) (n i:Nat) (ds:List D) (Q:D->Prop):Prop:=∃ d,PP.run G gl n i ds = some d/\Q d
def retS (Q:D->Prop):Out->Prop
 | .rt d _=>Q d
 | .nx _=>Q .non
 | .ro d _=>Q d
def tK {G:List Fd} {gl:List D} {n i:Nat} {ds:List D} {P Q:D->Prop} (h:jw G gl n i ds P) (k:∀ d,P d->Q d):jw G gl n i ds Q:=by
 obtain ⟨d,e,p⟩:=h;exact ⟨d,e,k d p⟩
def bh {G:List Fd} {gl:List D} {n i:Nat} {ds:List D} {Q:D->Prop} (fd:Fd) (h:G[i]? = some fd) (hl:ds.length = fd.ps.length) (hf:fd.hf = false) (q:wSs ⟨PP.run G gl n,gl,hfs G⟩ fd.body (init (fd.ps++fd.loc).length ds) (retS Q)):jw G gl (n+1) i ds Q:=by
 obtain ⟨o,e,q⟩:=q;unfold jw
 have:PP.run G gl (n+1) i ds = outD (dD ⟨PP.run G gl n,gl,hfs G⟩ fd.body (init (fd.ps++fd.loc).length ds)):=by
  conv=>lhs;unfold PP.run
  rw [h];dsimp only;rw [if_pos hl,hf];rfl
 rw [this,e]
 cases o with
 | rt d δ=>exact ⟨d,rfl,q⟩
 | ro d δ=>exact ⟨d,rfl,q⟩
 | nx δ=>exact ⟨.non,rfl,q⟩
def nX {G:List Fd} {gl:List D} {n f:Nat} {ds:List D} {Q:D->Prop}:KC ⟨PP.run G gl n,gl,hfs G⟩ f ds Q↔jw G gl n f ds Q:=cY
def IY {Q:D->Prop} {d:D} {δ:Loc}:retS Q (.rt d δ)↔Q d:=cY
def Ie {x:Str} {i:Int} {Q:D->Prop}:wIx (.str x) (.int i) Q↔x.length<=sizeLine/\∃ c,L2.atI x.cps.toList i = some c/\Q (.str ⟨#[c]⟩):=by
 unfold wIx ixD;dsimp only;constructor
 . rintro ⟨z,e,q⟩;split at e
   . rw [aJ] at e;obtain ⟨c,e,rfl⟩:=e;exact ⟨‹_›,c,e,q⟩
   . cases e
 . rintro ⟨h,c,e,q⟩;exact ⟨_,by rw [if_pos h,e];rfl,q⟩
def dv {G:List Fd} {gl:List D} {n i:Nat} {ds:List D} {d:D} {Q:D->Prop} (h:PP.run G gl n i ds = some d):jw G gl n i ds Q↔Q d:=by
 unfold jw;rw [h];exact ⟨λ⟨_,e,q⟩=>by cases e;exact q,λq=>⟨d,rfl,q⟩⟩
def bB {G:List Fd} {gl:List D} {n i:Nat} {ds:List D} {d:D} (h:jw G gl n i ds λx=>x = d):PP.run G gl n i ds = some d:=by
 obtain ⟨x,e,rfl⟩:=h;exact e
def Lj {α:Type} {ds:List α} {j:Int} (h0:0<=j) (h1:j < ds.length):∃ d,d∈ds/\L2.atI ds j = some d:=by
 have hk:j.toNat < ds.length:=by omega
 refine ⟨ds[j.toNat],kh hk,?_⟩;have:=L2.atI_nat (xs:=ds) (j:=j.toNat) (v:=ds[j.toNat]) (aA hk)
 rwa [show ((j.toNat:Nat):Int) = j by omega] at this
def mul_r {a b:Int} (h0:-(2 ^ 64) < b) (h1:b < 2 ^ 64):oZ a b = true:=by
 unfold oZ;simp only [decide_eq_true h0,decide_eq_true h1,fo,Bool.or_true,Bool.true_or]
def IX {lo:Int} {n:Nat} {x:D} (h:x∈qN lo n):∃ i:Nat,i < n/\x = .int (lo+i):=by
 unfold qN at h;rw [aW] at h;obtain ⟨i,hi,rfl⟩:=h;exact ⟨i,by simpa using hi,rfl⟩
def AM {lo:Int} {n:Nat}:(qN lo n).length = n:=by simp [qN]
def Av {δ:Loc} {i j:Nat} {a b:D} {Q:Loc->Prop}:wTg δ (.tp [i,j]) (.tup [a,b]) Q↔qA δ i (.val a) λδ1=>qA δ1 j (.val b) Q:=by
 rw [Lx];unfold qA;simp only [nM,List.all_nil,bO,Bool.and_true,aa,decide_eq_true_eq];exact ⟨λ⟨⟨_,h1,h2⟩,q⟩=>⟨h1,h2,q⟩,λ⟨h1,h2,q⟩=>⟨⟨rfl,h1,h2⟩,q⟩⟩
def SI:=ax (@bp.{0,0}) (ax (@yR.{0,0}) (ax (@List.cons_append.{0}) (ax (@Kx.{0}) (ax (@bw.{0}) (ax (@aI.{0}) (ax (@bR.{0}) (ax (@List.replicate_succ.{0}) (@List.replicate_zero.{0}))))))))
def WI:(∀ a b:Prop,(if True then a else b) = a)/\(∀ a b:Prop,(if False then a else b) = b)/\((false = true) = False)/\∀ (p:Prop) [Decidable p],(decide p = true) = p:=⟨λ_ _=>if_pos trivial,λ_ _=>if_neg id,↥0,λp _=>by simp⟩
def WS:=ax (@ON) (ax (@LN) (ax (@LK) (ax (@LQ) (ax (@LO) (ax (@LB) (ax (@LR) (ax (@LL) (ax (@OI) (ax (@LA) (ax (@Lz) (ax (@LJ) (ax (@LM) (ax (@OO) (ax (@mO) (ax (@LP) (ax (@Ii) (ax (@Et) (ax (@OM) (ax (@LH) (ax (@LG) (ax (@OL) (ax (@uU) (ax (@iG) (ax (@EB) (ax (@Gr) (ax (@DY) (ax (@Ce) (ax (@Cd) (ax (@Ef) (ax (@zd) (ax (@zc) (ax (@Cn) (ax (@Ed) (ax (@Ci) (ax (@DW) (ax (@Cq) (ax (@Ep) (ax (@Co) (ax (@Eg) (ax (@Ij) (ax (@pN) (ax (@cL) (ax (@yZ) (ax (@Ly) (ax (@Ea) (ax (@yY) (ax (@Eb) (ax (@Ec) (ax (@tJ) (ax (@Cm) (ax (@En) (ax (@Eh) (ax (@Ej) (ax (@Ek) (ax (@Cp) (ax (@El) (ax (@Ei) (ax (@Em) (ax (@Il) (ax (@Im) (ax (@Eu) (ax (@wU) (ax (@Cw) (ax (@Ct) (ax (@Cv) (ax (@Cu) (ax (@wV) (ax (@HY) (ax (@Ih) (ax (@zf) (ax (@ze) (ax (@nX) (ax (@IY) (ax (@Ie) (ax (@PY) (ax (@GZ) (ax (@yh) (ax (@Av) (nR)))))))))))))))))))))))))))))))))))))))))))))))))))))))))))))))))))))))))))))))
def uJ {α:Type} (e:∀ i j,i < n->j < n->lt i j = lt' i j):∀ (t:PySem.W.KasT α),inR lt n t->ans lt t = ans lt' t
 | .ret a,_=>rfl
 | .ask i j k,h=>by
   unfold inR at h;rw [fC,fC,<- e i j h.1 h.2.1];exact uJ e _ h.2.2
def uc {α β:Type} (d:α) (f:α->β) (xs:List α):(bo xs.length).map (λi=>f (xs.getD i d)) = xs.map f:=by
 apply List.ext_getElem
 . simp
 . intro i h1 h2;simp only [av] at h2;simp [km,aA h2]
def xj {α:Type} [Inhabited α] (g:α->D) (lt:α->α->Bool) (hlt:∀ x y,lN (g x) (g y) = some (lt x y)) (as:∀ a b,lt a b = true->lt b a = false) (tr:∀ a b c,lt b a = false->lt c b = false->lt c a = false) (xs:List α) :
 ∃ ys:List α,fN (xs.map g) = ys.map g/\ys.Perm xs/\∀ i j,i<=j->j < ys.length->lt (ys.getD j default) (ys.getD i default) = false:=by
 have rf:∀ a,lt a a = false:=λa=>by
  cases e:lt a a with
  | false=>rfl
  | true=>rw [as a a e] at e;cases e
 unfold fN;rw [av];split
 . rename_i h;refine ⟨xs,rfl,List.Perm.refl _,λi j h1 h2=>?_⟩;have:i = j:=by omega
   subst this;exact rf _
 . rename_i h
   have hg:∀ i,i < xs.length->(xs.map g).getD i .non = g (xs.getD i default):=λi hi=>by
    simp [km,aA hi]
   have e:ans (jn (xs.map g)) (PySem.W.kas_sort xs.length) = ans (λi j=>lt (xs.getD i default) (xs.getD j default)) (PySem.W.kas_sort xs.length):=by
    refine uJ (n:=xs.length) (λi j hi hj=>?_) _ (AG (by omega));unfold jn;rw [hg i hi,hg j hj,hlt];rfl
   rw [e];obtain ⟨z,p,u⟩:=Iy (lt:=λi j=>lt (xs.getD i default) (xs.getD j default)) ⟨λa b=>as _ _,λa b c=>tr _ _ _⟩ xs.length (by omega);have pl:(ans (λi j=>lt (xs.getD i default) (xs.getD j default)) (PySem.W.kas_sort xs.length)).toList.Perm (bo xs.length):=(letI:Tbs:=⟨[],[],[],[]⟩;gK _);generalize ans (λi j=>lt (xs.getD i default) (xs.getD j default)) (PySem.W.kas_sort xs.length) = r at z p u pl |-;refine ⟨r.toList.map λi=>xs.getD i default,?_,?_,λi j h1 h2=>?_⟩
   . rw [gJ];refine DG λi hi=>?_;exact hg i (by simpa using pl.mem_iff.mp hi)
   . have:=pl.map λi=>xs.getD i default
     rwa [show (bo xs.length).map (λi=>xs.getD i default) = xs from by simpa using uc default id xs] at this
   . rw [av,bu,z] at h2
     have hr:∀ k,k < xs.length->(r.toList.map λi=>xs.getD i default).getD k default = xs.getD (r.getD k 0) default:=λk hk=>by
      have hk':k < r.toList.length:=by rw [bu,z];exact hk
      have hk2:k < r.size:=by rw [z];exact hk
      simp [km,hk2,kz]
     rw [hr i (by omega),hr j h2];exact u i j h1 h2
section
variable {cx:Cl} {δ:Loc}
def iC {α:Type} (g:α->D) (p:α->Bool) (h:α->D):∀ (xs:List α),(∀ x∈xs,wTg (δ++bc k .no) tg (g x) λδ2=>wG cx ifs δ2 λb δ3=>b = p x/\if b = true then wE cx elt δ3 λy δ4=>y = h x/\δ4.take δ.length = δ else δ3.take δ.length = δ) ->
 Q ((xs.filter p).map h) δ->qB cx k tg ifs elt (xs.map g) δ Q
 | [],_,q=>Cr.mpr q
 | x::xs,hx,q=>by
   rw [bp,zh];obtain ⟨δ2,e,b,δ3,e2,rfl,e3⟩:=hx x au;refine ⟨δ2,e,_,δ3,e2,?_⟩
   cases hp:p x with
   | true =>
     rw [hp,if_pos rfl] at e3;obtain ⟨y,δ4,e4,rfl,t⟩:=e3;rw [if_pos rfl];refine ⟨_,δ4,e4,?_⟩;show qB cx k tg ifs elt _ (δ4.take δ.length) _;rw [t];refine iC g p h xs (λz hz=>hx z (ar _ hz)) ?_;rw [yO hp] at q
     exact q
   | false =>
     rw [hp,if_neg ao] at e3;rw [if_neg ao,e3];refine iC g p h xs (λz hz=>hx z (ar _ hz)) ?_;rw [kn (by simp [hp])] at q;exact q
def wO {α:Type} (g:α->D) (P:List α->Loc->Prop) (step:∀ x xs δ,P (x::xs) δ->wTg δ tg (g x) λδ2=>wSs cx body δ2 (xY (P xs) Q)) (fin:∀ δ,P [] δ->Q (.nx δ)) (xs:List α) (δ:Loc) (h:P xs δ):kq cx tg body (xs.map g) δ Q:=by
 induction xs generalizing δ with
 | nil=>exact jx.mpr (fin δ h)
 | cons x xs ih =>
   rw [bp,iB];obtain ⟨δ2,e,o,e2,q⟩:=step x xs δ h;refine ⟨δ2,e,o,e2,?_⟩
   cases o with
   | nx δ3=>exact ih δ3 q
   | rt d δ3=>exact q
   | ro d δ3=>exact q
end
section
variable {cx:Cl} {δ:Loc}
end
section
variable {cx:Cl} {δ:Loc}
end
end PP
end
section
namespace PP
open PySem SetTable
def lp (m:Nat) (x:Nat × Nat):Probe:={ j:=x.1,more:=runEnd m x.1 - x.1,i:=x.1,perturb:=x.2,dummy:=none }
def adv (m:Nat) (p:Probe):Probe:=if p.more > 0 then { p with j:=p.j+1,more:=p.more - 1 } else
 { p with j:=(leap m p.i p.perturb).1,more:=runEnd m (leap m p.i p.perturb).1 - (leap m p.i p.perturb).1,i:=(leap m p.i p.perturb).1,perturb:=(leap m p.i p.perturb).2 }
def Hz (t:eL) (p:Probe):t.advance p = adv t.mask p:=rfl
def sq (m:Nat) (h:Int):Nat->Probe
 | 0=>lp m (bits h % (m+1),bits h)
 | n+1=>adv m (sq m h n)
noncomputable abbrev pbs (m:Nat) (h:Int) (n:Nat):Nat:=(sq m h n).j
def itA (m:Nat):Nat->Probe->Probe
 | 0,p=>p
 | k+1,p=>itA m k (adv m p)
def yg (m:Nat):∀ (k:Nat) (p:Probe),itA m (k+1) p = adv m (itA m k p)
 | 0,p=>rfl
 | k+1,p=>yg m k (adv m p)
def va (m:Nat) (h:Int) (n:Nat):∀ k,sq m h (n+k) = itA m k (sq m h n)
 | 0=>rfl
 | k+1=>by rw [yg,<- va m h n k];rfl
def vL (m:Nat):∀ (a b:Nat) (p:Probe),itA m (a+b) p = itA m b (itA m a p)
 | 0,b,p=>by rw [ll];rfl
 | a+1,b,p=>by rw [oW];exact vL m a b (adv m p)
def tZ {m i:Nat} (h:i<=m):runEnd m i<=m:=by unfold runEnd;split<;>lia
def xB (m i:Nat):runEnd m i - i<=9:=by unfold runEnd;split<;>lia
def ua (m i:Nat):i<=runEnd m i:=by unfold runEnd;split<;>lia
structure Pok (m:Nat) (p:Probe):Prop where
 i:p.i<=m
 m:p.j+p.more = runEnd m p.i
 n:p.more<=9
 q:p.perturb < 2 ^ 64
 d:p.dummy = none
def Pok.j {m:Nat} {p:Probe} (h:Pok m p):p.j<=m:=by have:=tZ h.i;have:=h.m;lia
def KW (h:x.1<=m) (q:x.2 < 2 ^ 64):Pok m (lp m x):=⟨h,by show x.1+(runEnd m x.1 - x.1) = runEnd m x.1;have:=ua m x.1;lia,xB _ _,q,rfl⟩
def Bm (hq:q < 2 ^ 64):(leap m i q).1<=m/\(leap m i q).2 < 2 ^ 64:=by
 unfold leap;exact ⟨dz (ju _ (lq _)),dq (Nat.div_le_self _ _) hq⟩
def Oo (h:Pok m p):Pok m (adv m p):=by
 unfold adv;split
 . exact ⟨h.i,by have:=h.m;show p.j+1+(p.more - 1) = runEnd m p.i;lia,by have:=h.n;show p.more - 1<=9;lia,h.q,h.d⟩
 . have:=Bm (m:=m) (i:=p.i) h.q;have:=KW this.1 this.2;exact ⟨this.i,this.m,this.n,this.q,h.d⟩
def BJ (h:Int):bits h < 2 ^ 64:=by
 unfold bits;have h1:=bZ h (show (2 ^ 64:Int)≠0 by decide);have h2:=bL h (show (0:Int) < 2 ^ 64 by decide)
 lia
def AE (m:Nat) (h:Int):∀ n,Pok m (sq m h n)
 | 0=>KW (dz (ju _ (lq _))) (BJ h)
 | n+1=>Oo (AE m h n)
def mU (m:Nat):∀ (r:Nat) (p:Probe),p.more = r->p.dummy = none->itA m (r+1) p = lp m (leap m p.i p.perturb)
 | 0,p,h,d=>by
   show adv m p = _;unfold adv lp
   rw [if_neg ∅,d]
 | r+1,p,h,d=>by
   show itA m (r+1) (adv m p) = _;unfold adv;rw [if_pos ∅];exact mU m r _ (by show p.more - 1 = r;lia) d
def kP (m:Nat):Nat->Nat × Nat->Nat × Nat
 | 0,x=>x
 | k+1,x=>kP m k (leap m x.1 x.2)
def xX (m:Nat):∀ (a b:Nat) (x:Nat × Nat),kP m (a+b) x = kP m b (kP m a x)
 | 0,b,x=>by rw [ll];rfl
 | a+1,b,x=>by rw [oW];exact xX m a b _
def KY (m:Nat):∀ (k:Nat) (x:Nat × Nat),∃ s,s<=10 * k/\itA m s (lp m x) = lp m (kP m k x)
 | 0,x=>⟨0,∅,rfl⟩
 | k+1,x=>by
   obtain ⟨s,h1,h2⟩:=KY m k (leap m x.1 x.2);have h9:=xB m x.1;refine ⟨(runEnd m x.1 - x.1+1)+s,∅,?_⟩;rw [vL,mU m (runEnd m x.1 - x.1) (lp m x) rfl rfl];exact h2
def Gm (m:Nat):∀ (k:Nat) (x:Nat × Nat),(kP m k x).2 = x.2 / 32 ^ k
 | 0,x=>by simp [kP]
 | k+1,x=>by
   show (kP m k (leap m x.1 x.2)).2 = _;rw [Gm m k];show x.2 / 32 / 32 ^ k = _;rw [Nat.div_div_eq_div_mul,Nat.pow_succ,Nat.mul_comm]
def Gn (m:Nat):∀ (k:Nat) (x:Nat × Nat),x.1<=m->(kP m k x).1<=m
 | 0,x,h=>h
 | k+1,x,h=>Gn m k _ (dz (ju _ (lq _)))
def fit (m:Nat):Nat->Nat->Nat
 | 0,i=>i
 | c+1,i=>fit m c ((i * 5+1) % (m+1))
def qa (m:Nat):∀ (a b i:Nat),fit m (a+b) i = fit m b (fit m a i)
 | 0,b,i=>by rw [ll];rfl
 | a+1,b,i=>by rw [oW];exact qa m a b _
def Gp (m:Nat):∀ (k i:Nat),kP m k (i,0) = (fit m k i,0)
 | 0,i=>rfl
 | k+1,i=>by
   show kP m k (leap m i 0) = _;unfold leap;exact Gp m k _
def mk (m:Nat):Prop:=m = 7\/m = 31\/m = 127
def Kc (h:mk m):fit m (m+1) 0 = 0/\∀ T,T < m+1->∃ c,c < m+1/\fit m c 0 = T:=by
 rcases h with rfl | rfl | rfl<;>exact ⟨⇑0,⇑0⟩
def GX (h:mk m) (hi:i<=m) (hT:T<=m):∃ c,c<=m/\fit m c i = T:=by
 obtain ⟨h0,ha⟩:=Kc h;obtain ⟨a,a1,rfl⟩:=ha i ∅;obtain ⟨b,b1,rfl⟩:=ha T ∅;by_cases hab:a<=b
 . exact ⟨b - a,∅,by rw [<- qa];congr 1;lia⟩
 . refine ⟨(m+1 - a)+b,∅,?_⟩;rw [<- qa,show a+(m+1 - a+b) = (m+1)+b by lia,qa,h0]
def uo (h:mk m) (hi:x.1<=m) (hq:x.2 < 2 ^ 64) (hT:T<=m):∃ c,c<=m+13/\(kP m c x).1 = T:=by
 have q0:(kP m 13 x).2 = 0:=by
  rw [Gm];exact Nat.div_eq_of_lt (aY hq ⇑0)
 obtain ⟨c,c1,e⟩:=GX h (Gn m 13 x hi) hT;refine ⟨13+c,∅,?_⟩;rw [xX,show kP m 13 x = ((kP m 13 x).1,0) by rw [<- q0],Gp];exact e
def cov (hm:mk m) (h:Int) (n:Nat) (hT:T<=m):∃ N,n<=N/\N < n+10 * turns m/\pbs m h N = T:=by
 have ok:=AE m h n;have lo:=Bm (m:=m) (i:=(sq m h n).i) ok.q;obtain ⟨c,c1,e⟩:=uo hm lo.1 lo.2 hT;obtain ⟨s,s1,e2⟩:=KY m c (leap m (sq m h n).i (sq m h n).perturb);have hn:=ok.n;refine ⟨n+((sq m h n).more+1+s),∅,by unfold turns;lia,?_⟩;show (sq m h _).j = T;rw [va,vL,mU m _ _ rfl ok.d,e2];exact e
def sk (xs:Array Nat) (hs:xs.toList.Pairwise (· < ·)) (j:Nat):∀ (f lo hi:Nat),hi - lo<=f->lo<=hi->hi<=xs.size->(∀ i (h:i < xs.size),i < lo->xs[i] < j)->(∀ i (h:i < xs.size),hi<=i->j<=xs[i]) ->
 below.go xs j f lo hi<=xs.size/\(∀ i (h:i < xs.size),i < below.go xs j f lo hi->xs[i] < j)/\∀ i (h:i < xs.size),below.go xs j f lo hi<=i->j<=xs[i]
 | 0,lo,hi,h1,h2,h3,h4,h5=>by
   have:hi = lo:=by omega
   subst this
   exact ⟨h3,h4,h5⟩
 | f+1,lo,hi,h1,h2,h3,h4,h5=>by
   have pw:=fR.mp hs;unfold below.go;by_cases hl:lo < hi
   . rw [if_pos hl];dsimp only;have hm:(lo+hi) / 2 < xs.size:=by omega
     have e:xs.getD ((lo+hi) / 2) j = xs[(lo+hi) / 2]:=by simp [kz,hm]
     rw [e];by_cases hc:xs[(lo+hi) / 2] < j
     . rw [if_pos hc];refine sk xs hs j f _ hi (by omega) (by omega) h3 (λi h hi'=>?_) h5;rcases cF i ((lo+hi) / 2) with z | z
       . have:=pw i ((lo+hi) / 2) (by simpa using h) (by simpa using hm) z;simp at this;omega
       . have:i = (lo+hi) / 2:=by omega
         subst this;exact hc
     . rw [if_neg hc];refine sk xs hs j f lo _ (by omega) (by omega) (by omega) h4 λi h hi'=>?_;rcases cF ((lo+hi) / 2) i with z | z
       . have:=pw ((lo+hi) / 2) i (by simpa using hm) (by simpa using h) z;simp at this;omega
       . have:i = (lo+hi) / 2:=by omega
         subst this;omega
   . rw [if_neg hl];exact ⟨by omega,h4,λi h hi'=>h5 i h (by omega)⟩
def sj (xs:Array Nat) (hs:xs.toList.Pairwise (· < ·)) (j:Nat):below xs j<=xs.size/\(∀ i (h:i < xs.size),i < below xs j->xs[i] < j)/\∀ i (h:i < xs.size),below xs j<=i->j<=xs[i] :=
 sk xs hs j xs.size 0 xs.size ∅ ∅ ∅ (λi h z=>by lia) λi h z=>by lia
def below_at (hs:xs.toList.Pairwise (· < ·)) (h:xs[i]? = some j):below xs j = i:=by
 obtain ⟨hi,e⟩:=dJ.mp h;obtain ⟨b1,b2,b3⟩:=sj xs hs j;have pw:=fR.mp hs;rcases pL (below xs j) i with z | z | z
 . have q:=b3 (below xs j) ∅ (aw _);have:=pw (below xs j) i (by simp;lia) (by simpa using hi) z;simp at this
   lia
 . exact z
 . have:=b2 i hi z
   lia
structure TbI (t:eL) (hs:List Int):Prop where
 mok:mk t.mask
 dm:t.dummies = #[]
 srt:t.place.toList.Pairwise (· < ·)
 le:∀ j∈t.place.toList,j<=t.mask
 len:t.place.toList.length = hs.length
 few:hs.length<=t.mask
 rch:∀ (i j:Nat) (h:Int),t.place.toList[i]? = some j->hs[i]? = some h->∃ n,pbs t.mask h n = j/\∀ k < n,pbs t.mask h k∈t.place.toList
variable {t:eL} {hs:List Int}
def TbI.live (T:TbI t hs) (h:t.place.toList[i]? = some j):t.slot j = .live i:=by
 have h':t.place[i]? = some j:=by simpa using h
 unfold slot;rw [below_at T.srt h'];simp [h']
def TbI.empty (T:TbI t hs) (h:j∉t.place.toList):t.slot j = .empty:=by
 unfold slot
 have:t.place[below t.place j]?≠some j:=λe=>h (by
  have:=yT e;exact Array.mem_toList_iff.mpr this)
 dsimp only;rw [if_neg (by simpa using this),T.dm];rfl
def rS {P:List Nat} {m:Nat} (hl:P.length<=m):∃ j,j<=m/\j∉P:=by
 apply iR;intro hn
 have hall:∀ j∈bo (m+1),j∈P:=λj hj=>by
  apply iR;intro hp;exact hn ⟨j,by simpa using dz (by simpa using hj),hp⟩
 have key:∀ (l:List Nat) (P:List Nat),l.Nodup->(∀ x∈l,x∈P)->l.length<=P.length:=λl=>by
  induction l with
  | nil=>intro P _ _;exact cC _
  | cons x l ih =>
    intro P hnd hs;have hx:=hs x au;rw [fh] at hnd;have:=ih (P.erase x) hnd.2 λy hy=>(List.mem_erase_of_ne (λe:y = x=>hnd.1 (by rw [<- e];exact hy))).mpr (hs y (ar _ hy));rw [List.length_erase_of_mem hx] at this;have:=List.length_pos_of_mem hx;simp only [aI]
    lia
 have:=key _ P HR hall;rw [jG] at this
 lia
def TbI.room (T:TbI t hs) (h:Int) (n:Nat):∃ N,n<=N/\N < n+10 * turns t.mask/\pbs t.mask h N∉t.place.toList:=by
 obtain ⟨j,h1,h2⟩:=rS (P:=t.place.toList) (m:=t.mask) (by rw [T.len];exact T.few);obtain ⟨N,a,b,rfl⟩:=cov T.mok h n h1;exact ⟨N,a,b,h2⟩
inductive PR (t:eL) (hs:List Int) (h:Int) (n:Nat):Met->Prop
 | empty (N:Nat) (a:n<=N) (b:pbs t.mask h N∉t.place.toList) (c:∀ k,n<=k->k < N->pbs t.mask h k∈t.place.toList/\∀ (i:Nat),t.place.toList[i]? = some (pbs t.mask h k)->hs[i]?≠some h):PR t hs h n (.empty (pbs t.mask h N) none)
 | cand (N i:Nat) (a:n<=N) (b:t.place.toList[i]? = some (pbs t.mask h N)) (d:hs[i]? = some h) (c:∀ k,n<=k->k < N->pbs t.mask h k∈t.place.toList/\∀ (i:Nat),t.place.toList[i]? = some (pbs t.mask h k)->hs[i]?≠some h):PR t hs h n (.candidate (pbs t.mask h N) i (sq t.mask h (N+1)))
def xM (T:TbI t hs) (h:Int) (hh:∀ i g,hs[i]? = some g->ha i = g):∀ (f n:Nat),(∃ N,n<=N/\N < n+f/\pbs t.mask h N∉t.place.toList)->∃ r,probe.go t ha h f (sq t.mask h n) = some r/\PR t hs h n r
 | 0,n,⟨N,a,b,_⟩=>by lia
 | f+1,n,⟨N,a,b,c⟩=>by
   unfold probe.go;by_cases hp:pbs t.mask h n∈t.place.toList
   . obtain ⟨i,hi⟩:=dX hp
     have hil:i < hs.length:=by
      have:=(aD.mp hi).1;rw [T.len] at this;exact this
     have eg:hs[i]? = some hs[i]:=aA hil;rw [T.live hi];dsimp only;rw [hh i _ eg];by_cases hc:hs[i] = h
     . rw [if_pos (by rw [hc];exact beq_self_eq_true h)];refine ⟨_,rfl,?_⟩;rw [Hz];exact .cand n i (aw _) hi (by rw [eg,hc]) λk h1 h2=>by lia
     . rw [if_neg (by simpa using hc),Hz];have hN:n≠N:=λe=>c (by rw [<- e];exact hp);obtain ⟨r,e,pr⟩:=xM T h hh f (n+1) ⟨N,∅,∅,c⟩;refine ⟨r,e,?_⟩
       have first:∀ k,n = k->pbs t.mask h k∈t.place.toList/\∀ (i':Nat),t.place.toList[i']? = some (pbs t.mask h k)->hs[i']?≠some h:=by
        rintro _ rfl;refine ⟨hp,λi' hi'=>?_⟩;have:t.slot (pbs t.mask h n) = .live i':=T.live hi';rw [T.live hi] at this;cases this;rw [eg];intro z;exact hc (bA z)
       cases pr with
       | empty N' a b c'=>exact .empty N' ∅ b λk h1 h2=>if z:n = k then first k z else c' k ∅ h2
       | cand N' i' a b d c'=>exact .cand N' i' ∅ b d λk h1 h2=>if z:n = k then first k z else c' k ∅ h2
   . rw [T.empty hp];refine ⟨_,rfl,?_⟩;rw [(AE t.mask h n).d];exact .empty n (aw _) hp λk h1 h2=>by lia
def FF (T:TbI t hs) (h:Int) (hh:∀ i g,hs[i]? = some g->ha i = g) (n:Nat):∃ r,t.probe ha h (sq t.mask h n) = some r/\PR t hs h n r:=xM T h hh _ n (T.room h n)
end PP
end
section
namespace PP
open PySem SetTable
variable {t:eL} {hs:List Int}
def nu {α:Type} (l:List α) (p:Nat) (x:α):List α:=l.take p++x::l.drop p
def nq {α:Type} {l:List α} {p i:Nat} {x y:α} (hp:p<=l.length) (h:(nu l p x)[i]? = some y):(i < p/\l[i]? = some y)\/(i = p/\y = x)\/(p < i/\l[i - 1]? = some y):=by
 unfold nu at h;rcases pL i p with z | z | z
 . rw [ba (by rw [bJ];lia),dt z] at h;exact .inl ⟨z,h⟩
 . subst z;rw [bz (by rw [bJ];lia),bJ,Lp hp,Nat.sub_self] at h;exact .inr (.inl ⟨rfl,by simpa using h.symm⟩)
 . rw [bz (by rw [bJ];lia),bJ,Lp hp] at h;obtain ⟨k,rfl⟩:∃ k,i = p+1+k:=⟨i - p - 1,∅⟩;rw [show p+1+k - p = k+1 by lia,List.getElem?_cons_succ,List.getElem?_drop] at h;exact .inr (.inr ⟨z,by rw [show p+1+k - 1 = p+k by lia];exact h⟩)
def rP {α:Type} {l:List α} {p:Nat} {x y:α}:y∈nu l p x↔y∈l\/y = x:=by
 unfold nu;rw [bb,aB]
 conv=>rhs;rw [<- lJ p l,bb]
 constructor
 . rintro (h | h | h)
   . exact .inl (.inl h)
   . exact .inr h
   . exact .inl (.inr h)
 . rintro ((h | h) | h)
   . exact .inl h
   . exact .inr (.inr h)
   . exact .inr (.inl h)
def nk {α:Type} (l:List α) (p:Nat) (x:α):(nu l p x).length = l.length+1:=by
 unfold nu;rw [ay,aI,bJ,hJ]
 lia
def TbI.put (T:TbI t hs) {h:Int} {N:Nat} (hf:pbs t.mask h N∉t.place.toList) (hr:∀ k < N,pbs t.mask h k∈t.place.toList) (fw:hs.length+1<=t.mask) :
 TbI (t.put (pbs t.mask h N)).1 (nu hs (t.put (pbs t.mask h N)).2 h)/\(t.put (pbs t.mask h N)).2<=hs.length/\(t.put (pbs t.mask h N)).1.led = t.led/\(t.put (pbs t.mask h N)).1.plain = t.plain/\(t.put (pbs t.mask h N)).1.mask = t.mask:=by
 generalize hj:pbs t.mask h N = j at *;have pl:(insertAt t.place (below t.place j) j).toList = nu t.place.toList (below t.place j) j:=toList_insertAt _ _ _;have dm:(if has t.dummies j = true then eraseAt t.dummies (below t.dummies j) else t.dummies) = #[]:=by rw [T.dm];rfl
 obtain ⟨b1,b2,b3⟩:=sj t.place T.srt j;have bl:below t.place j<=t.place.toList.length:=by simpa using b1
 have len:=T.len;refine ⟨⟨T.mok,dm,?_,?_,?_,?_,?_⟩,by rw [<- len];exact bl,rfl,rfl,rfl⟩
 . show (insertAt t.place (below t.place j) j).toList.Pairwise _;rw [pl];unfold nu;have pw:=T.srt;rw [<- lJ (below t.place j) t.place.toList,dW] at pw;obtain ⟨p1,p2,p3⟩:=pw;refine dW.mpr ⟨p1,List.pairwise_cons.mpr ⟨λy hy=>?_,p2⟩,λx hx y hy=>?_⟩
   . obtain ⟨k,hk,e⟩:=BV.mp hy;rw [hJ] at hk;rw [List.getElem_drop] at e;have:=b3 (below t.place j+k) (by simp at hk;lia) ∅;have ne:j≠y:=λz=>hf (by rw [z];exact List.mem_of_mem_drop hy);simp at e
     lia
   . obtain ⟨k,hk,e⟩:=BV.mp hx;rw [bJ] at hk;rw [List.getElem_take] at e;have:=b2 k (by simp at hk;lia) ∅;simp at e;rcases aB.mp hy with z | z
     . lia
     . exact p3 x hx y z
 . show ∀ y∈(insertAt t.place (below t.place j) j).toList,_;rw [pl];intro y hy;rcases rP.mp hy with z | z
   . exact T.le y z
   . rw [z,<- hj];exact (AE t.mask h N).j
 . show (insertAt t.place (below t.place j) j).toList.length = _;rw [pl,nk,nk,len]
 . rw [nk];exact fw
 . show ∀ (i j':Nat) (h':Int),(insertAt t.place (below t.place j) j).toList[i]? = some j'->(nu hs (below t.place j) h)[i]? = some h'->∃ n,pbs t.mask h' n = j'/\∀ k < n,pbs t.mask h' k∈(insertAt t.place (below t.place j) j).toList;rw [pl];intro i j' h' e1 e2
   have old:∀ i',t.place.toList[i']? = some j'->hs[i']? = some h'->∃ n,pbs t.mask h' n = j'/\∀ k < n,pbs t.mask h' k∈nu t.place.toList (below t.place j) j:=λi' a b=>by
    obtain ⟨n,n1,n2⟩:=T.rch i' j' h' a b;exact ⟨n,n1,λk hk=>rP.mpr (.inl (n2 k hk))⟩
   rcases nq bl e1 with ⟨z,a⟩ | ⟨z,a⟩ | ⟨z,a⟩
   . rcases nq (by rw [<- len];exact bl) e2 with ⟨_,b⟩ | ⟨z',b⟩ | ⟨z',b⟩
     . exact old i a b
     . lia
     . lia
   . rcases nq (by rw [<- len];exact bl) e2 with ⟨z',b⟩ | ⟨z',b⟩ | ⟨z',b⟩
     . lia
     . subst a b;exact ⟨N,hj,λk hk=>rP.mpr (.inl (hr k hk))⟩
     . lia
   . rcases nq (by rw [<- len];exact bl) e2 with ⟨z',b⟩ | ⟨z',b⟩ | ⟨_,b⟩
     . lia
     . lia
     . exact old (i - 1) a b
end PP
end
section
namespace PP
open PySem SetTable
structure OW (m:Nat) (owner:Array (Option Nat)) (pre:List Int) (js:List Nat):Prop where
 sz:owner.size = m+1
 jl:js.length = pre.length
 own:∀ k j:Nat,js[k]? = some j->owner[j]? = some (some k)
 inv:∀ j k:Nat,owner[j]? = some (some k)->js[k]? = some j
 rch:∀ (i j:Nat) (h:Int),pre[i]? = some h->js[i]? = some j->∃ n,pbs m h n = j/\∀ k < n,pbs m h k∈js
def Gq (m:Nat):∀ (k:Nat) (p:Probe),k<=p.more->(itA m k p).j = p.j+k
 | 0,p,_=>rfl
 | k+1,p,h=>by
   show (itA m k (adv m p)).j = _;unfold adv;rw [if_pos ∅,Gq m k _ (by show k<=p.more - 1;lia)];show p.j+1+k = _
   lia
def BC (hz:owner.size = m+1) (h:Int):∀ (f n:Nat) (x:Nat × Nat),sq m h n = lp m x->x.1<=m->(∃ c,c < f/\owner[(kP m c x).1]? = some none) ->
 ∃ N,n<=N/\layClean.free m owner f x.1 x.2 = some (pbs m h N)/\owner[pbs m h N]? = some none/\∀ k,n<=k->k < N->∃ v,owner[pbs m h k]? = some (some v)
 | 0,n,x,e,hx,⟨c,h1,_⟩=>by lia
 | f+1,n,x,e,hx,⟨c,h1,h2⟩=>by
   have rl:=tZ hx;have rg:=ua m x.1
   have pos:∀ k,k < runEnd m x.1+1 - x.1->pbs m h (n+k) = x.1+k:=λk hk=>by
    show (sq m h (n+k)).j = _;rw [va,e,Gq m k _ (by show k<=runEnd m x.1 - x.1;lia)];rfl
   have val:∀ k,k < runEnd m x.1+1 - x.1->owner[x.1+k]? = some (owner.getD (x.1+k) (some 0)):=λk hk=>by
    have:x.1+k < owner.size:=by lia
    simp [kz,this]
   unfold layClean.free
   cases q:(bo (runEnd m x.1+1 - x.1)).find? λk=>(owner.getD (x.1+k) (some 0)).isNone with
   | some k =>
     rw [List.find?_range_eq_some] at q;obtain ⟨q1,q2,q3⟩:=q;have hk:k < runEnd m x.1+1 - x.1:=by simpa using q2
     refine ⟨n+k,∅,by rw [pos k hk],?_,λk' h1 h2=>?_⟩
     . rw [pos k hk,val k hk,cU.mp q1]
     . obtain ⟨d,rfl⟩:∃ d,k' = n+d:=⟨k' - n,∅⟩;have:=q3 d ∅;rw [pos d ∅,val d ∅]
       cases z:owner.getD (x.1+d) (some 0) with
       | none=>rw [z] at this;cases this
       | some v=>exact ⟨v,rfl⟩
   | none =>
     rw [List.find?_eq_none] at q
     have occ:∀ k,k < runEnd m x.1+1 - x.1->∃ v,owner[x.1+k]? = some (some v):=λk hk=>by
      have:=q k (by simpa using hk);rw [val k hk]
      cases z:owner.getD (x.1+k) (some 0) with
      | none=>rw [z] at this;exact absurd rfl this
      | some v=>exact ⟨v,rfl⟩
     have nxt:sq m h (n+(runEnd m x.1 - x.1+1)) = lp m (leap m x.1 x.2):=by
      rw [va,e];exact mU m _ (lp m x) rfl rfl
     cases c with
     | zero =>
       obtain ⟨v,hv⟩:=occ 0 ∅;rw [show (kP m 0 x).1 = x.1+0 from rfl,hv] at h2
       cases h2
     | succ c =>
       obtain ⟨N,a1,a2,a3,a4⟩:=BC hz h f (n+(runEnd m x.1 - x.1+1)) (leap m x.1 x.2) nxt (dz (ju _ (lq _))) ⟨c,∅,h2⟩;refine ⟨N,∅,a2,a3,λk h1 h2=>?_⟩;by_cases hk:k < n+(runEnd m x.1 - x.1+1)
       . obtain ⟨d,rfl⟩:∃ d,k = n+d:=⟨k - n,∅⟩;rw [pos d ∅];exact occ d ∅
       . exact a4 k ∅ h2
def Ny (m:Nat) (acc:Option (Array (Option Nat) × Nat)) (h:Int):Option (Array (Option Nat) × Nat):=do
 let (owner,k) <- acc
 let j <- layClean.free m owner (turns m) (bits h % (m+1)) (bits h)
 pure (owner.setIfInBounds j (some k),k+1)
def OW.js_le (W:OW m owner pre js) (h:j∈js):j<=m:=by
 obtain ⟨k,hk⟩:=dX h;have:=(dJ.mp (W.own k j hk)).1;rw [W.sz] at this
 lia
def OW.occ (W:OW m owner pre js):(∃ v,owner[j]? = some (some v))↔j∈js :=
 ⟨λ⟨v,hv⟩=>bP (W.inv j v hv),λh=>by
   obtain ⟨k,hk⟩:=dX h;exact ⟨k,W.own k j hk⟩⟩
def Gw (hm:mk m) (W:OW m owner pre js) (hl:pre.length<=m) (h:Int):∃ owner' js',Ny m (some (owner,pre.length)) h = some (owner',pre.length+1)/\OW m owner' (pre++[h]) js':=by
 obtain ⟨T,hT,hn⟩:=rS (P:=js) (m:=m) (by rw [W.jl];exact hl);have hx:(bits h % (m+1),bits h).1<=m:=dz (ju _ (lq _));obtain ⟨c,c1,c2⟩:=uo hm hx (BJ h) hT
 have fr:owner[T]? = some none:=by
  have:T < owner.size:=by rw [W.sz];lia
  cases q:owner[T] with
  | none=>rw [bT this,q]
  | some v=>exact absurd (W.occ.mp ⟨v,by rw [bT this,q]⟩) hn
 obtain ⟨N,_,e,free,occ⟩:=BC W.sz h (turns m) 0 (bits h % (m+1),bits h) rfl hx ⟨c,by unfold turns;lia,by rw [c2];exact fr⟩;have hj:=(dJ.mp free).1;refine ⟨owner.setIfInBounds (pbs m h N) (some pre.length),js++[pbs m h N],?_,⟨?_,?_,λk j hk=>?_,λj k hk=>?_,λi j h' h1 h2=>?_⟩⟩
 . show (Option.bind (layClean.free m owner (turns m) (bits h % (m+1)) (bits h)) λj=>some (owner.setIfInBounds j (some pre.length),pre.length+1)) = _;rw [e];rfl
 . rw [Array.size_setIfInBounds,W.sz]
 . rw [ay,ay,W.jl];rfl
 . rcases cF k js.length with z | z
   . rw [ba z] at hk;have ho:=W.own k j hk;rw [pF (λe=>by rw [e,ho] at free;cases free)];exact ho
   . rw [bz z] at hk
     have k0:k - js.length = 0:=by
      rcases HK (k - js.length) with q | q
      . exact q
      . rw [cX (by simp;lia)] at hk;cases hk
     rw [k0] at hk;have:pbs m h N = j:=by simpa using hk
     rw [<- this,lM hj,show k = pre.length by have:=W.jl;lia]
 . by_cases z:pbs m h N = j
   . rw [<- z,lM hj] at hk;have:pre.length = k:=bA (bA hk);rw [<- this,<- W.jl,<- z];simp
   . rw [pF z] at hk;have:=W.inv j k hk;rw [ba (aD.mp this).1];exact this
 . rcases cF i pre.length with z | z
   . rw [ba z] at h1;rw [ba (by rw [W.jl];exact z)] at h2;obtain ⟨n,n1,n2⟩:=W.rch i j h' h1 h2;exact ⟨n,n1,λk hk=>aF _ (n2 k hk)⟩
   . rw [bz z] at h1;rw [bz (by rw [W.jl];exact z),W.jl] at h2
     have k0:i - pre.length = 0:=by
      rcases HK (i - pre.length) with q | q
      . exact q
      . rw [cX (by simp;lia)] at h1;cases h1
     rw [k0] at h1 h2;have a:h = h':=by simpa using h1
     have b:pbs m h N = j:=by simpa using h2
     subst a b;exact ⟨N,rfl,λk hk=>aF _ (W.occ.mp (occ k (cC _) hk))⟩
def Bn (hm:mk m):∀ (rest pre:List Int) (owner:Array (Option Nat)) (js:List Nat),OW m owner pre js->(pre++rest).length<=m->∃ owner' js',rest.foldl (Ny m) (some (owner,pre.length)) = some (owner',(pre++rest).length)/\OW m owner' (pre++rest) js'
 | [],pre,owner,js,W,_=>⟨owner,js,by rw [bw];rfl,by rw [bw];exact W⟩
 | h::rest,pre,owner,js,W,hl=>by
   obtain ⟨o1,j1,e1,W1⟩:=Gw hm W (by rw [ay] at hl;lia) h;have e:pre++h::rest = (pre++[h])++rest:=by simp
   rw [e] at hl |-;obtain ⟨o2,j2,e2,W2⟩:=Bn hm rest (pre++[h]) o1 j1 W1 hl;refine ⟨o2,j2,?_,W2⟩;rw [gq,e1];rw [ay,dO] at e2;exact e2
def GW {α β:Type} {f:α->Option β}:∀ {l:List α},(∀ k∈l,(f k).isSome = true)->∀ i:Nat,(l.filterMap f)[i]? = (l[i]?).bind f
 | [],_,i=>by simp
 | x::l,h,i=>by
   obtain ⟨y,hy⟩:=fV.mp (h x au);rw [jJ hy]
   cases i with
   | zero=>simp [hy]
   | succ i=>simpa using GW (λk hk=>h k (ar _ hk)) i
def JO {m:Nat} (hm:mk m) (fg mv:Nat) (led pn:Bool) (hs:Array Int) (hl:hs.size<=m):∃ t order,laid m fg mv led pn hs = some (t,order)/\order.toList.Perm (bo hs.size)/\TbI t (order.toList.filterMap (hs[·]?))/\t.led = led/\t.plain = pn/\t.mask = m:=by
 have W0:OW m (HV (m+1) none) [] []:=by
  refine ⟨↥0,rfl,λk j h=>by simp at h,λj k h=>?_,λi j h a b=>by simp at a⟩;rw [Array.getElem?_replicate] at h;split at h
  . cases h
  . cases h
 obtain ⟨owner,js,e,W⟩:=Bn hm hs.toList [] _ _ W0 (by simpa using hl);rw [Kx] at W
 have ec:layClean m hs = some owner:=by
  unfold layClean;rw [<- Array.foldl_toList];show Option.map (·.1) (hs.toList.foldl (Ny m) (some (HV (m+1) none,0))) = _;rw [show (0:Nat) = ([]:List Int).length from rfl,e];rfl
 generalize hg:(λj:Nat=>(owner.getD j none).map (j,·)) = g
 have gi:∀ (j:Nat) (p:Nat × Nat),g j = some p->p.1 = j/\js[p.2]? = some j:=λj p h=>by
  rw [<- hg] at h;obtain ⟨k,hk,rfl⟩:=aJ.mp h;refine ⟨rfl,W.inv j k ?_⟩;by_cases z:j < owner.size
  . simp [kz,z] at hk;rw [bT z,hk]
  . simp [kz,z] at hk
 have gj:∀ (j k:Nat),js[k]? = some j->g j = some (j,k):=λj k h=>by
  have:=W.own k j h;obtain ⟨z,e⟩:=dJ.mp this;rw [<- hg];simp [kz,z,e]
 have pl:((bo (m+1)).filterMap g).Pairwise λa b=>a.1 < b.1/\a.2≠b.2:=by
  refine List.Pairwise.filterMap g (R:=(· < ·)) (λa a' h b hb b' hb'=>?_) List.pairwise_lt_range;obtain ⟨a1,a2⟩:=gi a b hb;obtain ⟨b1,b2⟩:=gi a' b' hb';refine ⟨by rw [a1,b1];exact h,λz=>?_⟩;rw [z,b2] at a2;have:=bA a2
  lia
 generalize hL:(bo (m+1)).filterMap g = L at pl
 have memL:∀ (j k:Nat),(j,k)∈L↔js[k]? = some j:=λj k=>by
  rw [<- hL,nV];constructor
  . rintro ⟨a,_,h⟩;obtain ⟨a1,a2⟩:=gi a _ h;rw [<- a1] at a2;exact a2
  . intro h;exact ⟨j,by have:=W.js_le (bP h);simp;lia,gj j k h⟩
 have po:(L.map (·.2)).Perm (bo hs.size):=by
  refine (List.perm_ext_iff_of_nodup ?_ HR).mpr λk=>?_
  . exact gI.mpr (pl.imp λh=>h.2)
  . rw [aW,fF];have jl:js.length = hs.size:=by rw [W.jl];simp
    constructor
    . rintro ⟨⟨j,k'⟩,h,rfl⟩;have:=(aD.mp ((memL j k').mp h)).1
      lia
    . intro h;exact ⟨(js[k],k),(memL _ _).mpr (aA _),rfl⟩
 have len:L.length = hs.size:=by
  have:=po.length_eq;simpa using this
 have hsm:∀ k∈L.map (·.2),(hs[k]?).isSome = true:=λk hk=>by
  have:=po.mem_iff.mp hk;rw [fF] at this;simp [this]
 have memP:∀ j,j∈L.map (·.1)↔j∈js:=λj=>by
  rw [aW];constructor
  . rintro ⟨⟨j',k⟩,h,rfl⟩;exact bP ((memL _ _).mp h)
  . intro h;obtain ⟨k,hk⟩:=dX h;exact ⟨(j,k),(memL j k).mpr hk,rfl⟩
 refine ⟨{ mask:=m,place:=(L.map (·.1)).toArray,dummies := #[],finger:=fg,led:=led,moves:=mv,plain:=pn },(L.map (·.2)).toArray,?_,po,⟨hm,rfl,?_,λj hj=>W.js_le ((memP j).mp hj),?_,?_,λi j h h1 h2=>?_⟩,rfl,rfl,rfl⟩
 . unfold laid;rw [ec];show some _ = _;rw [hg,hL]
 . exact gI.mpr (pl.imp λh=>h.1)
 . show (L.map (·.1)).length = _;rw [av,len];have:=congrArg sF (show (L.map (·.2)).filterMap (hs[·]?) = (L.map (·.2)).filterMap (hs[·]?) from rfl)
   have key:∀ l:List Nat,(∀ k∈l,(hs[k]?).isSome = true)->(l.filterMap (hs[·]?)).length = l.length:=λl=>by
    induction l with
    | nil=>intro _;rfl
    | cons x l ih =>
      intro h;obtain ⟨y,hy⟩:=fV.mp (h x au);rw [jJ hy,aI,aI,ih λk hk=>h k (ar _ hk)]
   rw [key _ hsm,av,len]
 . have key:∀ l:List Nat,(l.filterMap (hs[·]?)).length<=l.length:=λl=>List.length_filterMap_le _ _;have:=key (L.map (·.2));rw [av,len] at this;exact bF this hl
 . have h1':(L.map (·.1))[i]? = some j:=h1;rw [GW hsm] at h2;rw [bf] at h1' h2
   cases q:L[i]? with
   | none=>rw [q] at h1';cases h1'
   | some p =>
     rw [q] at h1' h2;obtain ⟨j',k⟩:=p;have e1:j' = j:=by simpa using h1'
     subst e1;have e2:hs[k]? = some h:=by simpa using h2
     obtain ⟨n,n1,n2⟩:=W.rch k j' h (by simpa using e2) ((memL j' k).mp (bP q));exact ⟨n,n1,λk' hk'=>(memP _).mpr (n2 k' hk')⟩
end PP
end
section
namespace PP
open PySem L2 PyProof.Rows PySem.SeqAt
mutual
noncomputable def hD (w:aZ):D->Int
 | .str x=>hashStr w x
 | .int i=>hashInt i
 | .tup ds=>reduceHash (cn (hDL w ds))
 | _=>0
noncomputable def hDL (w:aZ):List D->List Int
 | []=>[]
 | d::ds=>hD w d::hDL w ds
end
mutual
noncomputable def nD:D->Nat
 | .tup ds=>nDL ds+1
 | _=>1
noncomputable def nDL:List D->Nat
 | []=>0
 | d::ds=>nD d+nDL ds
end
variable [Tbs]
section
variable {prog:aO} {w:aZ}
def Ez {A:aR} {E:af->ah->Prop} {s:ah} {a:aq} {its:Array af} {hs:List Int} {k:Nat} {Q:Int->ah->Prop} (hu:A.units < cLine) (ht:s.heap.IsTuple a its)
 (loop:∀ (Q':Array Int->ah->Prop) (E':af->ah->Prop),(∀ b:Array Int,b.toList = hs->Q' b { s with toks:=s.toks+k })->wpAny (model prog w) A.in1 (forIn its.toList (#[]:Array Int) λx b=>do
   let h <- pyHash x
   pure (.yield (b.push h))) Q' E' s)
 (h:Q (reduceHash (cn hs)) { s with toks:=s.toks+(k+1) }):wpAny (model prog w) A (pyHash (.ref a)) Q E s:=by
 obtain ⟨o,ho,hc,n,hd⟩:=ht;have hT:s.TypeIs (.ref a) "tuple":=⟨o,ho,hc⟩;unfold pyHash
 first | unfold pyHashByItsType | skip
 first | refine ae (wpAny_cRoomFor_or (.inr hu) ?_) | skip
 refine ae (jr hT PySem.F.slot_tuple_hash.lookup ?_);show wpAny _ _ (if (some (jF "tuple.__hash__") == some cq) = true then _ else _) Q E s;rw [if_neg (by rw [beq_builtin_none];exact ao)];refine ae (jr hT PySem.F.slot_tuple_hash.lookup ?_);show wpAny _ _ (callSpecialIfBoundUnlessNone? (.ref a) "__hash__" _ >>= _) Q E s;refine ae (wpAny_callSpecialIfBoundUnlessNone?_slot hT PySem.F.slot_tuple_hash (cg PySem.F.slot_tuple_hash hT PySem.F.entry_tuple_hash ?_ (PySem.F.args_tuple_hash_1 _)));show wpAny _ _ (nN (.ref a) >>= _) _ _ s;refine ae (wpAny_tupleItemsOf ho hd ?_);refine ae ?_;rw [<- iV];refine loop _ _ λb hb=>?_;show wpAny _ _ (retInt (cn b.toList)) _ _ _;rw [hb];refine wpAny_ret_mkInt ?_;show wpAny _ _ (if (decide (-(2:Int) ^ 63<=cn hs) && decide (cn hs < 2 ^ 63)) = true then _ else _) Q E _;unfold reduceHash at h;by_cases hr:(decide (-(2:Int) ^ 63<=cn hs) && decide (cn hs < 2 ^ 63)) = true
 . rw [if_pos hr];rw [if_pos hr] at h;exact ak (by simpa [yM] using h)
 . rw [if_neg hr];rw [if_neg hr] at h;exact ae (mG (ak (by simpa [yM] using h)))
mutual
theorem GQ:∀ (d:D) (A:aR) (E:af->ah->Prop) (s:ah) (v:af) (Q:Int->ah->Prop),hb d = true->RdV s.heap d v->A.units+dep d < cLine->Q (hD w d) { s with toks:=s.toks+nD d }->wpAny (model prog w) A (pyHash v) Q E s
 | .str x,A,E,s,v,Q,_,r,_,q=>by
   unfold RdV at r;obtain ⟨t,rfl⟩:=r;unfold hD nD at q
   exact wpAny_pyHash_str q
 | .int x,A,E,s,v,Q,_,r,_,q=>by
   unfold RdV at r;obtain ⟨t,rfl⟩:=r;unfold hD nD at q
   exact wpAny_pyHash_int q
 | .tup ds,A,E,s,v,Q,h,r,hu,q=>by
   unfold RdV at r;obtain ⟨a,its,rfl,ht,rl⟩:=r;unfold hb at h;unfold hD nD at q;unfold dep at hu;refine Ez (hs:=hDL w ds) (k:=nDL ds) ∅ ht (λQ' E' q'=>?_) q
   exact Bx ds A.in1 E' s its.toList #[] Q' h rl (by show A.units+1+cI ds < cLine;lia) (by simpa using q')
 | .non,_,_,_,_,_,h,_,_,_=>by unfold hb at h;cases h
 | .bl _,_,_,_,_,_,h,_,_,_=>by unfold hb at h;cases h
 | .lst _,_,_,_,_,_,h,_,_,_=>by unfold hb at h;cases h
 | .fn _ _,_,_,_,_,_,h,_,_,_=>by unfold hb at h;cases h
theorem Bx:∀ (ds:List D) (A:aR) (E:af->ah->Prop) (s:ah) (vs:List af) (b0:Array Int) (Q:Array Int->ah->Prop),hbL ds = true->RdL s.heap ds vs->A.units+cI ds < cLine ->
 (∀ b:Array Int,b.toList = b0.toList++hDL w ds->Q b { s with toks:=s.toks+nDL ds })->wpAny (model prog w) A (forIn vs b0 λx b=>do
   let h <- pyHash x
   pure (.yield (b.push h))) Q E s
 | [],A,E,s,vs,b0,Q,_,r,_,q=>by
   unfold RdL at r;subst r;unfold hDL nDL at q
   exact ak (q b0 ↥0)
 | d::ds,A,E,s,vs,b0,Q,h,r,hu,q=>by
   unfold RdL at r;obtain ⟨u,us,rfl,r1,r2⟩:=r;unfold hbL at h;rw [aa] at h;unfold cI at hu;unfold hDL nDL at q;rw [fi];refine ae (ae (GQ d A E s u _ h.1 r1 ∅ (ak ?_)));refine Bx ds A E _ us _ Q h.2 r2 ∅ λb hb=>?_;have:=q b (by rw [hb];simp);simpa [yM] using this
end
end
end PP
end
section
namespace PP
open PySem L2 PyProof.Rows PySem.SeqAt
variable [Tbs]
section
variable {prog:aO} {w:aZ} {A:aR} {E:af->ah->Prop}
def nY (ht:s.heap.IsTuple a its) (h:Q (some its) s):wpAny (model prog w) A (seqItems? (.ref a)) Q E s:=by
 obtain ⟨o,ho,hc,n,hd⟩:=ht;exact cJ ho hd h
mutual
theorem vt:∀ (d:D) (n:Nat) (s:ah) (v:af) (Q:Bool->ah->Prop),hb d = true->RdV s.heap d v->dep d<=n->Q true s->wpAny (model prog w) A (eqIsQuiet n v) Q E s
 | .str x,n,s,v,Q,_,r,_,q=>by
   unfold RdV at r;obtain ⟨t,rfl⟩:=r;rw [OE n rfl]
   exact ak q
 | .int x,n,s,v,Q,_,r,_,q=>by
   unfold RdV at r;obtain ⟨t,rfl⟩:=r;rw [OE n rfl]
   exact ak q
 | .tup ds,0,s,v,Q,h,r,hu,q=>by unfold dep at hu;lia
 | .tup ds,n+1,s,v,Q,h,r,hu,q=>by
   unfold RdV at r;obtain ⟨a,its,rfl,ht,rl⟩:=r;unfold hb at h;unfold dep at hu;have ht':=ht;obtain ⟨o,ho,hc,k,hd⟩:=ht';have hT:s.TypeIs (.ref a) "tuple":=⟨o,ho,hc⟩;unfold eqIsQuiet;refine ae (jr hT PySem.F.slot_tuple_eq.lookup ?_);show wpAny _ _ (isInstance (.ref a) (.type "tuple") >>= _) _ _ s;refine ae (lP hT isSubtype_tuple_tuple ?_);simp only [eC,aP,if_false];refine ae (nY ht ?_);refine ae ?_;show wpAny _ _ (forIn its _ _) _ _ s;rw [<- iV];refine xI ds n s its.toList _ h rl ∅ ?_
   exact ak q
 | .non,_,_,_,_,h,_,_,_=>by unfold hb at h;cases h
 | .bl _,_,_,_,_,h,_,_,_=>by unfold hb at h;cases h
 | .lst _,_,_,_,_,h,_,_,_=>by unfold hb at h;cases h
 | .fn _ _,_,_,_,_,h,_,_,_=>by unfold hb at h;cases h
theorem xI:∀ (ds:List D) (n:Nat) (s:ah) (vs:List af) (Q:Option Bool × Unit->ah->Prop),hbL ds = true->RdL s.heap ds vs->cI ds<=n->Q (none,()) s ->
 wpAny (model prog w) A (forIn vs ((none,()):Option Bool × Unit) λy r=>do
  if (!(<- eqIsQuiet n y)) = true then pure (.done (some false,())) else pure (.yield (none,()))) Q E s
 | [],n,s,vs,Q,_,r,_,q=>by
   unfold RdL at r;subst r
   exact ak q
 | d::ds,n,s,vs,Q,h,r,hu,q=>by
   unfold RdL at r;obtain ⟨u,us,rfl,r1,r2⟩:=r;unfold hbL at h;rw [aa] at h;unfold cI at hu;rw [fi];refine ae (ae (vt d n s u _ h.1 r1 ∅ ?_));simp only [eC,aP,if_false];exact ak (xI ds n s us Q h.2 r2 ∅ q)
end
mutual
theorem vz:∀ (d:D) (n:Nat) (s:ah) (v:af) (Q:Bool->ah->Prop),hb d = true->RdV s.heap d v->dep d<=n->Q false s->wpAny (model prog w) A (ofAClassStatement n v) Q E s
 | .str x,n,s,v,Q,_,r,_,q=>by
   unfold RdV at r;obtain ⟨t,rfl⟩:=r;unfold ofAClassStatement
   exact ak q
 | .int x,n,s,v,Q,_,r,_,q=>by
   unfold RdV at r;obtain ⟨t,rfl⟩:=r;unfold ofAClassStatement
   exact ak q
 | .tup ds,0,s,v,Q,h,r,hu,q=>by unfold dep at hu;lia
 | .tup ds,n+1,s,v,Q,h,r,hu,q=>by
   unfold RdV at r;obtain ⟨a,its,rfl,ht,rl⟩:=r;unfold hb at h;unfold dep at hu;have ht':=ht;obtain ⟨o,ho,hc,k,hd⟩:=ht';have hT:s.TypeIs (.ref a) "tuple":=⟨o,ho,hc⟩;unfold ofAClassStatement;refine ae (sZ hT ?_);dsimp only;rw [if_pos ⇑0];refine ae (ak ?_);simp only [eC,aP,if_false];refine ae (nY ht ?_);dsimp only;refine ae ?_;show wpAny _ _ (forIn its _ _) _ _ s;rw [<- iV];refine xN ds n s its.toList _ h rl ∅ ?_
   exact ak q
 | .non,_,_,_,_,h,_,_,_=>by unfold hb at h;cases h
 | .bl _,_,_,_,_,h,_,_,_=>by unfold hb at h;cases h
 | .lst _,_,_,_,_,h,_,_,_=>by unfold hb at h;cases h
 | .fn _ _,_,_,_,_,h,_,_,_=>by unfold hb at h;cases h
theorem xN:∀ (ds:List D) (n:Nat) (s:ah) (vs:List af) (Q:Option Bool × Unit->ah->Prop),hbL ds = true->RdL s.heap ds vs->cI ds<=n->Q (none,()) s ->
 wpAny (model prog w) A (forIn vs ((none,()):Option Bool × Unit) λy r=>do
  if (<- ofAClassStatement n y) = true then pure (.done (some true,())) else pure (.yield (none,()))) Q E s
 | [],n,s,vs,Q,_,r,_,q=>by
   unfold RdL at r;subst r
   exact ak q
 | d::ds,n,s,vs,Q,h,r,hu,q=>by
   unfold RdL at r;obtain ⟨u,us,rfl,r1,r2⟩:=r;unfold hbL at h;rw [aa] at h;unfold cI at hu;rw [fi];refine ae (ae (vz d n s u _ h.1 r1 ∅ ?_));simp only [aP,if_false];exact ak (xN ds n s us Q h.2 r2 ∅ q)
end
def fb (h:hok d = true):hb d = true/\dep d<=8/\∃ x ds,d = .tup (.str x::ds):=by
 unfold hok at h;split at h
 . rename_i x ds;rw [aa,decide_eq_true_eq] at h;refine ⟨by simp [hb,hbL,h.1],?_,x,ds,rfl⟩;have:dep (.str x) = 0:=by unfold dep;rfl
   unfold dep cI
   lia
 . cases h
def Bv (h:hok d = true):dep d < 100000:=by
 obtain ⟨_,h2,_⟩:=fb h
 lia
def pZ (k:hok d = true) (r:RdV h d v):∃ a,v = .ref a:=by
 obtain ⟨_,_,x,ds,rfl⟩:=fb k;unfold RdV at r;obtain ⟨a,its,rfl,_⟩:=r;exact ⟨a,rfl⟩
def Dy (k:hok d = true) (r:RdV s.heap d v) (q:Q false s):wpAny (model prog w) A (hashByValue 8 v) Q E s:=by
 obtain ⟨_,_,x,ds,rfl⟩:=fb k;unfold RdV at r;obtain ⟨a,its,rfl,ht,rl⟩:=r;unfold RdL at rl;obtain ⟨u,us,eu,r1,_⟩:=rl;unfold RdV at r1;obtain ⟨t,rfl⟩:=r1;have ht':=ht;obtain ⟨o,ho,hc,n,hd⟩:=ht';have hT:s.TypeIs (.ref a) "tuple":=⟨o,ho,hc⟩;unfold hashByValue;refine ae (jr hT PySem.F.slot_tuple_hash.lookup ?_);show wpAny _ _ (seqItems? (.ref a) >>= _) _ _ s;refine ae (nY ht ?_);refine ae ?_;show wpAny _ _ (forIn its _ _) _ _ s;rw [<- iV,eu,fi];refine ae (ae (gR (a:=false) (by unfold hashByValue;rfl) ?_));simp only [Bool.not_false,if_true];exact ak (ak (ak q))
end
end PP
end
section
namespace PP
open PySem L2 PyProof.Rows
section
variable {prog:aO} {w:aZ} {A:aR} {E:af->ah->Prop} {s:ah}
def AK {a:aq} {es es':Array (Int × af)} {ep:Nat} {t t':eL} {h:bG} (g:h.get? a = some { cls:=.type "set",dict:=none,data:=.set es ep t,slots := #[] }) :
 (h.update a (oR es' t')).get? a = some { cls:=.type "set",dict:=none,data:=.set es' (ep+1) t',slots := #[] }:=cZ (oR es' t') g rfl
end
end PP
end
section
namespace PP
open PySem L2 PyProof.Rows PySem.SeqAt
mutual
theorem fU:∀ (a b:D),hb a = true->hb b = true->(eqD a b = true↔a = b)
 | .str x,.str y,_,_=>by unfold eqD;simp
 | .int x,.int y,_,_=>by unfold eqD;simp
 | .tup xs,.tup ys,h1,h2=>by
   unfold hb at h1 h2;unfold eqD;rw [ym xs ys h1 h2]
   simp
 | .str _,.int _,_,_ | .str _,.tup _,_,_ | .int _,.str _,_,_ | .int _,.tup _,_,_ | .tup _,.str _,_,_ | .tup _,.int _,_,_=>by unfold eqD;simp
 | .non,_,h,_ | .bl _,_,h,_ | .lst _,_,h,_ | .fn _ _,_,h,_=>by unfold hb at h;cases h
 | _,.non,_,h | _,.bl _,_,h | _,.lst _,_,h | _,.fn _ _,_,h=>by unfold hb at h;cases h
theorem ym:∀ (a b:List D),hbL a = true->hbL b = true->(gy a b = true↔a = b)
 | [],[],_,_=>by unfold gy;simp
 | [],_::_,_,_=>by unfold gy;simp
 | _::_,[],_,_=>by unfold gy;simp
 | x::xs,y::ys,h1,h2=>by
   unfold hbL at h1 h2;rw [aa] at h1 h2;unfold gy;rw [aa,fU x y h1.1 h2.1,ym xs ys h1.2 h2.2];simp
end
variable [Tbs]
def Ow (w:aZ) (h:bG) (ds:List D) (es:List (Int × af)):Prop:=Paired (λ(d:D) (e:Int × af)=>e.1 = hD w d/\hok d = true/\RdV h d e.2) ds es
def qY {α β:Type} {R:α->β->Prop} {xs:List α} {ys:List β} (h:Paired R xs ys):∀ (i:Nat) (y:β),ys[i]? = some y->∃ x,xs[i]? = some x/\R x y:=by
 induction h with
 | nil=>intro i y e;simp at e
 | cons r _ ih =>
   intro i y e
   cases i with
   | zero=>simp at e;exact ⟨_,rfl,e▸r⟩
   | succ i=>exact ih i y (by simpa using e)
def qX {α β:Type} {R:α->β->Prop} {xs:List α} {ys:List β} (h:Paired R xs ys):∀ (i:Nat) (x:α),xs[i]? = some x->∃ y,ys[i]? = some y/\R x y:=by
 induction h with
 | nil=>intro i y e;simp at e
 | cons r _ ih =>
   intro i y e
   cases i with
   | zero=>simp at e;exact ⟨_,rfl,e▸r⟩
   | succ i=>exact ih i y (by simpa using e)
section
variable {prog:aO} {w:aZ} {A:aR} {E:af->ah->Prop} {s:ah}
def Mr (hx:hok d = true) (rx:RdV s.heap d x) (q:Q false s):∀ (vs:List af),(∀ v∈vs,∃ e,hok e = true/\RdV s.heap e v)->wpAny (model prog w) A (searchCouldBeSeen x vs) Q E s:=by
 intro vs hv;obtain ⟨hb1,hd1,_⟩:=fb hx;unfold searchCouldBeSeen;refine ae ?_;refine wpAny_forIn_list _ (λrest r s'=>r = (none,())/\s' = s/\∀ v∈rest,∃ e,hok e = true/\RdV s.heap e v) _ ?_ ?_ _ _ ⟨rfl,rfl,hv⟩
 . rintro y rest r s' ⟨rfl,rfl,hall⟩;obtain ⟨e,he,re⟩:=hall y au;obtain ⟨hb2,hd2,_⟩:=fb he;have hr:∀ v∈rest,∃ e,hok e = true/\RdV s'.heap e v:=λv hv=>hall v (ar _ hv);obtain ⟨b,rfl⟩:=pZ hx rx;obtain ⟨c,rfl⟩:=pZ he re;dsimp only;by_cases hc:(b == c || carriedByValue (.ref b) && carriedByValue (.ref c)) = true
   . rw [if_pos hc];refine ak ?_;exact ⟨rfl,rfl,hr⟩
   . rw [if_neg hc];refine ae (vt d 8 s' _ _ hb1 rx hd1 ?_);simp only [eC,aP,if_false];refine ae (vt e 8 s' _ _ hb2 re hd2 ?_);simp only [eC,aP,if_false];refine ae (vz d 8 s' _ _ hb1 rx hd1 ?_);simp only [aP,if_false];refine ae (vz e 8 s' _ _ hb2 re hd2 ?_);simp only [aP,if_false];refine ak ?_;exact ⟨rfl,rfl,hr⟩
 . rintro r s' ⟨rfl,rfl,_⟩;exact ak q
def fits_of {t:eL} {hs:List Int} (T:TbI t hs) {n:Nat} (h:hs.length = n):t.fits n = true:=by
 have h1:t.place.size = n:=by rw [<- h,<- T.len];simp
 unfold SetTable.fits sH;rw [T.dm,h1];have:=T.few;simp
 lia
def Nj {m:Nat} (h:mk m):(m % 2 == 0) = false:=by rcases h with rfl | rfl | rfl<;>rfl
def Fh {a:aq} {es:Array (Int × af)} {ep:Nat} {t:eL} {ds:List D} {d:D} {x:af} {Q:SetFound->ah->Prop} (hu:A.units+20 < cLine)
 (g:s.heap.get? a = some { cls:=.type "set",dict:=none,data:=.set es ep t,slots := #[] }) (T:TbI t (es.toList.map (·.1))) (he:Ow w s.heap ds es.toList) (hx:hok d = true) (rx:RdV s.heap d x)
 (there:d∈ds->Q (.there none) s) (free:d∉ds->∀ N,pbs t.mask (hD w d) N∉t.place.toList->(∀ k < N,pbs t.mask (hD w d) k∈t.place.toList)->Q (.free (pbs t.mask (hD w d) N) false) s) :
 wpAny (model prog w) A (setSearch a x (hD w d) (adding:=true)) Q E s:=by
 have hf:t.fits es.size = true:=fits_of T ↥0;have hsi:∀ (i:Nat) (e:Int × af),es.toList[i]? = some e->(es.toList.map (·.1))[i]? = some e.1:=λi e z=>by rw [bf,z];rfl
 obtain ⟨N0,_,n2,n3⟩:=T.room (hD w d) 0
 have hT0:10 * SetTable.turns t.mask < 100000:=by
  unfold SetTable.turns;rcases T.mok with z | z | z<;>rw [z]<;>decide
 obtain ⟨hb1,hd1,_⟩:=fb hx
 have main:∀ (f n:Nat) (st:Option SetTable.Probe),st.getD (t.probeStart (hD w d)) = sq t.mask (hD w d) n->n<=N0->N0 - n < f->(∀ k < n,pbs t.mask (hD w d) k∈t.place.toList) ->
  (∀ (i k:Nat),k < n->t.place.toList[i]? = some (pbs t.mask (hD w d) k)->ds[i]?≠some d)->wpAny (model prog w) A (setSearchFrom a x (hD w d) true f st) Q E s:=by
  intro f
  induction f with
  | zero=>intro n st _ _ z;lia
  | succ f ih =>
    intro n st hst hn hf' hr hv;unfold setSearchFrom;refine ae (cD g rfl hf ?_);dsimp only;rw [if_neg (by show ¬ (t.mask % 2 == 0) = true;rw [Nj T.mok];exact ao),hst]
    obtain ⟨r,er,pr⟩:=FF T (hD w d) (ha:=λi=>(es[i]?.map (·.1)).getD 0) (λi h z=>by
     rw [bf] at z;obtain ⟨e,e1,e2⟩:=aJ.mp z;have:es[i]? = some e:=by simpa using e1
     simp [this,e2]) n
    generalize hp:t.probe _ (hD w d) (sq t.mask (hD w d) n) = pr';have hp':pr' = some r:=hp.symm.trans er;subst hp'
    cases pr with
    | empty N a b c =>
      refine ak (free (λhm=>?_) N b λk hk=>?_)
      . obtain ⟨i,hi⟩:=dX hm;obtain ⟨e,e1,e2,_,_⟩:=qX he i d hi
        have hl:i < t.place.toList.length:=by
         rw [T.len,av];exact (aD.mp e1).1
        have ej:=aA hl;have eh:(es.toList.map (·.1))[i]? = some (hD w d):=by rw [hsi i e e1,e2]
        obtain ⟨n0,m1,m2⟩:=T.rch i _ _ ej eh;rw [<- m1] at ej;rcases cF n0 n with z | z
        . exact hv i n0 z ej hi
        . rcases pL n0 N with y | y | y
          . exact (c n0 z y).2 i ej eh
          . rw [y] at ej;exact b (bP ej)
          . exact b (m2 N y)
      . rcases cF k n with z | z
        . exact hr k z
        . exact (c k z hk).1
    | cand N i aN b e c =>
      rw [bf] at e;obtain ⟨ei,e1,e2⟩:=aJ.mp e;obtain ⟨di,d1,d2,d3,d4⟩:=qY he i ei e1;obtain ⟨hb2,hd2,_⟩:=fb d3;have e1':es[i]? = some ei:=by simpa using e1
      have hN:N+1<=N0:=by
       rcases cF N N0 with z | z
       . exact z
       . rcases oU z with y | y
         . exact absurd (c N0 hn y).1 n3
         . exact absurd (by rw [y];exact bP b) n3
      have hall:∀ v∈List.map (λx=>x.snd) (Array.filter (λx=>x.fst == hD w d) es).toList,∃ e,hok e = true/\RdV s.heap e v:=λv hv=>by
       obtain ⟨y,hy,rfl⟩:=aW.mp hv;rw [Array.toList_filter] at hy;obtain ⟨k,hk⟩:=dX (sJ.mp hy).1;obtain ⟨q,_,_,q1,q2⟩:=qY he k y hk;exact ⟨q,q1,q2⟩
      have go:wpAny (model prog w) A (setSearchFrom a x (hD w d) true f (some (sq t.mask (hD w d) (N+1)))) Q E s\/di = d:=by
       by_cases z:di = d
       . exact .inr z
       . refine .inl (ih (N+1) (some (sq t.mask (hD w d) (N+1))) rfl hN ∅ (λk hk=>?_) λi' k hk h1 h2=>?_)
         . rcases cF k n with y | y
           . exact hr k y
           . rcases oU (dz hk) with y' | y'
             . exact (c k y y').1
             . rw [y'];exact bP b
         . rcases cF k n with y | y
           . exact hv i' k y h1 h2
           . obtain ⟨e',q1,q2,_⟩:=qX he i' d h2;have eh:(es.toList.map (·.1))[i']? = some (hD w d):=by rw [hsi i' e' q1,q2]
             rcases oU (dz hk) with y' | y'
             . exact (c k y y').2 i' h1 eh
             . rw [y'] at h1;have l1:=T.live h1;rw [T.live b] at l1;cases l1;rw [d1] at h2;exact z (bA h2)
      dsimp only;split
      all_goals
       try
        refine ae (Mr hx rx ?_ _ hall);simp only [aP,if_false]
       rw [e1'];dsimp only;refine ae (cc (se di d A s ei.2 x d4 rx ∅ prog w E _ ?_));refine ae (cD g rfl hf ?_);dsimp only;rcases go with go | go
       . by_cases hq:eqD di d = true
         . rw [hq];simp only [fo,if_true];exact ak (there (by rw [<- (fU di d hb2 hb1).mp hq];exact bP d1))
         . rw [jH.mpr hq,if_neg ⇑0];rw [show t.sameMemory t.moves t.mask = some true by unfold SetTable.sameMemory;simp];dsimp only;rw [if_pos rfl,T.live b];dsimp only;rw [e1'];dsimp only;refine ae (gR (a:=true) (by obtain ⟨c,hc⟩:=pZ d3 d4;rw [hc];unfold isSame;simp) ?_);exact ae (ak go)
       . have hq:eqD di d = true:=(fU di d hb2 hb1).mpr go;rw [hq];simp only [fo,if_true];exact ak (there (by rw [<- go];exact bP d1))
 exact main 100000 0 none rfl ∅ ∅ (λk hk=>by lia) λi k hk=>by lia
end
end PP
end
section
namespace PP
open PySem L2 PyProof.Rows
def Dm {E:af->ah->Prop} (hn:n≠0) (h:∀ i,i < n->Q i { s with drawn:=s.drawn.bump src }):wpAny M A (choose src n) Q E s :=
 λΓ p hΓ=>⟨hn,h _ (ju _ (Nat.pos_of_ne_zero hn))⟩
def mC {α:Type}:∀ {xs:List α} {i:Nat} {x:α},xs[i]? = some x->xs.Perm (x::xs.eraseIdx i)
 | [],i,x,h=>by simp at h
 | y::ys,0,x,h=>by simp at h;subst h;exact .refl _
 | y::ys,i+1,x,h=>by
   have:=mC (xs:=ys) (i:=i) (by simpa using h);exact (this.cons y).trans (.swap _ _ _)
def xQ {E:af->ah->Prop} {α:Type}:∀ (n:Nat) (xs:List α) (s:ah) (Q:List α->ah->Prop),xs.length = n->(∀ ys d,ys.Perm xs->Q ys { s with drawn:=d })->wpAny M A (drawOrder n xs) Q E s
 | 0,xs,s,Q,hl,h=>by
   have:xs = []:=gD.mp hl;subst this
   exact ak (h [] s.drawn (.refl _))
 | n+1,[],s,Q,hl,h=>by simp at hl
 | n+1,x::xs,s,Q,hl,h=>by
   unfold drawOrder;refine ae (Dm ↥0 λi hi=>?_);have e:(x::xs)[i]? = some (x::xs)[i]:=aA hi;have pe:=mC e;rw [e];dsimp only;refine ae (xQ n _ _ _ ?_ λys d p=>ak ?_)
   . rw [uM hi];simp at hl |-;exact hl
   . exact h _ d ((p.cons _).trans pe.symm)
def AX {α:Type} (f:Nat->Nat):∀ (n k:Nat) (left:List α) (out:Array α),left.length = n->(tm f n k left out).toList.Perm (out.toList++left)
 | 0,k,left,out,hl=>by
   have:left = []:=gD.mp hl;subst this
   simp [tm]
 | n+1,k,left,out,hl=>by
   have hi:f k % left.length < left.length:=ju _ ∅;have e:left[f k % left.length]? = some left[f k % left.length]:=aA hi;have pe:=mC e;unfold tm;rw [e];dsimp only;refine (AX f n (k+1) _ _ (by rw [uM hi];lia)).trans ?_;rw [DN,fA];exact (List.Perm.refl _).append pe.symm
def ug {α:Type} (f:Nat->Nat) (xs:Array α):(pickOrder f xs).toList.Perm xs.toList:=by
 have:=AX f xs.size 0 xs.toList #[] ↥0;simpa [pickOrder] using this
def lB:Slot "set_iterator" "__next__" "set_iterator.__next__" :=
 .of (owner:="set_iterator") (n:="__next__") (by rw [mI,iF];kernel_rfl) ⇑0 ⇑0 ⇑0 (by first | exact .inl ⇑0 | exact .inr ⇑0) (by rw [An];kernel_rfl)
def yo:entryFor table "set_iterator.__next__" = some dY.«set_iterator.__next__»:=entryFor_of_tree ⋯
def BN (a:af):argsOk "set_iterator.__next__" ⟨[a],[]⟩:=by unfold argsOk;kernel_rfl
def He:entryFor table "set.__iter__" = some dY.«frozenset.__iter__»:=entryFor_alias (id':="frozenset.__iter__") ⋯ rfl ⇑0 ⋯
def Dj:entryFor table "set_iterator.__iter__" = some dY.«dict_keyiterator.__iter__»:=entryFor_alias (id':="dict_keyiterator.__iter__") ⋯ rfl ⇑0 ⋯
def Hw (a:af):argsOk "set_iterator.__iter__" ⟨[a],[]⟩:=by unfold argsOk;kernel_rfl
def xx:Slot "set_iterator" "__iter__" "set_iterator.__iter__" :=
 .of (owner:="set_iterator") (n:="__iter__") (by rw [mI,iF];kernel_rfl) ⇑0 ⇑0 ⇑0 (by first | exact .inl ⇑0 | exact .inr ⇑0) (by rw [An];kernel_rfl)
section
variable {prog:aO} {w:aZ} {A:aR} {E:af->ah->Prop} {s:ah}
def itO (first:af) (i:Nat) (a:aq) (n ep:Nat):Obj:={ cls:=.type "set_iterator",data:=.fields #[first,.int i 0,.ref a,.int n 0,.int ep 0] }
def Gz (g:s.heap.get? a = some { cls:=.type "set",dict:=none,data:=.set es ep t,slots := #[] }) (hf:t.fits es.size = true)
 (hd:(w.params.followText "set-order" = true\/es.size<=1)->Q (.ref s.heap.objs.size) { s with heap:=s.heap.push (itO (.int 0 0) 0 a es.size ep) })
 (hn:w.params.followText "set-order" = false->∀ (ps:List Nat) d,ps.Perm (bo es.size) ->
   Q (.ref (s.heap.objs.size+1)) { s with drawn:=d,heap:=(s.heap.push { cls:=.type "tuple",data:=.seq (ps.map λ(i:Nat)=>rawInt i).toArray }).push (itO (.ref s.heap.objs.size) 0 a es.size ep) })
 (hz:es.size < 1000) (hp:es.size = 0\/t.plain = false):wpAny (model prog w) A (pyIter (.ref a)) Q E s:=by
 refine OB (T:="set") ⟨_,g,rfl⟩ PySem.F.slot_set_iter (cg PySem.F.slot_set_iter ⟨_,g,rfl⟩ He ?_ (PySem.F.args_set_iter_1 _));unfold dY.«frozenset.__iter__» Builtin.Frozenset.slot0 Builtin.Frozenset.addrOf Builtin.Frozenset.sizeOf;simp only [slotArgs,qv,eC,aP,if_false,bR,bne_self_eq_false,pure_bind,bind_assoc];refine ae (pJ g rfl hf ?_);unfold setDrawn setsByText;simp only [bind_assoc,pure_bind];refine ae (cD g rfl hf (ae (gh ?_)));have sn:typeLookup (.type "set_iterator") (du "__next__") = pure (some (.builtin "set_iterator.__next__")):=lB.lookup
 cases hb:w.params.followText "set-order" with
 | true =>
   rw [show ((model prog w).w.params.followText "set-order") = true from hb];simp only [eC,Bool.false_and,aP,if_false]
   refine ae (tj g rfl hf (ae (bx (ak ⟨_,rfl,"set_iterator",_,⟨_,aE _ rfl,rfl⟩,sn,hd (.inl hb)⟩))))
 | false =>
   rw [show ((model prog w).w.params.followText "set-order") = false from hb];split
   . refine ae (xQ _ _ _ _ ↥0 λps d p=>?_);have hl:ps.length = es.size:=by rw [p.length_eq];simp
     unfold newTuple;refine ae (bx ?_ (by show (ps.map λ(i:Nat)=>rawInt i).toArray.size<=sizeLine;rw [cj];simp;lia));refine ae (tj (s:={ s with drawn:=d,heap:=s.heap.push { cls:=.type "tuple",data:=.seq (ps.map λ(i:Nat)=>rawInt i).toArray } }) (ai _ g) rfl hf ?_);refine ae (bx (ak ⟨_,rfl,"set_iterator",_,⟨_,aE _ rfl,rfl⟩,sn,?_⟩));have:=hn hb ps d p;rw [show (s.heap.push { cls:=.type "tuple",data:=.seq (ps.map λ(i:Nat)=>rawInt i).toArray }).objs.size = s.heap.objs.size+1 from bH ..];exact this
   . rename_i nd
     have h1:es.size<=1:=by
      rcases hp with z | z
      . lia
      . apply iR;intro h2;apply nd;show (!false && (!t.plain && decide (es.size > 1))) = true;rw [z];simp
        lia
     refine ae (tj g rfl hf (ae (bx (ak ⟨_,rfl,"set_iterator",_,⟨_,aE _ rfl,rfl⟩,sn,hd (.inr h1)⟩))))
end
section
variable {prog:aO} {w:aZ} {A:aR} {E:af->ah->Prop} {s:ah}
def zD (es:Array (Int × af)) (ep:Nat) (t:eL):Obj:={ cls:=.type "set",dict:=none,data:=.set es ep t,slots := #[] }
def plO (ps:List Nat):Obj:={ cls:=.type "tuple",data:=.seq (ps.map λ(i:Nat)=>rawInt i).toArray }
def vJ (g:s.heap.get? I = some (itO f i a n ep)) (h:Q (.ref I) s):wpAny (model prog w) A (pyIter (.ref I)) Q E s:=by
 refine OB (T:="set_iterator") ⟨_,g,rfl⟩ xx (cg xx ⟨_,g,rfl⟩ Dj ?_ (Hw _));exact ak ⟨_,rfl,"set_iterator",_,⟨_,g,rfl⟩,lB.lookup,h⟩
def AB {Q:Option af->ah->Prop} {Q':PySem.Fin->ah->Prop} (hh:A.handled = none) (h:∀ h',(∀ b o,s.heap.get? b = some o->h'.get? b = some o)->Q none { s with heap:=h' }) :
 wpAny (model prog w) A.in1 (do raiseNew (<- newExc (.type "StopIteration") [])) Q' (λe s'=>wpAny (model prog w) A (do
  let b <- isInstance e (.type "StopIteration")
  if b = true then pure none else throw e) Q E s') s:=by
 refine ae ?_;simp only [newExc,newTuple];refine ae (bx (ae (m:=firstArgMember _ _) (gR (a:=cq) (by first | rfl | (simp only [firstArgMember];rfl)) (bx ?_ (by size_fits)))) (by size_fits));simp only [raiseNew];apply ae;apply wpAny_handled;rw [(hh:A.in1.handled = none)];dsimp only;apply wpAny_throw;refine ae (lP (b:=true) (T:="StopIteration") ⟨_,aE _ rfl,rfl⟩ isSubtype_stop (ak (h _ λb o e=>?_)));exact ai _ (ai _ e)
def rL {I:aq} {f x:af} {i:Nat} {a:aq} {n ep:Nat} {h:bG} (g:h.get? I = some (itO f i a n ep)):(h.update I (ke (·.setIfInBounds 0 x))).get? I = some (itO x i a n ep):=cZ _ g rfl
def yf {I:aq} {f:af} {i:Nat} {a:aq} {n ep:Nat} {h:bG} (g:h.get? I = some (itO f i a n ep)):(h.update I (ke (·.setIfInBounds 1 (rawInt ((i:Int)+1))))).get? I = some (itO f (i+1) a n ep):=by
 have:=cZ (ke (·.setIfInBounds 1 (rawInt ((i:Int)+1)))) g rfl;rw [this];simp [ke,itO,rawInt]
section
variable {I a:aq} {es:Array (Int × af)} {ep:Nat} {t:eL} {i:Nat} {Q:Option af->ah->Prop}
def vF {slot:Nat} (g:s.heap.get? I = some (itO (.int slot 0) i a es.size ep)) (ga:s.heap.get? a = some (zD es ep t)) (hf:t.fits es.size = true) (hh:A.handled = none) {r:Option (af × Nat)}
 (hs:∀ (A':aR) (Q':Option (af × Nat)->ah->Prop) (E':af->ah->Prop),Q' r s->wpAny (model prog w) A' (setNext a slot i ep) Q' E' s)
 (h:match r with
   | some (x,next)=>∀ h',h'.get? I = some (itO (.int next 0) (i+1) a es.size ep)->(∀ b o,b≠I->s.heap.get? b = some o->h'.get? b = some o)->Q (some x) { s with heap:=h' }
   | none=>∀ h',(∀ b o,b≠I->s.heap.get? b = some o->h'.get? b = some o)->Q none { s with heap:=h' }) :
 wpAny (model prog w) A (pyNext (.ref I)) Q E s:=by
 unfold pyNext;refine ae (qq (cS (name:=du "__next__") ⟨_,g,rfl⟩ lB (cg lB ⟨_,g,rfl⟩ yo ?_ (BN _))));unfold dY.«set_iterator.__next__»;simp only [slotArgs,qv,eC,aP,if_false,bR,bne_self_eq_false,pure_bind,bind_assoc];refine ae (wpAny_fieldsOf g rfl ?_);dsimp only;refine ae (pJ ga rfl hf ?_);rw [if_neg ↥0];refine ae (hs _ _ _ ?_)
 cases r with
 | some p =>
   obtain ⟨x,next⟩:=p;refine ae (eW g rfl (by show 0 < 5;decide) (ae (eW (rL g) rfl (by show 1 < 5;decide) (ak ⟨x,rfl,ak (h _ (yf (rL g)) λb o hb e=>?_)⟩))))
   exact (bU _ I _).extBut b o hb ((bU _ I _).extBut b o hb e)
 | none =>
   refine ae (eW g rfl (by show 2 < 5;decide) ?_);refine AB hh λh' k=>?_;exact h h' λb o hb e=>k b o ((bU _ I _).extBut b o hb e)
def Ge {T:aq} {ps:List Nat} (g:s.heap.get? I = some (itO (.ref T) i a es.size ep)) (ga:s.heap.get? a = some (zD es ep t)) (gT:s.heap.get? T = some (plO ps)) (hf:t.fits es.size = true) (hh:A.handled = none)
 (h:match ps[i]? with
   | some p=>∃ x,es[p]? = some x/\∀ h',h'.get? I = some (itO (.ref T) (i+1) a es.size ep)->(∀ b o,b≠I->s.heap.get? b = some o->h'.get? b = some o)->Q (some x.2) { s with heap:=h' }
   | none=>∀ h',(∀ b o,b≠I->s.heap.get? b = some o->h'.get? b = some o)->Q none { s with heap:=h' }) :
 wpAny (model prog w) A (pyNext (.ref I)) Q E s:=by
 unfold pyNext;refine ae (qq (cS (name:=du "__next__") ⟨_,g,rfl⟩ lB (cg lB ⟨_,g,rfl⟩ yo ?_ (BN _))));unfold dY.«set_iterator.__next__»;simp only [slotArgs,qv,eC,aP,if_false,bR,bne_self_eq_false,pure_bind,bind_assoc];refine ae (wpAny_fieldsOf g rfl ?_);dsimp only;refine ae (pJ ga rfl hf ?_);rw [if_neg ↥0];refine ae (cJ gT rfl ?_);dsimp only;have e:((ps.map λ(i:Nat)=>rawInt i).toArray)[((i:Nat):Int).toNat]? = (ps[i]?).map λ(p:Nat)=>rawInt p:=by simp
 rw [e]
 cases hp:ps[i]? with
 | some p =>
   rw [hp] at h;obtain ⟨x,hx,h⟩:=h;simp only [dy,rawInt];unfold setNextDrawn;simp only [bind_assoc,pure_bind];refine ae (cD ga rfl hf ?_);rw [if_neg ↥0];simp only [jK,hx,pure_bind];refine ae (eW g rfl (by show 1 < 5;decide) (ak ⟨x.2,rfl,ak (h _ (yf g) λb o hb e=>?_)⟩))
   exact (bU _ I _).extBut b o hb e
 | none =>
   rw [hp] at h;simp only [Option.map_none];refine ae (eW g rfl (by show 0 < 5;decide) (ae (eW (rL g) rfl (by show 2 < 5;decide) ?_)));refine AB hh λh' k=>?_;exact h h' λb o hb e=>k b o ((bU _ I _).extBut b o hb ((bU _ I _).extBut b o hb e))
end
end
section
variable {prog:aO} {w:aZ} {A:aR} {E:af->ah->Prop} {s:ah} {I a T:aq} {es:Array (Int × af)} {ep:Nat} {t:eL}
def DU (hh:A.handled = none) (h1:a≠I) (h2:T≠I) (hf:t.fits es.size = true) (hp:∀ p∈ps,p < es.size) :
 Kv prog w A I [I,a,T] [I] ps.length (λi v=>∃ p x,ps[i]? = some p/\es[p]? = some x/\v = x.2) (λi h=>h.get? I = some (itO (.ref T) i a es.size ep)/\h.get? a = some (zD es ep t)/\h.get? T = some (plO ps)) where
 sub:=λb hb=>by simp at hb;simp [hb]
 frame:=λ_ _ _ st hk=>⟨hk I ↥0 _ st.1,hk a ↥0 _ st.2.1,hk T ↥0 _ st.2.2⟩
 item:=λi s Q E hi st hQ=>by
  refine Ge (ps:=ps) st.1 st.2.1 st.2.2 hf hh ?_;have e:ps[i]? = some ps[i]:=aA hi;obtain ⟨x,hx⟩:∃ x,es[ps[i]]? = some x:=⟨_,bT (hp _ (kh hi))⟩;rw [e];exact ⟨x,hx,λh' g' k=>hQ _ h' s.toks ⟨_,_,e,hx,rfl⟩ ⟨g',k a _ h1 st.2.1,k T _ h2 st.2.2⟩ λb o hb z=>k b o (λq=>hb (by simp [q])) z⟩
 done:=λs Q E st hQ=>by
  refine Ge (ps:=ps) st.1 st.2.1 st.2.2 hf hh ?_;have e:ps[ps.length]? = none:=by simp
  rw [e];exact λh' k=>hQ h' s.toks λb o hb z=>k b o (λq=>hb (by simp [q])) z
 self:=λ_ _ _ _ st hQ=>vJ st.1 hQ
def txt (w:aZ) (a:aq) (ep:Nat) (es:Array (Int × af)):Array (Int × af):=pickOrder (w.params.setOrder a ep) es
def DT (hh:A.handled = none) (h1:a≠I) (hf:t.fits es.size = true) (hb:w.params.followText "set-order" = true) :
 Kv prog w A I [I,a] [I] es.size (λi v=>∃ x,(txt w a ep es)[i]? = some x/\v = x.2) (λi h=>(∃ slot:Nat,h.get? I = some (itO (.int slot 0) i a es.size ep))/\h.get? a = some (zD es ep t)):=by
 have hsz:(txt w a ep es).size = es.size:=by
  have:=(ug (w.params.setOrder a ep) es).length_eq;simpa [txt] using this
 have sn:∀ (A':aR) (s:ah) (slot i:Nat) (Q':Option (af × Nat)->ah->Prop) (E':af->ah->Prop),s.heap.get? a = some (zD es ep t)->Q' (((txt w a ep es)[i]?).map λe=>(e.2,slot)) s->wpAny (model prog w) A' (setNext a slot i ep) Q' E' s:=λA' s slot i Q' E' ga q=>by
  unfold setNext setsByText;simp only [bind_assoc,pure_bind];refine ae (cD ga rfl hf (ae (gh ?_)));rw [show ((model prog w).w.params.followText "set-order") = true from hb];simp only [if_true,bne_self_eq_false,aP,if_false];unfold setWalk setsByText;simp only [bind_assoc,pure_bind];refine ae (cD ga rfl hf (ae (gh ?_)));rw [show ((model prog w).w.params.followText "set-order") = true from hb];simp only [if_true,bind_assoc,pure_bind];exact ae (gh (ak q))
 exact {
  sub:=λb hb=>by simp at hb;simp [hb]
  frame:=λ_ _ _ st hk=>⟨st.1.imp λslot e=>hk I ↥0 _ e,hk a ↥0 _ st.2⟩
  item:=λi s Q E hi st hQ=>by
   obtain ⟨slot,g⟩:=st.1;have e:(txt w a ep es)[i]? = some ((txt w a ep es)[i]'(by omega)):=bT _;refine vF (slot:=slot) (r:=some (((txt w a ep es)[i]'(by omega)).2,slot)) g st.2 hf hh (λA' Q' E' q=>sn A' s slot i Q' E' st.2 (by rw [e];exact q)) λh' g' k=>?_;exact hQ _ h' s.toks ⟨_,e,rfl⟩ ⟨⟨slot,g'⟩,k a _ h1 st.2⟩ λb o hb z=>k b o (λq=>hb (by simp [q])) z
  done:=λs Q E st hQ=>by
   obtain ⟨slot,g⟩:=st.1;have e:(txt w a ep es)[es.size]? = none:=by rw [<- hsz];simp
   refine vF (slot:=slot) (r:=none) g st.2 hf hh (λA' Q' E' q=>sn A' s slot es.size Q' E' st.2 (by rw [e];exact q)) λh' k=>?_;exact hQ h' s.toks λb o hb z=>k b o (λq=>hb (by simp [q])) z
  self:=λ_ _ _ _ st hQ=>vJ st.1.choose_spec hQ }
def yE (p:Array Nat) (hp:p.size<=1) (slot:Nat):de p slot = if p.any (· < slot) = true then 1 else 0:=by
 match p,hp with
 | ⟨[]⟩,_=>simp [de,kA]
 | ⟨[j]⟩,_ =>
   by_cases h:j < slot
   . simp [de,kA,h]
   . simp [de,kA,h]
 | ⟨_::_::_⟩,h=>simp at h
def DV (hh:A.handled = none) (h1:a≠I) (hf:t.fits es.size = true) (hb:w.params.followText "set-order" = false) (hl:t.led = true) (hz:es.size<=1) :
 Kv prog w A I [I,a] [I] es.size (λi v=>∃ x,es[i]? = some x/\v = x.2) (λi h=>(∃ slot:Nat,h.get? I = some (itO (.int slot 0) i a es.size ep)/\(i = 0->slot = 0)/\(1<=i->t.place.any (· < slot) = true))/\h.get? a = some (zD es ep t)):=by
 have hp:t.place.size = es.size:=by
  have:=hf;simp only [SetTable.fits,aa,beq_iff_eq] at this;exact this.1
 have sn:∀ (A':aR) (s:ah) (slot i:Nat) (Q':Option (af × Nat)->ah->Prop) (E':af->ah->Prop),s.heap.get? a = some (zD es ep t) ->
  Q' (match es[de t.place slot]?,t.place[de t.place slot]? with | some (_,x),some j=>some (x,j+1) | _,_=>none) s->wpAny (model prog w) A' (setNext a slot i ep) Q' E' s:=λA' s slot i Q' E' ga q=>by
  unfold setNext setsByText;simp only [bind_assoc,pure_bind];refine ae (cD ga rfl hf (ae (gh ?_)));rw [show ((model prog w).w.params.followText "set-order") = false from hb];simp only [aP,if_false];refine gR (a:=(match es[de t.place slot]?,t.place[de t.place slot]? with | some (_,x),some j=>some (x,j+1) | _,_=>none)) ?_ q;rw [if_neg (by show ¬ ((!t.plain && decide (es.size > 1)) = true);simp;omega)];show ((if (!t.led && !es.isEmpty) = true then unsupported _ else pure ()) >>= λ_=>pure _:Sem _) = _;rw [hl];rfl
 exact {
  sub:=λb hb=>by simp at hb;simp [hb]
  frame:=λ_ _ _ st hk=>⟨st.1.imp λslot e=>⟨hk I ↥0 _ e.1,e.2⟩,hk a ↥0 _ st.2⟩
  item:=λi s Q E hi st hQ=>by
   obtain ⟨slot,g,z0,z1⟩:=st.1;have i0:i = 0:=by omega
   subst i0;have s0:=z0 rfl;subst s0;have b0:de t.place 0 = 0:=by rw [yE _ (by omega)];simp
   have e:es[0]? = some (es[0]'hi):=bT _;have ej:t.place[0]? = some (t.place[0]'(by omega)):=bT _;refine vF (slot:=0) (r:=some ((es[0]'hi).2,t.place[0]'(by omega)+1)) g st.2 hf hh (λA' Q' E' q=>sn A' s 0 0 Q' E' st.2 (by rw [b0,e,ej];exact q)) λh' g' k=>?_;refine hQ _ h' s.toks ⟨_,e,rfl⟩ ⟨⟨_,g',λz=>by omega,λ_=>?_⟩,k a _ h1 st.2⟩ λb o hb z=>k b o (λq=>hb (by simp [q])) z;rw [Array.any_eq_true];exact ⟨0,by omega,↥0⟩
  done:=λs Q E st hQ=>by
   obtain ⟨slot,g,z0,z1⟩:=st.1
   have e:es[de t.place slot]? = none:=by
    rw [yE _ (by omega)];rcases cF 0 es.size with q | q
    . rw [if_pos (z1 (by omega))];exact yQ (by omega)
    . exact yQ (by split<;>omega)
   refine vF (slot:=slot) (r:=none) g st.2 hf hh (λA' Q' E' q=>sn A' s slot es.size Q' E' st.2 (by rw [e];exact q)) λh' k=>?_;exact hQ h' s.toks λb o hb z=>k b o (λq=>hb (by simp [q])) z
  self:=λ_ _ _ _ st hQ=>vJ st.1.choose_spec.1 hQ }
def Ov (w:aZ) (a:aq) (xs:List af) (h:bG):Prop:=∃ (es:Array (Int × af)) (ep:Nat) (t:eL),
 h.get? a = some { cls:=.type "set",dict:=none,data:=.set es ep t,slots := #[] }/\t.fits es.size = true/\t.led = (!w.params.followText "set-order")/\(es.size = 0\/t.plain = false)/\(es.toList.map (·.2)).Perm xs
def Fe (hh:A.handled = none) (hS:Ov w a xs s.heap) (hz:xs.length < 1000)
 (h:∀ (I:aq) (fp:List aq) (n:Nat) (P:Nat->af->Prop) (St:Nat->bG->Prop) (us:List af) d h',Kv prog w A I fp [I] n P St->us.length = n->St 0 h'->(∀ b∈fp,b < h'.objs.size)->(∀ b o,s.heap.get? b = some o->b≠I/\h'.get? b = some o)->us.Perm xs->(∀ i v,P i v->us[i]? = some v)->(∀ b∈fp,b = a\/s.heap.objs.size<=b) ->
   Q (.ref I) { s with drawn:=d,heap:=h' }):wpAny (model prog w) A (pyIter (.ref a)) Q E s:=by
 obtain ⟨es,ep,t,g,hf,hl,hp,hu⟩:=hS;have hsz:es.size = xs.length:=by rw [<- hu.length_eq];simp
 have ha:a < s.heap.objs.size:=az g
 have pe:∀ (vs:List (Int × af)),vs.Perm es.toList->∃ us':List af,us'.Perm xs/\us'.length = es.size/\∀ (i:Nat) (x:Int × af),vs[i]? = some x->us'[i]? = some x.2:=λvs pv =>
  ⟨vs.map (·.2),(pv.map _).trans hu,by rw [av,pv.length_eq,bu],λi x hx=>by rw [bf,hx];rfl⟩
 refine Gz g hf (λhm=>?_) (λhb ps d pp=>?_) (by omega) hp
 . cases hb:w.params.followText "set-order" with
   | true =>
     obtain ⟨us',p',l',q'⟩:=pe (txt w a ep es).toList (ug _ _);refine h s.heap.objs.size [s.heap.objs.size,a] es.size _ _ us' s.drawn _ (DT (ep:=ep) (I:=s.heap.objs.size) hh (aH ha) hf hb) l' ⟨⟨0,aE _ rfl⟩,ai _ g⟩ (λb hb=>?_) (λb o e=>⟨aH (az e),ai _ e⟩) p' (λi v ⟨x,hx,hv⟩=>?_) (λb hb=>by simp at hb;rcases hb with rfl | rfl;exact .inr (aw _);exact .inl rfl)
     . rw [bH];simp at hb;rcases hb with rfl | rfl
       . exact cK _
       . exact bE ha
     . rw [hv]
       exact q' i x (by simpa using hx)
   | false =>
     have h1:es.size<=1:=by
      rcases hm with z | z
      . rw [hb] at z;cases z
      . exact z
     obtain ⟨us',p',l',q'⟩:=pe es.toList (.refl _);refine h s.heap.objs.size [s.heap.objs.size,a] es.size _ _ us' s.drawn _ (DV (ep:=ep) (I:=s.heap.objs.size) hh (aH ha) hf hb (by rw [hl,hb];rfl) h1) l' ⟨⟨0,aE _ rfl,λ_=>rfl,λz=>by omega⟩,ai _ g⟩ (λb hb=>?_) (λb o e=>⟨aH (az e),ai _ e⟩) p' (λi v ⟨x,hx,hv⟩=>?_) (λb hb=>by simp at hb;rcases hb with rfl | rfl;exact .inr (aw _);exact .inl rfl)
     . rw [bH];simp at hb;rcases hb with rfl | rfl
       . exact cK _
       . exact bE ha
     . rw [hv];exact q' i x (by simpa using hx)
 . have hps:∀ p∈ps,p < es.size:=λp hp=>by simpa using pp.mem_iff.mp hp
   have hpl:ps.length = es.size:=by rw [pp.length_eq];simp
   have pv:(ps.filterMap λp=>es[p]?).Perm es.toList:=by
    have:=pp.filterMap λp=>es[p]?
    rwa [DD] at this
   have ev:∀ (ps:List Nat),(∀ p∈ps,p < es.size)->∀ (i p:Nat),ps[i]? = some p->(ps.filterMap λp=>es[p]?)[i]? = es[p]? := λps=>by
    induction ps with
    | nil=>intro _ i p e;simp at e
    | cons q qs ih =>
      intro hq i p e;have hq0:es[q]? = some (es[q]'(hq q au)):=bT _;rw [jJ hq0]
      cases i with
      | zero=>simp at e;subst e;simp [hq0]
      | succ i=>simpa using ih (λp hp=>hq p (ar _ hp)) i p (by simpa using e)
   obtain ⟨us',p',l',q'⟩:=pe _ pv;have W:=DU (prog:=prog) (w:=w) (A:=A) (ep:=ep) (a:=a) (I:=s.heap.objs.size+1) (T:=s.heap.objs.size) hh (aH (bE ha)) (aH (cK _)) hf hps;have sz:((s.heap.push (plO ps)).push (itO (.ref s.heap.objs.size) 0 a es.size ep)).objs.size = s.heap.objs.size+1+1:=by rw [bH,bH]
   refine h (s.heap.objs.size+1) [s.heap.objs.size+1,a,s.heap.objs.size] ps.length _ _ us' d _ W (l'.trans hpl.symm) ⟨?_,ai _ (ai _ g),ai _ (aE _ rfl)⟩ (λb hb=>?_) (λb o e=>⟨aH (bE (az e)),ai _ (ai _ e)⟩) p' (λi v ⟨p,x,e1,e2,hv⟩=>?_) (λb hb=>by simp at hb;rcases hb with rfl | rfl | rfl;exact .inr (sI _);exact .inl rfl;exact .inr (aw _))
   . have:((s.heap.push (plO ps)).push (itO (.ref s.heap.objs.size) 0 a es.size ep)).get? (s.heap.push (plO ps)).objs.size = _:=aE _ rfl
     rwa [bH] at this
   . show b < ((s.heap.push (plO ps)).push (itO (.ref s.heap.objs.size) 0 a es.size ep)).objs.size;rw [sz];simp at hb;rcases hb with rfl | rfl | rfl
     . exact cK _
     . exact bE (bE ha)
     . exact bE (cK _)
   . rw [hv];exact q' i x (by rw [ev ps hps i p e1];exact e2)
end
section
variable {prog:aO} {w:aZ} {A:aR} {E:af->ah->Prop} {s:ah} {a:aq}
def Gv:typeLookup (.type "set") "__len__" = pure (some (.builtin "set.__len__")):=PySem.F.slot_set_len.lookup
def Bk {α:Type}:∀ {us vs:List α},us.length = vs.length->(∀ (j:Nat) (v:α),vs[j]? = some v->us[j]? = some v)->us = vs
 | [],[],_,_=>rfl
 | [],_::_,h,_=>by simp at h
 | _::_,[],h,_=>by simp at h
 | u::us,v::vs,h,q=>by
   have e:=q 0 v rfl;simp at e;subst e;rw [Bk (by simpa using h) λj x hj=>q (j+1) x (by simpa using hj)]
def Le {id:String} {args:Args} {b:dY} {R:sy->ah->Prop} (hb:entryFor table id = some b) (hp:plainId id = true)
 (h:wpAny (model prog w) A.in1 (b args) (λfin s'=>match fin with | .done f=>R (.ok f) s' | .again c'=>c'.quiet = true/\codeAny (model prog w) A c' R s') (λe s'=>R (.error e) s') s):codeAny (model prog w) A (.builtin id args) R s :=
 eK hb (by rw [dS hp args];exact h)
def yA {xs:List af} {Q:List af->ah->Prop} (hh:A.handled = none) (hS:Ov w a xs s.heap) (hz:xs.length < 1000)
 (h:∀ (vs:List af) d tk h',vs.Perm xs->(∀ b o,s.heap.get? b = some o->h'.get? b = some o)->Q vs { s with drawn:=d,toks:=tk,heap:=h' }) :
 wpAny (model prog w) A (collect (.ref a)) Q E s:=by
 have ha:a < s.heap.objs.size:=by obtain ⟨es,ep,t,g,_⟩:=hS;exact az g
 have hsa:s.heap.objs.size≠a:=λz=>cy _ (by rw [z] at ha;exact ha);unfold collect;refine ae (wpAny_runValue (Le F.entry_proto_collect F.plain_proto_collect ?_));show wpAny _ A.in1 (newList [] >>= λl=>again (.builtin "list.__iadd__" ⟨[l,.ref a],[]⟩)) _ _ s;refine ae (bx (ak ⟨eO F.plain_list_iadd _,Le F.entry_list_iadd F.plain_list_iadd ?_⟩));generalize ho:({ cls:=.type "list",data:=.seq ([]:List af).toArray }:Obj) = lo;have g0:(s.heap.push lo).get? s.heap.objs.size = some lo:=aE _ (by rw [<- ho];rfl)
 have hS1:Ov w a xs (s.heap.push lo):=by
  obtain ⟨es,ep,t,g,r⟩:=hS;exact ⟨es,ep,t,ai _ g,r⟩
 have hT:({ s with heap:=s.heap.push lo }:ah).TypeIs (.ref a) "set":=by
  obtain ⟨es,ep,t,g,r⟩:=hS1;exact ⟨_,g,rfl⟩
 show wpAny _ A.in1 (nQ (.ref s.heap.objs.size) (.ref a) (.ref s.heap.objs.size)) _ _ _;unfold nQ;refine ae (sZ hT ?_);have nr:pD (.ref s.heap.objs.size) (.ref a) = false:=by simp [pD,hsa]
 rw [if_neg (by rw [nr];decide)];refine ae (Fe (A:=A.in1) hh hS1 hz λI fp n P St us d h2 W hn st hf hk hu hP hfp=>?_);refine ae (cc ?_);unfold Builtin.List.listLengthHint
 have hT2:({ s with heap:=h2,drawn:=d }:ah).TypeIs (.ref a) "set":=by
  obtain ⟨es,ep,t,g,r⟩:=hS1;exact ⟨_,(hk _ _ g).2,rfl⟩
 refine ae (jr hT2 Gv ?_);dsimp only;rw [show splitId "set.__len__" = some ("set","__len__") from by decide];dsimp only;refine ae (lP (b:=true) hT2 (by rw [An];kernel_rfl) ?_);rw [if_neg ⇑0,if_pos ⋯];refine ae (sZ hT2 (ak ?_));rw [if_pos ⇑0];have gS:h2.get? s.heap.objs.size = some lo:=(hk _ _ g0).2;subst ho
 have hSf:s.heap.objs.size∉fp:=λhm=>by
  rcases hfp _ hm with z | z
  . exact hsa z
  . rw [show ({ s with heap:=s.heap.push _ }:ah).heap.objs.size = s.heap.objs.size+1 from bH ..] at z;exact cy _ z
 have g3:=yK gS λxs=>xs.push cq;have g4:=yK g3 λxs=>xs.pop;refine ae (mG (ae ?_));unfold Builtin.List.listTouch;refine ae (lg gS rfl (lg (s:={ s with drawn:=d,heap:=h2.update s.heap.objs.size (cu λxs=>xs.push cq) }) g3 rfl ?_ (by rw [cj];simp) (by rw [cj];simp)) (by rw [cj];simp) (by rw [cj];simp));have up:∀ {h:bG} {f:Obj->Obj} {b:aq} {o:Obj},b≠s.heap.objs.size->h.get? b = some o->(h.update s.heap.objs.size f).get? b = some o:=λhb e=>(dG _ _ (Ne.symm hb)).trans e;have st4:=W.frame 0 _ ((h2.update s.heap.objs.size (cu λxs=>xs.push cq)).update s.heap.objs.size (cu λxs=>xs.pop)) st λb hb o e=>up (λz=>hSf (z▸hb)) (up (λz=>hSf (z▸hb)) e);refine ak ⟨eO F.plain_extend_loop _,codeAny_extend_loopS W.toS (by rw [<- hn,hu.length_eq,cj];lia) _ hSf _ n 0 _ #[] _ rfl (cC _) st4 g4 (ItemsOf.nil P) λs' acc c hm hS' hac=>?_⟩;show wpAny _ A (load s.heap.objs.size >>= _) _ _ s';refine ae (wpAny_load hS' (ak ?_));obtain ⟨hp',gn',dr',tk',os'⟩:=s';obtain ⟨m1,m2,m3,m4,m5⟩:=hm;obtain rfl:gn' = s.gens:=m2;obtain rfl:dr' = d:=m3;obtain rfl:os' = s.os:=m4;have ea:us = acc.toList:=Bk (hn.trans (hac.1.symm.trans bu.symm)) λj v hj=>hP j v (hac.2 j v (by simpa using hj));refine h acc.toList _ tk' hp' (by rw [<- ea];exact hu) λb o e=>?_;have hb:b≠s.heap.objs.size:=aH (az e);have hb2:=hk b o (ai _ e);exact m1 b o (by simp [hb,hb2.1]) (up hb (up hb hb2.2))
def uh {α β:Type} {R:α->β->Prop} {ys' ys:List β} (p:List.Perm ys' ys):∀ xs,Paired R xs ys->∃ xs',xs'.Perm xs/\Paired R xs' ys':=by
 induction p with
 | nil=>intro us r;exact ⟨us,.refl _,r⟩
 | cons x _ ih =>
   intro us r
   cases r with
   | cons r t =>
     obtain ⟨us',p',r'⟩:=ih _ t
     exact ⟨_,p'.cons _,.cons r r'⟩
 | swap x y l =>
   intro us r
   cases r with
   | cons r1 t =>
     cases t with
     | cons r2 t=>exact ⟨_,.swap _ _ _,.cons r2 (.cons r1 t)⟩
 | trans _ _ i1 i2 =>
   intro us r;obtain ⟨u1,p1,r1⟩:=i2 us r;obtain ⟨u2,p2,r2⟩:=i1 u1 r1;exact ⟨u2,p2.trans p1,r2⟩
end
end PP
end
section
namespace PP
open PySem L2 PyProof.Rows PySem.SeqAt
def nI (w:aZ) (a:aq) (xs:List (Int × af)) (h:bG):Prop:=∃ (es:Array (Int × af)) (ep:Nat) (t:eL),
 h.get? a = some { cls:=.type "set",dict:=none,data:=.set es ep t,slots := #[] }/\TbI t (es.toList.map (·.1))/\t.led = (!w.params.followText "set-order")/\(es.size = 0\/t.plain = false)/\es.toList.Perm xs/\es.size * 5 < t.mask * 3
def Dg (hm:mk m) (h1:n<=64) (h2:n<=m) (h3:n * 5 ≥ m * 3):mk (aM (aX n) - 1)/\n<=aM (aX n) - 1/\aM (aX n)<=128/\n * 5 < (aM (aX n) - 1) * 3:=by
 have key:∀ m n:Nat,(m = 7\/m = 31\/m = 127)->n < 65->n<=m->n * 5 ≥ m * 3->(aM (aX n) - 1 = 7\/aM (aX n) - 1 = 31\/aM (aX n) - 1 = 127)/\n<=aM (aX n) - 1/\aM (aX n)<=128/\n * 5 < (aM (aX n) - 1) * 3:=by
  have k7:∀ n < 65,n<=7->n * 5 ≥ 7 * 3->(aM (aX n) - 1 = 7\/aM (aX n) - 1 = 31\/aM (aX n) - 1 = 127)/\n<=aM (aX n) - 1/\aM (aX n)<=128/\n * 5 < (aM (aX n) - 1) * 3:=by decide
  have k31:∀ n < 65,n<=31->n * 5 ≥ 31 * 3->(aM (aX n) - 1 = 7\/aM (aX n) - 1 = 31\/aM (aX n) - 1 = 127)/\n<=aM (aX n) - 1/\aM (aX n)<=128/\n * 5 < (aM (aX n) - 1) * 3:=by decide
  rintro m n (rfl | rfl | rfl) a b c
  . exact k7 n a b c
  . exact k31 n a b c
  . lia
 exact key m n hm ∅ h2 h3
variable [Tbs]
section
variable {prog:aO} {w:aZ} {A:aR} {E:af->ah->Prop} {s:ah}
def xJ (g:s.heap.get? a = some { cls:=.type "set",dict:=none,data:=.set es ep t,slots := #[] })
 (T:TbI t2 (es1.toList.map (·.1))) (hl:t2.led = (!w.params.followText "set-order")) (hp:t2.plain = false) (hq:es1.toList.Perm xs) (hr:xs.length<=64) (hn:es1.size = es.size+1)
 (fin:∀ h',fM a s.heap h'->nI w a xs h'->Q true { s with heap:=h' }) :
 wpAny (model prog w) A (do
  storeSet a es1 t2
  if (!false && t2.tooFull) = true then do
   setRelay a (aX (es.size+1))
   pure true
  else pure true) Q E s:=by
 have hsz:es1.size = xs.length:=by rw [<- bu,hq.length_eq]
 have k1:=AK (es':=es1) (t':=t2) g;have sb1:=bU s.heap a (oR es1 t2);have z1:es1.size < scanBound:=dq (show es1.size<=64 by lia) ⇑0;refine ae (OA g rfl ?_ (OD z1));split
 . rename_i hf
   have hf':t2.place.size * 5 ≥ t2.mask * 3:=by
    have:t2.tooFull = true:=hf;unfold BU sH at this;rw [T.dm] at this;simpa using this
   have hpl:t2.place.size = es1.size:=by have:=T.len;simpa using this
   have hfew:es1.size<=t2.mask:=by have:=T.few;simpa using this
   obtain ⟨m1,m2,m3,m4⟩:=Dg T.mok (n:=es1.size) ∅ hfew ∅;rw [<- hn];unfold setRelay;refine ae (ae (cD (s:={ s with heap:=s.heap.update a (oR es1 t2) }) k1 rfl (fits_of T ↥0) ?_));dsimp only;rw [if_neg (by rw [cj];lia)];obtain ⟨t3,order,e,po,T3,l3,p3,mm3⟩:=JO m1 t2.finger (t2.movedTo (aM (aX es1.size) - 1)) t2.led t2.plain (es1.map (·.1)) (by simpa using m2);have hz:(es1.map (·.1)).size = es1.size:=by simp
   rw [hz] at po
   have pe:(order.filterMap (es1[·]?)).toList.Perm es1.toList:=by
    have:=po.filterMap (es1[·]?);rw [DD] at this;rw [yP];exact this
   have sz3:(order.filterMap (es1[·]?)).size = es1.size:=by
    rw [<- bu,pe.length_eq,bu]
   have T3':TbI t3 ((order.filterMap (es1[·]?)).toList.map (·.1)):=by
    have:(order.filterMap (es1[·]?)).toList.map (·.1) = order.toList.filterMap ((es1.map (·.1))[·]?):=by
     rw [yP,List.map_filterMap];congr 1
     funext k
     simp
    rw [this];exact T3
   refine ae (gR (a:=(order.filterMap (es1[·]?),t3)) ?_ ?_)
   . rw [show t2.relaid (es1.map (·.1)) (aX es1.size) = some (t3,order) from e];show (if ((order.filterMap (es1[·]?)).size != es1.size) = true then _ else _) = _;rw [if_neg (by rw [sz3];simp)]
   . dsimp only;refine OA (s:={ s with heap:=s.heap.update a (oR es1 t2) }) k1 rfl ?_ (OD (by rw [sz3];exact z1));refine ak (fin _ (sb1.trans (bU _ a _)) ⟨_,_,t3,AK k1,T3',l3.trans hl,.inr (p3.trans hp),pe.trans hq,by rw [sz3,mm3];exact m4⟩)
 . rename_i hf;refine ak (fin _ sb1 ⟨es1,_,t2,k1,T,hl,.inr hp,hq,?_⟩);have hpl:t2.place.size = es1.size:=by have:=T.len;simpa using this
   have:¬ (t2.tooFull = true):=hf;unfold BU sH at this;rw [T.dm] at this;simp at this
   lia
def Ff (hu:A.units+20 < cLine) (hS:nI w a xs s.heap) (he:Ow w s.heap ds xs) (hx:hok d = true) (rx:RdV s.heap d x) (hr:xs.length+1<=64)
 (old:d∈ds->Q false { s with toks:=s.toks+nD d }) (new:d∉ds->∀ h',fM a s.heap h'->nI w a (xs++[(hD w d,x)]) h'->Q true { s with heap:=h',toks:=s.toks+nD d }):wpAny (model prog w) A (setAdd a x) Q E s:=by
 obtain ⟨es,ep,t,g,T,hl,hp,hq,hmk⟩:=hS;obtain ⟨hb1,hd1,_⟩:=fb hx;obtain ⟨b,rfl⟩:=pZ hx rx;obtain ⟨us,pu,hu'⟩:=uh hq ds he;have hsz:es.size = xs.length:=by rw [<- bu,hq.length_eq]
 have hf:t.fits es.size = true:=fits_of T ↥0;unfold setAdd;refine cc (ae (GQ d A E s _ _ hb1 rx ∅ ?_));unfold setAddHashed;refine cc ?_;show wpAny _ _ (setAddHashedIn a (.ref b) (hD w d) (99999+1)) _ _ _;unfold setAddHashedIn;refine ae (cD (s:={ s with toks:=s.toks+nD d }) g rfl hf ?_);dsimp only;rw [if_neg (by unfold byScan;simp [Value.scannable])];refine ae (Fh (s:={ s with toks:=s.toks+nD d }) hu g T hu' hx rx (λhm=>ak (old (pu.mem_iff.mp hm))) λhm N n1 n2=>?_);dsimp only;refine ae (cD (s:={ s with toks:=s.toks+nD d }) g rfl hf ?_)
 have few:es.size+1<=t.mask:=by
  rcases T.mok with z | z | z<;>lia
 obtain ⟨T1,p1,l1,pl1,m1⟩:=T.put n1 n2 (by simpa using few);dsimp only;have le:(iU es (t.put (pbs t.mask (hD w d) N)).2 (hD w d,bj b)).toList = nu es.toList (t.put (pbs t.mask (hD w d) N)).2 (hD w d,bj b):=SetTable.toList_insertAt _ _ _
 have lh:(iU es (t.put (pbs t.mask (hD w d) N)).2 (hD w d,bj b)).toList.map (·.1) = nu (es.toList.map (·.1)) (t.put (pbs t.mask (hD w d) N)).2 (hD w d):=by
  rw [le];unfold nu;rw [cw,bp,List.map_take,List.map_drop]
 rw [<- lh] at T1
 have pe:(iU es (t.put (pbs t.mask (hD w d) N)).2 (hD w d,bj b)).toList.Perm (xs++[(hD w d,bj b)]):=by
  refine (SetTable.insertAt_perm _ _ _).trans ?_;rw [DN];exact hq.append (.refl _)
 have sn:(iU es (t.put (pbs t.mask (hD w d) N)).2 (hD w d,bj b)).size = es.size+1:=by
  rw [<- bu,le,nk,bu]
 have fin:∀ h',fM a s.heap h'->nI w a (xs++[(hD w d,bj b)]) h'->Q true { s with heap:=h',toks:=s.toks+nD d }:=new λz=>hm (pu.mem_iff.mpr z);have hr':(xs++[(hD w d,bj b)]).length<=64:=by rw [ay,dO];exact hr
 by_cases hpl:(t.put (pbs t.mask (hD w d) N)).1.plain = true
 . rw [if_pos hpl];refine ae (Dy (s:={ s with toks:=s.toks+nD d }) hx rx ?_);exact xJ (s:={ s with toks:=s.toks+nD d }) (t2:={ (t.put (pbs t.mask (hD w d) N)).1 with plain:=false }) g ⟨T1.mok,T1.dm,T1.srt,T1.le,T1.len,T1.few,T1.rch⟩ (l1.trans hl) rfl pe hr' sn fin
 . rw [if_neg hpl];refine ae (ak ?_);exact xJ (s:={ s with toks:=s.toks+nD d }) (t2:=(t.put (pbs t.mask (hD w d) N)).1) g T1 (l1.trans hl) (by simpa using hpl) pe hr' sn fin
end
end PP
end
section
namespace PP
open PySem L2 PyProof.Rows PySem.W
def ltS (a b:Str):Bool:=decide (a.cps.toList < b.cps.toList)
def Gk (a b:Str) (h:ltS a b = true):ltS b a = false:=by
 unfold ltS at h |-;rw [decide_eq_true_eq] at h;rw [decide_eq_false_iff_not];exact List.lt_asymm h
def Nr (a b c:Str) (h1:ltS b a = false) (h2:ltS c b = false):ltS c a = false:=by
 unfold ltS at h1 h2 |-;rw [decide_eq_false_iff_not] at h1 h2 |-;exact List.le_trans h1 h2
def Nt (a b:Str) (h1:ltS a b = false) (h2:ltS b a = false):a = b:=by
 unfold ltS at h1 h2;rw [decide_eq_false_iff_not] at h1 h2;have:=List.le_antisymm h2 h1;obtain ⟨⟨x⟩⟩:=a;obtain ⟨⟨y⟩⟩:=b;simp at this;rw [this]
def uV {α:Type} [Inhabited α] {lt:α->α->Bool} {ys:List α} (h:∀ i j,i<=j->j < ys.length->lt (ys.getD j default) (ys.getD i default) = false):ys.Pairwise λa b=>lt b a = false:=by
 rw [fR];intro i j hi hj hij;have:=h i j (lr hij) hj;simpa [km,aA hi,aA hj] using this
variable [Tbs]
end PP
end
section
namespace PP
open PySem PySem.Spec L2 PyProof.Rows
section
variable {prog:aO} {w:aZ} {A:aR} {R:sy->ah->Prop} {s:ah}
end
def rE (led:Bool):Obj:={ cls:=.type "set",dict:=none,data:=.set #[] 0 (.fresh 0 0 led) }
section
variable {prog:aO} {w:aZ} {A:aR} {R:sy->ah->Prop} {I:aq} {fp wr:List aq} {G:Array gG->Array gG->Prop} {n:Nat} {P:Nat->af->Prop} {St:Nat->ah->Prop}
end
section
variable {prog:aO} {w:aZ} {A:aR} {E:af->ah->Prop} {s:ah}
def vZ (a:af) {Q₁:af->ah->Prop} (h:Q₁ (.ref s.heap.objs.size) { s with heap:=s.heap.push (rE (!w.params.followText "set-order")) }) :
 codeAny (model prog w) A (.call (.builtin "set.__new__") ⟨[.type "set",a],[]⟩) (wants Q₁ E) s:=by
 refine codeAny_of_tree (ae (m:=checkBuiltinCall "set.__new__" _) (gR (PySem.F.newCall_set_1 a) (ak ⟨eO PySem.F.plain_set_new _,eK PySem.F.entry_set_new ?_⟩)));rw [dS PySem.F.plain_set_new _];unfold dY.«set.__new__» Builtin.Frozenset.newClass;have z:=sub_set_self;obtain ⟨hp,g,d,tk,os⟩:=s;dsimp only
 wp_walk
 refine gh (ak ?_);dsimp only;simp only [newObj];exact ae (wpAny_alloc (ak (ak h)))
def zC {l:aq} {items:Array af} {Z:bG->Prop} {Q:af->ah->Prop} (hh:A.handled = none) (hl:s.heap.IsList l items)
 (loop:∀ (A':aR) (I:aq) (St:Nat->ah->Prop) (G:Array gG->Array gG->Prop) (s1:ah) (R:sy->ah->Prop),I = s.heap.objs.size+1->A'.units<=A.units+10->WalksS prog w A'.in1 I [I,l] [I] G items.size (λi v=>items[i]? = some v) St->s.heap.objs.size∉[I,l]->St 0 s1->(∀ b o,s.heap.get? b = some o->s1.heap.get? b = some o)->s1.heap.get? s.heap.objs.size = some (rE (!w.params.followText "set-order")) ->
   (∀ s',Moved [s.heap.objs.size,I] G s1 s'->Z s'.heap->R (.ok (.ret .none)) s')->codeAny (model prog w) A' (.builtin "set.update.loop" ⟨[.ref s.heap.objs.size,.ref I],[]⟩) R s1)
 (h:∀ (h':bG) (tk:Nat),Z h'->(∀ b o,s.heap.get? b = some o->h'.get? b = some o)->Q (.ref s.heap.objs.size) { s with heap:=h',toks:=tk }) :
 wpAny (model prog w) A (call (.type "set") [.ref l]) Q E s:=by
 obtain ⟨c,tl,hmro⟩:=PySem.F.called_set.mro;have y1:=PySem.F.called_set.made;have y2:=PySem.F.called_set.sub;have y3:=PySem.F.called_set.notType;have y4:=PySem.F.called_set.canCreate;have y5:=PySem.F.typeCall_set_1 (.ref l);refine Am (codeAny_of_tree (ak ⟨DM _ ⇑0,eK PySem.F.entry_type_call ?_⟩));rw [Around.under_plain (weight_type_call_type "set" [.ref l] []) rfl]
 repeat (any_goals (first | assumption | wp_step))
 refine jE (vZ (.ref l) (E:=E) (Q₁:=λv s1=>v = .ref s.heap.objs.size/\s1 = { s with heap:=s.heap.push (rE (!w.params.followText "set-order")) }) ⟨rfl,rfl⟩) λr s1 hr=>?_
 cases r with
 | error e=>exact hr
 | ok fl =>
   cases fl with
   | ret v =>
     obtain ⟨rfl,rfl⟩:=hr;have gS:(s.heap.push (rE (!w.params.followText "set-order"))).get? s.heap.objs.size = some (rE (!w.params.followText "set-order")):=aE _ rfl;have hT:Shared.TypeIs { s with heap:=s.heap.push (rE (!w.params.followText "set-order")) } (.ref s.heap.objs.size) "set":=⟨_,gS,rfl⟩;have y6:=PySem.F.called_set.init.lookup;have y7:=PySem.F.called_set.init.bind (.ref s.heap.objs.size)
     repeat (any_goals (first | assumption | wp_step))
     refine jE (oO (R:=wants (λr s2=>r = .none/\∃ h' tk,s2 = { s with heap:=h',toks:=tk }/\Z h'/\∀ b o,s.heap.get? b = some o->h'.get? b = some o) E) PySem.F.called_set.init.plain PySem.F.entry_set_init (check_set_init_1 hT ?_)) λr2 s2 hr2=>?_
     . obtain ⟨ol,hol,hcl,nl,hdl⟩:=hl;obtain ⟨ocls,odict,odata,oslots⟩:=ol;simp only at hcl hdl;subst hcl;subst hdl;have hol':(s.heap.push (rE (!w.params.followText "set-order"))).get? l = some { cls:=.type "list",dict:=odict,data:=.seq items nl,slots:=oslots }:=ai _ hol;have y8:=PySem.F.sub_list_set;have y9:=PySem.F.sub_list_frozenset;have ya:(nJ "list" == nJ "dict") = false:=by decide
       have hl1:(s.heap.push (rE (!w.params.followText "set-order"))).IsList l items:=⟨_,hol',rfl,nl,rfl⟩;unfold rE at gS hT hol' hl1 |-;unfold dY.«set.__init__» noKeywords Builtin.Frozenset.updateFrom;generalize hPI:pyIter = PI
       wp_walk
       subst hPI;refine fI hl1 (ae (wpAny_runValue ?_));have lS:l < s.heap.objs.size:=az hol;have z1:(s.heap.push (rE (!w.params.followText "set-order"))).objs.size = s.heap.objs.size+1:=bH _ _;unfold rE at z1;refine loop _ _ _ _ _ _ z1 (by show A.units+1+1<=A.units+10;lia) ((tq (by simp [hh]) _ l (by rw [z1];exact aH (bE lS)) items).toS) (by rw [z1];simp only [aB,cz,or_false,not_or];exact ⟨aH (cK _),eY lS⟩) ⟨⟨_,aE _ rfl,rfl,rfl⟩,(hl1.push _)⟩ (λb o e=>ai _ (ai _ e)) (ai _ gS) ?_
       . intro s' m hS';obtain ⟨h',g',d',tk',os'⟩:=s';have eg:g' = s.gens:=m.gens;have ed:d' = s.drawn:=m.drawn;have eo:os' = s.os:=m.os;subst eg ed eo;refine ak (ak ⟨rfl,h',tk',rfl,hS',λb o e=>?_⟩);have lb:=az e;refine m.heap b o ?_ (ai _ (ai _ e));simp only [aB,cz,or_false,not_or];exact ⟨aH lb,by rw [z1];exact aH (bE lb)⟩
     . cases r2 with
       | error e=>exact hr2
       | ok fl2 =>
         cases fl2 with
         | ret r =>
           obtain ⟨rfl,h',tk,rfl,x1,x2⟩:=hr2
           repeat (any_goals (first | assumption | wp_step))
           exact h _ _ x1 x2
         | _=>exact hr2.elim
   | _=>exact hr.elim
end
variable [Tbs]
end PP
end
section
namespace PP
open PySem PySem.Spec L2 PyProof.Rows
def gf (ps:List (D × V)) (p:D × V):List (D × V):=if ps.any (λq=>eqD q.1 p.1) then ps else ps++[p]
def HB (ps:List (D × V)) (p:D × V):(gf ps p).map (·.1) = pI (ps.map (·.1)) p.1:=by
 unfold gf pI;rw [List.any_map];show _ = if (ps.any λq=>eqD q.1 p.1) = true then _ else _
 split
 . rfl
 . rw [cw];rfl
def uz:∀ (xs ps:List (D × V)),(xs.foldl gf ps).map (·.1) = (xs.map (·.1)).foldl pI (ps.map (·.1))
 | [],ps=>rfl
 | x::xs,ps=>by rw [gq,uz xs,HB];rfl
def ux:∀ (xs ps:List (D × V)),q∈xs.foldl gf ps->q∈ps\/q∈xs
 | [],ps,h=>.inl h
 | x::xs,ps,h=>by
   rcases ux xs (gf ps x) h with h | h
   . unfold gf at h;split at h
     . exact .inl h
     . rcases bb.mp h with h | h
       . exact .inl h
       . rw [bQ] at h;exact .inr (by rw [h];exact au)
   . exact .inr (ar _ h)
def yG (ps:List (D × V)) (p:D × V):ps.length<=(gf ps p).length:=by
 unfold gf;split
 . exact aw _
 . simp
def uy:∀ (xs ps:List (D × V)),ps.length<=(xs.foldl gf ps).length
 | [],ps=>aw _
 | x::xs,ps=>bF (yG ps x) (uy xs _)
def vv:V->af
 | .ref a=>.ref a
 | _=>.none
def yq (w:aZ) (p:D × V):Int × af:=(hD w p.1,vv p.2)
variable [Tbs]
def BO {ps:List (D × V)} {d:D} (hd:hok d = true) (hp:∀ q∈ps,hok q.1 = true):(ps.any λq=>eqD q.1 d) = true↔d∈ps.map (·.1):=by
 rw [cA,aW];constructor
 . rintro ⟨q,h1,h2⟩;exact ⟨q,h1,(fU _ _ (fb (hp q h1)).1 (fb hd).1).mp h2⟩
 . rintro ⟨q,h1,h2⟩;exact ⟨q,h1,(fU _ _ (fb (hp q h1)).1 (fb hd).1).mpr h2⟩
def yt {w:aZ} {h:bG}:∀ (ps:List (D × V)),(∀ q∈ps,hok q.1 = true/\RdV h q.1 (vv q.2))->Ow w h (ps.map (·.1)) (ps.map (yq w))
 | [],_=>.nil
 | q::ps,hq=>.cons ⟨rfl,hq q au⟩ (yt ps λr hr=>hq r (ar _ hr))
section
variable {prog:aO} {w:aZ} {A:aR} {R:sy->ah->Prop} {I:aq} {fp wr:List aq} {G:Array gG->Array gG->Prop} {n:Nat} {P:Nat->af->Prop} {St:Nat->ah->Prop}
def Ew (hu:A.units+40 < cLine) (W:WalksS prog w A.in1 I fp wr G n P St) (S:aq) (hSf:S∉fp) (h0:bG) (n0:∀ b∈S::wr,h0.get? b = none) (xs:List (D × V)) (hx:∀ i v,P i v->∃ q,xs[i]? = some q/\v = vv q.2) (hr:∀ q∈xs,hok q.1 = true/\RdV h0 q.1 (vv q.2)) (hn:xs.length = n) :
 ∀ (k i:Nat) (s:ah) (ps:List (D × V)),n - i = k->i<=n->(∀ q∈ps,hok q.1 = true/\RdV h0 q.1 (vv q.2))->((xs.drop i).foldl gf ps).length < 64->St i s->(∀ b o,h0.get? b = some o->s.heap.get? b = some o)->nI w S (ps.map (yq w)) s.heap ->
  (∀ s',Moved (S::wr) G s s'->nI w S (((xs.drop i).foldl gf ps).map (yq w)) s'.heap->R (.ok (.ret .none)) s')->codeAny (model prog w) A (.builtin "set.update.loop" ⟨[.ref S,.ref I],[]⟩) R s:=by
 have nw:S∉wr:=λz=>hSf (W.sub _ z);have sub:∀ b∈wr,b∈S::wr:=λb z=>.tail _ z;have stay:∀ {s s':ah} {ys:List (Int × af)},Moved wr G s s'->nI w S ys s.heap->nI w S ys s'.heap:=λm ⟨es,ep,t,g,r⟩=>⟨es,ep,t,m.heap S _ nw g,r⟩;have keep:∀ {s s':ah},Moved wr G s s'->(∀ b o,h0.get? b = some o->s.heap.get? b = some o)->∀ b o,h0.get? b = some o->s'.heap.get? b = some o:=λm hk b o e=>m.heap b o (λz=>by rw [n0 b (sub b z)] at e;cases e) (hk b o e);intro k
 induction k with
 | zero =>
   intro i s ps hk hi hp hl st h0k hS fin;obtain rfl:i = n:=by lia
   refine eK jI ?_;rw [dS dg _];refine ae (m:=pyNext (.ref I)) (W.done s _ _ st λs' m=>ak (fin s' (m.mono sub) ?_));rw [List.drop_of_length_le ∅]
   exact stay m hS
 | succ k ih =>
   intro i s ps hk hi hp hl st h0k hS fin;refine eK jI ?_;rw [dS dg _];refine ae (m:=pyNext (.ref I)) (W.item i s _ _ ∅ st λv s1 p st1 m=>?_);obtain ⟨q,hq,rfl⟩:=hx i v p;obtain ⟨q1,q2⟩:=hr q (bP hq);have hk1:=keep m h0k;have hlt:i < xs.length:=by lia
   have ed:xs.drop i = q::xs.drop (i+1):=by
    rw [jv hlt];congr 1;rw [aA hlt] at hq;exact bA hq
   rw [ed,gq] at hl fin;have l1:=uy (xs.drop (i+1)) (gf ps q);have l2:=yG ps q
   have hp1:∀ r∈gf ps q,hok r.1 = true/\RdV h0 r.1 (vv r.2):=λr hr'=>by
    unfold gf at hr';split at hr'
    . exact hp r hr'
    . rcases bb.mp hr' with z | z
      . exact hp r z
      . rw [bQ] at z;rw [z];exact ⟨q1,q2⟩
   refine ae (m:=holding [vv q.2] (setAdd S (vv q.2))) (cc (Ff (ds:=ps.map (·.1)) (d:=q.1) (by show A.units+1+20 < cLine;lia) (stay m hS) (yt ps λr hr'=>⟨(hp r hr').1,RdV.keep hk1 _ _ (hp r hr').2⟩) q1 (RdV.keep hk1 _ _ q2) (by rw [av];lia) (λhm=>?_) λhm h' sb hS1=>?_))
   . have ea:gf ps q = ps:=by
      unfold gf;rw [if_pos ((BO q1 λr hr'=>(hp r hr').1).mpr hm)]
     rw [ea] at hl fin;refine ak ⟨eO dg _,ih (i+1) _ ps ∅ ∅ hp hl (W.frame _ s1 _ _ st1 (fQ _ _) λb z o e=>e) hk1 (show nI w S _ s1.heap from stay m hS) λs2 m2 hS2=>fin s2 (Moved.trans W.gtrans ((m.mono sub).then_heap (fQ _ _) λb o z e=>e) m2) hS2⟩
   . have ea:gf ps q = ps++[q]:=by
      unfold gf;rw [if_neg λz=>hm ((BO q1 λr hr'=>(hp r hr').1).mp z)]
     have em:ps.map (yq w)++[(hD w q.1,vv q.2)] = (gf ps q).map (yq w):=by rw [ea,cw];rfl
     rw [em] at hS1;refine ak ⟨eO dg _,ih (i+1) _ (gf ps q) ∅ ∅ hp1 hl (W.frame _ s1 _ _ st1 (fQ _ _) λb z o e=>?_) (λb o e=>?_) hS1 λs2 m2 hS2=>fin s2 (Moved.trans W.gtrans ((m.mono sub).then_heap (fQ _ _) λb o z e=>?_) m2) hS2⟩
     . rw [sb.2 b (λz'=>hSf (z'▸z))];exact e
     . rw [sb.2 b (λz'=>by rw [z',n0 S au] at e;cases e)];exact hk1 b o e
     . rw [sb.2 b (λz'=>z (z'▸au))];exact e
end
section
variable {prog:aO} {w:aZ} {A:aR} {E:af->ah->Prop} {s:ah}
def Dh (fg mv:Nat) (led:Bool):TbI (.fresh fg mv led) []:=⟨.inl rfl,rfl,.nil,λj h=>by simp [SetTable.fresh] at h,rfl,cC _,λi j h a=>by simp [SetTable.fresh] at a⟩
def xy {l:aq} {items:Array af} {xs:List (D × V)} {Q:af->ah->Prop} (hu:A.units+100 < cLine) (hh:A.handled = none) (hl:s.heap.IsList l items) (hi:items.toList = xs.map λq=>vv q.2) (hr:∀ q∈xs,hok q.1 = true/\RdV s.heap q.1 (vv q.2)) (hb:(xs.foldl gf []).length < 64)
 (h:∀ (h':bG) (tk:Nat),nI w s.heap.objs.size ((xs.foldl gf []).map (yq w)) h'->(∀ b o,s.heap.get? b = some o->h'.get? b = some o)->Q (.ref s.heap.objs.size) { s with heap:=h',toks:=tk }) :
 wpAny (model prog w) A (call (.type "set") [.ref l]) Q E s:=by
 have hxs:xs.length = items.size:=by
  rw [<- bu,hi,av]
 refine zC (Z:=nI w s.heap.objs.size ((xs.foldl gf []).map (yq w))) hh hl (λA' I St G s1 R eI hA W hS st k gS fin=>?_) h;refine Ew ∅ W s.heap.objs.size hS s.heap (λb hb=>?_) xs (λi v hv=>?_) hr hxs (items.size - 0) 0 s1 [] ∅ (cC _) (λq hq=>by cases hq) hb st k ⟨#[],0,.fresh 0 0 (!w.params.followText "set-order"),gS,Dh _ _ _,rfl,.inl rfl,.refl _,by show 0 * 5 < 7 * 3;decide⟩ fin
 . cases e:s.heap.get? b with
   | none=>rfl
   | some o =>
     have:=az e;simp only [aB,cz,or_false] at hb;rcases hb with z | z
     . rw [z] at this;exact absurd this (cy _)
     . rw [z,eI] at this;exact absurd this (Nat.not_lt.mpr (sI _))
 . have e:items.toList[i]? = some v:=by rw [Array.getElem?_toList];exact hv
   rw [hi,bf] at e;obtain ⟨q,q1,q2⟩:=aJ.mp e;exact ⟨q,q1,q2.symm⟩
end
section
variable {K:PySem.W.Frag} {H:Hp} {F:aq->Prop}
def qW:∀ {ds:List D} {xs:List V},aK K H F ds xs->(ds.zip xs).map (·.1) = ds/\(ds.zip xs).map (·.2) = xs/\∀ q∈ds.zip xs,Rel K H F q.1 q.2
 | [],xs,r=>by unfold aK at r;subst r;exact ⟨rfl,rfl,λq h=>by cases h⟩
 | d::ds,xs,r=>by
   unfold aK at r;obtain ⟨y,ys,rfl,h1,h2⟩:=r;obtain ⟨a,b,c⟩:=qW h2;refine ⟨by simp [a],by simp [b],λq hq=>?_⟩;rcases aB.mp hq with rfl | hq
   . exact h1
   . exact c q hq
def ub:∀ (ps:List (D × V)),(∀ q∈ps,Rel K H F q.1 q.2)->aK K H F (ps.map (·.1)) (ps.map (·.2))
 | [],_=>aK.nil
 | q::ps,h=>aK.cons (h q au) (ub ps λr hr=>h r (ar _ hr))
def Bu {d:D} {v:V} (k:hok d = true) (r:Rel K H F d v):∃ a,v = .ref a:=by
 obtain ⟨_,_,x,ds,rfl⟩:=fb k;unfold Rel at r;obtain ⟨a,xs,rfl,_⟩:=r;exact ⟨a,rfl⟩
def Ax:∀ (ps:List (D × V)),(∀ q∈ps,∃ a,q.2 = .ref a)->Vals (ps.map (·.2)) (ps.map λq=>vv q.2)
 | [],_=>.nil
 | q::ps,h=>by
   refine .cons ?_ (Ax ps λr hr=>h r (ar _ hr));obtain ⟨a,e⟩:=h q au;show RelV q.2 (vv q.2);rw [e];rfl
end
def tM:∀ {ps:List (D × V)} {us:List af},(∀ q∈ps,∃ a,q.2 = .ref a)->Vals (ps.map (·.2)) us->us = ps.map λq=>vv q.2
 | [],us,_,h=>by cases h;rfl
 | q::ps,us,hq,h=>by
   cases h with
   | cons r t =>
     obtain ⟨a,e⟩:=hq q au;have r:RelV q.2 _:=r;rw [e] at r;have r':_ = bj a:=r;rw [bp,e,r',tM (λr hr=>hq r (ar _ hr)) t];rfl
def IU (X:Cx) (p:aq) (ps:List (D × V)):HO:=.ext (nI X.w p (ps.map (yq X.w)))
def IT (x:nI w a xs h):gH P w H h a (.ext (nI w a xs)):=by
 refine ⟨x,?_,λh1 h2 x k=>?_⟩
 . obtain ⟨es,ep,t,g,r⟩:=x;exact ⟨_,g⟩
 . obtain ⟨es,ep,t,g,r⟩:=x;exact ⟨es,ep,t,k _ g,r⟩
def Dt {X:Cx} (hc:X.calm = true) (hu:X.A.units+200 < cLine):cE X (.type "set") (λxs H Q=>∃ F a ds vs,xs = [.ref a]/\SqL X.K H a vs/\aK X.K H F ds vs/\ds.all hok = true/\((ds.zip vs).foldl gf []).length < 64/\∀ p,H p = none->Q (.ref p) (upd H p (IU X p ((ds.zip vs).foldl gf [])))):=by
 intro pins s σ H xs us0 Q I r h;obtain ⟨F,a,ds,vs,rfl,hq,rl,hk,hz,q⟩:=h;obtain ⟨u,rfl,rx⟩:=vals1 r;cases rx;obtain ⟨its,r',pl,_⟩:=I.list hq;obtain ⟨p1,p2,p3⟩:=qW rl;have hks:∀ q∈ds.zip vs,hok q.1 = true:=λq hq=>bq.mp hk q.1 (by rw [<- p1];exact dE hq);have refs:∀ q∈ds.zip vs,∃ a,q.2 = .ref a:=λq hq=>Bu (hks q hq) (p3 q hq);rw [<- p2] at r';have ei:=tM refs r';refine xy (xs:=ds.zip vs) ∅ (I.ok.hd hc) pl.isList (by rw [ei]) (λq hq=>⟨hks q hq,?_⟩) hz λh' tk hS k=>?_
 . obtain ⟨b,e⟩:=refs q hq;exact zF I q.1 q.2 _ (p3 q hq) (by rw [e];rfl) (Bv (hks q hq))
 . have ok:=IT (P:=X.prog) (H:=upd H s.heap.objs.size (IU X s.heap.objs.size ((ds.zip vs).foldl gf []))) hS;exact ⟨.ref s.heap.objs.size,_,I.laid (t':=tk) k (aw _) ok,rfl,q _ (I.hok.fresh (aw _))⟩
end PP
end
section
namespace PP
open PySem L2 PyProof.Rows PySem.W
def Az (h:tot ds = true):(∀ a∈ds,∀ b∈ds,ltB a b = true->ltB b a = false)/\(∀ a∈ds,∀ b∈ds,ltB a b = false->ltB b a = false->eqD a b = true)/\∀ a∈ds,∀ b∈ds,∀ c∈ds,ltB b a = false->ltB c b = false->ltB c a = false:=by
 unfold tot at h;simp only [bq,aa,fk,pE,Bool.and_eq_false_iff] at h;refine ⟨λa ha b hb q=>?_,λa ha b hb q1 q2=>?_,λa ha b hb c hc q1 q2=>?_⟩
 . rcases (h a ha b hb).1.1 with z | z
   . rw [q] at z;cases z
   . exact z
 . rcases (h a ha b hb).1.2 with (z | z) | z
   . rw [q1] at z;cases z
   . rw [q2] at z;cases z
   . exact z
 . rcases (h a ha b hb).2 c hc with (z | z) | z
   . rw [q1] at z;cases z
   . rw [q2] at z;cases z
   . exact z
def xk (p:us.Perm ds) (hs:sortable ds = true) (ht:tot ds = true):(fN us).Perm ds/\(fN us).Pairwise λa b=>ltB b a = false:=by
 obtain ⟨_,_,hlt⟩:=(letI:Tbs:=⟨[],[],[],[]⟩;dB hs);obtain ⟨t1,t2,t3⟩:=Az ht
 cases ds with
 | nil =>
   have:us = []:=List.perm_nil.mp p;subst this
   exact ⟨.refl _,.nil⟩
 | cons d0 dr =>
   letI:Inhabited { d // d∈d0::dr }:=⟨⟨d0,au⟩⟩
   have e:(us.attachWith (·∈d0::dr) λx hx=>p.mem_iff.mp hx).map lj = us:=pM ..
   obtain ⟨ys,e1,p1,u1⟩:=xj (α:={ d // d∈d0::dr }) lj (λa b=>ltB a.1 b.1) (λx y=>by
    obtain ⟨k,hk⟩:=hlt x.1 x.2 y.1 y.2;rw [hk];unfold ltB;rw [hk];rfl) (λa b h=>t1 a.1 a.2 b.1 b.2 h) (λa b c h1 h2=>t3 a.1 a.2 b.1 b.2 c.1 c.2 h1 h2) (us.attachWith (·∈d0::dr) λx hx=>p.mem_iff.mp hx)
   rw [e] at e1;rw [e1];refine ⟨?_,?_⟩
   . have:=p1.map lj;rw [e] at this;exact this.trans p
   . exact gI.mpr (uV (lt:=λ(a b:{ d // d∈d0::dr })=>ltB a.1 b.1) u1)
def zy (p:us.Perm ds) (hs:sortable ds = true) (ht:tot ds = true) (hb:∀ d∈ds,hb d = true):fN us = fN ds:=by
 obtain ⟨p1,u1⟩:=xk p hs ht;obtain ⟨p2,u2⟩:=xk (.refl ds) hs ht;obtain ⟨_,t2,_⟩:=Az ht;refine List.Perm.eq_of_pairwise (λx y hx hy h1 h2=>?_) u1 u2 (p1.trans p2.symm);have mx:=p1.mem_iff.mp hx;have my:=p2.mem_iff.mp hy;exact (fU x y (hb x mx) (hb y my)).mp (t2 x mx y my h2 h1)
def sN (p:us.Perm ds) (hs:sortable ds = true):sortable us = true:=by
 obtain ⟨h1,h2,h3⟩:=(letI:Tbs:=⟨[],[],[],[]⟩;dB hs);unfold sortable;simp only [aa,decide_eq_true_eq,bq];refine ⟨⟨by rw [p.length_eq];exact h1,λx hx=>?_⟩,λx hx y hy=>?_⟩
 . have mx:=p.mem_iff.mp hx;obtain ⟨a,b⟩:=h2 x mx
   have:us.getD 0 .non∈ds:=by
    cases us with
    | nil=>cases hx
    | cons u r=>exact p.mem_iff.mp au
   exact ⟨by simpa using a,by rw [b,(h2 _ this).2];simp⟩
 . obtain ⟨k,hk⟩:=h3 x (p.mem_iff.mp hx) y (p.mem_iff.mp hy);rw [hk];rfl
variable [Tbs]
def wm (hc:X.calm = true) (hu:X.A.units+200 < cLine):cE X (.builtin "sorted") (λxs H Q=>∃ F a ps,xs = [.ref a]/\H a = some (IU X a ps)/\(∀ q∈ps,hok q.1 = true/\Rel X.K H F q.1 q.2)/\sortable (ps.map (·.1)) = true/\tot (ps.map (·.1)) = true /\
 ∀ p ys,H p = none->aK X.K H F (fN (ps.map (·.1))) ys->Q (.ref p) (upd H p (.lst ys))):=by
 intro pins s σ H xs us0 Q I r h;obtain ⟨F,a,ps,rfl,hH,hps,hs,ht,q⟩:=h;obtain ⟨u,rfl,rx⟩:=vals1 r;cases rx;obtain ⟨⟨es,ep,t,g,T,hl,hp,hq,_⟩,_,_⟩:=I.hok a _ hH;have h64:=(dB hs).1;rw [av] at h64;refine uO kind_sorted plain_sorted entry_sorted (args_sorted1 _) ?_;unfold dY.«sorted»
 have pw:(es.toList.map (·.2)).Perm (ps.map λq=>vv q.2):=by
  have:=hq.map (·.2);rw [gJ] at this;exact this
 refine ae (m:=checkCount "sorted" 1 1 _) (ak (ae (yA (A:=X.A.in1) (I.ok.hd hc) ⟨es,ep,t,g,fits_of T ↥0,hl,hp,pw⟩ (by rw [av];lia) λvs d tk h1 pv k1=>ae (DB ?_ ?_))))
 . obtain ⟨qs,pq,rq⟩:=uh pv ps (R:=λq v=>v = vv q.2) (by
    have:∀ l:List (D × V),Paired (λ(q:D × V) (v:af)=>v = vv q.2) l (l.map λq=>vv q.2):=λl=>by
     induction l with
     | nil=>exact .nil
     | cons x l ih=>exact .cons rfl ih
    exact this ps)
   have ev:vs = qs.map λq=>vv q.2:=by
    clear pv pq
    induction rq with
    | nil=>rfl
    | cons r _ ih=>rw [bp,ih,r]
   subst ev;have hqs:∀ q∈qs,hok q.1 = true/\Rel X.K H F q.1 q.2:=λq hq=>hps q (pq.mem_iff.mp hq);have rl:=ub qs λq hq=>(hqs q hq).2;have vq:=Ax qs λq hq=>Bu (hqs q hq).1 (hqs q hq).2
   have rd0:=oi I _ _ _ rl vq (vV λx hx=>by
    obtain ⟨q,hq,rfl⟩:=aW.mp hx;exact Bv (hqs q hq).1)
   have rd:=RdL.keep k1 _ _ rd0;have pd:(qs.map (·.1)).Perm (ps.map (·.1)):=pq.map _;have hsq:=sN pd hs;obtain ⟨_,hk,_⟩:=dB hsq;have lu:qs.length < 64:=by rw [pq.length_eq];exact h64
   have l3:(qs.map λq=>vv q.2).length = (qs.map (·.1)).length:=by rw [av,av]
   have hlen:(gb (jn (qs.map (·.1))) (qs.map λq=>vv q.2)).length = (qs.map λq=>vv q.2).length:=by
    unfold gb;split
    . rfl
    . rw [av,(gK _).length_eq,jG]
   have small:∀ i∈(ans (jn (qs.map (·.1))) (kas_sort (qs.map λq=>vv q.2).length)).toList,i < (qs.map λq=>vv q.2).length:=λi hi=>by simpa using (gK _).mem_iff.mp hi
   have hv:∃ ys,Vals ys (gb (jn (qs.map (·.1))) (qs.map λq=>vv q.2))/\aK X.K H F (fN (qs.map (·.1))) ys:=by
    unfold gb fN;by_cases h2:(qs.map λq=>vv q.2).length < 2
    . rw [if_pos h2,if_pos ∅];exact ⟨_,vq,rl⟩
    . rw [if_neg h2,if_neg ∅,<- l3];exact ⟨_,sr vq _ λi hi=>by have:=small i hi;rw [av] at this |-;exact this,su rl _ λi hi=>by rw [<- l3];exact small i hi⟩
   obtain ⟨ys,vy,ry⟩:=hv
   rw [zy pd hs ht λd hd=>by
    obtain ⟨q,hq,rfl⟩:=aW.mp hd;exact (fb (hps q hq).1).1] at ry
   have hL:(h1.push (seqObj "list" (qs.map λq=>vv q.2).toArray 0)).get? h1.objs.size = some (seqObj "list" (qs.map λq=>vv q.2).toArray 0):=aE _ rfl;have kp':∀ {h':bG},(∀ b o,b≠h1.objs.size->(h1.push (seqObj "list" (qs.map λq=>vv q.2).toArray 0)).get? b = some o->h'.get? b = some o)->∀ b o,h1.get? b = some o->h'.get? b = some o:=λkp b o e=>kp b o (aH (az e)) (ai _ e);refine ae (cc (cg slot_list_sort ⟨_,hL,rfl⟩ entry_list_sort ?_ (args_list_sort _)))
   refine ng (s:={ s with heap:=h1.push (seqObj "list" (qs.map λq=>vv q.2).toArray 0),drawn:=d,toks:=tk }) (lt:=jn (qs.map (·.1))) (κ:=if bK ((qs.map (·.1)).getD 0 .non) < 3 then oneType' else tuples' true) hL (by rw [av];exact lu) hlen
    (λh2 h' kp C c=>Gx (s:={ s with heap:=h',drawn:=d,toks:=tk }) (RdL.keep (kp' kp) _ _ rd) hk h2 c) (λh' kp i j hi hj C c=>Lk (A:=X.A) (s:={ s with heap:=h1,drawn:=d,toks:=tk }) hu (by show X.A.units+1+1<=X.A.units+2;lia) rd l3 hsq (kp' kp) i j hi hj C c) ?_
   . refine ⟨_,rfl,ak ⟨_,rfl,?_⟩⟩;have J:=I.call (h':=h1) (g':=s.gens) (d':=d) (t':=tk) (ch:=[]) (Un.kept k1) (I.hok.kept k1) I.bare (λb z=>absurd z ↥0);obtain ⟨e,he⟩:=sortedHeap_at (out:=(gb (jn (qs.map (·.1))) (qs.map λq=>vv q.2)).toArray) hL
     have old:∀ b o,h1.get? b = some o->(sortedHeap (h1.push (seqObj "list" (qs.map λq=>vv q.2).toArray 0)) h1.objs.size (qs.map λq=>vv q.2) (gb (jn (qs.map (·.1))) (qs.map λq=>vv q.2)).toArray).get? b = some o:=λb o e=>by
      have lb:=az e;rw [sortedHeap_old (aH lb) (by rw [bH];exact bE lb)];exact ai _ e
     refine ⟨.ref h1.objs.size,upd H h1.objs.size (.lst ys),J.laid (t':=tk) old (aw _) ⟨?_,_,e,vy,he⟩,rfl,q _ _ (J.hok.fresh (aw _)) ry⟩;rw [ry.length,tX,av,cj]
     lia
 . have:=pv.length_eq;rw [av] at this;rw [cj]
   lia
end PP
end
section
namespace PP
open PySem L2 PyProof.Rows
variable [Tbs]
section
variable {K:PySem.W.Frag} {cx:Cl} {P:aO} {w:aZ}
end
section
variable {K:PySem.W.Frag} {H:Hp} {F:aq->Prop}
end
section
variable {X:Cx} {cx:Cl}
end
section
variable {cx:Cl} {k:Nat}
def iZ:∀ {es:Es},jR es = true->sP es = true
 | .nil,_=>rfl
 | .cons e es,h=>by
   have h':(!bY e && jR es) = true:=h;rw [aa] at h';show ((!bY e || npS es) && sP es) = true;rw [h'.1,iZ h'.2];rfl
def iH:∀ {es:Es} {ys:List aG},jC c es ys = true->(backTo pos (starEach ys env)).any (·.1) = false
 | .nil,ys,h=>by obtain ⟨rfl,_⟩:=eE h;rfl
 | .cons e es,ys,h=>by
   obtain ⟨_,_,rfl,hh⟩:=dk h;rw [aa] at hh;rw [cW (cG hh.1)];show (false || (backTo pos (starEach _ env)).any (·.1)) = false;rw [iH hh.2];rfl
def qM (C:Cok X c cx k) (h:mT c sc = true):sv X sc:=by
 unfold mT at h;rw [aa,bq] at h;obtain ⟨h1,h2⟩:=h
 have q:∀ p∈sc.names,p.2≠.cell/\(p.2 = .local->sc.names.lookup p.1 = some .local)/\(p.2 = .free->c.sc.names.lookup p.1 = some .cell\/c.sc.names.lookup p.1 = some .free):=λp hp=>by
  have z:=h2 p hp;rw [aa,aa] at z;obtain ⟨⟨a,b⟩,d⟩:=z;refine ⟨of_decide_eq_true a,λe=>?_,λe=>?_⟩
  . rw [fk] at b;rcases b with b | b
    . simp [e] at b
    . exact of_decide_eq_true b
  . rw [fk] at d;rcases d with d | d
    . simp [e] at d
    . split at d
      . exact .inl ‹_›
      . exact .inr ‹_›
      . cases d
 exact ⟨of_decide_eq_true h1,λy hy=>(q y hy).1,λy hy e=>(q y hy).2.1 e,λx hx=>C.kc x ((q _ hx).2.2 rfl)⟩
def iD (C:Cok X c cx k) (h:mT c sc = true) (hn:Nc.Nodup) (cl:List (Str × aq)) (Ca:aq) (s:ah) (H:Hp) (fp:List aq):Cok (cxC X sc cl Ca Nc s H fp) ⟨Nc,sc,c.fns,c.gn⟩ cx k:=by
 have S:=qM C h;have kd:∀ x,(cxC X sc cl Ca Nc s H fp).env.kindOf x = (sc.names.lookup x).map λk=>if (k == bX && X.env.scope.kind == .function && X.env.kindOf x == some .cell) then lT else k:=λx=>oG x
 refine ⟨rfl,hn,λx hx=>?_,λx hx=>?_,λx hx=>?_,λx hx=>?_,C.calm,rfl,C.room,C.fns,C.fnO,C.fnD,C.blt,C.glob,C.gsome,C.gds,C.pos⟩
 . have e:=kd x;show (cxC X sc cl Ca Nc s H fp).env.kindOf x = some .local\/(cxC X sc cl Ca Nc s H fp).env.kindOf x = some .cell\/(cxC X sc cl Ca Nc s H fp).env.kindOf x = some .free;rw [e];rcases hx with hx | hx | hx
   . rw [hx];exact .inl rfl
   . exact absurd rfl (S.nocell _ (PySem.mem_of_lookup hx))
   . rw [hx];simp only [dy];split
     . exact .inr (.inl rfl)
     . exact .inr (.inr rfl)
 . show (cxC X sc cl Ca Nc s H fp).env.kindOf x = some .globalImplicit;rw [kd x];have hx:sc.names.lookup x = some .globalImplicit:=hx;rw [hx];rfl
 . have:sc.names.lookup x = some .local:=by
    rcases hx with hx | hx
    . exact hx
    . exact absurd rfl (S.nocell _ (PySem.mem_of_lookup hx))
   have e:(cxC X sc cl Ca Nc s H fp).env.kindOf x = some .local:=by rw [kd x,this];rfl
   exact ⟨.inl e,.inr e⟩
 . rw [kd x];have hx:sc.names.lookup x = some .cell\/sc.names.lookup x = some .free:=hx;rcases hx with hx | hx
   . exact absurd rfl (S.nocell _ (PySem.mem_of_lookup hx))
   . rw [hx];simp only [dy];split
     . exact .inl rfl
     . exact .inr rfl
def ou (h:namesOk c sc Nc = true):Nc.Nodup/\∀ i x,i < c.N.length->Nc[i]? = some x->Vis sc x->c.N[i]? = some x/\sc.names.lookup x = some .free:=by
 unfold namesOk at h;rw [aa,bq] at h;refine ⟨of_decide_eq_true h.1,λi x hi e v=>?_⟩;have z:=h.2 i (by simpa using hi);rw [e] at z;dsimp only at z;rw [fk,aa] at z
 have vb:Cy sc x = true:=by
  unfold Cy;rcases v with v | v | v<;>rw [v]
 rcases z with z | ⟨z1,z2⟩
 . rw [vb] at z;cases z
 . exact ⟨of_decide_eq_true z1,of_decide_eq_true z2⟩
def yy {X:Cx} {c:Ck} {Nc:List Str} {kk:Nat} {tg:Tg} {src:It} {ifs:Eo} {elt:E} {pins:List (aq × Obj)} {s:ah} {σ:L2.St} {H:Hp} {Q:VK} (C:Cok X c cx k) (I:Inv X pins σ H s) (n:(!bY elt) = true) (hk:Nc.length = c.N.length+kk) (hge:CB c.N.length tg = true)
 {G:Gh} {F:aq->Prop} {δ δ':Loc} {d:D} (ok:Ok X.K G F σ H δ) (ev:evE cx (.comp kk tg src ifs elt) δ = some (d,δ'))
 (q:∀ p ys xs H1 F1 H2 F2,d = .lst ys->Step G F H F1 H1->Step G F1 H1 F2 H2->H1 p = none->G.free p->Ok X.K (G.and p) F2 σ H2 δ'->H2 p = some (.lst xs)->aK X.K H2 F2 ys xs->(np (.comp kk tg src ifs elt) = true->Sim H H2)->Q (.ref p) H2) :
 tLC (Nc.length - X.N.length) (tI X.K cx src) (gTg X.K tg) (tG X.K cx ifs) (tE X.K cx elt) σ H Q:=by
 obtain ⟨ds,δ1,ys,ei,ec,hz,rfl⟩:=Ki ev;have ek:Nc.length - X.N.length = kk:=by rw [C.hN,hk];lia
 rw [ek];refine ⟨G,F,δ,ds,δ1,ok,ei,λJ H1 F1 st1 sm1 ok1 wk=>λp hp=>?_⟩;have hg:=ok1.free hp;refine Ab n (by rw [I.len,C.hN];exact hge) ok1 (wk _) hp ec hz λσ' H2 F2 xs ok2 eD rl st2 sm2=>?_;refine q p ys xs H1 F1 H2 F2 rfl st1 st2 hp hg ok2 eD rl λz=>?_;have z':(npI src && npO ifs && np elt) = true:=z;rw [aa,aa] at z';exact (sm1 z'.1.1).trans (sm2 (by rw [z'.1.2,z'.2];rfl))
def Hj {X:Cx} {c:Ck} {Nc:List Str} {kk:Nat} {tg:Tg} {src:It} {ifs:Eo} {elt:E} {pins:List (aq × Obj)} {s:ah} {σ:L2.St} {H:Hp} {Q:VK} (C:Cok X c cx k) (I:Inv X pins σ H s) (n:(!bY elt) = true) (hk:Nc.length = c.N.length+kk) (hge:CB c.N.length tg = true)
 (h:tE X.K cx (.comp kk tg src ifs elt) σ H Q):tLC (Nc.length - X.N.length) (tI X.K cx src) (gTg X.K tg) (tG X.K cx ifs) (tE X.K cx elt) σ H Q:=by
 obtain ⟨G,F,δ,d,δ',ok,ev,post⟩:=h;refine yy C I n hk hge ok ev λp ys xs H1 F1 H2 F2 e st1 st2 hp hg ok2 eD rl sm=>?_;subst e
 have st':Step G F1 H1 (λb=>F2 b/\b≠p) H2:=⟨st2.keep,λb z=>st2.grow b z.1,λb o r f e=>by
  obtain ⟨a1,a2⟩:=st2.res b o r f e;exact ⟨⟨a1,λw=>by rw [w,hp] at e;cases e⟩,a2⟩,st2.tb⟩
 refine post (.ref p) H2 _ (st1.trans st') sm (ok2.leave hg) (gF ?_);unfold Rel;exact ⟨p,xs,rfl,.inl ⟨.inl eD,λz=>z.2 rfl⟩,aK.less ok2.fd (λb z=>z.1) rl⟩
def EI (C:Cok X c cx k) (n:(!bY elt) = true) (hk:Nc.length = c.N.length+kk) (hge:CB c.N.length tg = true) (hs:mT c sc = true) (hn:namesOk c sc Nc = true)
 (htg:∀ cl Ca s H fp,PG (cxC X sc cl Ca Nc s H fp) t (gTg X.K tg)) (hI:PI X t it (tI X.K cx src)) (hG:∀ cl Ca s H fp,PTs (cxC X sc cl Ca Nc s H fp) il (tG X.K cx ifs)) (hE:∀ cl Ca s H fp,PE (cxC X sc cl Ca Nc s H fp) ex (tE X.K cx elt))
 (hset:∀ v,foldedSetIterable it X.env v = pure v):PE X (.ListComp ex [⟨t,it,il,0⟩] sc pos) (tE X.K cx (.comp kk tg src ifs elt)):=by
 obtain ⟨nd,hvis⟩:=ou hn;intro pins s σ H Q I h;refine FJ (Nc:=Nc) C.xe C.calm (qM C hs) (λi x hi=>by rw [C.hN] at hi |-;exact hvis i x hi) (by rw [C.hN,hk];lia) hI htg hG hE hset pins s σ H Q I ?_;exact Hj C I n hk hge h
def call_of {X:Cx} {c:Ck} {f:Nat} {es:Es} {n:Str} {p pos:Pos} {xs:List aG} (C:Cok X c cx k) (hA:PA X xs (tEs X.K cx es)) (h:(match c.fns[f]? with
 | some (m,ps)=>decide (m = n) && dw c n && decide (ps.length = yk es) && jC c es xs && jR es && !xs.isEmpty
 | none=>false) = true):PE X (.Call (.Name n p) xs [] pos) (tE X.K cx (.call f es)):=by
 split at h
 . rename_i m ps ef;simp only [aa] at h;obtain ⟨⟨⟨⟨⟨h1,h2⟩,h3⟩,h4⟩,h5⟩,h6⟩:=h;have e:=of_decide_eq_true h1;subst e;obtain ⟨a,fd,hm,hk,hb,fn⟩:=C.fns f _ _ ef;obtain ⟨g1,g2,g3⟩:=C.global h2
   cases xs with
   | nil=>simp at h6
   | cons y ys =>
     obtain ⟨_,_,_,a1,a2⟩:=iE h4;exact EJ h5 fn C.room g1 hm hk hb hA g2 (cW (cG a1) _ _) (iH a2)
 . cases h
def Hq {X:Cx} {c:Ck} {f:Nat} {es:Es} {n:Str} {p pos:Pos} {xs:List aG} (C:Cok X c cx k) (hA:PA X xs (tEs X.K cx es)) (h:(match c.fns[f]? with
 | some (m,ps)=>decide (m = n) && dw c n && decide (ps.length = yk es+1) && jC c es xs && jR es && !xs.isEmpty && Tbs.dfs.contains f
 | none=>false) = true):PE X (.Call (.Name n p) xs [] pos) (tE X.K cx (.calld f es)):=by
 split at h
 . rename_i m ps ef;simp only [aa] at h;obtain ⟨⟨⟨⟨⟨⟨h1,h2⟩,h3⟩,h4⟩,h5⟩,h6⟩,h7⟩:=h;have e:=of_decide_eq_true h1;subst e;obtain ⟨a,fd,hm,hk,hb,fn⟩:=C.fnD f _ _ ef (by simpa using h7);obtain ⟨g1,g2,g3⟩:=C.global h2
   cases xs with
   | nil=>simp at h6
   | cons y ys =>
     obtain ⟨_,_,_,a1,a2⟩:=iE h4;refine PE.imp (AZ fn C.room g1 hm hk hb (dvs:=[.non]) (.cons rfl .nil) KR hA g2 (cW (cG a1) _ _) (iH a2)) λσ H Q z=>?_;obtain ⟨G,F,δ,d,δ',ok,ev,post⟩:=z;simp only [evE] at ev;obtain ⟨ds,ea,hd⟩:=yj (f:=λds=>cx.call f (ds++[.non])) ev;exact ⟨G,F,δ,ds,δ',ok,ea,λvs H1 F1 st1 sm1 ok1 r1=>⟨F1,_,d,ok1.fd,ok1.tf,ok1.tabs,(r1.rl h5).append (aK.one (by unfold Rel;rfl)),hd,λv H2 s2 t2 r2=>post v H2 F1 (st1.trans (ok1.call s2 t2).2) (λz=>(sm1 z).trans s2) (ok1.call s2 t2).1 (gF r2)⟩⟩
 . cases h
def EG (hc:X.calm = true) (hg:Gl X "max") (hm:X.mg "max" = none) (hn:("max":Str)≠"__name__") (hdb:(("max":Str) == ("__debug__":Str)) = false) (np':(!bY a) = true) (ha:PE X y (tE X.K cx a))
 (he:starEach [y] X.env = (false,eval y X.env)::starEach [] X.env):PE X (.Call (.Name "max" p) [y] [⟨some (du "default"),.Constant (.int n) ko cp,kp⟩] pos) (tE X.K cx (.maxd a n)):=by
 refine PE.imp (CP (Du hc) hg hm rfl (eZ ha ia he) (Jm FK MI) hn hdb he rfl) λσ H Q h=>?_;obtain ⟨G,F,δ,d,δ',ok,ev,post⟩:=h;simp only [evE,ag,aj] at ev;obtain ⟨⟨x,δ1⟩,ea,ev⟩:=ev
 cases x with
 | lst ds =>
   dsimp only at ev;rw [aJ] at ev;obtain ⟨ns,e,e'⟩:=ev;cases e';refine ⟨G,F,δ,_,_,ok,ea,λv H1 F1 st sm ok1 r=>?_⟩;obtain ⟨q,ys,rfl,h1,h2⟩:=r.b.lst;rw [oz e h2] at h1;refine ⟨q,ns,.int n,rfl,rfl,h1.sq,?_⟩;have z:=post (.int (if ns = [] then n else sM ns)) H1 F1 st sm ok1 (gF (dC _));by_cases hz:ns = []
   . rw [if_pos hz] at z |-;exact z
   . rw [if_neg hz] at z |-;exact z
 | _=>cases ev
def Oh (C:Cok X c cx k) (hg:dw c (uE f) = true) (ht:tyName f = none) (hA:PA X (y::ys) (tEs X.K cx es)) (h:jC c es (y::ys) = true):PE X (.Call (.Name (uE f) p) (y::ys) [] pos) (tE X.K cx (.blt f es)):=by
 obtain ⟨g1,g2,g3⟩:=C.global hg;obtain ⟨e,es',rfl,h1,h2⟩:=iE h;have he:=cW (cG h1) ys X.env;have hpl:=iH (env:=X.env) (pos:=pos) h2
 cases f with
 | len=>exact jN JM rfl (gW Od g1 (C.blt _ ⇑0) rfl hA g3 g2 he hpl)
 | toInt=>exact jN uX rfl (jy Oe g1 (C.blt _ ⇑0) rfl hA g3 g2 he hpl)
 | toTup=>exact jN uW rfl (jy Oa g1 (C.blt _ ⇑0) rfl hA g3 g2 he hpl)
 | toLst=>exact jN nZ rfl (jy Oc g1 (C.blt _ ⇑0) rfl hA g3 g2 he hpl)
 | sorted=>exact jN pQ rfl (gW (Dp C.units) g1 (C.blt _ ⇑0) rfl hA g3 g2 he hpl)
 | any=>exact jN Ko rfl (gW (Of C.calm) g1 (C.blt _ ⇑0) rfl hA g3 g2 he hpl)
 | sum=>exact jN Iw rfl (gW (Ob C.calm) g1 (C.blt _ ⇑0) rfl hA g3 g2 he hpl)
end
section
variable {K:PySem.W.Frag} {cx:Cl} {P:aO} {w:aZ} {k:Nat}
end
section
variable {cx:Cl} {k:Nat}
end
section
variable {cx:Cl} {k:Nat}
def IC (C:Cok X c cx k) (gg:Gl X "sorted") (gm:X.mg "sorted" = none) (gn:("sorted":Str)≠"__name__") (gd:(("sorted":Str) == ("__debug__":Str)) = false)
 (fg:Gl X "set") (fm:X.mg "set" = none) (fn:("set":Str)≠"__name__") (fd:(("set":Str) == ("__debug__":Str)) = false) (np':(!bY a) = true) (ha:PE X y (tE X.K cx a))
 (he:starEach [y] X.env = (false,eval y X.env)::starEach [] X.env):PE X (.Call (.Name "sorted" p) [.Call (.Name "set" p2) [y] [] cp] [] pos) (tE X.K cx (.ssd a)):=by
 have hS:PE X (.Call (.Name "set" p2) [y] [] cp) _:=jy (Dt C.calm C.units) fg fm rfl (eZ ha ia he) fn fd he rfl;refine PE.imp (gW (wm C.calm C.units) gg gm rfl (eZ hS ia rfl) gn gd rfl rfl) λσ H Q h=>?_;obtain ⟨G,F,δ,d,δ',ok,ev,post⟩:=h;simp only [evE,ag,aj] at ev;obtain ⟨⟨x,δ1⟩,ea,ev⟩:=ev
 cases x with
 | lst ds =>
   dsimp only at ev;split at ev
   . rename_i hs;cases ev;rw [aa,aa] at hs;refine ⟨G,F,δ,_,_,ok,ea,λv H1 F1 st sm ok1 r=>?_⟩;obtain ⟨q,ys,rfl,h1,h2⟩:=r.b.lst;obtain ⟨p1,p2',p3⟩:=qW h2
     have ed:((ds.zip ys).foldl gf []).map (·.1) = ku ds:=by
      rw [uz,p1];rfl
     have hl:((ds.zip ys).foldl gf []).length < 64:=by
      have:=(dB hs.1.2).1;rw [<- ed,av] at this;exact this
     refine ⟨F1,q,ds,ys,rfl,h1.sq,h2,hs.1.1,hl,λD hD=>?_⟩;have sd:=cB hD (IU X D ((ds.zip ys).foldl gf []));have ok2:=ok1.same' sd;refine ⟨F1,D,(ds.zip ys).foldl gf [],rfl,cm,λq hq=>?_,by rw [ed];exact hs.1.2,by rw [ed];exact hs.2,λp' zs hp' rl=>?_⟩
     . rcases ux _ _ hq with z | z
       . cases z
       . exact ⟨bq.mp hs.1.1 q.1 (by rw [<- p1];exact dE z),Rel.step ok1.fd (tW sd) _ _ (p3 q z)⟩
     . rw [ed] at rl;have sp:=cB hp' (.lst zs);refine post _ _ F1 ((st.trans (Step.of_same sd)).trans (Step.of_same sp)) (λz=>((sm z).trans (.of sd)).trans (.of sp)) (ok2.same' sp) (gF ?_);unfold Rel;exact ⟨p',zs,rfl,.inl ⟨.inl cm,uk ok2.fd hp'⟩,aK.step ok2.fd (tW sp) _ _ rl⟩
   . cases ev
 | _=>cases ev
end
section
variable {cx:Cl} {δ:Loc}
end
end PP
end
section
namespace PP
open PySem PySem.Spec L2 PyProof.Rows
variable [Tbs]
end PP
end
section
namespace PP
open PySem L2 PyProof.Rows
variable [Tbs]
section
variable {K:PySem.W.Frag} {cx:Cl} {w:aZ}
end
section
variable {cx:Cl} {δ:Loc}
end
end PP
end
section
namespace PP
open PySem PySem.Spec PyProof.Rows
open Builtin.SmallTypes (nextOf)
section
variable {P:aO} {w:aZ} {A:aR} {E:af->ah->Prop} {s:ah}
def zT {i l:aq} {k:Nat} {xs:List af} {x:af} {Q:af->ah->Prop} (hit:s.heap.IsTupleIter i l k) (ht:s.heap.IsTuple l xs.toArray) (hx:xs[k]? = some x) (q:∀ h',h'.IsTupleIter i l (k+1)->fM i s.heap h'->Q x { s with heap:=h' }):wpAny (model P w) A (nextOf (.ref i)) Q E s:=by
 obtain ⟨o,ho,hc,hd⟩:=id hit;obtain ⟨ol,hol,_,nl,hdl⟩:=ht;have hx':xs.toArray[k]? = some x:=by simpa using hx
 unfold nextOf;refine ae (cS (name:=du "__next__") hit.typeIs PySem.F.slot_tuple_iterator_next (cg PySem.F.slot_tuple_iterator_next hit.typeIs PySem.F.entry_tuple_iterator_next ?_ (PySem.F.args_tuple_iterator_next_1 _)));refine ae (m:=field (.ref i) 0) (cR ho hd (x:=.ref l) rfl ?_);refine (if_neg (show ¬ ((bj l == cq) = true) from ao))▸?_;refine ae (m:=field (.ref i) 1) (cR ho hd (x:=.int k 0) rfl ?_);refine ae (m:=seqItems? (.ref l)) (cJ hol hdl ?_);simp only [jK,hx'];have sb:=bU s.heap i (ke (·.setIfInBounds 1 (rawInt ((k:Int)+1))));refine ae (eW ho hd ↥0 (ak ⟨x,rfl,ak (q _ ⟨_,cZ _ ho (Obj.isFreed_of_fields (HJ hd _)),(Obj.cls_mapFields ..).trans hc,?_⟩ sb)⟩));rw [HJ hd];simp [rawInt]
def CY {i l:aq} {k:Nat} {xs:List af} {Q:af->ah->Prop} (hh:A.handled = none) (hit:s.heap.IsTupleIter i l k) (ht:s.heap.IsTuple l xs.toArray) (hx:xs[k]? = none)
 (q:∀ h' e,BY i s.heap h'->(∃ o,h'.get? e = some o/\o.cls = .type "StopIteration")->E (.ref e) { s with heap:=h' }):wpAny (model P w) A (nextOf (.ref i)) Q E s:=by
 obtain ⟨o,ho,hc,hd⟩:=id hit;obtain ⟨ol,hol,_,nl,hdl⟩:=ht;have hx':xs.toArray[k]? = none:=by simpa using hx
 unfold nextOf;refine ae (cS (name:=du "__next__") hit.typeIs PySem.F.slot_tuple_iterator_next (cg PySem.F.slot_tuple_iterator_next hit.typeIs PySem.F.entry_tuple_iterator_next ?_ (PySem.F.args_tuple_iterator_next_1 _)));refine ae (m:=field (.ref i) 0) (cR ho hd (x:=.ref l) rfl ?_);refine (if_neg (show ¬ ((bj l == cq) = true) from ao))▸?_;refine ae (m:=field (.ref i) 1) (cR ho hd (x:=.int k 0) rfl ?_);refine ae (m:=seqItems? (.ref l)) (cJ hol hdl ?_);simp only [jK,hx'];refine ae (mG (ae (eW ho hd ↥0 (ae (m:=newExc (.type "StopIteration") []) ?_))));simp only [newExc,newTuple];refine ae (bx ?_ (by size_fits));refine ae (m:=firstArgMember _ _) (gR (a:=cq) (by first | rfl | (simp only [firstArgMember];rfl)) ?_);refine bx ?_ (by size_fits);simp only [raiseNew];refine ae (wpAny_handled ?_)
 first | rw [show A.in1.handled = none from hh] | rw [hh]
 exact ae (ak (wpAny_throw (q _ _ (((bU ..).extBut.push _).push _) ⟨_,aE _ rfl,rfl⟩)))
end
end PP
end
section
namespace PP
open PySem PySem.Spec L2 PyProof.Rows
open Builtin.SmallTypes (nextOf)
def SqM (m:Bool) (K:PySem.W.Frag) (H:Hp) (a:aq) (xs:List V):Prop:=if m = true then SqL K H a xs else SqT K H a xs
def OkM (m:Bool) (h:bG) (a:aq) (us:List af):Prop:=if m = true then h.IsList a us.toArray else h.IsTuple a us.toArray
def ItO (m:Bool) (h:bG) (i l:aq) (k:Nat):Prop:=if m = true then h.IsListIter i l k else h.IsTupleIter i l k
def ItO.at {m:Bool} {h h':bG} {i l:aq} {k:Nat} (x:ItO m h i l k) (e:∀ o,h.get? i = some o->h'.get? i = some o):ItO m h' i l k:=by
 cases m
 . exact Heap.IsTupleIter.at x e
 . exact Heap.IsListIter.at x e
def ItO.obj {m:Bool} {h:bG} {i l:aq} {k:Nat} (x:ItO m h i l k):∃ o,h.get? i = some o/\∀ v,o.data≠.cell v:=by
 cases m <;>
 . obtain ⟨o,e,_,d⟩:=x;exact ⟨o,e,λv z=>by rw [d] at z;cases z⟩
section
variable {X:Cx} {pins:List (aq × Obj)} {σ:L2.St} {H:Hp} {s:ah} {A:aR} {E:af->ah->Prop}
def okM (I:Inv X pins σ H s) (hq:SqM m X.K H l ys):∃ us,Vals ys us/\OkM m s.heap l us:=by
 cases m
 . obtain ⟨us,r,p,_⟩:=I.tuple hq;exact ⟨us,r,p⟩
 . obtain ⟨us,r,p,_⟩:=I.list hq;exact ⟨us,r,p.isList⟩
def AF (I:Inv X pins σ H s) (h1:SqM m X.K H l xs) (h2:SqM m X.K H l ys):xs = ys:=by
 cases m
 . exact I.tuple_inj h1 h2
 . exact I.list_inj h1 h2
def vK {m:Bool} {i l:aq} {k:Nat} {ys:List V} {x:V} {Q:af->ah->Prop} (I:Inv X pins σ H s) (hq:SqM m X.K H l ys) (hx:ys[k]? = some x) (it:ItO m s.heap i l k)
 (q:∀ u h',RelV x u->ItO m h' i l (k+1)->fM i s.heap h'->Q u { s with heap:=h' }):wpAny (model X.prog X.w) A (nextOf (.ref i)) Q E s:=by
 obtain ⟨us,r,ok⟩:=okM I hq;obtain ⟨u,hu,ru⟩:=r.get hx;cases m
 . exact zT it ok hu λh' a b=>q u h' ru a b
 . exact wpAny_nextOf_list_item it ok (by simpa using hu) λh' a b=>q u h' ru a b
def Br {m:Bool} {i l:aq} {k:Nat} {ys:List V} {Q:af->ah->Prop} (hh:A.handled = none) (I:Inv X pins σ H s) (hq:SqM m X.K H l ys) (hx:ys.length<=k) (it:ItO m s.heap i l k)
 (q:∀ h' e,BY i s.heap h'->(∃ o,h'.get? e = some o/\o.cls = .type "StopIteration")->E (.ref e) { s with heap:=h' }):wpAny (model X.prog X.w) A (nextOf (.ref i)) Q E s:=by
 obtain ⟨us,r,ok⟩:=okM I hq;have hl:us[k]? = none:=cX (by rw [<- r.length];exact hx);cases m
 . exact CY hh it ok hl q
 . exact wpAny_nextOf_list_end hh it ok (by simpa using hl) q
structure Zp (h:bG) (m1 m2:Bool) (z TI TO i1 i2 l1 l2:aq) (f0:af) (k1 k2:Nat):Prop where
 hz:DL h z TI TO f0
 ti:wz h TI (.ref i1) (.ref i2)
 to:∃ a b,wz h TO a b
 i1:ItO m1 h i1 l1 k1
 i2:ItO m2 h i2 l2 k2
structure Ap (z TI TO i1 i2:aq):Prop where
 a1:TI≠z
 a2:TO≠z
 a3:i1≠z
 a4:i2≠z
 a5:TI≠TO
 a6:TI≠i1
 a7:TI≠i2
 a8:TO≠i1
 a9:TO≠i2
 a10:i1≠i2
def fc {b:aq} {h':bG} (I:Inv X pins σ H s) (f:kx X pins H b) (k:∀ c o,c≠b->s.heap.get? c = some o->h'.get? c = some o):Inv X pins σ H { s with heap:=h' }:=I.turned (t':=s.toks) k f.1 f.2.1 f.2.2.2.1 f.2.2.2.2.1 f.2.2.2.2.2
def DP {m1 m2:Bool} {z TI TO i1 i2 l1 l2:aq} {k:Nat} {xs ys:List V} {x y:V} {Q:af->ah->Prop} (D:Ap z TI TO i1 i2) (I:Inv X pins σ H s) (hf:∀ b∈[z,TI,TO,i1,i2],kx X pins H b) (Z:Zp s.heap m1 m2 z TI TO i1 i2 l1 l2 .none k k)
 (q1:SqM m1 X.K H l1 xs) (q2:SqM m2 X.K H l2 ys) (hx:xs[k]? = some x) (hy:ys[k]? = some y)
 (hQ:∀ T h',H T = none->(∀ b∈[z,TI,TO,i1,i2],T≠b)->Inv X pins σ (upd H T (.tup [x,y])) { s with heap:=h' }->Zp h' m1 m2 z TI TO i1 i2 l1 l2 (rawInt T) (k+1) (k+1)->Q (.ref T) { s with heap:=h' }) :
 wpAny (model X.prog X.w) A (dY.«zip.__next__» ⟨[.ref z],[]⟩) (λfin s'=>∃ v,fin = .done (.ret v)/\Q v s') E s:=by
 obtain ⟨hz,ti,⟨a,b,to⟩,h1,h2⟩:=Z;have fz:=hf z ↥0;have fT:=hf TO ↥0;have f1:=hf i1 ↥0;have f2:=hf i2 ↥0;refine ae (m:=field (.ref z) 2) (cR hz rfl (x:=.bool false) rfl ?_);refine ae (m:=field (.ref z) 3) (cR hz rfl (x:=.ref TI) rfl ?_);refine ae (cJ ti rfl ?_);refine ae (m:=da (.ref z)) ?_;unfold da;refine ae (cR hz rfl (x:=.none) rfl (ak ?_));simp only [if_true];refine ae (mG (ae (cR hz rfl (x:=.ref TO) rfl (ae (gN hz ↥0 λg1 y1 s1=>ae ?_)))));replace y1:DL g1 z TI TO .ellipsis:=y1;have I1:=fc I fz λc o n e=>s1.extBut c o n e;simp only [HQ,Kw,fi,List.forIn_nil];refine ae (ae (qp (ae (m:=nextOf (.ref i1)) (vK I1 q1 hx (h1.at λo e=>s1.extBut _ o D.a3 e) λu g2 ru j1 s2=>ak ?_))));have I2:=fc I1 f1 λc o n e=>s2.extBut c o n e;have to2:wz g2 TO a b:=s2.extBut _ _ D.a8 (s1.extBut _ _ D.a2 to);refine ae (cJ to2 rfl (ae (oN to2 λg3 to3 s3=>ae (iT (ak ?_)))));replace to3:wz g3 TO u b:=to3;have I3:=fc I2 fT λc o n e=>s3.extBut c o n e;refine ae (ae (qp (ae (m:=nextOf (.ref i2)) (vK I3 q2 hy (((h2.at λo e=>s1.extBut _ o D.a4 e).at λo e=>s2.extBut _ o D.a10.symm e).at λo e=>s3.extBut _ o D.a9.symm e) λv g4 rv j2 s4=>ak ?_))));have I4:=fc I3 f2 λc o n e=>s4.extBut c o n e;have to4:wz g4 TO u b:=s4.extBut _ _ D.a9 to3;refine ae (cJ to4 rfl (ae (oN to4 λg5 to5 s5=>ae (iT (ak (ak ?_))))));replace to5:wz g5 TO u v:=to5;have I5:=fc I4 fT λc o n e=>s5.extBut c o n e;refine ae (cJ to5 rfl (ae (wpAny_newTuple ?_)));have hT:H g5.objs.size = none:=I5.hok.fresh (aw _);have z5:DL g5 z TI TO .ellipsis:=s5.extBut _ _ D.a2.symm (s4.extBut _ _ D.a4.symm (s3.extBut _ _ D.a2.symm (s2.extBut _ _ D.a3.symm y1)));have ti5:wz g5 TI (.ref i1) (.ref i2):=s5.extBut _ _ D.a5 (s4.extBut _ _ D.a7 (s3.extBut _ _ D.a5 (s2.extBut _ _ D.a6 (s1.extBut _ _ D.a1 ti))));have k1:ItO m1 g5 i1 l1 (k+1):=((j1.at λo e=>s3.extBut _ o D.a8.symm e).at λo e=>s4.extBut _ o D.a10 e).at λo e=>s5.extBut _ o D.a8.symm e;have k2:ItO m2 g5 i2 l2 (k+1):=j2.at λo e=>s5.extBut _ o D.a9.symm e;have Tz:g5.objs.size≠z:=eY (az z5)
 have Ts:∀ b∈[z,TI,TO,i1,i2],g5.objs.size≠b:=λb hb=>by
  obtain ⟨_,e1,_⟩:=k1.obj;obtain ⟨_,e2,_⟩:=k2.obj;simp only [aB,cz,or_false] at hb;rcases hb with rfl | rfl | rfl | rfl | rfl
  . exact Tz
  . exact eY (az ti5)
  . exact eY (az to5)
  . exact eY (az e1)
  . exact eY (az e2)
 have I6:Inv X pins σ (upd H g5.objs.size (.tup [x,y])) { s with heap:=g5.push { cls:=.type "tuple",data:=.seq #[u,v] } } :=
  I5.laid (t':=s.toks) (λb u e=>ai _ e) (aw _) ⟨by show 2<=sizeLine;decide,[u,v],.cons ru (.cons rv .nil),⟨_,aE _ rfl,rfl,_,rfl⟩⟩
 have fz6:kx X pins (upd H g5.objs.size (.tup [x,y])) z:=⟨by rw [bN Tz.symm];exact fz.1,fz.2⟩;refine ae (m:=jk (.ref z) (.ref g5.objs.size)) ?_;unfold jk;have z6:DL (g5.push { cls:=.type "tuple",data:=.seq #[u,v] }) z TI TO .ellipsis:=ai _ z5;refine ae (gN z6 ↥0 λg7 z7 s7=>?_);replace z7:DL g7 z TI TO (rawInt g5.objs.size):=z7;refine gN z7 ↥0 λg8 z8 s8=>?_;replace z8:DL g8 z TI TO (rawInt g5.objs.size):=z8;have up:∀ c o,c≠z->g5.get? c = some o->g8.get? c = some o:=λc o n e=>s8.extBut _ _ n (s7.extBut _ _ n (ai _ e));have I8:=fc (fc I6 fz6 λc o n e=>s7.extBut c o n e) fz6 λc o n e=>s8.extBut c o n e;exact ak ⟨_,rfl,hQ g5.objs.size g8 hT Ts I8 ⟨z8,up _ _ D.a1 ti5,⟨_,_,up _ _ D.a2 to5⟩,k1.at λo e=>up _ o D.a3 e,k2.at λo e=>up _ o D.a4 e⟩⟩
def DO {m1 m2:Bool} {z TI TO i1 i2 l1 l2:aq} {k:Nat} {xs ys:List V} {Q:PySem.Fin->ah->Prop} (hh:A.handled = none) (D:Ap z TI TO i1 i2) (I:Inv X pins σ H s) (hf:∀ b∈[z,TI,TO,i1,i2],kx X pins H b) (Z:Zp s.heap m1 m2 z TI TO i1 i2 l1 l2 .none k k)
 (q1:SqM m1 X.K H l1 xs) (q2:SqM m2 X.K H l2 ys) (hend:xs.length<=k\/ys.length<=k)
 (hE:∀ h' e,Inv X pins σ H { s with heap:=h' }->(∃ o,h'.get? e = some o/\o.cls = .type "StopIteration")->E (.ref e) { s with heap:=h' }) :
 wpAny (model X.prog X.w) A (dY.«zip.__next__» ⟨[.ref z],[]⟩) Q E s:=by
 obtain ⟨hz,ti,⟨a,b,to⟩,h1,h2⟩:=Z;have fz:=hf z ↥0;have fT:=hf TO ↥0;have f1:=hf i1 ↥0;have f2:=hf i2 ↥0;refine ae (m:=field (.ref z) 2) (cR hz rfl (x:=.bool false) rfl ?_);refine ae (m:=field (.ref z) 3) (cR hz rfl (x:=.ref TI) rfl ?_);refine ae (cJ ti rfl ?_);refine ae (m:=da (.ref z)) ?_;unfold da;refine ae (cR hz rfl (x:=.none) rfl (ak ?_));simp only [if_true];refine ae (mG (ae (cR hz rfl (x:=.ref TO) rfl (ae (gN hz ↥0 λg1 y1 s1=>ae ?_)))));replace y1:DL g1 z TI TO .ellipsis:=y1;have I1:=fc I fz λc o n e=>s1.extBut c o n e;simp only [HQ,Kw,fi,List.forIn_nil];have j1:ItO m1 g1 i1 l1 k:=h1.at λo e=>s1.extBut _ o D.a3 e
 have last:∀ {g:bG} {e:aq} (Ig:Inv X pins σ H { s with heap:=g }) (zg:DL g z TI TO .ellipsis) (he:∃ o,g.get? e = some o/\o.cls = .type "StopIteration"),
  wpAny (model X.prog X.w) A (setField (.ref z) 0 .none) (λ_ s'=>E (.ref e) s') E { s with heap:=g }:=λ{g e} Ig zg he=>by
  obtain ⟨o,ho,hc⟩:=he;have ez:e≠z:=λx=>by subst x;rw [zg] at ho;cases ho;simp at hc
  refine gN zg ↥0 λg' _ s'=>?_;have I':=fc (h':=g') Ig fz λc o n e=>s'.extBut c o n e;exact hE g' e I' ⟨o,s'.extBut _ _ ez ho,hc⟩
 refine ae (ae (qp (ae (m:=nextOf (.ref i1)) ?_)));by_cases hx:xs.length<=k
 . refine Br hh I1 q1 hx j1 λg2 e x2 he=>?_;have I2:=fc (h':=g2) I1 f1 λc o n e=>x2 c o n e;exact last I2 (x2 _ _ D.a3.symm y1) he
 . obtain ⟨x,ex⟩:∃ x,xs[k]? = some x:=⟨xs[k],aA (by omega)⟩;refine vK I1 q1 ex j1 λu g2 ru j1' s2=>ak ?_;have I2:=fc I1 f1 λc o n e=>s2.extBut c o n e;have to2:wz g2 TO a b:=s2.extBut _ _ D.a8 (s1.extBut _ _ D.a2 to);refine ae (cJ to2 rfl (ae (oN to2 λg3 to3 s3=>ae (iT (ak ?_)))));have I3:=fc I2 fT λc o n e=>s3.extBut c o n e;refine ae (ae (qp (ae (m:=nextOf (.ref i2)) ?_)));refine Br hh I3 q2 (by omega) (((h2.at λo e=>s1.extBut _ o D.a4 e).at λo e=>s2.extBut _ o D.a10.symm e).at λo e=>s3.extBut _ o D.a9.symm e) λg4 e x4 he=>?_;have I4:=fc (h':=g4) I3 f2 λc o n e=>x4 c o n e;exact last I4 (x4 _ _ D.a4.symm (s3.extBut _ _ D.a2.symm (s2.extBut _ _ D.a3.symm y1))) he
end
end PP
end
section
namespace PP
open PySem PySem.Spec L2 PyProof.Rows
def Itz (K:PySem.W.Frag) (m1 m2:Bool) (l1 l2:aq):L2.It :=
 ⟨λi H=>∃ xs ys x y,SqM m1 K H l1 xs/\SqM m2 K H l2 ys/\xs[i]? = some x/\ys[i]? = some y,
   λi H v H'=>∃ T x y,v = .ref T/\H T = none/\H' = upd H T (.tup [x,y])/\(∀ xs,SqM m1 K H l1 xs->xs[i]? = some x)/\∀ ys,SqM m2 K H l2 ys->ys[i]? = some y,
   λi H=>∃ xs ys,SqM m1 K H l1 xs/\SqM m2 K H l2 ys/\(xs.length<=i\/ys.length<=i)⟩
def Ex {P:aO} {w:aZ} {K:PySem.W.Frag} {elts:List aG} {k0:Nat} {pos:Pos} {m1 m2:Bool} {z TI TO i1 i2 l1 l2:aq} (D:Ap z TI TO i1 i2) :
 Turn P w K (.Tuple elts k0 pos) (Itz K m1 m2 l1 l2) [z,TI,TO,i1,i2] z (λi h=>Zp h m1 m2 z TI TO i1 i2 l1 l2 .none i i) where
 mem:=by simp
 obj:=λi h st b hb=>by
  obtain ⟨hz,ti,⟨a,c,to⟩,h1,h2⟩:=st;simp only [aB,cz,or_false] at hb;rcases hb with rfl | rfl | rfl | rfl | rfl
  . exact ⟨_,hz,λv z=>by cases z⟩
  . exact ⟨_,ti,λv z=>by cases z⟩
  . exact ⟨_,to,λv z=>by cases z⟩
  . exact h1.obj
  . exact h2.obj
 keep:=λi h h' st k=>by
  obtain ⟨hz,ti,⟨a,c,to⟩,h1,h2⟩:=st;exact ⟨k z ↥0 _ hz,k TI ↥0 _ ti,⟨a,c,k TO ↥0 _ to⟩,h1.at λo e=>k _ ↥0 o e,h2.at λo e=>k _ ↥0 o e⟩
 item:=by
  intro X hP hw hK hc i pins s σ H E I hf st hg;subst hP hw hK;obtain ⟨xs,ys,x,y,q1,q2,hx,hy⟩:=hg;have hT:s.TypeIs (.ref z) "zip":=⟨_,st.hz,rfl⟩;unfold pyNext;refine ae (qq (cS (name:=du "__next__") hT PySem.F.slot_zip_next (cg PySem.F.slot_zip_next hT PySem.F.entry_zip_next (DP D I hf st q1 q2 hx hy λT h' nT nb I' Z'=>ak ⟨.ref T,rfl,?_⟩) (PySem.F.args_zip_next_1 _))));refine wpAny_letOwnedTupleGo_zip Z'.hz λh2 z2 s2=>?_;have hn:∀ b∈[z,TI,TO,i1,i2],upd H T (.tup [x,y]) b = none:=λb hb=>by rw [bN (nb b hb).symm];exact (hf b hb).1
  have I2:=fc (h':=h2) I' ⟨hn z ↥0,(hf z ↥0).2⟩ λc o n e=>s2.extBut c o n e;obtain ⟨_,ti,⟨a,c,to⟩,h1,h2'⟩:=Z'
  exact ⟨.ref T,upd H T (.tup [x,y]),I2,rfl,⟨T,x,y,rfl,nT,rfl,λxs' h=>by rw [AF I h q1];exact hx,λys' h=>by rw [AF I h q2];exact hy⟩,
   ⟨z2,s2.extBut _ _ D.a1 ti,⟨a,c,s2.extBut _ _ D.a2 to⟩,h1.at λo e=>s2.extBut _ o D.a3 e,h2'.at λo e=>s2.extBut _ o D.a4 e⟩,hn⟩
 done:=by
  intro X hP hw hK hc i pins s σ H E I hf st hg;subst hP hw hK;obtain ⟨xs,ys,q1,q2,he⟩:=hg;have hT:s.TypeIs (.ref z) "zip":=⟨_,st.hz,rfl⟩;unfold pyNext;refine ae (qq (cS (name:=du "__next__") hT PySem.F.slot_zip_next (cg PySem.F.slot_zip_next hT PySem.F.entry_zip_next (DO (I.ok.hd hc) D I hf st q1 q2 he λh' e I' he=>?_) (PySem.F.args_zip_next_1 _))));obtain ⟨o,ho,hc⟩:=he;exact ae (lP (T:="StopIteration") (b:=true) ⟨o,ho,hc⟩ isSubtype_stop (ak ⟨rfl,I'⟩))
 self:=λ_ _ _ _ _ st h=>wpAny_pyIter_zip st.hz h
def itN (m:Bool):String:=if m = true then "list_iterator" else "tuple_iterator"
def jb (m:Bool) (l:aq):Obj:={ cls:=.type (itN m),data:=.fields #[.ref l,.int 0 0] }
def iterM {E:af->ah->Prop} (ok:OkM m s.heap l us) (h:Q (.ref s.heap.objs.size) { s with heap:=s.heap.push (jb m l) }):wpAny (model prog w) A (pyIter (.ref l)) Q E s:=by
 cases m
 . exact Ox (show s.heap.IsTuple l us.toArray from ok) h
 . exact fI (show s.heap.IsList l us.toArray from ok) h
def OkM.push (ok:OkM m h l us) (o:Obj):OkM m (h.push o) l us:=by
 cases m
 . exact Heap.IsTuple.at (show h.IsTuple l us.toArray from ok) λo e=>ai _ e
 . exact Heap.IsList.push ok o
def zH (h:bG) (m1 m2:Bool) (l1 l2:aq):bG:=((((h.push (jb m1 l1)).push (jb m2 l2)).push { cls:=.type "tuple",data:=.seq #[.ref h.objs.size,.ref (h.objs.size+1)] }).push { cls:=.type "tuple",data:=.seq #[.none,.none] }).push { cls:=.type "zip",data:=.fields #[.none,.bool false,.bool false,.ref (h.objs.size+2),.ref (h.objs.size+3)] }
def CZ (l1 l2:aq) (us vs:List af):Meets (dY.«zip.__new__» ⟨[.type "zip",.ref l1,.ref l2],[]⟩) (λ_ R s=>OkM m1 s.heap l1 us/\OkM m2 s.heap l2 vs/\R (.ok (.ret (.ref (s.heap.objs.size+4)))) { s with heap:=zH s.heap m1 m2 l1 l2 }) :=
 .of_wp λprog w A R s h=>by
  obtain ⟨hp,g,d,tk,os⟩:=s;obtain ⟨o1,o2,h⟩:=h;have hsub:=sub_zip;have L1:OkM m1 (Shared.heap ⟨hp,g,d,tk,os⟩) l1 us:=o1;have L2:OkM m2 (Shared.heap ⟨hp.push (jb m1 l1),g,d,tk,os⟩) l2 vs:=OkM.push o2 _
  wp_walk using iterM L1,iterM L2
  refine ⟨_,rfl,?_⟩;unfold zH at h;simp only [bH];exact h
section
variable {prog:aO} {w:aZ} {A:aR} {E:af->ah->Prop} {s:ah}
def Dr (o1:OkM m1 s.heap l1 us) (o2:OkM m2 s.heap l2 vs)
 (h:∀ h',Zp h' m1 m2 (s.heap.objs.size+4) (s.heap.objs.size+2) (s.heap.objs.size+3) s.heap.objs.size (s.heap.objs.size+1) l1 l2 .none 0 0->(∀ c o,s.heap.get? c = some o->h'.get? c = some o)->Q (.ref (s.heap.objs.size+4)) { s with heap:=h' }) :
 wpAny (model prog w) A (call (.type "zip") [.ref l1,.ref l2]) Q E s:=by
 refine callType_new PySem.F.called_zip ⇑0 (PySem.F.typeCall_zip_2 _ _) (PySem.F.newCall_zip_2 _ _) (λobj=>PySem.F.args_object_init_3 obj _ _) PySem.F.entry_zip_new (CZ (m1:=m1) (m2:=m2) l1 l2 us vs) ⟨o1,o2,?_⟩;have up:∀ {h:bG} {c:aq} {o o':Obj},h.get? c = some o->(h.push o').get? c = some o:=λe=>ai _ e;have at_:∀ {h:bG} {o:Obj} {n:aq},h.objs.size = n->o.isFreed = false->(h.push o).get? n = some o:=λe f=>by rw [<- e];exact aE _ f
 have z1:(s.heap.push (jb m1 l1)).objs.size = s.heap.objs.size+1:=bH ..;have z2:((s.heap.push (jb m1 l1)).push (jb m2 l2)).objs.size = s.heap.objs.size+2:=by rw [bH,z1]
 have z3:(((s.heap.push (jb m1 l1)).push (jb m2 l2)).push { cls:=.type "tuple",data:=.seq #[.ref s.heap.objs.size,.ref (s.heap.objs.size+1)] }).objs.size = s.heap.objs.size+3:=by rw [bH,z2]
 have z4:((((s.heap.push (jb m1 l1)).push (jb m2 l2)).push { cls:=.type "tuple",data:=.seq #[.ref s.heap.objs.size,.ref (s.heap.objs.size+1)] }).push { cls:=.type "tuple",data:=.seq #[.none,.none] }).objs.size = s.heap.objs.size+4:=by rw [bH,z3]
 have g5:(zH s.heap m1 m2 l1 l2).get? (s.heap.objs.size+4) = some _:=at_ z4 rfl;have g4:(zH s.heap m1 m2 l1 l2).get? (s.heap.objs.size+3) = some _:=up (at_ z3 rfl);have g3:(zH s.heap m1 m2 l1 l2).get? (s.heap.objs.size+2) = some _:=up (up (at_ z2 rfl));have g2:(zH s.heap m1 m2 l1 l2).get? (s.heap.objs.size+1) = some (jb m2 l2):=up (up (up (at_ z1 rfl)));have g1:(zH s.heap m1 m2 l1 l2).get? s.heap.objs.size = some (jb m1 l1):=up (up (up (up (at_ rfl rfl))));have it:∀ {m:Bool} {i l:aq} {h:bG},h.get? i = some (jb m l)->ItO m h i l 0:=λ{m i l h} e=>by cases m<;>exact ⟨_,e,rfl,rfl⟩
 exact ⟨⟨_,g5,rfl⟩,h _ ⟨g5,g3,⟨_,_,g4⟩,it g1,it g2⟩ λc o e=>up (up (up (up (up e))))⟩
end
def Nl (h:a≠b):(show aq from a)≠(show aq from b):=h
def QV (K:PySem.W.Frag) (ta:TA):TI:=λσ H R=>ta σ H λvs H1=>∃ m1 m2 l1 l2 xs ys,vs = [.ref l1,.ref l2]/\SqM m1 K H1 l1 xs/\SqM m2 K H1 l2 ys/\R (Itz K m1 m2 l1 l2) H1
def MJ {X:Cx} {elts:List aG} {k0:Nat} {tp:Pos} {a b:aG} {ta:TA} {p pos:Pos} (hg:Gl X "zip") (hm:X.mg "zip" = none) (ha:PA X [a,b] ta) (hs:starEach [a,b] X.env = (false,eval a X.env)::starEach [b] X.env) (hpl:(backTo pos (starEach [b] X.env)).any (·.1) = false) :
 PI X (.Tuple elts k0 tp) (.Call (.Name "zip" p) [a,b] [] pos) (QV X.K ta):=by
 intro pins s σ H R I h;refine Call_ (oy I hg hm boot_zip (gU (thn (ha pos pins s σ H _ I h) λus s1 ⟨vs,H1,I1,r1,q1⟩=>?_) hs hpl));obtain ⟨m1,m2,l1,l2,xs,ys,rfl,s1',s2',q⟩:=q1;obtain ⟨u,rr,e,r,rr1⟩:∃ u rr,us = u::rr/\RelV (.ref l1) u/\Vals [.ref l2] rr:=by cases r1 with | cons r rr=>exact ⟨_,_,rfl,r,rr⟩
 obtain ⟨v,rfl,r2⟩:=vals1 rr1;subst e;cases r;cases r2;obtain ⟨us1,_,o1⟩:=okM I1 s1';obtain ⟨us2,_,o2⟩:=okM I1 s2';refine Dr o1 o2 λh' Z k=>?_;refine wpAny_pyIter_zip Z.hz ?_
 have D:Ap (s1.heap.objs.size+4) (s1.heap.objs.size+2) (s1.heap.objs.size+3) s1.heap.objs.size (s1.heap.objs.size+1):=by
  constructor<;>(refine Nl ?_;lia)
 refine ⟨_,_,_,_,H1,rfl,I1.kept (t':=s1.toks) k,Ex D,Z,λb hb=>?_,q⟩
 have hle:s1.heap.objs.size<=b:=by
  simp only [aB,cz,or_false] at hb;rcases hb with rfl | rfl | rfl | rfl | rfl<;>lia
 exact I1.fpOk hle (I1.hok.fresh hle)
end PP
end
section
namespace PP
open PySem L2 PyProof.Rows
variable [Tbs]
section
variable {X:Cx} {c:Ck} {cx:Cl} {k:Nat}
def kM:D->Bool
 | .lst _=>true
 | _=>false
def pS {K:PySem.W.Frag} {H:Hp} {F:aq->Prop} {d:D} {ds:List D} {v:V} (e:Fg d = some ds) (r:Rel K H F d v):∃ a us,v = .ref a/\SqM (kM d) K H a us/\aK K H F ds us:=by
 cases d with
 | lst l =>
   cases e;obtain ⟨a,us,e1,h1,h2⟩:=dN.lst (.inl r)
   exact ⟨a,us,e1,h1.sq,h2⟩
 | tup l =>
   cases e;obtain ⟨a,us,e1,h1,h2⟩:=dN.tup (.inl r)
   exact ⟨a,us,e1,h1,h2⟩
 | _=>cases e
def Lq {K:PySem.W.Frag} {G:Gh} {H:Hp} {F:aq->Prop} {x y:D} {xs ys:List D} {l1 l2:aq} (fd:FD F H) (ex:Fg x = some xs) (ey:Fg y = some ys) (q1:Rel K H F x (.ref l1)) (q2:Rel K H F y (.ref l2)):Wk K G F H (Itz K (kM x) (kM y) l1 l2) (DQ xs ys):=by
 intro F2 H2 st fd2 i;obtain ⟨_,w1,ea,t1,rl1⟩:=pS ex (Rel.step fd st _ _ q1);cases ea;obtain ⟨_,w2,ea,t2,rl2⟩:=pS ey (Rel.step fd st _ _ q2);cases ea;have ll1:=rl1.length;have ll2:=rl2.length;have zl:(DQ xs ys).length = min xs.length ys.length:=by unfold DQ;rw [av,sL]
 refine ⟨λd e=>?_,λe=>⟨w1,w2,t1,t2,∅⟩⟩;unfold DQ at e;rw [bf,aJ] at e;obtain ⟨⟨d1,d2⟩,e,rfl⟩:=e;obtain ⟨e1,e2⟩:=List.getElem?_zip_eq_some.mp e;obtain ⟨a1,ha1,ra1⟩:=rl1.get e1;obtain ⟨a2,ha2,ra2⟩:=rl2.get e2;refine ⟨⟨w1,w2,a1,a2,t1,t2,ha1,ha2⟩,λv H3 hy=>?_⟩;obtain ⟨T,b1,b2,rfl,nT,rfl,y1,y2⟩:=hy;cases (y1 _ t1).symm.trans ha1;cases (y2 _ t2).symm.trans ha2;refine ⟨cB nT _,?_⟩;unfold Rel;exact ⟨T,[a1,a2],rfl,SqT.of cm,aK.step (G:=G) fd2 (Step.of_same (cB nT _)) _ _ (aK.cons ra1 (aK.cons ra2 aK.nil))⟩
def Mc {es:Es} {tg a b:aG} {p pos:Pos} (ht:JV tg = true) (n:jR es = true) (hc:jC c es [a,b] = true) (hg:Gl X "zip") (hm:X.mg "zip" = none) (hA:PA X [a,b] (tEs X.K cx es)):PI X tg (.Call (.Name "zip" p) [a,b] [] pos) (tI X.K cx (.zp es)):=by
 obtain ⟨elts,k0,tp,rfl,_⟩:=gX (x:=tg) (k:=λ_=>true) (by unfold qZ;rw [aa];exact ⟨ht,rfl⟩);obtain ⟨_,_,_,c1,c2⟩:=iE hc;refine PI.imp (MJ hg hm hA (cW (cG c1) _ _) (iH c2)) λσ H R z=>?_;obtain ⟨G,F,δ,ds,δ',ok,ev,post⟩:=z;simp only [evI,ag,aj] at ev;obtain ⟨⟨zs,δ1⟩,e1,ws,e2,e3⟩:=ev;cases e3;unfold zpD at e2;split at e2
 . rename_i x y ez;have ez:zs = [x,y]:=ez;subst ez;rw [aj] at e2;obtain ⟨xs,ex,e2⟩:=e2;rw [aJ] at e2;obtain ⟨ys,ey,rfl⟩:=e2;refine ⟨G,F,δ,[x,y],_,ok,e1,λvs H1 F1 st sm ok1 r1=>?_⟩;have r:=r1.rl n;unfold aK at r;obtain ⟨v1,_,rfl,q1,r⟩:=r;unfold aK at r;obtain ⟨v2,_,rfl,q2,r⟩:=r;unfold aK at r;subst r;obtain ⟨l1,us1,rfl,s1,_⟩:=pS ex q1;obtain ⟨l2,us2,rfl,s2,_⟩:=pS ey q2;exact ⟨kM x,kM y,l1,l2,us1,us2,rfl,s1,s2,post _ _ _ st sm ok1 λG'=>Lq ok1.fd ex ey q1 q2⟩
 . cases e2
end
section
variable {cx:Cl} {k:Nat}
def oX {c:Ck} {tg:Tg} {ts:List Str} {kk:Nat} (h:ts.length = kk):(rH ts c.N++ts).length = c.N.length+kk:=by
 unfold rH;rw [ay,av,h]
def wj {c:Ck} {t:It} {x tg:aG} (h:ckI c t tg x = true) (env:Env) (v:af):foldedSetIterable x env v = pure v:=by
 cases t with
 | rng e=>obtain ⟨_,_,_,_,rfl,_⟩:=dH h;rfl
 | zp es=>obtain ⟨_,_,_,_,rfl,_⟩:=dH h;rfl
 | sq e =>
   have h:(ckE c e x && !bY e) = true:=h;rw [aa] at h;exact GP (cG h.1) env v
def iw {X:Cx} {c:Ck} {f:Blt} {es:Es} {x:aG} (C:Cok X c cx k) (h:ckE c (.blt f es) x = true) (hE:∀ e y,es = .cons e .nil->ckE c e y = true->PE X y (tE X.K cx e)) (hA:∀ xs,jC c es xs = true->sP es = true->PA X xs (tEs X.K cx es)) :
 PE X x (tE X.K cx (.blt f es))/\∀ whole,isTrue x X.env whole = (do let v <- whole;standAt x.pos;holding [v] (truthy v)):=by
 obtain ⟨n,np,xs,p,rfl,hh⟩:=dH h;refine ⟨?_,λ_=>rfl⟩;simp only [aa] at hh;obtain ⟨⟨h1,h2⟩,h3⟩:=hh;have e:=of_decide_eq_true h1;subst e
 cases hT:tyName f with
 | some T =>
   rw [hT] at h3;obtain ⟨y,w,rfl,h4⟩:=rA h3;obtain ⟨t,tp,rfl,h5⟩:=bC h4;simp only [aa] at h5;obtain ⟨⟨⟨a1,a2⟩,a3⟩,a4⟩:=h5;have et:=of_decide_eq_true a1
   cases es with
   | nil=>exact absurd (eE a3).1 ↥0
   | cons e es' =>
     obtain ⟨_,_,q0,a3'⟩:=dk a3;cases q0;rw [aa] at a3'
     cases es' with
     | cons _ _=>obtain ⟨_,_,q0,_⟩:=dk a3'.2;cases q0
     | nil =>
       have q:=hE e y rfl a3'.1;obtain ⟨t1,t2,t3⟩:=C.global a2
       have tb:t∈jD:=by
        subst et;cases f<;>simp [tyName] at hT<;>subst hT<;>decide
       have hs:starEach [y,.Name t tp] X.env = [(false,eval y X.env),(false,eval (.Name t tp) X.env)]:=by rw [cW (cG a3'.1)];rfl
       have nm:uE f = ("isinstance":Str):=by cases f<;>simp [tyName] at hT<;>rfl
       rw [nm] at h2 |-;obtain ⟨g1,_,_⟩:=C.global h2
       exact Mh hT et g1 (C.blt _ ⇑0) t1 (C.blt _ tb) q hs
 | none =>
   rw [hT] at h3;simp only [aa] at h3;obtain ⟨⟨b1,b2⟩,b3⟩:=h3
   cases xs with
   | nil=>simp at b1
   | cons y ys=>exact Oh C h2 hT (hA _ b2 b3) b2
def ixT {X:Cx} {c:Ck} {a b:E} {x:aG} (C:Cok X c cx k) (h:ckE c (.ix a b) x = true) (hA:∀ y,ckE c a y = true->PE X y (tE X.K cx a)) (hB:∀ y,ckE c b y = true->PE X y (tE X.K cx b)) :
 PE X x (tE X.K cx (.ix a b))/\∀ whole,isTrue x X.env whole = (do let v <- whole;standAt x.pos;holding [v] (truthy v)):=by
 obtain ⟨_,_,_,rfl,hq1⟩:=kI h;simp only [aa] at hq1;obtain ⟨⟨⟨h1,h2⟩,h3⟩,h4⟩:=hq1;exact ⟨Mg h3 (hA _ h1) (hB _ h2) (JZ (cG h2)),λ_=>rfl⟩
def Ht {X:Cx} {c:Ck} {f:Nat} {es:Es} {x:aG} (C:Cok X c cx k) (h:ckE c (.call f es) x = true) (hA:∀ xs,jC c es xs = true->sP es = true->PA X xs (tEs X.K cx es)) :
 PE X x (tE X.K cx (.call f es))/\∀ whole,isTrue x X.env whole = (do let v <- whole;standAt x.pos;holding [v] (truthy v)):=by
 obtain ⟨n,np,xs,p,rfl,hh⟩:=dH h;refine ⟨?_,λ_=>rfl⟩;have h':=hh;split at h'
 . simp only [aa] at h';exact call_of C (hA _ h'.1.1.2 (iZ h'.1.2)) hh
 . cases h'
def noT (h:∀ δ,evT cx e δ = none):PT X x (tT X.K cx e):=λpins s σ H Q I q=>by
 obtain ⟨G,F,δ,b,δ',ok,ev,post⟩:=q;rw [h] at ev;cases ev
def noE {X:Cx} {e:E} {x:aG} (h:∀ δ,evE cx e δ = none):PE X x (tE X.K cx e):=λpins s σ H Q I q=>by
 obtain ⟨G,F,δ,b,δ',ok,ev,post⟩:=q;rw [h] at ev;cases ev
mutual
theorem dM:∀ (e:E) (X:Cx) (c:Ck) (x:aG),Cok X c cx k->ckE c e x = true->PE X x (tE X.K cx e)
 | .var i,X,c,x,C,h=>by
   obtain ⟨_,_,rfl,hq1⟩:=bC h;replace h:=hq1
   . obtain ⟨n1,n2,n3,n4⟩:=C.name h
     exact Iz n1 n2 n3 n4
 | .pk i,X,c,x,C,h=>by
   obtain ⟨_,_,rfl,hq1⟩:=bC h;replace h:=hq1
   . obtain ⟨n1,n2,n3,n4⟩:=C.name h
     exact Mf n1 n2 n3 n4
 | .glob g,X,c,x,C,h=>by
   obtain ⟨_,_,rfl,hq1⟩:=bC h;replace h:=hq1
   . rw [aa] at h;have e:=of_decide_eq_true h.1;obtain ⟨g1,g2,g3⟩:=C.global h.2;obtain ⟨d,hd⟩:=C.gsome g _ e;obtain ⟨u,v,hm,r,hr⟩:=C.glob g _ d e hd
     exact EH g1 hm r (λd' hd'=>by rw [hd] at hd';cases hd';exact hr) g2
 | .int i,X,c,x,C,h=>by
   obtain ⟨_,_,_,rfl,hq1⟩:=kJ h;obtain ⟨_,rfl,hq2⟩:=FT hq1;replace h:=hq2
   . have e:=of_decide_eq_true h;subst e;exact IJ
 | .bl i,X,c,x,C,h=>by
   obtain ⟨_,_,_,rfl,hq1⟩:=kJ h;obtain ⟨_,rfl,hq2⟩:=Nh hq1;replace h:=hq2
   . have e:=of_decide_eq_true h;subst e;exact Mi
 | .non,X,c,x,C,h=>by
   obtain ⟨_,_,_,rfl,hq1⟩:=kJ h;replace h:=hq1;have e:=GF h;subst e
   exact IF
 | .str i,X,c,x,C,h=>by
   obtain ⟨_,_,_,rfl,hq1⟩:=kJ h;obtain ⟨_,rfl,hq2⟩:=zP hq1;replace h:=hq2
   . have e:=of_decide_eq_true h;subst e;exact IB
 | .bin op a b,X,c,x,C,h=>by
   obtain ⟨_,_,_,_,rfl,hq1⟩:=xS h;replace h:=hq1
   . simp only [aa] at h;obtain ⟨⟨⟨h1,h2⟩,h3⟩,h4⟩:=h
     exact IL h1 h4 (dM a X c _ C h2) (dM b X c _ C h3)
 | .cmp op a b,X,c,x,C,h=>by
   obtain ⟨_,_,_,_,rfl,hq1⟩:=rm h;obtain ⟨_,rfl,hq2⟩:=cT hq1;obtain ⟨_,rfl,hq3⟩:=cT hq2;replace h:=hq3
   . simp only [aa] at h;obtain ⟨⟨⟨h1,h2⟩,h3⟩,h4⟩:=h
     exact IK C.units h1 h4 (dM a X c _ C h2) (dM b X c _ C h3) (uv (cG h3) _)
 | .and a b,X,c,x,C,h=>by
   obtain ⟨o,_,p,rfl,hq1⟩:=jQ h;obtain ⟨y,r,rfl,hq2⟩:=dk hq1;obtain ⟨z,r2,rfl,hq3⟩:=dk hq2;simp only [aa] at hq3;obtain ⟨⟨⟨⟨h0,h1⟩,h2⟩,h3⟩,h4⟩:=hq3;cases o<;>first | (cases h0;done) | skip
   cases r2 with
   | nil=>exact snd_and h3 h4 (dM a X c _ C h1) (zM (dM b X c _ C h2))
   | cons w r=>exact snd_and h3 h4 (dM a X c _ C h1) (dM b X c _ C h2)
 | .or a b,X,c,x,C,h=>by
   obtain ⟨o,_,p,rfl,hq1⟩:=jQ h;obtain ⟨y,r,rfl,hq2⟩:=dk hq1;obtain ⟨z,r2,rfl,hq3⟩:=dk hq2;simp only [aa] at hq3;obtain ⟨⟨⟨⟨h0,h1⟩,h2⟩,h3⟩,h4⟩:=hq3;cases o<;>first | (cases h0;done) | skip
   cases r2 with
   | nil=>exact EF h3 h4 (dM a X c _ C h1) (zM (dM b X c _ C h2))
   | cons w r=>exact EF h3 h4 (dM a X c _ C h1) (dM b X c _ C h2)
 | .not a,X,c,x,C,h=>by
   obtain ⟨o,_,_,rfl,hh⟩:=lD h;simp only [aa] at hh;obtain rfl:=rM hh.1.1
   exact IE hh.2 (dM a X c _ C hh.1.2)
 | .neg a,X,c,x,C,h=>by
   obtain ⟨o,_,_,rfl,hh⟩:=lD h;simp only [aa] at hh;obtain rfl:=GG hh.1.1
   exact IG hh.2 (dM a X c _ C hh.1.2)
 | .ssd a,X,c,x,C,h=>by
   obtain ⟨_,_,_,_,rfl,hq1⟩:=dH h;obtain ⟨_,rfl,hq2⟩:=cT hq1;obtain ⟨_,_,_,_,rfl,hq3⟩:=dH hq2;obtain ⟨_,rfl,hq4⟩:=cT hq3;replace h:=hq4
   . simp only [aa] at h;obtain ⟨⟨⟨⟨⟨h1,h2⟩,h3⟩,h4⟩,h5⟩,h6⟩:=h;have e1:=of_decide_eq_true h1;have e2:=of_decide_eq_true h2;subst e1 e2;obtain ⟨g1,g2,g3⟩:=C.global h3;obtain ⟨f1,f2,f3⟩:=C.global h4
     exact IC C g1 (C.blt _ ⇑0) g3 g2 f1 (C.blt _ ⇑0) f3 f2 h6 (dM a X c _ C h5) (cW (cG h5) _ _)
 | .maxd a n,X,c,x,C,h=>by
   obtain ⟨_,_,_,_,_,_,_,_,_,rfl,hq1⟩:=Bg h;obtain ⟨_,rfl,hq2⟩:=FT hq1;replace h:=hq2
   . simp only [aa] at h;obtain ⟨⟨⟨⟨⟨h1,h2⟩,h3⟩,h4⟩,h5⟩,h6⟩:=h;have e1:=of_decide_eq_true h1;have e2:=of_decide_eq_true h2;have e3:=of_decide_eq_true h3;subst e1 e2 e3;obtain ⟨g1,g2,g3⟩:=C.global h4
     exact EG C.calm g1 (C.blt _ ⇑0) g3 g2 h6 (dM a X c _ C h5) (cW (cG h5) _ _)
 | .ite t a b,X,c,x,C,h=>by
   obtain ⟨_,_,_,_,rfl,hq1⟩:=Bf h;replace h:=hq1
   . simp only [aa] at h;obtain ⟨⟨⟨⟨h1,h2⟩,h3⟩,h4⟩,h5⟩:=h
     exact II h4 h5 (mf t X c _ C h1) (dM a X c _ C h2) (dM b X c _ C h3)
 | .tup es,X,c,x,C,h=>by
   obtain ⟨_,_,_,rfl,hq1⟩:=gX h;replace h:=hq1
   . rw [aa] at h
     exact IA h.2 (fY es X c _ C h.1 (iZ h.2))
 | .lst es,X,c,x,C,h=>by
   obtain ⟨_,_,rfl,hq1⟩:=mX h;replace h:=hq1
   . rw [aa] at h
     exact IH h.2 (fY es X c _ C h.1 (iZ h.2))
 | .ix a b,X,c,x,C,h=>(ixT C h (λy q=>dM a X c y C q) λy q=>dM b X c y C q).1
 | .sl a lo hi,X,c,x,C,h=>by
   obtain ⟨_,_,_,rfl,hh⟩:=kI h;obtain ⟨_,_,o,_,rfl,h9⟩:=Bd hh;simp only [aa] at h9;obtain ⟨h0,⟨⟨h1,h2⟩,h3⟩,h4⟩:=h9;obtain rfl:=cU.mp h0
   exact Me (by simpa using h4) (dM a X c _ C h1) (IQ lo X c _ C h2) (IQ hi X c _ C h3)
 | .call f es,X,c,x,C,h=>(Ht C h λxs h1 h2=>fY es X c xs C h1 h2).1
 | .calld f es,X,c,x,C,h=>by
   obtain ⟨n,np,xs,p,rfl,hh⟩:=dH h;refine Hq C ?_ hh;split at hh
   . simp only [aa] at hh;exact fY es X c xs C hh.1.1.1.2 (iZ hh.1.1.2)
   . cases hh
 | .blt f .nil,X,c,x,C,h=>(iw C h (λe y z=>by cases z) λxs h1 h2=>fY .nil X c xs C h1 h2).1
 | .blt f (.cons e .nil),X,c,x,C,h=>(iw C h (λe' y z h1=>by cases z;exact dM e X c y C h1) λxs h1 h2=>fY (.cons e .nil) X c xs C h1 h2).1
 | .blt f (.cons e (.cons e2 es)),X,c,x,C,h=>(iw C h (λe' y z=>by cases z) λxs h1 h2=>fY (.cons e (.cons e2 es)) X c xs C h1 h2).1
 | .bad,X,c,x,C,h=>noE λδ=>rfl
 | .comp kk tg src ifs elt,X,c,x,C,h=>by
   obtain ⟨_,_,_,_,rfl,hq1⟩:=pV h;obtain ⟨_,rfl,hq2⟩:=cT hq1;obtain ⟨_,_,_,rfl,hq3⟩:=FU hq2;replace h:=hq3
   . split at h
     . rename_i ts ht;simp only [aa] at h;obtain ⟨⟨⟨⟨⟨⟨⟨⟨h1,h2⟩,h3⟩,h4⟩,h5⟩,h6⟩,h7⟩,h8⟩,h9⟩:=h;have nd:=(ou h4).1
       exact EI C h9 (oX (tg:=tg) (of_decide_eq_true h1)) h2 h3 h4 (λcl Ca s H fp=>vd (iD C h3 nd cl Ca s H fp) h5) (Mm src X c _ _ C h6)
        (λcl Ca s H fp=>Pa ifs _ _ _ (iD C h3 nd cl Ca s H fp) h7) (λcl Ca s H fp=>dM elt _ _ _ (iD C h3 nd cl Ca s H fp) h8) (λv=>wj h6 _ v)
     . cases h
theorem mf:∀ (e:E) (X:Cx) (c:Ck) (x:aG),Cok X c cx k->ckE c e x = true->PT X x (tT X.K cx e)
 | .var i,X,c,x,C,h=>by
   obtain ⟨_,_,rfl,hq1⟩:=bC h;replace h:=hq1
   . obtain ⟨n1,n2,n3,n4⟩:=C.name h
     exact xl (.inl rfl) n1 n2 n3 n4
 | .pk i,X,c,x,C,h=>by
   obtain ⟨_,_,rfl,hq1⟩:=bC h;replace h:=hq1
   . obtain ⟨n1,n2,n3,n4⟩:=C.name h
     exact xl (.inr rfl) n1 n2 n3 n4
 | .cmp op a b,X,c,x,C,h=>by
   obtain ⟨_,_,_,_,rfl,hq1⟩:=rm h;obtain ⟨_,rfl,hq2⟩:=cT hq1;obtain ⟨_,rfl,hq3⟩:=cT hq2;replace h:=hq3
   . simp only [aa] at h;obtain ⟨⟨⟨h1,h2⟩,h3⟩,h4⟩:=h
     exact EM C.units h1 h4 (dM a X c _ C h2) (dM b X c _ C h3) (uv (cG h3) _)
 | .and a b,X,c,x,C,h=>by
   obtain ⟨o,_,p,rfl,hq1⟩:=jQ h;obtain ⟨y,r,rfl,hq2⟩:=dk hq1;obtain ⟨z,r2,rfl,hq3⟩:=dk hq2;simp only [aa] at hq3;obtain ⟨⟨⟨⟨h0,h1⟩,h2⟩,h3⟩,h4⟩:=hq3;cases o<;>first | (cases h0;done) | skip
   cases r2 with
   | nil=>exact xm (mf a X c _ C h1) (Jg (mf b X c _ C h2))
   | cons w r=>exact xm (mf a X c _ C h1) (PT.pw (mf b X c _ C h2))
 | .or a b,X,c,x,C,h=>by
   obtain ⟨o,_,p,rfl,hq1⟩:=jQ h;obtain ⟨y,r,rfl,hq2⟩:=dk hq1;obtain ⟨z,r2,rfl,hq3⟩:=dk hq2;simp only [aa] at hq3;obtain ⟨⟨⟨⟨h0,h1⟩,h2⟩,h3⟩,h4⟩:=hq3;cases o<;>first | (cases h0;done) | skip
   cases r2 with
   | nil=>exact AH (mf a X c _ C h1) (Ft (mf b X c _ C h2))
   | cons w r=>exact AH (mf a X c _ C h1) (PT.pw (mf b X c _ C h2))
 | .not a,X,c,x,C,h=>by
   obtain ⟨o,_,_,rfl,hh⟩:=lD h;simp only [aa] at hh;obtain rfl:=rM hh.1.1
   exact EL (mf a X c _ C hh.1.2)
 | .call f es,X,c,x,C,h=>pR (es:=es) (f:=cx.call f) (Ht C h λxs h1 h2=>fY es X c xs C h1 h2).1 (Ht C h λxs h1 h2=>fY es X c xs C h1 h2).2 rfl (λδ=>rfl) λδ=>by rw [evT]
 | .blt f .nil,X,c,x,C,h=>pR (es:=.nil) (f:=kU f) (iw C h (λe y z=>by cases z) λxs h1 h2=>fY .nil X c xs C h1 h2).1 (iw C h (λe y z=>by cases z) λxs h1 h2=>fY .nil X c xs C h1 h2).2 rfl (λδ=>rfl) λδ=>by rw [evT]
 | .blt f (.cons e .nil),X,c,x,C,h=>pR (es:=.cons e .nil) (f:=kU f) (iw C h (λe' y z h1=>by cases z;exact dM e X c y C h1) λxs h1 h2=>fY (.cons e .nil) X c xs C h1 h2).1 (iw C h (λe' y z h1=>by cases z;exact dM e X c y C h1) λxs h1 h2=>fY (.cons e .nil) X c xs C h1 h2).2 rfl (λδ=>rfl) λδ=>by rw [evT]
 | .blt f (.cons e (.cons e2 es)),X,c,x,C,h=>pR (es:=.cons e (.cons e2 es)) (f:=kU f) (iw C h (λe' y z=>by cases z) λxs h1 h2=>fY (.cons e (.cons e2 es)) X c xs C h1 h2).1 (iw C h (λe' y z=>by cases z) λxs h1 h2=>fY (.cons e (.cons e2 es)) X c xs C h1 h2).2 rfl (λδ=>rfl) λδ=>by rw [evT]
 | .calld _ _,X,c,x,C,h=>noT λδ=>rfl
 | .glob _,X,c,x,C,h=>noT λδ=>rfl
 | .int _,X,c,x,C,h=>noT λδ=>rfl
 | .bl _,X,c,x,C,h=>noT λδ=>rfl
 | .non,X,c,x,C,h=>noT λδ=>rfl
 | .str _,X,c,x,C,h=>noT λδ=>rfl
 | .neg _,X,c,x,C,h=>noT λδ=>rfl
 | .ssd _,X,c,x,C,h=>noT λδ=>rfl
 | .maxd _ _,X,c,x,C,h=>noT λδ=>rfl
 | .bin ..,X,c,x,C,h=>noT λδ=>rfl
 | .ite ..,X,c,x,C,h=>noT λδ=>rfl
 | .tup _,X,c,x,C,h=>noT λδ=>rfl
 | .lst _,X,c,x,C,h=>noT λδ=>rfl
 | .ix a b,X,c,x,C,h=>EK (ixT C h (λy q=>dM a X c y C q) λy q=>dM b X c y C q).1 (ixT C h (λy q=>dM a X c y C q) λy q=>dM b X c y C q).2 λδ k δ' q=>by
   simp only [evT,ag,aj] at q;obtain ⟨⟨u,δ1⟩,e1,⟨v,δ2⟩,e2,d,e3,t,e4,e5⟩:=q;cases e5
   exact ⟨d,by simp only [evE,e1,e2,e3,ag,aL];rfl,e4⟩
 | .sl ..,X,c,x,C,h=>noT λδ=>rfl
 | .bad,X,c,x,C,h=>noT λδ=>rfl
 | .comp ..,X,c,x,C,h=>noT λδ=>rfl
theorem fY:∀ (es:Es) (X:Cx) (c:Ck) (xs:List aG),Cok X c cx k->jC c es xs = true->sP es = true->PA X xs (tEs X.K cx es)
 | .nil,X,c,xs,C,h,_=>by
   obtain ⟨rfl,hq1⟩:=eE h;replace h:=hq1
   . exact vf
 | .cons e es,X,c,xs,C,h,ho=>by
   obtain ⟨_,_,rfl,hq1⟩:=dk h;replace h:=hq1
   . rw [aa] at h;have ho':((!bY e || npS es) && sP es) = true:=ho;rw [aa] at ho';exact qI ho'.1 (dM e X c _ C h.1) (fY es X c _ C h.2 ho'.2) (cW (cG h.1) _ _)
theorem IQ:∀ (o:Eo) (X:Cx) (c:Ck) (l:Option aG),Cok X c cx k->ckO c o l = true->PO X l (tO X.K cx o)
 | .no,X,c,l,C,h=>by
   obtain rfl:=cU.mp h
   exact KH (λe z=>by cases z) λ_=>rfl
 | .yes e,X,c,l,C,h=>by
   obtain ⟨_,rfl,hq1⟩:=oo h;replace h:=hq1
   . rw [aa] at h;have q:=dM e X c _ C h.1;exact KH (λe' z=>by cases z;exact ⟨_,rfl,h.2,q⟩) λz=>by cases z
theorem Pa:∀ (o:Eo) (X:Cx) (c:Ck) (l:List aG),Cok X c cx k->ckG c o l = true->PTs X l (tG X.K cx o)
 | .no,X,c,l,C,h=>by
   obtain ⟨rfl,hq1⟩:=eE h;replace h:=hq1
   . intro pins s σ H Q I q;obtain ⟨G,F,δ,b,δ',ok,ev,post⟩:=q;simp only [evG] at ev;cases ev
     exact Ji pins s σ H Q I (post H F Step.refl (λ_=>Sim.refl H) ok)
 | .yes e,X,c,l,C,h=>by
   obtain ⟨_,rfl,hq1⟩:=cT h;replace h:=hq1
   . have q:=Jh (mf e X c _ C h);intro pins s σ H Q I z;obtain ⟨G,F,δ,b,δ',ok,ev,post⟩:=z;simp only [evG] at ev;exact q pins s σ H Q I ⟨G,F,δ,b,δ',ok,ev,post⟩
theorem Mm:∀ (t:It) (X:Cx) (c:Ck) (x tg:aG),Cok X c cx k->ckI c t tg x = true->PI X tg x (tI X.K cx t)
 | .rng e,X,c,x,tg,C,h=>by
   obtain ⟨_,_,_,_,rfl,hq1⟩:=dH h;obtain ⟨_,rfl,hq2⟩:=cT hq1;replace h:=hq2
   . simp only [aa] at h;obtain ⟨⟨⟨h1,h2⟩,h3⟩,h4⟩:=h;have z:=of_decide_eq_true h1;subst z
     exact ID h4 (C.global h2).1 (C.blt _ ⇑0) (dM e X c _ C h3) (cW (cG h3) _ _)
 | .zp es,X,c,x,tg,C,h=>by
   obtain ⟨_,_,_,_,rfl,h1⟩:=dH h;obtain ⟨_,_,rfl,h2⟩:=rA h1;simp only [aa] at h2;obtain ⟨⟨⟨⟨a1,a2⟩,a3⟩,a5⟩,a6⟩:=h2;have e:=of_decide_eq_true a2;subst e
   exact Mc a1 a6 a5 (C.global a3).1 (C.blt _ ⇑0) (fY es X c _ C a5 (iZ a6))
 | .sq e,X,c,x,tg,C,h=>by
   have h:(ckE c e x && !bY e) = true:=h;rw [aa] at h;exact Md h.2 (dM e X c x C h.1)
end
end
def uK (K:PySem.W.Frag) (G:Gh) (F:aq->Prop) (H:Hp) (o:Out) (E:Ends):Prop:=match o with
 | .nx δ'=>∀ σ' H' F',Step G F H F' H'->Ok K G F' σ' H' δ'->E.nx σ' H'
 | .rt d δ'=>∀ v σ' H' F',Step G F H F' H'->Ok K G F' σ' H' δ'->Rel K H' F' d v->E.rt v H'
 | .ro d δ'=>∀ a u σ' H' F',Step G F H F' H'->Ok K G F' σ' H' δ'->F' a->G.free a->H' a = some u->iP K H' F' d u->E.rt (.ref a) H'
def tS (K:PySem.W.Frag) (ev:Loc->Option Out):TS:=λE σ H=>∃ G F δ o,Ok K G F σ H δ/\ev δ = some o/\uK K G F H o E
def uK.step {K:PySem.W.Frag} {G:Gh} {F F1:aq->Prop} {H H1:Hp} {o:Out} {E:Ends} (st:Step G F H F1 H1) (h:uK K G F H o E):uK K G F1 H1 o E:=by
 cases o with
 | nx δ=>exact λσ' H' F' s k=>h σ' H' F' (st.trans s) k
 | rt d δ=>exact λv σ' H' F' s k r=>h v σ' H' F' (st.trans s) k r
 | ro ds δ=>exact λa xs σ' H' F' s k=>h a xs σ' H' F' (st.trans s) k
section
variable {X:Cx} {c:Ck} {cx:Cl} {k:Nat}
def PS.imp {s:bD} {t t':TS} (h:PS X s t) (w:∀ E σ H,t' E σ H->t E σ H):PS X s t':=λpins s σ H E I q=>h pins s σ H E I (w E σ H q)
def PSs.imp {s:List bD} {t t':TS} (h:PSs X s t) (w:∀ E σ H,t' E σ H->t E σ H):PSs X s t':=λpins s σ H E I q=>h pins s σ H E I (w E σ H q)
def xo:PSs X [] (tS X.K (dD cx .nil)):=PSs.imp pT λE σ H zz=>by
 obtain ⟨G,F,δ,o,ok,ev,post⟩:=zz;simp only [dD] at ev;cases ev;exact post σ H F Step.refl ok
def og {s:S} {ss:Ss} {y:bD} {ys:List bD} (h1:PS X y (tS X.K (evS cx s))) (h2:PSs X ys (tS X.K (dD cx ss))):PSs X (y::ys) (tS X.K (dD cx (.cons s ss))):=PSs.imp (kH h1 h2) λE σ H zz=>by
 obtain ⟨G,F,δ,o,ok,ev,post⟩:=zz;simp only [dD] at ev
 cases e:evS cx s δ with
 | none=>rw [e] at ev;cases ev
 | some o1 =>
   rw [e] at ev
   cases o1 with
   | nx δ1=>exact ⟨G,F,δ,.nx δ1,ok,e,λσ' H' F' st ok'=>⟨G,F',δ1,o,ok',ev,post.step st⟩⟩
   | rt d δ1=>cases ev;exact ⟨G,F,δ,_,ok,e,post⟩
   | ro d δ1=>cases ev;exact ⟨G,F,δ,_,ok,e,post⟩
def Om {tg:Tg} {e:E} {δ:Loc} {o:Out} (ev:evS cx (.asg tg e) δ = some o):∃ d δ1 δ2,evE cx e δ = some (d,δ1)/\fZ δ1 tg d = some δ2/\o = .nx δ2:=by
 simp only [evS,ag,aj] at ev;obtain ⟨⟨d,δ1⟩,e1,δ2,e2,e3⟩:=ev;cases e3;exact ⟨d,δ1,δ2,e1,e2,rfl⟩
def Ol {tg:Tg} {e:E} (n:(!bY e) = true) {E:Ends} {σ:L2.St} {H:Hp} (h:tS X.K (evS cx (.asg tg e)) E σ H):Iv (tE X.K cx e) (gTg X.K tg) E σ H:=by
 obtain ⟨G,F,δ,o,ok,ev,post⟩:=h;obtain ⟨d,δ1,δ2,e1,e2,rfl⟩:=Om ev;exact ⟨G,F,δ,d,δ1,ok,e1,λv H1 F1 st sm ok1 r=>uY ok1 (eU n r) e2 λσ' ok2 _=>post σ' H1 F1 st ok2⟩
def xu (C:Cok X c cx k) (hm:(isNm t || !JV y) = true\/swappedStores [t] y X.env = pure none) (h:we c tg t = true) (hy:ckE c e y = true) (n:(!bY e) = true) (hs:swapsWithSole [t] y pos.line X.env = pure false) (he:PE X y (tE X.K cx e)):PS X (.Assign [t] y pos) (tS X.K (evS cx (.asg tg e))):=by
 have hh:=cG hy
 have hw:swappedStores [t] y X.env = pure none:=by
  refine hm.elim (λhm=>?_) id;rcases wZ h with ⟨_,_,rfl⟩ | ⟨_,_,_,rfl⟩
  . cases y<;>first | rfl | (exact absurd hh ao)
  . cases y<;>first | rfl | (exact absurd hm ao) | (exact absurd hh ao)
 have h1:(assignEach [t] X.env).map (·.2) = [assign t X.env]:=by
  rcases wZ h with ⟨_,_,rfl⟩ | ⟨_,_,_,rfl⟩<;>rfl
 exact PS.imp (FE he (vd C h) hs hw h1) λE σ H h=>Ol n h
def two_of {α β:Type} {i j:α} {ds:List β} (h:[i,j].length = ds.length):∃ a b,ds = [a,b]:=by
 cases ds with
 | nil=>cases h
 | cons a ds =>
   cases ds with
   | nil=>cases h
   | cons b ds =>
     cases ds with
     | nil=>exact ⟨a,b,rfl⟩
     | cons c ds=>cases h
def tN (K:PySem.W.Frag) (cx:Cl) (e:E):TE:=λσ H Q=>∃ G F δ ds δ',Ok K G F σ H δ/\evE cx e δ = some (.lst ds,δ') /\
 ∀ p xs H1 F1,Step G F H F1 H1->Ok K G F1 σ H1 δ'->H1 p = none->aK K H1 F1 ds xs->Q (.ref p) (upd H1 p (.lst xs))
def Js {K:PySem.W.Frag} {G:Gh} {F1:aq->Prop} {σ:L2.St} {H1:Hp} {δ1:Loc} {i:Nat} {p:aq} {ds:List D} {xs:List V} (ok1:Ok K G F1 σ H1 δ1) (hp:H1 p = none) (rl:aK K H1 F1 ds xs) (hi:i < δ1.length) :
 Ok K G (λb=>F1 b\/b = p) (σ.set i (some (.ref p))) (upd H1 p (.lst xs)) (δ1.set i (.own ds))/\Step G F1 H1 (λb=>F1 b\/b = p) (upd H1 p (.lst xs)):=by
 obtain ⟨o1,o2⟩:=ok1.enter hp xs;refine ⟨(o1.keep).own hi (.inr rfl) (ok1.free hp) cm (aK.step ok1.fd o2 ds xs rl) λj s e ho z=>?_,o2⟩;obtain ⟨a,u,d,e1,_,_,e2,_⟩:=fD.ow (ok1.sl j _ e) ho;rw [z] at e1;cases e1;rw [hp] at e2;cases e2
def EO (C:Cok X c cx k) {i:Nat} {e:E} {t:Str} {y:aG} {pos p2:Pos} (h:eV c i t = true) (hy:ckE c e y = true) (nc:(!jU y) = true) (he:PE X y (tN X.K cx e)):PS X (.Assign [.Name t p2] y pos) (tS X.K (evS cx (.new i e))):=by
 obtain ⟨n1,n2,n3⟩:=C.to h;have nc':jU y = false:=by simpa using nc
 refine PS.imp (vx C.nd' n1 n2 he (jW (cG hy) nc' _ _ _) n3) λE σ H zz=>?_;obtain ⟨G,F,δ,o,ok,ev,post⟩:=zz;simp only [evS,ag,aj] at ev;obtain ⟨⟨d,δ1⟩,e1,ev⟩:=ev
 cases d with
 | lst ds =>
   dsimp only at ev;split at ev
   . cases ev;refine ⟨G,F,δ,ds,δ1,ok,e1,λp xs H1 F1 st ok1 hp rl=>?_⟩;obtain ⟨o1,o2⟩:=Js ok1 hp rl ‹_›;exact post _ _ _ (st.trans o2) o1
   . cases ev
 | _=>cases ev
def Fc (n:jR es = true) (h:PA X xs (tEs X.K cx es)):PE X (.List xs pos) (tN X.K cx (.lst es)):=by
 refine PE.imp (zN h) λσ H Q h=>?_;obtain ⟨G,F,δ,d,δ',ok,ev,post⟩:=h;simp only [evE,ag,aj] at ev;obtain ⟨⟨ds,δ1⟩,ea,ev⟩:=ev;split at ev
 . rename_i hz;cases ev;refine ⟨G,F,δ,ds,δ1,ok,ea,λvs H1 F1 st1 sm1 ok1 r1=>?_⟩;have r:=r1.rl n;exact ⟨by rw [r.length];exact hz,λp hp=>post p vs H1 F1 st1 ok1 hp r⟩
 . cases ev
def CI (C:Cok X c cx k) {es:Es} {p pos:Pos} {y:aG} {ys:List aG} (hg:dw c (uE .toLst) = true) (hA:PA X (y::ys) (tEs X.K cx es)) (h:jC c es (y::ys) = true):PE X (.Call (.Name (uE .toLst) p) (y::ys) [] pos) (tN X.K cx (.blt .toLst es)):=by
 obtain ⟨g1,g2,g3⟩:=C.global hg;obtain ⟨e,es',rfl,h1,h2⟩:=iE h;have he:=cW (cG h1) ys X.env;have hpl:=iH (env:=X.env) (pos:=pos) h2;refine PE.imp (jy nG g1 (C.blt _ ⇑0) rfl hA g3 g2 he hpl) λσ H Q h=>?_;obtain ⟨G,F,δ,ds,δ',ok,ev,post⟩:=h;simp only [evE] at ev;obtain ⟨zs,ea,hd⟩:=yj ev;refine ⟨G,F,δ,zs,δ',ok,ea,λvs H1 F1 st1 sm1 ok1 r1=>?_⟩;have r:=r1.bl;change nZ zs = some (D.lst ds) at hd;unfold nZ at hd;split at hd
 . cases hd;obtain ⟨v,rfl,r9⟩:=b1 r;obtain ⟨a,ws,rfl,h1,h2⟩:=r9.lst;exact ⟨a,ws,rfl,.inl h1.sq,λl hl=>post l ws H1 F1 st1 ok1 hl h2⟩
 . cases hd;obtain ⟨v,rfl,r9⟩:=b1 r;obtain ⟨a,ws,rfl,h1,h2⟩:=r9.tup;exact ⟨a,ws,rfl,.inr h1,λl hl=>post l ws H1 F1 st1 ok1 hl h2⟩
 . cases hd
def IS {a:E} {lo hi:Eo} {y:aG} {l h:Option aG} {pos p2:Pos} (pc:(!bY a || (npO lo && npO hi)) = true) (ha:PE X y (tE X.K cx a)) (hl:PO X l (tO X.K cx lo)) (hh:PO X h (tO X.K cx hi)):PE X (.Subscript y (.Slice l h none p2) pos) (tN X.K cx (.sl a lo hi)):=by
 refine PE.imp (xO AJ ha hl hh) λσ H Q h=>?_;obtain ⟨G,F,δ,ds,δ',ok,ev,post⟩:=h;simp only [evE,ag,aj] at ev;obtain ⟨⟨x,δ1⟩,ea,⟨l',δ2⟩,eb,⟨h',δ3⟩,ec,d',hd,e⟩:=ev;cases e;dsimp only at eb ec hd post;refine ⟨G,F,δ,x,δ1,ok,ea,λv H1 F1 st1 sm1 ok1 r1=>⟨G,F1,δ1,l',δ2,ok1,eb,λH2 F2 st2 sm2 ok2=>⟨G,F2,δ2,h',δ3,ok2,ec,λH3 F3 st3 sm3 ok3=>?_⟩⟩⟩;have st:=st2.trans st3
 have rb:dN X.K H3 F3 x v:=by
  refine (RelM.step ok1.fd st (λz=>?_) r1).b;rw [z] at pc;have pc':(npO lo && npO hi) = true:=by simpa using pc
  rw [aa] at pc';exact (sm2 pc'.1).trans (sm3 pc'.2)
 unfold slD at hd;split at hd
 . cases hd;obtain ⟨p,xs,e1,h1,h2⟩:=rb.lst;exact ⟨p,xs,e1,h1.sq,λq hq=>post q _ H3 F3 (st1.trans st) ok3 hq (h2.cut l' h')⟩
 . split at hd
   . cases hd
   . cases hd
 . split at hd
   . cases hd
   . cases hd
 . cases hd
end
section
variable {X:Cx} {c:Ck} {cx:Cl} {k:Nat}
def QQ {op:ic} {t t':TIp} (h:PIp X op t) (h':PIp X op t'):PIp X op (λx y H Q=>t x y H Q\/t' x y H Q):=λpins s σ H x y v u Q I r1 r2 q=>q.elim (h pins s σ H x y v u Q I r1 r2) (h' pins s σ H x y v u Q I r1 r2)
def EV (C:Cok X c cx k) {i:Nat} {op:Op} {o:ic} {e:E} {t:Str} {y:aG} {pos p2:Pos} (h:eV c i t = true) (ho:Jz op o = true) (n:(!bY e) = true) (he:PE X y (tE X.K cx e)):PS X (.AugAssign (.Name t p2) o y pos) (tS X.K (evS cx (.aug i op e))):=by
 obtain ⟨n1,n2,n3⟩:=C.to h
 have inv:∀ {δ:Loc} {out:Out},evS cx (.aug i op e) δ = some out->∃ x y δ1 z,δ[i]? = some (.val x)/\evE cx e δ = some (y,δ1)/\out = .nx (δ1.set i (.val z))/\op = .add/\Oj x y = some z:=by
  intro δ out ev;simp only [evS] at ev
  cases q:δ[i]? with
  | none=>rw [q] at ev;cases ev
  | some s =>
    rw [q] at ev
    cases s with
    | no=>cases ev
    | fnc _ _=>cases ev
    | own _=>cases ev
    | val x =>
      simp only [ag,aj] at ev;obtain ⟨⟨d,δ1⟩,e1,ev⟩:=ev;dsimp only at ev
      cases op with
      | add =>
        obtain ⟨z,h1,h2⟩:=aJ.mp ev
        exact ⟨x,d,δ1,z,rfl,e1,h2.symm,rfl,h1⟩
      | _=>cases ev
 cases op with
 | add =>
   cases o<;>first | (exact absurd ho ao) | skip
   refine PS.imp (MH C.nd' n1 n2 he NM n3) λE σ H zz=>?_;obtain ⟨G,F,δ,out,ok,ev,post⟩:=zz;obtain ⟨x,y,δ1,z,e1,e2,rfl,_,e3⟩:=inv ev
   . obtain ⟨v,ev,r⟩:=ok.sl i _ e1;refine ⟨_,ev,G,F,δ,_,δ1,ok,e2,λu H1 F1 st sm ok1 r1=>?_⟩;have hi:i < δ1.length:=by rw [ok1.len,<- ok.len];exact (aD.mp e1).1
     have ra:Rel X.K H1 F1 x v:=Rel.step ok.fd st x v r;have rb:=eU n r1;unfold Oj at e3;split at e3
     . cases e3;unfold Rel at ra rb;subst ra rb;exact ⟨_,_,rfl,rfl,post _ H1 F1 st (ok1.set hi (dC _))⟩
     . cases e3
 | _ =>
   refine PS.imp Fy λE σ H zz=>?_;obtain ⟨G,F,δ,out,ok,ev,post⟩:=zz;obtain ⟨_,_,_,_,_,_,_,z,_⟩:=inv ev;cases z
def EN {e:E} {y:aG} {pos:Pos} (n:(!bY e) = true) (he:PE X y (tE X.K cx e)):PS X (.Return (some y) pos) (tS X.K (evS cx (.ret e))):=PS.imp (zI he) λE σ H zz=>by
 obtain ⟨G,F,δ,out,ok,ev,post⟩:=zz;simp only [evS,ag,aj] at ev;obtain ⟨⟨d,δ1⟩,e1,ev⟩:=ev;cases ev;exact ⟨G,F,δ,d,δ1,ok,e1,λv H1 F1 st sm ok1 r=>post v σ H1 F1 st ok1 (eU n r)⟩
def ER {t:E} {a b:Ss} {y:aG} {ya yb:List bD} {pos:Pos} (ht:PT X y (tT X.K cx t)) (ha:PSs X ya (tS X.K (dD cx a))) (hb:PSs X yb (tS X.K (dD cx b))):PS X (.If y ya yb pos) (tS X.K (evS cx (.ifs t a b))):=PS.imp (FC ht ha hb) λE σ H zz=>by
 obtain ⟨G,F,δ,out,ok,ev,post⟩:=zz;simp only [evS,ag,aj] at ev;obtain ⟨⟨q,δ1⟩,e1,ev⟩:=ev;refine ⟨G,F,δ,q,δ1,ok,e1,λH1 F1 st sm ok1=>?_⟩
 cases q with
 | true=>exact kr ⟨G,F1,δ1,out,ok1,ev,post.step st⟩
 | false=>exact jq ⟨G,F1,δ1,out,ok1,ev,post.step st⟩
def ES (C:Cok X c cx k) {tg:Tg} {src:It} {body:Ss} {t it:aG} {ys:List bD} {pos:Pos} (htg:we c tg t = true) (hI:PI X t it (tI X.K cx src)) (hset:∀ v,foldedSetIterable it X.env v = pure v) (hb:PSs X ys (tS X.K (dD cx body))):PS X (.For t it ys [] pos) (tS X.K (evS cx (.for_ tg src body))):=by
 have hp:pA (model X.prog X.w) X.A X.env X.xe:=by rw [C.xe];exact oQ
 refine PS.imp (MG hp C.calm hI (vd C htg) hb hset) λE σ H zz=>?_;obtain ⟨G,F,δ,out,ok,ev,post⟩:=zz;simp only [evS,ag,aj] at ev;obtain ⟨⟨ds,δ1⟩,e1,ev⟩:=ev;dsimp only at ev;generalize ef:(λ(x:D) (δ0:Loc)=>match fZ δ0 tg x with | some δ2=>dD cx body δ2 | none=>none) = f at ev;refine ⟨G,F,δ,ds,δ1,ok,e1,λJ H1 F1 st sm ok1 wk=>?_⟩;refine ⟨λi m σ' H'=>∃ F' δ',m = ds.length - i/\i<=ds.length/\Step G F1 H1 F' H'/\Ok X.K G F' σ' H' δ'/\forL f (ds.drop i) δ' = some out,⟨_,F1,δ1,rfl,cC _,Step.refl,ok1,ev⟩,?_⟩;rintro i m σ' H' ⟨F',δ',rfl,hi,st',ok',ev'⟩;by_cases hlt:i < ds.length
 . right;obtain ⟨d,hd⟩:∃ d,ds[i]? = some d:=⟨ds[i],by simp [hlt]⟩;obtain ⟨go,yl⟩:=(wk _ F' H' st' ok'.fd i).1 d hd;refine ⟨go,?_⟩
   have edr:ds.drop i = d::ds.drop (i+1):=by
    rw [jv hlt];congr 1;rw [aA hlt] at hd;exact bA hd
   rw [edr] at ev';unfold forL at ev';refine ⟨λσ2 H2=>∃ m',m' < ds.length - i/\∃ F2 δ2,m' = ds.length - (i+1)/\i+1<=ds.length/\Step G F1 H1 F2 H2/\Ok X.K G F2 σ2 H2 δ2/\forL f (ds.drop (i+1)) δ2 = some out,λσ2 H2 z=>z,λx H3 hy=>?_⟩;obtain ⟨sm,rx⟩:=yl x H3 hy;replace ok':=ok'.same' sm;replace st':=st'.trans (Step.of_same sm)
   cases hf:f d δ' with
   | none=>rw [hf] at ev';cases ev'
   | some o1 =>
     have hf':=hf;rw [<- ef] at hf';dsimp only at hf'
     cases hs:fZ δ' tg d with
     | none=>rw [hs] at hf';cases hf'
     | some δ2 =>
       rw [hs] at hf';refine uY ok' rx hs λσ2 ok2 _=>⟨G,F',δ2,o1,ok2,hf',?_⟩;rw [hf] at ev'
       cases o1 with
       | nx δ3=>exact λσ3 H4 F4 s4 k4=>⟨_,by omega,F4,δ3,rfl,hlt,st'.trans s4,k4,ev'⟩
       | rt d3 δ3 =>
         cases ev'
         exact λv σ3 H4 F4 s4 k4 r4=>post v σ3 H4 F4 ((st.trans st').trans s4) k4 r4
       | ro d3 δ3 =>
         cases ev';exact λa xs σ3 H4 F4 s4 k4=>post a xs σ3 H4 F4 ((st.trans st').trans s4) k4
 . left;have hi':i = ds.length:=by omega
   subst hi';refine ⟨(wk _ F' H' st' ok'.fd ds.length).2 rfl,?_⟩;rw [HS] at ev';cases ev';exact post σ' H' F' (st.trans st') ok'
def zA (C:Cok X c cx k) {t:E} {body:Ss} {y:aG} {ys:List bD} {pos:Pos} (ht:PT X y (tT X.K cx t)) (hb:PSs X ys (tS X.K (dD cx body))):PS X (.While y ys [] pos) (tS X.K (evS cx (.while_ t body))):=by
 have hp:pA (model X.prog X.w) X.A X.env X.xe:=by rw [C.xe];exact oQ
 refine PS.imp (xK hp ht hb) λE σ H zz=>?_;obtain ⟨G,F,δ,out,ok,ev,post⟩:=zz;simp only [evS] at ev;refine ⟨λm σ' H'=>∃ F' δ',Step G F H F' H'/\Ok X.K G F' σ' H' δ'/\me (λδ0=>evT cx t δ0) (λδ0=>dD cx body δ0) m δ' = some out,⟨1000,F,δ,Step.refl,ok,ev⟩,?_⟩;rintro m σ' H' ⟨F',δ',st',ok',ev'⟩
 cases m with
 | zero=>cases ev'
 | succ m =>
   unfold me at ev'
   cases ec:evT cx t δ' with
   | none=>rw [ec] at ev';cases ev'
   | some q =>
     obtain ⟨b,δ1⟩:=q;rw [ec] at ev';refine ⟨G,F',δ',b,δ1,ok',ec,λH1 F1 st1 sm1 ok1=>?_⟩;have sA:=st'.trans st1
     cases b with
     | true =>
       refine kr ?_;dsimp only at ev';refine ⟨λσ2 H2=>∃ m',m' < m+1/\∃ F2 δ2,Step G F H F2 H2/\Ok X.K G F2 σ2 H2 δ2/\me (λδ0=>evT cx t δ0) (λδ0=>dD cx body δ0) m' δ2 = some out,λσ2 H2 z=>z,?_⟩
       cases hf:dD cx body δ1 with
       | none=>rw [hf] at ev';cases ev'
       | some o1 =>
         rw [hf] at ev';refine ⟨G,F1,δ1,o1,ok1,hf,?_⟩
         cases o1 with
         | nx δ3=>exact λσ3 H4 F4 s4 k4=>⟨m,by omega,F4,δ3,sA.trans s4,k4,ev'⟩
         | rt d3 δ3 =>
           cases ev'
           exact λv σ3 H4 F4 s4 k4 r4=>post v σ3 H4 F4 (sA.trans s4) k4 r4
         | ro d3 δ3 =>
           cases ev'
           exact λa xs σ3 H4 F4 s4 k4=>post a xs σ3 H4 F4 (sA.trans s4) k4
     | false =>
       refine jq ?_;cases ev';exact post σ' H1 F1 sA ok1
end
section
variable {X:Cx} {c:Ck} {cx:Cl} {k:Nat}
def PX (h:ckE c e z = true):((backTo cp (starEach [z] env)).all (λx=>!x.1) && (backToKw cp (keywordEach [] env)).all (λx=>x.1.isSome)
 && decide (([z]:List aG).length+([]:List ie).length+(if ([]:List ie).isEmpty then 0 else 1) < 30)) = true:=by
 rw [cW (cG h)];rfl
def xv (C:Cok X c cx k) (hx:fu c i x = true) (hl:ap.endLine = cp.line) (hz:ckE c e z = true) (n:(!bY e) = true) (he:PE X z (tE X.K cx e)) :
 PS X (.Expr (.Call (.Attribute (.Name x p1) "append" ap) [z] [] cp) p2) (tS X.K (evS cx (.append i e))):=by
 obtain ⟨n1,n2,n3,n4⟩:=C.name hx;have hs:=cW (cG hz) [] X.env;have hA:PA X [z] (tEs X.K cx (.cons e .nil)):=qI (by simp [npS]) he vf hs;refine PS.imp (pU (FO PySem.F.plainAttrs_list PySem.F.slot_list_append PySem.F.type_list_append ox (iK n1 n2 n3 n4) hA rfl (PX hz) (by simpa using hl) hs rfl)) λE σ H zz=>?_;obtain ⟨G,F,δ,out,ok,ev,post⟩:=zz;simp only [evS] at ev
 cases q:δ[i]? with
 | none=>rw [q] at ev;cases ev
 | some s =>
   rw [q] at ev
   cases s with
   | no=>cases ev
   | fnc _ _=>cases ev
   | val _=>cases ev
   | own ds0 =>
     simp only [ag,aj] at ev;obtain ⟨⟨d,δ1⟩,e1,ev⟩:=ev;dsimp only at ev;obtain ⟨a,xs0,ea,f1,f2,f3,f4⟩:=ok.sl i _ q
     cases q1:δ1[i]? with
     | none=>rw [q1] at ev;cases ev
     | some s1 =>
       rw [q1] at ev
       cases s1 with
       | no=>cases ev
       | fnc _ _=>cases ev
       | val _=>cases ev
       | own ds =>
         dsimp only at ev;split at ev
         . rename_i hz';cases ev;refine ⟨.ref a,ea,.inl ⟨rfl,xs0,.inl (.inl f3)⟩,G,F,δ,[d],δ1,ok,by simp [eH,e1],λvs H1 F1 st sm ok1 r=>?_⟩;obtain ⟨d',ds',v,vs',ed,rfl,rv,rn⟩:=r;cases ed;obtain ⟨_,rfl⟩:=rn;have rv':=eU n rv;obtain ⟨a',xs,ea',g1,g2,g3,g4⟩:=ok1.sl i _ q1;rw [ea] at ea';cases ea';obtain ⟨o1,o2⟩:=ok1.write q1 ea (g4.append (aK.one rv'));exact ⟨a,xs,v,rfl,rfl,g3,by rw [g4.length];exact hz',post σ _ F1 (st.trans o2) o1⟩
         . cases ev
def Pj (X:Cx):V->List V->Hp->VK->Prop:=λx vs H Q=>∃ l b xs zs,x = .ref l/\vs = [.ref b]/\H l = some (.lst xs)/\LsB X.K H b zs/\xs.length+zs.length<=sizeLine/\Q .non (upd H l (.lst (xs++zs)))
def JJ:MtM X "list.extend" (Pj X):=by
 intro pins s σ H x vs v us Q I rx rv h;obtain ⟨l,b,xs,zs,rfl,rfl,hH,hB,hz,q⟩:=h;cases rx;obtain ⟨u,rfl,ru⟩:=rv.one;cases ru;obtain ⟨z,its,n,r,hl,e⟩:=I.lstM hH;obtain ⟨its2,n2,r2,e2,z2⟩:=hB.obj I;have hl2:=r2.length;have s1:its.toArray.size = xs.length:=by rw [aC];lia
 have s2:its2.toArray.size = zs.length:=by rw [aC];lia
 refine Ao F.slot_list_extend ⟨_,e,rfl⟩ F.entry_list_extend (F.args_list_extend_2 _ _) (AutoSeq1.list_extend_list_list_0 l its.toArray n b its2.toArray n2 ?_ (by rw [s1];lia) ∅) ⟨e,e2,?_⟩
 . rw [s1,s2,Gf hz,Bool.and_false];exact ao
 . refine ⟨.non,_,I.lset (its':=its++its2) hH e ↥0 (r.append r2) (by rw [ay];lia),rfl,q⟩
def xt (C:Cok X c cx k) (hx:fu c i x = true) (hl:ap.endLine = cp.line) (hz:ckE c e z = true) (n:(!bY e) = true) (he:PE X z (tE X.K cx e)) :
 PS X (.Expr (.Call (.Attribute (.Name x p1) "extend" ap) [z] [] cp) p2) (tS X.K (evS cx (.extend i e))):=by
 obtain ⟨n1,n2,n3,n4⟩:=C.name hx;have hs:=cW (cG hz) [] X.env;have hA:PA X [z] (tEs X.K cx (.cons e .nil)):=qI (by simp [npS]) he vf hs;refine PS.imp (pU (FO PySem.F.plainAttrs_list PySem.F.slot_list_extend PySem.F.type_list_extend JJ (iK n1 n2 n3 n4) hA rfl (PX hz) (by simpa using hl) hs rfl)) λE σ H zz=>?_;obtain ⟨G,F,δ,out,ok,ev,post⟩:=zz;simp only [evS] at ev
 cases q:δ[i]? with
 | none=>rw [q] at ev;cases ev
 | some s =>
   rw [q] at ev
   cases s with
   | no=>cases ev
   | fnc _ _=>cases ev
   | val _=>cases ev
   | own ds0 =>
     simp only [ag,aj] at ev;obtain ⟨⟨d,δ1⟩,e1,ev⟩:=ev;obtain ⟨a,xs0,ea,f1,f2,f3,f4⟩:=ok.sl i _ q
     cases d with
     | lst ys =>
       dsimp only at ev
       cases q1:δ1[i]? with
       | none=>rw [q1] at ev;cases ev
       | some s1 =>
         rw [q1] at ev
         cases s1 with
         | no=>cases ev
         | fnc _ _=>cases ev
         | val _=>cases ev
         | own ds =>
           dsimp only at ev;split at ev
           . rename_i hz';cases ev;refine ⟨.ref a,ea,.inl ⟨rfl,xs0,.inl (.inl f3)⟩,G,F,δ,[.lst ys],δ1,ok,by simp [eH,e1],λvs H1 F1 st sm ok1 r=>?_⟩;obtain ⟨d',ds',v,vs',ed,rfl,rv,rn⟩:=r;cases ed;obtain ⟨_,rfl⟩:=rn;have rv':=eU n rv;unfold Rel at rv';obtain ⟨b,zs,rfl,rb,rl⟩:=rv';obtain ⟨a',xs,ea',g1,g2,g3,g4⟩:=ok1.sl i _ q1;rw [ea] at ea';cases ea';obtain ⟨o1,o2⟩:=ok1.write q1 ea (g4.append rl);exact ⟨a,b,xs,zs,rfl,rfl,g3,rb.b,by rw [g4.length,rl.length];exact hz',post σ _ F1 (st.trans o2) o1⟩
           . cases ev
     | _=>cases ev
def zB (C:Cok X c cx k) (hx:fu c i x = true) (hy:ckE c e y = true) (n:(!bY e) = true) (nc:(!jU y) = true) (hz:ckE c j z = true) (nj:(!bY j) = true) (he:PE X y (tE X.K cx e)) (hj:PE X z (tE X.K cx j)) :
 PS X (.Assign [.Subscript (.Name x p1) z p2] y pos) (tS X.K (evS cx (.setix i j e))):=by
 obtain ⟨n1,n2,n3,n4⟩:=C.name hx;have nc':jU y = false:=by simpa using nc
 have hh:=cG hz;have hh2:=cG hy
 have ha:∀ v,assign (.Subscript (.Name x p1) z p2) X.env v = (do
  let ov <- holding [v] (eval (.Name x p1) X.env)
  let iv <- holding [v,ov] (eval z X.env)
  standAt p2
  holding [v,ov,iv] (setItem ov iv v)
  release [v,ov,iv] []):=by
  intro v;cases z<;>first | rfl | (exact absurd hh ao)
 have hsw:swapsWithSole [.Subscript (.Name x p1) z p2] y pos.line X.env = pure false:=by
  cases y<;>first | rfl | (exact absurd hh2 ao) | (exact absurd nc'.symm ao)
 have hw:swappedStores [.Subscript (.Name x p1) z p2] y X.env = pure none:=by
  cases y<;>first | rfl | (exact absurd hh2 ao)
 refine PS.imp (FE he (MM (iK n1 n2 n3 n4) hj set_list ha) hsw hw rfl) λE σ H zz=>?_;obtain ⟨G,F,δ,out,ok,ev,post⟩:=zz;simp only [evS,ag,aj] at ev;obtain ⟨⟨d,δ1⟩,e1,ev⟩:=ev;dsimp only at ev;refine ⟨G,F,δ,d,δ1,ok,e1,λv H1 F1 st1 sm1 ok1 r1=>?_⟩
 cases q1:δ1[i]? with
 | none=>rw [q1] at ev;cases ev
 | some s1 =>
   rw [q1] at ev
   cases s1 with
   | no=>cases ev
   | fnc _ _=>cases ev
   | val _=>cases ev
   | own ds0 =>
     obtain ⟨a,xs0,ea,f1,f2,f3,f4⟩:=ok1.sl i _ q1;simp only [aj] at ev;obtain ⟨⟨dj,δ2⟩,e2,ev⟩:=ev;refine ⟨.ref a,ea,G,F1,δ1,dj,δ2,ok1,e2,λw H2 F2 st2 sm2 ok2 r2=>?_⟩
     cases dj with
     | int m =>
       have:=r2.b.int;subst this;dsimp only at ev
       cases q2:δ2[i]? with
       | none=>rw [q2] at ev;cases ev
       | some s2 =>
         rw [q2] at ev
         cases s2 with
         | no=>cases ev
         | fnc _ _=>cases ev
         | val _=>cases ev
         | own ds =>
           dsimp only at ev;obtain ⟨a',xs,ea',g1,g2,g3,g4⟩:=ok2.sl i _ q2;rw [ea] at ea';cases ea'
           cases q3:ixN ds.length m with
           | none=>rw [q3] at ev;cases ev
           | some mm =>
             rw [q3] at ev;cases ev;have rv:=Rel.step ok1.fd st2 d v (eU n r1);obtain ⟨o1,o2⟩:=ok2.write q2 ea (aK.set rv mm g4)
             exact ⟨a,xs,m,mm,rfl,rfl,g3,by rw [g4.length];exact q3,post σ _ F2 ((st1.trans st2).trans o2) o1⟩
     | _=>cases ev
def EU:PS X x (tS X.K (evS cx .bad)):=λpins s σ H D I h=>by
 obtain ⟨G,F,δ,out,ok,ev,post⟩:=h;have ev:none = some out:=ev;cases ev
def QJ (hm:newOk e = true) (C:Cok X c cx k) (h:ckE c e y = true):PE X y (tN X.K cx e):=by
 unfold newOk at hm;split at hm
 . obtain ⟨_,_,rfl,hh⟩:=mX h;rw [aa] at hh;exact Fc hh.2 (fY _ X c _ C hh.1 (iZ hh.2))
 . rename_i es;obtain ⟨_,_,xs,_,rfl,hh⟩:=dH h;simp only [aa] at hh;obtain ⟨⟨h1,h2⟩,h3⟩:=hh;have e1:=of_decide_eq_true h1;subst e1;have h3:(!xs.isEmpty && jC c es xs && sP es) = true:=h3;simp only [aa] at h3
   cases xs with
   | nil=>simp at h3
   | cons y ys=>exact CI C h2 (fY _ X c _ C h3.1.2 h3.2) h3.1.2
 . obtain ⟨_,_,_,rfl,hh⟩:=kI h;obtain ⟨_,_,o,_,rfl,h9⟩:=Bd hh;simp only [aa] at h9;obtain ⟨h0,⟨⟨h1,h2⟩,h3⟩,h4⟩:=h9;obtain rfl:=cU.mp h0;exact IS (by simpa using h4) (dM _ X c _ C h1) (IQ _ X c _ C h2) (IQ _ X c _ C h3)
 . cases hm
end
section
variable {X:Cx} {c:Ck} {cx:Cl} {k:Nat}
def CG (C:Cok X c cx k) (hS:X.env.scope = c.sc) (hB:X.env.blockKind = .function) (ho:(!own) = true)
 (hn:eV c i t = true) (h:ckE c (.comp kk tg src ifs elt) (.ListComp ex gs sc p) = true) (hl:c.sc.names.lookup t = some .cell) (he:PE X (.ListComp ex gs sc p) (tE X.K cx (.comp kk tg src ifs elt))) :
 PS X (.Assign [.Name t tp] (.ListComp ex gs sc p) sp) (tS X.K (evS cx (.cmp own i (.comp kk tg src ifs elt)))):=by
 have hs:swapsWithSole [.Name t tp] (.ListComp ex gs sc p) sp.line X.env = pure false:=by
  have e1:X.env.kindOf t = some .cell:=by
   show X.env.scope.names.lookup t = some .cell;rw [hS];exact hl
  show (pure (X.env.blockKind == .function && X.env.kindOf t == some .local && tp.line == p.line && !(sc.names.any λ(n,k)=>n == t && (k == .local || k == .cell))):Sem Bool) = pure false;rw [hB,e1];congr 1
 have ht:we c (.nm i) (.Name t tp) = true:=by
  unfold we cH;exact Bool.and_eq_true_iff.mpr ⟨rfl,hn⟩
 refine PS.imp (xu (tg:=.nm i) C (.inl rfl) ht h rfl hs he) λD σ H hq=>?_;obtain ⟨G,F,δ,o,ok,ev,post⟩:=hq;refine ⟨G,F,δ,o,ok,?_,post⟩;obtain rfl:own = false:=by simpa using ho
 simp only [evS,ag,aj] at ev |-;obtain ⟨⟨d,δ1⟩,e1,ev⟩:=ev
 cases d with
 | lst ds =>
   dsimp only at ev;split at ev
   . rename_i hi;cases ev;refine ⟨_,e1,_,?_,rfl⟩;exact if_pos hi
   . cases ev
 | _=>cases ev
def ET (C:Cok X c cx k) (hS:X.env.scope = c.sc) (hB:X.env.blockKind = .function)
 (hn:eV c i t = true) (h:ckE c (.comp kk tg src ifs elt) (.ListComp ex gs sc p) = true) (hl:c.sc.names.lookup t = some .local) (hp:tp.line = p.line) (hz:(!(sc.names.any λ(n,k)=>n == t && (k == .local || k == .cell))) = true) :
 PS X (.Assign [.Name t tp] (.ListComp ex gs sc p) sp) (tS X.K (evS cx (.cmp own i (.comp kk tg src ifs elt)))):=by
 obtain ⟨n1,n2,n3⟩:=C.to hn;obtain ⟨_,_,_,_,e,hh⟩:=pV h;cases e;obtain ⟨_,rfl,h9⟩:=cT hh;obtain ⟨tgt,it,il,rfl,h10⟩:=FU h9;replace h:=h10
 . split at h
   . rename_i ts ht;simp only [aa] at h;obtain ⟨⟨⟨⟨⟨⟨⟨⟨h1,h2⟩,h3⟩,h4⟩,h5⟩,h6⟩,h7⟩,h8⟩,h9⟩:=h;obtain ⟨nd,hvis⟩:=ou h4;have hk:=oX (tg:=tg) (c:=c) (of_decide_eq_true h1)
     have hsw:swapsWith (.ListComp ex [⟨tgt,it,il,0⟩] sc p) (some (.Name t tp)) sp.line X.env = pure true:=by
      have e1:X.env.kindOf t = some .local:=by
       show X.env.scope.names.lookup t = some .local;rw [hS];exact hl
      show (pure (X.env.blockKind == .function && X.env.kindOf t == some .local && tp.line == p.line && !(sc.names.any λ(n,k)=>n == t && (k == .local || k == .cell))):Sem Bool) = pure true;rw [hB,e1,hp,hz];congr 1;simp
     intro pins s σ H E I hq
     refine FA (Nc:=rH ts c.N++ts) (te:=tE X.K cx elt) (tt:=tG X.K cx ifs) (g:=gTg X.K tg) C.xe C.calm (qM C h3) (λi x hi=>by rw [C.hN] at hi |-;exact hvis i x hi) (by rw [C.hN,hk];lia) (Mm src X c _ _ C h6)
      (λcl Ca s H fp=>vd (iD C h3 nd cl Ca s H fp) h5) (λcl Ca s H fp=>Pa ifs _ _ _ (iD C h3 nd cl Ca s H fp) h7) (λcl Ca s H fp=>dM elt _ _ _ (iD C h3 nd cl Ca s H fp) h8) (λv=>wj h6 _ v)
      C.nd' n1 n2 n3 hsw pins s σ H E I ?_
     obtain ⟨G,F,δ,o,ok,ev,post⟩:=hq;simp only [evS,ag,aj] at ev;obtain ⟨⟨d,δ1⟩,e1,ev⟩:=ev
     cases d with
     | lst ds =>
       dsimp only at ev;split at ev
       . rename_i hi;cases ev;refine yy C I h9 hk h2 ok e1 λp ys xs H1 F1 H2 F2 e st1 st2 hp hg ok2 eD rl sm=>?_;cases e;show E.nx (σ.set i (some (.ref p))) H2
         cases own with
         | true =>
           refine post _ H2 F2 (st1.trans st2) ((ok2.keep).own hi (ok2.rf p (.inr rfl)) hg eD rl λj s ej ho z=>?_);obtain ⟨a,u,d,e2,_,g2,_⟩:=fD.ow (ok2.sl j _ ej) ho;rw [z] at e2;cases e2
           exact g2.2 (.inr rfl)
         | false =>
           have st':Step G F1 H1 (λb=>F2 b/\b≠p) H2:=⟨st2.keep,λb z=>st2.grow b z.1,λb o r f e=>by
            obtain ⟨a1,a2⟩:=st2.res b o r f e;exact ⟨⟨a1,λw=>by rw [w,hp] at e;cases e⟩,a2⟩,st2.tb⟩
           refine post _ H2 _ (st1.trans st') ((ok2.leave hg).set hi ?_);unfold Rel;exact ⟨p,xs,rfl,.inl ⟨.inl eD,λz=>z.2 rfl⟩,aK.less ok2.fd (λb z=>z.1) rl⟩
       . cases ev
     | _=>cases ev
   . cases h
end
section
variable {X:Cx} {c:Ck} {cx:Cl} {k:Nat} (C:Cok X c cx k) (hS:X.env.scope = c.sc) (hB:X.env.blockKind = .function)
include C hS hB
mutual
theorem IM:∀ (s:S) (x:bD),ckS c s x = true->PS X x (tS X.K (evS cx s))
 | .asg tg e,x,h=>by
   obtain ⟨_,_,_,rfl,hq1⟩:=iL h;obtain ⟨_,rfl,hq2⟩:=cT hq1;replace h:=hq2
   . simp only [aa] at h;obtain ⟨⟨⟨⟨h1,h2⟩,h3⟩,h4⟩,h5⟩:=h
     exact xu C (.inl h5) h1 h2 h3 (jW (cG h2) (by simpa using h4) _ _ _) (dM e X c _ C h2)
 | .new i e,x,h=>by
   obtain ⟨_,_,_,rfl,hq1⟩:=iL h;obtain ⟨_,rfl,hq2⟩:=cT hq1;obtain ⟨_,_,rfl,hq3⟩:=bC hq2;replace h:=hq3
   . simp only [aa] at h;obtain ⟨⟨⟨h1,h2⟩,h3⟩,h4⟩:=h
     exact EO C h1 h2 h3 (QJ h4 C h2)
 | .cmp own i e,x,h=>by
   have h:(GI e && _) = true:=h;rw [aa] at h;obtain ⟨h0,h⟩:=h;cases e<;>first | (cases h0;done) | skip
   obtain ⟨_,_,_,rfl,hh⟩:=iL h;obtain ⟨_,rfl,h2⟩:=cT hh;obtain ⟨_,_,rfl,h3⟩:=JB h2;obtain ⟨_,_,_,_,rfl,h4⟩:=pV h3;simp only [aa] at h4;obtain ⟨⟨a1,a2⟩,a3⟩:=h4;rcases iS.mp a3 with a3 | a3
   . simp only [aa] at a3;exact ET C hS hB a1 a2 (of_decide_eq_true a3.1.1) (of_decide_eq_true a3.1.2) a3.2
   . rw [aa] at a3
     exact CG C hS hB a3.1 a1 a2 (of_decide_eq_true a3.2) (dM _ X c _ C a2)
 | .aug i op e,x,h=>by
   obtain ⟨_,_,_,_,rfl,hq1⟩:=Ga h;obtain ⟨_,_,rfl,hq2⟩:=bC hq1;replace h:=hq2
   . simp only [aa] at h;obtain ⟨⟨⟨h1,h2⟩,h3⟩,h4⟩:=h
     exact EV C h1 h2 h4 (dM e X c _ C h3)
 | .ret e,x,h=>by
   obtain ⟨_,_,rfl,hq1⟩:=rh h;obtain ⟨_,rfl,hq2⟩:=oo hq1;replace h:=hq2
   . rw [aa] at h
     exact EN h.2 (dM e X c _ C h.1)
 | .ifs t a b,x,h=>by
   obtain ⟨_,_,_,_,rfl,hq1⟩:=rk h;replace h:=hq1
   . simp only [aa] at h
     exact ER (mf t X c _ C h.1.1) (tY a _ h.1.2) (tY b _ h.2)
 | .for_ tg src body,x,h=>by
   obtain ⟨_,_,_,_,_,rfl,hq1⟩:=FV h;obtain ⟨rfl,hq2⟩:=eE hq1;replace h:=hq2
   . simp only [aa] at h
     exact ES C h.1.1 (Mm src X c _ _ C h.1.2) (λv=>wj h.1.2 _ v) (tY body _ h.2)
 | .while_ t body,x,h=>by
   obtain ⟨_,_,_,_,rfl,hq1⟩:=Bc h;obtain ⟨rfl,hq2⟩:=eE hq1;replace h:=hq2
   . rw [aa] at h
     exact zA C (mf t X c _ C h.1) (tY body _ h.2)
 | .append i e,x,h=>by
   obtain ⟨_,_,rfl,hh⟩:=pW h;obtain ⟨_,_,_,_,_,rfl,hln,h2⟩:=zQ hh;obtain ⟨_,_,rfl,h3⟩:=bC h2;obtain ⟨_,rfl,h4⟩:=cT h3;simp only [aa] at h4;obtain ⟨⟨⟨a1,a2⟩,a3⟩,a4⟩:=h4;have z:=of_decide_eq_true a1;subst z
   exact xv C a2 hln a3 a4 (dM e X c _ C a3)
 | .extend i e,x,h=>by
   obtain ⟨_,_,rfl,hh⟩:=pW h;obtain ⟨_,_,_,_,_,rfl,hln,h2⟩:=zQ hh;obtain ⟨_,_,rfl,h3⟩:=bC h2;obtain ⟨_,rfl,h4⟩:=cT h3;simp only [aa] at h4;obtain ⟨⟨⟨a1,a2⟩,a3⟩,a4⟩:=h4;have z:=of_decide_eq_true a1;subst z
   exact xt C a2 hln a3 a4 (dM e X c _ C a3)
 | .setix i j e,x,h=>by
   obtain ⟨_,_,_,rfl,hq1⟩:=iL h;obtain ⟨_,rfl,hq2⟩:=cT hq1;obtain ⟨_,_,_,rfl,hq3⟩:=kI hq2;obtain ⟨_,_,rfl,hq4⟩:=bC hq3;replace h:=hq4
   . simp only [aa] at h;obtain ⟨⟨⟨⟨⟨h1,h2⟩,h3⟩,h4⟩,h5⟩,h6⟩:=h
     exact zB C h1 h2 h3 h4 h5 h6 (dM e X c _ C h2) (dM j X c _ C h5)
 | .opq _,x,h=>nomatch (h:false = true)
 | .bad,x,h=>EU
theorem tY:∀ (ss:Ss) (xs:List bD),wg c ss xs = true->PSs X xs (tS X.K (dD cx ss))
 | .nil,xs,h=>by
   obtain ⟨rfl,hq1⟩:=eE h;replace h:=hq1
   . exact xo
 | .cons s ss,xs,h=>by
   obtain ⟨_,_,rfl,hq1⟩:=dk h;replace h:=hq1
   . rw [aa] at h;exact og (IM s _ h.1) (tY ss _ h.2)
end
end
end PP
end
section
namespace L2
open PySem PySem.Spec PyProof.Rows
def less (h:bG) (l:List aq):bG:=⟨h.objs.mapIdx λi o=>if i∈l then { o with data:=.freed } else o,h.life⟩
def ja {h:bG} {l:List aq} {b:aq} (hb:b∈l):(less h l).get? b = none:=by
 unfold less Heap.get?;simp only [yU]
 cases h.objs[b]? with
 | none=>rfl
 | some o=>simp [hb]
def nh (hb:b∉l):(less h l).get? b = h.get? b:=by
 unfold less Heap.get?;simp only [yU]
 cases h.objs[b]? with
 | none=>rfl
 | some o=>simp [hb]
def mw {h:bG} {l:List aq}:(less h l).StaysIn h:=λb o e=>by
 by_cases hb:b∈l
 . rw [ja hb] at e;cases e
 . rwa [nh hb] at e
def qb {h base base':bG}:∀ {l:List Env},h.FunFrames base l->(∀ b∈frs l,base'.get? b = none)->h.FunFrames base' l
 | [],_,_=>trivial
 | env::r,⟨hk,⟨L,o,hf,hn,ho,hd⟩,hr⟩,k=>by
   have hL:L∈frs (env::r):=by unfold frs;rw [cb,hf];exact au
   exact ⟨hk,⟨L,o,hf,k L hL,ho,hd⟩,qb hr λb hb=>k b (by unfold frs at *;rw [cb,hf];exact ar _ hb)⟩
section
variable {P:aO} {w:aZ} {H:Hp} {h:bG} {a:aq} {o:HO}
def gH.there (x:gH P w H h a o):∃ u,h.get? a = some u:=by
 cases o with
 | lst xs=>obtain ⟨_,_,_,_,e⟩:=x;exact ⟨_,e⟩
 | tup xs=>obtain ⟨_,_,_,_,e,_⟩:=x;exact ⟨_,e⟩
 | own y=>exact x
 | frz ob u=>obtain ⟨e,_⟩:=x;exact ⟨_,e⟩
 | tbl ps=>exact ⟨_,show h.get? a = some _ from x⟩
 | ext φ=>obtain ⟨_,e,_⟩:=x;exact e
def HOk.gone (x:HOk P w H h) (e:h.get? a = none):H a = none:=by
 cases q:H a with
 | none=>rfl
 | some u=>obtain ⟨_,z⟩:=(x a u q).there;rw [e] at z;cases z
end
structure Fly (h0:bG) (H:Hp) (e:aq) (cls:af) (h:bG):Prop where
 new:h0.get? e = none
 fre:H e = none
 tr:∃ oe vs a0 T oT ts,h.get? e = some oe/\(oe.cls = cls/\vs[0]? = some a0)/\oe.data = .fields vs/\vs[1]? = some (.ref T)/\(h0.get? T = none/\H T = none)/\T≠e/\h.get? T = some oT/\oT.data = .fields ts/\ts[3]? = some .none
def CXE (P:aO) (w:aZ):CXT:=λouter H s E e s'=>∃ a cls H',e = .ref a/\Fly s.heap H' a cls s'.heap/\Un (frs outer) [] H H' s.heap s'.heap/\HOk P w H' s'.heap/\s'.os = s.os/\kB s'.gens/\E cls none H'
def Bl (I:Inv X pins σ H s) (hex:X.ex = []) (hst:X.stack = X.env::X.outer) (hfr:X.env.frame = some X.env.locals)
 (ne:X.s₀.heap.get? e = none) (nT:X.s₀.heap.get? T = none) (fe:H e = none) (fT:H T = none)
 (fl:Heap.FlyingW (less s.heap (e::T::frs X.stack)) X.outer e cls a0 h') (sm:s.heap.UpToSlots h') :
 Fly X.s₀.heap H e cls h'/\Un (frs X.outer) [] X.H₀ H X.s₀.heap h'/\HOk X.prog X.w H h':=by
 obtain ⟨stay,ne',ff,oe,vs,T',oT,ts,he,hc,hd,h1,nT',hTe,hT,hdT,h3⟩:=fl
 have out:∀ b o,s.heap.get? b = some o->b≠e->b≠T->b∉frs X.stack->h'.get? b = some o:=λb o q n1 n2 n3=>by
  refine stay b o ?_;rw [nh (by simp [n1,n2,n3])];exact q
 have ins:∀ b o,s.heap.get? b = some o->b∈frs X.stack->∃ sl,h'.get? b = some { o with slots:=sl }:=λb o q hb=>by
  obtain ⟨_,o',ho',nf⟩:=I.stack.mem hb;rw [q] at ho';cases ho';exact sm b o q nf
 have gone:∀ b,s.heap.get? b = none->X.s₀.heap.get? b = none:=λb q=>by
  cases z:X.s₀.heap.get? b with
  | none=>rfl
  | some o =>
    obtain ⟨o',q'⟩:=I.base.there b o z (by rw [hex];simp);rw [q] at q';cases q'
 have hL0:X.s₀.heap.get? X.env.locals = none:=BX I.ok.above
 have hstk:∀ b,b∈frs X.stack->b = X.env.locals\/b∈frs X.outer:=λb hb=>by
  rw [hst] at hb;unfold frs at hb;rw [cb,hfr] at hb;exact aB.mp hb
 have hsub:∀ b,b∈frs X.outer->b∈frs X.stack:=λb hb=>by
  rw [hst];unfold frs;rw [cb,hfr];exact ar _ hb
 have nT2:X.s₀.heap.get? T' = none/\H T' = none:=by
  by_cases hm:T'∈e::T::frs X.stack
  . rcases aB.mp hm with q | hm
    . exact absurd q hTe
    . rcases aB.mp hm with q | hm
      . rw [q];exact ⟨nT,fT⟩
      . obtain ⟨_,o',ho',nf⟩:=I.stack.mem hm;obtain ⟨sl,z⟩:=ins T' o' ho' hm;rw [hT] at z;cases z;exact absurd hdT (nf ts)
  . rw [nh hm] at nT';exact ⟨gone _ nT',I.hok.gone nT'⟩
 refine ⟨⟨ne,fe,oe,vs,a0,T',oT,ts,he,hc,hd,h1,nT2,hTe,hT,hdT,h3⟩,⟨λb o q n hb _=>?_,λb o q n hb _=>?_,λb o q n _=>?_,λb o q _=>?_,I.base.tups,I.base.frzs,I.base.tbls⟩,λb o q=>?_⟩
 . refine out b o (I.base.keep b o q n hb (by rw [hex];simp)) ?_ ?_ λz=>?_
   . rintro rfl;rw [ne] at q;cases q
   . rintro rfl;rw [nT] at q;cases q
   . rcases hstk b z with z | z
     . rw [z,hL0] at q;cases q
     . exact hb z
 . obtain ⟨sl,z⟩:=I.base.slot b o q n hb (by rw [hex];simp);obtain ⟨sl2,z2⟩:=ins b _ z (hsub b hb);exact ⟨sl2,z2⟩
 . exact I.base.free b o q n (by rw [hex];simp)
 . obtain ⟨o',z⟩:=I.base.there b o q (by rw [hex];simp);by_cases hb:b∈frs X.stack
   . obtain ⟨sl,z'⟩:=ins b o' z hb;exact ⟨_,z'⟩
   . refine ⟨o',out b o' z ?_ ?_ hb⟩
     . rintro rfl;rw [ne] at q;cases q
     . rintro rfl;rw [nT] at q;cases q
 . refine (I.hok b o q).stay (λc u hc z=>out c u z ?_ ?_ ?_) (λ_ z=>z) λ_ _ z=>z
   all_goals have hH:∃ v,H c = some v:=hc.elim (λz=>⟨o,by rw [z];exact q⟩) λz=>⟨_,z⟩
   . rintro rfl;obtain ⟨v,z2⟩:=hH;rw [fe] at z2;cases z2
   . rintro rfl;obtain ⟨v,z2⟩:=hH;rw [fT] at z2;cases z2
   . intro z3;obtain ⟨v,z2⟩:=hH;rw [I.stkFree c z3] at z2;cases z2
section
variable {P:aO} {w:aZ} {K:PySem.W.Frag} {mg:Str->Option af} {base:bG} {N:List Str} {qual:Str} {scope:eX} {f:aq} {cd:af} {A:aR} {outer:List Env} {s₀:ah} {H₀:Hp} {E:XK} {pins:List (aq × Obj)} {σ:St} {H:Hp} {s:ah}
def KQ:Passes (CXE P w) (ka (CXE P w) P w K mg base N qual scope f cd A outer s₀ H₀ E) E:=λpins σ H s e s' I h=>by
 obtain ⟨a,cls,H',rfl,fly,un,hok,os,bare,q⟩:=h;obtain ⟨hh,g,d,t,os'⟩:=s';obtain rfl:os' = s.os:=os;have I2:=I.call (h':=hh) (g':=g) (d':=d) (t':=t) (ch:=[]) un hok bare (λb z=>absurd z ↥0)
 have gone:∀ b,s.heap.get? b = none->s₀.heap.get? b = none:=λb q=>by
  cases z:s₀.heap.get? b with
  | none=>rfl
  | some o =>
    obtain ⟨o',q'⟩:=I.base.there b o z (show b∉([]:List aq) by simp);rw [q] at q';cases q'
 obtain ⟨oe,vs,a0,T,oT,ts,he,hc,hd,h1,⟨nT,fT⟩,hTe,hT,hdT,h3⟩:=fly.tr;show wpAny (model P w) _ (leaving _ (.ref a)) _ _ _;refine wpAny_leaves_onW (base:=less hh (a::T::frs (ka (CXE P w) P w K mg base N qual scope f cd A outer s₀ H₀ E).stack)) I.ok.frames rfl ⟨mw,ja au,qb I2.stack λb hb=>ja (ar _ (ar _ hb)),oe,vs,T,oT,ts,he,hc,hd,h1,ja (ar _ au),hTe,hT,hdT,h3⟩ λh' fl sm=>?_;obtain ⟨z1,z2,z3⟩:=Bl I2 rfl rfl rfl (gone a fly.new) (gone T nT) fly.fre fT fl sm;exact ⟨a,cls,H',rfl,z1,z2,z3,I2.os,I2.bare,q⟩
def Py {e:aq} {cls:af} {vs:List af} {h':bG} (I:Inv (ka (CXE P w) P w K mg base N qual scope f cd A outer s₀ H₀ E) pins σ H s) (hx:Heap.MadeExcOf s.heap h' e cls vs) (q:E cls none H) :
 (ka (CXE P w) P w K mg base N qual scope f cd A outer s₀ H₀ E).xe (.ref e) { s with heap:=h' }:=by
 have gone:∀ b,s.heap.get? b = none->s₀.heap.get? b = none:=λb q=>by
  cases z:s₀.heap.get? b with
  | none=>rfl
  | some o =>
    obtain ⟨o',q'⟩:=I.base.there b o z (show b∉([]:List aq) by simp);rw [q] at q';cases q'
 show wpAny (model P w) _ (leaving _ (.ref e)) _ _ _;refine wpAny_leaves_madeW (base:=less s.heap (e::e::frs (ka (CXE P w) P w K mg base N qual scope f cd A outer s₀ H₀ E).stack)) (h:=s.heap) I.ok.frames rfl mw (qb I.stack λb hb=>ja (ar _ (ar _ hb))) hx λh'' t fl _ _ sm=>?_;obtain ⟨z1,z2,z3⟩:=Bl I rfl rfl rfl (gone e hx.new) (gone e hx.new) (I.hok.gone hx.new) (I.hok.gone hx.new) fl ((Heap.UpToSlots.of_keeps hx.keeps).trans sm);exact ⟨e,cls,H,rfl,z1,z2,z3,I.os,I.bare,q⟩
end
def uL (X:Cx) (E:St->XK):Prop:=∀ (pins:List (aq × Obj)) (σ:St) (H:Hp) (s:ah) (e:af) (s':ah),Inv X pins σ H s->CXE X.prog X.w X.stack H s (E σ) e s'->X.xe e s'
structure Rz (X:Cx) (E:St->XK):Prop where
 pass:uL X E
 made:∀ (pins:List (aq × Obj)) (σ:St) (H:Hp) (s:ah) (e:aq) (cls:af) (vs:List af) (h':bG),Inv X pins σ H s->Heap.MadeExcOf s.heap h' e cls vs->E σ cls none H->X.xe (.ref e) { s with heap:=h' }
def Pc {P:aO} {w:aZ} {K:PySem.W.Frag} {mg:Str->Option af} {base:bG} {N:List Str} {qual:Str} {scope:eX} {f:aq} {cd:af} {A:aR} {outer:List Env} {s₀:ah} {H₀:Hp} {E:XK} :
 Rz (ka (CXE P w) P w K mg base N qual scope f cd A outer s₀ H₀ E) (λ_=>E):=⟨KQ,λ_ _ _ _ _ _ _ _ I hx q=>Py I hx q⟩
def KL:Rz X (λ_=>E0):=⟨λ_ _ _ _ _ _ _ h=>by obtain ⟨_,_,_,_,_,_,_,_,_,q⟩:=h;exact q.elim,λ_ _ _ _ _ _ _ _ _ _ q=>q.elim⟩
def veB:List af:=[.type "ValueError",.type "Exception",.type "BaseException",.type "object"]
def VE (K:PySem.W.Frag) (C:aq):Bool:=PySem.W.excIn K C veB "ValueError.__new__"
def kD {K:PySem.W.Frag} {h:bG} {C:aq} (X:K.In h) (q:VE K C = true):∃ bm N nm qn bs hdct sn sub ab col dd k0 k1 k2 k3 k5 mN,h.get? C = some (excClassObj nm qn C N bs bm hdct sn sub ab col dd k0 k1 k2 k3 k5 "ValueError.__new__")/\h.Ns N mN/\mN "__init__" = none/\tD h veB bm:=by
 unfold VE PySem.W.excIn at q;split at q
 . rename_i dd cd sl ho;split at q
   . rename_i C' bm k0 k1 k2 k3 n k5 hm hs;simp only [aa,beq_iff_eq,pE] at q;obtain ⟨⟨⟨⟨⟨rfl,rfl⟩,hdel⟩,ht⟩,hok⟩,hni⟩:=q;obtain ⟨nm,bs,mro,ns,qn,hd,sn,sub,ab,col,del⟩:=cd;dsimp only at hm hdel hok hni;subst hm hdel
     have hsl:sl = #[k0,k1,k2,k3,some (.builtin "ValueError.__new__"),k5]:=by
      obtain ⟨l⟩:=sl;simp only at hs;rw [hs]
     subst hsl;exact ⟨bm,ns,nm,qn,bs,hd,sn,sub,ab,col,dd,k0,k1,k2,k3,k5,_,X _ _ ho,.of_isNs (PySem.W.isNs_of_in X hok),PySem.W.nsMap_none_of_in X hok hni,PySem.W.tail_of_in X ht⟩
   . cases q
 . cases q
def Fx {X:Cx} {E:St->XK} {x t:Str} {C:aq} {np cp j2 pos:Pos} {j:Nat} (R:Rz X E) (hc:X.calm = true) (hg:Gl X x) (hm:X.mg x = some (.ref C)) (hC:VE X.K C = true) (hd:(x == ("__debug__":Str)) = false) :
 PS X (.Raise (some (.Call (.Name x np) [.Constant (.str t) j j2] [] cp)) none pos) (λ_ σ H=>E σ (.ref C) none H):=by
 intro pins s σ H D I h;obtain ⟨tl,N,nm,q,bs,hdct,sn,sub,ab,col,dd,k0,k1,k2,k3,k5,mN,hC,hN,hni,T⟩:=kD I.mod.kin hC
 refine wpAny_Raise_call_subT (C:=C) (nm:=nm) (q:=q) (N:=N) (bs:=bs) (bm:=tl) (hdct:=hdct) (sn:=sn) (sub:=sub) (ab:=ab) (col:=col) (dd:=dd) (k0:=k0) (k1:=k1) (k2:=k2) (k3:=k3) (k5:=k5)
  PySem.F.excBase_ValueError (mN:=mN) (T.hasType PySem.F.excBase_ValueError.hasBase) (I.ok.hd hc) rfl hni (jT I hg hm ⟨rfl,?_⟩ hd)
 have ha:PA X [.Constant (.str t) j j2] (kE (tC (.str t)) xg):=eZ zL ia;refine Au (thn (ha cp pins s σ H (λvs H1=>vs.length = 1/\H1 = H) I ⟨rfl,rfl⟩) λus s2 ⟨vs,H2,I2,r,hl,hH⟩=>?_);refine ⟨rfl,?_,I2.bk _ _ hC,hN.keeps I2.bk,T.keeps I2.bk,λh' e hx=>R.made pins σ H2 s2 e _ _ h' I2 hx (by rw [hH];exact h)⟩;show us.length<=sizeLine;rw [<- r.length,hl];decide
section
variable {X:Cx}
def PA.nox {es:List aG} {t:TA} (h:PA X.nox es t):PA X es t:=λpos pins s σ H Q I hw =>
 cP (h pos pins s σ H Q (I.wish _) hw) (λ_ _ ⟨v,H',I',r,q⟩=>⟨v,H',I'.unwish,r,q⟩) λ_ _ z=>bS z
def PS.nox {st:bD} {t:TS} (h:PS X.nox st t):PS X st t:=λpins s σ H D I hw =>
 cP (h pins s σ H D (I.wish _) hw) (λ_ _ q=>q.unwish) λ_ _ z=>bS z
def PS.or {st:bD} {t u:TS} (h:PS X st t) (h':PS X st u):PS X st (λD σ H=>t D σ H\/u D σ H):=λpins s σ H D I hw=>hw.elim (h pins s σ H D I) (h' pins s σ H D I)
def FN {E:St->XK} (R:uL X E) (F:gM X.prog X.w X.K X.mg X.base (CXE X.prog X.w) k f fd ps sp) (hr:kv k X.A) (hg:Gl X x) (hm:X.mg x = some (.ref f)) (hk:PySem.W.keepIn X.K (.ref f) = true) (hb:Binds X.K fd ps [])
 (ha:PA X (e::es) t) (hdb:(x == ("__debug__":Str)) = false) (he:starEach (e::es) X.env = (false,eval e X.env)::starEach es X.env) (hpl:(backTo pos (starEach es X.env)).any (·.1) = false) :
 PE X (.Call (.Name x p) (e::es) [] pos) (λσ H Q=>t σ H λvs H1=>sp vs H1 Q (E σ)):=by
 intro pins s σ H Q I h;refine fy (jT I hg hm ?_ hdb);refine PySem.W.callWith_K (h₀:=X.base) I.ok.mod.kin hk (thn (ha pos pins s σ H _ I h) λus s1 ⟨vs,H1,I1,r,q⟩=>⟨I1.kIn,?_⟩) he hpl;have hl:us.length = ps.length:=by rw [<- r.length];exact F.len _ _ _ _ q
 have hb2:=hb s1 us I1.kIn (by rw [bw];exact hl);rw [bw] at hb2;refine Am (jE (F.run X.A X.stack s1 H1 ⟨us,[]⟩ us vs Q (E σ) hr I1.env0 hb2 r q) λr s' hq=>?_)
 cases r with
 | error e=>exact R pins σ H1 s1 e s' I1 hq
 | ok fl =>
   cases fl with
   | ret u=>exact I1.after hq
   | next=>exact bS hq
   | brk=>exact bS hq
   | cont=>exact bS hq
end
section
variable {M:Model} {A:aR} {E:af->ah->Prop}
variable {nm q nm' q':Str} {C N C' N':aq} {bs bm bs' bm':List af} {hdct hdct':Bool} {sn sn':List Str} {sub sub':List af} {ab ab':Bool} {col col':Option Bool} {dd dd':Option aq} {k0 k1 k2 k3 k5 l0 l1 l2 l3 l5:Option af} {newId newId':String}
def Dc {h:bG} {g:Array gG} {d:Drawn} {t:Nat} {os:OF} {e:aq} {oe:Obj} {Q:Bool->ah->Prop}
 (hC:h.get? C = some (excClassObj nm q C N bs bm hdct sn sub ab col dd k0 k1 k2 k3 k5 newId)) (hP:h.get? C' = some (excClassObj nm' q' C' N' bs' bm' hdct' sn' sub' ab' col' dd' l0 l1 l2 l3 l5 newId'))
 (he:h.get? e = some oe) (hcls:oe.cls = .ref C) (hbase:bm'.contains (.type "BaseException") = true)
 (hq:Q ((bj C::bm).contains (.ref C')) ⟨h,g,d,t,os⟩):wpAny M A (excMatches (.ref e) (.ref C')) Q E ⟨h,g,d,t,os⟩:=by
 have hcB:(bj C'::bm').contains (.type "BaseException") = true:=by rw [gu,hbase,Bool.or_true]
 have f:=tc_notTuple;unfold excMatches
 repeat (first | (with_reducible refine bM he ?_;rw [hcls]) | with_reducible refine bM hP ?_ | (with_reducible refine dI hP ?_;rw [hcB]) | (with_reducible refine dI hC ?_) | wp_step)
 cases hb:(bj C::bm).contains (.ref C')<;>(rw [hb] at hq;wp_walk;exact hq)
end
section
variable {X:Cx} {pins:List (aq × Obj)} {σ:St} {H:Hp} {s:ah} {h':bG}
def Inv.over {l:List aq} {t':Nat} (I:Inv X pins σ H s) (hex:X.ex = []) (hl:∀ b∈l,X.s₀.heap.get? b = none/\b≠X.env.locals/\(∀ x c,X.env.cells.lookup x = some c->c≠b)/\∀ p∈X.pn++pins,p.1≠b)
 (keep:∀ b o,b∉frs X.stack->b∉l->s.heap.get? b = some o->h'.get? b = some o) (slot:∀ b o,b∈frs X.stack->s.heap.get? b = some o->∃ sl,h'.get? b = some { o with slots:=sl }) (hok:HOk X.prog X.w H h') :
 Inv X pins σ H { s with heap:=h',toks:=t' }:=by
 have any:∀ b o,b∉l->s.heap.get? b = some o->∃ sl,h'.get? b = some { o with slots:=sl }:=λb o n e=>by
  by_cases hb:b∈frs X.stack
  . exact slot b o hb e
  . exact ⟨o.slots,keep b o hb n e⟩
 have nl:∀ b o,X.s₀.heap.get? b = some o->b∉l:=λb o e z=>by rw [(hl b z).1] at e;cases e
 have nL:∀ b o,X.s₀.heap.get? b = some o->b≠X.env.locals:=λb o e=>aH (aY (az e) I.ok.above);have ni:∀ b,b∉X.ex:=λb=>by rw [hex];simp
 have nst:∀ b,b≠X.env.locals->b∉X.fs->b∉frs X.stack:=λb h1 h2 z=>(aB.mp (I.stkSub b z)).elim h1 h2;have nlc:X.env.locals∉l:=λz=>(hl _ z).2.1 rfl
 have cellK:∀ x c,X.env.cells.lookup x = some c->∀ v,s.heap.IsCell c v->h'.IsCell c v:=λx c e v zz=>by
  obtain ⟨o,ho,hd⟩:=zz;obtain ⟨sl,q⟩:=any c o (λz=>(hl c z).2.2.1 x c e rfl) ho;exact ⟨_,q,hd⟩
 refine ⟨I.ok,I.os,I.bare,⟨λb o e n hb hx=>?_,λb o e n hb hx=>?_,λb o e n hx=>I.base.free b o e n hx,λb o e hx=>?_,I.base.tups,I.base.frzs,I.base.tbls⟩,?_,λx c e=>?_,I.free,I.freeC,λp hp=>?_,hok,I.len⟩
 . exact keep b o (nst b (nL b o e) hb) (nl b o e) (I.base.keep b o e n hb hx)
 . obtain ⟨sl,q⟩:=I.base.slot b o e n hb hx;obtain ⟨sl2,q2⟩:=any b _ (nl b o e) q;exact ⟨sl2,q2⟩
 . obtain ⟨o',q⟩:=I.base.there b o e hx;obtain ⟨sl2,q2⟩:=any b _ (nl b o e) q;exact ⟨_,q2⟩
 . obtain ⟨m,⟨o,es,ep,ho,r⟩,hv⟩:=I.loc;obtain ⟨sl,q⟩:=any _ o nlc ho;refine ⟨m,⟨_,es,ep,q,r⟩,λi x v e1 e2 e3=>?_⟩;obtain ⟨u,rv,lk⟩:=hv i x v e1 e2 e3;refine ⟨u,rv,?_⟩;rcases lk with lk | ⟨k,c,e,z⟩
   . exact .inl lk
   . exact .inr ⟨k,c,e,cellK x c e _ z⟩
 . obtain ⟨v,z⟩:=I.cell x c e;exact ⟨v,cellK x c e v z⟩
 . obtain ⟨e,n,ne,nf,d⟩:=I.pin p hp;exact ⟨keep p.1 p.2 (nst p.1 ne nf) (λz=>(hl p.1 z).2.2.2 p hp rfl) e,n,ne,nf,d⟩
def Inv.fly {e T:aq} {t':Nat} (I:Inv X pins σ H s) (hex:X.ex = []) (fe:H e = none) (fT:H T = none)
 (hl:∀ b∈[e,T],X.s₀.heap.get? b = none/\b≠X.env.locals/\(∀ x c,X.env.cells.lookup x = some c->c≠b)/\∀ p∈X.pn++pins,p.1≠b)
 (stay:(less s.heap (e::T::frs X.stack)).StaysIn h') (sm:s.heap.UpToSlots h'):Inv X pins σ H { s with heap:=h',toks:=t' }:=by
 have keep:∀ b o,b∉frs X.stack->b∉[e,T]->s.heap.get? b = some o->h'.get? b = some o:=λb o n1 n2 q=>by
  refine stay b o ?_;rw [nh]
  . exact q
  . intro z;rcases aB.mp z with z | z
    . exact n2 (by rw [z];simp)
    . rcases aB.mp z with z | z
      . exact n2 (by rw [z];simp)
      . exact n1 z
 refine I.over hex hl keep (λb o hb q=>?_) λb o q=>?_
 . obtain ⟨_,o',ho',nf⟩:=I.stack.mem hb;rw [q] at ho';cases ho';exact sm b o q nf
 . refine (I.hok b o q).stay (λc u hc z=>keep c u ?_ ?_ z) (λ_ z=>z) λ_ _ z=>z
   all_goals have hH:∃ v,H c = some v:=hc.elim (λz=>⟨o,by rw [z];exact q⟩) λz=>⟨_,z⟩
   . intro z3;obtain ⟨v,z2⟩:=hH;rw [I.stkFree c z3] at z2;cases z2
   . intro z3;obtain ⟨v,z2⟩:=hH;rcases aB.mp z3 with z3 | z3
     . rw [z3,fe] at z2;cases z2
     . rw [bQ.mp z3,fT] at z2;cases z2
end
def subIn (K:PySem.W.Frag) (C P:aq):Bool:=match K.lookup C with
 | some ⟨_,_,.cls cd,_⟩=>cd.mro.contains (.ref P)
 | _=>false
def zx {K:PySem.W.Frag} {h:bG} {C P N:aq} {nm q:Str} {bs bm:List af} {hdct:Bool} {sn:List Str} {sub:List af} {ab:Bool} {col:Option Bool} {dd:Option aq} {k0 k1 k2 k3 k5:Option af} {newId:String} {b:Bool} (X:K.In h) (e:subIn K C P = b) (hv:VE K C = true)
 (hC:h.get? C = some (excClassObj nm q C N bs bm hdct sn sub ab col dd k0 k1 k2 k3 k5 newId)):(bj C::bm).contains (.ref P) = b:=by
 unfold subIn at e;split at e
 . rename_i ho;have z:=X _ _ ho;rw [hC] at z;cases z;exact e
 . rename_i hn;unfold VE PySem.W.excIn at hv;split at hv
   . rename_i ho;exact absurd ho (hn _ _ _ _)
   . cases hv
abbrev Cx.mrk (X:Cx) (e:aq):Cx:={ X with A:=X.A.mark (some (.ref e)),calm:=false,xe:=λ_ _=>False }
def Cx.Ok.mrk {X:Cx} (ok:X.Ok) (e:aq):(X.mrk e).Ok :=
 ⟨ok.mod,ok.kind,ok.glob,ok.blt,ok.above,ok.inj,ok.has,ok.cab,(λz=>nomatch z),ok.frames,ok.stk,ok.exf,ok.bs,ok.bsz,ok.noex,ok.exfs,ok.funs,ok.frf⟩
def Inv.mrk {X:Cx} {pins:List (aq × Obj)} {σ:St} {H:Hp} {s:ah} (I:Inv X pins σ H s) (e:aq):Inv (X.mrk e) pins σ H s:=⟨I.ok.mrk e,I.os,I.bare,I.base,I.loc,I.cell,I.free,I.freeC,I.pin,I.hok,I.len⟩
def Inv.unmrk (ok:X.Ok) (I:Inv (X.mrk e) pins σ H s):Inv X pins σ H s:=⟨ok,I.os,I.bare,I.base,I.loc,I.cell,I.free,I.freeC,I.pin,I.hok,I.len⟩
section
variable {X:Cx} {pins:List (aq × Obj)} {σ:St} {H:Hp} {s s':ah} {E:XK} {e:af} {x n:Str} {P:aq} {np hp:Pos} {b₀:bD} {suite:List bD} {rest:List lx} {Q:Flow->ah->Prop} {EX:af->ah->Prop}
def Og (I:Inv X pins σ H s) (h:CXE X.prog X.w X.stack H s E e s') (hex:X.ex = []) (hst:X.stack = X.env::X.outer) (hfr:X.env.frame = some X.env.locals) (hg:Gl X x) (hm:X.mg x = some (.ref P)) (hP:VE X.K P = true) (hd:(x == ("__debug__":Str)) = false)
 (k:∀ (cls:af) (H':Hp),E cls none H'->∃ C,cls = .ref C/\VE X.K C = true/\subIn X.K C P = true/\∀ (a:aq) (s2:ah) (oe:Obj) (vs:Array af),(Inv X ((a,oe)::pins) σ H' s2->oe.cls = .ref C->oe.data = .fields vs ->
   wpAny (model X.prog X.w) (X.A.mark (some (.ref a))) (storeName X.env n (.ref a)) (λ_ s₃=>wpAny (model X.prog X.w) (X.A.mark (some (.ref a))) (execs (b₀::suite) X.env)
    (λf s₄=>wpAny (model X.prog X.w) X.A (do bindName X.env n .none;unbindBehindTheSuite X.env n hp) (λ_ s₅=>Q f s₅) (λ_ _=>False) s₄) (λ_ _=>False) s₃) (λ_ _=>False) s2)) :
 wpAny (model X.prog X.w) X.A (noteFrame e X.env) (λ_ s₂=>wpAny (model X.prog X.w) X.A (setFlight e none) (λ_ s₃ =>
  wpAny (model X.prog X.w) X.A (handleBy e X.env (.ExceptHandler (some (.Name x np)) (some n) (b₀::suite) hp::rest)) Q EX s₃) EX s₂) EX s':=by
 obtain ⟨a,cls,H',rfl,fly,un,hok,os,bare,q⟩:=h;obtain ⟨hh,g,d,t,os'⟩:=s';obtain rfl:os' = s.os:=os;have I2:=I.call (h':=hh) (g':=g) (d':=d) (t':=t) (ch:=[]) un hok bare (λb z=>absurd z ↥0);obtain ⟨oe,vs,a0,T,oT,ts,he,hc,hdt,h1,⟨nT,fT⟩,hTe,hT,hdT,h3⟩:=fly.tr
 have hl:∀ b∈[a,T],X.s₀.heap.get? b = none/\b≠X.env.locals/\(∀ x c,X.env.cells.lookup x = some c->c≠b)/\∀ p∈X.pn++pins,p.1≠b:=λb hb=>by
  have nb:s.heap.get? b = none:=by
   rcases aB.mp hb with z | z
   . rw [z];exact fly.new
   . rw [bQ.mp z];exact nT
  refine ⟨?_,?_,λy c e z=>?_,λp hp z=>?_⟩
  . cases z:X.s₀.heap.get? b with
    | none=>rfl
    | some o =>
      obtain ⟨o',q'⟩:=I.base.there b o z (by rw [hex];simp);rw [nb] at q';cases q'
  . obtain ⟨m,⟨o,_,_,ho,_⟩,_⟩:=I.loc;intro z;rw [z,ho] at nb;cases nb
  . obtain ⟨v,o,ho,_⟩:=I.cell y c e;rw [z,nb] at ho;cases ho
  . have ho:=(I.pin p hp).1;rw [z,nb] at ho;cases ho
 refine wpAny_looks_onW (base:=less hh (a::T::frs X.stack)) (outer:=X.outer) (by rw [<- hst];exact I.ok.frames) hfr ⟨mw,ja au,by rw [<- hst];exact qb I2.stack λb hb=>ja (ar _ (ar _ hb)),oe,vs,T,oT,ts,he,hc,hdt,h1,ja (ar _ au),hTe,hT,hdT,h3⟩ λh4 held4 sm4=>?_;refine wpAny_landsW held4 λh5 fl5 sm5=>?_;have I5:=I2.fly (t':=t) hex fly.fre fT hl fl5.1 (sm4.trans sm5);refine wpAny_handleBy_cons (codeAny_handlers_test (jT (X:=X.mrk a) (I5.mrk a) hg hm ?_ hd)) (by intro q;cases q);obtain ⟨C,rfl,vC,sC,k⟩:=k cls H' q;obtain ⟨tl,N,nm,qn,bs,hdct,sn,sub,ab,col,dd,k0,k1,k2,k3,k5,mN,hC,hN,hni,TL⟩:=kD I5.kIn vC;obtain ⟨tl',N',nm',qn',bs',hdct',sn',sub',ab',col',dd',l0,l1,l2,l3,l5,mN',hC',hN',hni',TL'⟩:=kD I5.kIn hP;obtain ⟨ob,hob,hobc⟩:=fl5.there;refine Dc hC hC' hob hobc (TL'.hasType rfl) ?_;rw [zx I5.kIn sC vC hC];refine codeAny_handlers_suite_as ?_;refine lands_againW fl5 λh6 fl6 sm6=>?_;have I6:=I2.fly (t':=t) hex fly.fre fT hl fl6.1 ((sm4.trans sm5).trans sm6);obtain ⟨oe6,vs6,he6,hc6,hd6,_⟩:=fl6.first;have ha:=hl a au
 have nfs:a∉X.fs:=λz=>by
  obtain ⟨_,o,ho,nf⟩:=I6.funs.mem z;rw [he6] at ho;cases ho;exact nf _ hd6
 have I7:Inv X ((a,oe6)::pins) σ H' { (⟨hh,g,d,t,s.os⟩:ah) with heap:=h6,toks:=t }:=⟨I6.ok,I6.os,I6.bare,I6.base,I6.loc,I6.cell,I6.free,I6.freeC,λp hp=>by
  rcases bb.mp hp with z | z
  . exact I6.pin p (aF _ z)
  . rcases aB.mp z with z | z
    . rw [z];exact ⟨he6,fly.fre,ha.2.1,nfs,λv z=>by rw [hd6] at z;cases z⟩
    . exact I6.pin p (aQ _ z),I6.hok,I6.len⟩
 refine cP (k a _ oe6 vs6 I7 hc6 hd6) (λ_ s₃ h₃=>cP h₃ (λf s₄ h₄=>?_) λ_ _ z=>bS z) λ_ _ z=>bS z;exact cP h₄ (λ_ _ z=>z) λ_ _ z=>bS z
end
section
variable {X:Cx} {pins:List (aq × Obj)} {σ:St} {H:Hp} {s:ah}
def lE {E:af->ah->Prop} (I:Inv X pins σ H s) (hN:X.N.Nodup) (hi:X.N[i]? = some x) (hx:X.env.kindOf x = some .local)
 (h:∀ s',Inv X pins (σ.set i none) H s'->Q () s'):wpAny M A (do bindName X.env x .none;unbindBehindTheSuite X.env x pos) Q E s:=by
 obtain ⟨m,hn,hl⟩:=id I.loc;refine wpAny_nameGoes_keeps hx hn (by rw [I.ok.kind];rfl) λh' v hn' hs=>h _ ?_;have keep:∀ b o,b≠X.env.locals->s.heap.get? b = some o->h'.get? b = some o:=λb o hb e=>(hs.2 b hb).trans e;have nL:∀ b o,X.s₀.heap.get? b = some o->b≠X.env.locals:=λb o e=>aH (aY (az e) I.ok.above);refine ⟨I.ok,I.os,I.bare,⟨λb o e n hb hx=>?_,λb o e n hb hx=>?_,λb o e n hx=>I.base.free b o e n hx,λb o e hx=>?_,I.base.tups,I.base.frzs,I.base.tbls⟩,?_,λy c e=>?_,I.free,I.freeC,λp hp=>?_,λb o e=>?_,by rw [bO];exact I.len⟩
 . exact keep b o (nL b o e) (I.base.keep b o e n hb hx)
 . obtain ⟨sl,q⟩:=I.base.slot b o e n hb hx;exact ⟨sl,keep b _ (nL b o e) q⟩
 . obtain ⟨o',q⟩:=I.base.there b o e hx;exact ⟨o',keep b _ (nL b o e) q⟩
 . refine ⟨_,hn',λj y w e1 e2 e3=>?_⟩
   have hj:j≠i:=by
    rintro rfl;rw [List.getElem?_set] at e2;simp only [↓reduceIte] at e2;split at e2<;>cases e2
   have e2':σ[j]? = some (some w):=by
    rw [aU (Ne.symm hj)] at e2;exact e2
   have ny:y≠x:=by
    rintro rfl;exact hj ((List.getElem?_inj (aD.mp e1).1 hN).mp (e1.trans hi.symm))
   obtain ⟨u,r,lk⟩:=hl j y w e1 e2' e3;refine ⟨u,r,?_⟩;rcases lk with ⟨k,z⟩ | ⟨k,c,e,⟨o,ho,hd⟩⟩
   . refine .inl ⟨k,?_⟩;show (if y = x then v else m y) = some u;rw [if_neg ny];exact z
   . exact .inr ⟨k,c,e,o,keep c o (I.cne y c e) ho,hd⟩
 . obtain ⟨v,o,ho,hd⟩:=I.cell y c e;exact ⟨v,o,keep c o (I.cne y c e) ho,hd⟩
 . obtain ⟨e,n,ne,nf,d⟩:=I.pin p hp;exact ⟨keep _ _ ne e,n,ne,nf,d⟩
 . refine (I.hok b o e).stay (λc u hc z=>keep c u ?_ z) (λ_ z=>z) λ_ _ z=>z;rintro rfl;rcases hc with z2 | z2
   . rw [<- z2,I.free] at e;cases e
   . rw [I.free] at z2;cases z2
end
def PSa (X:Cx) (a C:aq) (st:List bD) (t:TS):Prop:=∀ (oe:Obj) (vs:Array af) (pins:List (aq × Obj)) (s:ah) (σ:St) (H:Hp) (D:Ends),oe.cls = .ref C->oe.data = .fields vs->Inv (X.mrk a) ((a,oe)::pins) σ H s->t D σ H ->
 wpAny (model X.prog X.w) (X.mrk a).A (execs st X.env) (SP (X.mrk a) ((a,oe)::pins) D) (λ_ _=>False) s
def Inv.unpin (I:Inv X (q::pins) σ H s):Inv X pins σ H s :=
 ⟨I.ok,I.os,I.bare,I.base,I.loc,I.cell,I.free,I.freeC,λp hp=>I.pin p ((bb.mp hp).elim (aF _) λz=>aQ _ (ar _ z)),I.hok,I.len⟩
abbrev Cx.tried (X:Cx) (pn:List (aq × Obj)) (xe:af->ah->Prop):Cx:={ X with pn:=pn,xe:=xe }
def Cx.Ok.tried {X:Cx} (ok:X.Ok) (pn:List (aq × Obj)) (xe:af->ah->Prop):(X.tried pn xe).Ok :=
 ⟨ok.mod,ok.kind,ok.glob,ok.blt,ok.above,ok.inj,ok.has,ok.cab,ok.hd,ok.frames,ok.stk,ok.exf,ok.bs,ok.bsz,ok.noex,ok.exfs,ok.funs,ok.frf⟩
section
variable {X:Cx} {pins pins':List (aq × Obj)} {σ:St} {H:Hp} {s:ah} {xe:af->ah->Prop}
def Inv.tried (I:Inv X pins σ H s):Inv (X.tried (X.pn++pins) xe) [] σ H s:=⟨I.ok.tried _ _,I.os,I.bare,I.base,I.loc,I.cell,I.free,I.freeC,λp hp=>I.pin p (by simpa using hp),I.hok,I.len⟩
def Inv.untried (ok:X.Ok) (I:Inv (X.tried (X.pn++pins) xe) pins' σ H s):Inv X pins σ H s:=⟨ok,I.os,I.bare,I.base,I.loc,I.cell,I.free,I.freeC,λp hp=>I.pin p (aF _ hp),I.hok,I.len⟩
def SP.untried {D:Ends} (ok:X.Ok) (h:SP (X.tried (X.pn++pins) xe) pins' D f s'):SP X pins D f s':=by
 cases f with
 | next=>obtain ⟨σ',H',I,q⟩:=h;exact ⟨σ',H',I.untried ok,q⟩
 | brk=>obtain ⟨σ',H',I,q⟩:=h;exact ⟨σ',H',I.untried ok,q⟩
 | cont=>obtain ⟨σ',H',I,q⟩:=h;exact ⟨σ',H',I.untried ok,q⟩
 | ret u=>obtain ⟨v,σ',H',I,r,q⟩:=h;exact ⟨v,σ',H',I.untried ok,r,q⟩
end
def MF {X:Cx} {i:Nat} {x n:Str} {P:aq} {np hp pos:Pos} {body:List bD} {b₀:bD} {suite:List bD} {tb:(St->XK)->TS} {ts:aq->aq->TS} (hex:X.ex = []) (hst:X.stack = X.env::X.outer) (hfr:X.env.frame = some X.env.locals)
 (hg:Gl X x) (hm:X.mg x = some (.ref P)) (hP:VE X.K P = true) (hd:(x == ("__debug__":Str)) = false) (hN:X.N.Nodup) (hi:X.N[i]? = some n) (hx:X.env.kindOf n = some .local) (hx2:X.env.scope.names.lookup n = some .local)
 (hb:∀ (E:St->XK) (pn:List (aq × Obj)) (xe:af->ah->Prop),uL (X.tried pn xe) E->PSs (X.tried pn xe) body (tb E))
 (hs:∀ a C,PSa X a C (b₀::suite) (ts a C)) :
 PS X (.Try body [.ExceptHandler (some (.Name x np)) (some n) (b₀::suite) hp] [] [] pos) (λD σ H=>∃ E:St->XK,tb E D σ H/\∀ σ1 cls H1,E σ1 cls none H1->∃ C,cls = .ref C/\VE X.K C = true/\subIn X.K C P = true /\
  ∀ a,ts a C { nx:=λσ H=>D.nx (σ.set i none) H,rt:=D.rt,bk:=λσ H=>D.bk (σ.set i none) H,ct:=λσ H=>D.ct (σ.set i none) H } (σ1.set i (some (.ref a))) H1):=by
 intro pins s σ H D I h;obtain ⟨E,hb1,hs1⟩:=h;refine wpAny_Try_except (cP (hb E (X.pn++pins) _ (λpins' σ1 H1 s1 e s' I1 hc=>?_) [] s σ H D I.tried hb1) (λf s1 h1=>?_) λ_ _ z=>z)
 . refine Og (Q:=SP X pins D) (EX:=X.xe) (I1.untried I.ok) hc hex hst hfr hg hm hP hd λcls H2 q=>?_;obtain ⟨C,e1,e2,e3,k⟩:=hs1 σ1 cls H2 q;refine ⟨C,e1,e2,e3,λa s2 oe vs I2 c1 c2=>?_⟩;refine kF I2 hN hi (.inl hx2) (v:=.ref a) rfl (λs3 I3=>?_) (.inr hx2);refine cP (hs a C oe vs pins s3 _ H2 _ c1 c2 (I3.mrk a) (k a)) (λf s4 h4=>?_) λ_ _ z=>z
   cases f with
   | next =>
     obtain ⟨σ4,H4,I4,q4⟩:=h4
     exact lE (I4.unmrk I.ok).unpin hN hi hx λs5 I5=>⟨_,_,I5,q4⟩
   | brk =>
     obtain ⟨σ4,H4,I4,q4⟩:=h4
     exact lE (I4.unmrk I.ok).unpin hN hi hx λs5 I5=>⟨_,_,I5,q4⟩
   | cont =>
     obtain ⟨σ4,H4,I4,q4⟩:=h4
     exact lE (I4.unmrk I.ok).unpin hN hi hx λs5 I5=>⟨_,_,I5,q4⟩
   | ret u =>
     obtain ⟨v,σ4,H4,I4,r4,q4⟩:=h4;exact lE (I4.unmrk I.ok).unpin hN hi hx λs5 I5=>⟨v,_,_,I5,r4,q4⟩
 . have h2:=h1.untried I.ok
   cases f with
   | next=>exact jt h2
   | brk=>exact h2
   | cont=>exact h2
   | ret u=>exact h2
def qns:List Str:=["__getattribute__","__getattr__","__class__"]
def Jf (K:PySem.W.Frag):List af->Bool
 | []=>false
 | v::r=>(v::r) == veB || match v with
   | .ref A=>(match K.lookup A with
     | some ⟨_,_,.cls cd,_⟩=>PySem.W.nsOkIn K cd.ns && qns.all (λn=>PySem.W.nsIn K cd.ns n == some none) && Jf K r
     | _=>false)
   | _=>false
def vw (K:PySem.W.Frag) (C:aq):Bool:=match K.lookup C with
 | some ⟨_,_,.cls cd,_⟩=>Jf K cd.mro
 | _=>false
section
variable {M:Model} {A:aR} {E:af->ah->Prop} {h:bG} {g:Array gG} {d:Drawn} {t:Nat} {os:OF} {K:PySem.W.Frag}
def Gu (X:K.In h) (hn:n∈qns) (hrest:lookupAlong veB n = pure y) (hq:Q y ⟨h,g,d,t,os⟩):∀ {l:List af},Jf K l = true->wpAny M A (lookupAlong l n) Q E ⟨h,g,d,t,os⟩
 | [],e=>by cases e
 | v::r,e=>by
   unfold Jf at e;rcases iS.mp e with q | q
   . rw [beq_iff_eq.mp q,hrest];exact ak hq
   . split at q
     . split at q
       . rename_i ho;simp only [aa] at q;rw [lookupAlong_cons];refine ae (wpAny_classOwn_cls (X _ _ ho) (.of_isNs (PySem.W.isNs_of_in X q.1.1)) ?_);rw [PySem.W.nsMap_none_of_in X q.1.1 (beq_iff_eq.mp (bq.mp q.1.2 n hn))];exact Gu X hn hrest hq q.2
       . cases q
     . cases q
variable {nm q:Str} {C N:aq} {bs bm:List af} {hdct:Bool} {sn:List Str} {sub:List af} {ab:Bool} {col:Option Bool} {dd:Option aq} {k0 k1 k2 k3 k5:Option af} {newId:String}
def zm (X:K.In h) (hn:n∈qns) (hC:h.get? C = some (excClassObj nm q C N bs bm hdct sn sub ab col dd k0 k1 k2 k3 k5 newId)) (hv:vw K C = true)
 (hB:typeLookup (.type "ValueError") n = pure y) (hq:Q y ⟨h,g,d,t,os⟩):wpAny M A (typeLookup (.ref C) n) Q E ⟨h,g,d,t,os⟩:=by
 have hrest:lookupAlong veB n = pure y:=by rw [typeLookup_eq,PySem.F.attrBase_ValueError.mro] at hB;exact hB
 rw [typeLookup_eq];refine ae (wpAny_mroOf_exc hC ?_);refine Gu X hn hrest hq ?_;unfold vw at hv;split at hv
 . rename_i ho;have z:=X _ _ ho;rw [hC] at z;cases z;exact hv
 . cases hv
end
def yc:typeLookup (.type "ValueError") "__class__" = pure (some (.builtin "object.__class__")):=by rw [mI,iF];kernel_rfl
section
variable {prog:aO} {w:aZ} {A:aR} {E:af->ah->Prop} {h:bG} {g:Array gG} {d:Drawn} {t:Nat} {os:OF} {a:aq} {o:Obj} {K:PySem.W.Frag}
 {nm q:Str} {C N:aq} {bs bm:List af} {hdct:Bool} {sn:List Str} {sub:List af} {ab:Bool} {col:Option Bool} {dd:Option aq} {k0 k1 k2 k3 k5:Option af} {newId:String}
def Hn {R:sy->ah->Prop} (hC:h.get? C = some (excClassObj nm q C N bs bm hdct sn sub ab col dd k0 k1 k2 k3 k5 newId)) (T:tD h veB bm) (hx:h.get? a = some o) (hc:o.cls = .ref C) (hq:R (.ok (.ret (.ref C))) ⟨h,g,d,t,os⟩) :
 codeAny (model prog w) A (.call (.builtin "getset_descriptor.__get__") ⟨[.builtin "object.__class__",.ref a,.ref C],[]⟩) R ⟨h,g,d,t,os⟩:=by
 have hT5:(⟨h,g,d,t,os⟩:ah).TypeIs (.builtin "object.__class__") "getset_descriptor":=F.typeOf_object_class
 have hcB:(bj C::bm).contains (.type (".".intercalate ("object.__class__".cutAt '.').dropLast)) = true:=by
  rw [F.owner_object_class,gu,T.hasType rfl];rfl
 refine oO F.slot_gs_get.plain F.entry_gs_get (F.slot_gs_get.check _ _ _ _ _ _ _ _ hT5 (F.args_gs_get _ _ _) ?_)
 repeat (any_goals (first | assumption | (with_reducible refine bM hx ?_;rw [hc]) | (with_reducible refine dI hC ?_;rw [hcB]) | wp_step))
 refine ⟨DM _ ⇑0,eK F.entry_object_class ?_⟩
 repeat (any_goals (first | assumption | (with_reducible refine bM hx ?_;rw [hc]) | wp_step))
def Ae (hC:h.get? C = some (excClassObj nm q C N bs bm hdct sn sub ab col dd k0 k1 k2 k3 k5 newId)) (T:tD h veB bm)
 (hx:h.get? a = some o) (hc:o.cls = .ref C) (hq:Q () ⟨h,g,d,t,os⟩):wpAny M A (checkBuiltinCall "BaseException.__getattribute__" ⟨[.ref a,nameV],[]⟩) Q E ⟨h,g,d,t,os⟩:=by
 have hk:builtinKind "BaseException.__getattribute__" = some .slot:=by decide
 have hsplit:splitId "BaseException.__getattribute__" = some ("BaseException","__getattribute__"):=by decide
 have hcB:(bj C::bm).contains (.type "BaseException") = true:=by rw [gu,T.hasType rfl];rfl
 have ha:=F.args_bexc_ga (.ref a) nameV;simp only [checkBuiltinCall,hk,hsplit];refine ae ?_;unfold isInstance
 repeat (first | (with_reducible refine bM hx ?_;rw [hc]) | (with_reducible refine dI hC ?_;rw [hcB]) | wp_step)
 exact hq
def Ad (X:K.In h) (hv:vw K C = true) (hC:h.get? C = some (excClassObj nm q C N bs bm hdct sn sub ab col dd k0 k1 k2 k3 k5 newId)) (T:tD h veB bm) (hx:h.get? a = some o) (hc:o.cls = .ref C) (hq:Q (.done (.ret (.ref C))) ⟨h,g,d,t,os⟩) :
 wpAny (model prog w) A (dY.«object.__getattribute__» ⟨[.ref a,.str "__class__" tk],[]⟩) Q E ⟨h,g,d,t,os⟩:=by
 have hT5:(⟨h,g,d,t,os⟩:ah).TypeIs (.builtin "object.__class__") "getset_descriptor":=F.typeOf_object_class;have f5:=F.typeOf_object_class;have f6:=F.slot_gs_get.lookup;have f7:=F.slot_gs_set.lookup;have hm:("__class__":Str)∈qns:=.tail _ (.tail _ (.head _))
 repeat (any_goals (first | assumption | (with_reducible refine bM hx ?_;rw [hc]) | with_reducible refine zm X hm hC hv yc ?_ | wp_step))
 refine Hn hC T hx hc ?_
 repeat (any_goals (first | assumption | wp_step))
def Kl (X:K.In h) (hv:vw K C = true) (hC:h.get? C = some (excClassObj nm q C N bs bm hdct sn sub ab col dd k0 k1 k2 k3 k5 newId)) (T:tD h veB bm) (hx:h.get? a = some o) (hc:o.cls = .ref C) (hq:Q (.ref C) ⟨h,g,d,t,os⟩) :
 wpAny (model prog w) A (getAttrBy (.ref a) (.str "__class__" tk) false) Q E ⟨h,g,d,t,os⟩:=by
 have FB:=F.attrBase_ValueError;have f3:=FB.ga.bind (.ref a);have hx2:(jF "BaseException.__getattribute__" == jF "object.__getattribute__") = false:=by decide
 have hx1:(onTheHeap (bj C) && jF "BaseException.__getattribute__" == jF "object.__getattribute__") = false:=by rw [hx2];rfl
 have hm1:("__getattribute__":Str)∈qns:=.head _;have hm2:("__getattr__":Str)∈qns:=.tail _ (.head _)
 repeat (any_goals (first | assumption | (with_reducible refine bM hx ?_;rw [hc]) | with_reducible refine zm X hm1 hC hv FB.ga.lookup ?_ | with_reducible refine zm X hm2 hC hv FB.noGetattr ?_ | wp_step))
 refine oO FB.ga.plain F.entry_bexc_ga (Ae hC T hx hc (Ad X hv hC T hx hc ?_))
 repeat (any_goals (first | assumption | wp_step))
def Dq (X:K.In h) (hv:vw K C = true) (hC:h.get? C = some (excClassObj nm q C N bs bm hdct sn sub ab col dd k0 k1 k2 k3 k5 newId)) (T:tD h veB bm) (hx:h.get? a = some o) (hc:o.cls = .ref C) (hq:Q (some (.ref C)) ⟨h,g,d,t+1,os⟩) :
 wpAny (model prog w) A (getAttr? (.ref a) "__class__") Q E ⟨h,g,d,t,os⟩:=by
 unfold getAttr? getAttrBy?
 repeat (any_goals (first | assumption | with_reducible apply Kl X hv hC T hx hc | wp_step))
end
section
variable {prog:aO} {w:aZ} {A:aR} {E:af->ah->Prop} {h:bG} {g:Array gG} {d:Drawn} {t:Nat} {os:OF} {a:aq} {o:Obj} {K:PySem.W.Frag}
 {nm q:Str} {C N:aq} {bs bm:List af} {hdct:Bool} {sn:List Str} {sub:List af} {ab:Bool} {col:Option Bool} {dd:Option aq} {k0 k1 k2 k3 k5:Option af} {newId:String}
 {nm' q':Str} {P N':aq} {bs' bm':List af} {hdct':Bool} {sn':List Str} {sub':List af} {ab':Bool} {col':Option Bool} {dd':Option aq} {l0 l1 l2 l3 l5:Option af} {newId':String}
def JT {dep:Int} {tk:Tok} {Q:Fin->ah->Prop} (X:K.In h) (hv:vw K C = true) (hC:h.get? C = some (excClassObj nm q C N bs bm hdct sn sub ab col dd k0 k1 k2 k3 k5 newId)) (hP:h.get? P = some (excClassObj nm' q' P N' bs' bm' hdct' sn' sub' ab' col' dd' l0 l1 l2 l3 l5 newId'))
 (T:tD h veB bm) (hx:h.get? a = some o) (hc:o.cls = .ref C) (hb:(bj C::bm).contains (.ref P) = false) (hq:Q (.done (.ret (.bool false))) ⟨h,g,d,t+1,os⟩) :
 wpAny (model prog w) A (dY.«isinstance.nested» ⟨[.ref a,.ref P,.int dep tk],[]⟩) Q E ⟨h,g,d,t,os⟩:=by
 have hne:(bj C == bj P) = false:=by
  rw [gu,Bool.or_eq_false_iff] at hb
  cases z:(bj C == bj P) with
  | false=>rfl
  | true=>rw [beq_iff_eq.mp z] at hb;simp at hb
 have hT:(⟨h,g,d,t,os⟩:ah).TypeIs (.ref P) "type":=⟨_,hP,rfl⟩;have hTC:(⟨h,g,d,t+1,os⟩:ah).TypeIs (.ref C) "type":=⟨_,hC,rfl⟩
 repeat (any_goals (first | assumption | (with_reducible refine bM hx ?_;rw [hc]) | with_reducible refine bM hP ?_ | with_reducible refine bM hC ?_ | (with_reducible refine dI hC ?_;rw [hb]) | with_reducible apply Dq X hv hC T hx hc | wp_step))
def JU {dep:Int} {tk:Tok} {Q:Fin->ah->Prop} (hC:h.get? C = some (excClassObj nm q C N bs bm hdct sn sub ab col dd k0 k1 k2 k3 k5 newId)) (hP:h.get? P = some (excClassObj nm' q' P N' bs' bm' hdct' sn' sub' ab' col' dd' l0 l1 l2 l3 l5 newId'))
 (hx:h.get? a = some o) (hc:o.cls = .ref C) (hb:(bj C::bm).contains (.ref P) = true) (hq:Q (.done (.ret (.bool true))) ⟨h,g,d,t,os⟩) :
 wpAny (model prog w) A (dY.«isinstance.nested» ⟨[.ref a,.ref P,.int dep tk],[]⟩) Q E ⟨h,g,d,t,os⟩:=by
 have hT:(⟨h,g,d,t,os⟩:ah).TypeIs (.ref P) "type":=⟨_,hP,rfl⟩
 cases hne:(bj C == bj P) with
 | true=>repeat (any_goals (first | assumption | (with_reducible refine bM hx ?_;rw [hc]) | wp_step))
 | false=>repeat (any_goals (first | assumption | (with_reducible refine bM hx ?_;rw [hc]) | with_reducible refine bM hP ?_ | (with_reducible refine dI hC ?_;rw [hb]) | wp_step))
def NK {T':String} {dep:Int} {tk:Tok} {Q:Fin->ah->Prop} (hC:h.get? C = some (excClassObj nm q C N bs bm hdct sn sub ab col dd k0 k1 k2 k3 k5 newId)) (hty:typeOf (.type T') = pure (.type "type"))
 (hx:h.get? a = some o) (hc:o.cls = .ref C) (hb:(bj C::bm).contains (.type T') = true) (hq:Q (.done (.ret (.bool true))) ⟨h,g,d,t,os⟩) :
 wpAny (model prog w) A (dY.«isinstance.nested» ⟨[.ref a,.type T',.int dep tk],[]⟩) Q E ⟨h,g,d,t,os⟩:=by
 have hne:(bj C == nJ T') = false:=rfl
 repeat (any_goals (first | assumption | (with_reducible refine bM hx ?_;rw [hc]) | (with_reducible refine dI hC ?_;rw [hb]) | wp_step))
end
def ME {X:Cx} {a C:aq} {st:List bD} {t:TS} (h:∀ (oe:Obj) (vs:Array af) (pn:List (aq × Obj)),oe.cls = .ref C->oe.data = .fields vs->(a,oe)∈pn->PSs ((X.mrk a).tried pn λ_ _=>False) st t):PSa X a C st t:=λoe vs pins s σ H D c1 c2 I q =>
 cP (h oe vs (X.pn++((a,oe)::pins)) c1 c2 (aQ _ au) [] s σ H D (Inv.tried (X:=X.mrk a) I) q) (λf s' z=>SP.untried (X:=X.mrk a) I.ok z) λ_ _ z=>z
section
variable {X:Cx} {a C P:aq} {oe:Obj}
def NW (hp:(a,oe)∈X.pn) (hc:oe.cls = .ref C) (hC:VE X.K C = true) (hP:VE X.K P = true) (hs:subIn X.K C P = true):cE X (.builtin "isinstance") (λxs H Q=>xs = [.ref a,.ref P]/\Q (.bl true) H):=by
 intro pins s σ H vs us Q I r h;obtain ⟨rfl,q⟩:=h;obtain ⟨u1,u2,rfl,r1,r2⟩:=r.two;obtain rfl:u1 = .ref a:=r1;obtain rfl:u2 = .ref P:=r2;obtain ⟨tl,N,nm,qn,bs,hdct,sn,sub,ab,col,dd,k0,k1,k2,k3,k5,mN,oC,hN,hni,TL⟩:=kD I.kIn hC;obtain ⟨tl',N',nm',qn',bs',hdct',sn',sub',ab',col',dd',l0,l1,l2,l3,l5,mN',oP,hN',hni',TL'⟩:=kD I.kIn hP;have hx:=(I.pin (a,oe) (aF _ hp)).1;obtain ⟨hh,g,d,t,os⟩:=s;exact sx (JU oC oP hx hc (zx I.kIn hs hC oC) ⟨.bl true,H,I,rfl,q⟩) (by intro e;cases e)
def NV (hp:(a,oe)∈X.pn) (hc:oe.cls = .ref C) (hC:VE X.K C = true) (hq:vw X.K C = true) (hP:VE X.K P = true) (hs:subIn X.K C P = false):cE X (.builtin "isinstance") (λxs H Q=>xs = [.ref a,.ref P]/\Q (.bl false) H):=by
 intro pins s σ H vs us Q I r h;obtain ⟨rfl,q⟩:=h;obtain ⟨u1,u2,rfl,r1,r2⟩:=r.two;obtain rfl:u1 = .ref a:=r1;obtain rfl:u2 = .ref P:=r2;obtain ⟨tl,N,nm,qn,bs,hdct,sn,sub,ab,col,dd,k0,k1,k2,k3,k5,mN,oC,hN,hni,TL⟩:=kD I.kIn hC;obtain ⟨tl',N',nm',qn',bs',hdct',sn',sub',ab',col',dd',l0,l1,l2,l3,l5,mN',oP,hN',hni',TL'⟩:=kD I.kIn hP;have hx:=(I.pin (a,oe) (aF _ hp)).1;have kin:=I.kIn;have I2:=I.tok (s.toks+1);obtain ⟨hh,g,d,t,os⟩:=s;exact sx (JT kin hq oC oP TL hx hc (zx kin hs hC oC) ⟨.bl false,H,I2,rfl,q⟩) (by intro e;cases e)
def NU (hp:(a,oe)∈X.pn) (hc:oe.cls = .ref C) (hC:VE X.K C = true) (hty:typeOf (.type T) = pure (.type "type")) (hT:veB.contains (.type T) = true):cE X (.builtin "isinstance") (λxs H Q=>xs = [.ref a,.ty T]/\Q (.bl true) H):=by
 intro pins s σ H vs us Q I r h;obtain ⟨rfl,q⟩:=h;obtain ⟨u1,u2,rfl,r1,r2⟩:=r.two;obtain rfl:u1 = .ref a:=r1;obtain rfl:u2 = .type T:=r2;obtain ⟨tl,N,nm,qn,bs,hdct,sn,sub,ab,col,dd,k0,k1,k2,k3,k5,mN,oC,hN,hni,TL⟩:=kD I.kIn hC;have hx:=(I.pin (a,oe) (aF _ hp)).1;obtain ⟨hh,g,d,t,os⟩:=s;exact sx (NK oC hty hx hc (by rw [gu,TL.hasType hT];rfl) ⟨.bl true,H,I,rfl,q⟩) (by intro e;cases e)
def MP (hg:Gl X x) (hm:X.mg x = some (.ref P)) (hd:(x == ("__debug__":Str)) = false):PE X (.Name x pos) (tC (.ref P)):=λ_ _ _ H _ I h=>jT I hg hm ⟨.ref P,H,I,rfl,h⟩ hd
end
def tI (i:Nat) (a:aq) (b:Bool):TE:=λσ H Q=>σ[i]? = some (some (.ref a))/\Q (.bl b) H
def PE.to {X:Cx} {e:aG} {t u:TE} (h:PE X e t) (w:∀ σ H Q,u σ H Q->t σ H Q):PE X e u:=λpins s σ H Q I q=>h pins s σ H Q I (w σ H Q q)
section
variable {X:Cx} {i:Nat} {a C P:aq} {oe:Obj} {n x:Str} {p np xp pos:Pos} {b1 b2 b:Bool} {y z:aG} {r:List aG}
def Jp (hn:PE X (.Name n np) (zw i)) (hc:cE X (.builtin "isinstance") (λxs H Q=>xs = [.ref a,.ref P]/\Q (.bl b) H)) (hi:Gl X "isinstance") (hmi:X.mg "isinstance" = none) (hg:Gl X x) (hm:X.mg x = some (.ref P)) (hd:(x == ("__debug__":Str)) = false) :
 PE X (.Call (.Name "isinstance" p) [.Name n np,.Name x xp] [] pos) (tI i a b):=by
 have hA:PA X [.Name n np,.Name x xp] (kE (zw i) (kE (tC (.ref P)) xg)):=eZ hn (eZ (MP hg hm hd) ia rfl) rfl;exact PE.to (gW hc hi hmi rfl hA ⇑0 ⇑0 rfl rfl) λσ H Q ⟨e,q⟩=>⟨_,e,rfl,q⟩
def Jo {T:String} (hn:PE X (.Name n np) (zw i)) (hc:cE X (.builtin "isinstance") (λxs H Q=>xs = [.ref a,.ty T]/\Q (.bl b) H)) (hi:Gl X "isinstance") (hmi:X.mg "isinstance" = none) (hg:Gl X x) (hm:X.mg x = none) (hb:bootBuiltins x = some (.type T)) (hn2:x≠"__name__") (hd:(x == ("__debug__":Str)) = false) :
 PE X (.Call (.Name "isinstance" p) [.Name n np,.Name x xp] [] pos) (tI i a b):=by
 have hA:PA X [.Name n np,.Name x xp] (kE (zw i) (kE (tC (.ty T)) xg)):=eZ hn (eZ (Ba hg hm hb rfl hn2 hd) ia rfl) rfl;exact PE.to (gW hc hi hmi rfl hA ⇑0 ⇑0 rfl rfl) λσ H Q ⟨e,q⟩=>⟨_,e,rfl,q⟩
def Qm (h1:PE X y (tI i a b1)) (h2:PE X (.BoolOp .And (z::r) pos) (tI i a b2)):PE X (.BoolOp .And (y::z::r) pos) (tI i a (b1 && b2)):=PE.to (FP h1 h2) λσ H Q zz=>by
 obtain ⟨e,q⟩:=zz;refine ⟨e,b1,rfl,?_⟩
 cases b1 with
 | true=>exact kr ⟨e,q⟩
 | false=>exact jq q
def FH (h1:PE X y (tI i a b1)) (h2:PE X (.BoolOp .Or (z::r) pos) (tI i a b2)):PE X (.BoolOp .Or (y::z::r) pos) (tI i a (b1 || b2)):=PE.to (KP h1 h2) λσ H Q zz=>by
 obtain ⟨e,q⟩:=zz;refine ⟨e,b1,rfl,?_⟩
 cases b1 with
 | true=>exact kr q
 | false=>exact jq ⟨e,q⟩
def Jn (h1:PE X y (tI i a b)):PE X (.UnaryOp .Not y pos) (tI i a (!b)):=PE.to (FI h1) λσ H Q ⟨e,q⟩=>⟨e,b,rfl,q⟩
end
noncomputable abbrev cxA (P:aO) (w:aZ) (K:PySem.W.Frag) (mg:Str->Option af) (base:bG) (N:List Str) (qual:Str) (scope:eX) (f:aq) (cd:af) (A:aR) (outer:List Env) (s:ah) (H:Hp) (pn:List (aq × Obj)):Cx :=
 { ka CX0 P w K mg base N qual scope f cd A outer s H E0 with calm:=false,pn:=pn,xe:=λ_ _=>False }
section
variable {Y:Cx} {x n name qual:Str} {params:wA} {body:List bD} {scope:eX} {dV kV doc pm cdv ct oc:af} {an od:Option aq} {osl:Array (Option af)} {N:List Str} {q:Str} {f a:aq} {oe:Obj} {j:Nat} {p np pos:Pos} {t:TS}
def MQ (lk:Y.K.lookup f = some ⟨oc,od,.func (PySem.W.fnOf name qual params body scope dV kV doc pm an cdv ct),osl⟩) (hcd:PySem.W.codeIn Y.K cdv qual = true) (S:jj N [q] scope)
 (hb:Binds Y.K (PySem.W.fnOf name qual params body scope dV kV doc pm an cdv ct) [q] []) (hd:Y.A.depth < recursionLimit) (hp:(a,oe)∈Y.pn) (hg:Gl Y x) (hm:Y.mg x = some (.ref f)) (hk:PySem.W.keepIn Y.K (.ref f) = true) (hdb:(x == ("__debug__":Str)) = false)
 (hbody:∀ A outer s H,PSs (cxA Y.prog Y.w Y.K Y.mg Y.base N qual scope f cdv A outer s H [(a,oe)]) body t) (hn:PE Y (.Name n np) (zw j)) :
 PE Y (.Call (.Name x p) [.Name n np] [] pos) (λσ H Q=>σ[j]? = some (some (.ref a))/\t { nx:=λ_ H'=>Q .non H',rt:=Q } (start N [.ref a]) H):=by
 intro pins s0 σ H0 Q I0 h;obtain ⟨e,h⟩:=h;refine fy (jT I0 hg hm ?_ hdb);have hA:PA Y [.Name n np] (kE (zw j) xg):=eZ hn ia rfl;refine PySem.W.callWith_K (h₀:=Y.base) I0.ok.mod.kin hk (thn (hA pos pins s0 σ H0 (λvs H1=>vs = [.ref a]/\H1 = H0) I0 ⟨_,e,rfl,rfl⟩) λus s ⟨vs,H,I,r,q1⟩=>⟨I.kIn,?_⟩) rfl rfl;obtain ⟨rfl,rfl⟩:=q1;obtain ⟨u,rfl,ru⟩:=r.one;obtain rfl:u = .ref a:=ru;have e0:=I.env0;have lim:s.heap.NoLimit:=e0.mod.nolimit.keeps λb o e=>(e0.bs b o e).1
 have hkind:∀ y∈[q].zip [bj a],scope.names.lookup y.1 = some .local\/(scope.names.lookup y.1 = some .cell/\((cellsFrom (s.heap.objs.size+1) scope.names []).lookup y.1).isSome = true):=λ⟨n,v⟩ hy=>by
  rcases S.par n (gk hy).1 with q | q
  . exact .inl q
  . exact .inr ⟨q,PySem.W.cellsFrom_some _ _ _ (.inl q)⟩
 refine Am ?_;refine HN hd (I.kIn _ _ lk) rfl S.co S.gen rfl (PySem.W.codeRec_of I.kIn hcd) (hb s [.ref a] I.kIn rfl _ _ _ _ ?_);refine Al S.kind hkind λenv he s1 x=>?_;subst he;refine ⟨lim.keeps x.toInCall.keep,codeAny_func ?_⟩;have e1:HE Y.prog Y.w Y.K Y.mg Y.base { Y.A with handled:=none } Y.stack s H:=⟨e0.frames,e0.mod,e0.bs,e0.bsz,e0.funs,e0.frf,e0.hok,e0.bare⟩;have J:Inv (ka CX0 Y.prog Y.w Y.K Y.mg Y.base N qual scope f cdv { Y.A with handled:=none } Y.stack s H E0) [] (start N [.ref a]) H s1:=uq S rfl e1 rfl r x;obtain ⟨p1,p2,p3,p4,p5⟩:=I.pin (a,oe) (aF _ hp)
 have I1:Inv (cxA Y.prog Y.w Y.K Y.mg Y.base N qual scope f cdv Y.A Y.stack s H [(a,oe)]) [] (start N [.ref a]) H s1 :=
  ⟨⟨J.ok.mod,J.ok.kind,J.ok.glob,J.ok.blt,J.ok.above,J.ok.inj,J.ok.has,J.ok.cab,(λz=>nomatch z),yV e0.frames,J.ok.stk,J.ok.exf,J.ok.bs,J.ok.bsz,J.ok.noex,J.ok.exfs,J.ok.funs,J.ok.frf⟩,J.os,J.bare,J.base,J.loc,J.cell,J.free,J.freeC,λz hz=>by
    obtain rfl:z = (a,oe):=by simpa using hz
    exact ⟨x.toInCall.keep _ _ p1,p2,aH (az p1),λz=>(aB.mp (I.stkSub a z)).elim p3 p4,p5⟩,J.hok,J.len⟩
 refine cP (hbody Y.A Y.stack s H [] s1 (start N [.ref a]) H _ I1 h) (λfl s' hs=>?_) λe s' hs=>hs.elim
 cases fl with
 | ret u =>
   obtain ⟨v,σ',H',J,rv,q⟩:=hs
   exact I.after ⟨v,H',J.os,J.bare,J.base,J.hok,rv,q⟩
 | next =>
   obtain ⟨σ',H',J,q⟩:=hs
   exact I.after (u:=.none) ⟨.non,H',J.os,J.bare,J.base,J.hok,rfl,q⟩
 | brk =>
   obtain ⟨_,_,_,q⟩:=hs
   exact bS q
 | cont =>
   obtain ⟨_,_,_,q⟩:=hs;exact bS q
end
end L2
end
section
namespace PP
open PySem L2 PyProof.Rows
variable [Tbs]
mutual
inductive R where
 | st (s:S)
 | rse (c:Str)
 | cal (s:S) (f g:Nat) (es:Es)
 | ifs (t:E) (a b:Rs)
 | whl (t:E) (body:Rs)
inductive Rs where
 | nil | cons (r:R) (rs:Rs)
end
abbrev OR:=Out ⊕ (Str × Loc)
def md (t:Loc->Option (Bool × Loc)) (f:Loc->Option OR):Nat->Loc->Option OR
 | 0,_=>none
 | n+1,δ=>match t δ with
   | some (true,δ1)=>(match f δ1 with
     | some (.inl (.nx δ2))=>md t f n δ2
     | o=>o)
   | some (false,δ1)=>some (.inl (.nx δ1))
   | none=>none
mutual
noncomputable def evR (cx:Cl):R->Loc->Option OR
 | .st s,δ=>(evS cx s δ).map .inl
 | .rse c,δ=>some (.inr (c,δ))
 | .cal s f g es,δ=>match eH cx es δ with
   | some (ds,δ1)=>(match cx.call g ds with
     | some (.str c)=>some (.inr (c,δ1))
     | _=>(evS cx s δ).map .inl)
   | none=>none
 | .ifs t a b,δ=>match evT cx t δ with
   | some (true,δ1)=>fO cx a δ1
   | some (false,δ1)=>fO cx b δ1
   | none=>none
 | .whl t body,δ=>md (λδ0=>evT cx t δ0) (λδ0=>fO cx body δ0) 1000 δ
noncomputable def fO (cx:Cl):Rs->Loc->Option OR
 | .nil,δ=>some (.inl (.nx δ))
 | .cons r rs,δ=>match evR cx r δ with
   | some (.inl (.nx δ1))=>fO cx rs δ1
   | o=>o
end
def BS (K:PySem.W.Frag) (mg:Str->Option af) (G:Gh) (F:aq->Prop) (H:Hp) (r:OR) (D:Ends) (W:L2.St->XK):Prop :=
 match r with
 | .inl o=>uK K G F H o D
 | .inr (c,δ')=>∀ σ' H' F',Step G F H F' H'->Ok K G F' σ' H' δ'->∃ u,mg c = some u/\W σ' u none H'
def BS.step {K:PySem.W.Frag} {mg:Str->Option af} {G:Gh} {F F1:aq->Prop} {H H1:Hp} {r:OR} {D:Ends} {W:L2.St->XK} (st:Step G F H F1 H1) (h:BS K mg G F H r D W):BS K mg G F1 H1 r D W:=by
 cases r with
 | inl o=>exact uK.step st h
 | inr p=>exact λσ' H' F' s k=>h σ' H' F' (st.trans s) k
def tR (K:PySem.W.Frag) (mg:Str->Option af) (W:L2.St->XK) (ev:Loc->Option OR):TS:=λD σ H=>∃ G F δ r,Ok K G F σ H δ/\ev δ = some r/\BS K mg G F H r D W
def spX (K:PySem.W.Frag) (mg:Str->Option af) (f:List D->Option D):Sp:=λvs H _ E=>∃ F ds c u,FD F H/\TF F/\kY H/\aK K H F ds vs/\f ds = some (.str c)/\mg c = some u/\∀ H',Sim H H'->kY H'->E u none H'
section
variable {K:PySem.W.Frag} {cx:Cl} {X:Cx} {W:L2.St->XK}
def EZ:PSs X [] (tR X.K X.mg W (fO cx .nil)):=PSs.imp pT λD σ H zz=>by
 obtain ⟨G,F,δ,o,ok,ev,post⟩:=zz;simp only [fO] at ev;cases ev;exact post σ H F Step.refl ok
def CH {r:R} {rs:Rs} {y:bD} {ys:List bD} (h1:PS X y (tR X.K X.mg W (evR cx r))) (h2:PSs X ys (tR X.K X.mg W (fO cx rs))):PSs X (y::ys) (tR X.K X.mg W (fO cx (.cons r rs))):=PSs.imp (kH h1 h2) λD σ H zz=>by
 obtain ⟨G,F,δ,o,ok,ev,post⟩:=zz;simp only [fO] at ev
 cases e:evR cx r δ with
 | none=>rw [e] at ev;cases ev
 | some o1 =>
   rw [e] at ev
   cases o1 with
   | inr p=>cases ev;exact ⟨G,F,δ,_,ok,e,post⟩
   | inl o1 =>
     cases o1 with
     | nx δ1=>exact ⟨G,F,δ,.inl (.nx δ1),ok,e,λσ' H' F' st ok'=>⟨G,F',δ1,o,ok',ev,post.step st⟩⟩
     | rt d δ1=>cases ev;exact ⟨G,F,δ,_,ok,e,post⟩
     | ro d δ1=>cases ev;exact ⟨G,F,δ,_,ok,e,post⟩
def IP (h:PS X y (tS X.K (evS cx s))):PS X y (tR X.K X.mg W (evR cx (.st s))):=PS.imp h λD σ H zz=>by
 obtain ⟨G,F,δ,o,ok,ev,post⟩:=zz;simp only [evR,aJ] at ev;obtain ⟨o1,e,rfl⟩:=ev;exact ⟨G,F,δ,o1,ok,e,post⟩
def Fb {t:E} {a b:Rs} {y:aG} {ya yb:List bD} {pos:Pos} (ht:PT X y (tT X.K cx t)) (ha:PSs X ya (tR X.K X.mg W (fO cx a))) (hb:PSs X yb (tR X.K X.mg W (fO cx b))):PS X (.If y ya yb pos) (tR X.K X.mg W (evR cx (.ifs t a b))):=PS.imp (FC ht ha hb) λD σ H zz=>by
 obtain ⟨G,F,δ,out,ok,ev,post⟩:=zz;simp only [evR] at ev
 cases e1:evT cx t δ with
 | none=>rw [e1] at ev;cases ev
 | some p =>
   obtain ⟨q,δ1⟩:=p;rw [e1] at ev;refine ⟨G,F,δ,q,δ1,ok,e1,λH1 F1 st sm ok1=>?_⟩
   cases q with
   | true=>exact kr ⟨G,F1,δ1,out,ok1,ev,post.step st⟩
   | false=>exact jq ⟨G,F1,δ1,out,ok1,ev,post.step st⟩
def EY {x t:Str} {C:aq} {np cp j2 pos:Pos} {j:Nat} (R:Rz X W) (hc:X.calm = true) (hg:Gl X x) (hm:X.mg x = some (.ref C)) (hC:VE X.K C = true) (hd:(x == ("__debug__":Str)) = false) :
 PS X (.Raise (some (.Call (.Name x np) [.Constant (.str t) j j2] [] cp)) none pos) (tR X.K X.mg W (evR cx (.rse x))):=PS.imp (Fx R hc hg hm hC hd) λD σ H zz=>by
 obtain ⟨G,F,δ,out,ok,ev,post⟩:=zz;simp only [evR] at ev;cases ev;obtain ⟨u,e,q⟩:=post σ H F Step.refl ok;rw [hm] at e;cases e;exact q
def qK (n:jR es = true) (hO:PS X y (tS X.K (evS cx s)))
 (hX:PS X y (λD σ H=>tEs X.K cx es σ H λvs H1=>spX X.K X.mg (cx.call g) vs H1 (λ_ _=>True) (W σ))):PS X y (tR X.K X.mg W (evR cx (.cal s f g es))):=PS.imp (PS.or hO hX) λD σ H zz=>by
 obtain ⟨G,F,δ,o,ok,ev,post⟩:=zz;simp only [evR] at ev
 cases ea:eH cx es δ with
 | none=>rw [ea] at ev;cases ev
 | some p =>
   obtain ⟨ds,δ1⟩:=p;rw [ea] at ev;dsimp only at ev
   have ord:(evS cx s δ).map mJ = some o->tS X.K (evS cx s) D σ H\/(tEs X.K cx es σ H λvs H1=>spX X.K X.mg (cx.call g) vs H1 (λ_ _=>True) (W σ)):=λev=>by
    simp only [aJ] at ev;obtain ⟨o1,e,rfl⟩:=ev;exact Or.inl ⟨G,F,δ,o1,ok,e,post⟩
   cases ec:cx.call g ds with
   | none=>rw [ec] at ev;exact ord ev
   | some d =>
     rw [ec] at ev
     cases d with
     | str c =>
       cases ev;refine .inr ⟨G,F,δ,ds,δ1,ok,ea,λvs H1 F1 st1 sm1 ok1 r1=>?_⟩;obtain ⟨u,e1,_⟩:=post σ H1 F1 st1 ok1;refine ⟨F1,ds,c,u,ok1.fd,ok1.tf,ok1.tabs,r1.rl n,ec,e1,λH2 s2 t2=>?_⟩;obtain ⟨u',e2,q⟩:=post σ H2 F1 (st1.trans (ok1.call s2 t2).2) (ok1.call s2 t2).1;rw [e1] at e2;cases e2
       exact q
     | _=>exact ord ev
def EW {t:E} {body:Rs} {y:aG} {ys:List bD} {pos:Pos} (hp:pA (model X.prog X.w) X.A X.env X.xe) (ht:PT X y (tT X.K cx t)) (hb:PSs X ys (tR X.K X.mg W (fO cx body))):PS X (.While y ys [] pos) (tR X.K X.mg W (evR cx (.whl t body))):=by
 refine PS.imp (xK hp ht hb) λD σ H zz=>?_;obtain ⟨G,F,δ,out,ok,ev,post⟩:=zz;simp only [evR] at ev;refine ⟨λm σ' H'=>∃ F' δ',Step G F H F' H'/\Ok X.K G F' σ' H' δ'/\md (λδ0=>evT cx t δ0) (λδ0=>fO cx body δ0) m δ' = some out,⟨1000,F,δ,Step.refl,ok,ev⟩,?_⟩;rintro m σ' H' ⟨F',δ',st',ok',ev'⟩
 cases m with
 | zero=>cases ev'
 | succ m =>
   unfold md at ev'
   cases ec:evT cx t δ' with
   | none=>rw [ec] at ev';cases ev'
   | some q =>
     obtain ⟨b,δ1⟩:=q;rw [ec] at ev';refine ⟨G,F',δ',b,δ1,ok',ec,λH1 F1 st1 sm1 ok1=>?_⟩;have sA:=st'.trans st1
     cases b with
     | true =>
       refine kr ?_;dsimp only at ev';refine ⟨λσ2 H2=>∃ m',m' < m+1/\∃ F2 δ2,Step G F H F2 H2/\Ok X.K G F2 σ2 H2 δ2/\md (λδ0=>evT cx t δ0) (λδ0=>fO cx body δ0) m' δ2 = some out,λσ2 H2 z=>z,?_⟩
       cases hf:fO cx body δ1 with
       | none=>rw [hf] at ev';cases ev'
       | some o1 =>
         rw [hf] at ev';refine ⟨G,F1,δ1,o1,ok1,hf,?_⟩
         cases o1 with
         | inr p=>cases ev';exact λσ3 H4 F4 s4 k4=>post σ3 H4 F4 (sA.trans s4) k4
         | inl o1 =>
           cases o1 with
           | nx δ3=>exact λσ3 H4 F4 s4 k4=>⟨m,∅,F4,δ3,sA.trans s4,k4,ev'⟩
           | rt d3 δ3=>cases ev';exact λv σ3 H4 F4 s4 k4 r4=>post v σ3 H4 F4 (sA.trans s4) k4 r4
           | ro d3 δ3=>cases ev';exact λa xs σ3 H4 F4 s4 k4=>post a xs σ3 H4 F4 (sA.trans s4) k4
     | false =>
       refine jq ?_;cases ev';exact post σ' H1 F1 sA ok1
end
def Ir:bD->Nat
 | .Raise .. => 1
 | .Try .. => 2
 | _=>0
def PF (x:bD):Nat->Prop
 | 1=>∃ e c p,x = .Raise e c p
 | 2=>∃ b h o f p,x = .Try b h o f p
 | _=>True
def GJ (x:bD):PF x (Ir x):=by
 cases x<;>first | trivial | exact ⟨_,_,_,rfl⟩ | exact ⟨_,_,_,_,_,rfl⟩
def Bt (h:((Ir x == n) && b) = true):PF x n/\b = true:=by
 rw [aa] at h;exact ⟨eq_of_beq h.1▸GJ x,h.2⟩
def rsE:bD->Option aG
 | .Raise e _ _=>e
 | _=>none
def rsC:bD->Option aG
 | .Raise _ c _=>c
 | _=>none
def La (n:Str) (x:bD):Bool:=(Ir x == 1) && ((rsC x).isNone && onO (rsE x) λe=>mY e λm as=>on1 as λa=>onC a (λv=>onT v λ_=>true) && decide (m = n))
def GC (h:La n x = true):∃ np t j j2 cp pos,x = .Raise (some (.Call (.Name n np) [.Constant (.str t) j j2] [] cp)) none pos:=by
 obtain ⟨⟨e,c,p,rfl⟩,h1⟩:=Bt h;rw [aa] at h1;have hc:c = none:=cU.mp h1.1;obtain ⟨y,hy,h2⟩:=oo h1.2;have hy:e = some y:=hy;obtain ⟨m,np,as,cp,rfl,h3⟩:=dH h2;obtain ⟨a,rfl,h4⟩:=cT h3;rw [aa] at h4;obtain ⟨v,j,j2,rfl,h5⟩:=kJ h4.1;obtain ⟨t,rfl,_⟩:=zP h5;rw [hc,hy,of_decide_eq_true h4.2];exact ⟨_,_,_,_,_,_,rfl⟩
mutual
noncomputable def ckR (cls:List Str) (xs:List (Nat × Nat)) (c:Ck):R->bD->Bool
 | .st s,x=>ckS c s x
 | .rse n,x=>La n x && dw c n && cls.contains n
 | .cal s f g es,x=>ckS c s x && xs.contains (f,g) && (uj x (λy=>onO y λy=>ckE c (.call f es) y) || (zR x (λy=>ckE c (.call f es) y) || lW x λts y=>on1 ts λt=>cH t λt=>(bo c.N.length).any (λi=>eV c i t) && ckE c (.call f es) y))
 | .ifs t a b,x=>xR x λy ya yb=>ckE c t y && pH cls xs c a ya && pH cls xs c b yb
 | .whl t b,x=>JA x λy ys z=>on0 z (ckE c t y && pH cls xs c b ys && !cls.isEmpty)
noncomputable def pH (cls:List Str) (xs:List (Nat × Nat)) (c:Ck):Rs->List bD->Bool
 | .nil,zs=>on0 zs true
 | .cons r rs,zs=>onS zs λy ys=>ckR cls xs c r y && pH cls xs c rs ys
end
section
variable {X:Cx} {cls:List Str} {xs:List (Nat × Nat)} {c:Ck} {cx:Cl} {k:Nat} {W:L2.St->XK}
def Hs (C:Cok X.nox c cx k) (Z:uL X W) (hfg:(f,g)∈xs) (h:ckE c (.call f es) y = true)
 (fx:∀ (f g:Nat) (x:Str) (ps:List Str),(f,g)∈xs->c.fns[f]? = some (x,ps)->∃ a fd,X.mg x = some (.ref a)/\PySem.W.keepIn X.K (.ref a) = true/\Binds X.K fd ps []/\gM X.prog X.w X.K X.mg X.base (CXE X.prog X.w) k a fd ps (spX X.K X.mg (cx.call g))) :
 jR es = true/\(∃ n np as p,y = .Call (.Name n np) as [] p)/\PE X y (λσ H _=>tEs X.K cx es σ H λvs H1=>spX X.K X.mg (cx.call g) vs H1 (λ_ _=>True) (W σ)):=by
 obtain ⟨n,np,as,p,rfl,hh⟩:=dH h;split at hh
 . rename_i m ps hf;simp only [aa] at hh;obtain ⟨⟨⟨⟨⟨h1,h2⟩,h3⟩,h4⟩,h5⟩,h6⟩:=hh;have e:=of_decide_eq_true h1;subst e;obtain ⟨a,fd,hm,hk,hb,fn⟩:=fx f g _ _ hfg hf;obtain ⟨g1,g2,g3⟩:=C.global h2;refine ⟨h5,⟨_,_,_,_,rfl⟩,?_⟩;have hA:=fY es X.nox c as C h4 (iZ h5)
   cases as with
   | nil=>simp at h6
   | cons y ys =>
     obtain ⟨_,_,_,c1,c2⟩:=iE h4;exact FN Z fn C.room g1 hm hk hb hA.nox g2 (cW (cG c1) _ _) (iH c2)
 . cases hh
def Rb (C:Cok X.nox c cx k) (Z:uL X W) (hfg:(f,g)∈xs) (hO:PS X x (tS X.K (evS cx s)))
 (fx:∀ (f g:Nat) (x:Str) (ps:List Str),(f,g)∈xs->c.fns[f]? = some (x,ps)->∃ a fd,X.mg x = some (.ref a)/\PySem.W.keepIn X.K (.ref a) = true/\Binds X.K fd ps []/\gM X.prog X.w X.K X.mg X.base (CXE X.prog X.w) k a fd ps (spX X.K X.mg (cx.call g)))
 (h:(uj x (λy=>onO y λy=>ckE c (.call f es) y) || (zR x (λy=>ckE c (.call f es) y) || lW x λts y=>on1 ts λt=>cH t λt=>(bo c.N.length).any (λi=>eV c i t) && ckE c (.call f es) y)) = true):PS X x (tR X.K X.mg W (evR cx (.cal s f g es))):=by
 rcases iS.mp h with h | h
 . obtain ⟨y,pos,rfl,h1⟩:=rh h;obtain ⟨y,rfl,h2⟩:=oo h1;obtain ⟨n,⟨m,np,as,p,rfl⟩,pe⟩:=Hs C Z hfg h2 fx;exact qK n hO (PS.imp (zI pe) λD σ H q=>q)
 rcases iS.mp h with h | h
 . obtain ⟨y,pos,rfl,h1⟩:=pW h;obtain ⟨n,⟨m,np,as,p,rfl⟩,pe⟩:=Hs C Z hfg h1 fx;exact qK n hO (PS.imp (pU pe (by rfl)) λD σ H q=>q)
 . obtain ⟨ts,y,pos,rfl,h1⟩:=iL h;obtain ⟨t,rfl,h2⟩:=cT h1;obtain ⟨t,tp,rfl,h3⟩:=bC h2;rw [aa] at h3;obtain ⟨i,_,hi⟩:=cA.mp h3.1;obtain ⟨n,⟨m,np,as,p,rfl⟩,pe⟩:=Hs C Z hfg h3.2 fx;obtain ⟨n1,n2,n3⟩:=C.to hi;exact qK n hO (PS.imp (vx C.nd' n1 n2 pe (jW (x:=.Call (.Name m np) as [] p) rfl rfl _ _ _) n3) λD σ H q=>q)
variable (C:Cok X.nox c cx k) (hS:X.env.scope = c.sc) (hB:X.env.blockKind = .function) (Z:uL X W) (Zm:cls≠[]->Rz X W) (hp:cls≠[]->pA (model X.prog X.w) X.A X.env X.xe)
 (fx:∀ (f g:Nat) (x:Str) (ps:List Str),(f,g)∈xs->c.fns[f]? = some (x,ps)->∃ a fd,X.mg x = some (.ref a)/\PySem.W.keepIn X.K (.ref a) = true/\Binds X.K fd ps []/\gM X.prog X.w X.K X.mg X.base (CXE X.prog X.w) k a fd ps (spX X.K X.mg (cx.call g)))
 (hcl:∀ n,n∈cls->∃ C,X.mg n = some (.ref C)/\VE X.K C = true)
include C hS hB Z Zm hp fx hcl
mutual
theorem QI:∀ (r:R) (x:bD),ckR cls xs c r x = true->PS X x (tR X.K X.mg W (evR cx r))
 | .st s,x,h=>IP (PS.nox (IM C hS hB s x h))
 | .rse n,x,h=>by
   simp only [ckR,aa] at h;obtain ⟨np,t,j,j2,cp,pos,rfl⟩:=GC h.1.1;obtain ⟨C',hm,hC⟩:=hcl n (by simpa using h.2);obtain ⟨g1,g2,g3⟩:=C.global h.1.2
   exact EY (Zm (by rintro rfl;simp at h)) C.calm g1 hm hC g2
 | .cal s f g es,x,h=>by
   simp only [ckR] at h;rw [aa,aa] at h
   exact Rb C Z (by simpa using h.1.2) (PS.nox (IM C hS hB s x h.1.1)) fx h.2
 | .ifs t a b,x,h=>by
   obtain ⟨_,_,_,_,rfl,hq1⟩:=rk h;simp only [aa] at hq1
   exact Fb (PT.nox (mf t X.nox c _ C hq1.1.1)) (qJ a _ hq1.1.2) (qJ b _ hq1.2)
 | .whl t b,x,h=>by
   obtain ⟨_,_,_,_,rfl,hq1⟩:=Bc h;obtain ⟨rfl,hq2⟩:=eE hq1;simp only [aa] at hq2;exact EW (hp (by rintro rfl;simp at hq2)) (PT.nox (mf t X.nox c _ C hq2.1.1)) (qJ b _ hq2.1.2)
theorem qJ:∀ (rs:Rs) (zs:List bD),pH cls xs c rs zs = true->PSs X zs (tR X.K X.mg W (fO cx rs))
 | .nil,zs,h=>by
   obtain ⟨rfl,_⟩:=eE h
   exact EZ
 | .cons r rs,zs,h=>by
   obtain ⟨_,_,rfl,hq1⟩:=dk h;rw [aa] at hq1;exact CH (QI r _ hq1.1) (qJ rs _ hq1.2)
end
end
inductive Qt where
 | isI (p:Str) | ty | or (a b:Qt) | nt (a:Qt)
def Qt.ev (up:List Str):Qt->Bool
 | .isI p=>up.contains p
 | .ty=>true
 | .or a b=>a.ev up || b.ev up
 | .nt a=>!a.ev up
inductive Qs where
 | nil | ask (i:Nat) (f:Str) (l:List (Qt × Str)) (r:Qs)
def wy (up:List Str):List (Qt × Str)->List Str
 | []=>[]
 | (q,t)::l=>if q.ev up = true then t::wy up l else wy up l
def Qs.ev (up:List Str):Qs->Loc->Loc
 | .nil,δ=>δ
 | .ask i _ l r,δ=>r.ev up (δ.set i (.val (.lst ((wy up l).map .str))))
def JX:Option Sl->Bool
 | some .no=>true
 | _=>false
def JW (h:JX o = true):o = some .no:=by
 unfold JX at h;split at h
 . rfl
 . cases h
def wY (ups:List (Str × List Str)) (rs:Rs) (j:Nat) (qs:Qs) (cx:Cl) (δ:Loc):Option Out:=match fO cx rs δ with
 | some (.inl o)=>some o
 | some (.inr (c,δ1))=>(match ups.lookup c with
   | some up=>if JX δ1[j]? = true then some (.nx (qs.ev up δ1)) else none
   | none=>none)
 | none=>none
def Dl (c:Ck) (j:Nat) (ps:List Str):Qt->aG->Bool
 | .isI p,x=>mY x λf as=>on2 as λu v=>cH u (λn=>fu c j n) && cH v (λm=>decide (m = p)) && decide (f = ("isinstance":Str)) && dw c f && dw c p && ps.contains p
 | .ty,x=>mY x λf as=>on2 as λu v=>cH u (λn=>fu c j n) && cH v (λm=>decide (m = ("ValueError":Str))) && decide (f = ("isinstance":Str)) && dw c f && dw c "ValueError"
 | .or a b,x=>CV x λo vs p=>onS vs λy r=>onS r λz r2=>(match o with
   | .And=>false
   | .Or=>true) && Dl c j ps a y && Dl c j ps b (match r2 with
   | []=>z
   | _::_=>.BoolOp .Or (z::r2) p)
 | .nt a,x=>CU x λo y=>GD o && Dl c j ps a y
def NY (c:Ck) (j:Nat) (ps:List Str):Qs->List bD->Bool
 | .nil,zs=>on0 zs true
 | .ask i f l r,zs=>onS zs λz zr=>(lW z λts y=>on1 ts λt=>cH t λt=>eV c i t && (mY y λg as=>on1 as λu=>cH u (λn=>fu c j n) && decide (g = f) && dw c g) && decide (i≠j)) && NY c j ps r zr
def NZ (c:Ck) (ps:List Str):List (Qt × Str)->List bD->Bool
 | [],zs=>on1 zs λz=>uj z λy=>onO y λy=>cH y λn=>fu c 1 n
 | (q,t)::l,zs=>onS zs λz zr=>(xR z λx ya yb=>Dl c 0 ps q x && on0 yb (on1 ya λw=>zR w λw=>onM w λy m as=>cH y λy=>on1 as λz=>decide (m = ("append":Str)) && fu c 1 y && onC z λv=>onT v λs=>decide (s = t))) && NZ c ps l zr
def Hm (c:Ck) (ps:List Str) (l:List (Qt × Str)) (zs:List bD):Bool :=
 onS zs λz zr=>(lW z λts y=>on1 ts λt=>cH t λt=>eV c 1 t && Be y λes=>on0 es true) && NZ c ps l zr && decide (l.length < 1000)
structure Qk (Y:Cx) (c:Ck):Prop where
 nd:Y.N.Nodup
 name:∀ {i x},fu c i x = true->Y.N[i]? = some x/\Vis Y.env.scope x/\(x == ("__debug__":Str)) = false/\(x == ("__classdict__":Str)) = false
 to:∀ {i x},eV c i x = true->Y.N[i]? = some x/\L2.Loc Y.env.scope x/\(Y.fn x = true\/Y.env.scope.names.lookup x = some .local)
 glo:∀ {x},dw c x = true->Gl Y x/\(x == ("__debug__":Str)) = false/\x≠("__name__":Str)
 isi:Y.mg "isinstance" = none
 hz:Y.mg "ValueError" = none
def Pk {P:aO} {w:aZ} {K:PySem.W.Frag} {mg:Str->Option af} {base:bG} {N:List Str} {qual:Str} {sc:eX} {f:aq} {cd:af} {A:aR} {outer:List Env} {s:ah} {H:Hp} {pn:List (aq × Obj)} (nd:N.Nodup) (h1:mg "isinstance" = none) (h2:mg "ValueError" = none) :
 Qk (cxA P w K mg base N qual sc f cd A outer s H pn) ⟨N,sc,[],[]⟩:=⟨nd,λh=>by
 unfold fu at h;rw [aa,aa] at h;obtain ⟨n1,n2,n3⟩:=pX h.2;exact ⟨of_decide_eq_true h.1.1,wW h.1.2,n1,n2⟩,λh=>by
 unfold eV at h;rw [aa,aa] at h;exact ⟨of_decide_eq_true h.1.1,xZ h.1.2,.inl rfl⟩,λh=>by
 unfold dw at h;rw [aa] at h;obtain ⟨n1,n2,n3⟩:=pX h.2;exact ⟨GU h.1,n1,n3⟩,h1,h2⟩
structure Dz (X:Cx) (ps:List Str) (C:aq) (up:List Str):Prop where
 ve:VE X.K C = true
 qc:vw X.K C = true
 sub:∀ p,p∈ps->∃ P,X.mg p = some (.ref P)/\VE X.K P = true/\subIn X.K C P = up.contains p
def Qi {c:Ck} {j:Nat} {ps:List Str}:∀ {q:Qt} {x:aG},Dl c j ps q x = true->fW x = true/\jU x = false
 | .isI _,_,h=>by obtain ⟨_,_,_,_,rfl,_⟩:=dH h;exact ⟨rfl,rfl⟩
 | .ty,_,h=>by obtain ⟨_,_,_,_,rfl,_⟩:=dH h;exact ⟨rfl,rfl⟩
 | .or _ _,_,h=>by obtain ⟨_,_,_,rfl,_⟩:=jQ h;exact ⟨rfl,rfl⟩
 | .nt _,_,h=>by obtain ⟨_,_,_,rfl,_⟩:=lD h;exact ⟨rfl,rfl⟩
def tIt (i:Nat) (a:aq) (b:Bool):TT:=λσ H Q=>σ[i]? = some (some (.ref a))/\Q b H
def PT.to (h:PT X e t) (w:∀ σ H Q,u σ H Q->t σ H Q):PT X e u:=λpins s σ H Q I q=>h pins s σ H Q I (w σ H Q q)
section
variable {Y:Cx} {c:Ck} {ps:List Str} {j:Nat} {a C:aq} {oe:Obj} {up:List Str}
 (K1:Qk Y c) (U:Dz Y ps C up) (hp:(a,oe)∈Y.pn) (hc:oe.cls = .ref C)
include K1 U hp hc
theorem AI:∀ (q:Qt) (x:aG),Dl c j ps q x = true->PE Y x (L2.tI j a (q.ev up))/\PT Y x (tIt j a (q.ev up))/\∀ o vs p,x = .BoolOp o vs p->PW Y x (tIt j a (q.ev up))
 | .isI p,x,h=>by
   obtain ⟨f,np,as,pos,rfl,hq1⟩:=dH h;obtain ⟨u,v,rfl,hq2⟩:=rA hq1;simp only [aa] at hq2;obtain ⟨⟨⟨⟨⟨h1,h2⟩,h3⟩,h4⟩,h5⟩,h6⟩:=hq2;obtain ⟨n,np1,rfl,h1'⟩:=bC h1;obtain ⟨m,mp,rfl,h2'⟩:=bC h2;obtain rfl:=of_decide_eq_true h2';obtain rfl:=of_decide_eq_true h3;obtain ⟨P,hm,hP,hs⟩:=U.sub m (by simpa using h6);obtain ⟨n1,n2,n3,n4⟩:=K1.name h1';obtain ⟨g1,g2,g3⟩:=K1.glo h4;obtain ⟨g4,g5,g6⟩:=K1.glo h5
   have key:PE Y (.Call (.Name "isinstance" np) [.Name n np1,.Name m mp] [] pos) (L2.tI j a ((Qt.isI m).ev up)):=by
    refine Jp (P:=P) (iK n1 n2 n3 n4) ?_ g1 K1.isi g4 hm g5;show cE Y _ (λxs H Q=>xs = [.ref a,.ref P]/\Q (.bl (up.contains m)) H)
    cases q:up.contains m with
    | true=>exact NW hp hc U.ve hP (hs.trans q)
    | false=>exact NV hp hc U.ve U.qc hP (hs.trans q)
   exact ⟨key,PT.to (Fv key) (λσ H Q ⟨e,q⟩=>⟨e,_,rfl,q⟩),λ_ _ _ z=>by cases z⟩
 | .ty,x,h=>by
   obtain ⟨f,np,as,pos,rfl,hq1⟩:=dH h;obtain ⟨u,v,rfl,hq2⟩:=rA hq1;simp only [aa] at hq2;obtain ⟨⟨⟨⟨h1,h2⟩,h3⟩,h4⟩,h5⟩:=hq2;obtain ⟨n,np1,rfl,h1'⟩:=bC h1;obtain ⟨m,mp,rfl,h2'⟩:=bC h2;obtain rfl:=of_decide_eq_true h2';obtain rfl:=of_decide_eq_true h3;obtain ⟨n1,n2,n3,n4⟩:=K1.name h1';obtain ⟨g1,g2,g3⟩:=K1.glo h4;obtain ⟨g4,g5,g6⟩:=K1.glo h5
   have key:PE Y (.Call (.Name "isinstance" np) [.Name n np1,.Name "ValueError" mp] [] pos) (L2.tI j a (Qt.ty.ev up)) :=
    Jo (T:="ValueError") (iK n1 n2 n3 n4) (NU hp hc U.ve rfl ⇑0) g1 K1.isi g4 K1.hz rfl g6 g5
   exact ⟨key,PT.to (Fv key) (λσ H Q ⟨e,q⟩=>⟨e,_,rfl,q⟩),λ_ _ _ z=>by cases z⟩
 | .or q1 q2,x,h=>by
   obtain ⟨o,_,p,rfl,hq1⟩:=jQ h;obtain ⟨y,r,rfl,hq2⟩:=dk hq1;obtain ⟨z,r2,rfl,hq3⟩:=dk hq2;simp only [aa] at hq3;obtain ⟨⟨h0,h1⟩,h2⟩:=hq3;cases o<;>first | (cases h0;done) | skip
   obtain ⟨a1,a2,a3⟩:=AI q1 _ h1;obtain ⟨b1,b2,b3⟩:=AI q2 _ h2
   have kw:PW Y (.BoolOp .Or (y::z::r2) p) (tIt j a ((Qt.or q1 q2).ev up)):=by
    have k2:PW Y (.BoolOp .Or (y::z::r2) p) (tOr (tIt j a (q1.ev up)) (tIt j a (q2.ev up))):=by
     cases r2 with
     | nil=>exact Fu a2 (Ft b2)
     | cons w r=>exact Fu a2 (b3 _ _ _ rfl)
    refine λwh pins s σ H Q I ⟨e,q⟩=>k2 wh pins s σ H Q I ⟨e,?_⟩;have q':Q (q1.ev up || q2.ev up) H:=q
    cases z1:q1.ev up with
    | true=>rw [z1] at q';exact kr q'
    | false=>rw [z1] at q';exact jq ⟨e,q'⟩
   refine ⟨?_,kw.pt,λ_ _ _ _=>kw⟩
   cases r2 with
   | nil=>exact FH a1 (zM b1)
   | cons w r=>exact FH a1 b1
 | .nt q1,x,h=>by
   obtain ⟨o,_,_,rfl,hh⟩:=lD h;simp only [aa] at hh;obtain rfl:=rM hh.1;obtain ⟨a1,a2,a3⟩:=AI q1 _ hh.2;exact ⟨Jn a1,PT.to (Fw a2) (λσ H Q q=>q),λ_ _ _ z=>by cases z⟩
def tAs (a:aq) (up:List Str) (l:List (Qt × Str)):TS:=λD σ H=>∃ p xs,σ[0]? = some (some (.ref a))/\σ[1]? = some (some (.ref p))/\H p = some (.lst xs)/\xs.length+l.length < 1000/\∀ H',H' p = some (.lst (xs++(wy up l).map .str))->(∀ b,b≠p->H' b = H b)->D.rt (.ref p) H'
theorem KJ:∀ (l:List (Qt × Str)) (zs:List bD),NZ c ps l zs = true->PSs Y zs (tAs a up l)
 | [],zs,h=>by
   obtain ⟨z,rfl,h1⟩:=cT h;obtain ⟨y,pos,rfl,h2⟩:=rh h1;obtain ⟨y,rfl,h3⟩:=oo h2;obtain ⟨n,np,rfl,h4⟩:=bC h3;obtain ⟨n1,n2,n3,n4⟩:=K1.name h4;refine PSs.imp (AW (zI (iK n1 n2 n3 n4))) λD σ H zz=>?_;obtain ⟨p,xs,e0,e1,e2,e3,q⟩:=zz
   exact ⟨_,e1,q H (by rw [e2];simp [wy]) λ_ _=>rfl⟩
 | (qt,t)::l,zs,h=>by
   obtain ⟨z,zr,rfl,h1⟩:=dk h;rw [aa] at h1;obtain ⟨x,ya,yb,pos,rfl,h2⟩:=rk h1.1;rw [aa] at h2;obtain ⟨rfl,h3⟩:=eE h2.2;obtain ⟨w,rfl,h4⟩:=cT h3;obtain ⟨w,wp,rfl,h5⟩:=pW h4;obtain ⟨y,m,ap,as,cp,rfl,hl,h6⟩:=zQ h5;obtain ⟨y,yp,rfl,h7⟩:=bC h6;obtain ⟨z,rfl,h8⟩:=cT h7;simp only [aa] at h8;obtain ⟨⟨h9,h10⟩,h11⟩:=h8;obtain rfl:=of_decide_eq_true h9;obtain ⟨v,vn,vp,rfl,h12⟩:=kJ h11;obtain ⟨s,rfl,h13⟩:=zP h12;obtain rfl:=of_decide_eq_true h13;obtain ⟨n1,n2,n3,n4⟩:=K1.name h10;have hA:PA Y [.Constant (.str s) vn vp] (kE (tC (.str s)) xg):=eZ zL ia rfl;have h14:=(AI K1 U hp hc qt x h2.1).2.1;have ih:=KJ l zr h1.2;refine PSs.imp (kH (FC h14 (AW (pU (FO PySem.F.plainAttrs_list PySem.F.slot_list_append PySem.F.type_list_append ox (iK n1 n2 n3 n4) hA rfl rfl (by simpa using hl) rfl rfl))) pT) ih) λD σ H zz=>?_;obtain ⟨p,xs,e0,e1,e2,e3,q⟩:=zz;rw [aI] at e3;refine ⟨e0,?_⟩;unfold wy at q
   cases z1:qt.ev up with
   | true =>
     rw [if_pos z1] at q;refine kr ⟨_,e1,.inl ⟨rfl,_,SqL.of e2⟩,_,_,_,rfl,rfl,e2,Nat.lt_trans (show xs.length < 1000 by lia) ⇑0,p,xs++[.str s],e0,e1,cm,by rw [ay,dO];lia,λH' g1 g2=>q H' ?_ λb hb=>(g2 b hb).trans (bN hb)⟩
     rw [g1,fA];rfl
   | false =>
     rw [if_neg (by rw [z1];simp)] at q;exact jq ⟨p,xs,e0,e1,e2,∅,q⟩
theorem Mn {l:List (Qt × Str)} {zs:List bD} (h:Hm c ps l zs = true):PSs Y zs (λD σ H=>σ[0]? = some (some (.ref a))/\1 < σ.length/\∀ p H',H p = none->H' p = some (.lst ((wy up l).map .str))->(∀ b,b≠p->H' b = H b)->D.rt (.ref p) H'):=by
 obtain ⟨z,zr,rfl,h1⟩:=dk h;simp only [aa] at h1;obtain ⟨⟨h1,h2⟩,h3⟩:=h1;have h3:=of_decide_eq_true h3;obtain ⟨ts,y,pos,rfl,h4⟩:=iL h1;obtain ⟨t,rfl,h5⟩:=cT h4;obtain ⟨t,tp,rfl,h6⟩:=bC h5;rw [aa] at h6;obtain ⟨es,ep,rfl,h7⟩:=mX h6.2;obtain ⟨rfl,_⟩:=eE h7;obtain ⟨n1,n2,n3⟩:=K1.to h6.1;refine PSs.imp (kH (vx K1.nd n1 n2 (zN ia) rfl n3) (KJ K1 U hp hc l zr h2)) λD σ H zz=>?_;obtain ⟨e0,e1,q⟩:=zz;refine ⟨cC _,λp hn=>⟨p,[],by rw [aU ⇑0];exact e0,bV e1,cm,by simpa using h3,λH' g1 g2=>q p H' hn (by simpa using g1) λb hb=>(g2 b hb).trans (bN hb)⟩⟩
def yI (K:PySem.W.Frag) (mg:Str->Option af) (ps:List Str) (f:Str) (l:List (Qt × Str)):Prop:=∃ (fa:aq) (st:bD) (fd:dU) (q x:Str),mg f = some (.ref fa)/\PySem.W.keepIn K (.ref fa) = true/\L2.Fun K f f st fa fd/\jj [q,x] [q] (aS st)/\Binds K fd [q] []/\Hm ⟨[q,x],aS st,[],[]⟩ ps l (cO st) = true
def Qs.asks:Qs->List (Str × List (Qt × Str))
 | .nil=>[]
 | .ask _ f l r=>(f,l)::r.asks
def tQ (K:PySem.W.Frag) (j:Nat) (a:aq) (ev:Loc->Loc):TS:=λD σ H=>∃ G F δ,Ok K G F σ H δ/\δ[j]? = some .no/\σ[j]? = some (some (.ref a))/\∀ σ' H',Sim H H'->kY H'->Ok K G F σ' H' (ev δ)->(ev δ)[j]? = some .no->D.nx σ' H'
theorem KI (hd:Y.A.depth < recursionLimit):∀ (q:Qs) (zs:List bD),NY c j ps q zs = true->(∀ p∈q.asks,yI Y.K Y.mg ps p.1 p.2)->PSs Y zs (tQ Y.K j a (q.ev up))
 | .nil,zs,h,_=>by
   obtain ⟨rfl,_⟩:=eE h
   exact PSs.imp pT λD σ H ⟨G,F,δ,ok,e1,e2,q⟩=>q σ H (Sim.refl H) ok.tabs ok e1
 | .ask i f l r,zs,h,hk=>by
   obtain ⟨z,zr,rfl,hq1⟩:=dk h;rw [aa] at hq1;obtain ⟨ts,y,pos,rfl,hq2⟩:=iL hq1.1;obtain ⟨t,rfl,hq3⟩:=cT hq2;obtain ⟨t,tp,rfl,hq4⟩:=bC hq3;simp only [aa] at hq4;obtain ⟨⟨h1,h2⟩,h3⟩:=hq4;have hne:=of_decide_eq_true h3;obtain ⟨g,gp,as,cp,rfl,h4⟩:=dH h2;obtain ⟨u,rfl,h5⟩:=cT h4;simp only [aa] at h5;obtain ⟨⟨h6,h7⟩,h8⟩:=h5;obtain rfl:=of_decide_eq_true h7;obtain ⟨n,np,rfl,h9⟩:=bC h6;obtain ⟨n1,n2,n3⟩:=K1.to h1;obtain ⟨g1,g2,g3⟩:=K1.glo h8;obtain ⟨m1,m2,m3,m4⟩:=K1.name h9;obtain ⟨fa,st,fd,q,x,a1,a2,a3,a4,a5,a6⟩:=hk _ au;obtain ⟨oc,od,dV,kV,doc,pm,an,cdv,ct,osl,rfl,lk,hcd⟩:=a3.ex;have ih:=KI hd r zr hq1.2 λp z=>hk p (ar _ z)
   have body:=λ(A:aR) (outer:List Env) (s:ah) (H:Hp) =>
    Mn (Y:=cxA Y.prog Y.w Y.K Y.mg Y.base [q,x] g (aS st) fa cdv A outer s H [(a,oe)]) (up:=up) (Pk a4.nd K1.isi K1.hz) ⟨U.ve,U.qc,U.sub⟩ au hc a6
   refine PSs.imp (kH (vx K1.nd n1 n2 (MQ lk hcd a4 a5 hd hp g1 a1 a2 g2 body (iK m1 m2 m3 m4)) (jW (x:=.Call (.Name g gp) [.Name n np] [] cp) rfl rfl _ _ _) n3) ih) λD σ H zz=>?_;obtain ⟨G,F,δ,ok,d1,d2,w⟩:=zz;refine ⟨d2,rfl,cK 1,λp H' hn e1 e2=>?_⟩;have sm:Sim H H':=⟨λb o _ e=>by rw [e2 b (by rintro rfl;rw [hn] at e;cases e)];exact e,λb qs e=>⟨qs,by rw [e2 b (by rintro rfl;rw [hn] at e;cases e)];exact e⟩⟩;have tb:kY H':=ok.tabs.keep λb o _ e=>by rw [e2 b (by rintro rfl;rw [hn] at e;cases e)];exact e
   obtain ⟨ok',_⟩:=ok.call sm tb
   have rl:∀ l:List Str,aK Y.K H' F (l.map .str) (l.map .str):=λl=>by
    induction l with
    | nil=>exact aK.nil
    | cons t l ih=>exact aK.cons (iY t) ih
   have rr:Rel Y.K H' F (.lst ((wy up l).map .str)) (.ref p):=by
    unfold Rel;exact ⟨p,_,rfl,.inl ⟨.inl e1,ok.fd.none hn⟩,rl _⟩
   have ok2:Ok Y.K G F (σ.set i (some (.ref p))) H' (δ.set i (.val (.lst ((wy up l).map .str)))):=by
    by_cases hi:i < δ.length
    . exact ok'.set hi rr
    . rw [wC (by rw [<- ok'.len];lia),wC ∅];exact ok'
   refine ⟨G,F,_,ok2,?_,?_,λσ' H2 s2 t2 o2 e=>w σ' H2 (sm.trans s2) t2 o2 e⟩
   . rw [aU hne];exact d1
   . rw [aU hne];exact d2
end
def tyB:bD->List bD
 | .Try b _ _ _ _=>b
 | _=>[]
def tyH:bD->List lx
 | .Try _ h _ _ _=>h
 | _=>[]
def tyO:bD->List bD
 | .Try _ _ o _ _=>o
 | _=>[]
def tyF:bD->List bD
 | .Try _ _ _ f _=>f
 | _=>[]
def ehT:lx->Option aG
 | .ExceptHandler t _ _ _=>t
def ehN:lx->Option Str
 | .ExceptHandler _ n _ _=>n
def ehB:lx->List bD
 | .ExceptHandler _ _ b _=>b
def KU (x:bD) (k:List bD->Str->Str->bD->List bD->Bool):Bool:=(Ir x == 2) && on0 (tyO x) (on0 (tyF x) (on1 (tyH x) λh=>onO (ehT h) λe=>cH e λp=>onS (ehB h) λb r=>match ehN h with
 | some n=>k (tyB x) p n b r
 | none=>false))
def FR (h:KU x k = true):∃ body p n b r np hp pos,x = .Try body [.ExceptHandler (some (.Name p np)) (some n) (b::r) hp] [] [] pos/\k body p n b r = true:=by
 obtain ⟨⟨body,hs,o,f,pos,rfl⟩,h1⟩:=Bt h;obtain ⟨e1,h2⟩:=eE h1;obtain ⟨e2,h3⟩:=eE h2;obtain ⟨⟨t,n,b,hp⟩,e3,h4⟩:=cT h3;obtain ⟨y,e4,h5⟩:=oo h4;obtain ⟨p,np,rfl,h6⟩:=bC h5;obtain ⟨b0,r,e5,h7⟩:=dk h6;have e1:o = []:=e1;have e2:f = []:=e2;have e3:hs = [.ExceptHandler t n b hp]:=e3;have e4:t = some (.Name p np):=e4;have e5:b = b0::r:=e5;subst e1 e2 e3 e4 e5
 cases n with
 | none=>cases h7
 | some n=>exact ⟨body,p,n,b0,r,np,hp,pos,rfl,h7⟩
inductive Yt where
 | st (s:S) | tr (rs:Rs) (j:Nat) (qs:Qs)
def Yt.asks:Yt->List (Str × List (Qt × Str))
 | .st _=>[]
 | .tr _ _ qs=>qs.asks
def yS (ups:List (Str × List Str)):List Yt->Ss
 | []=>.nil
 | .st s::r=>.cons s (yS ups r)
 | .tr rs j qs::r=>.cons (.opq (wY ups rs j qs)) (yS ups r)
def Lg (c:Ck) (xs:List (Nat × Nat)) (ps:List Str) (ups:List (Str × List Str)) (rs:Rs) (j:Nat) (qs:Qs) (x:bD):Bool :=
 KU x λbody p n b r=>pH [] xs c rs body && NY c j ps qs (b::r) && dw c p && ps.contains p && decide (c.N[j]? = some n) && decide (c.sc.names.lookup n = some .local) && ups.all λu=>u.2.contains p
def ckY (c:Ck) (xs:List (Nat × Nat)) (ps:List Str) (ups:List (Str × List Str)):List Yt->List bD->Bool
 | [],zs=>on0 zs true
 | .st s::r,zs=>onS zs λy ys=>ckS c s y && ckY c xs ps ups r ys
 | .tr rs j qs::r,zs=>onS zs λy ys=>Lg c xs ps ups rs j qs y && ckY c xs ps ups r ys
def Ok.keepNo {K:PySem.W.Frag} {G:Gh} {F:aq->Prop} {σ:L2.St} {H:Hp} {δ:Loc} (h:Ok K G F σ H δ) {j:Nat} (e:δ[j]? = some .no) (v:Option V):Ok K G F (σ.set j v) H δ:=by
 refine ⟨h.same,h.fd,h.rf,h.rl,h.tf,h.tabs,by rw [bO];exact h.len,λi s hi=>?_,λi i' s t a e1 e2 o1 o2 a1 a2=>?_⟩
 . by_cases q:i = j
   . subst q;rw [e] at hi;cases hi;trivial
   . rw [aU (Ne.symm q)];exact h.sl i s hi
 . have n1:i≠j:=by rintro rfl;rw [e] at e1;cases e1;cases o1
   have n2:i'≠j:=by rintro rfl;rw [e] at e2;cases e2;cases o2
   rw [aU (Ne.symm n1)] at a1;rw [aU (Ne.symm n2)] at a2;exact h.apart i i' s t a e1 e2 o1 o2 a1 a2
section
variable {X:Cx} {c:Ck} {cx:Cl} {k:Nat} {ps:List Str} {xs:List (Nat × Nat)} {ups:List (Str × List Str)}
def Cok.tried (C:Cok X c cx k) (pn:List (aq × Obj)) (xe:af->ah->Prop):Cok (X.tried pn xe).nox c cx k:={ C with xe:=rfl }
def Ml (K1:Cok X c cx k) (hS:X.env.scope = c.sc) (hB:X.env.blockKind = .function) (hz:X.mg "ValueError" = none) (fr:X.ex = []/\X.stack = X.env::X.outer/\X.env.frame = some X.env.locals)
 (fx:∀ (f g:Nat) (x:Str) (ps:List Str),(f,g)∈xs->c.fns[f]? = some (x,ps)->∃ a fd,X.mg x = some (.ref a)/\PySem.W.keepIn X.K (.ref a) = true/\Binds X.K fd ps []/\gM X.prog X.w X.K X.mg X.base (CXE X.prog X.w) k a fd ps (spX X.K X.mg (cx.call g)))
 (hps:∀ p,p∈ps->∃ P,X.mg p = some (.ref P)/\VE X.K P = true) (hup:∀ n up,ups.lookup n = some up->∃ C,X.mg n = some (.ref C)/\Dz X ps C up) {rs:Rs} {j:Nat} {qs:Qs} {x:bD} (hak:∀ p∈qs.asks,yI X.K X.mg ps p.1 p.2) (ck:Lg c xs ps ups rs j qs x = true):PS X x (tS X.K (evS cx (.opq (wY ups rs j qs)))):=by
 obtain ⟨body,p,n,b,r,np,hp,pos,rfl,h⟩:=FR ck;simp only [aa] at h;obtain ⟨⟨⟨⟨⟨⟨h1,h2⟩,h3⟩,h4⟩,h5⟩,h6⟩,h7⟩:=h;have h5:=of_decide_eq_true h5;have h6:=of_decide_eq_true h6;obtain ⟨g1,g2,g3⟩:=K1.global h3;obtain ⟨f1,f2,f3⟩:=fr;obtain ⟨P,hm,hP⟩:=hps p (by simpa using h4);refine PS.imp (MF (i:=j) (P:=P) (tb:=λE=>tR X.K X.mg E (fO cx rs)) (ts:=λa C D σ H=>∃ up,Dz X ps C up/\tQ X.K j a (qs.ev up) D σ H) f1 f2 f3 g1 hm hP g2 K1.nd' (by rw [K1.hN];exact h5) (show X.env.scope.names.lookup n = some .local by rw [hS];exact h6) (show X.env.scope.names.lookup n = some .local by rw [hS];exact h6) (λE pn xe hpass=>?_) (λa C=>?_)) λD σ H ⟨G,F,δ,o,ok,ev,post⟩=>?_
 . exact qJ (X:=X.tried pn xe) (cls:=[]) (K1.tried pn xe) hS hB hpass (λz=>absurd rfl z) (λz=>absurd rfl z) fx (λn z=>by simp at z) rs body h1
 . exact λoe vs pins s σ H D c1 c2 I ⟨up,U,q⟩=>ME (t:=tQ X.K j a (qs.ev up)) (λoe vs pn c1 c2 hp=>KI (Y:=(X.mrk a).tried pn λ_ _=>False) ⟨K1.nd',λh=>K1.name h,λh=>K1.to h,λh=>K1.global h,K1.blt _ ⇑0,hz⟩ ⟨U.ve,U.qc,U.sub⟩ hp c1 K1.room.depth qs _ h2 hak) oe vs pins s σ H D c1 c2 I q
 . have ev:wY ups rs j qs cx δ = some o:=ev;unfold wY at ev;refine ⟨λσ1 u _ H1=>∃ nm δ1 F1,fO cx rs δ = some (.inr (nm,δ1))/\X.mg nm = some u/\Step G F H F1 H1/\Ok X.K G F1 σ1 H1 δ1,?_,?_⟩
   . cases er:fO cx rs δ with
     | none=>rw [er] at ev;cases ev
     | some r =>
       rw [er] at ev;refine ⟨G,F,δ,r,ok,er,?_⟩
       cases r with
       | inl o1=>cases ev;exact post
       | inr q =>
         obtain ⟨nm,δ1⟩:=q;dsimp only at ev;split at ev
         . rename_i up hl;obtain ⟨C,hC,_⟩:=hup nm up hl;exact λσ' H' F' st ok'=>⟨_,hC,nm,δ1,F',rfl,hC,st,ok'⟩
         . cases ev
   . rintro σ1 u H1 ⟨nm,δ1,F1,er,hu,st,ok1⟩;rw [er] at ev;dsimp only at ev;split at ev
     . rename_i up hl;obtain ⟨C,hC,U⟩:=hup nm up hl;rw [hu] at hC;cases hC;obtain ⟨P',hm',_,hs⟩:=U.sub p (by simpa using h4);rw [hm] at hm';cases hm';split at ev
       . rename_i hn;cases ev;have hj:=JW hn;have hlt:j < σ1.length:=by rw [<- ok1.len];exact (aD.mp hj).1
         refine ⟨C,rfl,U.ve,?_,λa=>⟨up,U,G,F1,δ1,ok1.keepNo hj _,hj,bV hlt,λσ' H' sm tb ok' e'=>?_⟩⟩
         . rw [hs];have hmem:(nm,up)∈ups:=PySem.mem_of_lookup hl;exact bq.mp h7 _ hmem
         . exact post _ _ F1 (st.trans (ok1.call sm tb).2) (ok'.keepNo e' _)
       . cases ev
     . cases ev
def Mj (K1:Cok X c cx k) (hS:X.env.scope = c.sc) (hB:X.env.blockKind = .function) (hz:X.mg "ValueError" = none) (fr:X.ex = []/\X.stack = X.env::X.outer/\X.env.frame = some X.env.locals)
 (fx:∀ (f g:Nat) (x:Str) (ps:List Str),(f,g)∈xs->c.fns[f]? = some (x,ps)->∃ a fd,X.mg x = some (.ref a)/\PySem.W.keepIn X.K (.ref a) = true/\Binds X.K fd ps []/\gM X.prog X.w X.K X.mg X.base (CXE X.prog X.w) k a fd ps (spX X.K X.mg (cx.call g)))
 (hps:∀ p,p∈ps->∃ P,X.mg p = some (.ref P)/\VE X.K P = true) (hup:∀ n up,ups.lookup n = some up->∃ C,X.mg n = some (.ref C)/\Dz X ps C up):∀ (ys:List Yt) (zs:List bD),(∀ p∈ys.flatMap Yt.asks,yI X.K X.mg ps p.1 p.2)->ckY c xs ps ups ys zs = true->PSs X zs (tS X.K (dD cx (yS ups ys)))
 | [],zs,_,h=>by
   obtain ⟨rfl,_⟩:=eE h
   exact xo
 | .st s::r,zs,hk,h=>by
   obtain ⟨_,_,rfl,hq⟩:=dk h;rw [aa] at hq
   exact og (IM K1 hS hB s _ hq.1) (Mj K1 hS hB hz fr fx hps hup r _ hk hq.2)
 | .tr rs j qs::r,zs,hk,h=>by
   obtain ⟨_,_,rfl,hq⟩:=dk h;rw [aa] at hq;exact og (Ml K1 hS hB hz fr fx hps hup (λp z=>hk p (aF _ z)) hq.1) (Mj K1 hS hB hz fr fx hps hup r _ (λp z=>hk p (aQ _ z)) hq.2)
def lV (rs:Rs):Ss:=.cons (.opq λcx δ=>match fO cx rs δ with
 | some (.inl o)=>some o
 | _=>none) .nil
def QH (K1:Cok X c cx k) (hS:X.env.scope = c.sc) (hB:X.env.blockKind = .function)
 (fx:∀ (f g:Nat) (x:Str) (ps:List Str),(f,g)∈xs->c.fns[f]? = some (x,ps)->∃ a fd,X.mg x = some (.ref a)/\PySem.W.keepIn X.K (.ref a) = true/\Binds X.K fd ps []/\gM X.prog X.w X.K X.mg X.base (CXE X.prog X.w) k a fd ps (spX X.K X.mg (cx.call g)))
 (hcl:∀ n,n∈cls->∃ C,X.mg n = some (.ref C)/\VE X.K C = true) {rs:Rs} {zs:List bD} (h:pH cls xs c rs zs = true):PSs X zs (tS X.K (dD cx (lV rs))):=by
 have C':Cok X.nox c cx k:={ K1 with xe:=rfl };refine PSs.imp (qJ (X:=X) (W:=λ_=>E0) C' hS hB KL.pass (λ_=>KL) (λ_=>by rw [K1.xe];exact oQ) fx hcl rs zs h) λD σ H zz=>?_;obtain ⟨G,F,δ,o,ok,ev,post⟩:=zz;refine ⟨G,F,δ,.inl o,ok,?_,post⟩;unfold lV at ev;simp only [dD,evS] at ev
 cases er:fO cx rs δ with
 | none=>rw [er] at ev;cases ev
 | some r =>
   rw [er] at ev
   cases r with
   | inr q=>cases ev
   | inl o1=>cases o1<;>(cases ev;rfl)
end
class Xs where
 xs:List (Nat × Nat)
variable [Xs]
def FX (X:Cx) (cf:List (Str × List Str)) (cx:Cl) (k:Nat):Prop:=(X.ex = []/\X.stack = X.env::X.outer/\X.env.frame = some X.env.locals)/\∀ (f g:Nat) (x:Str) (ps:List Str),(f,g)∈Xs.xs->cf[f]? = some (x,ps)->∃ a fd,X.mg x = some (.ref a)/\PySem.W.keepIn X.K (.ref a) = true/\Binds X.K fd ps []/\gM X.prog X.w X.K X.mg X.base (CXE X.prog X.w) k a fd ps (spX X.K X.mg (cx.call g))
def iW (rs:Rs):Ss:=.cons (.opq λcx δ=>match fO cx rs δ with
 | some (.inr (c,δ1))=>some (.rt (.str c) δ1)
 | _=>none) .nil
structure Dn (K:PySem.W.Frag) (mgv:Str->Option af) (cf:List (Str × List Str)) (gn:List Str) (fd:Fd) (st:bD) (a:aq) (fdd:dU):Prop where
 fn:Fun K fd.name fd.name st a fdd
 mg:mgv fd.name = some (.ref a)
 sc:jj (fd.ps++fd.loc) fd.ps (aS st)
 ck:wg ⟨fd.ps++fd.loc,aS st,cf,gn⟩ fd.body (cO st) = true\/∀ (X:Cx) (cx:Cl) (k:Nat),Cok X ⟨fd.ps++fd.loc,aS st,cf,gn⟩ cx k->X.env.scope = aS st->X.env.blockKind = .function->X.K = K->X.mg = mgv->FX X cf cx k->PSs X (cO st) (tS K (dD cx fd.body))
 bd:Binds K fdd fd.ps []
def BP (K:PySem.W.Frag) (mg:Str->Option af) (cf:List (Str × List Str)) (gn:List Str):List Fd->Prop
 | []=>True
 | fd::r=>(∃ st a fdd,Dn K mg cf gn fd st a fdd)/\BP K mg cf gn r
def oH {K:PySem.W.Frag} {mg:Str->Option af} {cf:List (Str × List Str)} {gn:List Str}:∀ {G:List Fd} {i:Nat} {fd:Fd},BP K mg cf gn G->G[i]? = some fd->∃ st a fdd,Dn K mg cf gn fd st a fdd
 | [],_,_,_,e=>by simp at e
 | f::r,0,fd,h,e=>by
   cases e
   exact h.1
 | f::r,i+1,fd,h,e=>oH (i:=i) h.2 (by simpa using e)
def cfOf (G:List Fd):List (Str × List Str):=G.map λfd=>(fd.name,fd.ps)
structure Top (w:aZ) (K:PySem.W.Frag) (mg:Str->Option af) (G Gd:List Fd) (gl:List D) (gn:List Str):Prop where
 fns:BP K mg (cfOf Gd) gn Gd
 sub:∀ (i:Nat) (fd:Fd),Gd[i]? = some fd->G[i]? = some fd
 xw:∀ i g,(i,g)∈Xs.xs->∃ fd st a fdd,Gd[i]? = some fd/\Dn K mg (cfOf Gd) gn fd st a fdd/\∃ rs cls,G[g]? = some ⟨fd.name,fd.ps,fd.loc,iW rs,false⟩/\pH cls Xs.xs ⟨fd.ps++fd.loc,aS st,cfOf Gd,gn⟩ rs (cO st) = true/\∀ n,n∈cls->∃ C,mg n = some (.ref C)/\VE K C = true
 few:G.length<=vB
 blt:∀ x,x∈jD->mg x = none
 glob:∀ (g:Nat) (x:Str) (d:D),gn[g]? = some x->gl[g]? = some d->∃ u v,mg x = some u/\RelV v u/\∀ H F,Rel K H F d v
 gsome:∀ (g:Nat) (x:Str),gn[g]? = some x->∃ d,gl[g]? = some d
 gds:∀ (n:Str) (l:List (Str × Int)),Tbs.gds.lookup n = some l->∃ a,mg n = some (.ref a)/\GdK w K a l
 dfs:∀ f∈Tbs.dfs,∃ fd st a fdd,Gd[f]? = some fd/\Dn K mg (cfOf Gd) gn fd st a fdd/\Binds K fdd fd.ps [.none]
def qH {K:PySem.W.Frag} {H:Hp} {F:aq->Prop} {ds:List D} {vs:List V} {N:List Str} (fd:FD F H) (tf:TF F) (tb:kY H) (r:aK K H F ds vs) (hl:vs.length<=N.length):Ok K ⟨H,λb=>F b/\∃ o,H b = some o/\Mo o⟩ F (start N vs) H (init N.length ds):=by
 have hlen:=r.length
 have low:∀ (i:Nat) (s:Sl),(init N.length ds)[i]? = some s->s = .no\/∃ d,ds[i]? = some d/\s = .val d:=λi s e=>by
  unfold init at e;by_cases hi:i < ds.length
  . rw [ba (by simpa using hi),bf,aA hi] at e;cases e;exact .inr ⟨_,aA hi,rfl⟩
  . rw [bz (by simp;omega),gE] at e;split at e
    . cases e;exact .inl rfl
    . cases e
 refine ⟨Sim.refl H,fd,λb z=>z.1,λb z=>z.2,tf,tb,?_,λi s e=>?_,λi j s t a e1 _ o1=>?_⟩
 . unfold init L2.start;simp only [ay,av,gY];omega
 . rcases low i s e with rfl | ⟨d,e1,rfl⟩
   . trivial
   . obtain ⟨v,hv,rv⟩:=r.get e1;refine ⟨v,?_,rv⟩;unfold L2.start;have hi:i < vs.length:=(aD.mp hv).1;rw [ba (by simpa using hi),bf,hv];rfl
 . rcases low i _ e1 with z | ⟨d,_,z⟩<;>(subst z;cases o1)
def DR (rs:Rs) (np n:Nat) (cx:Cl) (ds:List D):Option D:=if ds.length = np then (match fO cx rs (init n ds) with
 | some (.inr (c,_))=>some (.str c)
 | _=>none) else none
def okX {P:aO} {w:aZ} {K:PySem.W.Frag} {mg:Str->Option af} {base:bG} {x qual:Str} {st:bD} {f:aq} {fd:dU} {N ps:List Str} {n:Nat} {cls:List Str} {xs:List (Nat × Nat)} {cf:List (Str × List Str)} {gn:List Str} {cx:Cl} {rs:Rs} (F:Fun K x qual st f fd) (S:jj N ps (aS st)) (hps:ps.length<=N.length)
 (C:∀ (A:aR) (outer:List Env) (s:ah) (H:Hp) (E:XK),kv n (A.deeper (envOfC qual (aS st) s.heap.objs.size f fd.code))->Cok (ka (CXE P w) P w K mg base N qual (aS st) f fd.code A outer s H E).nox ⟨N,aS st,cf,gn⟩ cx n)
 (fx:∀ (f g:Nat) (x:Str) (ps:List Str),(f,g)∈xs->cf[f]? = some (x,ps)->∃ a fd,mg x = some (.ref a)/\PySem.W.keepIn K (.ref a) = true/\Binds K fd ps []/\gM P w K mg base (CXE P w) n a fd ps (spX K mg (cx.call g)))
 (hcl:∀ n,n∈cls->∃ C,mg n = some (.ref C)/\VE K C = true)
 (ck:pH cls xs ⟨N,aS st,cf,gn⟩ rs (cO st) = true):gM P w K mg base (CXE P w) (n+1) f fd ps (spX K mg (DR rs ps.length N.length cx)):=by
 obtain ⟨oc,od,dV,kV,doc,pm,an,cdv,ct,osl,rfl,lk,hcd⟩:=F.ex;refine Ld lk hcd S (λvs H Q E h=>?_) λA outer s H vs Q E hr hsp=>?_
 . obtain ⟨F,ds,c,u,_,_,_,r,e,_⟩:=h;unfold DR at e;split at e
   . rename_i hl;rw [r.length];exact hl
   . cases e
 . obtain ⟨F,ds,c,u,hfd,htf,tb,r,e,hm,q⟩:=hsp;unfold DR at e;split at e
   . rename_i hl
     have hblk:(ka (CXE P w) P w K mg base N qual (aS st) f cdv A outer s H E).env.blockKind = .function:=by
      unfold Env.blockKind;show (if (aS st).kind.isAnnotationScope then yL else (aS st).kind) = _;rw [S.kind];rfl
     refine ⟨_,qJ (W:=λ_=>E) (C A outer s H E hr) rfl hblk KQ (λ_=>Pc) (λ_=>PassesOwn.leaving) fx hcl rs _ ck,?_⟩
     cases ev:fO cx rs (init N.length ds) with
     | none=>rw [ev] at e;cases e
     | some o =>
       rw [ev] at e
       cases o with
       | inl o=>cases e
       | inr p =>
         obtain ⟨c',δ'⟩:=p;cases e;exact ⟨_,F,_,_,qH hfd htf tb r (by rw [r.length,hl];exact hps),ev,λσ' H' F' st ok'=>⟨u,hm,q H' ok'.same ok'.tabs⟩⟩
   . cases e
def grow {K:PySem.W.Frag} {H H':Hp} {F F':aq->Prop} {σ:L2.St} {δ:Loc} (hfd:FD F H) (ok:Ok K ⟨H,λb=>F b/\∃ o,H b = some o/\Mo o⟩ F' σ H' δ) (b:aq) (z:F b):F' b:=by
 obtain ⟨o,e,m | ⟨⟨ps,rfl⟩,t,ht,eb⟩⟩:=hfd b z
 . exact ok.rf b ⟨z,o,e,m⟩
 . rw [<- eb];exact ok.tf t ht
def okC {P:aO} {w:aZ} {K:PySem.W.Frag} {mg:Str->Option af} {base:bG} {x qual:Str} {st:bD} {f:aq} {fd:dU} {N ps:List Str} {k:Nat} {sp:Sp} (F:Fun K x qual st f fd) (S:jj N ps (aS st)) (len:∀ vs H Q E,sp vs H Q E->vs.length = ps.length)
 (hbody:∀ (A:aR) (outer:List Env) (s:ah) (H:Hp) (vs:List V) (Q:VK) (E:XK),kv k (A.deeper (envOfC qual (aS st) s.heap.objs.size f fd.code))->sp vs H Q E ->
   ∃ t,PSs (ka CX0 P w K mg base N qual (aS st) f fd.code A outer s H E).nox (cO st) t/\t { nx:=λ_ H'=>Q .non H',rt:=Q } (L2.start N vs) H):gM P w K mg base CX0 (k+1) f fd ps sp:=by
 obtain ⟨oc,od,dV,kV,doc,pm,an,cdv,ct,osl,rfl,lk,hcd⟩:=F.ex;refine Ld lk hcd S len λA outer s H vs Q E hr hsp=>?_;obtain ⟨t,h,q⟩:=hbody A outer s H vs Q E hr hsp;exact ⟨t,h.nox,q⟩
section
variable {P:aO} {w:aZ} {K:PySem.W.Frag} {mg:Str->Option af} {base:bG} {G Gd:List Fd} {gl:List D} {gn:List Str}
def BM (mg:Str->Option af) (base:bG):Prop:=∃ bm ob,mg "__builtins__" = some (.ref bm)/\bm≠builtinsNs/\base.get? bm = some ob/\ob.cls = .type "module"/\ob.dict = some builtinsNs/\ob.data = .plain
def vi {n i:Nat} {fd:Fd} (e:G[i]? = some fd) {ds:List D} {d:D} (h:run G gl (n+1) i ds = some d):ds.length = fd.ps.length/\∃ δ,entry fd.hf (fd.ps++fd.loc).length ds = some δ/\outD (dD ⟨run G gl n,gl,hfs G⟩ fd.body δ) = some d:=by
 unfold run at h;rw [e] at h;dsimp only at h;split at h
 . cases q:entry fd.hf (fd.ps++fd.loc).length ds with
   | none=>rw [q] at h;cases h
   | some δ=>rw [q] at h;exact ⟨‹_›,δ,rfl,h⟩
 . cases h
def Bb {n i:Nat} {fd:Fd} (few:G.length<=vB) (e:G[i]? = some fd) {ds:List D} {d:D} (h:run G gl (n+1) (i+vB) ds = some d):ds.length = fd.ps.length/\∃ δ,entry fd.hf (fd.ps++fd.loc).length ds = some δ/\MR (dD ⟨run G gl n,gl,hfs G⟩ fd.body δ) = some d:=by
 unfold run at h;rw [cX (by omega)] at h;dsimp only at h;rw [oV,e] at h;dsimp only at h;split at h
 . cases q:entry fd.hf (fd.ps++fd.loc).length ds with
   | none=>rw [q] at h;cases h
   | some δ=>rw [q] at h;exact ⟨(‹_/\_›).2,δ,rfl,h⟩
 . cases h
def OG {G:List Fd} {gl:List D} {n g:Nat} {nm:Str} {ps loc:List Str} {rs:Rs} (e:G[g]? = some ⟨nm,ps,loc,iW rs,false⟩) {ds:List D} {c:Str} (h:run G gl (n+1) g ds = some (.str c)):DR rs ps.length (ps++loc).length ⟨run G gl n,gl,hfs G⟩ ds = some (.str c):=by
 obtain ⟨hl,δ,e1,h2⟩:=vi e h;cases e1;unfold DR;rw [if_pos hl];unfold iW at h2;simp only [dD,evS] at h2
 cases q:fO ⟨run G gl n,gl,hfs G⟩ rs (init (ps++loc).length ds) with
 | none=>rw [q] at h2;cases h2
 | some o =>
   rw [q] at h2
   cases o with
   | inl o=>cases h2
   | inr p=>cases h2;rfl
def NO {P:aO} {w:aZ} {K:PySem.W.Frag} {mg:Str->Option af} {base:bG} {n:Nat} {a:aq} {fd:dU} {ps:List Str} {f f':List D->Option D} (F:gM P w K mg base (CXE P w) n a fd ps (spX K mg f)) (h:∀ ds c,f' ds = some (.str c)->f ds = some (.str c)):gM P w K mg base (CXE P w) n a fd ps (spX K mg f'):=by
 have im:∀ vs H Q E,spX K mg f' vs H Q E->spX K mg f vs H Q E:=λvs H Q E ⟨F,ds,c,u,a1,a2,a3,a4,e,a5⟩=>⟨F,ds,c,u,a1,a2,a3,a4,h _ _ e,a5⟩;exact ⟨λvs H Q E q=>F.len vs H Q E (im vs H Q E q),λA outer s H args us vs Q E h1 h2 h3 h4 q=>F.run A outer s H args us vs Q E h1 h2 h3 h4 (im vs H Q E q)⟩
def um {H:Hp} {F:aq->Prop} {ds:List D} {vs:List V} (r:aK K H F ds vs) {k:Nat} {cs:List D} (e:ds.getLast? = some (.fn k cs)):False:=by
 rw [List.getLast?_eq_getElem?] at e;obtain ⟨v,_,rv⟩:=r.get e;unfold Rel at rv;exact rv
def xA {n f:Nat} {ds:List D} (z:n = 0):run G gl n f ds = none:=by
 subst z;rfl
def Hy (T:Top w K mg G Gd gl gn) (hK:K.In base) (hB:BM mg base):∀ n:Nat,(∀ (i:Nat) (fd:Fd) (st:bD) (a:aq) (fdd:dU),Gd[i]? = some fd->Dn K mg (cfOf Gd) gn fd st a fdd ->
 gM P w K mg base CX0 n a fdd fd.ps (spF K (run G gl n i))/\gM P w K mg base CX0 n a fdd fd.ps (spO K (run G gl n (i+vB))))/\∀ (i g:Nat) (x:Str) (ps:List Str),(i,g)∈Xs.xs->(cfOf Gd)[i]? = some (x,ps)->∃ a fd,mg x = some (.ref a)/\PySem.W.keepIn K (.ref a) = true/\Binds K fd ps []/\gM P w K mg base (CXE P w) n a fd ps (spX K mg (run G gl n g))
 | 0=>by
   have z:∀ i ds d,run G gl 0 i ds≠some d:=λi ds d h=>by unfold run at h;cases h
   refine ⟨λi fd st a fdd e _=>⟨⟨λvs H Q E h=>?_,λA outer s H args us vs Q E _ _ _ _ h=>?_⟩,⟨λvs H Q E h=>?_,λA outer s H args us vs Q E _ _ _ _ h=>?_⟩⟩,λi g x ps hx hc=>?_⟩
   . obtain ⟨F,ds,d,_,_,_,_,h1,_⟩:=h;exact (z _ _ _ h1).elim
   . obtain ⟨F,ds,d,_,_,_,_,h1,_⟩:=h;exact (z _ _ _ h1).elim
   . obtain ⟨F,ds,d,_,_,_,_,h1,_⟩:=h;exact (z _ _ _ h1).elim
   . obtain ⟨F,ds,d,_,_,_,_,h1,_⟩:=h;exact (z _ _ _ h1).elim
   . obtain ⟨fd,st,a,fdd,eg,Dd,rs,cls,e1,ck,hcl⟩:=T.xw i g hx;have hc':(Gd.map λfd=>(fd.name,fd.ps))[i]? = some (x,ps):=hc;rw [bf,eg] at hc';cases hc';refine ⟨a,fdd,Dd.mg,Dd.fn.kp,Dd.bd,⟨λvs H Q E h=>?_,λA outer s H args us vs Q E _ _ _ _ h=>?_⟩⟩
     . obtain ⟨F,ds,c,u,_,_,_,_,h1,_⟩:=h;exact (z _ _ _ h1).elim
     . obtain ⟨F,ds,c,u,_,_,_,_,h1,_⟩:=h;exact (z _ _ _ h1).elim
 | n+1=>by
   obtain ⟨ih,ix⟩:=Hy T hK hB n
   have fns:∀ (f:Nat) (x:Str) (ps:List Str),(cfOf Gd)[f]? = some (x,ps)->∃ gd st a fdd,gd.name = x/\gd.ps = ps/\Gd[f]? = some gd/\Dn K mg (cfOf Gd) gn gd st a fdd:=λf x ps hf=>by
    have hf':(Gd.map λfd=>(fd.name,fd.ps))[f]? = some (x,ps):=hf;rw [bf,aJ] at hf';obtain ⟨gd,eg,ep⟩:=hf';cases ep;obtain ⟨st',a',fdd',D'⟩:=oH T.fns eg;exact ⟨gd,st',a',fdd',rfl,rfl,eg,D'⟩
   have fn1:∀ (f:Nat) (x:Str) (ps:List Str),(cfOf Gd)[f]? = some (x,ps)->∃ a fd,mg x = some (.ref a)/\PySem.W.keepIn K (.ref a) = true/\Binds K fd ps []/\gM P w K mg base CX0 n a fd ps (spF K (run G gl n f)):=λf x ps hf=>by
    obtain ⟨gd,st,a,fdd,rfl,rfl,eg,D'⟩:=fns f x ps hf;exact ⟨a,fdd,D'.mg,D'.fn.kp,D'.bd,(ih f gd st a fdd eg D').1⟩
   have fn3:∀ (f:Nat) (x:Str) (ps:List Str),(cfOf Gd)[f]? = some (x,ps)->∃ a fd,mg x = some (.ref a)/\PySem.W.keepIn K (.ref a) = true/\Binds K fd ps []/\gM P w K mg base CX0 n a fd ps (spO K (run G gl n (f+vB))):=λf x ps hf=>by
    obtain ⟨gd,st,a,fdd,rfl,rfl,eg,D'⟩:=fns f x ps hf;exact ⟨a,fdd,D'.mg,D'.fn.kp,D'.bd,(ih f gd st a fdd eg D').2⟩
   have fnd:∀ (f:Nat) (x:Str) (ps:List Str),(cfOf Gd)[f]? = some (x,ps)->f∈Tbs.dfs->∃ a fd,mg x = some (.ref a)/\PySem.W.keepIn K (.ref a) = true/\Binds K fd ps [.none]/\gM P w K mg base CX0 n a fd ps (spF K (run G gl n f)):=λf x ps hf hd=>by
    obtain ⟨gd,st,a,fdd,eg,D',bd⟩:=T.dfs f hd;have hf':(Gd.map λfd=>(fd.name,fd.ps))[f]? = some (x,ps):=hf;rw [bf,eg] at hf';cases hf';exact ⟨a,fdd,D'.mg,D'.fn.kp,bd,(ih f gd st a fdd eg D').1⟩
   refine ⟨λi fd st a fdd e Dd=>?_,λi g x ps hx hc=>?_⟩
   . have eG:=T.sub i fd e
     have C:∀ (A:aR) (outer:List Env) (s:ah) (H:Hp) (E:XK),kv n (A.deeper (envOfC fd.name (aS st) s.heap.objs.size a fdd.code)) ->
      Cok (ka CX0 P w K mg base (fd.ps++fd.loc) fd.name (aS st) a fdd.code A outer s H E).nox ⟨fd.ps++fd.loc,aS st,cfOf Gd,gn⟩ ⟨run G gl n,gl,hfs G⟩ n:=λA outer s H E hr =>
      ⟨rfl,Dd.sc.nd,λx hx=>hx,λx hx=>hx,λx hx=>⟨hx,.inl rfl⟩,λx hx=>hx,rfl,rfl,hr,fn1,fn3,fnd,T.blt,T.glob,T.gsome,T.gds,λz f ds=>xA z⟩
     have B:∀ (A:aR) (outer:List Env) (s:ah) (H:Hp) (E:XK),kv n (A.deeper (envOfC fd.name (aS st) s.heap.objs.size a fdd.code)) ->
      PSs (ka CX0 P w K mg base (fd.ps++fd.loc) fd.name (aS st) a fdd.code A outer s H E).nox (cO st) (tS K (dD ⟨run G gl n,gl,hfs G⟩ fd.body)):=λA outer s H E hr=>by
      have hblk:(ka CX0 P w K mg base (fd.ps++fd.loc) fd.name (aS st) a fdd.code A outer s H E).nox.env.blockKind = .function:=by
       unfold Env.blockKind;show (if (aS st).kind.isAnnotationScope then yL else (aS st).kind) = _;rw [Dd.sc.kind];rfl
      rcases Dd.ck with ck | oq
      . exact tY (cx:=⟨run G gl n,gl,hfs G⟩) (C A outer s H E hr) rfl hblk fd.body (cO st) ck
      . exact oq _ _ n (C A outer s H E hr) rfl hblk rfl rfl ⟨⟨rfl,rfl,rfl⟩,ix⟩
     have fin:∀ {F:aq->Prop} {H:Hp} {σ:L2.St} {δ:Loc} {d:D} {Q:VK} {E:XK} (hfd:FD F H) (htf:TF F) (ok:Ok K ⟨H,λb=>F b/\∃ o,H b = some o/\Mo o⟩ F σ H δ) (h2:outD (dD ⟨run G gl n,gl,hfs G⟩ fd.body δ) = some d) (q:∀ v H',Sim H H'->kY H'->Rel K H' F d v->Q v H'),
      tS K (dD ⟨run G gl n,gl,hfs G⟩ fd.body) { nx:=λ_ H'=>Q .non H',rt:=Q } σ H:=λ{F H σ δ d Q E} hfd htf ok h2 q=>by
      cases eo:dD ⟨run G gl n,gl,hfs G⟩ fd.body δ with
      | none=>rw [eo] at h2;cases h2
      | some o =>
        rw [eo] at h2;refine ⟨⟨H,λb=>F b/\∃ o,H b = some o/\Mo o⟩,F,_,o,ok,eo,?_⟩
        cases o with
        | nx δ =>
          cases h2
          exact λσ' H' F' st' ok'=>q .non H' ok'.same ok'.tabs AO
        | rt d' δ =>
          cases h2;refine λv σ' H' F' st' ok' r'=>q v H' ok'.same ok'.tabs (Rel.step (G:=g0) ok'.fd ⟨λ_ _ _ e _=>e,λb z=>?_,λ_ _ r _ _=>r.elim,λ_ ps e=>⟨ps,e⟩⟩ _ v r')
          exact .inl (grow hfd ok' b z)
        | ro ds' δ =>
          cases h2;refine λa xs σ' H' F' st' ok' f1 f2 hs r'=>q _ H' ok'.same ok'.tabs ?_;exact iP.rel ok'.fd (grow hfd ok') (uk hfd f2.1) hs r'
     have fiO:∀ {F:aq->Prop} {H:Hp} {σ:L2.St} {δ:Loc} {zs:D} {Q:VK} (hfd:FD F H) (htf:TF F) (ok:Ok K ⟨H,λb=>F b/\∃ o,H b = some o/\Mo o⟩ F σ H δ) (h2:MR (dD ⟨run G gl n,gl,hfs G⟩ fd.body δ) = some zs) (q:∀ a u H',Sim H H'->kY H'->H a = none->H' a = some u->iP K H' (λb=>F b\/b = a) zs u->Q (.ref a) H'),
      tS K (dD ⟨run G gl n,gl,hfs G⟩ fd.body) { nx:=λ_ H'=>Q .non H',rt:=Q } σ H:=λ{F H σ δ zs Q} hfd htf ok h2 q=>by
      cases eo:dD ⟨run G gl n,gl,hfs G⟩ fd.body δ with
      | none=>rw [eo] at h2;cases h2
      | some o =>
        rw [eo] at h2;refine ⟨⟨H,λb=>F b/\∃ o,H b = some o/\Mo o⟩,F,_,o,ok,eo,?_⟩
        cases o with
        | ro ds' δ =>
          cases h2;refine λa xs σ' H' F' st' ok' f1 f2 hs r'=>q a xs H' ok'.same ok'.tabs f2.1 hs ?_
          have gr:∀ b,(F b\/b = a)->F' b:=λb z=>by
           rcases z with z | z
           . exact grow hfd ok' b z
           . rw [z];exact f1
          exact iP.step (G:=g0) ok'.fd ⟨λ_ _ _ e _=>e,λb z=>.inl (gr b z),λ_ _ r _ _=>r.elim,λ_ ps e=>⟨ps,e⟩⟩ r'
        | _=>cases h2
     refine ⟨okC Dd.fn Dd.sc (λvs H Q E h=>?_) λA outer s H vs Q E hr h=>?_,okC Dd.fn Dd.sc (λvs H Q E h=>?_) λA outer s H vs Q E hr h=>?_⟩
     . obtain ⟨F,ds,d,_,_,_,r,h1,_⟩:=h;rw [r.length,(vi eG h1).1]
     . obtain ⟨F,ds,d,hfd,htf,htb,r,h1,q⟩:=h;obtain ⟨hl,δ,ed,h2⟩:=vi eG h1;have hlen:=r.length;refine ⟨_,B A outer s H E hr,?_⟩;unfold entry at ed;split at ed
       . cases ed;exact fin (E:=E) hfd htf (qH hfd htf htb r (by rw [hlen,hl,ay];omega)) h2 q
       . split at ed
         . rename_i eq;exact (um r eq).elim
         . cases ed
     . obtain ⟨F,ds,zs,_,_,_,r,h1,_⟩:=h;rw [r.length,(Bb T.few eG h1).1]
     . obtain ⟨F,ds,zs,hfd,htf,htb,r,h1,q⟩:=h;obtain ⟨hl,δ,ed,h2⟩:=Bb T.few eG h1;have hlen:=r.length;refine ⟨_,B A outer s H E hr,?_⟩;unfold entry at ed;split at ed
       . cases ed;exact fiO hfd htf (qH hfd htf htb r (by rw [hlen,hl,ay];omega)) h2 q
       . split at ed
         . rename_i eq;exact (um r eq).elim
         . cases ed
   . obtain ⟨fd,st,a,fdd,eg,Dd,rs,cls,e1,ck,hcl⟩:=T.xw i g hx;have hc':(Gd.map λfd=>(fd.name,fd.ps))[i]? = some (x,ps):=hc;rw [bf,eg] at hc';cases hc';exact ⟨a,fdd,Dd.mg,Dd.fn.kp,Dd.bd,NO (okX (cx:=⟨run G gl n,gl,hfs G⟩) Dd.fn Dd.sc (by rw [ay];omega) (λA outer s H E hr=>⟨rfl,Dd.sc.nd,λx hx=>hx,λx hx=>hx,λx hx=>⟨hx,.inl rfl⟩,λx hx=>hx,rfl,rfl,hr,fn1,fn3,fnd,T.blt,T.glob,T.gsome,T.gds,λz f ds=>xA z⟩) ix hcl ck) λds c h=>OG e1 h⟩
end
end PP
end
section
namespace PP
open PySem L2 PyProof.Rows
variable [Tbs] [Xs]
def hS (a:aq) (o:Option HO):Hp:=λb=>if b = a/\o.isSome = true then o else if b∈Tbs.ts.map (·.1) then some (.tbl #[]) else none
def vP (e:hS a o b = some u):(b = a/\o = some u)\/(b∈Tbs.ts.map (·.1)/\u = .tbl #[]):=by
 unfold hS at e;split at e
 . rename_i h;exact .inl ⟨h.1,e⟩
 . split at e
   . cases e;exact .inr ⟨‹_›,rfl⟩
   . cases e
def JN {P:aO} {w:aZ} {K:PySem.W.Frag} {mg mb:Str->Option af} {fa a:aq} {fd:dU} {x:Str} {f:List D->Option D} {s₁:ah} {vs:List af} {ns:List Int}
 (KX:K.In s₁.heap) (hns:s₁.heap.Ns mainGlobals mg) (hb:s₁.heap.Ns builtinsNs mb) (hbb:∀ x:Str,x≠"__name__"->mb x = bootBuiltins x) (hlim:s₁.heap.NoLimit) (hg:s₁.gens = #[]) (hbm:BM mg s₁.heap)
 (ha:s₁.heap.get? a = some { cls:=.type "list",data:=.seq vs.toArray }) (hi:HM vs ns) (hl:ns.length<=sizeLine) (hr:kv 200 callerA)
 (ht:∀ t∈Tbs.ts,s₁.heap.get? t.1 = some (PySem.W.tabObj #[])/\K.lookup t.1 = none/\isCodeTable s₁.heap t.1)
 (F:∀ base:bG,K.In base->BM mg base->gM P w K mg base CX0 200 fa fd [x] (spF K f)) (hbind:Binds K fd [x] [])
 (hf:f [.lst (ns.map .int)] = some (.bl true)) :
 codeAny (model P w) callerA (.call (.ref fa) ⟨[.ref a],[]⟩) (λr s'=>r = .ok (.ret (.bool true))/\OldK s₁.heap s'.heap/\s'.os = s₁.os/\kB s'.gens) s₁:=by
 have rv:=tP hi;have lenV:=hi.length
 have htm:∀ b,b∈Tbs.ts.map (·.1)->s₁.heap.get? b = some (PySem.W.tabObj #[])/\K.lookup b = none/\isCodeTable s₁.heap b:=λb hb=>by
  obtain ⟨t,h1,h2⟩:=aW.mp hb;rw [<- h2];exact ht t h1
 have aT:a∉Tbs.ts.map (·.1):=λz=>by
  have:=(htm a z).1;rw [ha] at this;cases this
 have core:∀ o:Option HO,(∀ u,o = some u->∃ xs,u = .frz { cls:=.type "list",data:=.seq vs.toArray } (.lst xs))->HOk P w (hS a o) s₁.heap->(o≠none->K.lookup a = none)->Rel K (hS a o) (λb=>b∈Tbs.ts.map (·.1)) (.lst (ns.map .int)) (.ref a) ->
  codeAny (model P w) callerA (.call (.ref fa) ⟨[.ref a],[]⟩) (λr s'=>r = .ok (.ret (.bool true))/\OldK s₁.heap s'.heap/\s'.os = s₁.os/\kB s'.gens) s₁:=by
  intro o hO hok hK hR;have base_of:∀ {b:aq} {x:Obj},s₁.heap.get? b = some x->hS a o b = none->(sR s₁.heap (hS a o)).get? b = some x:=λe n=>GO e n
  have noA:∀ {b:aq} {x:Obj},s₁.heap.get? b = some x->(∀ its n,x.data≠.seq its n)->(∀ vs,x.data≠.fields vs)->hS a o b = none:=λ{b x} e d1 d2=>by
   cases q:hS a o b with
   | none=>rfl
   | some u =>
     rcases vP q with ⟨rfl,_⟩ | ⟨z,_⟩
     . rw [ha] at e;cases e;exact absurd rfl (d1 _ _)
     . rw [(htm b z).1] at e;cases e;exact absurd rfl (d2 _)
  have nsK:∀ {b:aq} {m:Str->Option af},s₁.heap.Ns b m->(sR s₁.heap (hS a o)).Ns b m:=λ{b m} ⟨x,es,ep,e,d,r⟩=>⟨x,es,ep,base_of e (noA e (λ_ _ z=>by rw [d] at z;cases z) λ_ z=>by rw [d] at z;cases z),d,r⟩
  have hKb:K.In (sR s₁.heap (hS a o)):=λb x e=>base_of (KX b x e) (by
   cases q:hS a o b with
   | none=>rfl
   | some u =>
     rcases vP q with ⟨rfl,z⟩ | ⟨z,_⟩
     . rw [hK (by rw [z];simp)] at e;cases e
     . rw [(htm b z).2.1] at e;cases e)
  have hM:Mod K mg (sR s₁.heap (hS a o)):=⟨hKb,nsK hns,⟨mb,nsK hb,hbb⟩,let ⟨mc,h1,h2⟩:=hlim;⟨mc,nsK h1,h2⟩⟩
  have hB:BM mg (sR s₁.heap (hS a o)):=by
   obtain ⟨bm,ob,b1,b2,b3,b4,b5,b6⟩:=hbm;exact ⟨bm,ob,b1,b2,base_of b3 (noA b3 (λ_ _ z=>by rw [b6] at z;cases z) λ_ z=>by rw [b6] at z;cases z),b4,b5,b6⟩
  have e0:HE P w K mg (sR s₁.heap (hS a o)) callerA [] s₁ (hS a o):=⟨rfl,hM,λb x e=>JF e,Nat.le_of_eq (Df _ _),trivial,λb hb=>absurd (show b∈([]:List aq) from hb) ↥0,hok,.of_eq hg⟩
  have atT:∀ b,b∈Tbs.ts.map (·.1)->hS a o b = some (.tbl #[]):=λb z=>by
   unfold hS;rw [if_neg (λy=>aT (by rw [<- y.1];exact z)),if_pos z]
  have sp:spF K f [.ref a] (hS a o) (λv _=>v = .bl true) E0:=⟨λb=>b∈Tbs.ts.map (·.1),[.lst (ns.map .int)],.bl true,λb z=>by
   obtain ⟨t,h1,h2⟩:=aW.mp z;exact ⟨_,atT b z,.inr ⟨⟨#[],rfl⟩,t,h1,h2⟩⟩,λt h=>aW.mpr ⟨t,h,rfl⟩,λt h=>⟨#[],atT _ (aW.mpr ⟨t,h,rfl⟩),trivial,λpos cv e=>by cases e⟩,aK.one hR,hf,λv H' _ _ r=>by unfold Rel at r;exact r⟩
  refine jE ((F _ hKb hB).run callerA [] s₁ (hS a o) ⟨[.ref a],[]⟩ [.ref a] [.ref a] _ _ hr e0 (hbind s₁ [.ref a] KX rfl) (.cons rfl .nil) sp) λr s' h=>?_
  cases r with
  | error e=>exact bS h
  | ok fl =>
    cases fl with
    | next=>exact bS h
    | brk=>exact bS h
    | cont=>exact bS h
    | ret u =>
      obtain ⟨v,H',os,bare,un,hok',r',q⟩:=h;have q':v = .bl true:=q;subst q';obtain rfl:u = ky true:=r';refine ⟨rfl,⟨λb x e=>?_,λb x e=>un.there b x e ↥0⟩,os,bare⟩
      cases q:hS a o b with
      | none=>exact .inl (un.keep b x e q (by intro z;exact absurd (show b∈([]:List aq) from z) ↥0) ↥0)
      | some u =>
        rcases vP q with ⟨_,z⟩ | ⟨z,rfl⟩
        . obtain ⟨xs,rfl⟩:=hO u z;have z2:=un.frzs b _ _ q;obtain ⟨e1,_⟩:=hok b _ q;obtain ⟨e2,_⟩:=hok' b _ z2;rw [e] at e1;cases e1;exact .inl e2
        . obtain ⟨more,y⟩:=un.tbls b _ q;have e2:s'.heap.get? b = some { cls:=.none,data:=.fields (#[]++more) }:=hok' b _ y;have e1:=(htm b z).1;rw [e] at e1;cases e1;exact .inr (.inl ⟨(htm b z).2.2,rfl,#[],more,rfl,e2⟩)
 have rl:∀ (H:Hp) (F:aq->Prop) (ms:List Int),aK K H F (ms.map .int) (ms.map V.int):=by
  intro H F ms
  induction ms with
  | nil=>exact aK.nil
  | cons m ms ih=>exact aK.cons (dC m) ih
 have hok1:∀ o:Option HO,(∀ u,o = some u->gH P w (hS a o) s₁.heap a u)->HOk P w (hS a o) s₁.heap:=λo ho b u e=>by
  rcases vP e with ⟨rfl,z⟩ | ⟨z,rfl⟩
  . exact ho u z
  . exact (htm b z).1
 cases hk:K.lookup a with
 | some x =>
   have e:=KX a x hk;rw [ha] at e;cases e;refine core none (λu z=>by cases z) (hok1 none λu z=>by cases z) (λz=>absurd rfl z) ?_;unfold Rel
   exact ⟨a,ns.map V.int,rfl,.inr ⟨vs.toArray,_,hk,by rw [aC,lenV];exact hl,by simpa using rv⟩,rl _ _ ns⟩
 | none =>
   refine core (some (.frz { cls:=.type "list",data:=.seq vs.toArray } (.lst (ns.map V.int)))) (λu z=>⟨_,(bA z).symm⟩) (hok1 _ λu z=>?_) (λ_=>hk) ?_
   . cases z;exact ⟨ha,by rw [av];exact hl,vs,_,rv,ha⟩
   . unfold Rel;refine ⟨a,ns.map V.int,rfl,.inl ⟨.inr ⟨{ cls:=.type "list",data:=.seq vs.toArray },?_⟩,aT⟩,rl _ _ ns⟩;unfold hS;rw [if_pos ⟨rfl,rfl⟩]
def walk_run {l:PySem.W.OpenLaw} {q:aO} {loose:List Str} {XP:(Str->Option af)->bG->Prop} {YP:aZ->bG->Prop} {d:DefRec} {K:Params->PySem.W.Frag} {G Gd:List Fd} {gl:List D} {gn:List Str} {i:Nat} {fd:Fd} {x:Str}
 (main:∀ ns:List Int,ns.length<=63->run G gl 200 i [.lst (ns.map .int)] = some (.bl true)) (hi:Gd[i]? = some fd) (hp:fd.ps = [x])
 (hn:l.most = some 63) (hdf:d.params.defaults = []) (hY:∀ (w:aZ) (h:bG),YP w h->(K w.params).In h/\∀ t∈Tbs.ts,h.get? t.1 = some (PySem.W.tabObj #[]))
 (hnm:fd.name = d.name) (F:∀ (w:aZ) (mg:Str->Option af) (h:bG),(K w.params).In h->h.Ns mainGlobals mg->Top w (K w.params) mg G Gd gl gn/\∀ t∈Tbs.ts,(K w.params).lookup t.1 = none/\∃ c,PySem.W.codeHdIn (K w.params) c t.1 = true) :
 PySem.W.WalkO q loose XP YP l.row.toRowW d [] (λf vs=>PySem.call f vs):=by
 have hr:kv 200 callerA:=⟨rfl,⇑0,⇑0⟩;refine Att.attach_call hn hdf λw s₀ s₁ mg mb fa o pm cd doc a vs ns TT Y ho hd hcd hmg hobj hints hlen hg=>?_;obtain ⟨KX,tabs⟩:=hY w _ Y;obtain ⟨T,tc⟩:=F w mg _ KX TT.T.g;obtain ⟨st,fa',fdd,Dd⟩:=oH T.fns hi
 obtain rfl:fa = fa':=by
  have e:=Dd.mg;rw [hnm,hmg] at e;cases e;rfl
 refine JN KX TT.T.g TT.T.b TT.T.builtins TT.T.nolimit hg TT.T.bmain hobj hints (bF hlen ⇑0) hr (λt ht=>?_) (λbase hK hB=>?_) (hp▸Dd.bd) (main ns hlen)
 . obtain ⟨h1,c,h2⟩:=tc t ht;exact ⟨tabs t ht,h1,((PySem.W.codeHd_of_K KX h2).tab (tabs t ht)).isCodeTable⟩
 . have:=((Hy (P:=l.prog) (w:=w) (base:=base) T hK hB 200).1 i fd st fa fdd hi Dd).1;rw [hp] at this;exact this
section
def zS (K:PySem.W.Frag) (x:Str):Bool:=match PySem.W.nsIn K mainGlobals x with
 | some none=>true
 | _=>false
def Km {K:PySem.W.Frag} {h:bG} {mg:Str->Option af} (X:K.In h) (G:h.Ns mainGlobals mg) (q:jD.all (zS K) = true) (x:Str) (hx:x∈jD):mg x = none:=by
 have h:=bq.mp q x hx;unfold zS at h;split at h
 . exact PySem.W.mg_none_of X G ‹_›
 . cases h
def sub_app {a b:List Fd} (i:Nat) (fd:Fd) (h:a[i]? = some fd):(a++b)[i]? = some fd:=by
 rw [ba (aD.mp h).1];exact h
end
end PP
end
section
namespace PP
open PySem L2
def wJ:∀ {ps:List Str} {us:List af} {x:Str},us.length = ps.length->x∈ps->((ps.zip us).lookup x).isSome = true
 | p::ps,u::us,x,hl,hx=>by
   rw [nU,dh];split
   . rfl
   . rename_i z;refine wJ (mK hl) ((aB.mp hx).resolve_left λe=>?_);rw [e,beq_self_eq_true] at z
     cases z
 | [],_,x,hl,hx=>by cases hx
 | p::ps,[],x,hl,hx=>by cases hl
def wH:∀ {ps:List Str} {us:List af},us.length = ps.length->ps.Nodup->(ps.filterMap λn=>((ps.zip us).lookup n).map (n,·)) = ps.zip us
 | [],us,hl,_=>by rfl
 | p::ps,[],hl,_=>by cases hl
 | p::ps,u::us,hl,nd=>by
   rw [fh] at nd;have ih:=wH (mK hl) nd.2;rw [nU,cb,dh,beq_self_eq_true];dsimp only [Option.map];congr 1
   have h:∀ l:List Str,p∉l->(l.filterMap λn=>((((p,u)::ps.zip us).lookup n).map (n,·))) = l.filterMap λn=>((ps.zip us).lookup n).map (n,·):=λl=>by
    induction l with
    | nil=>intro _;rfl
    | cons n l il =>
      intro hn;rw [aB,not_or] at hn;rw [cb,cb,il hn.2,dh,show (n == p) = false from beq_eq_false_iff_ne.mpr λe=>hn.1 e.symm]
   exact (h ps nd.1).trans ih
def ifF {α:Type} {c:Prop} [Decidable c] {a b x:α} (h:¬ c) (e:b = x):(if c then a else b) = x:=by rw [if_neg h];exact e
def Af {fd:dU} {ps:List Str} {us:List af} (h1:fd.params.posonlyargs = []) (h2:fd.params.args.map (·.arg) = ps) (h3:fd.params.kwonlyargs = []) (h4:fd.params.vararg = none) (h5:fd.params.kwarg = none) (h6:fd.defaults = .none) (nd:ps.Nodup) (hl:us.length = ps.length):bindArgs fd ⟨us,[]⟩ = pure (ps.zip us):=by
 have hm:((ps.take ps.length).filter λn=>((ps.zip us).lookup n).isNone) = []:=by
  rw [qu,List.filter_eq_nil_iff];intro x hx;have:=wJ hl hx
  cases e:(ps.zip us).lookup x with
  | none=>rw [e] at this;cases this
  | some v=>simp
 cases fd with
 | mk a b p c d e f df g =>
   cases p with
   | mk p1 p2 p3 p4 p5 p6 p7 =>
     cases h1;cases h3;cases h4;cases h5;cases h6;cases h2;have hl:us.length = (p2.map (·.arg)).length:=hl;refine ifF (α:=Sem _) (λz=>?_) ?_
     . have z:(decide (us.length > (p2.map (·.arg)).length) && true) = true:=z;rw [hl,Bool.and_true,decide_eq_true_eq] at z;exact cy _ z
     generalize hd:List.drop _ _ = dd;obtain rfl:dd = []:=hd.symm.trans List.drop_nil;refine ifF (α:=Sem _) (λz=>Bool.noConfusion ((congrArg (λl:List Str=>!l.isEmpty) hm).symm.trans z)) ?_;generalize hz:List.zip (List.drop _ _) ([]:List af) = zz;obtain rfl:zz = []:=hz.symm.trans nS;have e:(p2.map Arg.arg++[]).filterMap (λn=>(((p2.map Arg.arg).zip us).lookup n).map (n,·)) = (p2.map Arg.arg).zip us:=by rw [bw];exact wH hl nd
     exact congrArg (pure:_->Sem _) e
def okD (d:Fd) (a:wA) (s:eX):Bool :=
 a.posonlyargs.isEmpty && (a.kwonlyargs.isEmpty && (a.vararg.isNone && (a.kwarg.isNone && (decide (a.args.map (·.arg) = d.ps) && (decide (s.kind = .function) && ((!s.isCoroutine) && ((!s.isGenerator) && (decide (d.ps++d.loc).Nodup && (d.ps.all (λx=>decide (s.names.lookup x = some .local) || decide (s.names.lookup x = some .cell)) && s.names.all λy=>decide (y.2≠.free))))))))))
def rD {d:Fd} {st:bD} (h:okD d (eA st) (aS st) = true):jj (d.ps++d.loc) d.ps (aS st):=by
 simp only [okD,aa,fk,decide_eq_true_eq,bq,pE] at h;obtain ⟨_,_,_,_,_,k,c,g,nd,p,f⟩:=h;exact ⟨k,c,g,nd,List.take_left,p,f⟩
def vE {K:PySem.W.Frag} {d:Fd} {st:bD} {fd:dU} (e1:fd.params = eA st) (e2:fd.defaults = .none) (h:okD d (eA st) (aS st) = true):Binds K fd d.ps []:=by
 simp only [okD,aa,decide_eq_true_eq,List.isEmpty_iff,cU] at h;obtain ⟨h1,h2,h3,h4,h5,_,_,_,nd,_⟩:=h;rw [<- e1] at h1 h2 h3 h4 h5;exact .all λus hl=>Af h1 h5 h2 h3 h4 e2 (pB.mp nd).1 hl
section
variable [Tbs] [Xs] {K:PySem.W.Frag} {h:bG} {w:aZ} {mg:Str->Option af} {cf:List (Str × List Str)} {gn:List Str} {tp:Nat->bD} {G Gd:List Fd} {gl:List D}
inductive Hds (K:PySem.W.Frag) (mg:Str->Option af) (cf:List (Str × List Str)) (gn:List Str) (tp:Nat->bD):List Fd->List (String × Nat)->Prop
 | nil:Hds K mg cf gn tp [] []
 | own {d:Fd} {i:String × Nat} {r:List Fd} {is:List (String × Nat)} (e:∃ st a fdd,Dn K mg cf gn d st a fdd) (t:Hds K mg cf gn tp r is):Hds K mg cf gn tp (d::r) (i::is)
 | cons {d:Fd} {x:String} {i:Nat} {f:aq} {oc:af} {od an:Option aq} {osl:Array (Option af)} {kV doc pm cdv ct:af} {r:List Fd} {is:List (String × Nat)} (a:PySem.W.nsIn K mainGlobals (.ofString x) = some (some (.ref f))) (l:K.lookup f = some ⟨oc,od,.func (PySem.W.fnOf (.ofString x) (.ofString x) (eA (tp i)) (cO (tp i)) (aS (tp i)) .none kV doc pm an cdv ct),osl⟩)
   (c:PySem.W.codeIn K cdv (.ofString x) = true) (k:PySem.W.keepIn K (.ref f) = true) (z:(decide (d.name = .ofString x) && (okD d (eA (tp i)) (aS (tp i)) && wg ⟨d.ps++d.loc,aS (tp i),cf,gn⟩ d.body (cO (tp i)))) = true) (t:Hds K mg cf gn tp r is):Hds K mg cf gn tp (d::r) ((x,i)::is)
def Ka (X:K.In h) (N:h.Ns mainGlobals mg) {l:List Fd} {is:List (String × Nat)} (H:Hds K mg cf gn tp l is):BP K mg cf gn l:=by
 induction H with
 | nil=>trivial
 | own e t ih=>exact ⟨e,ih⟩
 | cons a l c k z t ih =>
   rw [aa,decide_eq_true_eq,aa] at z;obtain ⟨z0,z1,z2⟩:=z;rw [<- z0] at a l c;have F:=rR l c k;exact ⟨⟨_,_,_,F,PySem.W.mg_of X N a,rD z1,.inl z2,vE rfl rfl z1⟩,ih⟩
mutual
inductive InK (K:PySem.W.Frag):D->af->Prop
 | str {x:Str} {t:Tok}:InK K (.str x) (.str x t)
 | int {x:Int} {t:Tok}:InK K (.int x) (.int x t)
 | tup {ds:List D} {a:aq} {oD:Option aq} {oS:Array (Option af)} {n:Nat} {vs:Array af} (l:K.lookup a = some ⟨.type "tuple",oD,.seq vs n,oS⟩) (q:InKs K ds vs.toList) (z:vs.size<=99):InK K (.tup ds) (.ref a)
inductive InKs (K:PySem.W.Frag):List D->List af->Prop
 | nil:InKs K [] []
 | cons {d:D} {v:af} {ds:List D} {vs:List af} (e:InK K d v) (t:InKs K ds vs):InKs K (d::ds) (v::vs)
end
mutual
theorem InK.rel:∀ {d:D} {u:af},InK K d u->∃ v,RelV v u/\∀ H F,Rel K H F d v
 | _,_,.str=>⟨.str _,⟨_,rfl⟩,λH F=>iY _⟩
 | _,_,.int=>⟨.int _,⟨_,rfl⟩,λH F=>dC _⟩
 | _,_,.tup l q z=>by
   obtain ⟨vs,h1,h2⟩:=q.rel;refine ⟨.ref _,rfl,λH F=>?_⟩;unfold Rel;exact ⟨_,vs,rfl,.inr ⟨_,_,_,l,rfl,rfl,bF z ⇑0,h1⟩,h2 H F⟩
theorem InKs.rel:∀ {ds:List D} {us:List af},InKs K ds us->∃ vs,Vals vs us/\∀ H F,aK K H F ds vs
 | _,_,.nil=>⟨[],.nil,λ_ _=>aK.nil⟩
 | _,_,.cons e t=>by
   obtain ⟨v,h1,h2⟩:=e.rel;obtain ⟨vs,h3,h4⟩:=t.rel;exact ⟨v::vs,.cons h1 h3,λH F=>aK.cons (h2 H F) (h4 H F)⟩
end
inductive Gls (K:PySem.W.Frag):List Str->List D->Prop
 | nil:Gls K [] []
 | cons {x:Str} {d:D} {v:af} {xs:List Str} {ds:List D} (a:PySem.W.nsIn K mainGlobals x = some (some v)) (e:InK K d v) (t:Gls K xs ds):Gls K (x::xs) (d::ds)
def BA (X:K.In h) (N:h.Ns mainGlobals mg) (H:Gls K gn gl):∀ (g:Nat) (x:Str),gn[g]? = some x->∃ d,gl[g]? = some d/\∃ u v,mg x = some u/\RelV v u/\∀ H F,Rel K H F d v:=by
 induction H with
 | nil=>intro g x e;cases g<;>cases e
 | cons a e t ih =>
   intro g x z
   cases g with
   | zero =>
     cases z;obtain ⟨v,h1,h2⟩:=e.rel
     exact ⟨_,rfl,_,v,PySem.W.mg_of X N a,h1,h2⟩
   | succ g=>exact ih g x z
inductive Clss (K:PySem.W.Frag):List Str->Prop
 | nil:Clss K []
 | cons {x:Str} {C:aq} {r:List Str} (a:PySem.W.nsIn K mainGlobals x = some (some (.ref C))) (v:VE K C = true) (t:Clss K r):Clss K (x::r)
def Clss.get (X:K.In h) (N:h.Ns mainGlobals mg) {l:List Str} (H:Clss K l):∀ n,n∈l->∃ C,mg n = some (.ref C)/\VE K C = true:=by
 induction H with
 | nil=>intro n z;cases z
 | cons a v t ih =>
   intro n z;rcases aB.mp z with rfl | z
   . exact ⟨_,PySem.W.mg_of X N a,v⟩
   . exact ih n z
inductive Us (K:PySem.W.Frag) (C:aq) (up:List Str):List Str->Prop
 | nil:Us K C up []
 | cons {x:Str} {P:aq} {r:List Str} (a:PySem.W.nsIn K mainGlobals x = some (some (.ref P))) (v:(VE K P && subIn K C P == up.contains x) = true) (t:Us K C up r):Us K C up (x::r)
def Us.get (X:K.In h) (N:h.Ns mainGlobals mg) {C:aq} {up l:List Str} (H:Us K C up l):∀ n,n∈l->∃ P,mg n = some (.ref P)/\VE K P = true/\subIn K C P = up.contains n:=by
 induction H with
 | nil=>intro n z;cases z
 | cons a v t ih =>
   intro n z;rcases aB.mp z with rfl | z
   . rw [aa] at v;exact ⟨_,PySem.W.mg_of X N a,v.1,eq_of_beq v.2⟩
   . exact ih n z
inductive Ups (K:PySem.W.Frag) (ps:List Str):List (Str × List Str)->Prop
 | nil:Ups K ps []
 | cons {x:Str} {C:aq} {up:List Str} {r:List (Str × List Str)} (a:PySem.W.nsIn K mainGlobals x = some (some (.ref C))) (v:(VE K C && vw K C) = true) (u:Us K C up ps) (t:Ups K ps r):Ups K ps ((x,up)::r)
def Ups.get (X:K.In h) (N:h.Ns mainGlobals mg) {ps:List Str} {l:List (Str × List Str)} (H:Ups K ps l):∀ Y:Cx,Y.K = K->Y.mg = mg->∀ n up,l.lookup n = some up->∃ C,Y.mg n = some (.ref C)/\Dz Y ps C up:=λY hK hM=>by
 subst hK hM
 induction H with
 | nil=>intro n up z;cases z
 | cons a v u t ih =>
   intro n up z;rw [dh] at z;split at z
   . rename_i q;cases z;rw [eq_of_beq q];rw [aa] at v;exact ⟨_,PySem.W.mg_of X N a,v.1,v.2,u.get X N⟩
   . exact ih n up z
def Xd (K:PySem.W.Frag) (mg:Str->Option af) (cf:List (Str × List Str)) (gn:List Str) (rs:Rs) (d:Fd):Prop:=∃ st a fdd cls,Dn K mg cf gn d st a fdd/\pH cls Xs.xs ⟨d.ps++d.loc,aS st,cf,gn⟩ rs (cO st) = true/\∀ n,n∈cls->∃ C,mg n = some (.ref C)/\VE K C = true
def Xd.dn {rs:Rs} {d:Fd} (x:Xd K mg cf gn rs d):∃ st a fdd,Dn K mg cf gn d st a fdd:=by
 obtain ⟨st,a,fdd,_,h,_⟩:=x;exact ⟨st,a,fdd,h⟩
section
variable {Q:Prop} {d:Fd} {x:String} {i:Nat} {f:aq} {oc:af} {od an:Option aq} {osl:Array (Option af)} {kV doc pm cdv ct:af}
def xd_mk {rs:Rs} {cls:List Str} (X:K.In h) (N:h.Ns mainGlobals mg) (a:PySem.W.nsIn K mainGlobals (.ofString x) = some (some (.ref f))) (l:K.lookup f = some ⟨oc,od,.func (PySem.W.fnOf (.ofString x) (.ofString x) (eA (tp i)) (cO (tp i)) (aS (tp i)) .none kV doc pm an cdv ct),osl⟩)
 (c:PySem.W.codeIn K cdv (.ofString x) = true) (k:PySem.W.keepIn K (.ref f) = true) (z:(decide (d.name = .ofString x) && (okD d (eA (tp i)) (aS (tp i)) && pH cls Xs.xs ⟨d.ps++d.loc,aS (tp i),cf,gn⟩ rs (cO (tp i)))) = true) (hb:d.body = lV rs) (hc:∀ n,n∈cls->∃ C,mg n = some (.ref C)/\VE K C = true) (q:Xd K mg cf gn rs d->Q):Q:=by
 rw [aa,decide_eq_true_eq,aa] at z;obtain ⟨z0,z1,z2⟩:=z;rw [<- z0] at a l c;have F:=rR l c k;exact q ⟨_,_,_,cls,⟨F,PySem.W.mg_of X N a,rD z1,.inr (λY cx k C hS hB hK hM fx=>by subst hK hM;rw [hb];exact QH C hS hB fx.2 hc z2),vE rfl rfl z1⟩,z2,hc⟩
def td_mk {ys:List Yt} {ups:List (Str × List Str)} {ps:List Str} (X:K.In h) (N:h.Ns mainGlobals mg) (a:PySem.W.nsIn K mainGlobals (.ofString x) = some (some (.ref f))) (l:K.lookup f = some ⟨oc,od,.func (PySem.W.fnOf (.ofString x) (.ofString x) (eA (tp i)) (cO (tp i)) (aS (tp i)) .none kV doc pm an cdv ct),osl⟩)
 (c:PySem.W.codeIn K cdv (.ofString x) = true) (k:PySem.W.keepIn K (.ref f) = true) (z:(decide (d.name = .ofString x) && (okD d (eA (tp i)) (aS (tp i)) && ckY ⟨d.ps++d.loc,aS (tp i),cf,gn⟩ Xs.xs ps ups ys (cO (tp i)))) = true) (hb:d.body = yS ups ys) (hz:mg "ValueError" = none) (hps:∀ n,n∈ps->∃ C,mg n = some (.ref C)/\VE K C = true)
 (hup:∀ Y:Cx,Y.K = K->Y.mg = mg->∀ n up,ups.lookup n = some up->∃ C,Y.mg n = some (.ref C)/\Dz Y ps C up) (hak:∀ p∈ys.flatMap Yt.asks,yI K mg ps p.1 p.2) (q:(∃ st a fdd,Dn K mg cf gn d st a fdd)->Q):Q:=by
 rw [aa,decide_eq_true_eq,aa] at z;obtain ⟨z0,z1,z2⟩:=z;rw [<- z0] at a l c;have F:=rR l c k;exact q ⟨_,_,_,F,PySem.W.mg_of X N a,rD z1,.inr (λY cx k C hS hB hK hM fx=>by have hu:=hup Y hK hM;subst hK hM;rw [hb];exact Mj C hS hB hz fx.1 fx.2 hps hu ys _ hak z2),vE rfl rfl z1⟩
def ask_mk {u v:Str} {ps:List Str} {ql:List (Qt × Str)} (X:K.In h) (N:h.Ns mainGlobals mg) (a:PySem.W.nsIn K mainGlobals (.ofString x) = some (some (.ref f))) (l:K.lookup f = some ⟨oc,od,.func (PySem.W.fnOf (.ofString x) (.ofString x) (eA (tp i)) (cO (tp i)) (aS (tp i)) .none kV doc pm an cdv ct),osl⟩)
 (c:PySem.W.codeIn K cdv (.ofString x) = true) (k:PySem.W.keepIn K (.ref f) = true) (z:(okD ⟨.ofString x,[u],[v],.nil,false⟩ (eA (tp i)) (aS (tp i)) && Hm ⟨[u,v],aS (tp i),[],[]⟩ ps ql (cO (tp i))) = true) (q:yI K mg ps (.ofString x) ql->Q):Q:=by
 rw [aa] at z;exact q ⟨_,_,_,u,v,PySem.W.mg_of X N a,k,rR l c k,rD z.1,vE rfl rfl z.1,z.2⟩
end
inductive Xws (K:PySem.W.Frag) (mg:Str->Option af) (G Gd:List Fd) (gn:List Str):List (Nat × Nat)->Prop
 | nil:Xws K mg G Gd gn []
 | cons {i g:Nat} {d:Fd} {rs:Rs} {r:List (Nat × Nat)} (x:Xd K mg (cfOf Gd) gn rs d) (e:Gd[i]? = some d) (e2:G[g]? = some ⟨d.name,d.ps,d.loc,iW rs,false⟩) (t:Xws K mg G Gd gn r):Xws K mg G Gd gn ((i,g)::r)
def Xws.get {l:List (Nat × Nat)} (H:Xws K mg G Gd gn l) {i g:Nat}:(i,g)∈l->∃ fd st a fdd,Gd[i]? = some fd/\Dn K mg (cfOf Gd) gn fd st a fdd/\∃ rs cls,G[g]? = some ⟨fd.name,fd.ps,fd.loc,iW rs,false⟩/\pH cls Xs.xs ⟨fd.ps++fd.loc,aS st,cfOf Gd,gn⟩ rs (cO st) = true/\∀ n,n∈cls->∃ C,mg n = some (.ref C)/\VE K C = true:=by
 induction H with
 | nil=>intro z;cases z
 | cons x e e2 t ih =>
   intro z;rcases aB.mp z with z | z
   . cases z;obtain ⟨st,a,fdd,cls,h1,h2,h3⟩:=x;exact ⟨_,st,a,fdd,e,h1,_,cls,e2,h2,h3⟩
   . exact ih z
def top_mk (X:K.In h) (N:h.Ns mainGlobals mg) {is:List (String × Nat)} (H:Hds K mg (cfOf Gd) gn tp Gd is) (sub:∀ (i:Nat) (fd:Fd),Gd[i]? = some fd->G[i]? = some fd) (xw:Xws K mg G Gd gn Xs.xs) (few:G.length<=vB) (hb:jD.all (zS K) = true) (hg:Gls K gn gl)
 (gds:∀ (n:Str) (l:List (Str × Int)),Tbs.gds.lookup n = some l->∃ a,mg n = some (.ref a)/\GdK w K a l) (dfs:∀ f∈Tbs.dfs,∃ fd st a fdd,Gd[f]? = some fd/\Dn K mg (cfOf Gd) gn fd st a fdd/\Binds K fdd fd.ps [.none]):Top w K mg G Gd gl gn :=
 ⟨Ka X N H,sub,λi g h=>xw.get h,few,Km X N hb,λg x d h1 h2=>by
   obtain ⟨d',e,r⟩:=BA X N hg g x h1;rw [h2] at e;cases e;exact r,λg x h1=>by
   obtain ⟨d',e,r⟩:=BA X N hg g x h1;exact ⟨d',e⟩,gds,dfs⟩
end
end PP
end
section
namespace PP
open PySem
section
variable {cx:Cl} {δ:Loc}
def wR (cx:Cl) (r:R) (δ:Loc) (Q:OR->Prop):Prop:=∃ o,evR cx r δ = some o/\Q o
def wRs (cx:Cl) (rs:Rs) (δ:Loc) (Q:OR->Prop):Prop:=∃ o,fO cx rs δ = some o/\Q o
def Cg (cx:Cl) (t:E) (body:Rs) (n:Nat) (δ:Loc) (Q:OR->Prop):Prop:=∃ o,md (λδ0=>evT cx t δ0) (λδ0=>fO cx body δ0) n δ = some o/\Q o
def EC (cx:Cl) (rs:Rs) (Q:OR->Prop):OR->Prop
 | .inl (.nx δ)=>wRs cx rs δ Q
 | o=>Q o
def Pz (next:Loc->Prop) (Q:OR->Prop):OR->Prop
 | .inl (.nx δ)=>next δ
 | o=>Q o
def gO {Q:OR->Prop}:wRs cx .nil δ Q↔Q (.inl (.nx δ)):=⟨λ⟨_,e,q⟩=>by simp only [fO] at e;cases e;exact q,λq=>⟨_,by simp only [fO],q⟩⟩
def cM {r:R} {rs:Rs} {Q:OR->Prop}:wRs cx (.cons r rs) δ Q↔wR cx r δ (EC cx rs Q):=by
 unfold wRs wR;simp only [fO]
 cases evR cx r δ with
 | none=>exact ⟨λ⟨_,e,_⟩=>(by cases e),λ⟨_,e,_⟩=>by cases e⟩
 | some o =>
   constructor
   . rintro ⟨o',e,q⟩;refine ⟨o,rfl,?_⟩;rcases o with (δ1 | _ | _ | _ | _) | _<;>first | exact ⟨o',e,q⟩ | (cases e;exact q)
   . rintro ⟨o',e,q⟩;cases e;rcases o with (δ1 | _ | _ | _ | _) | _<;>first | exact q | exact ⟨_,rfl,q⟩
def KA {s:S} {Q:OR->Prop}:wR cx (.st s) δ Q↔wS cx s δ λo=>Q (.inl o):=by
 unfold wR wS;simp only [evR]
 cases evS cx s δ with
 | none=>exact ⟨λ⟨_,e,_⟩=>(by cases e),λ⟨_,e,_⟩=>by cases e⟩
 | some o=>exact ⟨λ⟨_,e,q⟩=>by cases e;exact ⟨_,rfl,q⟩,λ⟨_,e,q⟩=>by cases e;exact ⟨_,rfl,q⟩⟩
def LF {c:Str} {Q:OR->Prop}:wR cx (.rse c) δ Q↔Q (.inr (c,δ)):=⟨λ⟨_,e,q⟩=>by simp only [evR] at e;cases e;exact q,λq=>⟨_,by simp only [evR],q⟩⟩
def hV {t:E} {a b:Rs} {Q:OR->Prop}:wR cx (.ifs t a b) δ Q↔wT cx t δ λk δ1=>if k = true then wRs cx a δ1 Q else wRs cx b δ1 Q:=by
 unfold wR wT wRs;simp only [evR]
 cases evT cx t δ with
 | none=>exact ⟨λ⟨_,e,_⟩=>(by cases e),λ⟨_,_,e,_⟩=>by cases e⟩
 | some p =>
   obtain ⟨k,δ1⟩:=p
   cases k with
   | true=>exact ⟨λq=>⟨_,_,rfl,q⟩,λ⟨_,_,e,q⟩=>by cases e;exact q⟩
   | false=>exact ⟨λq=>⟨_,_,rfl,q⟩,λ⟨_,_,e,q⟩=>by cases e;exact q⟩
def Ee {t:E} {body:Rs} {Q:OR->Prop}:wR cx (.whl t body) δ Q↔Cg cx t body 1000 δ Q:=by
 unfold wR Cg;simp only [evR]
def nW {t:E} {body:Rs} {n:Nat} {Q:OR->Prop}:Cg cx t body (n+1) δ Q↔wT cx t δ λk δ1=>if k = true then wRs cx body δ1 (Pz (λδ3=>Cg cx t body n δ3 Q) Q) else Q (.inl (.nx δ1)):=by
 unfold Cg wT wRs;simp only [md]
 cases evT cx t δ with
 | none=>exact ⟨λ⟨_,e,_⟩=>(by cases e),λ⟨_,_,e,_⟩=>by cases e⟩
 | some p =>
   obtain ⟨k,δ1⟩:=p
   cases k with
   | false=>exact ⟨λ⟨_,e,q⟩=>by cases e;exact ⟨_,_,rfl,q⟩,λ⟨_,_,e,q⟩=>by cases e;exact ⟨_,rfl,q⟩⟩
   | true =>
     dsimp only
     cases eb:fO cx body δ1 with
     | none=>exact ⟨λ⟨_,e,_⟩=>(by cases e),λ⟨_,_,e,q⟩=>by cases e;obtain ⟨_,e,_⟩:=q;rw [eb] at e;cases e⟩
     | some o =>
       constructor
       . rintro ⟨o',e,q⟩;refine ⟨_,_,rfl,o,eb,?_⟩;rcases o with (δ2 | _ | _ | _ | _) | _<;>first | exact ⟨o',e,q⟩ | (cases e;exact q)
       . rintro ⟨_,_,e,q⟩;cases e;obtain ⟨o',e,q⟩:=q;rw [eb] at e;cases e;rcases o with (δ2 | _ | _ | _ | _) | _<;>first | exact q | exact ⟨_,rfl,q⟩
def Ib {s:S} {f g:Nat} {es:Es} {Q:OR->Prop} (h:wEs cx es δ λds δ1=>∃ c,cx.call g ds = some (.str c)/\Q (.inr (c,δ1))):wR cx (.cal s f g es) δ Q:=by
 obtain ⟨ds,δ1,e,c,ec,q⟩:=h;refine ⟨_,?_,q⟩;simp only [evR,e,ec]
def Ic {s:S} {f g:Nat} {es:Es} {Q:OR->Prop} (h:wEs cx es δ λds _=>cx.call g ds = none) (q:wS cx s δ λo=>Q (.inl o)):wR cx (.cal s f g es) δ Q:=by
 obtain ⟨ds,δ1,e,ec⟩:=h;obtain ⟨o,eo,q⟩:=q;refine ⟨_,?_,q⟩;simp only [evR,e,ec,eo,dy]
def fq {rs:Rs} {δ1:Loc} {Q:OR->Prop}:EC cx rs Q (.inl (.nx δ1))↔wRs cx rs δ1 Q:=cY
def OK {rs:Rs} {Q:Out->Prop} (h:wRs cx rs δ λr=>∃ o,r = .inl o/\Q o):wSs cx (lV rs) δ Q:=by
 obtain ⟨r,e,o,rfl,q⟩:=h;refine ⟨o,?_,q⟩;unfold lV;simp only [dD,evS,e];cases o<;>rfl
def OJ {rs:Rs} {Q:Out->Prop} (h:wRs cx rs δ λr=>∃ c δ1,r = .inr (c,δ1)/\Q (.rt (.str c) δ1)):wSs cx (iW rs) δ Q:=by
 obtain ⟨r,e,c,δ1,rfl,q⟩:=h;refine ⟨_,?_,q⟩;unfold iW;simp only [dD,evS,e]
def LC {ups:List (Str × List Str)} {rs:Rs} {j:Nat} {qs:Qs} {Q:Out->Prop} (h:wRs cx rs δ λr=>∃ c δ1 up,r = .inr (c,δ1)/\ups.lookup c = some up/\JX δ1[j]? = true/\Q (.nx (qs.ev up δ1))):wS cx (.opq (wY ups rs j qs)) δ Q:=by
 obtain ⟨r,e,c,δ1,up,rfl,e1,e2,q⟩:=h;refine ⟨_,?_,q⟩;simp only [evS,wY,e,e1,e2,if_true]
def uQ {G:List Fd} {gl:List D} {n g:Nat} {ds:List D} (fd:Fd) {rs:Rs} (e:G[g]? = some fd) (hb:fd.body = iW rs) (hf:fd.hf = false) (h:wRs ⟨PP.run G gl n,gl,hfs G⟩ rs (init (fd.ps++fd.loc).length ds) λr=>∃ o,r = .inl o):PP.run G gl (n+1) g ds = none:=by
 obtain ⟨r,er,o,rfl⟩:=h;unfold PP.run;rw [e];dsimp only;split
 . rw [hf];unfold entry;dsimp only;rw [hb];unfold iW;simp only [dD,evS,er];rfl
 . rfl
end
section
variable {cx:Cl} {δ:Loc}
end
def gx (h:ltD a b = some k):(∃ i j:Int,a = .int i/\b = .int j/\k = decide (i < j))\/(∃ s t:Str,a = .str s/\b = .str t/\k = ltS s t)\/∃ xs ys,a = .tup xs/\b = .tup ys/\eF xs ys = some k:=by
 unfold ltD at h;split at h
 . cases h;exact .inl ⟨_,_,rfl,rfl,rfl⟩
 . cases h;exact .inr (.inl ⟨_,_,rfl,rfl,rfl⟩)
 . exact .inr (.inr ⟨_,_,rfl,rfl,h⟩)
 . cases h
def eR {x y:D} {xs ys:List D} (hx:hb x = true) (hy:hb y = true):eF (x::xs) (y::ys) = some k↔(x = y/\eF xs ys = some k)\/(x≠y/\ltD x y = some k):=by
 rw [show eF (x::xs) (y::ys) = if eqD x y = true then eF xs ys else ltD x y from by rw [eF]];by_cases e:x = y
 . rw [if_pos ((fU x y hx hy).mpr e)];exact ⟨λh=>.inl ⟨e,h⟩,λh=>h.elim (·.2) λz=>absurd e z.1⟩
 . rw [if_neg λz=>e ((fU x y hx hy).mp z)];exact ⟨λh=>.inr ⟨e,h⟩,λh=>h.elim (λz=>absurd z.1 e) (·.2)⟩
def LtA (a:D):Prop:=∀ b k k',hb a = true->hb b = true->ltD a b = some k->ltD b a = some k'->(a = b/\k = false/\k' = false)\/(a≠b/\k' = !k)
def LtT (a:D):Prop:=∀ b c k,hb a = true->hb b = true->hb c = true->ltD b a = some false->ltD c b = some false->ltD c a = some k->k = false
def kQ (h:hbL (x::xs) = true):hb x = true/\hbL xs = true:=by
 unfold hbL at h
 rwa [aa] at h
def xW:∀ (xs ys:List D) (k k':Bool),(∀ x∈xs,LtA x)->hbL xs = true->hbL ys = true->eF xs ys = some k->eF ys xs = some k'->(xs = ys/\k = false/\k' = false)\/(xs≠ys/\k' = !k)
 | [],[],k,k',_,_,_,h,h'=>by
   unfold eF at h h';cases h;cases h'
   exact .inl ⟨rfl,rfl,rfl⟩
 | [],_::_,k,k',_,_,_,h,h'=>by
   unfold eF at h h';cases h;cases h'
   exact .inr ⟨↥0,rfl⟩
 | _::_,[],k,k',_,_,_,h,h'=>by
   unfold eF at h h';cases h;cases h'
   exact .inr ⟨↥0,rfl⟩
 | x::xs,y::ys,k,k',hA,h1,h2,h,h'=>by
   obtain ⟨a1,a2⟩:=kQ h1;obtain ⟨b1,b2⟩:=kQ h2;rcases (eR a1 b1).mp h with ⟨rfl,g⟩ | ⟨e,g⟩
   . rcases (eR b1 a1).mp h' with ⟨_,g'⟩ | ⟨e',_⟩
     . rcases xW xs ys k k' (λz hz=>hA z (ar _ hz)) a2 b2 g g' with ⟨rfl,q⟩ | ⟨n,q⟩
       . exact .inl ⟨rfl,q⟩
       . exact .inr ⟨λz=>n (List.cons.inj z).2,q⟩
     . exact absurd rfl e'
   . rcases (eR b1 a1).mp h' with ⟨e',_⟩ | ⟨_,g'⟩
     . exact absurd e'.symm e
     . rcases hA x au y k k' a1 b1 g g' with ⟨z,_⟩ | ⟨_,q⟩
       . exact absurd z e
       . exact .inr ⟨λz=>e (List.cons.inj z).1,q⟩
def sf:∀ {xs:List D},x∈xs->dep x<=cI xs
 | y::ys,h=>by
   unfold cI;rcases aB.mp h with rfl | h
   . exact tF _ _
   . exact bF (sf h) (sE _ _)
def mZ:∀ (n:Nat) (a:D),dep a<=n->LtA a
 | n,a,hn,b,k,k',ha,hb',h,h'=>by
   rcases gx h with ⟨i,j,rfl,rfl,rfl⟩ | ⟨s,t,rfl,rfl,rfl⟩ | ⟨xs,ys,rfl,rfl,h⟩
   . rcases gx h' with ⟨i',j',e1,e2,rfl⟩ | ⟨_,_,e,_⟩ | ⟨_,_,e,_⟩
     . cases e1;cases e2;by_cases e:i = j
       . subst e;exact .inl ⟨rfl,↥0,↥0⟩
       . refine .inr ⟨λz=>e (D.int.inj z),?_⟩;by_cases l:i < j
         . rw [decide_eq_true l,decide_eq_false ∅];rfl
         . rw [decide_eq_false l,decide_eq_true ∅];rfl
     . cases e
     . cases e
   . rcases gx h' with ⟨_,_,e,_⟩ | ⟨s',t',e1,e2,rfl⟩ | ⟨_,_,e,_⟩
     . cases e
     . cases e1;cases e2;by_cases e:s = t
       . subst e
         have:ltS s s = false:=by
          cases z:ltS s s with
          | false=>rfl
          | true=>have:=Gk _ _ z;rw [z] at this;cases this
         exact .inl ⟨rfl,this,this⟩
       . refine .inr ⟨λz=>e (D.str.inj z),?_⟩
         cases z:ltS s t with
         | true=>exact Gk _ _ z
         | false =>
           cases z':ltS t s with
           | true=>rfl
           | false=>exact absurd (Nt _ _ z z') e
     . cases e
   . rcases gx h' with ⟨_,_,e,_⟩ | ⟨_,_,e,_⟩ | ⟨xs',ys',e1,e2,h'⟩
     . cases e
     . cases e
     . cases e1;cases e2;unfold hb at ha hb';have hd:cI xs+1<=n:=by unfold dep at hn;exact hn
       cases n with
       | zero=>lia
       | succ n =>
         rcases xW xs ys k k' (λx hx=>mZ n x (by have:=sf hx;lia)) ha hb' h h' with ⟨rfl,q⟩ | ⟨e,q⟩
         . exact .inl ⟨rfl,q⟩
         . exact .inr ⟨λz=>e (D.tup.inj z),q⟩
def xV:∀ (xs ys zs:List D) (k:Bool),(∀ x∈xs,LtT x)->hbL xs = true->hbL ys = true->hbL zs = true->eF ys xs = some false->eF zs ys = some false->eF zs xs = some k->k = false
 | [],ys,zs,k,_,_,_,_,_,_,h3=>by
   cases zs<;>unfold eF at h3<;>cases h3<;>rfl
 | x::xs,[],zs,k,_,_,_,_,h1,_,_=>by
   unfold eF at h1;cases h1
 | x::xs,y::ys,[],k,_,_,_,_,_,h2,_=>by
   unfold eF at h2;cases h2
 | x::xs,y::ys,z::zs,k,hT,b1,b2,b3,h1,h2,h3=>by
   obtain ⟨x1,x2⟩:=kQ b1;obtain ⟨y1,y2⟩:=kQ b2;obtain ⟨z1,z2⟩:=kQ b3;rcases (eR y1 x1).mp h1 with ⟨e1,g1⟩ | ⟨e1,g1⟩
   . subst e1;rcases (eR z1 y1).mp h2 with ⟨e2,g2⟩ | ⟨e2,g2⟩
     . subst e2;rcases (eR z1 z1).mp h3 with ⟨_,g3⟩ | ⟨e3,_⟩
       . exact xV xs ys zs k (λw hw=>hT w (ar _ hw)) x2 y2 z2 g1 g2 g3
       . exact absurd rfl e3
     . rcases (eR z1 y1).mp h3 with ⟨e3,_⟩ | ⟨_,g3⟩
       . exact absurd e3 e2
       . rw [g2] at g3;cases g3;rfl
   . rcases (eR z1 y1).mp h2 with ⟨e2,g2⟩ | ⟨e2,g2⟩
     . subst e2;rcases (eR z1 x1).mp h3 with ⟨e3,_⟩ | ⟨_,g3⟩
       . exact absurd e3 e1
       . rw [g1] at g3;cases g3;rfl
     . rcases (eR z1 x1).mp h3 with ⟨e3,_⟩ | ⟨_,g3⟩
       . subst e3;rcases mZ _ y (aw _) z false false y1 z1 g1 g2 with ⟨e,_⟩ | ⟨_,e⟩
         . exact absurd e e1
         . cases e
       . exact hT x au y z k x1 y1 z1 g1 g2 g3
def vH:∀ (n:Nat) (a:D),dep a<=n->LtT a
 | n,a,hn,b,c,k,ha,hb',hc,h1,h2,h3=>by
   rcases gx h3 with ⟨i,j,rfl,rfl,rfl⟩ | ⟨s,t,rfl,rfl,rfl⟩ | ⟨zs,xs,rfl,rfl,g3⟩
   . rcases gx h1 with ⟨i',j',rfl,e2,e3⟩ | ⟨_,_,_,e,_⟩ | ⟨_,_,_,e,_⟩
     . cases e2;rcases gx h2 with ⟨_,_,e4,e5,e6⟩ | ⟨_,_,e,_⟩ | ⟨_,_,e,_⟩
       . cases e4;cases e5;have:=of_decide_eq_false e3.symm;have:=of_decide_eq_false e6.symm;exact decide_eq_false ∅
       . cases e
       . cases e
     . cases e
     . cases e
   . rcases gx h1 with ⟨_,_,_,e,_⟩ | ⟨i',j',rfl,e2,e3⟩ | ⟨_,_,_,e,_⟩
     . cases e
     . cases e2;rcases gx h2 with ⟨_,_,e,_⟩ | ⟨_,_,e4,e5,e6⟩ | ⟨_,_,e,_⟩
       . cases e
       . cases e4;cases e5;exact Nr _ _ _ e3.symm e6.symm
       . cases e
     . cases e
   . rcases gx h1 with ⟨_,_,_,e,_⟩ | ⟨_,_,_,e,_⟩ | ⟨ys,xs',rfl,e2,g1⟩
     . cases e
     . cases e
     . cases e2;rcases gx h2 with ⟨_,_,e,_⟩ | ⟨_,_,e,_⟩ | ⟨_,_,e4,e5,g2⟩
       . cases e
       . cases e
       . cases e4;cases e5;unfold hb at ha hb' hc;have hd:cI xs+1<=n:=by unfold dep at hn;exact hn
         cases n with
         | zero=>lia
         | succ n=>exact xV xs ys zs k (λx hx=>vH n x (by have:=sf hx;lia)) ha hb' hc g1 g2 g3
def pY (h:lN a b = some k):ltD a b = some k/\ltB a b = k:=by
 refine ⟨?_,by unfold ltB;rw [h];rfl⟩;unfold lN at h;split at h
 . exact h
 . cases h
def LW (hs:sortable ds = true) (hh:∀ d∈ds,hb d = true):tot ds = true:=by
 obtain ⟨_,_,hlt⟩:=(letI:Tbs:=⟨[],[],[],[]⟩;dB hs);unfold tot;rw [bq];intro a ha;rw [bq];intro b hb';obtain ⟨k,e⟩:=hlt a ha b hb';obtain ⟨k',e'⟩:=hlt b hb' a ha;obtain ⟨e1,e2⟩:=pY e;obtain ⟨e1',e2'⟩:=pY e';have h:=mZ _ a (aw _) b k k' (hh a ha) (hh b hb') e1 e1';rw [e2,e2',aa,aa];refine ⟨⟨?_,?_⟩,?_⟩
 . rcases h with ⟨_,rfl,rfl⟩ | ⟨_,rfl⟩
   . rfl
   . cases k<;>rfl
 . rcases h with ⟨rfl,rfl,rfl⟩ | ⟨_,rfl⟩
   . rw [(fU a a (hh a ha) (hh a ha)).mpr rfl];rfl
   . cases k<;>rfl
 . rw [bq];intro c hc;obtain ⟨m,f⟩:=hlt c hc b hb';obtain ⟨m',f'⟩:=hlt c hc a ha;obtain ⟨f1,f2⟩:=pY f;obtain ⟨f1',f2'⟩:=pY f';rw [f2,f2']
   cases k' with
   | true=>rfl
   | false =>
     cases m with
     | true=>rfl
     | false =>
       rw [vH _ a (aw _) b c m' (hh a ha) (hh b hb') (hh c hc) e1' f1 f1'];rfl
def HA (hd:hb d = true) (hs:∀ y∈ds,hb y = true):x∈pI ds d↔x∈ds\/x = d:=by
 unfold pI;split
 . rename_i h;obtain ⟨y,hy,e⟩:=cA.mp h;rw [fU y d (hs y hy) hd] at e;exact ⟨.inl,λz=>z.elim id λz=>by rw [z,<- e];exact hy⟩
 . simp
def vW:∀ (xs ds:List D),(∀ x∈xs,hb x = true)->(∀ x∈ds,hb x = true)->ds.Nodup->(∀ x,x∈xs.foldl pI ds↔x∈ds\/x∈xs)/\(xs.foldl pI ds).Nodup
 | [],ds,_,_,h=>⟨λx=>by simp,h⟩
 | d::xs,ds,h1,h2,h3=>by
   have hd:=h1 d au;have hm:∀ x,x∈pI ds d↔x∈ds\/x = d:=λx=>HA hd h2
   have hn:(pI ds d).Nodup:=by
    unfold pI;split
    . exact h3
    . rename_i h;rw [pB];refine ⟨h3,↥0,λa ha b hb'=>?_⟩;rw [bQ] at hb';intro e;apply h;exact cA.mpr ⟨a,ha,(fU a d (h2 a ha) hd).mpr (by rw [e,hb'])⟩
   obtain ⟨i1,i2⟩:=vW xs (pI ds d) (λx hx=>h1 x (ar _ hx)) (λx hx=>by
    rcases (hm x).mp hx with z | rfl
    . exact h2 x z
    . exact hd) hn
   refine ⟨λx=>?_,i2⟩;rw [gq,i1 x,hm x,aB,or_assoc]
def kT (h:∀ x∈xs,hb x = true):x∈ku xs↔x∈xs:=by
 have:=(vW xs [] h ↥0 ↥0).1 x;unfold ku;rw [this];simp
def mD (h:∀ x∈xs,hb x = true):(ku xs).Nodup:=(vW xs [] h ↥0 ↥0).2
def mQ {α:Type}:∀ {l ns:List α},l.Nodup->(∀ x∈l,x∈ns)->l.length<=ns.length
 | [],_,_,_=>cC _
 | x::l,ns,h,hs=>by
   rw [fh] at h;obtain ⟨a,b,rfl⟩:=List.append_of_mem (hs x au)
   have ih:=mQ (l:=l) (ns:=a++b) h.2 λy hy=>by
    have:=hs y (ar _ hy);simp only [bb,aB] at this |-;rcases this with z | rfl | z
    . exact .inl z
    . exact absurd hy h.1
    . exact .inr z
   simp only [ay,aI] at ih |-
   lia
def sT (hn:n < 64) (h:∀ x∈xs,hb x = true) (hl:∀ l:List D,l.Nodup->(∀ x∈l,x∈xs)->l.length<=n) (hk:∀ x∈xs,bK x = 3) (hc:∀ x∈xs,∀ y∈xs,(lN x y).isSome = true):sortable (ku xs) = true:=by
 have hm:∀ x,x∈ku xs->x∈xs:=λx hx=>(kT h).mp hx;unfold sortable;simp only [aa,decide_eq_true_eq,bq];refine ⟨⟨dq (hl _ (mD h) hm) hn,λx hx=>?_⟩,λx hx y hy=>hc x (hm x hx) y (hm y hy)⟩
 cases e:ku xs with
 | nil=>rw [e] at hx;cases hx
 | cons z zs =>
   have e1:=hk x (hm x hx);have e2:=hk z (hm z (by rw [e];exact au));show (bK x != 0) = true/\(bK x == bK z) = true;rw [e1,e2];exact ⟨rfl,rfl⟩
end PP
end
section
namespace PP
open PySem L2
def qF:Nat->Ss->Ss
 | 0,_=>.nil
 | _,.nil=>.nil
 | k+1,.cons s ss=>.cons s (qF k ss)
def gc:Nat->Ss->Ss
 | 0,ss=>ss
 | _,.nil=>.nil
 | k+1,.cons _ ss=>gc k ss
def nxS (R:PP.Loc->Prop) (Q:Out->Prop):Out->Prop
 | .nx δ=>R δ
 | o=>Q o
def Aw (h:wS cx s δ P) (k:∀ o,P o->Q o):wS cx s δ Q:=let ⟨o,e,p⟩:=h;⟨o,e,k o p⟩
def uS {R:PP.Loc->Prop}:∀ (k:Nat) (ss:Ss) (δ:PP.Loc),wSs cx (qF k ss) δ (nxS R Q)->(∀ δ',R δ'->wSs cx (gc k ss) δ' Q)->wSs cx ss δ Q
 | 0,ss,δ,h,q=>by
   unfold qF at h
   exact q δ (pN.mp h)
 | _+1,.nil,δ,h,q=>by
   unfold qF at h;unfold gc at q
   exact q δ (pN.mp h)
 | k+1,.cons s ss,δ,h,q=>by
   unfold qF at h;unfold gc at q;refine cL.mpr (Aw (cL.mp h) λo p=>?_)
   cases o with
   | nx δ1=>exact uS k ss δ1 p q
   | rt d δ1=>exact p
   | ro d δ1=>exact p
def gv (k:Nat) (δ':PP.Loc) (h:dD cx (qF k ss) δ = some (.nx δ')) (q:wSs cx (gc k ss) δ' Q):wSs cx ss δ Q:=uS (R:=λd=>d = δ') k ss δ ⟨.nx δ',h,rfl⟩ λ_ e=>e▸q
def PC {c A B:Prop} [Decidable c] (h1:c->A) (h2:¬ c->B):if c then A else B:=by
 by_cases h:c
 . rw [if_pos h];exact h1 h
 . rw [if_neg h];exact h2 h
def Hx:Ss->Ss->Ss
 | .nil,r=>r
 | .cons s t,r=>.cons s (Hx t r)
def uT {r:Ss}:∀ {a:Ss} {δ:PP.Loc},wSs cx (Hx a r) δ Q->wSs cx a δ (qE cx r Q)
 | .nil,δ,h=>pN.mpr (iG.mpr h)
 | .cons s t,δ,h=>cL.mpr (Aw (cL.mp h) λo p=>by
   cases o with
   | nx δ1=>exact uT p
   | rt d δ1=>exact p
   | ro d δ1=>exact p)
def dA (p:Bool) (h:evT cx c δ = some (p,δ)) (ha:p = true->wSs cx (Hx a r) δ Q) (hb:p = false->wSs cx (Hx b r) δ Q):wSs cx (.cons (.ifs c a b) r) δ Q :=
 cL.mpr (Eb.mpr ⟨p,δ,h,by cases p;exact uT (hb rfl);exact uT (ha rfl)⟩)
variable {G:List Fd} {gl:List D} {n f:Nat}
def qy (as:List D) (δ1:PP.Loc) (h:eH ⟨PP.run G gl n,gl,hfs G⟩ es δ = some (as,δ1)) (hc:jw G gl n f as λd=>∃ δ2,fZ δ1 tg d = some δ2/\wSs ⟨PP.run G gl n,gl,hfs G⟩ r δ2 Q):wSs ⟨PP.run G gl n,gl,hfs G⟩ (.cons (.asg tg (.call f es)) r) δ Q :=
 cL.mpr (yZ.mpr (mO.mpr ⟨as,δ1,h,nX.mpr hc⟩))
def wK (as:List D) (δ1:PP.Loc) (h:eH ⟨PP.run G gl n,gl,hfs G⟩ es δ = some (as,δ1)) (hc:jw G gl n f as Q):wSs ⟨PP.run G gl n,gl,hfs G⟩ (.cons (.ret (.call f es)) r) δ (retS Q) :=
 cL.mpr (yY.mpr (mO.mpr ⟨as,δ1,h,nX.mpr hc⟩))
def dP (as:List D) (h:eH ⟨PP.run G gl n,gl,hfs G⟩ es δ = some (as,δ)) (hc:jw G gl n f as λd=>∃ δ2,fZ δ tg d = some δ2/\wSs ⟨PP.run G gl n,gl,hfs G⟩ r δ2 Q):wSs ⟨PP.run G gl n,gl,hfs G⟩ (.cons (.asg tg (.call f es)) r) δ Q:=qy as δ h hc
def iA (as:List D) (h:eH ⟨PP.run G gl n,gl,hfs G⟩ es δ = some (as,δ)) (hc:jw G gl n f as Q):wSs ⟨PP.run G gl n,gl,hfs G⟩ (.cons (.ret (.call f es)) r) δ (retS Q):=wK as δ h hc
def lz (d:D) (h:evE cx e δ = some (d,δ)) (q:∃ δ2,fZ δ tg d = some δ2/\wSs cx r δ2 Q):wSs cx (.cons (.asg tg e) r) δ Q:=cL.mpr (yZ.mpr ⟨d,δ,h,q⟩)
def kR (ha:evE cx a δ = some (x,δ)) (hb:evE cx b δ = some (y,δ)) (h:ixD x y = some z):evE cx (.ix a b) δ = some (z,δ):=by
 simp only [evE,ha,hb,h,ag,aL];rfl
def cN (ha:evE cx a δ = some (x,δ)) (hb:evE cx b δ = some (y,δ)) (h:lO op x y = some p):evT cx (.cmp op a b) δ = some (p,δ):=by
 simp only [evT,ha,hb,h,ag,aL];rfl
def qz (d:D) (h:evE cx e δ = some (d,δ)) (ho:δ[i]? = some (.own ds)) (hl:ds.length < sizeLine) (q:wSs cx r (δ.set i (.own (ds++[d]))) Q):wSs cx (.cons (.append i e) r) δ Q:=by
 have hi:i < δ.length:=(aD.mp ho).1;refine cL.mpr (tJ.mpr ?_);unfold mM;rw [ho];refine ⟨d,δ,h,?_⟩;dsimp only;rw [ho];exact ⟨hl,hi,q⟩
def sS:Ss->Ss
 | .cons (.for_ _ _ b) _=>b
 | _=>.nil
def NP (ha:evT cx a δ = some (p,δ)) (hb:evT cx b δ = some (q,δ)):evT cx (.or a b) δ = some (p || q,δ):=by
 simp only [evT,ha,ag,aL];cases p
 . exact hb
 . rfl
def vR (ha:evT cx a δ = some (p,δ)) (hb:evT cx b δ = some (q,δ)):evT cx (.and a b) δ = some (p && q,δ):=by
 simp only [evT,ha,ag,aL];cases p
 . rfl
 . exact hb
def kS {α:Type} (g h:α->D) (as:α->List D) (xs:List α) (hl:xs.length<=sizeLine) (hi:evI ⟨PP.run G gl n,gl,hfs G⟩ src δ = some (xs.map g,δ)) (hd:i = δ.length) (he:∀ x∈xs,eH ⟨PP.run G gl n,gl,hfs G⟩ es (δ++[.val (g x)]) = some (as x,δ++[.val (g x)])) (hc:∀ x∈xs,PP.run G gl n f (as x) = some (h x)):evE ⟨PP.run G gl n,gl,hfs G⟩ (.comp 1 (.nm i) src .no (.call f es)) δ = some (.lst (xs.map h),δ):=by
 subst hd
 have:wE ⟨PP.run G gl n,gl,hfs G⟩ (.comp 1 (.nm δ.length) src .no (.call f es)) δ λd δ'=>d = .lst (xs.map h)/\δ' = δ:=by
  refine uU.mpr ⟨_,_,hi,iC g (λ_=>true) h xs (λx hx=>?_) ?_⟩
  . refine ⟨δ++[.val (g x)],?_,true,_,rfl,rfl,?_⟩
    . show (if δ.length < (δ++bc 1 Sl.no).length then _ else _) = _;rw [if_pos ↥0];simp [As]
    . rw [if_pos rfl];exact mO.mpr ⟨_,_,he x hx,_,hc x hx,rfl,↥0⟩
  . rw [iQ.mpr λ_ _=>rfl,av];exact ⟨hl,rfl,rfl⟩
 obtain ⟨_,_,e,rfl,rfl⟩:=this;exact e
def wL (ds:List D) (h:evE cx e δ = some (.lst ds,δ)) (hi:i < δ.length) (q:wSs cx r (δ.set i (.val (.lst ds))) Q):wSs cx (.cons (.cmp false i e) r) δ Q:=cL.mpr (Ia.mpr ⟨_,_,h,ds,rfl,hi,q⟩)
def bI (as:List D) (he:eH ⟨PP.run G gl n,gl,hfs G⟩ es δ = some (as,δ)) (hc:PP.run G gl n f as = some d):evE ⟨PP.run G gl n,gl,hfs G⟩ (.call f es) δ = some (d,δ):=by
 simp only [evE,he,hc,ag,aL];rfl
def Ha (as:List D) (he:eH ⟨PP.run G gl n,gl,hfs G⟩ es δ = some (as,δ)) (hc:PP.run G gl n f (as++[.non]) = some d):evE ⟨PP.run G gl n,gl,hfs G⟩ (.calld f es) δ = some (d,δ):=by
 simp only [evE,he,hc,ag,aL];rfl
def rY (h:evE cx e δ = some (d,δ)) (hi:items d = some ds):evI cx (.sq e) δ = some (ds,δ):=by
 simp only [evI,h,hi,ag,aL];rfl
def aV (h:evE cx e δ = some (d,δ)) (hs:eH cx es δ = some (ds,δ)):eH cx (.cons e es) δ = some (d::ds,δ):=by
 simp only [eH,h,hs,ag,aL];rfl
def qe (h:eH cx es δ = some (ds,δ)) (hl:ds.length<=sizeLine):evE cx (.tup es) δ = some (.tup ds,δ):=by
 simp only [evE,h,ag,aL];rw [if_pos hl];rfl
def en (ha:evE cx a δ = some (x,δ)) (hb:evE cx b δ = some (y,δ)) (h:opD op x y = some z):evE cx (.bin op a b) δ = some (z,δ):=by
 simp only [evE,ha,hb,h,ag,aL];rfl
def dZ (d:D) (h:evE cx e δ = some (d,δ)) (q:Q d):wSs cx (.cons (.ret e) r) δ (retS Q):=cL.mpr (yY.mpr ⟨d,δ,h,q⟩)
def jX (hc:evT cx c δ = some (p,δ)) (ha:evE cx a δ = some (x,δ)) (hb:evE cx b δ = some (y,δ)):evE cx (.ite c a b) δ = some (if p = true then x else y,δ):=by
 simp only [evE,hc,ag,aL];cases p
 . exact hb
 . exact ha
def ik (as:List D) (he:eH ⟨PP.run G gl n,gl,hfs G⟩ es δ = some (as,δ)) (hc:PP.run G gl n f as = some (.bl p)):evT ⟨PP.run G gl n,gl,hfs G⟩ (.call f es) δ = some (p,δ):=by
 simp only [evT,he,hc,ag,aL];rfl
def qd (h:evT cx e δ = some (p,δ)):evT cx (.not e) δ = some (!p,δ):=by
 simp only [evT,h,ag,aL];rfl
def uA {α:Type} (g1 g2 h:α->D) (as:α->List D) (xs:List α) (hl:xs.length<=sizeLine) (hi:evI ⟨PP.run G gl n,gl,hfs G⟩ src δ = some (xs.map (λx=>.tup [g1 x,g2 x]),δ)) (hd:i = δ.length) (hd2:j = δ.length+1) (he:∀ x∈xs,eH ⟨PP.run G gl n,gl,hfs G⟩ es (δ++[.val (g1 x),.val (g2 x)]) = some (as x,δ++[.val (g1 x),.val (g2 x)])) (hc:∀ x∈xs,PP.run G gl n f (as x) = some (h x)):evE ⟨PP.run G gl n,gl,hfs G⟩ (.comp 2 (.tp [i,j]) src .no (.call f es)) δ = some (.lst (xs.map h),δ):=by
 subst hd hd2
 have:wE ⟨PP.run G gl n,gl,hfs G⟩ (.comp 2 (.tp [δ.length,δ.length+1]) src .no (.call f es)) δ λd δ'=>d = .lst (xs.map h)/\δ' = δ:=by
  refine uU.mpr ⟨_,_,hi,iC (λx=>D.tup [g1 x,g2 x]) (λ_=>true) h xs (λx hx=>?_) ?_⟩
  . refine ⟨δ++[.val (g1 x),.val (g2 x)],?_,true,_,rfl,rfl,?_⟩
    . show (if [δ.length,δ.length+1].length = [g1 x,g2 x].length/\[δ.length,δ.length+1].all (· < (δ++bc 2 Sl.no).length) = true then some (([δ.length,δ.length+1].zip [g1 x,g2 x]).foldl (λδ p=>δ.set p.1 (.val p.2)) (δ++bc 2 Sl.no)) else none) = _;rw [if_pos ⟨rfl,↥0⟩];simp [As,bc]
    . rw [if_pos rfl];exact mO.mpr ⟨_,_,he x hx,_,hc x hx,rfl,↥0⟩
  . rw [iQ.mpr λ_ _=>rfl,av];exact ⟨hl,rfl,rfl⟩
 obtain ⟨_,_,e,rfl,rfl⟩:=this;exact e
def zY (h:eH cx es δ = some (ds,δ)) (hi:zpD ds = some zs):evI cx (.zp es) δ = some (zs,δ):=by
 simp only [evI,h,hi,ag,aL];rfl
def vS {j:Int} (h:evE cx e δ = some (.int j,δ)) (h0:-(2 ^ 62)<=j) (h1:j < 2 ^ 62):evI cx (.rng e) δ = some (qN 0 j.toNat,δ):=by
 simp only [evI,h,ag,aL];rw [if_pos ⟨h0,h1⟩]
def lG (h:eH cx es δ = some (ds,δ)) (hb:kU b ds = some z):evE cx (.blt b es) δ = some (z,δ):=by
 simp only [evE,h,hb,ag,aL];rfl
def pO (ds:List D) (h:evI cx src δ = some (ds,δ)) (q:kq cx tg body ds δ (qE cx r Q)):wSs cx (.cons (.for_ tg src body) r) δ Q:=cL.mpr (Ec.mpr ⟨ds,δ,h,q⟩)
def qf (ha:evE cx a δ = some (x,δ)) (hb:evE cx b δ = some (y,δ)) (h:lO op x y = some p):evE cx (.cmp op a b) δ = some (.bl p,δ):=by
 simp only [evE,ha,hb,h,ag,aL];rfl
end PP
end
section
namespace P1
open PySem L2 PP
def top (i:Nat):bD:=PySem.Challenge.pw_cutless_k40_bounds_of_a_step.main.body.getD i (.Pass ⟨0,0,0,0⟩)
def ql__law_kind:List (Qt × Str):=[((.isI "NoProof"),"proof"),((.isI "NoCut"),"cut"),((.isI "TooGreat"),"great"),((.or (.isI "NoName") (.or (.isI "NoRow") (.isI "NoText"))),"other"),((.or (.isI "NotCleared") (.or (.isI "NotPlain") (.nt .ty))),"other")]
def yw:Fd:=⟨"inside",["A"],[],
 (.cons (.ret (.ite (.cmp .isin (.ix (.var 0) (.int 0)) (.glob 0)) (.tup .nil) (.sl (.var 0) (.yes (.int 1)) .no)))
 .nil),false⟩
def ir:Fd:=⟨"sorted_row",["signed"],["kept","each"],
 (.cons (.new 1 (.lst .nil))
 (.cons (.for_ (.nm 2) (.sq (.blt .sorted (.cons (.var 0) .nil)))
 (.cons (.ifs (.or (.not (.var 1)) (.cmp .ne (.ix (.pk 1) (.neg (.int 1))) (.var 2)))
 (.cons (.append 1 (.var 2))
 .nil)
 .nil)
 .nil))
 (.cons (.ret (.blt .toTup (.cons (.pk 1) .nil)))
 .nil))),false⟩
def vX:Fd:=⟨"more",["row","added"],[],
 (.cons (.ret (.call 1 (.cons (.bin .add (.blt .toLst (.cons (.var 0) .nil)) (.blt .toLst (.cons (.var 1) .nil))) .nil)))
 .nil),false⟩
def nC:Fd:=⟨"closes",["row"],[],
 (.cons (.ifs (.or (.cmp .isin (.tup (.cons (.str "right") (.cons (.tup (.cons (.str "yes") .nil)) .nil))) (.var 0)) (.cmp .isin (.tup (.cons (.str "left") (.cons (.tup (.cons (.str "no") .nil)) .nil))) (.var 0)))
 (.cons .bad
 .nil)
 .nil)
 (.cons (.ret (.blt .any (.cons (.comp 2 (.tp [1,2]) (.sq (.var 0)) .no (.and (.cmp .eq (.var 1) (.str "left")) (.cmp .isin (.tup (.cons (.str "right") (.cons (.var 2) .nil))) (.var 0)))) .nil)))
 .nil)),false⟩
def kg:Fd:=⟨"signed_within",["side","A"],["signed"],
 (.cons (.cmp true 2 (.comp 1 (.nm 3) (.sq (.call 0 (.cons (.var 1) .nil))) .no (.tup (.cons (.var 0) (.cons (.var 3) .nil)))))
 (.cons (.ifs (.cmp .isin (.ix (.var 1) (.int 0)) (.tup (.cons (.str "not") (.cons (.str "if") .nil))))
 (.cons .bad
 .nil)
 .nil)
 (.cons (.ret (.var 2))
 .nil))),false⟩
def BF:Fd:=⟨"parts",["side","A","name"],["kind","signed"],
 (.cons (.asg (.nm 3) (.ix (.var 1) (.int 0)))
 (.cons (.ifs (.cmp .isin (.var 3) (.glob 0))
 (.cons .bad
 .nil)
 .nil)
 (.cons (.ifs (.cmp .isin (.var 3) (.glob 1))
 (.cons .bad
 .nil)
 .nil)
 (.cons (.asg (.nm 4) (.call 4 (.cons (.var 0) (.cons (.var 1) .nil))))
 (.cons (.ifs (.cmp .isin (.tup (.cons (.var 0) (.cons (.var 3) .nil))) (.glob 2))
 (.cons (.ret (.comp 1 (.nm 5) (.sq (.var 4)) .no (.lst (.cons (.var 5) .nil))))
 .nil)
 .nil)
 (.cons (.ret (.lst (.cons (.var 4) .nil)))
 .nil)))))),false⟩
def yv:Fd:=⟨"is_own",["side","A"],[],
 (.cons (.ret (.cmp .isin (.tup (.cons (.var 0) (.cons (.ix (.var 1) (.int 0)) .nil))) (.glob 3)))
 .nil),false⟩
def yx:Fd:=⟨"cut_of",["A","first","second"],[],
 (.cons (.ret (.tup (.cons (.str "cut") (.cons (.var 0) (.cons (.tup (.cons (.var 1) (.cons (.var 2) .nil))) .nil)))))
 .nil),false⟩
def lI:Fd:=⟨"kids_of",["tree"],[],
 (.cons (.ret (.ite (.cmp .eq (.var 0) (.glob 4)) (.tup .nil) (.ix (.var 0) (.neg (.int 1)))))
 .nil),false⟩
def jc:Fd:=⟨"with_kids",["tree","kids"],[],
 (.cons (.ret (.ite (.cmp .eq (.var 0) (.glob 4)) (.var 0) (.bin .add (.sl (.var 0) .no (.yes (.neg (.int 1)))) (.tup (.cons (.blt .toTup (.cons (.var 1) .nil)) .nil)))))
 .nil),false⟩
def lZ:Fd:=⟨"added_above",["tree"],[],
 (.cons (.ifs (.cmp .eq (.ix (.var 0) (.int 0)) (.str "rule"))
 (.cons (.ret (.call 5 (.cons (.ix (.var 0) (.int 1)) (.cons (.ix (.var 0) (.int 2)) (.cons (.ix (.var 0) (.int 3)) .nil)))))
 .nil)
 .nil)
 (.cons (.ifs (.cmp .eq (.ix (.var 0) (.int 0)) (.str "cut"))
 (.cons (.ret (.lst (.cons (.lst (.cons (.tup (.cons (.str "right") (.cons (.ix (.var 0) (.int 1)) .nil))) .nil)) (.cons (.lst (.cons (.tup (.cons (.str "left") (.cons (.ix (.var 0) (.int 1)) .nil))) .nil)) .nil))))
 .nil)
 .nil)
 (.cons (.ret (.lst .nil))
 .nil))),false⟩
def iu:Fd:=⟨"rows_above",["row","tree"],[],
 (.cons (.ret (.comp 1 (.nm 2) (.sq (.call 10 (.cons (.var 1) .nil))) .no (.call 2 (.cons (.var 0) (.cons (.var 2) .nil)))))
 .nil),false⟩
def jd:Fd:=⟨"stands_at",["row","tree"],["side","A","name"],
 (.cons (.asg (.tp [2,3,4]) (.sl (.var 1) (.yes (.int 1)) (.yes (.int 4))))
 (.cons (.ifs (.cmp .notin (.tup (.cons (.var 2) (.cons (.var 3) .nil))) (.var 0))
 (.cons .bad
 .nil)
 .nil)
 (.cons (.ifs (.cmp .ne (.cmp .isin (.ix (.var 3) (.int 0)) (.glob 1)) (.cmp .ne (.var 4) (.str "")))
 (.cons .bad
 .nil)
 .nil)
 (.cons (.ret (.not (.and (.call 6 (.cons (.var 2) (.cons (.var 3) .nil))) .bad)))
 .nil)))),false⟩
def ib:Fd:=⟨"fits",["row","tree"],["rows","kids","above","kid"],
 (.cons (.ifs (.cmp .eq (.var 1) (.glob 4))
 (.cons (.ret (.call 3 (.cons (.var 0) .nil)))
 .nil)
 .nil)
 (.cons (.ifs (.and (.cmp .eq (.ix (.var 1) (.int 0)) (.str "rule")) (.not (.call 12 (.cons (.var 0) (.cons (.var 1) .nil)))))
 (.cons .bad
 .nil)
 .nil)
 (.cons (.asg (.nm 2) (.call 11 (.cons (.var 0) (.cons (.var 1) .nil))))
 (.cons (.asg (.nm 3) (.call 8 (.cons (.var 1) .nil)))
 (.cons (.ifs (.or (.not (.var 2)) (.cmp .ne (.blt .len (.cons (.var 2) .nil)) (.blt .len (.cons (.var 3) .nil))))
 (.cons .bad
 .nil)
 .nil)
 (.cons (.for_ (.tp [4,5]) (.zp (.cons (.var 2) (.cons (.var 3) .nil)))
 (.cons (.ifs (.not (.call 13 (.cons (.var 4) (.cons (.var 5) .nil))))
 (.cons (.ret (.bl false))
 .nil)
 .nil)
 .nil))
 (.cons (.ret (.bl true))
 .nil))))))),false⟩
def gA:Fd:=⟨"trees_within",["tree"],["found","kid"],
 (.cons (.new 1 (.lst (.cons (.var 0) .nil)))
 (.cons (.for_ (.nm 2) (.sq (.call 8 (.cons (.var 0) .nil)))
 (.cons (.extend 1 (.call 14 (.cons (.var 2) .nil)))
 .nil))
 (.cons (.ret (.var 1))
 .nil))),false⟩
def qk:Fd:=⟨"nodes",["tree"],[],
 (.cons (.ret (.blt .len (.cons (.call 14 (.cons (.var 0) .nil)) .nil)))
 .nil),false⟩
def nB:Fd:=⟨"height",["tree"],[],
 (.cons (.ret (.bin .add (.int 1) (.maxd (.comp 1 (.nm 1) (.sq (.call 8 (.cons (.var 0) .nil))) .no (.call 16 (.cons (.var 1) .nil))) 0)))
 .nil),false⟩
def gP:Fd:=⟨"cuts_within",["tree"],[],
 (.cons (.ret (.comp 1 (.nm 1) (.sq (.call 14 (.cons (.var 0) .nil))) (.yes (.cmp .eq (.ix (.var 1) (.int 0)) (.str "cut"))) (.var 1)))
 .nil),false⟩
def vY:Fd:=⟨"cuts",["tree"],[],
 (.cons (.ret (.blt .len (.cons (.call 17 (.cons (.var 0) .nil)) .nil)))
 .nil),false⟩
def qm:Fd:=⟨"freed",["row","tree","shunned"],["side","A","name","kids","taken","new"],
 (.cons (.ifs (.or (.cmp .ne (.ix (.var 1) (.int 0)) (.str "rule")) (.not (.call 6 (.cons (.ix (.var 1) (.int 1)) (.cons (.ix (.var 1) (.int 2)) .nil)))))
 (.cons (.ret (.var 1))
 .nil)
 .nil)
 (.cons .bad
 (.cons .bad
 (.cons .bad
 (.cons .bad
 (.cons .bad
 .nil)))))),false⟩
def fP:Fd:=⟨"fitted",["row","tree","shunned"],["shunned_names","free","kids"],
 (.cons (.asg (.nm 3) (.ite (.cmp .is (.var 2) .non) (.lst .nil) (.blt .toLst (.cons (.var 2) .nil))))
 (.cons (.asg (.nm 4) (.call 19 (.cons (.var 0) (.cons (.var 1) (.cons (.var 3) .nil)))))
 (.cons (.cmp false 5 (.comp 2 (.tp [6,7]) (.zp (.cons (.call 11 (.cons (.var 0) (.cons (.var 4) .nil))) (.cons (.call 8 (.cons (.var 4) .nil)) .nil))) .no (.call 20 (.cons (.var 6) (.cons (.var 7) (.cons (.var 3) .nil))))))
 (.cons (.ret (.call 9 (.cons (.var 4) (.cons (.var 5) .nil))))
 .nil)))),false⟩
def iq:Fd:=⟨"with_first",["G","A","kid","K"],[],
 (.cons (.ret (.call 7 (.cons (.var 1) (.cons (.var 2) (.cons (.calld 20 (.cons (.call 2 (.cons (.var 0) (.cons (.lst (.cons (.tup (.cons (.str "left") (.cons (.var 1) .nil))) .nil)) .nil))) (.cons (.var 3) .nil))) .nil)))))
 .nil),false⟩
def gQ:Fd:=⟨"above_first",["G","A","L","K"],["kids"],
 (.cons (.cmp false 4 (.comp 2 (.tp [5,6]) (.zp (.cons (.call 11 (.cons (.var 0) (.cons (.var 2) .nil))) (.cons (.call 8 (.cons (.var 2) .nil)) .nil))) .no (.call 21 (.cons (.var 5) (.cons (.var 1) (.cons (.var 6) (.cons (.var 3) .nil)))))))
 (.cons (.ret (.call 9 (.cons (.var 2) (.cons (.var 4) .nil))))
 .nil)),false⟩
def je:Fd:=⟨"given_way",["G","cut"],["A","L","K"],
 (.cons (.asg (.pr 2 [3,4]) (.sl (.var 1) (.yes (.int 1)) .no))
 (.cons (.ifs (.call 3 (.cons (.var 0) .nil))
 (.cons .bad
 .nil)
 .nil)
 (.cons (.ifs (.call 13 (.cons (.var 0) (.cons (.var 3) .nil)))
 (.cons .bad
 .nil)
 .nil)
 (.cons (.ifs (.call 13 (.cons (.var 0) (.cons (.var 4) .nil)))
 (.cons (.ret (.var 4))
 .nil)
 .nil)
 (.cons (.ifs (.cmp .ne (.sl (.var 3) (.yes (.int 1)) (.yes (.int 3))) (.tup (.cons (.str "right") (.cons (.var 2) .nil))))
 (.cons (.ret (.call 22 (.cons (.var 0) (.cons (.var 2) (.cons (.var 3) (.cons (.var 4) .nil))))))
 .nil)
 .nil)
 (.cons .bad
 (.cons .bad
 .nil))))))),false⟩
def eJ:Fd:=⟨"stepped",["row","tree"],["kids","at"],
 (.cons (.ifs (.and (.cmp .eq (.ix (.var 1) (.int 0)) (.str "cut")) (.cmp .eq (.call 18 (.cons (.var 1) .nil)) (.int 1)))
 (.cons (.ret (.call 23 (.cons (.var 0) (.cons (.var 1) .nil))))
 .nil)
 .nil)
 (.cons (.new 2 (.blt .toLst (.cons (.call 8 (.cons (.var 1) .nil)) .nil)))
 (.cons (.asg (.nm 3) (.int 0))
 (.cons (.while_ (.cmp .eq (.call 18 (.cons (.ix (.pk 2) (.var 3)) .nil)) (.int 0))
 (.cons (.aug 3 .add (.int 1))
 .nil))
 (.cons (.setix 2 (.var 3) (.call 24 (.cons (.ix (.call 11 (.cons (.var 0) (.cons (.var 1) .nil))) (.var 3)) (.cons (.ix (.pk 2) (.var 3)) .nil))))
 (.cons (.ret (.call 9 (.cons (.var 1) (.cons (.var 2) .nil))))
 .nil)))))),false⟩
def gB:Fd:=⟨"is_too_great",["tree"],[],
 (.cons (.ret (.or (.cmp .gt (.call 15 (.cons (.var 0) .nil)) (.glob 5)) (.cmp .gt (.call 16 (.cons (.var 0) .nil)) (.glob 6))))
 .nil),false⟩
def r_bounded_step:Rs:=(.cons (.st (.asg (.nm 2) (.call 24 (.cons (.var 0) (.cons (.var 1) .nil)))))
 (.cons (.ifs (.call 25 (.cons (.var 2) .nil))
 (.cons (.rse "TooGreat")
 .nil)
 .nil)
 (.cons (.st (.ret (.var 2)))
 .nil)))
def x_bounded_step:Fd:=⟨"bounded_step",["row","tree"],["told"],iW r_bounded_step,false⟩
def d_bounded_step:Fd:=⟨"bounded_step",["row","tree"],["told"],
 (lV r_bounded_step),false⟩
def r_step:Rs:=(.cons (.st (.ifs (.not (.call 13 (.cons (.var 0) (.cons (.var 1) .nil))))
 (.cons .bad
 .nil)
 .nil))
 (.cons (.st (.ifs (.cmp .eq (.call 18 (.cons (.var 1) .nil)) (.int 0))
 (.cons .bad
 .nil)
 .nil))
 (.cons (.cal (.ret (.call 26 (.cons (.var 0) (.cons (.var 1) .nil)))) 26 40 (.cons (.var 0) (.cons (.var 1) .nil)))
 .nil)))
def x_step:Fd:=⟨"step",["row","tree"],[],iW r_step,false⟩
def d_step:Fd:=⟨"step",["row","tree"],[],
 (lV r_step),false⟩
def r_clearing:Rs:=(.cons (.st (.ifs (.not (.call 13 (.cons (.var 0) (.cons (.var 1) .nil))))
 (.cons .bad
 .nil)
 .nil))
 (.cons (.st (.new 2 (.lst .nil)))
 (.cons (.st (.asg (.nm 3) (.var 1)))
 (.cons (.whl (.cmp .gt (.call 18 (.cons (.var 3) .nil)) (.int 0))
 (.cons (.st (.ifs (.cmp .eq (.blt .len (.cons (.pk 2) .nil)) (.glob 7))
 (.cons .bad
 .nil)
 .nil))
 (.cons (.cal (.asg (.nm 3) (.call 26 (.cons (.var 0) (.cons (.var 3) .nil)))) 26 40 (.cons (.var 0) (.cons (.var 3) .nil)))
 (.cons (.st (.append 2 (.var 3)))
 .nil))))
 (.cons (.st (.ret (.var 2)))
 .nil)))))
def x_clearing:Fd:=⟨"clearing",["row","tree"],["told","last"],iW r_clearing,false⟩
def d_clearing:Fd:=⟨"clearing",["row","tree"],["told","last"],
 (lV r_clearing),false⟩
def r_cleared:Rs:=(.cons (.cal (.asg (.nm 2) (.call 28 (.cons (.var 0) (.cons (.var 1) .nil)))) 28 42 (.cons (.var 0) (.cons (.var 1) .nil)))
 (.cons (.st (.ret (.ite (.var 2) (.ix (.var 2) (.neg (.int 1))) (.var 1))))
 .nil))
def x_cleared:Fd:=⟨"cleared",["row","tree"],["told"],iW r_cleared,false⟩
def d_cleared:Fd:=⟨"cleared",["row","tree"],["told"],
 (lV r_cleared),false⟩
def ji:Fd:=⟨"_law_cell",["_law_script","_law_k"],["_law_number"],
 (.cons (.ifs (.cmp .lt (.var 1) (.blt .len (.cons (.var 0) .nil)))
 (.cons (.ret (.ix (.var 0) (.var 1)))
 .nil)
 .nil)
 (.cons (.asg (.nm 2) (.bin .add (.bin .mul (.var 1) (.int 7919)) (.int 5)))
 (.cons (.ifs (.cmp .gt (.blt .len (.cons (.var 0) .nil)) (.int 0))
 (.cons (.asg (.nm 2) (.bin .add (.bin .mod (.bin .mul (.ix (.var 0) (.bin .mod (.bin .mul (.var 1) (.int 7)) (.blt .len (.cons (.var 0) .nil)))) (.int 48271)) (.int 2147483647)) (.bin .mul (.var 1) (.int 104729))))
 .nil)
 .nil)
 (.cons (.ret (.bin .mod (.bin .mul (.var 2) (.var 2)) (.int 2147483629)))
 .nil)))),false⟩
def jf:Fd:=⟨"_law_text",["_law_cell_here","_law_filler","_law_k"],["_law_size","_law_at"],
 (.cons (.asg (.nm 3) (.bin .add (.int 1) (.bin .mod (.var 0) (.int 8))))
 (.cons (.asg (.nm 4) (.bin .mod (.bin .fdiv (.var 0) (.int 8)) (.var 3)))
 (.cons (.ret (.bin .add (.bin .add (.bin .mul (.var 1) (.var 4)) (.ix (.str "bdghjk") (.var 2))) (.bin .mul (.var 1) (.bin .sub (.bin .sub (.var 3) (.int 1)) (.var 4)))))
 .nil))),false⟩
def jg:Fd:=⟨"_law_leaf",["_law_cell_here","_law_family","_law_names"],["_law_terms","_law_j"],
 (.cons (.new 3 (.lst .nil))
 (.cons (.for_ (.nm 4) (.rng (.bin .mod (.bin .fdiv (.var 0) (.int 5)) (.int 4)))
 (.cons (.append 3 (.ix (.var 2) (.bin .mod (.bin .fdiv (.var 0) (.bin .add (.int 7) (.bin .mul (.int 4) (.var 4)))) (.blt .len (.cons (.var 2) .nil)))))
 .nil))
 (.cons (.ret (.tup (.cons (.str "word") (.cons (.call 31 (.cons (.var 1) (.cons (.str "q") (.cons (.bin .mod (.var 0) (.int 3)) .nil)))) (.cons (.blt .toTup (.cons (.pk 3) .nil)) .nil)))))
 .nil))),false⟩
def eM:Fd:=⟨"_law_many",["_law_tree"],[],
 (.cons (.ifs (.cmp .eq (.blt .len (.cons (.var 0) .nil)) (.int 1))
 (.cons (.ret (.int 0))
 .nil)
 .nil)
 (.cons (.ret (.bin .add (.blt .toInt (.cons (.cmp .eq (.ix (.var 0) (.int 0)) (.str "cut")) .nil)) (.blt .sum (.cons (.comp 1 (.nm 1) (.sq (.ix (.var 0) (.neg (.int 1)))) .no (.call 33 (.cons (.var 1) .nil))) .nil))))
 .nil)),false⟩
def jZ:Fd:=⟨"_law_row",["_law_row_here"],[],
 (.cons (.ret (.blt .toTup (.cons (.ssd (.var 0)) .nil)))
 .nil),false⟩
def ups:List (Str × List Str):=[("TooGreat",["TooGreat","CutlessError"])]
def pcs:List Str:=["CutlessError","NoCut","NoName","NoProof","NoRow","NoText","NotCleared","NotPlain","TooGreat"]
def y__law_asked:List Yt:=[.st (.asg (.nm 3) (.lst .nil)),
 .st (.asg (.nm 4) .non),
 .tr (.cons (.ifs (.cmp .eq (.var 0) (.int 0))
 (.cons (.cal (.asg (.nm 4) (.call 27 (.cons (.var 1) (.cons (.var 2) .nil)))) 27 41 (.cons (.var 1) (.cons (.var 2) .nil)))
 .nil)
 (.cons (.ifs (.cmp .eq (.var 0) (.int 1))
 (.cons (.cal (.asg (.nm 4) (.call 28 (.cons (.var 1) (.cons (.var 2) .nil)))) 28 42 (.cons (.var 1) (.cons (.var 2) .nil)))
 .nil)
 (.cons (.cal (.asg (.nm 4) (.call 29 (.cons (.var 1) (.cons (.var 2) .nil)))) 29 43 (.cons (.var 1) (.cons (.var 2) .nil)))
 .nil))
 .nil))
 .nil) 5 (.ask 3 "_law_kind" ql__law_kind .nil),
 .st (.ret (.tup (.cons (.var 3) (.cons (.var 4) .nil))))]
def d__law_asked:Fd:=⟨"_law_asked",["_law_which","_law_row_here","_law_tree"],["_law_kind_here","_law_found","_law_e"],
 (yS ups y__law_asked),false⟩
def eQ:Fd:=⟨"_law_repeated",["_law_side","_law_s","_law_count","_law_tree"],["_law_k"],
 (.cons (.for_ (.nm 4) (.rng (.var 2))
 (.cons (.asg (.nm 3) (.tup (.cons (.str "rule") (.cons (.var 0) (.cons (.var 1) (.cons (.str "") (.cons (.tup (.cons (.var 3) .nil)) .nil)))))))
 .nil))
 (.cons (.ret (.var 3))
 .nil)),false⟩
def jh:Fd:=⟨"_law_high",["_law_script","_law_words","_law_below"],["_law_low","_law_high_here","_law_base","_law_one","_law_two","_law_first","_law_second","_law_tree"],
 (.cons (.asg (.nm 3) (.tup (.cons (.str "and") (.cons (.ix (.var 1) (.int 0)) (.cons (.ix (.var 1) (.int 1)) .nil)))))
 (.cons (.asg (.nm 4) (.tup (.cons (.str "or") (.cons (.ix (.var 1) (.int 0)) (.cons (.ix (.var 1) (.int 1)) .nil)))))
 (.cons (.asg (.nm 5) (.tup (.cons (.str "and") (.cons (.ix (.var 1) (.int 3)) (.cons (.ix (.var 1) (.int 3)) .nil)))))
 (.cons (.asg (.nm 6) (.bin .add (.int 1) (.bin .mod (.call 30 (.cons (.var 0) (.cons (.int 3) .nil))) (.bin .sub (.int 38) (.var 2)))))
 (.cons (.asg (.nm 7) (.bin .add (.bin .sub (.int 36) (.var 2)) (.bin .mod (.call 30 (.cons (.var 0) (.cons (.int 4) .nil))) (.int 3))))
 (.cons (.asg (.nm 8) (.call 36 (.cons (.str "left") (.cons (.var 3) (.cons (.var 6) (.cons (.tup (.cons (.str "close") .nil)) .nil))))))
 (.cons (.asg (.nm 9) (.call 36 (.cons (.str "right") (.cons (.var 4) (.cons (.var 7) (.cons (.tup (.cons (.str "close") .nil)) .nil))))))
 (.cons (.asg (.nm 10) (.call 36 (.cons (.str "left") (.cons (.var 5) (.cons (.var 2) (.cons (.tup (.cons (.str "cut") (.cons (.ix (.var 1) (.int 0)) (.cons (.tup (.cons (.var 8) (.cons (.var 9) .nil))) .nil)))) .nil))))))
 (.cons (.ret (.tup (.cons (.lst (.cons (.tup (.cons (.str "left") (.cons (.var 3) .nil))) (.cons (.tup (.cons (.str "right") (.cons (.var 4) .nil))) (.cons (.tup (.cons (.str "left") (.cons (.var 5) .nil))) .nil)))) (.cons (.var 10) (.cons (.cmp .eq (.bin .add (.var 7) (.var 2)) (.int 38)) .nil)))))
 .nil))))))))),false⟩
def fv:Fd:=⟨"_law_wide",["_law_script","_law_words","_law_below"],["_law_base","_law_low","_law_high_here","_law_split","_law_trees","_law_k","_law_many_here","_law_second","_law_first","_law_row_here","_law_tree"],
 (.cons (.asg (.nm 3) (.tup (.cons (.str "and") (.cons (.ix (.var 1) (.int 3)) (.cons (.ix (.var 1) (.int 3)) .nil)))))
 (.cons (.asg (.nm 4) (.tup (.cons (.str "or") (.cons (.ix (.var 1) (.int 0)) (.cons (.ix (.var 1) (.int 0)) .nil)))))
 (.cons (.asg (.nm 5) (.tup (.cons (.str "or") (.cons (.ix (.var 1) (.int 0)) (.cons (.ix (.var 1) (.int 1)) .nil)))))
 (.cons (.asg (.nm 6) (.tup (.cons (.str "or") (.cons (.ix (.var 1) (.int 2)) (.cons (.ix (.var 1) (.int 2)) .nil)))))
 (.cons (.new 7 (.lst (.cons (.tup (.cons (.str "rule") (.cons (.str "right") (.cons (.var 5) (.cons (.str "") (.cons (.tup (.cons (.tup (.cons (.str "close") .nil)) .nil)) .nil)))))) .nil)))
 (.cons (.for_ (.nm 8) (.rng (.int 6))
 (.cons (.append 7 (.tup (.cons (.str "rule") (.cons (.str "left") (.cons (.var 6) (.cons (.str "") (.cons (.tup (.cons (.ix (.pk 7) (.neg (.int 1))) (.cons (.ix (.pk 7) (.neg (.int 1))) .nil))) .nil)))))))
 .nil))
 (.cons (.asg (.nm 9) (.bin .add (.int 8) (.bin .mod (.call 30 (.cons (.var 0) (.cons (.int 3) .nil))) (.int 5))))
 (.cons (.asg (.nm 10) (.call 36 (.cons (.str "right") (.cons (.var 5) (.cons (.var 9) (.cons (.tup (.cons (.str "rule") (.cons (.str "left") (.cons (.var 6) (.cons (.str "") (.cons (.tup (.cons (.ix (.pk 7) (.int 6)) (.cons (.ix (.pk 7) (.int 5)) .nil))) .nil)))))) .nil))))))
 (.cons (.asg (.nm 11) (.tup (.cons (.str "rule") (.cons (.str "left") (.cons (.var 4) (.cons (.str "") (.cons (.tup (.cons (.tup (.cons (.str "close") .nil)) (.cons (.tup (.cons (.str "close") .nil)) .nil))) .nil)))))))
 (.cons (.asg (.nm 12) (.lst (.cons (.tup (.cons (.str "left") (.cons (.var 4) .nil))) (.cons (.tup (.cons (.str "right") (.cons (.var 5) .nil))) (.cons (.tup (.cons (.str "left") (.cons (.var 6) .nil))) (.cons (.tup (.cons (.str "left") (.cons (.var 3) .nil))) .nil))))))
 (.cons (.asg (.nm 13) (.call 36 (.cons (.str "left") (.cons (.var 3) (.cons (.var 2) (.cons (.tup (.cons (.str "cut") (.cons (.ix (.var 1) (.int 0)) (.cons (.tup (.cons (.var 11) (.cons (.var 10) .nil))) .nil)))) .nil))))))
 (.cons (.ret (.tup (.cons (.var 12) (.cons (.var 13) (.cons (.cmp .gt (.bin .add (.bin .mul (.int 2) (.var 9)) (.var 2)) (.int 21)) .nil)))))
 .nil)))))))))))),false⟩
def d_law:Fd:=⟨"law",["_law_script"],["_law_cell_here","_law_names","_law_words","_law_k","_law_leaf_here","_law_below","_law_row_here","_law_tree","_law_great","_law_which","_law_found"],
 (.cons (.asg (.nm 1) (.call 30 (.cons (.var 0) (.cons (.int 0) .nil))))
 (.cons (.asg (.nm 2) (.lst (.cons (.call 31 (.cons (.bin .fdiv (.var 1) (.int 4)) (.cons (.str "z") (.cons (.int 0) .nil)))) (.cons (.call 31 (.cons (.bin .fdiv (.var 1) (.int 4)) (.cons (.str "z") (.cons (.int 1) .nil)))) .nil))))
 (.cons (.new 3 (.lst .nil))
 (.cons (.for_ (.nm 4) (.rng (.int 4))
 (.cons (.asg (.nm 5) (.call 32 (.cons (.call 30 (.cons (.var 0) (.cons (.bin .add (.int 5) (.var 4)) .nil))) (.cons (.bin .fdiv (.var 1) (.int 4)) (.cons (.var 2) .nil)))))
 (.cons (.append 3 (.tup (.cons (.str "word") (.cons (.call 31 (.cons (.bin .fdiv (.var 1) (.int 4)) (.cons (.str "q") (.cons (.var 4) .nil)))) (.cons (.ix (.var 5) (.int 2)) .nil)))))
 .nil)))
 (.cons (.asg (.nm 6) (.bin .mod (.bin .fdiv (.call 30 (.cons (.var 0) (.cons (.int 2) .nil))) (.int 4)) (.int 4)))
 (.cons (.ifs (.cmp .eq (.bin .mod (.call 30 (.cons (.var 0) (.cons (.int 2) .nil))) (.int 2)) (.int 0))
 (.cons (.asg (.tp [7,8,9]) (.call 37 (.cons (.var 0) (.cons (.var 3) (.cons (.var 6) .nil)))))
 .nil)
 (.cons (.asg (.tp [7,8,9]) (.call 38 (.cons (.var 0) (.cons (.var 3) (.cons (.var 6) .nil)))))
 .nil))
 (.cons (.asg (.nm 10) (.bin .mod (.call 30 (.cons (.var 0) (.cons (.int 1) .nil))) (.int 3)))
 (.cons (.asg (.nm 11) (.call 35 (.cons (.var 10) (.cons (.call 34 (.cons (.var 7) .nil)) (.cons (.var 8) .nil)))))
 (.cons (.ifs (.var 9)
 (.cons (.ret (.cmp .eq (.var 11) (.tup (.cons (.lst (.cons (.str "great") .nil)) (.cons .non .nil)))))
 .nil)
 .nil)
 (.cons (.ret (.and (.cmp .eq (.ix (.var 11) (.int 0)) (.lst .nil)) (.or (.cmp .lt (.var 10) (.int 2)) (.cmp .eq (.call 33 (.cons (.ix (.var 11) (.int 1)) .nil)) (.int 0)))))
 .nil)))))))))),false⟩
noncomputable instance xsi:Xs:=⟨[(26,40),(27,41),(28,42),(29,43)]⟩
def Gd:List Fd:=[yw,ir,vX,nC,kg,BF,yv,yx,lI,jc,lZ,iu,jd,ib,gA,qk,nB,gP,vY,qm,fP,iq,gQ,je,eJ,gB,d_bounded_step,d_step,d_clearing,d_cleared,ji,jf,jg,eM,jZ,d__law_asked,eQ,jh,fv,d_law]
def Gs:List Fd:=[yw,ir,vX,nC,kg,BF,yv,yx,lI,jc,lZ,iu,jd,ib,gA,qk,nB,gP,vY,qm,fP,iq,gQ,je,eJ,gB,d_bounded_step,d_step,d_clearing,d_cleared,ji,jf,jg,eM,jZ,d__law_asked,eQ,jh,fv,d_law,x_bounded_step,x_step,x_clearing,x_cleared]
noncomputable instance tbs:Tbs:=⟨[],[],[],[20]⟩
def pls:List (String × Nat):=[("inside",13),("sorted_row",23),("more",24),("closes",25),("signed_within",28),("parts",29),("is_own",30),("cut_of",33),("kids_of",34),("with_kids",35),("added_above",36),("rows_above",37),("stands_at",38),("fits",39),("trees_within",40),("nodes",41),("height",42),("cuts_within",43),("cuts",44),("freed",50),("fitted",51),("with_first",56),("above_first",58),("given_way",64),("stepped",65),("is_too_great",66),("bounded_step",67),("step",68),("clearing",69),("cleared",70),("_law_cell",72),("_law_text",73),("_law_leaf",74),("_law_many",75),("_law_row",76),("_law_asked",78),("_law_repeated",79),("_law_high",80),("_law_wide",81),("law",82)]
def gls:List D:=[.tup [.str "yes",.str "no",.str "word"],.tup [.str "all",.str "some"],.tup [.tup [.str "right",.str "and"],.tup [.str "left",.str "or"],.tup [.str "left",.str "if"]],.tup [.tup [.str "right",.str "all"],.tup [.str "left",.str "some"]],.tup [.str "close"],.int 600,.int 40,.int 100]
def gns:List Str:=["LEAVES","BINDERS","FORKS","OWN","CLOSE","MOST_NODES","MOST_HEIGHT","MOST_STEPS"]
inductive F where
 | yes | no | word (w:Str) (ts:List Str) | bi (b:Bool) (x y:F)
def hd:F->Str
 | .yes=>"yes" | .no=>"no" | .word _ _=>"word" | .bi b _ _=>if b then "and" else "or"
def enc:F->D
 | .yes=>.tup [.str "yes"]
 | .no=>.tup [.str "no"]
 | .word w ts=>.tup [.str "word",.str w,.tup (ts.map .str)]
 | .bi b x y=>.tup [.str (if b then "and" else "or"),enc x,enc y]
def tl:F->List D
 | .yes | .no=>[]
 | .word w ts=>[.str w,.tup (ts.map .str)]
 | .bi _ x y=>[enc x,enc y]
def oF (A:F):enc A = .tup (.str (hd A)::tl A):=by cases A<;>rfl
def kd:F->Nat
 | .yes=>0 | .no=>1 | .word _ _=>2 | .bi b _ _=>if b then 4 else 3
def kdS (s:Str):Nat:=if s = "yes" then 0 else if s = "no" then 1 else if s = "word" then 2 else if s = "and" then 4 else 3
def Gy:∀ A:F,kdS (hd A) = kd A
 | .yes=>(by decide:kdS "yes" = 0)
 | .no=>(by decide:kdS "no" = 1)
 | .word _ _=>(by decide:kdS "word" = 2)
 | .bi true _ _=>(by decide:kdS "and" = 4)
 | .bi false _ _=>(by decide:kdS "or" = 3)
def rK {A B:F} (h:hd A = hd B):kd A = kd B:=by rw [<- Gy A,<- Gy B,h]
def sz:F->Nat
 | .bi _ x y=>sz x+sz y+1
 | _=>1
def qi (x:Str):dep (.str x) = 0:=by unfold dep;rfl
def yu:∀ ts:List Str,cI (ts.map D.str) = 0
 | []=>by unfold cI;rfl
 | t::ts=>by rw [bp];unfold cI;rw [yu ts,qi];rfl
def hF:F->Nat
 | .bi _ x y=>max (hF x) (hF y)+1
 | _=>1
def GS:∀ A:F,hF A<=sz A
 | .yes | .no | .word _ _=>aw _
 | .bi _ x y=>by have:=GS x;have:=GS y;simp only [hF,sz];lia
def nA:∀ A:F,dep (enc A)<=hF A+1
 | .yes | .no=>by unfold enc;simp [dep,cI,hF]
 | .word w ts=>by unfold enc;simp [dep,cI,yu,hF]
 | .bi _ x y=>by have:=nA x;have:=nA y;unfold enc;simp [dep,cI,hF];lia
def vU (A:F):dep (enc A)<=sz A+1:=by have:=nA A;have:=GS A;lia
def BD:∀ ts us:List Str,gy (ts.map D.str) (us.map D.str) = true->ts = us
 | [],[],_=>rfl
 | [],_::_,h=>by unfold gy at h;cases h
 | _::_,[],h=>by unfold gy at h;cases h
 | t::ts,u::us,h=>by
   rw [bp,bp] at h;unfold gy eqD at h;rw [aa] at h;rw [show t = u by simpa using h.1,BD ts us h.2]
def uB {A B:F} (h:eqD (enc A) (enc B) = true):hd A = hd B/\gy (tl A) (tl B) = true:=by
 rw [oF,oF] at h;unfold eqD gy eqD at h;rw [aa] at h;exact ⟨by simpa using h.1,h.2⟩
def QZ {a b:D} (h:gy [a] [b] = true):eqD a b = true:=by
 unfold gy at h;rw [aa] at h;exact h.1
def NQ {a b x y:D} (h:gy [a,x] [b,y] = true):eqD a b = true/\eqD x y = true:=by
 unfold gy at h;rw [aa] at h;exact ⟨h.1,QZ h.2⟩
def zZ:∀ A B:F,eqD (enc A) (enc B) = true->A = B
 | .yes,B,h=>by
   have this:=rK (uB h).1
   cases B with
   | yes=>rfl
   | bi b _ _=>cases b<;>exact absurd this (by simp [kd])
   | _=>exact absurd this (by simp [kd])
 | .no,B,h=>by
   have this:=rK (uB h).1
   cases B with
   | no=>rfl
   | bi b _ _=>cases b<;>exact absurd this (by simp [kd])
   | _=>exact absurd this (by simp [kd])
 | .word w ts,B,h=>by
   have this:=rK (uB h).1;have h2:=(uB h).2
   cases B with
   | word v us =>
     obtain ⟨h3,h4⟩:=NQ h2;unfold eqD at h3 h4
     rw [show w = v by simpa using h3,BD ts us h4]
   | bi b _ _=>cases b<;>exact absurd this (by simp [kd])
   | _=>exact absurd this (by simp [kd])
 | .bi b x y,B,h=>by
   have this:=rK (uB h).1;have h2:=(uB h).2
   cases B with
   | bi c u v =>
     obtain ⟨h3,h4⟩:=NQ h2
     rw [zZ x u h3,zZ y v h4,show b = c by cases b<;>cases c<;>first | rfl | exact absurd this (by simp [kd])]
   | _=>cases b<;>exact absurd this (by simp [kd])
def sd (L:Bool):Str:=if L then "left" else "right"
abbrev It:=Bool × F
def itD (p:It):D:=.tup [.str (sd p.1),enc p.2]
def Ms:∀ b c:Bool,sd b = sd c->b = c:=by decide
def BE {p q:It} (h:eqD (itD p) (itD q) = true):p = q:=by
 unfold itD eqD at h;obtain ⟨h1,h2⟩:=NQ h;unfold eqD at h1;obtain ⟨a,A⟩:=p;obtain ⟨b,B⟩:=q;rw [show a = b from Ms a b (by simpa using h1),show A = B from zZ A B h2]
def low (ps:List It):Prop:=∀ p∈ps,sz p.2<=61
def gz (p:It) (h:sz p.2<=61):dep (itD p)<=64:=by
 have:=vU p.2;unfold itD;simp only [dep,cI,qi]
 lia
def qj:∀ {ps:List It},low ps->cI (ps.map itD)<=64
 | [],_=>by show cI ([]:List D)<=64;unfold cI;lia
 | p::ps,h=>by
   rw [bp];unfold cI;have:=gz p (h p au);have:=qj (ps:=ps) λq hq=>h q (ar _ hq)
   lia
def eq_self (p:It) (h:sz p.2<=61):eqD (itD p) (itD p) = true:=nz _ (by have:=gz p h;lia)
def has (ps:List It) (q:It):Bool:=(ps.map itD).any λy=>eqD y (itD q)
def vO {ps:List It} {q:It} (h:low ps):has ps q = true↔q∈ps:=by
 unfold has;rw [cA];constructor
 . rintro ⟨y,hy,e⟩;obtain ⟨p,hp,rfl⟩:=aW.mp hy;rw [<- BE e];exact hp
 . intro hq;exact ⟨_,dE hq,eq_self q (h q hq)⟩
def PM {ps:List It} {q:It} (h:low ps) (hq:sz q.2<=61):dep (itD q)<=150/\cI (ps.map itD) < 99999:=⟨by have:=gz q hq;lia,by have:=qj h;lia⟩
def ltn (ys:List D):(eF [] ys).isSome = true:=by cases ys<;>(unfold eF;rfl)
def QR (ys:List D):(eF ys []).isSome = true:=by cases ys<;>(unfold eF;rfl)
def ltc {x y:D} {xs ys:List D} (h:(ltD x y).isSome = true) (h2:(eF xs ys).isSome = true):(eF (x::xs) (y::ys)).isSome = true:=by
 unfold eF;split
 . exact h2
 . exact h
def lts {s t:Str} {xs ys:List D} (h:s = t->(eF xs ys).isSome = true):(eF (.str s::xs) (.str t::ys)).isSome = true:=by
 unfold eF;split
 . rename_i e;exact h (by unfold eqD at e;simpa using e)
 . unfold ltD;rfl
def Bi:∀ xs ys:List Str,(eF (xs.map D.str) (ys.map D.str)).isSome = true
 | [],ys=>ltn _
 | xs,[]=>QR _
 | x::xs,y::ys=>lts λ_=>Bi xs ys
def kO {xs ys:List D} (h:(eF xs ys).isSome = true):(ltD (.tup xs) (.tup ys)).isSome = true:=by unfold ltD;exact h
def rJ:∀ A B:F,(ltD (enc A) (enc B)).isSome = true
 | .yes,B=>by rw [oF B];exact kO (lts λ_=>ltn _)
 | .no,B=>by rw [oF B];exact kO (lts λ_=>ltn _)
 | .word w ts,B=>by
   rw [oF B];refine kO (lts λe=>?_);have e:hd (.word w ts) = hd B:=e
   cases B with
   | word v us=>exact lts λ_=>ltc (kO (Bi ts us)) (ltn _)
   | bi b _ _=>cases b<;>exact absurd (rK e) (by simp [kd])
   | _=>exact absurd (rK e) (by simp [kd])
 | .bi b x y,B=>by
   rw [oF B];refine kO (lts λe=>?_);have e:hd (.bi b x y) = hd B:=e
   cases B with
   | bi c u v=>exact ltc (rJ x u) (ltc (rJ y v) (ltn _))
   | _=>cases b<;>exact absurd (rK e) (by simp [kd])
def vj {row:List It} (h:low row) (hl:row.length < 64):sortable (row.map itD) = true:=by
 unfold PP.sortable;simp only [aa,decide_eq_true_eq,bq];refine ⟨⟨by rw [av];exact hl,λx hx=>?_⟩,λx hx y hy=>?_⟩
 . have k:∀ d∈row.map itD,bK d = 3:=λd hd=>by
    obtain ⟨p,_,rfl⟩:=aW.mp hd;rfl
   cases e:row.map itD with
   | nil=>rw [e] at hx;cases hx
   | cons z zs =>
     have e2:bK ((z::zs).getD 0 .non) = 3:=k z (by rw [e];exact au);rw [k x hx,e2];exact ⟨rfl,rfl⟩
 . obtain ⟨p,hp,rfl⟩:=aW.mp hx;obtain ⟨q,hq,rfl⟩:=aW.mp hy;have:=gz p (h p hp);have:=gz q (h q hq);unfold lN;rw [if_pos ∅];exact kO (lts λ_=>ltc (rJ _ _) (ltn _))
instance:Inhabited F:=⟨.yes⟩
def lA {α:Type} [Inhabited α] (g:α->D) (xs:List α):∃ ys:List α,fN (xs.map g) = ys.map g/\ys.Perm xs:=by
 unfold fN;rw [av];split
 . exact ⟨xs,rfl,.refl _⟩
 . have p:=gK (lt:=jn (xs.map g)) xs.length;refine ⟨(ans (jn (xs.map g)) (PySem.W.kas_sort xs.length)).toList.map λi=>xs.getD i default,?_,?_⟩
   . rw [gJ];refine DG λi hi=>?_;have hi:i < xs.length:=fF.mp (p.mem_iff.mp hi);show (xs.map g).getD i .non = g (xs.getD i default);rw [dK,bf,dK,aA hi];rfl
   . refine (p.map _).trans ?_;rw [uc default (λx=>x) xs,List.map_id']
def srt (xs:List It):List It:=Classical.choose (lA itD xs)
def EE (xs:List It):fN (xs.map itD) = (srt xs).map itD:=(uN (lA itD xs)).1
def mS (xs:List It):(srt xs).Perm xs:=(uN (lA itD xs)).2
def isL (acc:List It) (x:It):Bool:=match acc.getLast? with
 | some y=>eqD (itD y) (itD x)
 | none=>false
def dd:List It->List It->List It
 | acc,[]=>acc
 | acc,x::xs=>dd (if isL acc x = true then acc else acc++[x]) xs
def mo (l:List It):List It:=dd [] (srt l)
def JY {acc:List It} {x:It} (h:isL acc x = true):x∈acc:=by
 unfold isL at h;split at h
 . rename_i y e;rw [<- BE h];exact List.mem_of_getLast? e
 . cases h
def Hg {p:It}:∀ (xs acc:List It),p∈dd acc xs↔p∈acc\/p∈xs
 | [],acc=>by simp [dd]
 | x::xs,acc=>by
   unfold dd;rw [Hg xs];split
   . rename_i h;have:=JY h;constructor
     . rintro (z | z)
       . exact .inl z
       . exact .inr (ar _ z)
     . rintro (z | z)
       . exact .inl z
       . rcases aB.mp z with z | z
         . rw [z];exact .inl this
         . exact .inr z
   . rw [bb,bQ,aB,or_assoc]
def Nq {p:It} {l:List It}:p∈mo l↔p∈l:=by
 unfold mo;rw [Hg,(mS l).mem_iff];simp
def low.app {a b:List It} (h:low a) (h2:low b):low (a++b):=λp hp=>(bb.mp hp).elim (h p) (h2 p)
def low.one {p:It} (h:sz p.2<=61):low [p]:=λq hq=>by rw [bQ.mp hq];exact h
def Bw:∀ ts:List Str,hbL (ts.map D.str) = true
 | []=>by unfold hbL;rfl
 | t::ts=>by rw [bp];unfold hbL;rw [Bw ts];unfold hb;rfl
def vN:∀ A:F,hb (enc A) = true
 | .yes | .no=>by unfold enc;decide
 | .word w ts=>by unfold enc;simp only [hb,hbL,Bw,fo]
 | .bi b x y=>by unfold enc;simp only [hb,hbL,vN x,vN y,fo]
def lX (p:It):hb (itD p) = true:=by unfold itD;simp only [hb,hbL,vN,fo]
def uV {α:Type} [Inhabited α] {lt:α->α->Bool} {ys:List α} (h:∀ i j,i<=j->j < ys.length->lt (ys.getD j default) (ys.getD i default) = false):ys.Pairwise λa b=>lt b a = false:=by
 rw [fR];intro i j hi hj hij;have:=h i j (lr hij) hj;simpa [km,aA hi,aA hj] using this
def GA {p q:It} (h:itD p = itD q):p = q:=BE ((fU _ _ (lX p) (lX q)).mpr h)
def ltI (p q:It):Bool:=(ltD (itD p) (itD q)).getD false
def pb (p q:It):ltD (itD p) (itD q) = some (ltI p q):=by
 have:(ltD (itD p) (itD q)).isSome = true:=kO (lts λ_=>ltc (rJ _ _) (ltn _));unfold ltI
 cases e:ltD (itD p) (itD q) with
 | none=>rw [e] at this;cases this
 | some k=>rfl
def Nw (p q:It) (h:ltI p q = true):ltI q p = false:=by
 rcases mZ _ (itD p) (aw _) (itD q) _ _ (lX p) (lX q) (pb p q) (pb q p) with ⟨_,e,_⟩ | ⟨_,e⟩
 . rw [h] at e;cases e
 . rw [e,h];rfl
def Nu (a b c:It) (h1:ltI b a = false) (h2:ltI c b = false):ltI c a = false :=
 vH _ (itD a) (aw _) (itD b) (itD c) _ (lX a) (lX b) (lX c) (by rw [pb,h1]) (by rw [pb,h2]) (pb c a)
def Nv (p q:It) (h1:ltI p q = false) (h2:ltI q p = false):p = q:=by
 rcases mZ _ (itD p) (aw _) (itD q) _ _ (lX p) (lX q) (pb p q) (pb q p) with ⟨e,_⟩ | ⟨_,e⟩
 . exact GA e
 . rw [h1,h2] at e;cases e
def xU:∀ {as bs:List It},as.map itD = bs.map itD->as = bs
 | [],[],_=>rfl
 | [],_::_,h=>by cases h
 | _::_,[],h=>by cases h
 | a::as,b::bs,h=>by
   rw [bp,bp] at h;injection h with h1 h2;rw [GA h1,xU h2]
def Mb {l:List It} (h:low l):(srt l).Pairwise λa b=>ltI b a = false:=by
 letI:Inhabited { p:It // sz p.2<=61 }:=⟨⟨(true,.yes),⇑0⟩⟩
 have h':∀ p∈l,sz p.2<=61:=h
 obtain ⟨ys,e1,p1,u1⟩:=xj (α:={ p:It // sz p.2<=61 }) (λp=>itD p.1) (λa b=>ltI a.1 b.1) (λx y=>by
  have:=gz x.1 x.2;have:=gz y.1 y.2;unfold lN;rw [if_pos (by omega),pb]) (λa b=>Nw a.1 b.1) (λa b c=>Nu a.1 b.1 c.1) (l.attachWith (λp=>sz p.2<=61) h')
 have e2:(l.attachWith (λp:It=>sz p.2<=61) h').map (λp=>itD p.1) = l.map itD:=by
  rw [show (λp:{ p:It // sz p.2<=61 }=>itD p.1) = itD ∘ lj from rfl,<- gJ,pM]
 rw [e2,EE] at e1;have e3:srt l = ys.map lj:=xU (by rw [e1,gJ];rfl);rw [e3];exact gI.mpr (uV (lt:=λ(a b:{ p:It // sz p.2<=61 })=>ltI a.1 b.1) u1)
def sg:∀ (xs acc:List It),low (acc++xs)->(acc++xs).Pairwise (λa b=>ltI b a = false)->acc.Nodup->(dd acc xs).Nodup
 | [],acc,_,_,h=>h
 | x::xs,acc,hl,hp,h=>by
   unfold dd;split
   . rename_i z;refine sg xs acc (λp hq=>hl p ?_) (hp.sublist ?_) h
     . rcases bb.mp hq with q | q
       . exact aF _ q
       . exact aQ _ (ar _ q)
     . exact List.Sublist.append_left (List.sublist_cons_self x xs) acc
   . rename_i z;rw [List.append_cons] at hl hp;refine sg xs (acc++[x]) hl hp (pB.mpr ⟨h,↥0,λa ha b hb e=>?_⟩);rw [bQ] at hb;subst hb;subst e;apply z;rcases lK acc with rfl | ⟨l,y,rfl⟩
     . cases ha
     . rw [lL] at ha hp hl |-;have hp2:=(dW.mp hp).1;have c1:ltI a y = false:=(dW.mp hp2).2.2 y ↥0 a ↥0
       have ea:a = y:=by
        rcases bb.mp ha with q | q
        . have c2:ltI y a = false:=(dW.mp (dW.mp hp2).1).2.2 a q y ↥0;exact Nv a y c1 c2
        . exact bQ.mp q
       unfold isL;rw [BW,yN,ea];exact eq_self y (hl y ↥0)
def Gj {l:List It} (h:low l):(mo l).Nodup:=sg (srt l) [] (λp hp=>h p ((mS l).mem_iff.mp hp)) (Mb h) List.nodup_nil
def vI {l:List D} {y:D}:atI (l++[y]) (-1) = some y:=by
 unfold atI ixN;rw [if_neg ⇑0,if_pos (by simp;lia)];show (l++[y])[(-1+((l++[y]).length:Int)).toNat]? = some y;have e:(-1+((l++[y]).length:Int)).toNat = l.length:=by rw [ay];simp;lia
 rw [e,bz (aw _),Nat.sub_self];rfl
def Pw {p q:It} (hp:sz p.2<=61) (hq:sz q.2<=61) {Q:Bool->Prop} (k:Q (!eqD (itD p) (itD q))):zi .ne (itD p) (itD q) Q:=by
 refine ⟨_,?_,k⟩;show (if ij (itD p) (itD q) = true then some (!eqD (itD p) (itD q)) else none) = _;have:=gz p hp;have:=gz q hq;rw [if_pos (by unfold ij;rw [show kin (itD p) (itD q) = true from rfl,wF,aa,decide_eq_true_eq,decide_eq_true_eq];lia)]
def s64:(1000:Nat) < sizeLine:=by decide
def GH (l:List It) (y x:It):isL (l++[y]) x = eqD (itD y) (itD x):=by
 unfold isL;rw [BW,yN];rfl
def low.tail {x:It} {xs:List It} (h:low (x::xs)):low xs:=λp hp=>h p (ar _ hp)
def Fo (n:Nat) (l:List It) (h:low l) (hl:l.length < 64):PP.run Gs gls (n+1) 1 [.lst (l.map itD)] = some (.tup ((mo l).map itD)):=by
 apply bB;refine bh ir rfl rfl rfl ?_;simp only [ir,init,SI,Nat.reduceAdd,Nat.reduceSub];simp only [↓WS,WI,↓reduceIte];refine ⟨⇑0,vj h hl,?_⟩;rw [EE];refine wO (g:=itD) (λrest δ=>∃ (acc:List It) (s:Sl),δ = [.val (.lst (l.map itD)),.own (acc.map itD),s]/\low acc/\low rest/\dd acc rest = mo l/\acc.length+rest.length < 64) ?_ ?_ _ _ ⟨[],_,rfl,(λp hp=>by cases hp),(λp hp=>h p ((mS l).mem_iff.mp hp)),rfl,by rw [bR,(mS l).length_eq];lia⟩
 . rintro x rest δ ⟨acc,s,rfl,ha,hr,e,hlen⟩;rw [aI] at hlen;have hx:=hr x au;have ss:=s64;rw [dd] at e
   have app:isL acc x = false->∃ (acc':List It) (s:Sl),([.val (.lst (l.map itD)),.own (acc.map itD++[itD x]),.val (itD x)]:PP.Loc) = [.val (.lst (l.map itD)),.own (acc'.map itD),s]/\low acc'/\low rest/\dd acc' rest = mo l/\acc'.length+rest.length < 64:=λz=>by
    rw [z,if_neg ao] at e;exact ⟨acc++[x],_,by rw [cw];rfl,ha.app (.one hx),hr.tail,e,by rw [ay];simp only [aI,bR];lia⟩
   rcases lK acc with rfl | ⟨l',y,rfl⟩
   . simp only [yR,↓WS,WI,↓reduceIte];exact ⟨⇑0,app rfl⟩
   . rw [lL] at e hlen app ha |-;have hy:=ha y ↥0;rw [cw] at app |-;have hne:(!!(l'.map itD++[y].map itD).isEmpty) = false:=by cases l'<;>rfl
     simp only [hne,↓WS,WI,↓reduceIte];refine ⟨itD y,vI,Pw hy hx ?_⟩;rw [GH] at app e
     cases eb:eqD (itD y) (itD x) with
     | true =>
       rw [eb,if_pos rfl] at e
       exact ⟨l'++[y],_,by rw [cw],ha,hr.tail,e,∅⟩
     | false=>exact ⟨by simp only [ay,av,aI,bR] at hlen |-;lia,app eb⟩
 . rintro δ ⟨acc,s,rfl,_,_,e,_⟩;simp only [↓WS,WI,↓reduceIte];rw [<- e];rfl
def MA (n:Nat) (r ad:List It) (a:D) (ha:a = .lst (ad.map itD)\/a = .tup (ad.map itD)) (h:low (r++ad)) (hl:r.length+ad.length < 64):PP.run Gs gls (n+2) 2 [.tup (r.map itD),a] = some (.tup ((mo (r++ad)).map itD)):=by
 have w:=Fo n (r++ad) h (by rw [ay];exact hl);rw [cw] at w;have ss:=s64;apply bB;refine bh vX rfl rfl rfl ?_;simp only [vX,init,SI,Nat.reduceAdd,Nat.reduceSub];rcases ha with rfl | rfl
 . simp only [↓WS,WI,↓reduceIte];exact ⟨by rw [av,av];lia,(dv w).mpr rfl⟩
 . simp only [↓WS,WI,↓reduceIte];exact ⟨by rw [av,av];lia,(dv w).mpr rfl⟩
def uD {α:Type} (f:α->Bool):∀ xs:List α,mE (xs.map λx=>D.bl (f x)) = some (xs.map f)
 | []=>rfl
 | x::xs=>by
   rw [bp];unfold mE;rw [uD f xs];rfl
def any_map {α:Type} (f:α->Bool) (xs:List α) {Q:D->Prop} (q:Q (.bl (xs.any f))):zj .any [.lst (xs.map λx=>D.bl (f x))] Q:=by
 refine ⟨.bl (xs.any f),?_,q⟩;show (mE (xs.map λx=>D.bl (f x))).map (λbs=>D.bl (bs.any id)) = _;rw [uD];show some (D.bl ((xs.map f).any id)) = _;rw [List.any_map];rfl
def QK (b:Bool):(sd b == "left") = b:=by cases b<;>decide
def Fq (n:Nat) (ps:List It) (h:low ps) (hl:ps.length<=1000) (hp:∀ p∈ps,p.2≠.yes/\p.2≠.no):PP.run Gs gls (n+1) 3 [.tup (ps.map itD)] = some (.bl (ps.any λp=>p.1 && has ps (false,p.2))):=by
 have ss:=s64;have dl:=qj h;have e1:has ps (false,.yes) = false:=jH.mpr λz=>(hp _ ((vO h).mp z)).1 rfl;have e2:has ps (true,.no) = false:=jH.mpr λz=>(hp _ ((vO h).mp z)).2 rfl
 have c1:lO .isin (itD (false,.yes)) (.tup (ps.map itD)) = some false:=by
  show (if _/\_ then some _ else none) = _;rw [if_pos ⟨⇑0,∅⟩];exact congrArg some e1
 have c2:lO .isin (itD (true,.no)) (.tup (ps.map itD)) = some false:=by
  show (if _/\_ then some _ else none) = _;rw [if_pos ⟨⇑0,∅⟩];exact congrArg some e2
 apply bB;refine bh nC rfl rfl rfl ?_;simp only [nC,init,SI,Nat.reduceAdd,Nat.reduceSub];refine dA false (NP (cN ⋯ ⋯ c1) (cN ⋯ ⋯ c2)) (λz=>by cases z) λ_=>?_;simp only [Hx,aI,bR,↓wU,↓WS,WI,↓reduceIte];refine iC itD (λ_=>true) (λp=>.bl (p.1 && has ps (false,p.2))) ps (λp hp=>?_) ⟨?_,?_⟩
 . obtain ⟨b,A⟩:=p;show wTg [Sl.val (D.tup (ps.map itD)),.no,.no] (Tg.tp [1,2]) (D.tup [D.str (sd b),enc A]) _;simp only [↓Av,QK,SI,↓WS,WI,↓reduceIte];refine ⟨trivial,?_⟩
   cases b with
   | false=>exact ⟨rfl,rfl⟩
   | true=>exact ⟨⇑0,PM (q:=(false,A)) h (h (true,A) hp),rfl,rfl⟩
 . rw [av,iQ.mpr λ_ _=>rfl];lia
 . rw [iQ.mpr λ_ _=>rfl];exact any_map _ _ rfl
abbrev Ws:=Nat->Str × List Str
def wd (W:Ws) (i:Nat):F:=.word (W i).1 (W i).2
def stc (W:Ws):Nat->F
 | 0=>.bi true (wd W 0) (wd W 1)
 | 1=>.bi true (wd W 3) (wd W 3)
 | 2=>.bi false (wd W 0) (wd W 0)
 | 3=>.bi false (wd W 0) (wd W 1)
 | 4=>.bi false (wd W 2) (wd W 2)
 | n+5=>wd W n
def it (W:Ws) (c:Nat):It:=if c < 9 then (true,stc W c) else (false,stc W (c - 9))
def okW (W:Ws):Prop:=∀ i j,i < 4->j < 4->(W i).1 = (W j).1->i = j
section
variable {W:Ws} (hW:okW W)
theorem pP:∀ c,hF (stc W c)<=2/\sz (stc W c)<=3/\stc W c≠.yes/\stc W c≠.no
 | 0 | 1 | 2 | 3 | 4 | _+5=>⟨by simp [stc,wd,hF],by simp [stc,wd,sz],(λz=>by cases z),(λz=>by cases z)⟩
theorem mB (c:Nat):sz (it W c).2<=61/\(it W c).2≠.yes/\(it W c).2≠.no:=by
 unfold it;split
 . have:=pP (W:=W) c;exact ⟨∅,this.2.2⟩
 . have:=pP (W:=W) (c - 9);exact ⟨∅,this.2.2⟩
include hW
theorem AD {a b:Nat} (ha:a < 9) (hb:b < 9) (h:stc W a = stc W b):a = b:=by
 have w:∀ {i j},i < 4->j < 4->wd W i = wd W j->i = j:=λhi hj e=>hW _ _ hi hj (by injection e);have f:∀ {i j},i < 4->j < 4->i≠j->¬ wd W i = wd W j:=λhi hj n e=>n (w hi hj e);rcases (show a < 5\/∃ i,i < 4/\a = i+5 by rcases cF a 5 with z | z;exact .inl z;exact .inr ⟨a - 5,∅,∅⟩) with ha | ⟨i,hi,rfl⟩
 . rcases (show b < 5\/∃ i,i < 4/\b = i+5 by rcases cF b 5 with z | z;exact .inl z;exact .inr ⟨b - 5,∅,∅⟩) with hb | ⟨j,hj,rfl⟩
   . rcases (show a = 0\/a = 1\/a = 2\/a = 3\/a = 4 by lia) with rfl | rfl | rfl | rfl | rfl<;>rcases (show b = 0\/b = 1\/b = 2\/b = 3\/b = 4 by lia) with rfl | rfl | rfl | rfl | rfl<;>first
      | rfl
      | (injection h with h1 h2 h3;first | (cases h1;done) | exact absurd h2 (f ⇑0 ⇑0 ⇑0) | exact absurd h3 (f ⇑0 ⇑0 ⇑0))
   . rcases (show a = 0\/a = 1\/a = 2\/a = 3\/a = 4 by lia) with rfl | rfl | rfl | rfl | rfl<;>cases h
 . rcases (show b < 5\/∃ i,i < 4/\b = i+5 by rcases cF b 5 with z | z;exact .inl z;exact .inr ⟨b - 5,∅,∅⟩) with hb | ⟨j,hj,rfl⟩
   . rcases (show b = 0\/b = 1\/b = 2\/b = 3\/b = 4 by lia) with rfl | rfl | rfl | rfl | rfl<;>cases h
   . rw [w hi hj h]
theorem JR {a b:Nat} (ha:a < 18) (hb:b < 18) (h:it W a = it W b):a = b:=by
 unfold it at h;split at h<;>split at h<;>injection h with h1 h2
 . exact AD hW ∅ ∅ h2
 . cases h1
 . cases h1
 . have:=AD hW (a:=a - 9) (b:=b - 9) ∅ ∅ h2;lia
omit hW
structure Row (W:Ws) (S:List Nat) (row:List It):Prop where
 mem:∀ p,p∈row↔p∈S.map (it W)
 nd:row.Nodup
 lt:∀ c∈S,c < 18
variable {S b:List Nat} {row:List It}
theorem Row.low (h:Row W S row):low row:=λp hp=>by
 obtain ⟨c,_,rfl⟩:=aW.mp ((h.mem p).mp hp);exact (mB c).1
theorem Row.len (h:Row W S row):row.length<=18:=by
 have:=mQ (ns:=(bo 18).map (it W)) h.nd λp hp=>by
  obtain ⟨c,hc,rfl⟩:=aW.mp ((h.mem p).mp hp);exact dE (fF.mpr (h.lt c hc))
 simpa using this
theorem Bq (l:List Nat):P1.low (l.map (it W)):=λp hp=>by
 obtain ⟨c,_,rfl⟩:=aW.mp hp;exact (mB c).1
def zX (W:Ws) (l:List Nat):List D:=l.map λc=>itD (it W c)
def mW (W:Ws) (row:List It) (b:List Nat):List It:=mo (row++b.map (it W))
def bW (row:List It):D:=.tup (row.map itD)
theorem Row.more (h:Row W S row) (hb:∀ c∈b,c < 18):Row W (S++b) (mW W row b):=⟨λp=>by
 unfold mW;rw [Nq,bb,h.mem,cw,bb],Gj (h.low.app (Bq b)),λc hc=>(bb.mp hc).elim (h.lt c) (hb c)⟩
theorem AS (n:Nat) (h:Row W S row) (hl:b.length<=40):PP.run Gs gls (n+2) 2 [bW row,.lst (zX W b)] = some (bW (mW W row b)) :=
 MA n row (b.map (it W)) (.lst (zX W b)) (.inl (by unfold zX;rw [gJ];rfl)) (h.low.app (Bq b)) (by rw [av];have:=h.len;lia)
include hW
theorem GR (h:Row W S row) {c:Nat} (hc:c < 18):has row (it W c) = S.contains c:=by
 rw [cV,vO h.low,h.mem,gZ];constructor
 . intro z;obtain ⟨a,ha,e⟩:=aW.mp z;rw [<- JR hW (h.lt a ha) hc e];exact ha
 . exact λz=>dE z
def kb (S:List Nat):Bool:=S.any λc=>decide (c < 9) && S.contains (c+9)
theorem ue (n:Nat) (h:Row W S row):PP.run Gs gls (n+1) 3 [bW row] = some (.bl (kb S)):=by
 unfold bW
 rw [Fq n row h.low (by have:=h.len;lia) λp hp=>by
  obtain ⟨c,_,rfl⟩:=aW.mp ((h.mem p).mp hp);exact (mB c).2]
 congr 2;rw [cV,cA];unfold kb;rw [cA];constructor
 . rintro ⟨p,hp,q⟩;obtain ⟨c,hc,rfl⟩:=aW.mp ((h.mem p).mp hp);rw [aa] at q
   have hc9:c < 9:=by
    rcases cF c 9 with z | z
    . exact z
    . have:=q.1;unfold it at this;rw [if_neg ∅] at this;cases this
   refine ⟨c,hc,?_⟩;rw [aa,<- GR hW h (show c+9 < 18 by lia)];refine ⟨decide_eq_true hc9,?_⟩
   have e:it W (c+9) = (false,(it W c).2):=by
    unfold it;rw [if_neg ∅,if_pos hc9,oV]
   rw [e];exact q.2
 . rintro ⟨c,hc,q⟩;rw [aa,decide_eq_true_eq] at q;refine ⟨it W c,(h.mem _).mpr (dE hc),?_⟩
   have e:it W (c+9) = (false,(it W c).2):=by
    unfold it;rw [if_neg ∅,if_pos q.1,oV]
   rw [aa,<- e,GR hW h ∅];refine ⟨?_,q.2⟩;unfold it;rw [if_pos q.1]
end
def QM:Option Out->Option D
 | some (.rt d _)=>some d
 | _=>none
def gw {cx:Cl} {ss:Ss} {δ:PP.Loc} {d:D} {Q:D->Prop} (h:QM (dD cx ss δ) = some d) (q:Q d):wSs cx ss δ (retS Q):=by
 generalize e:dD cx ss δ = o at h
 match o,h with
 | some (.rt _ _),h=>cases h;exact ⟨_,e,q⟩
inductive T where
 | cl | r1 (c:Nat) (a:T) | r2 (c:Nat) (a b:T) | ct (a b:T)
def rlD (W:Ws) (c:Nat) (ks:List D):D:=.tup [.str "rule",.str (sd (it W c).1),enc (it W c).2,.str "",.tup ks]
def ctD (W:Ws) (ks:List D):D:=.tup [.str "cut",enc (wd W 0),.tup ks]
def CL:D:=.tup [.str "close"]
def eT (W:Ws):T->D
 | .cl=>CL
 | .r1 c a=>rlD W c [eT W a]
 | .r2 c a b=>rlD W c [eT W a,eT W b]
 | .ct a b=>ctD W [eT W a,eT W b]
def ht:T->Nat
 | .cl=>1
 | .r1 _ a=>ht a+1
 | .r2 _ a b | .ct a b=>max (ht a) (ht b)+1
def okT (S:List Nat):T->Prop
 | .cl=>True
 | .r1 c a=>c∈[0,1,12]/\c∈S/\okT S a
 | .r2 c a b=>c∈[2,4]/\c∈S/\okT S a/\okT S b
 | .ct a b=>okT S a/\okT S b
def okT.sub {S S':List Nat} (h:∀ c∈S,c∈S'):∀ {t:T},okT S t->okT S' t
 | .cl,_=>trivial
 | .r1 _ _,o=>⟨o.1,h _ o.2.1,o.2.2.sub h⟩
 | .r2 _ _ _,o=>⟨o.1,h _ o.2.1,o.2.2.1.sub h,o.2.2.2.sub h⟩
 | .ct _ _,o=>⟨o.1.sub h,o.2.sub h⟩
def Hf (W:Ws) (c:Nat) (ks:List D):dep (rlD W c ks)<=cI ks+70:=by
 have h1:=vU (it W c).2;have h2:=(mB (W:=W) c).1;unfold rlD;simp only [dep,cI,qi]
 lia
def NR (W:Ws) (ks:List D):dep (ctD W ks)<=cI ks+70:=by
 have h1:=vU (wd W 0);have h2:sz (wd W 0) = 1:=rfl;unfold ctD;simp only [dep,cI,qi]
 lia
def uC (W:Ws):∀ t:T,dep (eT W t)<=70 * ht t
 | .cl=>(by decide:dep CL<=70)
 | .r1 c a=>by
   have:=Hf W c [eT W a];have:=uC W a;simp only [eT,ht,cI] at *
   lia
 | .r2 c a b=>by
   have:=Hf W c [eT W a,eT W b];have:=uC W a;have:=uC W b;simp only [eT,ht,cI] at *
   lia
 | .ct a b=>by
   have:=NR W [eT W a,eT W b];have:=uC W a;have:=uC W b;simp only [eT,ht,cI] at *
   lia
def isC:T->Bool
 | .cl=>true
 | _=>false
def eqC (W:Ws) {t:T} (h:ht t<=1000):lO .eq (eT W t) CL = some (isC t):=by
 have d:=uC W t;have e:dep CL = 1:=by decide
 have k:ij (eT W t) CL = true:=by
  unfold ij;rw [show kin (eT W t) CL = true by cases t<;>rfl,e,wF,aa,decide_eq_true_eq,decide_eq_true_eq]
  lia
 show (if ij (eT W t) CL = true then some (eqD (eT W t) CL) else _) = _;rw [if_pos k];cases t<;>exact congrArg some ⋯
def kids:T->List T
 | .cl=>[]
 | .r1 _ a=>[a]
 | .r2 _ a b | .ct a b=>[a,b]
def lF {t k:T} (h:k∈kids t):ht k+1<=ht t:=by
 cases t<;>simp only [kids,aB,cz,or_false] at h<;>simp only [ht]
 . rw [h];exact aw _
 . rcases h with rfl | rfl<;>lia
 . rcases h with rfl | rfl<;>lia
def JP {S:List Nat} {t k:T} (o:okT S t) (h:k∈kids t):okT S k:=by
 cases t<;>simp only [kids,aB,cz,or_false] at h
 . rw [h];exact o.2.2
 . rcases h with rfl | rfl
   . exact o.2.2.1
   . exact o.2.2.2
 . rcases h with rfl | rfl
   . exact o.1
   . exact o.2
def ml (W:Ws) (n:Nat) {t:T} (h:ht t<=1000):PP.run Gs gls (n+1) 8 [eT W t] = some (.tup ((kids t).map (eT W))):=by
 have e:=eqC W h;apply bB;refine bh lI rfl rfl rfl ?_;simp only [lI,init,SI,Nat.reduceAdd,Nat.reduceSub]
 cases t with
 | cl=>exact gw (d:=.tup []) ⋯ rfl
 | r1 c a=>exact dZ _ (jX (p:=false) (x:=.tup []) (cN (x:=eT W (.r1 c a)) ⋯ ⋯ e) ⋯ (y:=.tup [eT W a]) ⋯) rfl
 | r2 c a b=>exact dZ _ (jX (p:=false) (x:=.tup []) (cN (x:=eT W (.r2 c a b)) ⋯ ⋯ e) ⋯ (y:=.tup [eT W a,eT W b]) ⋯) rfl
 | ct a b=>exact dZ _ (jX (p:=false) (x:=.tup []) (cN (x:=eT W (.ct a b)) ⋯ ⋯ e) ⋯ (y:=.tup [eT W a,eT W b]) ⋯) rfl
def br:Nat->List (List Nat)
 | 0=>[[5,6]]
 | 1=>[[8,8]]
 | 2=>[[5],[5]]
 | 4=>[[7],[7]]
 | 12=>[[14,15]]
 | _=>[]
def adds:T->List (List Nat)
 | .cl=>[]
 | .r1 c _ | .r2 c _ _=>br c
 | .ct _ _=>[[14],[5]]
def rF {c:Nat} (h:c∈[0,1,12]):c = 0\/c = 1\/c = 12:=by simpa using h
def rG {c:Nat} (h:c∈[2,4]):c = 2\/c = 4:=by simpa using h
def Jd (W:Ws) (n:Nat) {S:List Nat} {t:T} (o:okT S t):PP.run Gs gls (n+5) 10 [eT W t] = some (.lst ((adds t).map λb=>.lst (zX W b))):=by
 cases t with
 | cl=>kernel_rfl
 | r1 c a=>rcases rF o.1 with rfl | rfl | rfl<;>kernel_rfl
 | r2 c a b=>rcases rG o.1 with rfl | rfl<;>kernel_rfl
 | ct a b=>kernel_rfl
def Li:∀ c∈[0,1,2,4,12],∀ b∈br c,b.length<=40/\∀ c∈b,c < 18:=by decide
def qo {S:List Nat} {t:T} (o:okT S t):(adds t).length = (kids t).length/\∀ b∈adds t,b.length<=40/\∀ c∈b,c < 18:=by
 cases t with
 | cl=>exact ⟨rfl,λb h=>by cases h⟩
 | r1 c a =>
   refine ⟨?_,Li c ?_⟩<;>rcases rF o.1 with rfl | rfl | rfl<;>first | rfl | decide
 | r2 c a b =>
   refine ⟨?_,Li c ?_⟩<;>rcases rG o.1 with rfl | rfl<;>first | rfl | decide
 | ct a b=>exact ⟨rfl,(by decide:∀ b∈[[14],[5]],b.length<=40/\∀ c∈b,c < 18)⟩
def IV:2 < sizeLine:=by decide
section
variable {W:Ws} {S:List Nat} {row:List It}
def qO (n:Nat) {t:T} (o:okT S t) {S':List Nat} (h:Row W S' row):PP.run Gs gls (n+6) 11 [bW row,eT W t] = some (.lst ((adds t).map λb=>bW (mW W row b))):=by
 have a:=qo o;have kl:(kids t).length<=2:=by cases t<;>simp [kids]
 have ss:=IV;apply bB;refine bh iu rfl rfl rfl ?_;simp only [iu,init,SI,Nat.reduceAdd,Nat.reduceSub];refine dZ _ (kS (λb=>.lst (zX W b)) (λb=>bW (mW W row b)) (λb=>[bW row,.lst (zX W b)]) (adds t) ∅ (rY (bI [eT W t] ⋯ (Jd W n o)) rfl) rfl (λb _=>by kernel_rfl) λb hb=>?_) rfl;exact AS (n+3) h (a.2 b hb).1
end
def dT:List Nat->T->Bool
 | S,.cl=>kb S
 | S,.r1 c a=>dT (S++(br c).headD []) a
 | S,.r2 c a b=>dT (S++(br c).headD []) a && dT (S++(br c).headD []) b
 | S,.ct a b=>dT (S++[14]) a && dT (S++[5]) b
def isR:T->Bool
 | .r1 _ _ | .r2 _ _ _=>true
 | _=>false
section
variable {W:Ws} (hW:okW W) {S:List Nat} {row:List It}
include hW
theorem GB (h:Row W S row) {c:Nat} (hc:c < 18):lO .notin (itD (it W c)) (bW row) = some (!S.contains c):=by
 have d:=gz (it W c) (mB c).1;have ds:=qj h.low;show (inD (itD (it W c)) (bW row)).map _ = _;unfold inD bW;dsimp only;rw [if_pos ∅];exact congrArg (λb=>some !b) (GR hW h hc)
theorem Fn (n:Nat) {t:T} (hr:isR t = true) (o:okT S t) (h:Row W S row):PP.run Gs gls (n+2) 12 [bW row,eT W t] = some (.bl true):=by
 have key:∀ c ks,c∈[0,1,2,4,12]->c∈S->PP.run Gs gls (n+2) 12 [bW row,rlD W c ks] = some (.bl true):=λc ks hc hs=>by
  have w:=GB hW h (h.lt c hs);rw [gZ.mpr hs] at w;apply bB;refine bh jd rfl rfl rfl ?_;simp only [jd,init,SI,Nat.reduceAdd,Nat.reduceSub];refine gv 1 [.val (bW row),.val (rlD W c ks),.val (.str (sd (it W c).1)),.val (enc (it W c).2),.val (.str "")] ⋯ (dA false (cN (x:=itD (it W c)) (y:=bW row) ⋯ ⋯ w) (λz=>by cases z) λ_=>?_);rcases (show c = 0\/c = 1\/c = 2\/c = 4\/c = 12 by simpa using hc) with rfl | rfl | rfl | rfl | rfl<;>exact gw (d:=.bl true) ⋯ rfl
 cases t with
 | r1 c a=>exact key c _ (by rcases rF o.1 with rfl | rfl | rfl<;>decide) o.2.1
 | r2 c a b=>exact key c _ (by rcases rG o.1 with rfl | rfl<;>decide) o.2.1
 | _=>cases hr
theorem oA (n:Nat) {t:T} {Q:D->Prop} (hc:isC t = false) (hh:ht t<=1000) (o:okT S t) (h:Row W S row) (q:kq ⟨PP.run Gs gls (n+8),gls,hfs Gs⟩ (.tp [4,5]) (sS (gc 5 ib.body)) (((adds t).zip (kids t)).map λp=>.tup [bW (mW W row p.1),eT W p.2]) [.val (bW row),.val (eT W t),.val (.lst ((adds t).map λb=>bW (mW W row b))),.val (.tup ((kids t).map (eT W))),.no,.no] (qE ⟨PP.run Gs gls (n+8),gls,hfs Gs⟩ (gc 6 ib.body) (retS Q))):jw Gs gls (n+9) 13 [bW row,eT W t] Q:=by
 have e:=eqC W hh;rw [hc] at e;have wk:=ml W (n+7) hh;have wr:=qO (n+2) o h;have al:=(qo o).1;refine bh ib rfl rfl rfl ?_;simp only [ib,init,SI,Nat.reduceAdd,Nat.reduceSub];refine dA false (cN (x:=eT W t) ⋯ ⋯ e) (λz=>by cases z) λ_=>dA false ?_ (λz=>by cases z) λ_=>?_
 . cases hr:isR t with
   | true=>exact vR (p:=true) (q:=false) (by cases t<;>first | (cases hr;done) | kernel_rfl) (qd (p:=true) (ik [bW row,eT W t] ⋯ (Fn hW (n+6) hr o h)))
   | false=>cases t<;>first | (cases hr;done) | (cases hc;done) | kernel_rfl
 refine dP [bW row,eT W t] ⋯ ((dv wr).mpr ⟨_,rfl,dP [eT W t] ⋯ ((dv wk).mpr ⟨_,rfl,?_⟩)⟩);refine dA false ?_ (λz=>by cases z) λ_=>pO _ (zY (ds:=[.lst ((adds t).map λb=>bW (mW W row b)),.tup ((kids t).map (eT W))]) ⋯ ?_) q
 . cases t with
   | cl=>cases hc
   | r1 c a=>rcases rF o.1 with rfl | rfl | rfl<;>kernel_rfl
   | r2 c a b=>rcases rG o.1 with rfl | rfl<;>kernel_rfl
   | ct a b=>kernel_rfl
 . cases t with
   | cl=>cases hc
   | r1 c a=>rcases rF o.1 with rfl | rfl | rfl<;>kernel_rfl
   | r2 c a b=>rcases rG o.1 with rfl | rfl<;>kernel_rfl
   | ct a b=>kernel_rfl
omit hW in
theorem jA {n:Nat} {R K s1 s2 s3 s4:Sl} {r:List It} {k:T} {xs:List D} {p:Bool} {Q:Out->Prop} (w:PP.run Gs gls n 13 [bW r,eT W k] = some (.bl p)) (h0:p = false->Q (.rt (.bl false) [s1,s2,R,K,.val (bW r),.val (eT W k)])) (h1:p = true->kq ⟨PP.run Gs gls n,gls,hfs Gs⟩ (.tp [4,5]) (sS (gc 5 ib.body)) xs [s1,s2,R,K,.val (bW r),.val (eT W k)] Q):kq ⟨PP.run Gs gls n,gls,hfs Gs⟩ (.tp [4,5]) (sS (gc 5 ib.body)) (.tup [bW r,eT W k]::xs) [s1,s2,R,K,s3,s4] Q:=by
 rw [iB];refine ⟨[s1,s2,R,K,.val (bW r),.val (eT W k)],rfl,?_⟩;refine dA (!p) (qd (ik [bW r,eT W k] ⋯ w)) (λz=>?_) λz=>?_
 . cases p with
   | true=>cases z
   | false=>exact ⟨.rt (.bl false) [s1,s2,R,K,.val (bW r),.val (eT W k)],⋯,h0 rfl⟩
 . cases p with
   | false=>cases z
   | true=>exact ⟨.nx [s1,s2,R,K,.val (bW r),.val (eT W k)],⋯,h1 rfl⟩
omit hW in
theorem rW {n:Nat} {R K s1 s2 s3 s4:Sl} {Q:D->Prop} (q:Q (.bl true)):kq ⟨PP.run Gs gls n,gls,hfs Gs⟩ (.tp [4,5]) (sS (gc 5 ib.body)) [] [s1,s2,R,K,s3,s4] (qE ⟨PP.run Gs gls n,gls,hfs Gs⟩ (gc 6 ib.body) (retS Q)):=by
 rw [jx];exact gw (d:=.bl true) ⋯ q
theorem jO:∀ (t:T) (n:Nat) (S:List Nat) (row:List It),ht t+8<=n->ht t<=100->okT S t->Row W S row->PP.run Gs gls n 13 [bW row,eT W t] = some (.bl (dT S t))
 | .cl,n,S,row,hn,hh,o,h=>by
   obtain ⟨n,rfl⟩:∃ k,n = k+2:=⟨n - 2,by simp only [ht] at hn;lia⟩;apply bB;refine bh ib rfl rfl rfl ?_;simp only [ib,init,SI,Nat.reduceAdd,Nat.reduceSub]
   exact dA true ⋯ (λ_=>iA [bW row] ⋯ ((dv (ue hW n h)).mpr rfl)) λz=>by cases z
 | .r1 c a,n,S,row,hn,hh,o,h=>by
   simp only [ht] at hn hh;obtain ⟨n,rfl⟩:∃ k,n = k+9:=⟨n - 9,∅⟩
   have one:∀ b,(∀ x∈b,x < 18)->(adds (.r1 c a)).zip (kids (.r1 c a)) = [(b,a)]->dT S (.r1 c a) = dT (S++b) a->PP.run Gs gls (n+9) 13 [bW row,eT W (.r1 c a)] = some (.bl (dT S (.r1 c a))):=λb hb e1 e2=>by
    have ih:=jO a (n+8) (S++b) (mW W row b) ∅ ∅ (o.2.2.sub λx hx=>aF _ hx) (h.more hb);apply bB;refine oA hW n rfl (by simp only [ht];lia) o h ?_;rw [e1,e2];refine jA ih (λz=>?_) λz=>rW ?_<;>rw [z];rfl
   rcases rF o.1 with rfl | rfl | rfl
   . exact one _ ⇑0 rfl rfl
   . exact one _ ⇑0 rfl rfl
   . exact one _ ⇑0 rfl rfl
 | .r2 c a b,n,S,row,hn,hh,o,h=>by
   simp only [ht] at hn hh;obtain ⟨n,rfl⟩:∃ k,n = k+9:=⟨n - 9,∅⟩
   have one:∀ l,(∀ x∈l,x < 18)->(adds (.r2 c a b)).zip (kids (.r2 c a b)) = [(l,a),(l,b)]->dT S (.r2 c a b) = (dT (S++l) a && dT (S++l) b)->PP.run Gs gls (n+9) 13 [bW row,eT W (.r2 c a b)] = some (.bl (dT S (.r2 c a b))):=λl hl e1 e2=>by
    have i1:=jO a (n+8) (S++l) (mW W row l) ∅ ∅ (o.2.2.1.sub λx hx=>aF _ hx) (h.more hl);have i2:=jO b (n+8) (S++l) (mW W row l) ∅ ∅ (o.2.2.2.sub λx hx=>aF _ hx) (h.more hl);apply bB;refine oA hW n rfl (by simp only [ht];lia) o h ?_;rw [e1,e2];refine jA i1 (λz=>?_) λz=>jA i2 (λz2=>?_) λz2=>rW ?_
    . rw [z];rfl
    . rw [z,z2];rfl
    . rw [z,z2];rfl
   rcases rG o.1 with rfl | rfl
   . exact one _ ⇑0 rfl rfl
   . exact one _ ⇑0 rfl rfl
 | .ct a b,n,S,row,hn,hh,o,h=>by
   simp only [ht] at hn hh;obtain ⟨n,rfl⟩:∃ k,n = k+9:=⟨n - 9,∅⟩;have i1:=jO a (n+8) (S++[14]) (mW W row [14]) ∅ ∅ (o.1.sub λx hx=>aF _ hx) (h.more ⇑0);have i2:=jO b (n+8) (S++[5]) (mW W row [5]) ∅ ∅ (o.2.sub λx hx=>aF _ hx) (h.more ⇑0);apply bB;refine oA hW n rfl (by simp only [ht];lia) o h ?_;unfold dT;refine jA i1 (λz=>?_) λz=>jA i2 (λz2=>?_) λz2=>rW ?_
   . rw [z];rfl
   . rw [z,z2];rfl
   . rw [z,z2];rfl
end
def tw:T->List T
 | .cl=>[.cl]
 | .r1 c a=>.r1 c a::(tw a++[])
 | .r2 c a b=>.r2 c a b::(tw a++(tw b++[]))
 | .ct a b=>.ct a b::(tw a++(tw b++[]))
def Qv (t:T):tw t = t::(kids t).flatMap tw:=by cases t<;>rfl
def nd:T->Nat
 | .cl=>1
 | .r1 _ a=>nd a+1
 | .r2 _ a b | .ct a b=>nd a+nd b+1
def nc:T->Nat
 | .cl=>0
 | .r1 _ a=>nc a
 | .r2 _ a b=>nc a+nc b
 | .ct a b=>nc a+nc b+1
def vM:T->Bool
 | .ct _ _=>true
 | _=>false
def qC:∀ t:T,(tw t).length = nd t
 | .cl=>rfl
 | .r1 c a=>by simp only [tw,nd,bw,aI,qC a]
 | .r2 c a b | .ct a b=>by simp only [tw,nd,bw,aI,ay,qC a,qC b]
def tU:∀ t:T,((tw t).filter vM).length = nc t
 | .cl=>rfl
 | .r1 c a=>by
   rw [tw,bw,kn (by simp [vM])]
   exact tU a
 | .r2 c a b=>by
   rw [tw,bw,kn (by simp [vM]),DK,ay,tU a,tU b]
   rfl
 | .ct a b=>by
   rw [tw,bw,yO rfl,DK,aI,ay,tU a,tU b];rfl
def Hd {cx:Cl} {a:E} {δ:PP.Loc} {ds:List D} {ns:List Int} {k:Int} (h:evE cx a δ = some (.lst ds,δ)) (hi:uu ds = some ns):evE cx (.maxd a k) δ = some (.int (if ns = [] then k else sM ns),δ):=by
 simp only [evE,h,hi,ag,aL];rfl
section
variable {W:Ws}
def AR:∀ (m n:Nat) (t:T),ht t<=m->m<=100->nd t<=10000->PP.run Gs gls (n+m+2) 14 [eT W t] = some (.lst ((tw t).map (eT W)))
 | 0,n,t,hm,_,_=>by cases t<;>simp only [ht] at hm<;>lia
 | m+1,n,t,hm,h1,hl=>by
   have s4:10000 < sizeLine:=by decide
   have kk:=ml W (n+(m+1)) (t:=t) ∅;have e0:=Qv t;rw [<- qC,e0,aI] at hl;apply bB;refine bh gA rfl rfl rfl ?_;simp only [gA,init,SI,Nat.reduceAdd,Nat.reduceSub];refine gv 1 [.val (eT W t),.own [eT W t],.no] ⋯ ?_;refine uS (R:=λδ=>∃ s,δ = [.val (eT W t),.own ((tw t).map (eT W)),s]) 1 _ _ ?_ ?_
   . simp only [gc,qF,↓dv kk,SI,↓WS,WI,↓reduceIte];refine wO (g:=eT W) (λrest δ=>∃ (acc:List T) (s:Sl),δ = [.val (eT W t),.own ((t::acc).map (eT W)),s]/\acc++rest.flatMap tw = (kids t).flatMap tw/\∀ k∈rest,k∈kids t) ?_ ?_ _ _ ⟨[],_,rfl,rfl,λ_ h=>h⟩
     . rintro k rest δ ⟨acc,s,rfl,e,hr⟩;have hk:=hr k au;rw [List.flatMap_cons] at e;have le:=congrArg sF e;rw [ay,ay] at le;have ih:PP.run Gs gls (n+(m+1)+1) 14 [eT W k] = some (.lst ((tw k).map (eT W))):=AR m n k (by have:=lF hk;lia) ∅ (by rw [<- qC];lia);simp only [↓dv ih,SI,↓WS,WI,↓reduceIte];refine ⟨?_,acc++tw k,_,by rw [<- cw],by rw [<- e,fA],λj hj=>hr j (ar _ hj)⟩;simp only [av,aI];lia
     . rintro δ ⟨acc,s,rfl,e,_⟩;rw [List.flatMap_nil,bw] at e;rw [e,<- e0];exact ⟨.nx _,rfl,_,rfl⟩
   . rintro δ ⟨s,rfl⟩;exact gw (d:=.lst ((tw t).map (eT W))) ⋯ rfl
def EA {N:Nat} {t:T} (h:ht t+2<=N) (hm:ht t<=100) (hl:nd t<=10000):PP.run Gs gls N 14 [eT W t] = some (.lst ((tw t).map (eT W))):=by
 obtain ⟨n,rfl⟩:∃ n,N = n+ht t+2:=⟨N - ht t - 2,∅⟩;exact AR (ht t) n t (aw _) hm hl
def IZ {N:Nat} {t:T} (h:ht t+2<=N) (hm:ht t<=100) (hl:nd t<=10000):PP.run Gs gls (N+1) 15 [eT W t] = some (.int (nd t)):=by
 apply bB;refine bh qk rfl rfl rfl ?_;simp only [qk,init,SI,Nat.reduceAdd,Nat.reduceSub];refine dZ _ (lG (ds:=[.lst ((tw t).map (eT W))]) (aV (bI [eT W t] ⋯ (EA h hm hl)) rfl) rfl) ?_;rw [av,qC]
def jP {N:Nat} {t:T} (h:ht t+4<=N) (hm:ht t<=100) (hl:nd t<=10000):PP.run Gs gls N 18 [eT W t] = some (.int (nc t)):=by
 obtain ⟨N,rfl⟩:∃ n,N = n+2:=⟨N - 2,∅⟩
 have w:PP.run Gs gls (N+1) 17 [eT W t] = some (.lst (((tw t).filter vM).map (eT W))):=by
  have s4:10000 < sizeLine:=by decide
  have rt:=EA (W:=W) (N:=N) (t:=t) ∅ hm hl;apply bB;refine bh gP rfl rfl rfl ?_;simp only [gP,init,SI,Nat.reduceAdd,Nat.reduceSub];simp only [↓dv rt,↓WS,WI,↓reduceIte];refine iC (eT W) vM (eT W) _ (λk _=>?_) ⟨by rw [av];exact bF (bF (List.length_filter_le _ _) (by rw [qC];exact hl)) ∅,rfl⟩;simp only [SI,↓WS,WI,↓reduceIte]
  cases k with
  | ct a b=>exact ⟨.str "cut",rfl,true,⋯,rfl,kr ⟨trivial,rfl⟩⟩
  | cl=>exact ⟨.str "close",rfl,false,⋯,rfl,jq rfl⟩
  | _=>exact ⟨.str "rule",rfl,false,⋯,rfl,jq rfl⟩
 apply bB;refine bh vY rfl rfl rfl ?_;simp only [vY,init,SI,Nat.reduceAdd,Nat.reduceSub];refine dZ _ (lG (ds:=[.lst (((tw t).filter vM).map (eT W))]) (aV (bI [eT W t] ⋯ w) rfl) rfl) ?_;rw [av,tU]
def xH:∀ (m n:Nat) (t:T),ht t<=m->m<=100->PP.run Gs gls (n+m+2) 16 [eT W t] = some (.int (ht t))
 | 0,n,t,hm,_=>by cases t<;>simp only [ht] at hm<;>lia
 | m+1,n,t,hm,h1=>by
   have kk:=ml W (n+(m+1)) (t:=t) ∅;have ss:=IV;have ks:(kids t).length<=2:=by cases t<;>simp [kids]
   apply bB;refine bh nB rfl rfl rfl ?_;simp only [nB,init,SI,Nat.reduceAdd,Nat.reduceSub];refine dZ _ (en (x:=.int 1) (y:=.int (if (kids t).map (λk=>(ht k:Int)) = [] then 0 else sM ((kids t).map λk=>(ht k:Int)))) ⋯ ?_ rfl) ?_
   . have c:=kS (G:=Gs) (gl:=gls) (n:=n+(m+1)+1) (f:=16) (src:=.sq (.call 8 (.cons (.var 0) .nil))) (es:=.cons (.var 1) .nil) (i:=1) (δ:=[.val (eT W t)]) (eT W) (λk=>.int (ht k)) (λk=>[eT W k]) (kids t) ∅ (rY (bI [eT W t] ⋯ kk) rfl) rfl (λk _=>by kernel_rfl) λk hk=>xH m n k (by have:=lF hk;lia) ∅;exact Hd c (by cases t<;>rfl)
   . cases t with
     | cl=>rfl
     | r1 c a=>show D.int (1+if [(ht a:Int)] = [] then 0 else ht a) = _;rw [if_neg ↥0];simp only [ht];congr 1;lia
     | r2 c a b =>
       show D.int (1+if [(ht a:Int),(ht b:Int)] = [] then 0 else if (ht b:Int) > ht a then (ht b:Int) else ht a) = _;rw [if_neg ↥0];simp only [ht];congr 1
       split<;>lia
     | ct a b =>
       show D.int (1+if [(ht a:Int),(ht b:Int)] = [] then 0 else if (ht b:Int) > ht a then (ht b:Int) else ht a) = _;rw [if_neg ↥0];simp only [ht];congr 1;split<;>lia
def CM {N:Nat} {t:T} (h:ht t+2<=N) (hm:ht t<=100):PP.run Gs gls N 16 [eT W t] = some (.int (ht t)):=by
 obtain ⟨n,rfl⟩:∃ n,N = n+ht t+2:=⟨N - ht t - 2,∅⟩;exact xH (ht t) n t (aw _) hm
end
def wkD (W:Ws):T->List D->D
 | .cl,_=>CL
 | .r1 c _,ds | .r2 c _ _,ds=>rlD W c ds
 | .ct _ _,ds=>ctD W ds
def HW (W:Ws) (t:T):wkD W t ((kids t).map (eT W)) = eT W t:=by cases t<;>rfl
section
variable {W:Ws}
def My (n:Nat) {t:T} (hh:ht t<=1000) (ds:List D):PP.run Gs gls (n+1) 9 [eT W t,.lst ds] = some (wkD W t ds):=by
 have e:=eqC W hh;apply bB;refine bh jc rfl rfl rfl ?_;simp only [jc,init,SI,Nat.reduceAdd,Nat.reduceSub]
 cases t with
 | cl=>exact gw (d:=CL) ⋯ rfl
 | r1 c a=>exact dZ _ (jX (p:=false) (cN (x:=eT W (.r1 c a)) ⋯ ⋯ e) (x:=eT W (.r1 c a)) ⋯ (y:=wkD W (.r1 c a) ds) ⋯) rfl
 | r2 c a b=>exact dZ _ (jX (p:=false) (cN (x:=eT W (.r2 c a b)) ⋯ ⋯ e) (x:=eT W (.r2 c a b)) ⋯ (y:=wkD W (.r2 c a b) ds) ⋯) rfl
 | ct a b=>exact dZ _ (jX (p:=false) (cN (x:=eT W (.ct a b)) ⋯ ⋯ e) (x:=eT W (.ct a b)) ⋯ (y:=wkD W (.ct a b) ds) ⋯) rfl
def Jb (n:Nat) (R sh:D) {S:List Nat} {t:T} (o:okT S t):PP.run Gs gls (n+2) 19 [R,eT W t,sh] = some (eT W t):=by
 apply bB;refine bh qm rfl rfl rfl ?_;simp only [qm,init,SI,Nat.reduceAdd,Nat.reduceSub];refine dA true ?_ (λ_=>gw (d:=eT W t) ⋯ rfl) λz=>by cases z
 cases t with
 | r1 c a=>rcases rF o.1 with rfl | rfl | rfl<;>kernel_rfl
 | r2 c a b=>rcases rG o.1 with rfl | rfl<;>kernel_rfl
 | _=>kernel_rfl
def ud:∀ (m:Nat) (t:T) (n:Nat) (sh:D) (S S':List Nat) (row:List It),ht t<=m->(sh = .non\/sh = .lst [])->ht t+8<=n->ht t<=100->okT S t->Row W S' row->PP.run Gs gls n 20 [bW row,eT W t,sh] = some (eT W t)
 | 0,t,_,_,_,_,_,hm,_,_,_,_,_=>by cases t<;>simp only [ht] at hm<;>lia
 | m+1,t,n,sh,S,S',row,hm,hs,hn,hh,o,h=>by
   obtain ⟨n,rfl⟩:∃ k,n = k+9:=⟨n - 9,by have:0 < ht t:=(by cases t<;>simp [ht]);lia⟩;have hz:(adds t).zip (kids t) = []\/∃ p,(adds t).zip (kids t) = p:=.inr ⟨_,rfl⟩;have wr:=qO (W:=W) (n+2) o h;have wk:=ml W (n+7) (t:=t) ∅;have al:=qo o
   have kl:((adds t).zip (kids t)).length<=2:=by
    have:(kids t).length<=2:=by cases t<;>simp [kids]
    rw [sL];lia
   have ss:=IV;apply bB;refine bh fP rfl rfl rfl ?_;simp only [fP,init,SI,Nat.reduceAdd,Nat.reduceSub];refine gv 1 [.val (bW row),.val (eT W t),.val sh,.val (.lst []),.no,.no] (by rcases hs with rfl | rfl<;>kernel_rfl) ?_;refine dP [bW row,eT W t,.lst []] ⋯ ((dv (Jb (n+6) _ _ o)).mpr ⟨_,rfl,?_⟩);have zk:∀ p∈(adds t).zip (kids t),p.1∈adds t/\p.2∈kids t:=λp hp=>gk hp
   have c:=uA (G:=Gs) (gl:=gls) (n:=n+8) (f:=20) (src:=.zp (.cons (.call 11 (.cons (.var 0) (.cons (.var 4) .nil))) (.cons (.call 8 (.cons (.var 4) .nil)) .nil))) (es:=.cons (.var 6) (.cons (.var 7) (.cons (.var 3) .nil))) (i:=6) (j:=7)
    (δ:=[.val (bW row),.val (eT W t),.val sh,.val (.lst []),.val (eT W t),.no]) (λp:List Nat × T=>bW (mW W row p.1)) (λp=>eT W p.2) (λp=>eT W p.2) (λp=>[bW (mW W row p.1),eT W p.2,.lst []]) ((adds t).zip (kids t)) ∅
    (zY (aV (bI [bW row,eT W t] ⋯ wr) (aV (bI [eT W t] ⋯ wk) rfl)) (by cases t with
      | r1 c a=>rcases rF o.1 with rfl | rfl | rfl<;>rfl
      | r2 c a b=>rcases rG o.1 with rfl | rfl<;>rfl
      | _=>rfl)) rfl rfl (λp _=>by kernel_rfl) λp hp=>by
    have hp:=zk p hp;have:=lF hp.2;exact ud m p.2 (n+8) (.lst []) S (S'++p.1) _ ∅ (.inr rfl) ∅ ∅ (JP o hp.2) (h.more (al.2 _ hp.1).2)
   refine wL _ c (show 5 < 6 by decide) (iA [eT W t,.lst (((adds t).zip (kids t)).map λp=>eT W p.2)] ⋯ ((dv (My (n+7) ∅ _)).mpr ?_))
   have e:((adds t).zip (kids t)).map (λp=>eT W p.2) = (kids t).map (eT W):=by
    rw [show (λp:List Nat × T=>eT W p.2) = eT W ∘ Prod.snd from rfl,<- gJ,List.map_snd_zip (by rw [al.1];exact aw _)]
   rw [e,HW]
def Fp {t:T} {n:Nat} {sh:D} {S S':List Nat} {row:List It} (hs:sh = .non\/sh = .lst []) (hn:ht t+8<=n) (hh:ht t<=100) (o:okT S t) (h:Row W S' row):PP.run Gs gls n 20 [bW row,eT W t,sh] = some (eT W t):=ud (ht t) t n sh S S' row (aw _) hs hn hh o h
end
def yX {cx:Cl} {c:E} {body r:Ss} {δ:PP.Loc} {Q:Out->Prop} (h:evT cx c δ = some (false,δ)) (q:wSs cx r δ Q):wSs cx (.cons (.while_ c body) r) δ Q :=
 cL.mpr (wM.mpr ((kC (n:=999)).mpr ⟨false,δ,h,jq q⟩))
def yW {cx:Cl} {c:E} {body r:Ss} {δ δ':PP.Loc} {Q:Out->Prop} (h:evT cx c δ = some (true,δ)) (hb:dD cx body δ = some (.nx δ')) (h':evT cx c δ' = some (false,δ')) (q:wSs cx r δ' Q):wSs cx (.cons (.while_ c body) r) δ Q :=
 cL.mpr (wM.mpr ((kC (n:=999)).mpr ⟨true,δ,h,kr ⟨.nx δ',hb,(kC (n:=998)).mpr ⟨false,δ',h',jq q⟩⟩⟩))
def Cj {cx:Cl} {e j:E} {r:Ss} {i m:Nat} {k:Int} {δ:PP.Loc} {ds:List D} {Q:Out->Prop} (d:D) (h:evE cx e δ = some (d,δ)) (hj:evE cx j δ = some (.int k,δ)) (ho:δ[i]? = some (.own ds)) (hk:L2.ixN ds.length k = some m) (q:wSs cx r (δ.set i (.own (ds.set m d))) Q):wSs cx (.cons (.setix i j e) r) δ Q:=by
 have hi:i < δ.length:=(aD.mp ho).1;refine cL.mpr (DZ.mpr ⟨d,δ,h,?_⟩);unfold mM;dsimp only;rw [ho];refine ⟨_,δ,hj,?_⟩;dsimp only;rw [ho];exact ⟨k,m,rfl,hk,hi,q⟩
def abv:T->T->T
 | .r1 c x,b=>.r1 c (.ct x b)
 | .r2 c x y,b=>.r2 c (.ct x b) (.ct y b)
 | a,_=>a
section
variable {W:Ws} (hW:okW W) {S:List Nat} {row:List It}
theorem Gi {c:Nat} (hc:c∈[0,1,2,4,12]):lO .ne (itD (it W c)) (.tup [.str "right",enc (wd W 0)]) = some true:=by
 have d1:=gz (it W c) (mB c).1;have d2:dep (.tup [.str "right",enc (wd W 0)])<=64:=gz (false,wd W 0) (by simp [wd,sz])
 have k:ij (itD (it W c)) (.tup [.str "right",enc (wd W 0)]) = true:=by
  unfold ij;rw [show kin (itD (it W c)) (.tup [.str "right",enc (wd W 0)]) = true from rfl,wF,aa,decide_eq_true_eq,decide_eq_true_eq]
  lia
 show (if ij _ _ = true then some (!eqD _ _) else _) = _;rw [if_pos k];rcases (show c = 0\/c = 1\/c = 2\/c = 4\/c = 12 by simpa using hc) with rfl | rfl | rfl | rfl | rfl<;>exact congrArg some ⋯
theorem Jc {N:Nat} {S':List Nat} {k b:T} (hN:ht b+8<=N) (hh:ht b<=100) (o:okT S b) (h:Row W S' row):PP.run Gs gls (N+1) 21 [bW row,enc (wd W 0),eT W k,eT W b] = some (eT W (.ct k b)):=by
 obtain ⟨N,rfl⟩:∃ n,N = n+2:=⟨N - 2,∅⟩;have w1:=AS N (b:=[5]) h ⇑0;have w2:=Fp (sh:=.non) (.inl rfl) hN hh o (h.more (b:=[5]) ⇑0);have w3:PP.run Gs gls (N+2) 7 [enc (wd W 0),eT W k,eT W b] = some (eT W (.ct k b)):=by kernel_rfl
 apply bB;refine bh iq rfl rfl rfl ?_;simp only [iq,init,SI,Nat.reduceAdd,Nat.reduceSub];exact iA [enc (wd W 0),eT W k,eT W b] (aV ⋯ (aV ⋯ (aV (Ha [bW (mW W row [5]),eT W b] (aV (bI [bW row,.lst (zX W [5])] ⋯ w1) (aV ⋯ rfl)) w2) rfl))) ((dv w3).mpr rfl)
theorem Fs {N:Nat} {a b:T} (hN:ht b+9<=N) (hh:ht b<=100) (ha:ht a<=100) (hr:isR a = true) (oa:okT S a) (o:okT S b) (h:Row W S row):PP.run Gs gls (N+1) 22 [bW row,enc (wd W 0),eT W a,eT W b] = some (eT W (abv a b)):=by
 obtain ⟨N,rfl⟩:∃ n,N = n+8:=⟨N - 8,∅⟩;have wr:=qO (W:=W) (N+2) oa h;have wk:=ml W (N+7) (t:=a) ∅;have al:=qo oa
 have kl:((adds a).zip (kids a)).length<=2:=by
  have:(kids a).length<=2:=by cases a<;>simp [kids]
  rw [sL];lia
 have ss:=IV;have zk:∀ p∈(adds a).zip (kids a),p.1∈adds a/\p.2∈kids a:=λp hp=>gk hp;apply bB;refine bh gQ rfl rfl rfl ?_;simp only [gQ,init,SI,Nat.reduceAdd,Nat.reduceSub]
 have c:=uA (G:=Gs) (gl:=gls) (n:=N+8) (f:=21) (src:=.zp (.cons (.call 11 (.cons (.var 0) (.cons (.var 2) .nil))) (.cons (.call 8 (.cons (.var 2) .nil)) .nil))) (es:=.cons (.var 5) (.cons (.var 1) (.cons (.var 6) (.cons (.var 3) .nil)))) (i:=5) (j:=6)
  (δ:=[.val (bW row),.val (enc (wd W 0)),.val (eT W a),.val (eT W b),.no]) (λp:List Nat × T=>bW (mW W row p.1)) (λp=>eT W p.2) (λp=>eT W (.ct p.2 b)) (λp=>[bW (mW W row p.1),enc (wd W 0),eT W p.2,eT W b]) ((adds a).zip (kids a)) ∅
  (zY (aV (bI [bW row,eT W a] ⋯ wr) (aV (bI [eT W a] ⋯ wk) rfl)) (by cases a with
    | r1 c a=>rcases rF oa.1 with rfl | rfl | rfl<;>rfl
    | r2 c a b=>rcases rG oa.1 with rfl | rfl<;>rfl
    | _=>rfl)) rfl rfl (λp _=>by kernel_rfl) λp hp=>by
  have hp:=zk p hp;exact Jc (N:=N+7) ∅ hh o (h.more (al.2 _ hp.1).2)
 refine wL _ c (show 4 < 5 by decide) (iA [eT W a,.lst (((adds a).zip (kids a)).map λp=>eT W (.ct p.2 b))] ⋯ ((dv (My (N+7) ∅ _)).mpr ?_))
 cases a with
 | r1 c a=>rcases rF oa.1 with rfl | rfl | rfl<;>rfl
 | r2 c a b=>rcases rG oa.1 with rfl | rfl<;>rfl
 | _=>cases hr
include hW
theorem Ja {N:Nat} {a b:T} (hN:ht (.ct a b)+10<=N) (hh:ht (.ct a b)<=90) (oa:okT S a) (ob:okT S b) (h:Row W S row) (h1:kb S = false) (h2:dT S a = false) (h3:dT S b = true\/isR a = true):PP.run Gs gls (N+1) 23 [bW row,eT W (.ct a b)] = some (eT W (if dT S b = true then b else abv a b)):=by
 simp only [ht] at hN hh;obtain ⟨N,rfl⟩:∃ m,N = m+1:=⟨N - 1,∅⟩;have w1:=ue hW N h;rw [h1] at w1;have w2:=jO hW a (N+1) S row ∅ ∅ oa h;rw [h2] at w2;have w3:=jO hW b (N+1) S row ∅ ∅ ob h;apply bB;refine bh je rfl rfl rfl ?_;simp only [je,init,SI,Nat.reduceAdd,Nat.reduceSub];refine gv 1 [.val (bW row),.val (eT W (.ct a b)),.val (enc (wd W 0)),.val (eT W a),.val (eT W b)] ⋯ (dA false (ik [bW row] ⋯ w1) (λz=>by cases z) λ_=>dA false (ik [bW row,eT W a] ⋯ w2) (λz=>by cases z) λ_=>dA (dT S b) (ik [bW row,eT W b] ⋯ w3) (λz=>?_) λz=>?_)
 . rw [if_pos z];exact gw (d:=eT W b) ⋯ rfl
 . rw [if_neg (by rw [z];decide)];have hr:=h3.resolve_left (by rw [z];decide);have w4:=Fs (N:=N) (b:=b) ∅ ∅ ∅ hr oa ob h;refine dA true ?_ (λ_=>iA [bW row,enc (wd W 0),eT W a,eT W b] ⋯ ((dv w4).mpr rfl)) λz=>by cases z
   cases a with
   | r1 c a=>exact cN (x:=itD (it W c)) (y:=.tup [.str "right",enc (wd W 0)]) ⋯ ⋯ (Gi (by rcases rF oa.1 with rfl | rfl | rfl<;>decide))
   | r2 c a b=>exact cN (x:=itD (it W c)) (y:=.tup [.str "right",enc (wd W 0)]) ⋯ ⋯ (Gi (by rcases rG oa.1 with rfl | rfl<;>decide))
   | _=>cases hr
end
def ix0 (n:Nat):L2.ixN (n+1) 0 = some 0:=by
 unfold L2.ixN;rw [if_pos ⇑0,if_pos ∅];rfl
def at0 (x:D) (l:List D):ixD (.lst (x::l)) (.int 0) = some x:=by
 show (L2.ixN (l.length+1) 0).bind (λj=>(x::l)[j]?) = _;rw [ix0];rfl
def zU {t k:T} (h:k∈kids t):nd k+1<=nd t:=by
 cases t<;>simp only [kids,aB,cz,or_false] at h<;>simp only [nd]
 . rw [h];exact aw _
 . rcases h with rfl | rfl<;>lia
 . rcases h with rfl | rfl<;>lia
section
variable {W:Ws} {S:List Nat} {row:List It} {N:Nat}
def Mu {a b:T} {R d:D} (hN:ht (.ct a b)+4<=N) (hm:ht (.ct a b)<=100) (hl:nd (.ct a b)<=10000) (h1:nc a = 0) (h2:nc b = 0) (w:PP.run Gs gls N 23 [R,eT W (.ct a b)] = some d):PP.run Gs gls (N+1) 24 [R,eT W (.ct a b)] = some d:=by
 have c:=jP (W:=W) hN hm hl;rw [show nc (.ct a b) = 1 by simp only [nc,h1,h2]] at c;apply bB;refine bh eJ rfl rfl rfl ?_;simp only [eJ,init,SI,Nat.reduceAdd,Nat.reduceSub];exact dA true (vR (p:=true) (q:=true) ⋯ (cN (x:=.int 1) (y:=.int 1) (bI [eT W (.ct a b)] ⋯ c) ⋯ rfl)) (λ_=>iA [R,eT W (.ct a b)] ⋯ ((dv w).mpr rfl)) λz=>by cases z
def Fi {t:T} {R d u v:D} {j:Nat} {ds rs:List D} (hh:ht t<=100) (wr:PP.run Gs gls (N+1) 11 [R,eT W t] = some (.lst rs)) (e1:ixD (.lst rs) (.int j) = some u) (e2:ixD (.lst ds) (.int j) = some v) (hj:L2.ixN ds.length j = some j) (w:PP.run Gs gls (N+1) 24 [u,v] = some d):wSs ⟨PP.run Gs gls (N+1),gls,hfs Gs⟩ (gc 4 eJ.body) [.val R,.val (eT W t),.own ds,.val (.int j)] (retS λx=>x = wkD W t (ds.set j d)) :=
 Cj d (bI [u,v] (aV (kR (bI [R,eT W t] ⋯ wr) ⋯ e1) (aV (kR (x:=.lst ds) ⋯ ⋯ e2) rfl)) w) ⋯ rfl hj (wK [eT W t,.lst (ds.set j d)] [.val R,.val (eT W t),.val (.lst (ds.set j d)),.val (.int j)] ⋯ ((dv (My N ∅ _)).mpr rfl))
def Fj {t:T} {Q:D->Prop} {R:D} {ds:List D} (hN:ht t+4<=N) (hh:ht t<=100) (hl:nd t<=10000) (hn:vM t = false) (w3:PP.run Gs gls N 8 [eT W t] = some (.tup ds)) (q:wSs ⟨PP.run Gs gls N,gls,hfs Gs⟩ (gc 3 eJ.body) [.val R,.val (eT W t),.own ds,.val (.int 0)] (retS Q)):wSs ⟨PP.run Gs gls N,gls,hfs Gs⟩ eJ.body [.val R,.val (eT W t),.no,.no] (retS Q):=by
 have c:=jP (W:=W) hN hh hl;refine dA false (vR (p:=false) ?_ (cN (x:=.int (nc t)) (y:=.int 1) (bI [eT W t] ⋯ c) ⋯ rfl)) (λz=>by cases z) λ_=>?_
 . cases t<;>first | (cases hn;done) | kernel_rfl
 refine cL.mpr (Ea.mpr ⟨.lst ds,_,lG (ds:=[.tup ds]) (aV (bI [eT W t] ⋯ w3) rfl) rfl,ds,rfl,show 2 < 4 by decide,?_⟩);exact gv 1 [.val R,.val (eT W t),.own ds,.val (.int 0)] ⋯ q
def s_0 {t k:T} {b:List Nat} {bs:List (List Nat)} {post:List T} {d:D} (hN:ht t+60<=N) (hh:ht t<=100) (hl:nd t<=10000) (hn:vM t = false) (o:okT S t) {S':List Nat} (h:Row W S' row) (hk:kids t = k::post) (hb:adds t = b::bs) (h1:nc k≠0) (w:PP.run Gs gls N 24 [bW (mW W row b),eT W k] = some d):PP.run Gs gls (N+1) 24 [bW row,eT W t] = some (wkD W t (d::post.map (eT W))):=by
 obtain ⟨N,rfl⟩:∃ m,N = m+6:=⟨N - 6,∅⟩;have w2:=qO (W:=W) N o h;have w3:=ml W (N+5) (t:=t) ∅;rw [hk] at w3;rw [hb] at w2;have mk:k∈kids t:=by rw [hk];exact au
 have hk1:=lF mk;have hk2:=zU mk;have c:=jP (W:=W) (N:=N+6) (t:=k) ∅ ∅ ∅;apply bB;refine bh eJ rfl rfl rfl ?_;simp only [eJ,init,SI,Nat.reduceAdd,Nat.reduceSub];refine Fj ∅ hh hl hn w3 (yX (cN (x:=.int (nc k)) (y:=.int 0) (bI [eT W k] (aV (kR (x:=.lst ((k::post).map (eT W))) (y:=.int 0) ⋯ ⋯ (at0 _ _)) rfl) c) ⋯ ?_) (Fi (j:=0) hh w2 (at0 _ _) (at0 _ _) (ix0 _) w));show some ((nc k:Int) == 0) = _;rw [beq_eq_false_iff_ne.mpr ∅]
def s_1 {t p k:T} {b c:List Nat} {d:D} (hN:ht t+60<=N) (hh:ht t<=100) (hl:nd t<=10000) (hn:vM t = false) (o:okT S t) {S':List Nat} (h:Row W S' row) (hk:kids t = [p,k]) (hb:adds t = [b,c]) (h0:nc p = 0) (h1:nc k≠0) (w:PP.run Gs gls N 24 [bW (mW W row c),eT W k] = some d):PP.run Gs gls (N+1) 24 [bW row,eT W t] = some (wkD W t [eT W p,d]):=by
 obtain ⟨N,rfl⟩:∃ m,N = m+6:=⟨N - 6,∅⟩;have w2:=qO (W:=W) N o h;have w3:=ml W (N+5) (t:=t) ∅;rw [hk] at w3;rw [hb] at w2;have mk:k∈kids t:=by rw [hk];exact ar _ au
 have mp:p∈kids t:=by rw [hk];exact au
 have hk1:=lF mk;have hp1:=lF mp;have hk2:=zU mk;have hp2:=zU mp;have c:=jP (W:=W) (N:=N+6) (t:=k) ∅ ∅ ∅;have c0:=jP (W:=W) (N:=N+6) (t:=p) ∅ ∅ ∅;rw [h0] at c0;apply bB;refine bh eJ rfl rfl rfl ?_;simp only [eJ,init,SI,Nat.reduceAdd,Nat.reduceSub];refine Fj ∅ hh hl hn w3 (yW (cN (x:=.int 0) (y:=.int 0) (bI [eT W p] (aV (kR (x:=.lst [eT W p,eT W k]) (y:=.int 0) ⋯ ⋯ rfl) rfl) c0) ⋯ rfl) (δ':=[.val (bW row),.val (eT W t),.own [eT W p,eT W k],.val (.int 1)]) ⋯ (cN (x:=.int (nc k)) (y:=.int 0) (bI [eT W k] (aV (kR (x:=.lst [eT W p,eT W k]) (y:=.int 1) ⋯ ⋯ rfl) rfl) c) ⋯ ?_) (Fi (j:=1) hh w2 rfl rfl rfl w));show some ((nc k:Int) == 0) = _;rw [beq_eq_false_iff_ne.mpr ∅]
def Pb {c:Nat} {a u:T} {b:List Nat} (hN:ht (.r1 c a)+60<=N) (hh:ht (.r1 c a)<=100) (hl:nd (.r1 c a)<=10000) (o:okT S (.r1 c a)) {S':List Nat} (h:Row W S' row) (hb:br c = [b]) (h1:nc a≠0) (w:PP.run Gs gls N 24 [bW (mW W row b),eT W a] = some (eT W u)):PP.run Gs gls (N+1) 24 [bW row,eT W (.r1 c a)] = some (eT W (.r1 c u)) :=
 s_0 hN hh hl rfl o h (post:=[]) rfl hb h1 w
end
section
variable {cx:Cl} {δ δ':PP.Loc} {e c:E} {d:D} {i f g:Nat} {es:Es} {ds:List D} {a:Ss} {rs:Rs} {Q:OR->Prop} {s:S} {o:Out}
def sY (h:evS cx s δ = some (.nx δ')) (q:wRs cx rs δ' Q):wRs cx (.cons (.st s) rs) δ Q:=cM.mpr (KA.mpr ⟨_,h,q⟩)
def Kp (h:evS cx s δ = some (.rt d δ')) (q:Q (.inl (.rt d δ'))):wRs cx (.cons (.st s) rs) δ Q:=cM.mpr (KA.mpr ⟨_,h,q⟩)
def Qa (h:evE cx e δ = some (d,δ)) (hi:i < δ.length):evS cx (.asg (.nm i) e) δ = some (.nx (δ.set i (.val d))):=by
 simp only [evS,h,ag,aL,fZ,if_pos hi];rfl
def BQ (h:evT cx c δ = some (false,δ)):evS cx (.ifs c a .nil) δ = some (.nx δ):=by
 simp only [evS,h,ag,aL];rfl
def Hb {b:E} {a:E} {p q:Bool} (ha:evE cx a δ = some (.bl p,δ)) (hb:evE cx b δ = some (.bl q,δ)):evE cx (.or a b) δ = some (.bl (p || q),δ):=by
 simp only [evE,ha,ag,aL];cases p
 . exact hb
 . rfl
def oJ (h:eH cx es δ = some (ds,δ)) (hg:cx.call g ds = none) (q:evS cx s δ = some o) (k:EC cx rs Q (.inl o)):wRs cx (.cons (.cal s f g es) rs) δ Q:=cM.mpr (Ic ⟨ds,δ,h,hg⟩ ⟨o,q,k⟩)
def oI {x:Str} (h:eH cx es δ = some (ds,δ)) (hg:cx.call g ds = some (.str x)) (k:Q (.inr (x,δ))):wRs cx (.cons (.cal s f g es) rs) δ Q:=cM.mpr (Ib ⟨ds,δ,h,x,hg,k⟩)
def mF {G:List Fd} {gl:List D} {n:Nat} (he:eH ⟨PP.run G gl n,gl,hfs G⟩ es δ = some (ds,δ)) (hc:PP.run G gl n f ds = some d) (hi:i < δ.length):evS ⟨PP.run G gl n,gl,hfs G⟩ (.asg (.nm i) (.call f es)) δ = some (.nx (δ.set i (.val d))):=Qa (bI ds he hc) hi
end
def vh {n:Nat} {f:Nat} {ds:List D} {d:D} (fd:Fd) {rs:Rs} (e:Gs[f]? = some fd) (hf:fd.hf = false) (hb:fd.body = lV rs) (hl:ds.length = fd.ps.length) (h:wRs ⟨PP.run Gs gls n,gls,hfs Gs⟩ rs (init (fd.ps++fd.loc).length ds) λr=>∃ δ1,r = .inl (.rt d δ1)):PP.run Gs gls (n+1) f ds = some d:=by
 apply bB;refine bh fd e hl hf ?_;rw [hb];refine OK ?_;obtain ⟨r,er,δ1,rfl⟩:=h;exact ⟨_,er,_,rfl,rfl⟩
def AL {n:Nat} {g:Nat} {ds:List D} {c:Str} (fd:Fd) {rs:Rs} (e:Gs[g]? = some fd) (hf:fd.hf = false) (hb:fd.body = iW rs) (hl:ds.length = fd.ps.length) (h:wRs ⟨PP.run Gs gls n,gls,hfs Gs⟩ rs (init (fd.ps++fd.loc).length ds) λr=>∃ δ1,r = .inr (c,δ1)):PP.run Gs gls (n+1) g ds = some (.str c):=by
 apply bB;refine bh fd e hl hf ?_;rw [hb];refine OJ ?_;obtain ⟨r,er,δ1,rfl⟩:=h;exact ⟨_,er,_,_,rfl,rfl⟩
def big (t:T):Bool:=decide (600 < nd t) || decide (40 < ht t)
section
variable {W:Ws} {R:D} {N:Nat}
def AU {t:T} (h:ht t+3<=N) (hm:ht t<=100) (hl:nd t<=10000):PP.run Gs gls (N+1) 25 [eT W t] = some (.bl (big t)):=by
 obtain ⟨N,rfl⟩:∃ m,N = m+1:=⟨N - 1,∅⟩;have h1:=IZ (W:=W) (N:=N) (t:=t) ∅ hm hl;have h2:=CM (W:=W) (N:=N+1) (t:=t) ∅ hm;apply bB;refine bh gB rfl rfl rfl ?_;simp only [gB,init,SI,Nat.reduceAdd,Nat.reduceSub]
 have e1:lO .gt (.int (nd t)) (.int 600) = some (decide (600 < nd t)):=by
  show some (decide ((600:Int) < nd t)) = _;congr 1;exact decide_eq_decide.mpr ∅
 have e2:lO .gt (.int (ht t)) (.int 40) = some (decide (40 < ht t)):=by
  show some (decide ((40:Int) < ht t)) = _;congr 1;exact decide_eq_decide.mpr ∅
 have a1:=qf (cx:=⟨PP.run Gs gls (N+1),gls,hfs Gs⟩) (a:=.call 15 (.cons (.var 0) .nil)) (b:=.glob 5) (δ:=[.val (eT W t)]) (bI [eT W t] ⋯ h1) ⋯ e1;have a2:=qf (cx:=⟨PP.run Gs gls (N+1),gls,hfs Gs⟩) (a:=.call 16 (.cons (.var 0) .nil)) (b:=.glob 6) (δ:=[.val (eT W t)]) (bI [eT W t] ⋯ h2) ⋯ e2;refine dZ _ (Hb a1 a2) ?_;unfold big;cases decide (600 < nd t)<;>rfl
variable {t u:T}
def uf (hu:ht u<=90) (hl:nd u<=10000) (hN:95<=N) (w:PP.run Gs gls N 24 [R,eT W t] = some (eT W u)) (hb:big u = false):PP.run Gs gls (N+1) 26 [R,eT W t] = some (eT W u)/\PP.run Gs gls (N+1) 40 [R,eT W t] = none:=by
 obtain ⟨N,rfl⟩:∃ m,N = m+1:=⟨N - 1,∅⟩;have g:=AU (W:=W) (N:=N) (t:=u) ∅ ∅ hl;rw [hb] at g
 have key:wRs ⟨PP.run Gs gls (N+1),gls,hfs Gs⟩ r_bounded_step [.val R,.val (eT W t),.no] λr=>∃ δ1,r = .inl (.rt (eT W u) δ1) :=
  sY (mF (d:=eT W u) (ds:=[R,eT W t]) ⋯ w (show 2 < 3 by decide)) (cM.mpr (hV.mpr ⟨false,_,ik [eT W u] ⋯ g,jq (gO.mpr (Kp (d:=eT W u) (δ':=[.val R,.val (eT W t),.val (eT W u)]) ⋯ ⟨_,rfl⟩))⟩))
 refine ⟨vh d_bounded_step rfl rfl rfl rfl key,uQ x_bounded_step rfl rfl rfl ?_⟩;obtain ⟨r,er,δ1,rfl⟩:=key;exact ⟨_,er,_,rfl⟩
def mq (hu:ht u<=90) (hl:nd u<=10000) (hN:95<=N) (w:PP.run Gs gls N 24 [R,eT W t] = some (eT W u)) (hb:big u = true):PP.run Gs gls (N+1) 40 [R,eT W t] = some (.str "TooGreat"):=by
 obtain ⟨N,rfl⟩:∃ m,N = m+1:=⟨N - 1,∅⟩;have g:=AU (W:=W) (N:=N) (t:=u) ∅ ∅ hl;rw [hb] at g;exact AL x_bounded_step rfl rfl rfl rfl (sY (mF (d:=eT W u) (ds:=[R,eT W t]) ⋯ w (show 2 < 3 by decide)) (cM.mpr (hV.mpr ⟨true,_,ik [eT W u] ⋯ g,kr (cM.mpr (LF.mpr ⟨_,rfl⟩))⟩)))
def By (h:nc t≠0):lO .gt (.int (nc t)) (.int 0) = some true:=by
 show some (decide ((0:Int) < nc t)) = _;rw [decide_eq_true ∅]
section
variable (hh:ht t<=90) (hl:nd t<=10000) (hN:95<=N) (hc:nc t≠0) (wf:PP.run Gs gls N 13 [R,eT W t] = some (.bl true))
include hh hl hN hc wf
theorem tV {Q:OR->Prop} (q:wRs ⟨PP.run Gs gls N,gls,hfs Gs⟩ (.cons (.cal (.ret (.call 26 (.cons (.var 0) (.cons (.var 1) .nil)))) 26 40 (.cons (.var 0) (.cons (.var 1) .nil))) .nil) [.val R,.val (eT W t)] Q):wRs ⟨PP.run Gs gls N,gls,hfs Gs⟩ r_step [.val R,.val (eT W t)] Q:=by
 refine sY (BQ (qd (p:=true) (ik [R,eT W t] ⋯ wf))) (sY (BQ (cN (x:=.int (nc t)) (y:=.int 0) (bI [eT W t] ⋯ (jP ∅ ∅ hl)) ⋯ ?_)) q);show some ((nc t:Int) == 0) = _;rw [beq_eq_false_iff_ne.mpr ∅]
theorem IW (w:PP.run Gs gls N 26 [R,eT W t] = some (eT W u)) (x:PP.run Gs gls N 40 [R,eT W t] = none):PP.run Gs gls (N+1) 27 [R,eT W t] = some (eT W u)/\PP.run Gs gls (N+1) 41 [R,eT W t] = none:=by
 have key:wRs ⟨PP.run Gs gls N,gls,hfs Gs⟩ r_step [.val R,.val (eT W t)] λr=>∃ δ1,r = .inl (.rt (eT W u) δ1) :=
  tV hh hl hN hc wf (oJ (ds:=[R,eT W t]) ⋯ x (o:=.rt (eT W u) [.val R,.val (eT W t)]) (by simp only [evS,bI (d:=eT W u) (f:=26) (es:=.cons (.var 0) (.cons (.var 1) .nil)) (δ:=[.val R,.val (eT W t)]) [R,eT W t] ⋯ w,ag,aL];rfl) ⟨_,rfl⟩)
 refine ⟨vh d_step rfl rfl rfl rfl key,uQ x_step rfl rfl rfl ?_⟩;obtain ⟨r,er,δ1,rfl⟩:=key;exact ⟨_,er,_,rfl⟩
theorem Fl (x:PP.run Gs gls N 40 [R,eT W t] = some (.str "TooGreat")):PP.run Gs gls (N+1) 41 [R,eT W t] = some (.str "TooGreat") :=
 AL P1.x_step rfl rfl rfl rfl (tV hh hl hN hc wf (oI (ds:=[R,eT W t]) ⋯ x ⟨_,rfl⟩))
end
end
inductive Cs (W:Ws) (R:D) (N:Nat):T->List T->Prop
 | nil {t:T} (h:nc t = 0):Cs W R N t []
 | cons {t u:T} {l:List T} (h:nc t≠0) (w:PP.run Gs gls N 26 [R,eT W t] = some (eT W u)) (x:PP.run Gs gls N 40 [R,eT W t] = none) (hh:ht u<=90) (hl:nd u<=10000) (r:Cs W R N u l):Cs W R N t (u::l)
def pf (t:T):List T->T
 | []=>t
 | u::l=>pf u l
section
variable {W:Ws} {R:D} {N:Nat} {t:T}
def HC {cx:Cl} {δ:PP.Loc} {e:E} {d:D} {ds:List D} {i:Nat} (h:evE cx e δ = some (d,δ)) (ho:δ[i]? = some (.own ds)) (hl:ds.length < sizeLine):evS cx (.append i e) δ = some (.nx (δ.set i (.own (ds++[d])))):=by
 simp only [evS,ho,h,ag,aL];exact if_pos hl
def PZ {cx:Cl} {δ:PP.Loc} {e:E} {d:D} (h:evE cx e δ = some (d,δ)):evS cx (.ret e) δ = some (.rt d δ):=by
 simp only [evS,h,ag,aL];rfl
def Lh:Rs:=match r_clearing with
 | .cons _ (.cons _ (.cons _ (.cons (.whl _ b) _)))=>b
 | _=>.nil
def Bj (hN:95<=N) (t0:T):∀ (l:List T) (t:T) (n:Nat) (acc:List T),Cs W R N t l->ht t<=90->nd t<=10000->l.length < n->acc.length+l.length<=60->Cg ⟨PP.run Gs gls N,gls,hfs Gs⟩ (.cmp .gt (.call 18 (.cons (.var 3) .nil)) (.int 0)) Lh n [.val R,.val (eT W t0),.own (acc.map (eT W)),.val (eT W t)] λr=>∃ s,r = .inl (.nx [.val R,.val (eT W t0),.own ((acc++l).map (eT W)),s])
 | [],t,n+1,acc,c,hh,hl,_,_=>by
   cases c with
   | nil h =>
     have w:=jP (W:=W) (N:=N) (t:=t) ∅ ∅ hl;rw [h] at w
     exact nW.mpr ⟨false,_,cN (x:=.int 0) (y:=.int 0) (bI [eT W t] ⋯ w) ⋯ rfl,jq ⟨.val (eT W t),by rw [bw]⟩⟩
 | u::l,t,n+1,acc,c,hh,hl,hn,hs=>by
   cases c with
   | cons h w x hh2 hl2 r =>
     have wc:=jP (W:=W) (N:=N) (t:=t) ∅ ∅ hl;have ss:=s64;rw [aI] at hn hs;refine nW.mpr ⟨true,_,cN (bI [eT W t] ⋯ wc) ⋯ (By h),kr ?_⟩;refine sY (BQ (cN (x:=.int ((acc.map (eT W)).length)) (y:=.int 100) ⋯ ⋯ ?_)) (oJ (ds:=[R,eT W t]) ⋯ x (mF (ds:=[R,eT W t]) ⋯ w (show 3 < 4 by decide)) (fq.mpr (sY (δ':=[.val R,.val (eT W t0),.own ((acc++[u]).map (eT W)),.val (eT W u)]) ?_ (gO.mpr ?_))))
     . show some (((acc.map (eT W)).length:Int) == 100) = _;rw [av,beq_eq_false_iff_ne.mpr ∅]
     . rw [cw];exact HC (ds:=acc.map (eT W)) (d:=eT W u) ⋯ rfl (by rw [av];lia)
     . have ih:=Bj hN t0 l u n (acc++[u]) r hh2 hl2 ∅ (by rw [ay];simp only [aI,bR];lia);rw [fA] at ih
       exact ih
 | l,t,0,acc,_,_,_,hn,_=>by lia
section
variable (hN:95<=N) (hh:ht t<=90) (hl:nd t<=10000) (wf:PP.run Gs gls N 13 [R,eT W t] = some (.bl true))
include hN hh hl wf
theorem ma {Q:OR->Prop} (q:wRs ⟨PP.run Gs gls N,gls,hfs Gs⟩ (.cons (.whl (.cmp .gt (.call 18 (.cons (.var 3) .nil)) (.int 0)) Lh) (.cons (.st (.ret (.var 2))) .nil)) [.val R,.val (eT W t),.own [],.val (eT W t)] Q):wRs ⟨PP.run Gs gls N,gls,hfs Gs⟩ r_clearing [.val R,.val (eT W t),.no,.no] Q :=
 sY (BQ (qd (p:=true) (ik [R,eT W t] ⋯ wf))) (sY (δ':=[.val R,.val (eT W t),.own [],.no]) ⋯ (sY (δ':=[.val R,.val (eT W t),.own [],.val (eT W t)]) ⋯ q))
theorem oY {l:List T} (c:Cs W R N t l) (hs:l.length<=50):PP.run Gs gls (N+1) 28 [R,eT W t] = some (.lst (l.map (eT W)))/\PP.run Gs gls (N+1) 42 [R,eT W t] = none:=by
 have key:wRs ⟨PP.run Gs gls N,gls,hfs Gs⟩ r_clearing [.val R,.val (eT W t),.no,.no] λr=>∃ δ1,r = .inl (.rt (.lst (l.map (eT W))) δ1):=by
  refine ma hN hh hl wf (cM.mpr (Ee.mpr ?_));obtain ⟨r,er,s,rfl⟩:=Bj hN t l t 1000 [] c hh hl ∅ (by simp only [bR];lia);exact ⟨_,er,fq.mpr (Kp (d:=.lst (l.map (eT W))) (δ':=[.val R,.val (eT W t),.val (.lst (l.map (eT W))),s]) ⋯ ⟨_,rfl⟩)⟩
 refine ⟨vh d_clearing rfl rfl rfl rfl key,uQ x_clearing rfl rfl rfl ?_⟩;obtain ⟨r,er,δ1,rfl⟩:=key;exact ⟨_,er,_,rfl⟩
theorem mV (hc:nc t≠0) (x:PP.run Gs gls N 40 [R,eT W t] = some (.str "TooGreat")):PP.run Gs gls (N+1) 42 [R,eT W t] = some (.str "TooGreat"):=by
 have wc:=jP (W:=W) (N:=N) (t:=t) ∅ ∅ hl;refine AL x_clearing rfl rfl rfl rfl (ma hN hh hl wf (cM.mpr (Ee.mpr (nW.mpr ⟨true,_,cN (bI [eT W t] ⋯ wc) ⋯ (By hc),kr ?_⟩))));exact sY (δ':=[.val R,.val (eT W t),.own [],.val (eT W t)]) ⋯ (oI (ds:=[R,eT W t]) ⋯ x ⟨_,rfl⟩)
end
def Nz (W:Ws):∀ (l:List T) (t u:T),L2.atI ((l++[u]).map (eT W)) (-1) = some (eT W (pf t (l++[u])))
 | l,t,u=>by
   rw [cw];refine vI.trans ?_;congr 2
   induction l generalizing t with
   | nil=>rfl
   | cons a l ih=>exact ih a
def zE {l:List T} (w:PP.run Gs gls N 28 [R,eT W t] = some (.lst (l.map (eT W)))) (x:PP.run Gs gls N 42 [R,eT W t] = none):PP.run Gs gls (N+1) 29 [R,eT W t] = some (eT W (pf t l))/\PP.run Gs gls (N+1) 43 [R,eT W t] = none:=by
 have key:wRs ⟨PP.run Gs gls N,gls,hfs Gs⟩ r_cleared [.val R,.val (eT W t),.no] λr=>∃ δ1,r = .inl (.rt (eT W (pf t l)) δ1):=by
  refine oJ (ds:=[R,eT W t]) ⋯ x (mF (ds:=[R,eT W t]) ⋯ w (show 2 < 3 by decide)) (fq.mpr ?_);rcases lK l with rfl | ⟨l,u,rfl⟩
  . exact Kp (d:=eT W t) (δ':=[.val R,.val (eT W t),.val (.lst [])]) ⋯ ⟨_,rfl⟩
  . rw [lL];have e:=Nz W l t u;refine Kp (d:=eT W (pf t (l++[u]))) (δ':=[.val R,.val (eT W t),.val (.lst ((l++[u]).map (eT W)))]) ?_ ⟨_,rfl⟩
    have tv1:evT ⟨PP.run Gs gls N,gls,hfs Gs⟩ (.var 2) [.val R,.val (eT W t),.val (.lst ((l++[u]).map (eT W)))] = some (true,[.val R,.val (eT W t),.val (.lst ((l++[u]).map (eT W)))]):=by
     have:((l++[u]).map (eT W)).isEmpty = false:=by cases l<;>rfl
     show (some (!((l++[u]).map (eT W)).isEmpty,_):Option (Bool × PP.Loc)) = _;rw [this];rfl
    have r:=jX (cx:=⟨PP.run Gs gls N,gls,hfs Gs⟩) tv1 (a:=.ix (.var 2) (.neg (.int 1))) (x:=eT W (pf t (l++[u]))) (kR (x:=.lst ((l++[u]).map (eT W))) (y:=.int (-1)) ⋯ ⋯ e) (b:=.var 1) (y:=eT W t) ⋯;exact PZ r
 refine ⟨vh d_cleared rfl rfl rfl rfl key,uQ x_cleared rfl rfl rfl ?_⟩;obtain ⟨r,er,δ1,rfl⟩:=key;exact ⟨_,er,_,rfl⟩
def xC (x:PP.run Gs gls N 42 [R,eT W t] = some (.str "TooGreat")):PP.run Gs gls (N+1) 43 [R,eT W t] = some (.str "TooGreat") :=
 AL x_cleared rfl rfl rfl rfl (oI (ds:=[R,eT W t]) ⋯ x ⟨_,rfl⟩)
end
def HZ {cx:Cl} {δ:PP.Loc} {ups:List (Str × List Str)} {rs:Rs} {j:Nat} {qs:Qs} {Q:Out->Prop} (h:wRs cx rs δ λr=>∃ o,r = .inl o/\Q o):wS cx (.opq (wY ups rs j qs)) δ Q:=by
 obtain ⟨r,e,o,rfl,q⟩:=h;exact ⟨o,by simp only [evS,wY,e],q⟩
def Cc:Nat->Nat
 | 0=>27
 | 1=>28
 | _=>29
section
variable {N:Nat} {R t d:D}
def KD:Rs:=match y__law_asked with
 | _::_::.tr rs _ _::_=>rs
 | _=>.nil
def Lw {w:Nat} (hw:w < 3) (h:PP.run Gs gls N (Cc w) [R,t] = some d) (x:PP.run Gs gls N (Cc w+14) [R,t] = none):wRs ⟨PP.run Gs gls N,gls,hfs Gs⟩ KD [.val (.int w),.val R,.val t,.val (.lst []),.val .non,.no] λr=>r = .inl (.nx [.val (.int w),.val R,.val t,.val (.lst []),.val d,.no]):=by
 rcases (show w = 0\/w = 1\/w = 2 by lia) with rfl | rfl | rfl
 . exact cM.mpr (hV.mpr ⟨true,_,rfl,kr (oJ (ds:=[R,t]) ⋯ x (mF (ds:=[R,t]) ⋯ h (show 4 < 6 by decide)) (fq.mpr (gO.mpr (fq.mpr (gO.mpr rfl)))))⟩)
 . exact cM.mpr (hV.mpr ⟨false,_,rfl,jq (cM.mpr (hV.mpr ⟨true,_,rfl,kr (oJ (ds:=[R,t]) ⋯ x (mF (ds:=[R,t]) ⋯ h (show 4 < 6 by decide)) (fq.mpr (gO.mpr (fq.mpr (gO.mpr (fq.mpr (gO.mpr rfl)))))))⟩))⟩)
 . exact cM.mpr (hV.mpr ⟨false,_,rfl,jq (cM.mpr (hV.mpr ⟨false,_,rfl,jq (oJ (ds:=[R,t]) ⋯ x (mF (ds:=[R,t]) ⋯ h (show 4 < 6 by decide)) (fq.mpr (gO.mpr (fq.mpr (gO.mpr (fq.mpr (gO.mpr rfl)))))))⟩))⟩)
def OH {w:Nat} (hw:w < 3) (x:PP.run Gs gls N (Cc w+14) [R,t] = some (.str "TooGreat")):wRs ⟨PP.run Gs gls N,gls,hfs Gs⟩ KD [.val (.int w),.val R,.val t,.val (.lst []),.val .non,.no] λr=>r = .inr ("TooGreat",[.val (.int w),.val R,.val t,.val (.lst []),.val .non,.no]):=by
 rcases (show w = 0\/w = 1\/w = 2 by lia) with rfl | rfl | rfl
 . exact cM.mpr (hV.mpr ⟨true,_,rfl,kr (oI (ds:=[R,t]) ⋯ x rfl)⟩)
 . exact cM.mpr (hV.mpr ⟨false,_,rfl,jq (cM.mpr (hV.mpr ⟨true,_,rfl,kr (oI (ds:=[R,t]) ⋯ x rfl)⟩))⟩)
 . exact cM.mpr (hV.mpr ⟨false,_,rfl,jq (cM.mpr (hV.mpr ⟨false,_,rfl,jq (oI (ds:=[R,t]) ⋯ x rfl)⟩))⟩)
def vo {w:Nat} (hw:w < 3) (h:PP.run Gs gls N (Cc w) [R,t] = some d) (x:PP.run Gs gls N (Cc w+14) [R,t] = none):PP.run Gs gls (N+1) 35 [.int w,R,t] = some (.tup [.lst [],d]):=by
 apply bB;refine bh d__law_asked rfl rfl rfl ?_;simp only [d__law_asked,init,SI,Nat.reduceAdd,Nat.reduceSub];refine gv 2 [.val (.int w),.val R,.val t,.val (.lst []),.val .non,.no] ⋯ (cL.mpr (HZ ?_));obtain ⟨r,er,rfl⟩:=Lw hw h x;exact ⟨_,er,_,rfl,iG.mpr (gw (d:=.tup [.lst [],d]) ⋯ rfl)⟩
def qP {w:Nat} (hw:w < 3) (x:PP.run Gs gls N (Cc w+14) [R,t] = some (.str "TooGreat")):PP.run Gs gls (N+1) 35 [.int w,R,t] = some (.tup [.lst [.str "great"],.non]):=by
 apply bB;refine bh d__law_asked rfl rfl rfl ?_;simp only [d__law_asked,init,SI,Nat.reduceAdd,Nat.reduceSub];refine gv 2 [.val (.int w),.val R,.val t,.val (.lst []),.val .non,.no] ⋯ (cL.mpr (LC ?_));obtain ⟨r,er,rfl⟩:=OH hw x;refine ⟨_,er,_,_,["TooGreat","CutlessError"],rfl,⇑0,rfl,?_⟩;have e:Qs.ev ["TooGreat","CutlessError"] (.ask 3 "_law_kind" ql__law_kind .nil) [.val (.int w),.val R,.val t,.val (.lst []),.val .non,.no] = [.val (.int w),.val R,.val t,.val (.lst [.str "great"]),.val .non,.no]:=by kernel_rfl
 rw [e];exact iG.mpr (gw (d:=.tup [.lst [.str "great"],.non]) ⋯ rfl)
end
def oj (W:Ws):∀ (t:T) (n:Nat),ht t<=500->ht t+1<=n->PP.run Gs gls n 33 [eT W t] = some (.int (nc t))
 | .cl,n+1,hh,hn=>by kernel_rfl
 | .r1 c a,n+1,hh,hn=>by
   simp only [ht] at hh hn;have w1:=oj W a n ∅ ∅;have c1:=kS (G:=Gs) (gl:=gls) (n:=n) (f:=33) (src:=.sq (.ix (.var 0) (.neg (.int 1)))) (es:=.cons (.var 1) .nil) (i:=1) (δ:=[.val (eT W (.r1 c a))]) (eT W) (λk=>.int (nc k)) (λk=>[eT W k]) [a] (show 1<=sizeLine by decide) (rY (d:=.tup [eT W a]) ⋯ rfl) rfl (λk _=>by kernel_rfl) λk hk=>by rw [bQ.mp hk];exact w1
   apply bB;refine bh eM rfl rfl rfl ?_;simp only [eM,init,SI,Nat.reduceAdd,Nat.reduceSub];refine dA false ⋯ (λz=>by cases z) λ_=>dZ _ (en (x:=.int 0) (y:=.int ((nc a:Int)+0)) ⋯ (lG (ds:=[.lst [.int (nc a)]]) (aV c1 rfl) ⋯) rfl) ?_;simp only [nc];congr 1
   lia
 | .r2 c a b,n+1,hh,hn=>by
   simp only [ht] at hh hn;have w1:=oj W a n ∅ ∅;have w2:=oj W b n ∅ ∅
   have c1:=kS (G:=Gs) (gl:=gls) (n:=n) (f:=33) (src:=.sq (.ix (.var 0) (.neg (.int 1)))) (es:=.cons (.var 1) .nil) (i:=1) (δ:=[.val (eT W (.r2 c a b))]) (eT W) (λk=>.int (nc k)) (λk=>[eT W k]) [a,b] (show 2<=sizeLine by decide) (rY (d:=.tup [eT W a,eT W b]) ⋯ rfl) rfl (λk _=>by kernel_rfl) λk hk=>by
    simp only [aB,cz,or_false] at hk;rcases hk with rfl | rfl
    . exact w1
    . exact w2
   apply bB;refine bh eM rfl rfl rfl ?_;simp only [eM,init,SI,Nat.reduceAdd,Nat.reduceSub];refine dA false ⋯ (λz=>by cases z) λ_=>dZ _ (en (x:=.int 0) (y:=.int ((nc a:Int)+((nc b:Int)+0))) ⋯ (lG (ds:=[.lst [.int (nc a),.int (nc b)]]) (aV c1 rfl) ⋯) rfl) ?_;simp only [nc];congr 1
   lia
 | .ct a b,n+1,hh,hn=>by
   simp only [ht] at hh hn;have w1:=oj W a n ∅ ∅;have w2:=oj W b n ∅ ∅
   have c1:=kS (G:=Gs) (gl:=gls) (n:=n) (f:=33) (src:=.sq (.ix (.var 0) (.neg (.int 1)))) (es:=.cons (.var 1) .nil) (i:=1) (δ:=[.val (eT W (.ct a b))]) (eT W) (λk=>.int (nc k)) (λk=>[eT W k]) [a,b] (show 2<=sizeLine by decide) (rY (d:=.tup [eT W a,eT W b]) ⋯ rfl) rfl (λk _=>by kernel_rfl) λk hk=>by
    simp only [aB,cz,or_false] at hk;rcases hk with rfl | rfl
    . exact w1
    . exact w2
   apply bB;refine bh eM rfl rfl rfl ?_;simp only [eM,init,SI,Nat.reduceAdd,Nat.reduceSub];refine dA false ⋯ (λz=>by cases z) λ_=>dZ _ (en (x:=.int 1) (y:=.int ((nc a:Int)+((nc b:Int)+0))) ⋯ (lG (ds:=[.lst [.int (nc a),.int (nc b)]]) (aV c1 rfl) ⋯) rfl) ?_;simp only [nc];congr 1
   lia
 | t,0,_,hn=>by lia
def rep (c:Nat):Nat->T->T
 | 0,t=>t
 | n+1,t=>.r1 c (rep c n t)
def eS (c:Nat) (t:T):∀ n,ht (rep c n t) = n+ht t
 | 0=>(ll _).symm
 | n+1=>by simp only [rep,ht,eS c t n];lia
def ft (c:Nat) (t:T):∀ n,nd (rep c n t) = n+nd t
 | 0=>(ll _).symm
 | n+1=>by simp only [rep,nd,ft c t n];lia
def hZ (c:Nat) (t:T):∀ n,nc (rep c n t) = nc t
 | 0=>rfl
 | n+1=>by simp only [rep,nc,hZ c t n]
def jm {c:Nat} {t:T} {S:List Nat} (h:c∈[0,1,12]) (hs:c∈S) (o:okT S t):∀ n,okT S (rep c n t)
 | 0=>o
 | n+1=>⟨h,hs,jm h hs o n⟩
def Hk {S S':List Nat} (h:∀ c,c∈S↔c∈S'):kb S = kb S':=by
 unfold kb;rw [cV,cA,cA];constructor<;>rintro ⟨c,hc,q⟩<;>refine ⟨c,?_,?_⟩
 . exact (h c).mp hc
 . rw [aa,gZ] at q |-;exact ⟨q.1,(h _).mp q.2⟩
 . exact (h c).mpr hc
 . rw [aa,gZ] at q |-;exact ⟨q.1,(h _).mpr q.2⟩
def kW {S S':List Nat} (h:∀ c,c∈S↔c∈S') (b:List Nat) (c:Nat):c∈S++b↔c∈S'++b:=by rw [bb,bb,h]
def jB:∀ (t:T) {S S':List Nat},(∀ c,c∈S↔c∈S')->dT S t = dT S' t
 | .cl,_,_,h=>Hk h
 | .r1 c a,_,_,h=>jB a (kW h _)
 | .r2 c a b,_,_,h=>by unfold dT;rw [jB a (kW h _),jB b (kW h _)]
 | .ct a b,_,_,h=>by unfold dT;rw [jB a (kW h _),jB b (kW h _)]
def nv (c:Nat) (t:T):∀ (n:Nat) (S:List Nat),dT S (rep c (n+1) t) = dT (S++(br c).headD []) t
 | 0,S=>rfl
 | n+1,S=>by
   show dT (S++(br c).headD []) (rep c (n+1) t) = _;rw [nv c t n];exact jB t λx=>by simp only [bb];exact ⟨λz=>z.elim id .inr,λz=>.inl z⟩
def Sb (S:List Nat):Nat->List Nat
 | 0=>S
 | n+1=>Sb (S++[8,8]) n
def rX (t:T):∀ (n:Nat) (S:List Nat),dT S (rep 1 n t) = dT (Sb S n) t
 | 0,S=>rfl
 | n+1,S=>rX t n (S++[8,8])
def gC:∀ (n:Nat) {S:List Nat},∀ c∈S,c∈Sb S n
 | 0,S,c,h=>h
 | n+1,S,c,h=>gC n c (aF _ h)
section
variable {W:Ws}
def kG {M:Nat} {X u:T}:∀ (b:Nat) (S:List Nat) (row:List It),okT S (rep 1 b X)->Row W S row->nc X≠0->ht X+b+60<=M->ht X+b<=100->nd X+b<=10000->(∀ row',Row W (Sb S b) row'->PP.run Gs gls M 24 [bW row',eT W X] = some (eT W u))->PP.run Gs gls (M+b) 24 [bW row,eT W (rep 1 b X)] = some (eT W (rep 1 b u))
 | 0,S,row,o,h,_,_,_,_,w=>w row h
 | b+1,S,row,o,h,hc,hM,hh,hl,w=>by
   have e1:=eS 1 X b;have e2:=ft 1 X b;have ih:=kG b (S++[8,8]) (mW W row [8,8]) (o.2.2.sub λx hx=>aF _ hx) (h.more ⇑0) hc ∅ ∅ ∅ w;exact Pb (N:=M+b) (b:=[8,8]) (by show ht (T.r1 1 (rep 1 b X))+60<=_;simp only [ht];lia) (by show ht (T.r1 1 (rep 1 b X))<=_;simp only [ht];lia) (by show nd (T.r1 1 (rep 1 b X))<=_;simp only [nd];lia) o h rfl (by rw [hZ];exact hc) ih
end
section
variable {W:Ws} (hW:okW W) {S:List Nat} {row:List It} {M:Nat}
include hW
theorem mR {a b:T} {n:Nat} {u:T} (h:Row W S row) (oa:okT S a) (ob:okT S b) (h1:1∈S) (ha:nc a = 0) (hb:nc b = 0) (hM:170<=M) (hh:ht (.ct a b)+n<=80) (hl:nd (.ct a b)+n<=10000) (c1:kb (Sb S n) = false) (c2:dT (Sb S n) a = false) (c3:dT (Sb S n) b = true\/isR a = true) (hu:(if dT (Sb S n) b = true then b else abv a b) = u):PP.run Gs gls (M+n) 24 [bW row,eT W (rep 1 n (.ct a b))] = some (eT W (rep 1 n u)):=by
 refine kG n S row (jm ⇑0 h1 (show okT S (.ct a b) from ⟨oa,ob⟩) n) h (by simp [nc]) ∅ ∅ hl λrow' h'=>?_;obtain ⟨M,rfl⟩:∃ m,M = m+2:=⟨M - 2,∅⟩;have w:=Ja hW (N:=M) ∅ ∅ (oa.sub λx hx=>gC n x hx) (ob.sub λx hx=>gC n x hx) h' c1 c2 c3;rw [hu] at w;exact Mu ∅ ∅ ∅ ha hb w
end
section
variable {W:Ws} {R:D}
def St (W:Ws) (R:D) (t u:T):Prop:=∀ N,190<=N->PP.run Gs gls N 24 [R,eT W t] = some (eT W u)
inductive Ch (W:Ws) (R:D):T->List T->Prop
 | nil {t:T} (h:nc t = 0):Ch W R t []
 | cons {t u:T} {l:List T} (h:nc t≠0) (w:St W R t u) (b:big u = false) (hh:ht u<=90) (hl:nd u<=10000) (r:Ch W R u l):Ch W R t (u::l)
def Ch.cs {N:Nat} (hN:191<=N) {t:T} {l:List T} (c:Ch W R t l):Cs W R N t l:=by
 induction c with
 | nil h=>exact .nil h
 | cons h w b hh hl r ih =>
   obtain ⟨M,rfl⟩:∃ m,N = m+1:=⟨N - 1,∅⟩;obtain ⟨w1,w2⟩:=uf hh hl ∅ (w M ∅) b;exact .cons h w1 w2 hh hl ih
def Ch.last {t:T} {l:List T} (c:Ch W R t l):ht t<=90->nc (pf t l) = 0/\ht (pf t l)<=90:=by
 induction c with
 | nil h=>exact λz=>⟨h,z⟩
 | cons h w b hh hl r ih=>exact λ_=>ih hh
variable {t u:T} (hh:ht t<=90) (hl:nd t<=10000) (hc:nc t≠0) (wf:∀ N,190<=N->PP.run Gs gls N 13 [R,eT W t] = some (.bl true))
include hh hl hc wf
theorem yF {w:Nat} (hw:w < 3) {l:List T} (c:Ch W R t (u::l)) (hs:l.length < 50):∃ d,PP.run Gs gls 199 35 [.int w,R,eT W t] = some (.tup [.lst [],d])/\(w = 2->∃ v,d = eT W v/\nc v = 0/\ht v<=90):=by
 have hs:(u::l).length<=50:=hs;rcases (show w = 0\/w = 1\/w = 2 by lia) with rfl | rfl | rfl
 . cases c with
   | cons h0 w0 b0 h1 h2 r =>
     obtain ⟨w1,w2⟩:=uf h1 h2 ⇑0 (w0 196 ⇑0) b0;obtain ⟨w3,w4⟩:=IW hh hl ⇑0 hc (wf 197 ⇑0) w1 w2;exact ⟨_,vo (w:=0) ⇑0 w3 w4,λz=>by cases z⟩
 . obtain ⟨w3,w4⟩:=oY ⇑0 hh hl (wf 197 ⇑0) (c.cs ⇑0) hs;exact ⟨_,vo (w:=1) ⇑0 w3 w4,λz=>by cases z⟩
 . obtain ⟨w3,w4⟩:=oY ⇑0 hh hl (wf 196 ⇑0) (c.cs ⇑0) hs;obtain ⟨w5,w6⟩:=zE w3 w4;obtain ⟨z1,z2⟩:=c.last hh;exact ⟨_,vo (w:=2) ⇑0 w5 w6,λ_=>⟨_,rfl,z1,z2⟩⟩
theorem BL {w:Nat} (hw:w < 3) (w0:St W R t u) (h1:ht u<=90) (h2:nd u<=10000) (b:big u = true):PP.run Gs gls 199 35 [.int w,R,eT W t] = some (.tup [.lst [.str "great"],.non]):=by
 rcases (show w = 0\/w = 1\/w = 2 by lia) with rfl | rfl | rfl
 . exact qP (w:=0) ⇑0 (Fl hh hl ⇑0 hc (wf 197 ⇑0) (mq h1 h2 ⇑0 (w0 196 ⇑0) b))
 . exact qP (w:=1) ⇑0 (mV ⇑0 hh hl (wf 197 ⇑0) hc (mq h1 h2 ⇑0 (w0 196 ⇑0) b))
 . exact qP (w:=2) ⇑0 (xC (mV ⇑0 hh hl (wf 196 ⇑0) hc (mq h1 h2 ⇑0 (w0 195 ⇑0) b)))
end
def DA (W:Ws) (R:D) (t:T) (w:Nat) (great:Bool):Prop :=
 if great = true then PP.run Gs gls 199 35 [.int w,R,eT W t] = some (.tup [.lst [.str "great"],.non])
 else ∃ d,PP.run Gs gls 199 35 [.int w,R,eT W t] = some (.tup [.lst [],d])/\(w = 2->∃ v,d = eT W v/\nc v = 0/\ht v<=90)
def hiT (b p q:Nat):T:=rep 1 b (.ct (rep 0 (p+1) .cl) (rep 12 (q+1) .cl))
def hiB:∀ b,b < 4->kb (Sb [0,12,1] b) = false/\kb (Sb [0,12,1] b++[5,6]) = false/\kb (Sb [0,12,1] b++[14,15]) = false/\kb (Sb [0,12,1] b++[14]++[5,6]) = true/\kb (Sb [0,12,1] b++[5]++[14,15]) = true/\kb (Sb [0,12,1] b++[5,6]++[5,6]) = false/\kb (Sb [0,12,1] b++[5,6]++[14,15]) = true:=by decide
section
variable {W:Ws} (hW:okW W) {row:List It} (h:Row W [0,12,1] row) {b p q d w:Nat} (hb:b < 4) (hp:p+1+b<=38) (hq:q+1+b = 36+d) (hd:d < 3) (hw:w < 3)
include hW h hb hp hq hd hw
theorem De:DA W (bW row) (hiT b p q) w (decide (d = 2)):=by
 obtain ⟨c1,c2,c3,c4,c5,c6,c7⟩:=hiB b hb;have oL:∀ k,okT [0,12,1] (rep 0 k .cl):=λk=>jm ⇑0 ⇑0 (show okT [0,12,1] .cl from trivial) k;have oK:okT [0,12,1] (rep 12 (q+1) .cl):=jm ⇑0 ⇑0 (show okT [0,12,1] .cl from trivial) _;have o:okT [0,12,1] (hiT b p q):=jm ⇑0 ⇑0 (show okT [0,12,1] (.ct _ _) from ⟨oL _,oK⟩) b;have eh:=eS 1 (.ct (rep 0 (p+1) .cl) (rep 12 (q+1) .cl)) b;have el:=ft 1 (.ct (rep 0 (p+1) .cl) (rep 12 (q+1) .cl)) b;have ec:=hZ 1 (.ct (rep 0 (p+1) .cl) (rep 12 (q+1) .cl)) b;have h0:∀ k,ht (rep 0 k .cl) = k+1:=eS 0 .cl;have n0:∀ k,nd (rep 0 k .cl) = k+1:=ft 0 .cl;have k0:∀ k,nc (rep 0 k .cl) = 0:=hZ 0 .cl;have h1:ht (rep 12 (q+1) .cl) = q+1+1:=eS 12 .cl (q+1);have n1:nd (rep 12 (q+1) .cl) = q+1+1:=ft 12 .cl (q+1);have k1:nc (rep 12 (q+1) .cl) = 0:=hZ 12 .cl (q+1);simp only [ht,h0,h1] at eh;simp only [nd,n0,n1] at el;simp only [nc,k0,k1] at ec;have fL:∀ S,dT S (rep 0 (p+1) .cl) = kb (S++[5,6]):=λS=>nv 0 .cl p S;have fK:∀ S,dT S (rep 12 (q+1) .cl) = kb (S++[14,15]):=λS=>nv 12 .cl q S
 have wf:∀ N,190<=N->PP.run Gs gls N 13 [bW row,eT W (hiT b p q)] = some (.bl true):=λN hN=>by
  rw [jO hW (hiT b p q) N _ row (by show ht (rep 1 b _)+8<=N;lia) (by show ht (rep 1 b _)<=_;lia) o h];unfold hiT;rw [rX];unfold dT;rw [fL,fK,c4,c5];rfl
 have s1:St W (bW row) (hiT b p q) (rep 1 b (.r1 0 (.ct (rep 0 p .cl) (rep 12 (q+1) .cl)))):=λN hN=>by
  obtain ⟨M,rfl⟩:∃ m,N = m+b:=⟨N - b,∅⟩;exact mR hW h (oL _) oK ⇑0 (k0 _) k1 ∅ (by simp only [ht,h0,h1];lia) (by simp only [nd,n0,n1];lia) c1 (by rw [fL];exact c2) (.inr rfl) (by rw [fK,c3];rfl)
 have bg:big (rep 1 b (.r1 0 (.ct (rep 0 p .cl) (rep 12 (q+1) .cl)))) = decide (d = 2):=by
  unfold big;rw [ft,eS];simp only [nd,ht,n0,n1,h0,h1];rw [decide_eq_false (show ¬ _ by lia),Bool.false_or];exact decide_eq_decide.mpr ∅
 have hu1:ht (rep 1 b (.r1 0 (.ct (rep 0 p .cl) (rep 12 (q+1) .cl))))<=90:=by rw [eS];simp only [ht,h0,h1];lia
 have nu1:nd (rep 1 b (.r1 0 (.ct (rep 0 p .cl) (rep 12 (q+1) .cl))))<=10000:=by rw [ft];simp only [nd,n0,n1];lia
 have hh:ht (hiT b p q)<=90:=by show ht (rep 1 b _)<=_;lia
 have hl:nd (hiT b p q)<=10000:=by show nd (rep 1 b _)<=_;lia
 have hc:nc (hiT b p q)≠0:=by show nc (rep 1 b _)≠0;lia
 unfold DA;refine PC (λz=>BL hh hl hc wf hw s1 hu1 nu1 (bg.trans z)) λz=>?_;have hd2:d≠2:=λe=>z (decide_eq_true e);refine yF hh hl hc wf hw (l:=[rep 1 b (.r1 0 (rep 12 (q+1) .cl))]) (.cons hc s1 (bg.trans (decide_eq_false hd2)) hu1 nu1 (.cons (by rw [hZ];simp [nc]) (λN hN=>?_) ?_ (by rw [eS];simp only [ht,h1];lia) (by rw [ft];simp only [nd,n1];lia) (.nil (by rw [hZ];exact k1)))) (show 1 < 50 by decide)
 . obtain ⟨M,rfl⟩:∃ m,N = m+1+b:=⟨N - 1 - b,∅⟩;have hx:=eS 0 .cl p;refine kG b [0,12,1] row (jm ⇑0 ⇑0 (show okT [0,12,1] (.r1 0 (.ct _ _)) from ⟨⇑0,⇑0,oL _,oK⟩) b) h (by simp [nc]) (by simp only [ht,h0,h1];lia) (by simp only [ht,h0,h1];lia) (by simp only [nd,n0,n1];lia) λrow' h'=>?_;refine Pb (b:=[5,6]) (S:=Sb [0,12,1] b) (by simp only [ht,h0,h1];lia) (by simp only [ht,h0,h1];lia) (by simp only [nd,n0,n1];lia) (show okT _ (.r1 0 (.ct _ _)) from ⟨⇑0,gC b 0 ⇑0,(oL p).sub λx hx=>gC b x hx,oK.sub λx hx=>gC b x hx⟩) h' rfl (by simp [nc]) ?_;have hr:=h'.more (b:=[5,6]) ⇑0
   have f0:dT (Sb [0,12,1] b++[5,6]) (rep 0 p .cl) = false:=by
    cases p with
    | zero=>exact c2
    | succ p=>exact (nv 0 .cl p _).trans c6
   have sc:=mR hW (n:=0) (M:=M) (u:=rep 12 (q+1) .cl) hr ((oL p).sub λx hx=>aF _ (gC b x hx)) (oK.sub λx hx=>aF _ (gC b x hx)) (aF _ (gC b 1 ⇑0)) (k0 _) k1 ∅ (by simp only [ht,h0,h1];lia) (by simp only [nd,n0,n1];lia) c2 f0 (.inl ((fK _).trans c7)) (by show (if dT (Sb [0,12,1] b++[5,6]) (rep 12 (q+1) .cl) = true then _ else _) = _;rw [fK,c7];rfl);exact sc
 . unfold big;rw [ft,eS];simp only [nd,ht,n1,h1];rw [decide_eq_false (show ¬ _ by lia),decide_eq_false (show ¬ _ by lia)];rfl
end
def tt:Nat->T
 | 0=>.r1 12 .cl
 | k+1=>.r2 4 (tt k) (tt k)
def wiK (m:Nat):T:=rep 12 (m+1) (.r2 4 (tt 6) (tt 5))
def wiL:T:=.r2 2 .cl .cl
def wiT (b m:Nat):T:=rep 1 b (.ct wiL (wiK m))
def wiB:∀ b,b < 4->kb (Sb [2,12,4,1] b) = false/\dT (Sb [2,12,4,1] b) wiL = false/\dT (Sb [2,12,4,1] b++[14,15]) (.r2 4 (tt 6) (tt 5)) = false/\dT (Sb [2,12,4,1] b++[5]++[14,15]) (.r2 4 (tt 6) (tt 5)) = true/\kb (Sb [2,12,4,1] b++[5]) = false/\dT (Sb [2,12,4,1] b++[14]) wiL = true:=by decide
def Ay {S:List Nat} (h1:12∈S) (h2:4∈S):∀ k,okT S (tt k)
 | 0=>⟨⇑0,h1,trivial⟩
 | k+1=>⟨⇑0,h2,Ay h1 h2 k,Ay h1 h2 k⟩
section
variable {W:Ws} (hW:okW W) {row:List It} (h:Row W [2,12,4,1] row) {b m w:Nat} (hb:b < 4) (hm:m<=11) (hw:w < 3)
include hW h hb hm hw
theorem Cb:DA W (bW row) (wiT b m) w (decide (21 < 2 * (m+1)+b)):=by
 obtain ⟨c1,c2,c3,c4,c5,c6⟩:=wiB b hb;have oK:okT [2,12,4,1] (wiK m):=jm ⇑0 ⇑0 (show okT [2,12,4,1] (.r2 4 _ _) from ⟨⇑0,⇑0,Ay ⇑0 ⇑0 6,Ay ⇑0 ⇑0 5⟩) _;have oL:okT [2,12,4,1] wiL:=⟨⇑0,⇑0,trivial,trivial⟩;have o:okT [2,12,4,1] (wiT b m):=jm ⇑0 ⇑0 (show okT [2,12,4,1] (.ct _ _) from ⟨oL,oK⟩) b
 have hK:ht (wiK m) = m+10:=by
  unfold wiK;rw [eS,show ht (.r2 4 (tt 6) (tt 5)) = 9 by rfl]
 have nK:nd (wiK m) = m+288:=by
  unfold wiK;rw [ft,show nd (.r2 4 (tt 6) (tt 5)) = 287 by rfl]
 have kK:nc (wiK m) = 0:=by
  unfold wiK;rw [hZ];rfl
 have kL:nc wiL = 0:=rfl;have hL:ht wiL = 2:=rfl;have nL:nd wiL = 3:=rfl;have fK:∀ S,dT S (wiK m) = dT (S++[14,15]) (.r2 4 (tt 6) (tt 5)):=λS=>nv 12 _ m S;have eh:=eS 1 (.ct wiL (wiK m)) b;have el:=ft 1 (.ct wiL (wiK m)) b;have ec:=hZ 1 (.ct wiL (wiK m)) b;simp only [ht,hK,hL] at eh;simp only [nd,nK,nL] at el;simp only [nc,kK,kL] at ec
 have wf:∀ N,190<=N->PP.run Gs gls N 13 [bW row,eT W (wiT b m)] = some (.bl true):=λN hN=>by
  rw [jO hW (wiT b m) N _ row (by show ht (rep 1 b _)+8<=N;lia) (by show ht (rep 1 b _)<=_;lia) o h];unfold wiT;rw [rX];unfold dT;rw [c6,fK,c4];rfl
 have s1:St W (bW row) (wiT b m) (rep 1 b (.r2 2 (.ct .cl (wiK m)) (.ct .cl (wiK m)))):=λN hN=>by
  obtain ⟨M,rfl⟩:∃ m,N = m+b:=⟨N - b,∅⟩;exact mR hW h oL oK ⇑0 kL kK ∅ (by simp only [ht,hK,hL];lia) (by simp only [nd,nK,nL];lia) c1 c2 (.inr rfl) (by rw [fK,c3];rfl)
 have bg:big (rep 1 b (.r2 2 (.ct .cl (wiK m)) (.ct .cl (wiK m)))) = decide (21 < 2 * (m+1)+b):=by
  unfold big;rw [ft,eS];simp only [nd,ht,nK,hK];rw [decide_eq_false (show ¬ 40 < _ by lia),Bool.or_false];exact decide_eq_decide.mpr ∅
 have hu1:ht (rep 1 b (.r2 2 (.ct .cl (wiK m)) (.ct .cl (wiK m))))<=90:=by rw [eS];simp only [ht,hK];lia
 have nu1:nd (rep 1 b (.r2 2 (.ct .cl (wiK m)) (.ct .cl (wiK m))))<=10000:=by rw [ft];simp only [nd,nK];lia
 have hh:ht (wiT b m)<=90:=by show ht (rep 1 b _)<=_;lia
 have hl:nd (wiT b m)<=10000:=by show nd (rep 1 b _)<=_;lia
 have hc:nc (wiT b m)≠0:=by show nc (rep 1 b _)≠0;lia
 have oC:okT [2,12,4,1] (.ct .cl (wiK m)):=⟨trivial,oK⟩;have up:∀ {t:T},okT [2,12,4,1] t->okT (Sb [2,12,4,1] b) t:=λo=>o.sub λx hx=>gC b x hx;have up5:∀ {t:T},okT [2,12,4,1] t->okT (Sb [2,12,4,1] b++[5]) t:=λo=>o.sub λx hx=>aF _ (gC b x hx)
 -- the step at one of the two cuts
 have one:∀ M row',180<=M->Row W (Sb [2,12,4,1] b) row'->PP.run Gs gls M 24 [bW (mW W row' [5]),eT W (.ct .cl (wiK m))] = some (eT W (wiK m)):=λM row' hM h' =>
  mR hW (n:=0) (M:=M) (a:=.cl) (h'.more (b:=[5]) ⇑0) trivial (up5 oK) (aF _ (gC b 1 ⇑0)) rfl kK ∅ (by simp only [ht,hK];lia) (by simp only [nd,nK];lia) c5 c5 (.inl ((fK _).trans c4)) (by show (if dT (Sb [2,12,4,1] b++[5]) (wiK m) = true then _ else _) = _;rw [fK,c4];rfl)
 unfold DA;refine PC (λz=>BL hh hl hc wf hw s1 hu1 nu1 (bg.trans z)) λz=>?_;have hs:¬ 21 < 2 * (m+1)+b:=λe=>z (decide_eq_true e);refine yF hh hl hc wf hw (l:=[rep 1 b (.r2 2 (wiK m) (.ct .cl (wiK m))),rep 1 b (.r2 2 (wiK m) (wiK m))]) (.cons hc s1 (bg.trans (decide_eq_false hs)) hu1 nu1 (.cons (by rw [hZ];simp [nc]) (λN hN=>?_) ?_ (by rw [eS];simp only [ht,hK];lia) (by rw [ft];simp only [nd,nK];lia) (.cons (by rw [hZ];simp [nc]) (λN hN=>?_) ?_ (by rw [eS];simp only [ht,hK];lia) (by rw [ft];simp only [nd,nK];lia) (.nil (by rw [hZ];simp only [nc,kK]))))) (show 2 < 50 by decide)
 . obtain ⟨M,rfl⟩:∃ m,N = m+1+b:=⟨N - 1 - b,∅⟩;refine kG b [2,12,4,1] row (jm ⇑0 ⇑0 (show okT [2,12,4,1] (.r2 2 (.ct _ _) (.ct _ _)) from ⟨⇑0,⇑0,oC,oC⟩) b) h (by simp [nc]) (by simp only [ht,hK];lia) (by simp only [ht,hK];lia) (by simp only [nd,nK];lia) λrow' h'=>?_;exact s_0 (t:=.r2 2 (.ct .cl (wiK m)) (.ct .cl (wiK m))) (S:=Sb [2,12,4,1] b) (b:=[5]) (bs:=[[5]]) (post:=[.ct .cl (wiK m)]) (by simp only [ht,hK];lia) (by simp only [ht,hK];lia) (by simp only [nd,nK];lia) rfl ⟨⇑0,gC b 2 ⇑0,up oC,up oC⟩ h' rfl rfl (by simp [nc]) (one M row' ∅ h')
 . unfold big;rw [ft,eS];simp only [nd,ht,nK,hK];rw [decide_eq_false (show ¬ _ by lia),decide_eq_false (show ¬ _ by lia)];rfl
 . obtain ⟨M,rfl⟩:∃ m,N = m+1+b:=⟨N - 1 - b,∅⟩;refine kG b [2,12,4,1] row (jm ⇑0 ⇑0 (show okT [2,12,4,1] (.r2 2 _ (.ct _ _)) from ⟨⇑0,⇑0,oK,oC⟩) b) h (by simp [nc]) (by simp only [ht,hK];lia) (by simp only [ht,hK];lia) (by simp only [nd,nK];lia) λrow' h'=>?_;exact s_1 (t:=.r2 2 (wiK m) (.ct .cl (wiK m))) (S:=Sb [2,12,4,1] b) (b:=[5]) (c:=[5]) (p:=wiK m) (k:=.ct .cl (wiK m)) (by simp only [ht,hK];lia) (by simp only [ht,hK];lia) (by simp only [nd,nK];lia) rfl ⟨⇑0,gC b 2 ⇑0,up oK,up oC⟩ h' rfl rfl kK (by simp [nc]) (one M row' ∅ h')
 . unfold big;rw [ft,eS];simp only [nd,ht,nK,hK];rw [decide_eq_false (show ¬ _ by lia),decide_eq_false (show ¬ _ by lia)];rfl
end
def mn (n:Nat) (ns:List Int) (k:Int) (h0:0<=k) (h1:k<=1000):jw Gs gls (n+1) 30 [.lst (ns.map .int),.int k] λd=>∃ c:Int,d = .int c:=by
 refine bh ji rfl rfl rfl ?_;simp only [ji,init,SI,Nat.reduceAdd,Nat.reduceSub];simp only [↓WS,WI,↓reduceIte];have hl:(ns.map D.int).length = ns.length:=av _;rw [hl];split
 . rename_i h;obtain ⟨d,hm,e⟩:=Lj (ds:=ns.map D.int) h0 (by rw [hl];exact h);obtain ⟨c,_,rfl⟩:=aW.mp hm;exact ⟨_,e,c,rfl⟩
 . refine ⟨mul_r ⇑0 ⇑0,?_⟩;split
   . rename_i h;obtain ⟨d,hm,e⟩:=Lj (ds:=ns.map D.int) (j:=k * 7 % (ns.length:Int)) (bZ _ ∅) (by rw [hl];exact bL _ h);obtain ⟨c,_,rfl⟩:=aW.mp hm;refine ⟨mul_r ⇑0 ⇑0,h,_,e,?_⟩;simp only [↓WS,WI,↓reduceIte];have a1:=bZ (c * 48271) (show (2147483647:Int)≠0 by decide);have a2:=bL (c * 48271) (show (0:Int) < 2147483647 by decide);exact ⟨mul_r ⇑0 ⇑0,⇑0,mul_r ⇑0 ⇑0,mul_r ∅ ∅,⇑0,_,rfl⟩
   . exact ⟨mul_r ∅ ∅,⇑0,_,rfl⟩
def ltr (k:Nat):Nat:=("bdghjk":Str).cps.toList.getD k 0
def txt (c:Int) (f:Str) (k:Nat):Str:=(xF f (c / 8 % (1+c % 8)).toNat++⟨#[ltr k]⟩)++xF f (1+c % 8 - 1 - c / 8 % (1+c % 8)).toNat
def JK:∀ i,i < 6->∀ j,j < 6->ltr i = ltr j->i = j:=by decide
def Kh (x y:Str):(x++y).cps.toList = x.cps.toList++y.cps.toList:=by
 show (x.cps++y.cps).toList = _;rw [Array.toList_append]
def Ip {c:Int} {f:Str} {i j:Nat} (hi:i < 6) (hj:j < 6) (h:txt c f i = txt c f j):i = j:=by
 have e:=congrArg (λs:Str=>s.cps.toList) h;unfold txt at e;simp only [Kh,fA] at e;have e2:=List.append_cancel_left e;have e3:ltr i::_ = ltr j::_:=e2;injection e3 with e4;exact JK i hi j hj e4
def vk (x:Str) (n:Nat):(xF x n).length = n * x.length:=by
 show ((bc n x.cps.toList).flatten.toArray).size = n * x.cps.size;simp
def Kn (x y:Str):(x++y).length = x.length+y.length:=by
 show (x.cps++y.cps).size = _;rw [Array.size_append];rfl
def vm (n:Nat) (c:Int) (f:Str) (hf:f.length = 1) {k:Nat} (h1:k < 6):jw Gs gls (n+1) 31 [.int c,.str f,.int k] λd=>d = .str (txt c f k):=by
 refine bh jf rfl rfl rfl ?_;simp only [jf,init,SI,Nat.reduceAdd,Nat.reduceSub];have a1:=bZ c (show (8:Int)≠0 by decide);have a2:=bL c (show (0:Int) < 8 by decide);have b1:=bZ (c / 8) (show 1+c % 8≠0 by lia);have b2:=bL (c / 8) (show 0 < 1+c % 8 by lia);simp only [↓WS,WI,↓reduceIte]
 have ex:L2.atI (("bdghjk":Str).cps.toList) (k:Int) = some (ltr k):=by
  refine L2.atI_nat ?_;unfold ltr;rw [dK,aA (show k < ("bdghjk":Str).cps.toList.length from h1)];rfl
 have ss:=s64;refine ⟨⇑0,⇑0,∅,⟨∅,∅,∅⟩,⇑0,_,ex,?_,⟨∅,∅,∅⟩,?_,rfl⟩
 . rw [vk,hf];show _+1<=_;lia
 . rw [Kn,vk,vk,hf];show _+1+_<=_;lia
def MB (n:Nat) (c f:Int) (x y:Str):jw Gs gls (n+2) 32 [.int c,.int f,.lst [.str x,.str y]] λd=>∃ (w:Str) (ts:List Str),d = enc (.word w ts):=by
 refine bh jg rfl rfl rfl ?_;simp only [jg,init,SI,Nat.reduceAdd,Nat.reduceSub];have a1:=bZ (c / 5) (show (4:Int)≠0 by decide);have a2:=bL (c / 5) (show (0:Int) < 4 by decide);simp only [aI,bR,↓WS,WI,↓reduceIte];refine ⟨⇑0,⇑0,⇑0,⟨∅,∅⟩,?_⟩;refine wQ (λxs δ=>∃ (ts:List Str) (s:Sl),δ = [.val (.int c),.val (.int f),.val (.lst [.str x,.str y]),.own (ts.map .str),s]/\ts.length+xs.length<=10/\∀ z∈xs,∃ i:Nat,i < 10/\z = .int i) ?_ ?_ _ _ ⟨[],_,rfl,by rw [AM];simp only [bR];lia,λz hz=>?_⟩
 . rintro z xs δ ⟨ts,s,rfl,hl,hz⟩;obtain ⟨i,hi,rfl⟩:=hz z au;rw [aI] at hl;have ss:=s64;simp only [aI,bR,↓WS,WI,↓reduceIte];have e1:=bZ (c / (7+4 * (i:Int))) (show (2:Int)≠0 by decide);have e2:=bL (c / (7+4 * (i:Int))) (show (0:Int) < 2 by decide)
   have at2:∃ t:Str,atI [D.str x,D.str y] (c / (7+4 * (i:Int)) % 2) = some (.str t):=by
    rcases (show c / (7+4 * (i:Int)) % 2 = 0\/c / (7+4 * (i:Int)) % 2 = 1 by lia) with e | e
    . exact ⟨x,by rw [e];kernel_rfl⟩
    . exact ⟨y,by rw [e];kernel_rfl⟩
   obtain ⟨t,et⟩:=at2;exact ⟨mul_r ∅ ∅,⟨∅,∅⟩,⇑0,_,et,by rw [av];lia,ts++[t],_,by rw [cw];rfl,by rw [ay,dO];lia,λz q=>hz z (ar _ q)⟩
 . rintro δ ⟨ts,s,rfl,_,_⟩;simp only [aI,bR,↓WS,WI,↓reduceIte];have e1:=bZ c (show (3:Int)≠0 by decide);have e2:=bL c (show (0:Int) < 3 by decide);have w:=vm n f "q" ⇑0 (k:=(c % 3).toNat) ∅;rw [show (((c % 3).toNat:Nat):Int) = c % 3 by lia] at w;refine ⟨⇑0,tK w ?_⟩;rintro _ rfl;exact ⟨⇑0,_,ts,rfl⟩
 . obtain ⟨i,hi,rfl⟩:=IX hz;exact ⟨i,∅,↥0⟩
def Ik {cx:Cl} {δ:PP.Loc} {a:E} {Q:D->PP.Loc->Prop}:wE cx (.ssd a) δ Q↔wE cx a δ λx δ1=>∃ ds,x = .lst ds/\(ds.all hok && sortable (ku ds) && tot (ku ds)) = true/\Q (.lst (fN (ku ds))) δ1:=xb.trans (xc λx _=>by
 cases x with
 | lst k=>refine Iff.trans ?_ yh.symm;exact xi
 | _=>exact xn λ⟨_,e,_⟩=>by cases e)
def Mx (l:List It):Prop:=∀ p∈l,hF p.2<=3/\sz p.2<=61
def Mx.low {l:List It} (h:Mx l):low l:=λp hp=>(h p hp).2
def Bh {l:List It}:∀ {xs:List D},(∀ x∈xs,x∈l.map itD)->∃ l':List It,xs = l'.map itD/\∀ p∈l',p∈l
 | [],_=>⟨[],rfl,λ_ h=>by cases h⟩
 | x::xs,h=>by
   obtain ⟨p,hp,rfl⟩:=aW.mp (h x au);obtain ⟨l',rfl,h'⟩:=Bh (xs:=xs) λy hy=>h y (ar _ hy)
   exact ⟨p::l',rfl,λq hq=>by
    rcases aB.mp hq with rfl | hq
    . exact hp
    . exact h' q hq⟩
def JS {p q:It} (h:itD p = itD q) (hq:sz q.2<=61):p = q:=BE (by rw [h];exact eq_self q hq)
def Pd (n:Nat) (l:List It) (h:Mx l) (hl:l.length<=60):jw Gs gls (n+1) 34 [.lst (l.map itD)] λd=>∃ ones:List It,d = .tup (ones.map itD)/\(∀ p,p∈ones↔p∈l)/\ones.Nodup:=by
 have ss:=s64
 have hbs:∀ x∈l.map itD,hb x = true:=λx hx=>by
  obtain ⟨p,_,rfl⟩:=aW.mp hx;exact lX p
 have lo:=h.low
 have nl:(ku (l.map itD)).length<=l.length:=by
  have:=mQ (ns:=l.map itD) (mD hbs) λx hx=>(kT hbs).mp hx
  rwa [av] at this
 have hs:sortable (ku (l.map itD)) = true:=by
  refine sT (n:=60) ⇑0 hbs (λk nd hk=>?_) (λx hx=>?_) λx hx y hy=>?_
  . have:=mQ (ns:=l.map itD) nd hk;rw [av] at this
    lia
  . obtain ⟨p,_,rfl⟩:=aW.mp hx;rfl
  . obtain ⟨p,hp,rfl⟩:=aW.mp hx;obtain ⟨q,hq,rfl⟩:=aW.mp hy;have:=gz p (lo p hp);have:=gz q (lo q hq);unfold lN;rw [if_pos ∅];exact kO (lts λ_=>ltc (rJ _ _) (ltn _))
 have ht:tot (ku (l.map itD)) = true:=LW hs λd hd=>hbs d ((kT hbs).mp hd)
 have hk:(l.map itD).all hok = true:=by
  rw [bq];intro x hx;obtain ⟨p,hp,rfl⟩:=aW.mp hx;have:=nA p.2;have:=(h p hp).1;have e:cI [enc p.2] = max (dep (enc p.2)) 0:=by unfold cI cI;rfl
  show (hbL [enc p.2] && decide (cI [enc p.2]<=7)) = true;rw [aa,decide_eq_true_eq,e];exact ⟨by simp only [hbL,vN,fo],∅⟩
 obtain ⟨l',e1,h1⟩:=Bh (l:=l) (xs:=ku (l.map itD)) λx hx=>(kT hbs).mp hx;obtain ⟨ys,e2,pm⟩:=lA itD l';refine bh jZ rfl rfl rfl ?_;simp only [jZ,init,SI,Nat.reduceAdd,Nat.reduceSub];simp only [↓Ik,↓WS,WI,↓reduceIte,hk,hs,ht,fo,true_and];refine ⟨ys,by rw [e1,e2],λp=>⟨λhp=>h1 p (pm.mem_iff.mp hp),λhp=>pm.mem_iff.mpr ?_⟩,?_⟩
 . have:itD p∈ku (l.map itD):=(kT hbs).mpr (dE hp);rw [e1] at this;obtain ⟨q,hq,e⟩:=aW.mp this;rw [<- JS e (lo p hp)];exact hq
 . have:=mD hbs;rw [e1] at this;exact pm.nodup_iff.mpr ((gI.mp this).imp λh e=>h (congrArg itD e))
section
variable {W:Ws}
def xD (c:Nat) (t:T):∀ n,rep c (n+1) t = rep c n (.r1 c t)
 | 0=>rfl
 | n+1=>by show T.r1 c (rep c (n+1) t) = _;rw [xD c t n];rfl
def xE (c:Nat) (A:D) (n:Nat):∀ (xs:List D) (j:Nat) (t:T) (s:Sl) (cx:Cl),kq cx (.nm 4) (sS eQ.body) xs [.val (.str (sd (it W c).1)),.val (enc (it W c).2),.val A,.val (eT W t),s] λo=>∃ s',o = .nx [.val (.str (sd (it W c).1)),.val (enc (it W c).2),.val A,.val (eT W (rep c xs.length t)),s']
 | [],j,t,s,cx=>by rw [jx];exact ⟨s,rfl⟩
 | x::xs,j,t,s,cx=>by
   rw [iB];refine ⟨[.val (.str (sd (it W c).1)),.val (enc (it W c).2),.val A,.val (eT W t),.val x],rfl,?_⟩;refine ⟨.nx [.val (.str (sd (it W c).1)),.val (enc (it W c).2),.val A,.val (eT W (.r1 c t)),.val x],⋯,?_⟩;have ih:=xE c A n xs j (.r1 c t) (.val x) cx;rw [aI,xD];exact ih
def xG (n c k:Nat) (t:T) (hk:k<=1000):PP.run Gs gls (n+1) 36 [.str (sd (it W c).1),enc (it W c).2,.int k,eT W t] = some (eT W (rep c k t)):=by
 apply bB;refine bh eQ rfl rfl rfl ?_;simp only [eQ,init,SI,Nat.reduceAdd,Nat.reduceSub];refine pO _ (vS (e:=.var 2) (j:=(k:Int)) ⋯ ∅ ∅) ?_;obtain ⟨o,eo,s,rfl⟩:=xE (W:=W) c (.int k) n (qN 0 (k:Int).toNat) 0 t .no ⟨PP.run Gs gls n,gls,hfs Gs⟩;rw [AM] at eo;refine ⟨_,eo,iG.mpr (gw (d:=eT W (rep c (k:Int).toNat t)) ⋯ ?_)⟩;rw [jK]
def wsD (W:Ws):D:=.lst [enc (wd W 0),enc (wd W 1),enc (wd W 2),enc (wd W 3)]
def MC (ns:List Int) (b:Nat) (hb:b < 4):jw Gs gls 199 37 [.lst (ns.map .int),wsD W,.int b] λd=>∃ p q e:Nat,p+1+b<=38/\q+1+b = 36+e/\e < 3/\d = .tup [.lst (([0,12,1].map (it W)).map itD),eT W (hiT b p q),.bl (decide (e = 2))]:=by
 refine bh jh rfl rfl rfl ?_;simp only [jh,init,SI,Nat.reduceAdd,Nat.reduceSub];refine gv 3 [.val (.lst (ns.map .int)),.val (wsD W),.val (.int b),.val (enc (it W 0).2),.val (enc (it W 12).2),.val (enc (it W 1).2),.no,.no,.no,.no,.no] ⋯ ?_;obtain ⟨_,e1,c1,rfl⟩:=mn 197 ns 3 ⇑0 ⇑0;have a1:=bZ c1 (show (38:Int) - b≠0 by lia);have a2:=bL c1 (show (0:Int) < 38 - b by lia);obtain ⟨p,hp⟩:∃ p:Nat,1+c1 % (38 - (b:Int)) = ((p+1:Nat):Int):=⟨(c1 % (38 - (b:Int))).toNat,∅⟩;refine lz (.int ((p+1:Nat):Int)) (en (x:=.int 1) (y:=.int (c1 % (38 - (b:Int)))) ⋯ (en (x:=.int c1) (y:=.int (38 - (b:Int))) (bI [.lst (ns.map .int),.int 3] ⋯ e1) ⋯ (if_pos ∅)) (by show some (D.int (1+c1 % (38 - (b:Int)))) = _;rw [hp])) ⟨_,rfl,?_⟩;obtain ⟨_,e2,c2,rfl⟩:=mn 197 ns 4 ⇑0 ⇑0;have d1:=bZ c2 (show (3:Int)≠0 by decide);have d2:=bL c2 (show (0:Int) < 3 by decide);obtain ⟨e,he⟩:∃ e:Nat,c2 % 3 = (e:Int):=⟨(c2 % 3).toNat,∅⟩;obtain ⟨q,hq⟩:∃ q:Nat,q+1+b = 36+e:=⟨36+e - b - 1,∅⟩;refine lz (.int ((q+1:Nat):Int)) (en (x:=.int (36 - (b:Int))) (y:=.int (c2 % 3)) ⋯ (en (x:=.int c2) (y:=.int 3) (bI [.lst (ns.map .int),.int 4] ⋯ e2) ⋯ rfl) (by show some (D.int (36 - (b:Int)+c2 % 3)) = _;congr 2;lia)) ⟨_,rfl,?_⟩;refine dP [.str (sd (it W 0).1),enc (it W 0).2,.int ((p+1:Nat):Int),eT W .cl] ⋯ ((dv (xG 197 0 (p+1) .cl ∅)).mpr ⟨_,rfl,?_⟩);refine dP [.str (sd (it W 12).1),enc (it W 12).2,.int ((q+1:Nat):Int),eT W .cl] ⋯ ((dv (xG 197 12 (q+1) .cl ∅)).mpr ⟨_,rfl,?_⟩);refine dP [.str (sd (it W 1).1),enc (it W 1).2,.int b,eT W (.ct (rep 0 (p+1) .cl) (rep 12 (q+1) .cl))] ⋯ ((dv (xG 197 1 b _ ∅)).mpr ⟨_,rfl,?_⟩);refine gw (d:=.tup [.lst (([0,12,1].map (it W)).map itD),eT W (hiT b p q),.bl ((((q+1:Nat):Int)+(b:Int)) == 38)]) ⋯ ⟨p,q,e,∅,hq,∅,?_⟩;rw [show (((q+1:Nat):Int)+(b:Int) == 38) = decide (e = 2) from by rw [cV,beq_iff_eq,decide_eq_true_eq];lia];rfl
def wq (W:Ws):Nat->D
 | 0=>eT W (tt 0)
 | k+1=>rlD W 4 [wq W k,wq W k]
def DS (W:Ws):∀ k,wq W k = eT W (tt k)
 | 0=>rfl
 | k+1=>by unfold wq;rw [DS W k];rfl
def wst (W:Ws) (S:D) (b:Nat) (l:List D) (s:Sl):PP.Loc:=[.val S,.val (wsD W),.val (.int b),.val (enc (it W 1).2),.val (enc (it W 2).2),.val (enc (it W 12).2),.val (enc (it W 4).2),.own l,s,.no,.no,.no,.no,.no]
def iz (S:D) (b:Nat) (l:List D) (x d:D) (s:Sl) (xs:List D) (cx:Cl) {Q:Out->Prop} (hl:l.length < 10) (h:kq cx (.nm 8) (sS (gc 5 fv.body)) xs (wst W S b ((l++[x])++[rlD W 4 [x,x]]) (.val d)) Q):kq cx (.nm 8) (sS (gc 5 fv.body)) (d::xs) (wst W S b (l++[x]) s) Q:=by
 rw [iB];refine ⟨wst W S b (l++[x]) (.val d),rfl,qz (ds:=l++[x]) (rlD W 4 [x,x]) ?_ rfl ?_ ⟨.nx _,rfl,h⟩⟩
 . have e:evE cx (.ix (.pk 7) (.neg (.int 1))) (wst W S b (l++[x]) (.val d)) = some (x,wst W S b (l++[x]) (.val d)):=kR (x:=.lst (l++[x])) (y:=.int (-1)) ⋯ ⋯ vI;exact qe (ds:=[.str "rule",.str (sd (it W 4).1),enc (it W 4).2,.str "",.tup [x,x]]) (aV ⋯ (aV ⋯ (aV ⋯ (aV ⋯ (aV (qe (ds:=[x,x]) (aV e (aV e rfl)) (show 2<=sizeLine by decide)) rfl))))) (show 5<=sizeLine by decide)
 . have ss:=s64;rw [ay,dO];lia
def BZ (S:D) (b:Nat) (cx:Cl) {Q:Out->Prop} (h:∀ s,Q (.nx (wst W S b [wq W 0,wq W 1,wq W 2,wq W 3,wq W 4,wq W 5,wq W 6] s))):kq cx (.nm 8) (sS (gc 5 fv.body)) (qN 0 6) (wst W S b [wq W 0] .no) Q :=
 iz S b [] _ _ _ _ cx ⇑0 (iz S b [wq W 0] (wq W 1) _ _ _ cx (show 1 < 10 by decide) (iz S b [wq W 0,wq W 1] (wq W 2) _ _ _ cx (show 2 < 10 by decide) (iz S b [wq W 0,wq W 1,wq W 2] (wq W 3) _ _ _ cx (show 3 < 10 by decide) (iz S b [wq W 0,wq W 1,wq W 2,wq W 3] (wq W 4) _ _ _ cx (show 4 < 10 by decide) (iz S b [wq W 0,wq W 1,wq W 2,wq W 3,wq W 4] (wq W 5) _ _ _ cx (show 5 < 10 by decide) (jx.mpr (h _)))))))
def Mz (ns:List Int) (b:Nat) (hb:b < 4):jw Gs gls 199 38 [.lst (ns.map .int),wsD W,.int b] λd=>∃ m:Nat,m<=11/\d = .tup [.lst (([2,12,4,1].map (it W)).map itD),eT W (wiT b m),.bl (decide (21 < 2 * (m+1)+b))]:=by
 refine bh fv rfl rfl rfl ?_;simp only [fv,init,SI,Nat.reduceAdd,Nat.reduceSub];refine gv 5 (wst W (.lst (ns.map .int)) b [wq W 0] .no) ⋯ (pO _ (vS (e:=.int 6) (j:=6) ⋯ ⇑0 ⇑0) (BZ _ b _ λs=>iG.mpr ?_));obtain ⟨_,e1,c1,rfl⟩:=mn 197 ns 3 ⇑0 ⇑0;have d1:=bZ c1 (show (5:Int)≠0 by decide);have d2:=bL c1 (show (0:Int) < 5 by decide);obtain ⟨m,hm⟩:∃ m:Nat,8+c1 % 5 = ((m+1:Nat):Int):=⟨(7+c1 % 5).toNat,∅⟩;refine lz (.int ((m+1:Nat):Int)) (en (x:=.int 8) (y:=.int (c1 % 5)) ⋯ (en (x:=.int c1) (y:=.int 5) (bI [.lst (ns.map .int),.int 3] ⋯ e1) ⋯ rfl) (by show some (D.int (8+c1 % 5)) = _;rw [hm])) ⟨_,rfl,?_⟩;have e6:eT W (.r2 4 (tt 6) (tt 5)) = rlD W 4 [wq W 6,wq W 5]:=by rw [DS,DS];rfl
 have w6:=xG (W:=W) 197 12 (m+1) (.r2 4 (tt 6) (tt 5)) ∅;rw [e6] at w6;refine dP [.str (sd (it W 12).1),enc (it W 12).2,.int ((m+1:Nat):Int),rlD W 4 [wq W 6,wq W 5]] ⋯ ((dv w6).mpr ⟨_,rfl,?_⟩);refine gv 2 [.val (.lst (ns.map .int)),.val (wsD W),.val (.int b),.val (enc (it W 1).2),.val (enc (it W 2).2),.val (enc (it W 12).2),.val (enc (it W 4).2),.own [wq W 0,wq W 1,wq W 2,wq W 3,wq W 4,wq W 5,wq W 6],s,.val (.int ((m+1:Nat):Int)),.val (eT W (wiK m)),.val (eT W wiL),.val (.lst (([2,12,4,1].map (it W)).map itD)),.no] ⋯ ?_;refine dP [.str (sd (it W 1).1),enc (it W 1).2,.int b,eT W (.ct wiL (wiK m))] ⋯ ((dv (xG 197 1 b _ ∅)).mpr ⟨_,rfl,?_⟩)
 have e2:opD .mul (.int 2) (.int ((m+1:Nat):Int)) = some (.int (2 * ((m+1:Nat):Int))):=by
  show (if oZ 2 ((m+1:Nat):Int) = true then some (D.int (2 * ((m+1:Nat):Int))) else none) = _;exact if_pos (by unfold oZ;simp)
 refine dZ _ (qe (ds:=[.lst (([2,12,4,1].map (it W)).map itD),eT W (wiT b m),.bl (decide ((21:Int) < 2 * ((m+1:Nat):Int)+(b:Int)))]) (aV ⋯ (aV ⋯ (aV (qf (x:=.int (2 * ((m+1:Nat):Int)+(b:Int))) (y:=.int 21) (en (x:=.int (2 * ((m+1:Nat):Int))) (y:=.int b) (en (x:=.int 2) (y:=.int ((m+1:Nat):Int)) ⋯ ⋯ e2) ⋯ rfl) ⋯ rfl) rfl))) (by show 3<=sizeLine;decide)) ⟨m,∅,?_⟩;rw [show decide ((21:Int) < 2 * ((m+1:Nat):Int)+(b:Int)) = decide (21 < 2 * (m+1)+b) from decide_eq_decide.mpr ∅];rfl
end
def Rh (W:Ws) (l:List Nat) (hl:∀ c∈l,c < 18) (h60:l.length<=60) (n:Nat):jw Gs gls (n+1) 34 [.lst ((l.map (it W)).map itD)] λd=>∃ row,d = bW row/\Row W l row:=by
 refine tK (Pd n (l.map (it W)) (λp hp=>?_) (by rw [av];exact h60)) ?_
 . obtain ⟨c,_,rfl⟩:=aW.mp hp;refine ⟨?_,(mB c).1⟩;unfold it;split
   . have:=(pP (W:=W) c).1;show hF (stc W c)<=3;lia
   . have:=(pP (W:=W) (c - 9)).1;show hF (stc W (c - 9))<=3;lia
 . rintro _ ⟨row,rfl,h1,h2⟩;exact ⟨row,rfl,h1,h2,hl⟩
def st (S:D) (c:Int) (x y:Str) (l:List D) (s4 s5:Sl):PP.Loc:=[.val S,.val (.int c),.val (.lst [.str x,.str y]),.own l,s4,s5,.no,.no,.no,.no,.no,.no]
def ly (ns:List Int) (c:Int) (x y:Str) (l:List D) (s4 s5:Sl) (k:Nat) (xs:List D) (hk:k < 4) (hl:l.length < 10) {Q:Out->Prop} (h:∀ ts s5',kq ⟨PP.run Gs gls 199,gls,hfs Gs⟩ (.nm 4) (sS (gc 3 d_law.body)) xs (st (.lst (ns.map .int)) c x y (l++[enc (.word (txt (c / 4) "q" k) ts)]) (.val (.int k)) s5') Q):kq ⟨PP.run Gs gls 199,gls,hfs Gs⟩ (.nm 4) (sS (gc 3 d_law.body)) (.int k::xs) (st (.lst (ns.map .int)) c x y l s4 s5) Q:=by
 rw [iB];refine ⟨st (.lst (ns.map .int)) c x y l (.val (.int k)) s5,rfl,?_⟩;obtain ⟨_,e1,ck,rfl⟩:=mn 198 ns (5+(k:Int)) ∅ ∅;obtain ⟨_,e2,w,ts,rfl⟩:=MB 197 ck (c / 4) x y;obtain ⟨_,e3,rfl⟩:=vm 198 (c / 4) "q" ⇑0 (k:=k) ∅;have ss:=s64;refine dP [.int ck,.int (c / 4),.lst [.str x,.str y]] (aV (bI [.lst (ns.map .int),.int (5+(k:Int))] ⋯ e1) ⋯) ⟨_,e2,_,rfl,?_⟩;refine qz (ds:=l) (enc (.word (txt (c / 4) "q" k) ts)) (qe (ds:=[.str "word",.str (txt (c / 4) "q" k),.tup (ts.map .str)]) (aV ⋯ (aV (bI [.int (c / 4),.str "q",.int k] ⋯ e3) (aV (kR (x:=enc (.word w ts)) (y:=.int 2) ⋯ ⋯ rfl) rfl))) (show 3<=sizeLine by decide)) rfl ∅ ⟨.nx _,rfl,h ts _⟩
def Ke {cx:Cl} {δ:PP.Loc} {b:E} {a:E} {p q:Bool} (ha:evE cx a δ = some (.bl p,δ)) (hb:evE cx b δ = some (.bl q,δ)):evE cx (.and a b) δ = some (.bl (p && q),δ):=by
 simp only [evE,ha,ag,aL];cases p
 . rfl
 . exact hb
def Kd {cx:Cl} {δ:PP.Loc} {es:Es} {ds:List D} (h:eH cx es δ = some (ds,δ)) (hl:ds.length<=sizeLine):evE cx (.lst es) δ = some (.lst ds,δ):=by
 simp only [evE,h,ag,aL];rw [if_pos hl];rfl
def AA {W:Ws} (ns:List Int) (hW:okW W) (l:List Nat) (hl:∀ c∈l,c < 18) (h60:l.length<=60) (t:T) (g:Bool) (c:Int) (x y:Str) (s4 s5:Sl) (b:Int) (F:∀ row w,Row W l row->w < 3->DA W (bW row) t w g):wSs ⟨PP.run Gs gls 199,gls,hfs Gs⟩ (gc 6 d_law.body) [.val (.lst (ns.map .int)),.val (.int c),.val (.lst [.str x,.str y]),.val (wsD W),s4,s5,.val (.int b),.val (.lst ((l.map (it W)).map itD)),.val (eT W t),.val (.bl g),.no,.no] (retS λd=>d = .bl true):=by
 obtain ⟨_,e1,c1,rfl⟩:=mn 198 ns 1 ⇑0 ⇑0;have a1:=bZ c1 (show (3:Int)≠0 by decide);have a2:=bL c1 (show (0:Int) < 3 by decide);obtain ⟨w,hw⟩:∃ w:Nat,c1 % 3 = (w:Int):=⟨(c1 % 3).toNat,∅⟩;refine lz (.int w) (en (x:=.int c1) (y:=.int 3) (bI [.lst (ns.map .int),.int 1] ⋯ e1) ⋯ (by show some (D.int (c1 % 3)) = _;rw [hw])) ⟨_,rfl,?_⟩;obtain ⟨_,e2,row,rfl,hr⟩:=Rh W l hl h60 198;have hw3:w < 3:=by lia
 have f:=F row w hr hw3;unfold DA at f
 cases g with
 | true =>
   rw [if_pos rfl] at f;refine dP [.int w,bW row,eT W t] (aV ⋯ (aV (bI [.lst ((l.map (it W)).map itD)] ⋯ e2) (aV ⋯ rfl))) ⟨_,f,_,rfl,?_⟩
   exact gw (d:=.bl true) ⋯ rfl
 | false =>
   rw [if_neg ⇑0] at f;obtain ⟨d,f,g⟩:=f;refine dP [.int w,bW row,eT W t] (aV ⋯ (aV (bI [.lst ((l.map (it W)).map itD)] ⋯ e2) (aV ⋯ rfl))) ⟨_,f,_,rfl,?_⟩;refine dA false ⋯ (λz=>by cases z) λ_=>?_;rcases (show w = 0\/w = 1\/w = 2 by lia) with rfl | rfl | rfl
   . exact gw (d:=.bl true) ⋯ rfl
   . exact gw (d:=.bl true) ⋯ rfl
   . obtain ⟨v,rfl,hv,hh⟩:=g rfl;have m:=oj W v 199 ∅ ∅;rw [hv] at m;refine dZ _ (Ke (p:=true) (q:=true) ⋯ (Hb (p:=false) (q:=true) ⋯ (qf (x:=.int 0) (y:=.int 0) (bI [eT W v] ⋯ m) ⋯ rfl))) rfl
def main (ns:List Int) (hn:ns.length<=63):PP.run Gs gls 200 39 [.lst (ns.map .int)] = some (.bl true):=by
 apply bB;refine bh d_law rfl rfl rfl ?_;simp only [d_law,init,SI,Nat.reduceAdd,Nat.reduceSub];obtain ⟨_,e1,c,rfl⟩:=mn 198 ns 0 ⇑0 ⇑0;refine dP [.lst (ns.map .int),.int 0] ⋯ ⟨_,e1,_,rfl,?_⟩;obtain ⟨_,e2,rfl⟩:=vm 198 (c / 4) "z" ⇑0 (k:=0) ⇑0;obtain ⟨_,e3,rfl⟩:=vm 198 (c / 4) "z" ⇑0 (k:=1) ⇑0;generalize txt (c / 4) "z" 0 = x at e2;generalize txt (c / 4) "z" 1 = y at e3;refine lz (.lst [.str x,.str y]) (Kd (ds:=[.str x,.str y]) (aV (bI [.int (c / 4),.str "z",.int 0] ⋯ e2) (aV (bI [.int (c / 4),.str "z",.int 1] ⋯ e3) rfl)) (show 2<=sizeLine by decide)) ⟨_,rfl,?_⟩;refine gv 1 (st (.lst (ns.map .int)) c x y [] .no .no) ⋯ (pO _ (vS (e:=.int 4) (j:=4) ⋯ ⇑0 ⇑0) ?_);refine ly ns c x y [] _ _ 0 _ ⇑0 ⇑0 λt0 _=>ly ns c x y _ _ _ 1 _ ⇑0 (by show 1 < 10;decide) λt1 _=>ly ns c x y _ _ _ 2 _ ⇑0 (by show 2 < 10;decide) λt2 _=>ly ns c x y _ _ _ 3 _ ⇑0 (by show 3 < 10;decide) λt3 s5=>jx.mpr (iG.mpr ?_)
 obtain ⟨W,w0,w1,w2,w3,hW⟩:∃ W:Ws,wd W 0 = .word (txt (c / 4) "q" 0) t0/\wd W 1 = .word (txt (c / 4) "q" 1) t1/\wd W 2 = .word (txt (c / 4) "q" 2) t2/\wd W 3 = .word (txt (c / 4) "q" 3) t3/\okW W :=
  ⟨λk=>(txt (c / 4) "q" k,[t0,t1,t2,t3].getD k []),rfl,rfl,rfl,rfl,λi j hi hj e=>Ip ∅ ∅ e⟩
 rw [<- w0,<- w1,<- w2,<- w3];obtain ⟨_,e4,c2,rfl⟩:=mn 198 ns 2 ⇑0 ⇑0;have a1:=bZ (c2 / 4) (show (4:Int)≠0 by decide);have a2:=bL (c2 / 4) (show (0:Int) < 4 by decide);obtain ⟨b,hb⟩:∃ b:Nat,c2 / 4 % 4 = (b:Int):=⟨(c2 / 4 % 4).toNat,∅⟩;refine lz (.int b) (en (x:=.int (c2 / 4)) (y:=.int 4) (en (x:=.int c2) (y:=.int 4) (bI [.lst (ns.map .int),.int 2] ⋯ e4) ⋯ rfl) ⋯ (by show some (D.int (c2 / 4 % 4)) = _;rw [hb])) ⟨_,rfl,?_⟩;have hb4:b < 4:=by lia
 refine dA ((c2 % 2) == 0) (cN (x:=.int (c2 % 2)) (y:=.int 0) (en (x:=.int c2) (y:=.int 2) (bI [.lst (ns.map .int),.int 2] ⋯ e4) ⋯ rfl) ⋯ rfl) (λ_=>?_) λ_=>?_
 . obtain ⟨_,e5,p,q,d,h1,h2,h3,rfl⟩:=MC (W:=W) ns b hb4;refine qy [.lst (ns.map .int),wsD W,.int b] [.val (.lst (ns.map .int)),.val (.int c),.val (.lst [.str x,.str y]),.val (wsD W),.val (.int 3),s5,.val (.int b),.no,.no,.no,.no,.no] ⋯ ⟨_,e5,_,rfl,?_⟩;exact AA ns hW [0,12,1] ⇑0 ⇑0 (hiT b p q) _ c x y _ _ b λrow w hr hw=>De hW hr hb4 h1 h2 h3 hw
 . obtain ⟨_,e5,m,h1,rfl⟩:=Mz (W:=W) ns b hb4;refine qy [.lst (ns.map .int),wsD W,.int b] [.val (.lst (ns.map .int)),.val (.int c),.val (.lst [.str x,.str y]),.val (wsD W),.val (.int 3),s5,.val (.int b),.no,.no,.no,.no,.no] ⋯ ⟨_,e5,_,rfl,?_⟩;exact AA ns hW [2,12,4,1] ⇑0 ⇑0 (wiT b m) _ c x y _ _ b λrow w hr hw=>Cb hW hr hb4 h1 hw
def ls2 {α:Type} {l:List α} (h:l.length = 2):∃ a b,l = [a,b]:=PP.two_of (i:=()) (j:=()) h.symm
def ls3 {α:Type} {l:List α} (h:l.length = 3):∃ a b c,l = [a,b,c]:=by
 cases l with
 | nil=>cases h
 | cons a l =>
   obtain ⟨b,c,rfl⟩:=ls2 (mK h);exact ⟨a,b,c,rfl⟩
def dfl_20 {Q:Prop} {K:PySem.W.Frag} {h:bG} {mg:Str->Option af} {f T:aq} {od an oD:Option aq} {sl oS:Array (Option af)} {m:Nat} {oc kV dc pm cdv ct:af} (X:K.In h) (G:h.Ns mainGlobals mg) (a:PySem.W.nsIn K mainGlobals "fitted" = some (some (.ref f))) (l:K.lookup f = some ⟨oc,od,.func (PySem.W.fnOf "fitted" "fitted" (eA (top 51)) (cO (top 51)) (aS (top 51)) (.ref T) kV dc pm an cdv ct),sl⟩) (c:PySem.W.codeIn K cdv "fitted" = true) (k:PySem.W.keepIn K (.ref f) = true) (t:K.lookup T = some ⟨.type "tuple",oD,.seq #[.none] m,oS⟩) (q:(∃ st a fdd,Dn K mg (cfOf Gd) gns fP st a fdd/\Binds K fdd fP.ps [.none])->Q):Q:=by
 have F:=rR (st:=top 51) l c k;have o:okD fP (eA (top 51)) (aS (top 51)) = true:=by decide
 have ck:wg ⟨fP.ps++fP.loc,aS (top 51),cfOf Gd,gns⟩ fP.body (cO (top 51)) = true:=by decide
 exact q ⟨_,_,_,⟨F,PySem.W.mg_of X G a,rD o,.inl ck,λs us X hl=>by
  rw [bw] at hl |-;obtain ⟨u0,u1,u2,rfl⟩:=ls3 hl;exact PySem.BindsTo.of_defaults rfl (X _ _ t) rfl rfl rfl⟩,λs us X hl=>by
  have hl:us.length = 2:=mK ((ay (as:=us) (bs:=[cq])).symm.trans hl);obtain ⟨u0,u1,rfl⟩:=ls2 hl;exact PySem.BindsTo.of_defaults rfl (X _ _ t) rfl rfl rfl⟩
end P1
end
section
namespace PySem.W.Fast
def tw14750539560169039944:=0
def tw9192053719631854864:=0
def tw15954489057468996534:=0
def tw15251495283176173396:=0
def tw6336419166669622344:=0
def tw17493172078727200726:=0
def tw14837159366349602522:=0
def tw3132320819485361843:=0
def tw1455539631311875327:=0
def tw10402108087089341604:=0
def tw4316589437216015923:=0
def tw9770042303638601548:=0
def tw5713235335589314193:=0
def tw2831106252466915215:=0
def tw4100754488960788242:=0
def tw5154602069493428090:=0
def tw9050490704602556214:=0
def tw9717566422283159629:=0
def tw10483380711801068353:=0
def tw17817421214482826197:=0
def tw11558056852319618211:=0
def tw2406250908074528772:=0
def tw8108523543918708201:=0
def tw2160301376718140948:=0
def tw6641105108000078446:=0
def tw14351664353124714568:=0
def tw6652298096544146256:=0
def tw11918527143950814073:=0
def tw2134360369992604794:=0
def tw6232135311769287553:=0
def tw14414878337931062029:=0
def tw10850574720583819647:=0
def tw5575964175727887214:=0
def tw1786619522146488856:=0
def tw15751096575053620031:=0
def tw6086687947261869663:=0
def tw669999170387737739:=0
def tw18421053834698263850:=0
def tw9161746051277085204:=0
def tw16147419184952733940:=0
def tw6426960285189031807:=0
def tw10424558054030391714:=0
def tw665496656272550497:=0
def tw5756155229182241349:=0
def tw15135739170175542646:=0
def tw15959125518973213385:=0
def tw3152111412189730282:=0
def tw15618577974182377925:=0
def tw4322912439983360607:=0
def tw9203539861441160505:=0
def tw6088483008303728529:=0
def tw2736896456606915469:=0
def tw1589524809210366120:=0
def tw7047304072679858086:=0
def tw13196117267903673538:=0
def tw7996871299950413303:=0
def tw9904454782168376232:=0
def tw7734001930691227718:=0
def tw3812396335739281277:=0
def tw7939440932431745423:=0
def tw17934007239653709635:=0
def tw17912120913358439540:=0
def tw7309894738844963172:=0
def tw3831434725255879056:=0
def tw9642249229698633906:=0
def tw8648388861875962850:=0
def tw4362223252139385334:=0
def tw3305668108524507375:=0
def tw8416134931349128154:=0
def tw10475782948406144012:=0
def tw6140258820664062865:=0
def tw6873760199246869725:=0
def tw5708367245058920095:=0
def tw2352064343688709602:=0
def tw15284767930022787413:=0
def tw14103192468407556690:=0
def tw11312143536248412080:=0
def tw4916330090950101512:=0
def tw11263250578058002453:=0
def tw4001093031915855211:=0
def tw4672130371703774887:=0
def tw16027868535501094462:=0
def tw18134004299366927827:=0
def tw582672360988212914:=0
def tw17787878817067602888:=0
def tw7348280233140586312:=0
def tw557596635970307854:=0
def tw10814868425243194751:=0
def tw1862396942040289960:=0
def tw1986064105407660103:=0
def tw5204501214974303758:=0
def tw1904260719433470741:=0
def tw4084221860090309322:=0
def tw5072194357756124220:=0
def tw1647969833201917674:=0
def tw3521482723879095085:=0
def tw10263754352606969907:=0
def tw10470787025266975906:=0
def tw2311259302048546778:=0
def tw13853013534619386960:=0
def tw11839517244846117454:=0
def tw13955224562473109562:=0
def tw1763133260539498458:=0
def tw14465210835101039243:=0
def tw3640733247273658957:=0
def tw8407530827143864981:=0
def tw9825748061112836034:=0
def tw15736497937829791169:=0
def tw1123786577820024684:=0
def tw3025439741713551902:=0
def tw17786184779498458068:=0
def tw599846396037107480:=0
def tw2407955953260179912:=0
def tw9328048383832875663:=0
def tw6834416590298444133:=0
def tw11005517980765928458:=0
def tw14379514775325756965:=0
def tw7692777900319469148:=0
def tw12181637642861092428:=0
def tw7942483521908079252:=0
def tw15640014054646378928:=0
def tw2877201880427452982:=0
def tw6441621851339520024:=0
def tw6724974575919873528:=0
def tw10288874584970592370:=0
def tw2899805385523143582:=0
def tw17116785446751315639:=0
def tw17788190885264972372:=0
def tw7532185362713093932:=0
def tw3735274739994540977:=0
def tw17902843749524853719:=0
def tw303444148178654369:=0
def tw8900327323833204018:=0
def tw1433634372199278230:=0
def tw11917170093726600198:=0
def tw3574619661163363758:=0
def tw5779804793111146001:=0
def tw5735308755810333691:=0
def tw16608932014985293158:=0
def tw15788755349904793251:=0
def tw10450842956728599600:=0
def tw12669588191370122114:=0
def tw440514457826961828:=0
def tw5093458536857941177:=0
def tw839890085401075033:=0
def tw14144305909360155790:=0
def tw5523670340602138532:=0
def tw12135963101699654987:=0
def tw14136080377129671230:=0
def tw16323435323053575240:=0
def tw1501415443543386899:=0
def tw5482193409972339205:=0
def tw6845036202209355683:=0
def tw12431634546775651072:=0
def tw14146313328035844539:=0
def tw12641732430925131897:=0
def tw1527797489051232695:=0
def tw5236594939568444587:=0
def tw13690107426854874900:=0
def tw15978724859752136825:=0
def tw7263832263795479133:=0
def tw8265078941432373678:=0
def tw5527235280778183143:=0
def tw1996854896321949951:=0
def tw14644561486766033539:=0
def tw15962202949778175279:=0
def tw4067920061434415891:=0
def tw15041419791273164446:=0
def tw7832199667244957144:=0
def tw5670464900887174907:=0
def tw13733867893404810903:=0
def tw15524823212871185138:=0
def tw4020011907332018598:=0
def tw16199341216803755174:=0
def tw6103631477528443699:=0
def tw11090447462972427310:=0
def tw6218669966035692886:=0
def tw2723781009892748922:=0
def tw14317070263834502494:=0
def tw17224980288371796895:=0
def tw10615836608330049627:=0
def tw3486428230965964663:=0
def tw2252528229822483225:=0
def tw5040957019767189730:=0
def tw1095361209847005913:=0
def tw10122030237352293030:=0
def tw14248437603508441751:=0
def tw17567342631595008007:=0
def tw16227571369887373126:=0
def tw1918309142202012585:=0
def tw2243714662690587728:=0
def tw13343679562340196637:=0
def tw16512515472667133831:=0
def tw1699946904152160619:=0
def tw17208024151258960752:=0
def tw3187647633554539778:=0
def tw16355741689810271681:=0
def tw12552238998068071254:=0
def tw9212425284316831410:=0
def tw11660348104473836208:=0
def tw6253009411678986203:=0
def tw2926567216168134580:=0
def tw1770386809488793491:=0
def tw18042444523651812251:=0
def tw13417721404785017978:=0
def tw8283239294593245519:=0
def tw7522390286875435283:=0
def tw14335585654040629202:=0
def tw1419013128443720294:=0
def tw14254165787388576777:=0
def tw10311648668903979084:=0
def tw121511026629744127:=0
def tw6928197440895502710:=0
def tw6789126949503410471:=0
def tw15363195157169748739:=0
def tw10842898097421191751:=0
def tw8971994752841441922:=0
def tw5908805536462917311:=0
def tw8199819463059791073:=0
def tw11008015399598603114:=0
def tw10206290734526710206:=0
def tw15243694875643377743:=0
def tw2821363135453179431:=0
def tw6977339190363646457:=0
def tw790745593348532074:=0
def tw14841674730383697494:=0
def tw4523059188798019583:=0
def tw1729983541323377389:=0
def tw8516184130224579984:=0
def tw6789056377585800225:=0
def tw17668409583038398802:=0
def tw17738803890928940875:=0
def tw5490494100981368151:=0
def tw16853459829727223791:=0
def tw15144740595555765180:=0
def tw16453960987243574506:=0
def tw9437775376011365069:=0
def tw9928115065513596641:=0
def tw12672211078664069350:=0
def tw17963202851821243064:=0
def tw7057955178564022991:=0
def tw11420890327754436254:=0
def tw15953895249602285770:=0
def tw13284095191686196564:=0
def tw10409473128376030459:=0
def tw8257849720935480439:=0
def tw14888794353703159337:=0
def tw17918426813197530358:=0
def tw7185652218438030513:=0
def tw14469079468551911482:=0
def tw10518651547314259205:=0
def tw6776070237715091263:=0
def tw15215162291250777286:=0
def tw16027000545325933601:=0
def tw5729519531202605121:=0
def tw14518438344196432111:=0
def tw3090705693096320275:=0
def tw18247061913404868953:=0
def tw16869995384945833251:=0
def tw13855312229858571721:=0
def tw11099235493643841783:=0
def tw9625830789568371552:=0
def tw6256087506941836404:=0
def tw4927528677788279167:=0
def tw15084287618552274318:=0
def tw13728809783621305178:=0
def tw13071859970846851745:=0
def tw7821147688774964079:=0
def tw12865174916026596171:=0
def tw694381263178617048:=0
def tw400263671423981298:=0
def tw17882421600377159882:=0
def tw15956379514315800805:=0
def tw15610937569407199969:=0
def tw15737883240363130249:=0
def tw431840922477658651:=0
def tw3174555516080566513:=0
def tw1720814605347974010:=0
def tw2722186704658469422:=0
def tw13445372983996883908:=0
def tw12191461399343507150:=0
def tw10685917837231491923:=0
def tw18220895836495294195:=0
def tw4796891623397530346:=0
def tw5090415808198119293:=0
def tw13884993806959568622:=0
def tw12593996602720119161:=0
def tw3946427579957581802:=0
def tw1317121039764563623:=0
def tw9559774021779177024:=0
def tw12722628656885331414:=0
def tw9281683609475427476:=0
def tw10434883614867542833:=0
def tw9051234080159307143:=0
def tw8428318408243258136:=0
def tw11257875977683318953:=0
def tw10302167264597009725:=0
def tw2325090497854192938:=0
def tw3055093172721135423:=0
def tw5476990848256461137:=0
def tw5949320884956813664:=0
def tw9756750843831184627:=0
def tw413308611775799022:=0
def tw4783360875180936986:=0
def tw2448457274140185915:=0
def tw9409883415446852188:=0
def tw8941528996283400956:=0
def tw3657721746378223405:=0
def tw6401050812236370903:=0
def tw2691594594222610940:=0
def tw15089532745632960283:=0
def tw8091526380570863063:=0
def tw566496695657302291:=0
def tw7200765336564420536:=0
def tw7271541480905221259:=0
def tw14272020329363154175:=0
def tw3603347871873291132:=0
def tw4455397138797347707:=0
def tw15738021869627970003:=0
def tw2696208738716752342:=0
def tw5109881350204368603:=0
def tw8595380681767441752:=0
def tw10485382316301663191:=0
def tw11219914255111417849:=0
def tw12129465788459019648:=0
def tw7403452609238202381:=0
def tw1629002219115954631:=0
def tw2987171471908404878:=0
def tw1930345271826841325:=0
def tw16056998357035334052:=0
def tw9326128504043158054:=0
def tw12782654986960640548:=0
def tw12397714404563644559:=0
def tw3281648848993316489:=0
def tw17749815226954049424:=0
def tw15154234171363420374:=0
def tw8744066320132882705:=0
def tw10240202123452052798:=0
def tw425081188317256973:=0
def tw8376988101848983993:=0
def tw17101937843862528414:=0
def tw16386970347251908787:=0
def tw3809011129209829331:=0
def tw8378148735881487770:=0
def tw919001861078687744:=0
def tw15247736342588835257:=0
def tw11916596830174319266:=0
def tw11556983589820495929:=0
def tw716455917860837556:=0
def tw2960659002530253020:=0
def tw18433504163724767689:=0
def tw12469911370052031097:=0
def tw16147471116762508173:=0
def tw4806867882549604461:=0
def tw18242745020293562807:=0
def tw16937792348555719609:=0
def tw10704395948193248670:=0
def tw5805212307644483819:=0
def tw8847729533107619542:=0
def tw4749516676065073503:=0
def tw3511562416198884666:=0
def tw8323974916657631507:=0
def tw9553497326731856914:=0
def tw6863189890850930989:=0
def tw2596032850020477654:=0
def tw12155715953504204183:=0
def tw6023047027112455679:=0
def tw10859617772724384469:=0
def tw3120190832942700717:=0
def tw16816585513632941114:=0
def tw10967496299912343142:=0
def tw5811897244740242522:=0
def tw449837736970834655:=0
def tw11517265162727063534:=0
def tw171607315284058469:=0
def tw5896798727662468131:=0
def tw5370037345086201127:=0
def tw6102741531255345639:=0
def tw10996745007577200811:=0
def tw4428619862582890968:=0
def tw2221833793638325722:=0
def tw7123243257439335491:=0
def tw12481715397785594538:=0
def tw11252476815687745028:=0
def tw2760831932359879054:=0
def tw12586620374671470065:=0
def tw2543336578338559259:=0
def tw10445570598665294708:=0
def tw15967057179638433849:=0
def tw3674381076730569344:=0
def tw2676591213075566717:=0
def tw11644237478252820062:=0
def tw5225826376466513188:=0
def tw11406400577581488553:=0
def tw5718528220245601368:=0
def tw2366865104475183212:=0
def tw5611381919477622026:=0
def tw17373425584330472763:=0
def tw7463003536601199576:=0
def tw11991102806931242309:=0
def tw4822932454416956042:=0
def tw8315334822250630317:=0
def tw1428846786020727210:=0
def tw370628434652901428:=0
def tw12637584652819616313:=0
def tw3910937656716243403:=0
def tw9542039244524610887:=0
def tw6985396966967618009:=0
def tw261693959766522541:=0
def tw12844238897776017929:=0
def tw16003890245456789999:=0
def tw11758081494476620321:=0
def tw13302706930492015024:=0
def tw7279162716418454581:=0
def tw3014131901203016678:=0
def tw6684819686770567064:=0
def tw5151031259266009063:=0
def tw12492513919613798520:=0
def tw638105310456741100:=0
def tw16376977707005843004:=0
def tw14369780478782399339:=0
def tw5728259421184689823:=0
def tw5964188907450803539:=0
def tw7143624046750108382:=0
def tw6101148725645296542:=0
def tw14125939138054359805:=0
def tw4610949687264491689:=0
def tw17903839896876401641:=0
def tw13302987682376592139:=0
def tw12947752988667901687:=0
def tw10198887441254300454:=0
def tw10467156971022907515:=0
def tw3463308621785722014:=0
def tw16284983723250897653:=0
def tw4579735563188030367:=0
def tw11477660383202472733:=0
def tw3184666619161116007:=0
def tw17983624081475387097:=0
def tw4612280335814828246:=0
def tw11532298458023322224:=0
def tw14935022445283954618:=0
def tw952517997159685945:=0
def tw696311011429654790:=0
def tw9976962252467028948:=0
def tw1411176399433713108:=0
def tw2263969695356151768:=0
def tw14265858238409378690:=0
def tw17930316687385570120:=0
def tw9551286644304153284:=0
def tw14829739060917372657:=0
def tw14345152492177246798:=0
def tw17343517914424284204:=0
def tw15927287486220017065:=0
def tw16820598667057902301:=0
def tw1444333324024312572:=0
def tw8037965485452477380:=0
def tw17023531980672816641:=0
def tw16409045778203983501:=0
def tw15166357906957043759:=0
def tw17238852158583730039:=0
def tw5492097048553629044:=0
def tw11526878540770147496:=0
def tw12142459848274946124:=0
def tw4333677686844810582:=0
def tw4005223606375677437:=0
def tw9696062685241193056:=0
def tw1493741229839663284:=0
def tw9545589493854583971:=0
def tw8481343185811052281:=0
def tw10333092267202369123:=0
def tw2201698023945692926:=0
def tw17467757867047161875:=0
def tw446083089204162494:=0
def tw13882115841968008666:=0
def tw13483193114168347677:=0
def tw6673793958136497390:=0
def tw16270639727603215774:=0
def tw16283423662599772744:=0
def tw8026691082521530052:=0
def tw6964842616970777042:=0
def tw16934694711365267532:=0
def tw10630122981890542252:=0
def tw6346698523748253037:=0
def tw12997796320549615937:=0
def tw10298889259980247716:=0
def tw8588201204911775476:=0
def tw3907298978939881263:=0
def tw15014823726811097922:=0
def tw1495368574213345284:=0
def tw4588008690997038995:=0
def tw11550620879705487690:=0
def tw7480656302359938878:=0
end PySem.W.Fast
open PySem PySem.W PyProof.Rows
set_option maxRecDepth 100000 in
set_option maxHeartbeats 0 in
theorem PySem.Challenge.cw_cutless_k40_bounds_of_a_step_holds : PySem.Challenge.rw_cutless_k40_bounds_of_a_step.Holds := by
 w_on
 refine PySem.W.holds_law ⇑0 λsaid=>?_
 k_head;(case hw=>w_witness2)
 k_fill
 refine PP.walk_run (l:=PySem.Challenge.rw_cutless_k40_bounds_of_a_step) (G:=P1.Gs) (Gd:=P1.Gd) (gl:=P1.gls) (gn:=P1.gns) (i:=39) (fd:=P1.d_law) (x:="_law_script") P1.main rfl rfl rfl rfl (λw h Y=>⟨PySem.W.km_in_of Y,λt ht=>by cases ht⟩) rfl λw mg h KX G=>?_
 have mz:mg "ValueError" = none:=by
  refine PySem.W.mg_none_of KX G ?_
  k_is
 have hz:=PP.Clss.get KX G (l:=["CutlessError","NoCut","NoName","NoProof","NoRow","NoText","NotCleared","NotPlain","TooGreat"]) (by
  iterate 9 (apply PP.Clss.cons;k_is;kernel_rfl)
  exact .nil)
 have hu:=PP.Ups.get KX G (l:=P1.ups) (ps:=P1.pcs) (by
  iterate 1 (apply PP.Ups.cons;k_is;kernel_rfl;(iterate 9 (apply PP.Us.cons;k_is;kernel_rfl));exact .nil)
  exact .nil)
 apply PP.ask_mk (x:="_law_kind") (u:="_law_e") (v:="_law_some") (ps:=P1.pcs) (ql:=P1.ql__law_kind) (tp:=P1.top) (i:=77) KX G;k_is;k_is;k_is;k_is;decide;intro k__law_kind;apply PP.xd_mk (d:=P1.d_bounded_step) (x:="bounded_step") (rs:=P1.r_bounded_step) (cls:=["TooGreat"]) (cf:=PP.cfOf P1.Gd) (gn:=P1.gns) (tp:=P1.top) (i:=67) KX G;k_is;k_is;k_is;k_is;decide;rfl;exact λn h=>hz n (eB ((by decide:∀ n∈(["TooGreat"]:List Str),qw n (["CutlessError","NoCut","NoName","NoProof","NoRow","NoText","NotCleared","NotPlain","TooGreat"]:List Str) = true) n h));intro o26;apply PP.xd_mk (d:=P1.d_step) (x:="step") (rs:=P1.r_step) (cls:=["TooGreat"]) (cf:=PP.cfOf P1.Gd) (gn:=P1.gns) (tp:=P1.top) (i:=68) KX G;k_is;k_is;k_is;k_is;decide;rfl;exact λn h=>hz n (eB ((by decide:∀ n∈(["TooGreat"]:List Str),qw n (["CutlessError","NoCut","NoName","NoProof","NoRow","NoText","NotCleared","NotPlain","TooGreat"]:List Str) = true) n h));intro o27;apply PP.xd_mk (d:=P1.d_clearing) (x:="clearing") (rs:=P1.r_clearing) (cls:=["TooGreat"]) (cf:=PP.cfOf P1.Gd) (gn:=P1.gns) (tp:=P1.top) (i:=69) KX G;k_is;k_is;k_is;k_is;decide;rfl;exact λn h=>hz n (eB ((by decide:∀ n∈(["TooGreat"]:List Str),qw n (["CutlessError","NoCut","NoName","NoProof","NoRow","NoText","NotCleared","NotPlain","TooGreat"]:List Str) = true) n h));intro o28;apply PP.xd_mk (d:=P1.d_cleared) (x:="cleared") (rs:=P1.r_cleared) (cls:=["TooGreat"]) (cf:=PP.cfOf P1.Gd) (gn:=P1.gns) (tp:=P1.top) (i:=70) KX G;k_is;k_is;k_is;k_is;decide;rfl;exact λn h=>hz n (eB ((by decide:∀ n∈(["TooGreat"]:List Str),qw n (["CutlessError","NoCut","NoName","NoProof","NoRow","NoText","NotCleared","NotPlain","TooGreat"]:List Str) = true) n h));intro o29
 apply PP.td_mk (d:=P1.d__law_asked) (x:="_law_asked") (ys:=P1.y__law_asked) (ups:=P1.ups) (ps:=P1.pcs) (cf:=PP.cfOf P1.Gd) (gn:=P1.gns) (tp:=P1.top) (i:=78) KX G;k_is;k_is;k_is;k_is;decide;rfl;exact mz;exact λn h=>hz n (eB ((by decide:∀ n∈P1.pcs,qw n (["CutlessError","NoCut","NoName","NoProof","NoRow","NoText","NotCleared","NotPlain","TooGreat"]:List Str) = true) n h));exact hu;exact (λp h=>by
  obtain rfl:=bQ.mp (show p∈[(("_law_kind":PySem.Str),P1.ql__law_kind)] from h);exact k__law_kind);intro o35
 apply P1.dfl_20 KX G;k_is;k_is;k_is;k_is;k_is;intro u20
 refine ⟨PP.top_mk (tp:=P1.top) (is:=P1.pls) KX G ?H (PP.sub_app (b:=[P1.x_bounded_step,P1.x_step,P1.x_clearing,P1.x_cleared])) ?W ⇑0 ?B ?GL (λn l h=>by cases h) (λf h=>by
  obtain rfl:=bQ.mp (show f∈[20] from h);obtain ⟨a,b,c,h,e⟩:=u20;exact ⟨_,a,b,c,rfl,h,e⟩),λt ht=>by cases ht⟩
 case W =>
  exact .cons o26 rfl rfl (.cons o27 rfl rfl (.cons o28 rfl rfl (.cons o29 rfl rfl (.nil))))
 case H =>
  iterate 20 (apply PP.Hds.cons;k_is;k_is;k_is;k_is;decide)
  refine .own (let ⟨a,b,c,h,_⟩:=u20;⟨a,b,c,h⟩) ?_
  iterate 5 (apply PP.Hds.cons;k_is;k_is;k_is;k_is;decide)
  refine .own o26.dn ?_;refine .own o27.dn ?_;refine .own o28.dn ?_;refine .own o29.dn ?_
  iterate 5 (apply PP.Hds.cons;k_is;k_is;k_is;k_is;decide)
  refine .own o35 ?_
  iterate 4 (apply PP.Hds.cons;k_is;k_is;k_is;k_is;decide)
  exact .nil
 case B=>kernel_rfl
 case GL=>repeat' first | exact .nil | exact .str | exact .int | exact Nat.le_of_ble_eq_true rfl | (apply PP.InK.tup;k_is) | (apply PP.Gls.cons;k_is) | apply PP.InKs.cons
end
