import PyProof.Rows.All
import Wide.All
import OpenK.AllK
import Wide.FinOn
import Lean
import PyProof.EqAt
import PyProof.EqKinds
import PyProof.TupleCall
import KE.KSortAsk
import KE.KIntText
import PyProof.MinMaxWalk
import KE.KMinBuiltin
import PyProof.Rows.SortRuns
import PyProof.Rows.SortRunsK
import KE.KRevIter
import PyProof.MeetsStr2
import KE.KTabLook
import PyProof.FactsAll.int_1
import PySem.Challenge.RW_cutless_k32_one_branch_parted
local macro_rules|`(∅)=>`(by lia)
local macro_rules|`(⋯)=>`(by kernel_rfl)
local macro_rules|`(⇑$_)=>`(by decide)
local macro_rules|`(↥$_)=>`(by simp)
local macro_rules|`(command|def $n:declId $s:optDeclSig $v:declVal)=>`(command|noncomputable def $n:declId $s:optDeclSig $v:declVal)
local macro_rules|`(tactic|decide)=>`(tactic|decide +kernel)
open And renaming intro->az
open Array renaming length_toList->aK,getElem?_toList->aN,mem_of_getElem?->bu,toList_append->bM,getElem?_eq_getElem->dO,toList_push->fo,size_push->gu,size_append->gR,toList_setIfInBounds->jq,toList_reverse->lW,toList_eraseIdxIfInBounds->pz,perm_iff_toList_perm->sh,getElem?_eq_none->xR,toList_extract->zA,mem_toList_iff->zB,toList_inj->Hd
open Array.Perm renaming refl->cI
open Bool renaming and_eq_true->aa,false_ne_true->aj,false_eq_true->bb,and_self->dA,or_eq_true->dT,eq_iff_iff->gA,not_eq_true'->jS,true_or->kJ,not_true->nU,false_or->nV,or_true->xV,not_not->xW
open Classical renaming byContradiction->qd
open False renaming elim->dW
open ForInStep renaming yield->jT
open Iff renaming rfl->cX
open Int renaming emod_lt_of_pos->cC,emod_nonneg->cN,toNat->gO,toNat_natCast->iq,fmod_eq_emod_of_nonneg->vp,fdiv_eq_ediv_of_nonneg->vq
open List renaming mem_cons_of_mem->ak,mem_cons_self->au,length_append->ax,length_map->ay,length_cons->aB,getElem?_eq_some_iff->aC,getElem?_eq_getElem->aD,size_toArray->aG,map_cons->aJ,length_nil->aM,mem_singleton->aP,mem_cons->aQ,append_assoc->aU,replicate->aZ,mem_of_mem_take->ba,mem_of_mem_drop->bh,mem_append_right->bo,length_take->bq,take_append_drop->bw,mem_append->bC,mem_of_getElem?->bI,getElem?_append_left->bL,getD_eq_getElem?_getD->bQ,map_append->bT,pairwise_append->bU,getElem?_set_ne->bV,length_singleton->bZ,range->cc,getElem?_append_right->cg,length_set->cA,append_nil->cB,mem_map->cL,length_drop->cP,all_eq_true->cQ,getElem?_set_self->cV,getElem?_map->cW,drop_eq_getElem_cons->de,pairwise_cons->dq,lookup_cons->dG,mem_iff_getElem?->dJ,mem_filter->dS,mem_append_left->dU,getElem?_take_of_lt->eA,filterMap_cons->eI,mem_singleton_self->eK,length_eq_zero_iff->eL,getElem_mem->eN,take_of_length_le->eV,getElem?_drop->eW,nil_append->fi,getElem?_eq_none->fk,drop_drop->fJ,toArray->fP,pairwise_iff_getElem->fY,nodup_cons->gy,find?_cons->gz,getElem?_replicate->gN,length_replicate->iF,length_filter_le->iG,mem_reverse->iH,any_cons->iJ,foldl_cons->iZ,zip_cons_cons->jD,length_range->jQ,isEmpty_nil->kB,cons_append->kC,any_eq_true->kD,pairwise_reverse->lM,getElem?_reverse->lN,mem_range->md,getD->mJ,length_pos_iff->mQ,filter_eq_self->mR,all_cons->nQ,zip_nil_right->nW,getElem?_take->nX,reverse_perm->pb,reverse_cons->ph,flatMap_cons->pj,zipIdx_cons->pY,take_length->pZ,not_mem_nil->qa,filter_cons->qb,of_mem_zip->rF,forIn_cons->rG,length_eraseIdx_of_lt->tH,extract_eq_drop_take->vn,getLast?_singleton->xN,filter_cons_of_pos->xO,filter_cons_of_neg->xP,map_nil->xS,map_map->xT,filter_eq_nil_iff->xU,set_append_right->zv,eq_nil_or_concat->zw,dropLast_eq_take->zx,concat_eq_append->zy,mem_of_getLast?->AX,length->AY,getLast?_append->AZ,take_succ_cons->Cz,length_reverse->CA,getElem_of_mem->CB,drop_succ_cons->CC,mem_filterMap->CG,findIdx?_cons->CH,take_sublist->GQ,take_add_one->GR,pairwise_map->GS,nodup_append->GU,getElem_take->GV,foldr_append->GW,foldl_append->GX,drop_sublist->GY,any_eq_false->GZ,reverse_nil->He,ext_getElem->Hf,drop_length->Hg,Perm->Hh,zipIdx_nil->JC,take_left'->JD
open MonadState renaming get->iM
open Nat renaming le_refl->ao,ne_of_lt->aO,le_trans->bj,lt_of_lt_of_le->bz,lt_succ_of_lt->bF,zero_le->bO,lt_irrefl->bX,lt_succ_self->dI,ne_of_gt->fe,lt_of_le_of_lt->ff,add_le_add_left->gj,lt_of_le_of_ne->gM,zero_add->jo,pos_of_ne_zero->jH,le_of_lt->ly,le_succ->mI,le_succ_of_le->pF,min_le_right->rz,le_max_right->rD,min_eq_left->rZ,le_max_left->se,min_self->zu,add_le_add_right->Cy,lt_or_eq_of_le->GP,le_add_right->JB,not_lt_zero->JX,min_le_left->JY
open Nat.succ renaming inj->tF
open Option renaming bind_eq_bind->af,bind_eq_some_iff->ag,bind_some->aV,map_eq_some_iff->bp,pure_def->dM,map_some->dN,isNone_iff_eq_none->fM,isSome_iff_exists->gf,getD_none->CF
open Option.some renaming inj->cH
open PyProof.Rows renaming Keyed->av,wpS_bind->aA,wpS_pure->aR,SortSt->bf,wpS_forRange->cq,SortKind->cK,wpS_modify->cZ,callWith_type1->dB,wpS_mono->dE,listUpdate_at->gQ,wpS_get->ji,reverseSlice'_eq->lS,slot_tuple_getitem->lT,AllBare->mL,get?_update_seq->mO,wpS_lift->oO,seqEpoch_at->oT,bubble_perm->vw,getElem?_bubble->xJ,entry_list_sort->xK,slot_list_sort->zj,keyLt'_oneType->zk,args_list_sort->zq,subscriptTail_builtinR->GB,plain_sorted->GD,entry_sorted->GF,args_sorted1->GJ,IntsAre->Hb,kind_sorted->Jz,IsTup->JE,getElem?_mirror_all->JW
open PyProof.Rows.IsTup renaming new->Ha
open PyProof.Rows.SortSt renaming mk'->iB
open PySem renaming wpAny_bind->ab,Value->ae,Shared->ai,wpAny_pure->aq,Addr->aw,Expr->aH,Program->aS,Around->aW,wpAny_newObj_type->bA,World->bD,wpAny_call_entry->bW,wpAny_holding->bY,Heap->cb,sizeLine_eq->cF,wpAny_field->cT,wpAny_callSpecial?_slot->cU,wpAny_seqItems->dc,Stmt->dD,wpAny_rule->dQ,wpAny_mono->dR,wpAny_truthy_bool->eH,Builtin->eJ,wpAny_setField->eY,wpAny_askSetting->eZ,Scope->fc,wpAny_passesOwn->fH,FuncData->fI,wpAny_setState_of->fN,wpAny_pyIter_list->fO,wpAny_standAt->gP,wpAny_setField_rec->ik,builtinLookup_eq_fast->iY,plainId_quiet->jj,wpAny_letGo->jm,SetTable->jn,Keyword->jR,NameKind->ku,wpAny_of_eq->kH,wpAny_newList->lh,wpAny_comprehension_free->lq,wpAny_attempt->lx,wpAny_loadPart'->mM,typeLookup_type->mN,Model->mP,wpAny_updateSeq_pair->oP,wpAny_newTuple->oQ,wpAny_newFunctionEnv->oR,wpAny_setEntries_of->pD,wpAny_onRaise->pX,Comprehension->qc,wpAny_Call_Name_kw->rq,IsPart->rE,wpAny_setEpoch_of->rV,wpAny_isInstance->vh,noFill_tuple_add->vk,Result->vm,IsPair->vo,wpAny_updateSeq->xH,wpAny_execs_nil->xI,codeAny_builtin->xM,wpAny_tryCatch->zf,typeIs_str->zh,typeIs_int->zi,isSubtype_type->zo,Operator->zt,seq_tuple_add->Cv,PassesOwn->CD,IsZip->CI,Arguments->CJ,wpAny_typeOf->GA,seqIndex_neg->GC,concat_meets->GG,codeAny_mono->GH,codeAny_compStart_list->GI,wpAny_pyIter_revIter->Jx,seqIndex_of->Jy,Walks->JA,GenState->JF,wpAny_pyIter_tuple->MV,wpAny_Name->MW,wpAny_storeSet_of->MX,wpAny_pyIter_slot->MY,wpAny_assign_Name->MZ,fits_of_scanBound->Na
open PySem.Around renaming under_plainId->lP
open PySem.Builtin.Builtins renaming binaryNamed->lO,bindParams->lV
open PySem.Builtin.Frozenset renaming addrOf->mK
open PySem.Builtin.Int renaming intBits->tJ
open PySem.Builtin.List renaming listExtendWith->nS,listTooLong->pq,listSameRef->px
open PySem.Builtin.Slice renaming slicePlaces->fj,sliceAdjust->iK,sliceApplied->nR
open PySem.Builtin.SmallTypes renaming ownedTupleIsFree->di,ownedTupleHandOut->jE
open PySem.Builtin.Str renaming occurrences->qe
open PySem.Builtin.Tuple renaming tupleExact->fv
open PySem.Calls renaming call_function_entry->fR,Name_function_global->sf,callWith_builtin->xQ
open PySem.Heap renaming get?_push_of_some->ah,lt_size->aE,get?_push_size->aF,size_push->bJ,get?_update_other->cE,get?_update_self->dh,SameBut->fQ,ExtBut->Ba,size_update->Hi
open PySem.Heap.SameBut renaming update->cm,refl->vt
open PySem.NameKind renaming free->cn,cell->lU
open PySem.Obj renaming mapSeq->bK,mapFields->kr,putSet->GN,data_mapFields->GO
open PySem.PassesOwn renaming never->AW
open PySem.SeqAt.EqAt renaming same->Hj
open PySem.SetTable renaming below->dn,grown->en,relaid->Cw
open PySem.SetTable.below renaming go->kI
open PySem.Str renaming ofString->fX
open PySem.Unicode renaming isDigit->pE
open PySem.Value renaming none->bH,ref->kq,bool->kG,notImplemented->zr,int->GK
open PySem.W.Looks renaming of_pure->jP
open PySem.Walks renaming list->rY
open PySem.pickOrder renaming go->rW
open True renaming intro->jC
set_option Elab.async false
set_option linter.all false
set_option genInjectivity false
set_option genSizeOf false
set_option maxRecDepth 100000
set_option maxHeartbeats 4000000
section
-- CHANGE: your row's module here,as the last of these rows
namespace L2
open PySem PySem.Spec PyProof.Rows
abbrev Key:=Sum Int Str
end L2
namespace L2
open PySem PySem.Spec PyProof.Rows
set_option genInjectivity true in
inductive V where
 | non | bl (b:Bool) | int (i:Int) | str (x:Str) | ref (a:aw) | ty (n:String)
 deriving DecidableEq
def RelV:V->ae->Prop
 | .non,u=>u = bH
 | .bl b,u=>u = kG b
 | .int i,u=>∃ t,u = GK i t
 | .str x,u=>∃ t,u = Value.str x t
 | .ref a,u=>u = kq a
 | .ty n,u=>u = Value.type n
abbrev Vals:List V->List ae->Prop:=Paired RelV
def Vals.length {xs:List V} {us:List ae} (r:Vals xs us):xs.length = us.length:=Paired.length r
def Vals.get:∀ {xs:List V} {us:List ae} {i:Nat} {x:V},Vals xs us->xs[i]? = some x->∃ u,us[i]? = some u/\RelV x u
 | _,_,_,_,.nil,e=>by simp at e
 | _,_,0,_,.cons r _,e=>by simp at e;subst e;exact ⟨_,rfl,r⟩
 | _,_,i+1,x,.cons _ t,e=>by
   obtain ⟨u,h1,h2⟩:=Vals.get (i:=i) (x:=x) t (by simpa using e);exact ⟨u,by simpa using h1,h2⟩
def Vals.set {x:V} {u:ae} (r:RelV x u):∀ {xs:List V} {us:List ae} (i:Nat),Vals xs us->Vals (xs.set i x) (us.set i u)
 | _,_,_,.nil=>.nil
 | _,_,0,.cons _ t=>.cons r t
 | _,_,i+1,.cons q t=>.cons q (Vals.set r i t)
def Vals.append:∀ {xs ys:List V} {us ws:List ae},Vals xs us->Vals ys ws->Vals (xs++ys) (us++ws)
 | _,_,_,_,.nil,s=>s
 | _,_,_,_,.cons r t,s=>.cons r (Vals.append t s)
def Vals.take:∀ {xs:List V} {us:List ae} (n:Nat),Vals xs us->Vals (xs.take n) (us.take n)
 | _,_,0,_=>.nil
 | _,_,_+1,.nil=>.nil
 | _,_,n+1,.cons r t=>.cons r (Vals.take n t)
def Vals.drop:∀ {xs:List V} {us:List ae} (n:Nat),Vals xs us->Vals (xs.drop n) (us.drop n)
 | _,_,0,r=>r
 | _,_,_+1,.nil=>.nil
 | _,_,n+1,.cons _ t=>Vals.drop n t
def gL:Option V->Option ae->Prop
 | some v,some u=>RelV v u
 | none,none=>True
 | _,_=>False
def KV {κ:Type}:List (κ × V)->List (κ × ae)->Prop:=Paired λ(p:κ × V) (q:κ × ae)=>p.1 = q.1/\RelV p.2 q.2
def kV:Key->V
 | .inl i=>.int i
 | .inr x=>.str x
inductive HO where
 | lst (xs:List V)
 | tup (xs:List V)
 | own (x:aw)
 | frz (o:Obj) (u:HO)
 | tbl (ps:Array ae)
 | ext (φ:cb->Prop)
abbrev Hp:=aw->Option HO
def upd (H:Hp) (a:aw) (o:HO):Hp:=λb=>if b = a then some o else H b
def cy {H:Hp} {a:aw} {o:HO}:upd H a o a = some o:=by unfold upd;rw [if_pos rfl]
def bP {H:Hp} {a b:aw} {o:HO} (h:b≠a):upd H a o b = H b:=by unfold upd;rw [if_neg h]
def ic {H:Hp} {a b:aw} {o:HO} (h:H a = some o) (h':H b = none):a≠b:=by
 intro e;subst e;rw [h] at h';cases h'
section
variable (P:aS) (w:bD)
def iL (P:aS) (w:bD) (H:Hp) (h:cb) (a:aw):HO->Prop
 | .lst xs=>xs.length<=sizeLine/\∃ (its:List ae) (n:Nat),Vals xs its/\h.get? a = some { cls:=.type "list",data:=.seq its.toArray n }
 | .tup xs=>xs.length<=sizeLine/\∃ its:List ae,Vals xs its/\JE h a its.toArray
 | .own _=>∃ o,h.get? a = some o
 | .frz o u=>h.get? a = some o/\iL P w H h a u
 | .tbl ps=>h.get? a = some { cls:=.none,data:=.fields ps }
 | .ext φ=>φ h/\(∃ o,h.get? a = some o)/\∀ h1 h2:cb,φ h1->(∀ o,h1.get? a = some o->h2.get? a = some o)->φ h2
def HOk (H:Hp) (h:cb):Prop:=∀ a o,H a = some o->iL P w H h a o
end
section
variable {P:aS} {w:bD} {H H':Hp} {h h':cb} {a:aw} {o:HO}
def iL.lt (x:iL P w H h a o):a < h.objs.size:=by
 cases o with
 | lst xs=>obtain ⟨_,_,_,_,e⟩:=x;exact aE e
 | tup xs=>obtain ⟨_,_,_,p⟩:=x;exact p.lt
 | own y=>obtain ⟨_,e⟩:=x;exact aE e
 | frz ob u=>obtain ⟨e,_⟩:=x;exact aE e
 | tbl ps=>exact aE (show h.get? a = some _ from x)
 | ext φ=>obtain ⟨_,⟨_,e⟩,_⟩:=x;exact aE e
def Paired.mapP {α β:Type} {F G:α->β->Prop}:∀ {l₁:List α} {l₂:List β},Paired F l₁ l₂->(∀ a b,F a b->G a b)->Paired G l₁ l₂
 | _,_,.nil,_=>.nil
 | _,_,.cons r t,f=>.cons (f _ _ r) (Paired.mapP t f)
def iL.stay (x:iL P w H h a o) (k:∀ b u,(b = a\/H b = some (.own a))->h.get? b = some u->h'.get? b = some u)
 (ho:∀ b,H b = some (.own a)->H' b = some (.own a)) (ht:∀ b xs,H b = some (.tup xs)->H' b = some (.tup xs)):iL P w H' h' a o:=by
 induction o with
 | lst xs=>obtain ⟨z,its,n,r,e⟩:=x;exact ⟨z,its,n,r,k _ _ (.inl rfl) e⟩
 | tup xs=>obtain ⟨z,its,r,ob,e,c⟩:=x;exact ⟨z,its,r,ob,k _ _ (.inl rfl) e,c⟩
 | own y=>obtain ⟨ob,e⟩:=x;exact ⟨ob,k _ _ (.inl rfl) e⟩
 | frz ob u ih=>obtain ⟨e,q⟩:=x;exact ⟨k _ _ (.inl rfl) e,ih q⟩
 | tbl ps =>
   have e:h.get? a = some { cls:=.none,data:=.fields ps }:=x;show h'.get? a = some { cls:=.none,data:=.fields ps }
   exact k a _ (.inl rfl) e
 | ext φ=>obtain ⟨p,⟨o,e⟩,st⟩:=x;exact ⟨st _ _ p λo q=>k _ _ (.inl rfl) q,⟨o,k _ _ (.inl rfl) e⟩,st⟩
def HOk.lt (x:HOk P w H h) (e:H a = some o):a < h.objs.size:=(x a o e).lt
def HOk.fresh (x:HOk P w H h) (e:h.objs.size<=a):H a = none:=by
 cases q:H a with
 | none=>rfl
 | some u=>exact absurd (bz (x.lt q) e) (bX _)
def HOk.kept (x:HOk P w H h) (k:∀ b u,h.get? b = some u->h'.get? b = some u):HOk P w H h':=λa o e =>
 (x a o e).stay (λb u _ q=>k b u q) (λ_ q=>q) λ_ _ q=>q
def HOk.laid (x:HOk P w H h) (k:∀ b u,h.get? b = some u->h'.get? b = some u) (hp:h.objs.size<=a) (new:iL P w (upd H a o) h' a o):HOk P w (upd H a o) h':=λb u e=>by
 have hn:=x.fresh hp;by_cases hb:b = a
 . subst hb;rw [cy] at e;cases e;exact new
 . rw [bP hb] at e;exact (x b u e).stay (λc v _ q=>k c v q) (λc q=>by rw [bP (ic q hn)];exact q) λc xs q=>by rw [bP (ic q hn)];exact q
end
def Rd (H:Hp) (a:aw) (u:HO):Prop:=H a = some u\/∃ o,H a = some (.frz o u)
def Rd.ok {P:aS} {w:bD} {H:Hp} {h:cb} {a:aw} {u:HO} (r:Rd H a u) (x:HOk P w H h):iL P w H h a u:=by
 rcases r with r | ⟨o,r⟩
 . exact x a u r
 . obtain ⟨_,q⟩:=x a _ r;exact q
def Mut:Option HO->Prop
 | some (.lst _)=>True
 | some (.ext _)=>True
 | _=>False
section
variable {P:aS} {w:bD} {H:Hp} {h h':cb} {x e:aw} {o':HO}
def HOk.write (ok:HOk P w H h) (mu:Mut (H x)) (he:e = x\/H e = some (.own x)) (k:∀ b u,b≠e->h.get? b = some u->h'.get? b = some u) (heo:∃ u,h'.get? e = some u)
 (new:iL P w (upd H x o') h' x o'):HOk P w (upd H x o') h':=λb u q=>by
 have nown:∀ c y,H c = some (.own y)->c≠x:=λc y r z=>by subst z;rw [r] at mu;exact mu
 have ntup:∀ c xs,H c = some (.tup xs)->c≠x:=λc xs r z=>by subst z;rw [r] at mu;exact mu
 by_cases hb:b = x
 . subst hb;rw [cy] at q;cases q;exact new
 . rw [bP hb] at q;by_cases hbe:b = e
   . have q':H b = some (.own x):=by
      rcases he with z | z
      . exact absurd (hbe.trans z) hb
      . rw [hbe];exact z
     rw [q] at q';cases q';obtain ⟨v,hv⟩:=heo;exact ⟨v,by rw [hbe];exact hv⟩
   . refine (ok b u q).stay (λc v hc r=>k c v ?_ r) (λc r=>by rw [bP (nown c b r)];exact r) λc xs r=>by rw [bP (ntup c xs r)];exact r
     rcases hc with rfl | hc
     . exact hbe
     . rintro rfl;rcases he with z | z
       . exact nown c b hc z
       . rw [hc] at z;cases z;exact hb rfl
end
structure Un (fs ex:List aw) (H H':Hp) (h h':cb):Prop where
 keep:∀ b o,h.get? b = some o->H b = none->b∉fs->b∉ex->h'.get? b = some o
 slot:∀ b o,h.get? b = some o->H b = none->b∈fs->b∉ex->∃ sl,h'.get? b = some { o with slots:=sl }
 free:∀ b o,h.get? b = some o->H b = none->b∉ex->H' b = none
 there:∀ b o,h.get? b = some o->b∉ex->∃ o',h'.get? b = some o'
 tups:∀ b xs,H b = some (.tup xs)->H' b = some (.tup xs)
 frzs:∀ b o u,H b = some (.frz o u)->H' b = some (.frz o u)
 tbls:∀ b ps,H b = some (.tbl ps)->∃ more,H' b = some (.tbl (ps++more))
section
variable {fs fs' ex ex':List aw} {H H1 H2:Hp} {h h1 h2 h':cb} {a x e:aw} {o:HO}
def Un.any (u:Un fs ex H H1 h h1) (q:h.get? b = some ob) (n:H b = none) (hx:b∉ex):∃ sl,h1.get? b = some { ob with slots:=sl }:=by
 by_cases hb:b∈fs
 . exact u.slot b ob q n hb hx
 . exact ⟨ob.slots,u.keep b ob q n hb hx⟩
def Un.kept (k:∀ b u,h.get? b = some u->h'.get? b = some u):Un fs ex H H h h' :=
 ⟨λb ob q _ _ _=>k b ob q,λb ob q _ _ _=>⟨ob.slots,k b ob q⟩,λ_ _ _ n _=>n,λb ob q _=>⟨ob,k b ob q⟩,λ_ _ q=>q,λ_ _ _ q=>q,λ_ ps q=>⟨#[],by rw [q];simp⟩⟩
def Un.refl:Un fs ex H H h h:=Un.kept λ_ _ q=>q
def Un.laid (k:∀ b u,h.get? b = some u->h'.get? b = some u) (hp:h.objs.size<=a) (hn:H a = none):Un fs ex H (upd H a o) h h' where
 keep:=λb u q _ _ _=>k b u q
 slot:=λb u q _ _ _=>⟨u.slots,k b u q⟩
 free:=λb u q n _=>by rw [bP (aO (bz (aE q) hp))];exact n
 there:=λb u q _=>⟨u,k b u q⟩
 tups:=λb xs q=>by rw [bP (ic q hn)];exact q
 frzs:=λb u xs q=>by rw [bP (ic q hn)];exact q
 tbls:=λb ps q=>⟨#[],by rw [bP (ic q hn),q];simp⟩
def Un.write (mu:Mut (H x)) (he:e = x\/H e = some (.own x)) (k:∀ b u,b≠e->h.get? b = some u->h'.get? b = some u) (heo:∃ u,h'.get? e = some u):Un fs ex H (upd H x o) h h':=by
 have hx:∀ b,H b = none->b≠x:=λb n z=>by subst z;rw [n] at mu;exact mu
 have hb:∀ b,H b = none->b≠e:=λb n z=>by
  subst z;rcases he with r | r
  . exact hx b n r
  . rw [n] at r;cases r
 have hm:∀ b u,H b = some u->¬ Mut (some u)->b≠x:=λb u q nm z=>by subst z;rw [q] at mu;exact nm mu
 refine ⟨λb u q n _ _=>k b u (hb b n) q,λb u q n _ _=>⟨u.slots,k b u (hb b n) q⟩,λb u q n _=>by rw [bP (hx b n)];exact n,λb u q _=>?_,
  λb xs q=>by rw [bP (hm b _ q λz=>z)];exact q,λb u xs q=>by rw [bP (hm b _ q λz=>z)];exact q,λb ps q=>⟨#[],by rw [bP (hm b _ q λz=>z),q];simp⟩⟩
 by_cases hbe:b = e
 . subst hbe;exact heo
 . exact ⟨u,k b u hbe q⟩
end
def trk (h:cb) (H:Hp):List aw:=(cc h.objs.size).filter λa=>(H a).isSome
def rP (h:cb) (H:Hp):cb:=PySem.W.hideAll h (trk h H)
def BW (h:cb) (H:Hp):(rP h H).objs.size = h.objs.size:=PySem.W.hideAll_size _ _
def FJ (e:h.get? b = some o) (n:H b = none):(rP h H).get? b = some o :=
 PySem.W.hideAll_get _ e λhm=>by
  have q:(H b).isSome = true:=(dS.mp hm).2;rw [n] at q;simp at q
def IT (e:(rP h H).get? b = some o):h.get? b = some o/\H b = none:=by
 have e':h.get? b = some o:=PySem.W.of_hideAll (trk h H) e;refine ⟨e',?_⟩
 cases q:H b with
 | none=>rfl
 | some x =>
   have hm:b∈trk h H:=dS.mpr ⟨md.mpr (aE e'),by simp [q]⟩;have z:(rP h H).get? b = none:=PySem.W.hideAll_none (trk h H) hm;rw [z] at e;cases e
end L2
namespace L2
open PySem PySem.Spec PyProof.Rows
structure Mod (K:PySem.W.Frag) (mg:Str->Option ae) (base:cb):Prop where
 kin:K.In base
 glob:base.Ns mainGlobals mg
 blt:∃ mb,base.Ns builtinsNs mb/\∀ x:Str,x≠"__name__"->mb x = bootBuiltins x
 nolimit:base.NoLimit
structure Cx where
 prog:aS
 w:bD
 K:PySem.W.Frag
 mg:Str->Option ae
 base:cb
 A:aW
 N:List Str
 s₀:ai
 H₀:Hp
 env:Env
 outer:List Env
 stack:List Env
 ex:List aw
 fn:Str->Bool
 calm:Bool
 pn:List (aw × Obj)
 xe:ae->ai->Prop
def frs (l:List Env):List aw:=l.filterMap (·.frame)
noncomputable abbrev Cx.fs (X:Cx):List aw:=frs X.outer
def Vis (sc:fc) (x:Str):Prop:=sc.names.lookup x = some .local\/sc.names.lookup x = some .cell\/sc.names.lookup x = some .free
def Loc (sc:fc) (x:Str):Prop:=sc.names.lookup x = some .local\/sc.names.lookup x = some .cell
def Look (env:Env) (h:cb) (m:Str->Option ae) (x:Str) (u:ae):Prop :=
 (env.kindOf x = some .local/\m x = some u)\/((env.kindOf x = some .cell\/env.kindOf x = some .free)/\∃ c,env.cells.lookup x = some c/\h.IsCell c (some u))
structure Cx.Ok (X:Cx):Prop where
 mod:Mod X.K X.mg X.base
 kind:X.env.scope.kind = .function
 glob:X.env.globals = mainGlobals
 blt:X.env.builtins = builtinsNs
 above:X.s₀.heap.objs.size<=X.env.locals
 inj:∀ x y c,X.env.cells.lookup x = some c->X.env.cells.lookup y = some c->x = y
 has:∀ x,(X.env.kindOf x = some .cell\/X.env.kindOf x = some .free)->∃ c,X.env.cells.lookup x = some c
 cab:∀ x c,X.fn x = true->X.env.cells.lookup x = some c->X.s₀.heap.objs.size<=c
 hd:X.calm = true->X.A.handled = none
 frames:X.A.frames = some X.stack
 stk:X.stack = X.outer\/(X.stack = X.env::X.outer/\X.env.frame = some X.env.locals)
 exf:∀ b∈X.ex,b≠X.env.locals/\∀ x c,X.env.cells.lookup x = some c->c≠b
 bs:∀ b o,X.base.get? b = some o->X.s₀.heap.get? b = some o/\X.H₀ b = none
 bsz:X.base.objs.size<=X.s₀.heap.objs.size
 noex:∀ b o,X.base.get? b = some o->b∉X.ex
 exfs:∀ b∈X.ex,b∉X.fs
 funs:X.s₀.heap.FunFrames X.base X.outer
 frf:∀ b∈X.fs,X.H₀ b = none
structure Inv (X:Cx) (pins:List (aw × Obj)) (σ:List (Option V)) (H:Hp) (s:ai):Prop where
 ok:X.Ok
 os:s.os = X.s₀.os
 bare:mL s.gens
 base:Un X.fs X.ex X.H₀ H X.s₀.heap s.heap
 loc:∃ m,s.heap.Ns X.env.locals m/\∀ (i:Nat) (x:Str) (v:V),X.N[i]? = some x->σ[i]? = some (some v)->Vis X.env.scope x->∃ u,RelV v u/\Look X.env s.heap m x u
 cell:∀ x c,X.env.cells.lookup x = some c->∃ v,s.heap.IsCell c v
 free:H X.env.locals = none
 freeC:∀ x c,X.env.cells.lookup x = some c->H c = none
 pin:∀ p∈X.pn++pins,s.heap.get? p.1 = some p.2/\H p.1 = none/\p.1≠X.env.locals/\p.1∉X.fs/\∀ v,p.2.data≠.cell v
 hok:HOk X.prog X.w H s.heap
 len:σ.length = X.N.length
section
variable {X:Cx} {pins:List (aw × Obj)} {σ:List (Option V)} {H H':Hp} {s:ai} {h':cb}
def Cx.Ok.nofr (ok:X.Ok) (e:X.base.get? b = some o):b∉X.fs:=λhb=>by
 have:=(ok.funs.mem hb).1;rw [e] at this;cases this
def Inv.bs (I:Inv X pins σ H s):∀ b o,X.base.get? b = some o->s.heap.get? b = some o/\H b = none:=λb o e =>
 ⟨I.base.keep b o (I.ok.bs b o e).1 (I.ok.bs b o e).2 (I.ok.nofr e) (I.ok.noex b o e),I.base.free b o (I.ok.bs b o e).1 (I.ok.bs b o e).2 (I.ok.noex b o e)⟩
def Inv.bk (I:Inv X pins σ H s):∀ b o,X.base.get? b = some o->s.heap.get? b = some o:=λb o e=>(I.bs b o e).1
def Inv.mod (I:Inv X pins σ H s):Mod X.K X.mg X.base:=I.ok.mod
def Inv.kIn (I:Inv X pins σ H s):X.K.In s.heap:=I.ok.mod.kin.keeps I.bk
def Inv.lt (I:Inv X pins σ H s):X.env.locals < s.heap.objs.size:=let ⟨_,hn,_⟩:=I.loc;hn.lt
def Inv.sz (I:Inv X pins σ H s):X.s₀.heap.objs.size<=s.heap.objs.size:=bj I.ok.above (ly I.lt)
def Inv.nofs (I:Inv X pins σ H s) (h:s.heap.objs.size<=a):a∉X.fs:=λhb=>by
 obtain ⟨_,o,ho,_⟩:=I.ok.funs.mem hb;exact absurd (bz (aE ho) (bj I.sz h)) (bX _)
def Inv.cne (I:Inv X pins σ H s):∀ x c,X.env.cells.lookup x = some c->c≠X.env.locals:=λx c e z=>by
 obtain ⟨v,o,ho,hd⟩:=I.cell x c e;obtain ⟨m,⟨o',es,ep,ho',hd',_⟩,_⟩:=I.loc;rw [z,ho'] at ho;cases ho;rw [hd'] at hd;cases hd
def Inv.funs (I:Inv X pins σ H s):s.heap.FunFrames X.base X.outer:=by
 have all:∀ (l:List Env),(∀ b∈frs l,b∈X.fs)->X.s₀.heap.FunFrames X.base l->s.heap.FunFrames X.base l:=by
  intro l
  induction l with
  | nil=>intro _ _;trivial
  | cons env r ih =>
    intro hs hl;obtain ⟨hk,⟨L,o,hf,hn,ho,hd⟩,hr⟩:=hl;have hL:L∈X.fs:=hs L (by unfold frs;rw [eI,hf];exact au);obtain ⟨sl,e⟩:=I.base.slot L o ho (I.ok.frf L hL) hL λz=>I.ok.exfs L z hL;exact ⟨hk,⟨L,_,hf,hn,e,hd⟩,ih (λb hb=>hs b (by unfold frs;rw [eI,hf];exact ak _ hb)) hr⟩
 exact all X.outer (λ_ hb=>hb) I.ok.funs
def Inv.stack (I:Inv X pins σ H s):s.heap.FunFrames X.base X.stack:=by
 rcases I.ok.stk with e | ⟨e,hf⟩
 . rw [e];exact I.funs
 . rw [e];obtain ⟨m,hn,_⟩:=I.loc;refine .cons (by rw [I.ok.kind];decide) hf hn ?_ I.funs;exact Heap.get?_none_of_le (bj I.ok.bsz I.ok.above)
def Inv.stkSub (I:Inv X pins σ H s):∀ b∈frs X.stack,b∈X.env.locals::X.fs:=λb hb=>by
 rcases I.ok.stk with e | ⟨e,hf⟩
 . rw [e] at hb;exact ak _ hb
 . rw [e] at hb;unfold frs at hb;rw [eI,hf] at hb;exact hb
def Inv.stkFree (I:Inv X pins σ H s):∀ b∈frs X.stack,H b = none:=λb hb=>by
 rcases aQ.mp (I.stkSub b hb) with e | hb
 . rw [e];exact I.free
 . obtain ⟨_,o,ho,_⟩:=I.ok.funs.mem hb;exact I.base.free b o ho (I.ok.frf b hb) λz=>I.ok.exfs b z hb
def Inv.step {g':Array JF} {t':Nat} {d':Drawn} {ch:List aw} (I:Inv X pins σ H s)
 (hch:∀ b∈ch,(b∈X.ex\/X.s₀.heap.objs.size<=b)/\b≠X.env.locals/\(∀ x c,X.env.cells.lookup x = some c->c≠b)/\∀ p∈X.pn++pins,p.1≠b)
 (keep:∀ b o,b≠X.env.locals->b∉X.fs->b∉ch->s.heap.get? b = some o->H b = none->h'.get? b = some o)
 (slot:∀ b o,b≠X.env.locals->b∈X.fs->b∉ch->s.heap.get? b = some o->H b = none->∃ sl,h'.get? b = some { o with slots:=sl }) (free:∀ b o,b∉ch->s.heap.get? b = some o->H b = none->H' b = none)
 (there:∀ b o,b∉ch->s.heap.get? b = some o->∃ o',h'.get? b = some o')
 (tups:∀ b xs,H b = some (.tup xs)->H' b = some (.tup xs)) (frzs:∀ b o u,H b = some (.frz o u)->H' b = some (.frz o u)) (tbls:∀ b ps,H b = some (.tbl ps)->∃ more,H' b = some (.tbl (ps++more)))
 (ns:∀ m,s.heap.Ns X.env.locals m->h'.Ns X.env.locals m) (hok:HOk X.prog X.w H' h') (hg:mL g') :
 Inv X pins σ H' { s with heap:=h',gens:=g',drawn:=d',toks:=t' }:=by
 have neL:∀ b o,X.s₀.heap.get? b = some o->b≠X.env.locals:=λb o e=>aO (bz (aE e) I.ok.above)
 have neC:∀ b o,X.s₀.heap.get? b = some o->b∉X.ex->b∉ch:=λb o e hx hb=>by
  rcases (hch b hb).1 with z | z
  . exact hx z
  . exact absurd (bz (aE e) z) (bX _)
 have cellK:∀ x c,X.env.cells.lookup x = some c->∀ v,s.heap.IsCell c v->h'.IsCell c v:=λx c e v zz=>by
  obtain ⟨o,ho,hd⟩:=zz;have nch:c∉ch:=λz=>(hch c z).2.2.1 x c e rfl;by_cases hc:c∈X.fs
  . obtain ⟨sl,q⟩:=slot c o (I.cne x c e) hc nch ho (I.freeC x c e);exact ⟨_,q,hd⟩
  . exact ⟨o,keep c o (I.cne x c e) hc nch ho (I.freeC x c e),hd⟩
 refine ⟨I.ok,I.os,hg,⟨λb o e n hb hx=>?_,λb o e n hb hx=>?_,λb o e n hx=>?_,λb o e hx=>?_,λb xs e=>tups b xs (I.base.tups b xs e),λb o xs e=>frzs b o xs (I.base.frzs b o xs e),λb ps e=>?_⟩,?_,λx c e=>?_,?_,λx c e=>?_,λp hp=>?_,hok,I.len⟩
 . exact keep b o (neL b o e) hb (neC b o e hx) (I.base.keep b o e n hb hx) (I.base.free b o e n hx)
 . obtain ⟨sl,e1⟩:=I.base.slot b o e n hb hx;obtain ⟨sl',e2⟩:=slot b _ (neL b o e) hb (neC b o e hx) e1 (I.base.free b o e n hx);exact ⟨sl',e2⟩
 . obtain ⟨o',e1⟩:=I.base.there b o e hx;exact free b o' (neC b o e hx) e1 (I.base.free b o e n hx)
 . obtain ⟨o',e1⟩:=I.base.there b o e hx;exact there b o' (neC b o e hx) e1
 . obtain ⟨m1,e1⟩:=I.base.tbls b ps e;obtain ⟨m2,e2⟩:=tbls b _ e1;exact ⟨m1++m2,by rw [e2,Array.append_assoc]⟩
 . obtain ⟨m,hn,hl⟩:=I.loc;refine ⟨m,ns m hn,λi x v e1 e2 e3=>?_⟩;obtain ⟨u,r,l⟩:=hl i x v e1 e2 e3;refine ⟨u,r,?_⟩;rcases l with l | ⟨k,c,e,z⟩
   . exact .inl l
   . exact .inr ⟨k,c,e,cellK x c e _ z⟩
 . obtain ⟨v,z⟩:=I.cell x c e;exact ⟨v,cellK x c e v z⟩
 . obtain ⟨m,⟨o,_,_,ho,_⟩,_⟩:=I.loc;exact free _ o (λz=>(hch _ z).2.1 rfl) ho I.free
 . obtain ⟨v,o,ho,hd⟩:=I.cell x c e;exact free c o (λz=>(hch c z).2.2.1 x c e rfl) ho (I.freeC x c e)
 . obtain ⟨e,n,ne,nf,d⟩:=I.pin p hp;have nch:p.1∉ch:=λz=>(hch p.1 z).2.2.2 p hp rfl;exact ⟨keep p.1 p.2 ne nf nch e n,free p.1 p.2 nch e n,ne,nf,d⟩
def Inv.un {t':Nat} (I:Inv X pins σ H s) (u:Un X.fs [] H H' s.heap h') (hok:HOk X.prog X.w H' h'):Inv X pins σ H' { s with heap:=h',toks:=t' }:=by
 obtain ⟨m,⟨o,es,ep,ho,r⟩,_⟩:=id I.loc;obtain ⟨sl,hL⟩:=u.any ho I.free ↥0
 exact I.step (g':=s.gens) (d':=s.drawn) (ch:=[]) (λ_ z=>nomatch z) (λb o _ hb _ e n=>u.keep b o e n hb ↥0) (λb o _ hb _ e n=>u.slot b o e n hb ↥0) (λb o _ e n=>u.free b o e n ↥0) (λb o _ e=>u.there b o e ↥0) u.tups u.frzs u.tbls (λm' hm=>by
  obtain ⟨o',es',ep',ho',r'⟩:=hm;rw [ho] at ho';cases ho';exact ⟨_,es',ep',hL,r'⟩) hok I.bare
def Inv.call {g':Array JF} {t':Nat} {d':Drawn} {ch:List aw} (I:Inv X pins σ H s) (u:Un (frs X.stack) ch H H' s.heap h') (hok:HOk X.prog X.w H' h') (hg:mL g')
 (hch:∀ b∈ch,(b∈X.ex\/X.s₀.heap.objs.size<=b)/\b≠X.env.locals/\(∀ x c,X.env.cells.lookup x = some c->c≠b)/\∀ p∈X.pn++pins,p.1≠b) :
 Inv X pins σ H' { s with heap:=h',gens:=g',drawn:=d',toks:=t' }:=by
 obtain ⟨m,⟨o,es,ep,ho,r⟩,_⟩:=id I.loc;obtain ⟨sl,hL⟩:=u.any ho I.free λz=>(hch _ z).2.1 rfl
 exact I.step (ch:=ch) hch (λb o hL hb hc e n=>u.keep b o e n (λz=>(aQ.mp (I.stkSub b z)).elim hL hb) hc) (λb o _ _ hc e n=>u.any e n hc) (λb o hc e n=>u.free b o e n hc) (λb o hc e=>u.there b o e hc) u.tups u.frzs u.tbls (λm' hm=>by
  obtain ⟨o',es',ep',ho',r'⟩:=hm;rw [ho] at ho';cases ho';exact ⟨_,es',ep',hL,r'⟩) hok hg
def Inv.turned {t':Nat} {it:aw} (I:Inv X pins σ H s) (k:∀ b o,b≠it->s.heap.get? b = some o->h'.get? b = some o) (hn:H it = none) (hL:it≠X.env.locals)
 (h1:it∈X.ex\/X.s₀.heap.objs.size<=it) (h2:∀ x c,X.env.cells.lookup x = some c->c≠it) (h3:∀ p∈X.pn++pins,p.1≠it):Inv X pins σ H { s with heap:=h',toks:=t' }:=by
 have nit:∀ b u,H b = some u->b≠it:=λb u e z=>by rw [z,hn] at e;cases e
 refine I.step (g':=s.gens) (d':=s.drawn) (ch:=[it]) (λb hb=>?_) (λb o _ _ hc e _=>k b o (λz=>hc (by simp [z])) e) (λb o _ _ hc e _=>⟨o.slots,k b o (λz=>hc (by simp [z])) e⟩) (λ_ _ _ _ n=>n)
  (λb o hc e=>⟨o,k b o (λz=>hc (by simp [z])) e⟩) (λ_ _ e=>e) (λ_ _ _ e=>e) (λb ps e=>⟨#[],by rw [e];simp⟩) (λm hm=>?_) (λb u e=>?_) I.bare
 . have e:b = it:=by simpa using hb
   subst e;exact ⟨h1,hL,h2,h3⟩
 . obtain ⟨o,es,ep,ho,r⟩:=hm;exact ⟨o,es,ep,k _ o (Ne.symm hL) ho,r⟩
 . refine (I.hok b u e).stay (λc v hc q=>k c v ?_ q) (λ_ q=>q) λ_ _ q=>q;rcases hc with z | z
   . rw [z];exact nit b u e
   . exact nit c _ z
def Inv.tok (I:Inv X pins σ H s) (t:Nat):Inv X pins σ H { s with toks:=t }:=I.un (h':=s.heap) (t':=t) Un.refl I.hok
def Inv.kept {t':Nat} (I:Inv X pins σ H s) (k:∀ b u,s.heap.get? b = some u->h'.get? b = some u):Inv X pins σ H { s with heap:=h',toks:=t' }:=I.un (Un.kept k) (I.hok.kept k)
def Inv.laid {a:aw} {o:HO} {t':Nat} (I:Inv X pins σ H s) (k:∀ b u,s.heap.get? b = some u->h'.get? b = some u) (hp:s.heap.objs.size<=a) (new:iL X.prog X.w (upd H a o) h' a o) :
 Inv X pins σ (upd H a o) { s with heap:=h',toks:=t' }:=I.un (Un.laid k hp (I.hok.fresh hp)) (I.hok.laid k hp new)
def Inv.write (I:Inv X pins σ H s) (mu:Mut (H x)) (he:e = x\/H e = some (.own x)) (k:∀ b u,b≠e->s.heap.get? b = some u->h'.get? b = some u) (heo:∃ u,h'.get? e = some u)
 (new:iL X.prog X.w (upd H x o) h' x o):Inv X pins σ (upd H x o) { s with heap:=h',toks:=t' }:=I.un (Un.write mu he k heo) (I.hok.write mu he k heo new)
def Inv.pins_of (I:Inv X pins σ H s) (h:∀ p∈pins',s.heap.get? p.1 = some p.2/\H p.1 = none/\p.1≠X.env.locals/\p.1∉X.fs/\∀ v,p.2.data≠.cell v):Inv X pins' σ H s :=
 ⟨I.ok,I.os,I.bare,I.base,I.loc,I.cell,I.free,I.freeC,λp hp=>(bC.mp hp).elim (λz=>I.pin p (dU _ z)) (h p),I.hok,I.len⟩
def wF {N:List Str} (hN:N.Nodup) {i j:Nat} {x:Str} (a:N[i]? = some x) (b:N[j]? = some x):i = j:=by
 obtain ⟨h1,e1⟩:=aC.mp a;obtain ⟨h2,e2⟩:=aC.mp b;exact (List.getElem_inj hN).mp (e1.trans e2.symm)
def Bv {M:mP} {A:aW} {E:ae->ai->Prop} {i:Nat} {x:Str} {v:V} {u:ae} {Q:Unit->ai->Prop} (I:Inv X pins σ H s) (hN:X.N.Nodup) (hi:X.N[i]? = some x) (hx:Loc X.env.scope x) (r:RelV v u)
 (h:∀ s',Inv X pins (σ.set i (some v)) H s'->(∃ a,fQ a s.heap s'.heap/\(a = X.env.locals\/X.env.cells.lookup x = some a))->Q () s') (hf:X.fn x = true\/X.env.scope.names.lookup x = some .local:=by first | exact .inl rfl | exact .inr rfl | assumption):wpAny M A (storeName X.env x u) Q E s:=by
 obtain ⟨m,hn,hl⟩:=id I.loc;have hcls:(X.env.scope.kind == .class || (X.env.scope.kind == .module && X.env.locals != X.env.globals)) = false:=by rw [I.ok.kind];rfl
 have hiσ:i < σ.length:=by rw [I.len];exact (aC.mp hi).1
 have cne:=I.cne
 have tracked:∀ {a:aw} {h':cb},(∃ o,s.heap.get? a = some o/\H a = none)->fQ a s.heap h'->HOk X.prog X.w H h':=λ{a h'} ha hs b ob e=>by
  obtain ⟨_,_,hfree⟩:=ha;refine (I.hok b ob e).stay (λc w' hc q=>(hs.2 c ?_).trans q) (λ_ q=>q) λ_ _ q=>q;rintro rfl;rcases hc with rfl | hc
  . rw [hfree] at e;cases e
  . rw [hfree] at hc;cases hc
 rcases hx with hk | hk
 . refine wpAny_storeName_local hk hn (λh' hn' hs=>?_) hcls;obtain ⟨oL,_,_,hoL,_⟩:=id hn;refine h _ ⟨I.ok,I.os,I.bare,⟨λb o e n hb hx=>?_,λb o e n hb hx=>?_,I.base.free,λb o e hx=>?_,I.base.tups,I.base.frzs,I.base.tbls⟩,⟨_,hn',λj y v' e1 e2 e3=>?_⟩,λy c e=>?_,I.free,I.freeC,λp hp=>?_,tracked ⟨oL,hoL,I.free⟩ hs,by simpa using I.len⟩ ⟨_,hs,.inl rfl⟩
   . exact (hs.2 b (aO (bz (aE e) I.ok.above))).trans (I.base.keep b o e n hb hx)
   . obtain ⟨sl,e1⟩:=I.base.slot b o e n hb hx;exact ⟨sl,(hs.2 b (aO (bz (aE e) I.ok.above))).trans e1⟩
   . obtain ⟨o',e1⟩:=I.base.there b o e hx;exact ⟨o',(hs.2 b (aO (bz (aE e) I.ok.above))).trans e1⟩
   . by_cases hj:j = i
     . subst hj;rw [hi] at e1;cases e1;rw [cV hiσ] at e2;cases e2;exact ⟨u,r,.inl ⟨hk,↥0⟩⟩
     . rw [bV (Ne.symm hj)] at e2;obtain ⟨u',r',q⟩:=hl j y v' e1 e2 e3;refine ⟨u',r',?_⟩;rcases q with ⟨k,e⟩ | ⟨k,c,e,z⟩
       . refine .inl ⟨k,?_⟩;have:y≠x:=λe=>hj (wF hN e1 (e▸hi));simp [this,e]
       . exact .inr ⟨k,c,e,z.sameBut hs (cne y c e)⟩
   . obtain ⟨w',z⟩:=I.cell y c e;exact ⟨w',z.sameBut hs (cne y c e)⟩
   . obtain ⟨e,n,ne,nf,d⟩:=I.pin p hp;exact ⟨(hs.2 p.1 ne).trans e,n,ne,nf,d⟩
 . have hfn:X.fn x = true:=by
    rcases hf with z | z
    . exact z
    . rw [z] at hk;cases hk
   obtain ⟨c,hc⟩:=I.ok.has x (.inl hk);obtain ⟨w',z⟩:=I.cell x c hc;refine wpAny_storeName_cell I.ok.kind hk hc z (λh' hc' hs=>?_);obtain ⟨oc,hoc,hocd⟩:=id z;refine h { s with heap:=h' } ⟨I.ok,I.os,I.bare,⟨λb o e n hb hx=>?_,λb o e n hb hx=>?_,I.base.free,λb o e hx=>?_,I.base.tups,I.base.frzs,I.base.tbls⟩,⟨m,hn.sameBut hs (Ne.symm (cne x c hc)),λj y v' e1 e2 e3=>?_⟩,λy c' e=>?_,I.free,I.freeC,λp hp=>?_,tracked ⟨oc,hoc,I.freeC x c hc⟩ hs,by simpa using I.len⟩ ⟨c,hs,.inr hc⟩
   . exact (hs.2 b (aO (bz (aE e) (I.ok.cab x c hfn hc)))).trans (I.base.keep b o e n hb hx)
   . obtain ⟨sl,e1⟩:=I.base.slot b o e n hb hx;exact ⟨sl,(hs.2 b (aO (bz (aE e) (I.ok.cab x c hfn hc)))).trans e1⟩
   . obtain ⟨o',e1⟩:=I.base.there b o e hx;exact ⟨o',(hs.2 b (aO (bz (aE e) (I.ok.cab x c hfn hc)))).trans e1⟩
   . by_cases hj:j = i
     . subst hj;rw [hi] at e1;cases e1;rw [cV hiσ] at e2;cases e2;exact ⟨u,r,.inr ⟨.inl hk,c,hc,hc'⟩⟩
     . rw [bV (Ne.symm hj)] at e2;obtain ⟨u',r',q⟩:=hl j y v' e1 e2 e3;refine ⟨u',r',?_⟩;rcases q with q | ⟨k,c',e,z'⟩
       . exact .inl q
       . refine .inr ⟨k,c',e,z'.sameBut hs ?_⟩;rintro rfl;exact hj (wF hN e1 (I.ok.inj _ _ _ e hc▸hi))
   . by_cases hcc:c' = c
     . subst hcc;exact ⟨_,hc'⟩
     . obtain ⟨w2,z2⟩:=I.cell y c' e;exact ⟨w2,z2.sameBut hs hcc⟩
   . obtain ⟨e,n,ne,nf,d⟩:=I.pin p hp;refine ⟨(hs.2 p.1 ?_).trans e,n,ne,nf,d⟩;intro q;rw [q,hoc] at e;have q':oc = p.2:=cH e;exact d w' (by rw [<- q'];exact hocd)
def qr (I:Inv X pins σ H s) (hN:X.N.Nodup) (hi:X.N[i]? = some x) (hx:Loc X.env.scope x) (r:RelV v u)
 (h:∀ s',Inv X pins (σ.set i (some v)) H s'->Q () s') (hf:X.fn x = true\/X.env.scope.names.lookup x = some .local:=by first | exact .inl rfl | exact .inr rfl | assumption):wpAny M A (storeName X.env x u) Q E s :=
 Bv I hN hi hx r (λs' I' _=>h s' I') hf
def Inv.call' (I:Inv X pins σ H s) (ho:s'.os = s.os) (u:Un (frs X.stack) ch H H' s.heap s'.heap) (hok:HOk X.prog X.w H' s'.heap) (hg:mL s'.gens)
 (hch:∀ b∈ch,(b∈X.ex\/X.s₀.heap.objs.size<=b)/\b≠X.env.locals/\(∀ x c,X.env.cells.lookup x = some c->c≠b)/\∀ p∈X.pn++pins,p.1≠b):Inv X pins σ H' s':=by
 obtain ⟨h',g',d',t',o'⟩:=s';have e:o' = s.os:=ho;subst e;exact I.call (g':=g') (t':=t') (d':=d') u hok hg hch
end
abbrev XK:=ae->Option aw->Hp->Prop
abbrev St:=List (Option V)
abbrev VK:=V->Hp->Prop
abbrev TE:=St->Hp->VK->Prop
abbrev TT:=St->Hp->(Bool->Hp->Prop)->Prop
abbrev TA:=St->Hp->(List V->Hp->Prop)->Prop
structure Ends where
 nx:St->Hp->Prop
 rt:VK
 bk:St->Hp->Prop:=λ_ _=>False
 ct:St->Hp->Prop:=λ_ _=>False
abbrev TS:=Ends->St->Hp->Prop
def EP (X:Cx) (pins:List (aw × Obj)) (σ:St) (Q:VK) (u:ae) (s':ai):Prop:=∃ v H',Inv X pins σ H' s'/\RelV v u/\Q v H'
def TP (X:Cx) (pins:List (aw × Obj)) (σ:St) (Q:Bool->Hp->Prop) (b:Bool) (s':ai):Prop:=∃ H',Inv X pins σ H' s'/\Q b H'
def AP (X:Cx) (pins:List (aw × Obj)) (σ:St) (Q:List V->Hp->Prop) (us:List ae) (s':ai):Prop:=∃ vs H',Inv X pins σ H' s'/\Vals vs us/\Q vs H'
def SP (X:Cx) (pins:List (aw × Obj)) (D:Ends) (f:Flow) (s':ai):Prop :=
 match f with
 | .next=>∃ σ' H',Inv X pins σ' H' s'/\D.nx σ' H'
 | .brk=>∃ σ' H',Inv X pins σ' H' s'/\D.bk σ' H'
 | .cont=>∃ σ' H',Inv X pins σ' H' s'/\D.ct σ' H'
 | .ret u=>∃ v σ' H',Inv X pins σ' H' s'/\RelV v u/\D.rt v H'
def PE (X:Cx) (e:aH) (t:TE):Prop :=
 ∀ (pins:List (aw × Obj)) (s:ai) (σ:St) (H:Hp) (Q:VK),Inv X pins σ H s->t σ H Q->wpAny (model X.prog X.w) X.A (eval e X.env) (EP X pins σ Q) X.xe s
def PT (X:Cx) (e:aH) (t:TT):Prop :=
 ∀ (pins:List (aw × Obj)) (s:ai) (σ:St) (H:Hp) (Q:Bool->Hp->Prop),Inv X pins σ H s->t σ H Q->wpAny (model X.prog X.w) X.A (isTrue e X.env (eval e X.env)) (TP X pins σ Q) X.xe s
def PW (X:Cx) (e:aH) (t:TT):Prop :=
 ∀ (whole:Sem ae) (pins:List (aw × Obj)) (s:ai) (σ:St) (H:Hp) (Q:Bool->Hp->Prop),Inv X pins σ H s->t σ H Q->wpAny (model X.prog X.w) X.A (isTrue e X.env whole) (TP X pins σ Q) X.xe s
def PW.pt {X:Cx} {e:aH} {t:TT} (h:PW X e t):PT X e t:=h _
def PA (X:Cx) (es:List aH) (t:TA):Prop :=
 ∀ (pos:Pos) (pins:List (aw × Obj)) (s:ai) (σ:St) (H:Hp) (Q:List V->Hp->Prop),Inv X pins σ H s->t σ H Q->wpAny (model X.prog X.w) X.A (spliced (backTo pos (starEach es X.env))) (AP X pins σ Q) X.xe s
def PS (X:Cx) (st:dD) (t:TS):Prop :=
 ∀ (pins:List (aw × Obj)) (s:ai) (σ:St) (H:Hp) (D:Ends),Inv X pins σ H s->t D σ H->wpAny (model X.prog X.w) X.A (exec st X.env) (SP X pins D) X.xe s
def PSs (X:Cx) (st:List dD) (t:TS):Prop :=
 ∀ (pins:List (aw × Obj)) (s:ai) (σ:St) (H:Hp) (D:Ends),Inv X pins σ H s->t D σ H->wpAny (model X.prog X.w) X.A (execs st X.env) (SP X pins D) X.xe s
def thn {α:Type} {t:Sem α} {Q Q':α->ai->Prop} {M:mP} {A:aW} {E:ae->ai->Prop} {s:ai} (h:wpAny M A t Q E s) (hQ:∀ a s,Q a s->Q' a s):wpAny M A t Q' E s:=dR h hQ λ_ _ x=>x
end L2
namespace L2
open PySem PySem.Spec PyProof.Rows
section
variable {X:Cx}
def OI (i:Nat):TE:=λσ H Q=>∃ v,σ[i]? = some (some v)/\Q v H
def tC (v:V):TE:=λ_ H Q=>Q v H
def mv (hN:X.N[i]? = some x) (hv:Vis X.env.scope x) (hd:(x == ("__debug__":Str)) = false:=by decide) (hcd:(x == ("__classdict__":Str)) = false:=by decide):PE X (.Name x pos) (OI i):=by
 intro pins s σ H Q I h;obtain ⟨v,e,h⟩:=h;obtain ⟨m,hn,hl⟩:=I.loc;obtain ⟨u,r,l⟩:=hl i x v hN e hv;have fin:EP X pins σ Q u s:=⟨v,H,I,r,h⟩;rcases l with ⟨hk,hm⟩ | ⟨hk,c,hc,hcell⟩
 . exact MW (wpAny_loadName_local I.ok.kind hk hn hm fin) hd
 . rcases hk with hk | hk
   . exact MW (wpAny_loadName_cell I.ok.kind hk hc hcell fin) hd
   . exact MW (wpAny_loadName_free I.ok.kind hk hc hcell fin hcd) hd
def Lx:PE X (.Constant (.int i) j pos) (tC (.int i)):=λ_ _ _ H _ I h=>wpAny_Constant_int ⟨.int i,H,I.tok _,⟨_,rfl⟩,h⟩
def NR:PE X (.Constant (.bool b) j pos) (tC (.bl b)):=λ_ _ _ H _ I h=>Constant_bool ⟨.bl b,H,I,rfl,h⟩
def Lw:PE X (.Constant .none j pos) (tC .non):=λ_ _ _ H _ I h=>Constant_none ⟨.non,H,I,rfl,h⟩
def Lu:PE X (.Constant (.str x) j pos) (tC (.str x)):=λ_ _ _ H _ I h=>Calls.Constant_str ⟨.str x,H,I.tok _,⟨_,rfl⟩,h⟩
def Gl (X:Cx) (x:Str):Prop:=X.env.kindOf x = some .globalImplicit
def Ao (I:Inv X pins σ H s) (hg:Gl X x) (hm:X.mg x = some u) (h:Q u s)
 (hd:(x == ("__debug__":Str)) = false:=by decide):wpAny (model X.prog X.w) X.A (eval (.Name x pos) X.env) Q E s :=
 sf I.ok.kind hg (Calls.loadGlobal_global (by rw [I.ok.glob];exact I.mod.glob.keeps I.bk) hm h) hd
def mC {E:ae->ai->Prop} {pins:List (aw × Obj)} {s:ai} {σ:St} {H:Hp} {x:Str} {u:ae} {pos:Pos} {Q:ae->ai->Prop} (I:Inv X pins σ H s) (hg:Gl X x) (hm:X.mg x = none) (hv:bootBuiltins x = some u) (h:Q u s)
 (hn:x≠"__name__":=by decide) (hd:(x == ("__debug__":Str)) = false:=by decide):wpAny (model X.prog X.w) X.A (eval (.Name x pos) X.env) Q E s:=by
 obtain ⟨mb,h1,h2⟩:=I.mod.blt;exact sf I.ok.kind hg (Calls.loadGlobal_builtin (by rw [I.ok.glob];exact I.mod.glob.keeps I.bk) hm (by rw [I.ok.blt];exact h1.keeps I.bk) ((h2 x hn).trans hv) h) hd
def Iy (hg:Gl X x) (hm:X.mg x = some u) (r:RelV v u) (hd:(x == ("__debug__":Str)) = false:=by decide):PE X (.Name x pos) (tC v) :=
 λ_ _ _ H _ I h=>Ao I hg hm ⟨v,H,I,r,h⟩ hd
def IB (hg:Gl X x) (hm:X.mg x = none) (hv:bootBuiltins x = some u) (r:RelV v u) (hn:x≠"__name__":=by decide) (hd:(x == ("__debug__":Str)) = false:=by decide):PE X (.Name x pos) (tC v) :=
 λ_ _ _ H _ I h=>mC I hg hm hv ⟨v,H,I,r,h⟩ hn hd
variable {a b:aH} {ta tb:TE} {pos:Pos}
variable {tA tB':TT} {rest:List aH}
def OS (t u:TT):TT:=λσ H Q=>t σ H λc H1=>if c = true then u σ H1 Q else Q false H1
def tOr (t u:TT):TT:=λσ H Q=>t σ H λc H1=>if c = true then Q true H1 else u σ H1 Q
def ON (t:TT):TT:=λσ H Q=>t σ H λc H1=>Q (!c) H1
def Im (ha:PT X a tA):PW X (.BoolOp .And [a] pos) tA:=by
 intro wh pins s σ H Q I h;refine isTrue_and (thn (ha pins s σ H Q I h) λc s1 e=>?_)
 cases c with
 | true=>exact isTrue_and_nil e
 | false=>exact e
def Le (ha:PT X a tA):PW X (.BoolOp .Or [a] pos) tA:=by
 intro wh pins s σ H Q I h;refine isTrue_or (thn (ha pins s σ H Q I h) λc s1 e=>?_)
 cases c with
 | false=>exact isTrue_or_nil e
 | true=>exact e
def Lf (ha:PT X a tA) (hb:PW X (.BoolOp .And (b::rest) pos) tB'):PW X (.BoolOp .And (a::b::rest) pos) (OS tA tB'):=by
 intro wh pins s σ H Q I h;refine isTrue_and (thn (ha pins s σ H _ I h) λc s1 ⟨H1,I1,q1⟩=>?_)
 cases c with
 | true=>exact hb wh pins s1 σ H1 Q I1 q1
 | false=>exact ⟨H1,I1,q1⟩
def NM (ha:PT X a tA) (hb:PW X (.BoolOp .Or (b::rest) pos) tB'):PW X (.BoolOp .Or (a::b::rest) pos) (tOr tA tB'):=by
 intro wh pins s σ H Q I h;refine isTrue_or (thn (ha pins s σ H _ I h) λc s1 ⟨H1,I1,q1⟩=>?_)
 cases c with
 | true=>exact ⟨H1,I1,q1⟩
 | false=>exact hb wh pins s1 σ H1 Q I1 q1
def Lg (ha:PT X a tA):PT X (.UnaryOp .Not a pos) (ON tA):=by
 intro pins s σ H Q I h;exact isTrue_not (ha pins s σ H (λc H1=>Q (!c) H1) I h)
def NB (ta tb:TE):TE:=λσ H Q=>ta σ H λx H1=>∃ c,x = .bl c/\if c = true then tb σ H1 Q else Q (.bl false) H1
def OM (ta tb:TE):TE:=λσ H Q=>ta σ H λx H1=>∃ c,x = .bl c/\if c = true then Q (.bl true) H1 else tb σ H1 Q
def Nx (ta:TE):TE:=λσ H Q=>ta σ H λx H1=>∃ c,x = .bl c/\Q (.bl (!c)) H1
def Ez (h:PE X a t):PE X (.BoolOp op [a] pos) t:=λpins s σ H Q I hw=>BoolOp_one (h pins s σ H Q I hw)
def Lz (ha:PE X a ta) (hb:PE X (.BoolOp .And (b::rest) pos) tb):PE X (.BoolOp .And (a::b::rest) pos) (NB ta tb):=by
 intro pins s σ H Q I h;refine BoolOp_and (thn (ha pins s σ H _ I h) λv s1 ⟨x,H1,I1,r1,q1⟩=>?_);obtain ⟨c,rfl,q1⟩:=q1;cases r1;refine eH ?_
 cases c with
 | true=>exact hb pins s1 σ H1 Q I1 q1
 | false=>exact ⟨.bl false,H1,I1,rfl,q1⟩
def NP (ha:PE X a ta) (hb:PE X (.BoolOp .Or (b::rest) pos) tb):PE X (.BoolOp .Or (a::b::rest) pos) (OM ta tb):=by
 intro pins s σ H Q I h;refine BoolOp_or (thn (ha pins s σ H _ I h) λv s1 ⟨x,H1,I1,r1,q1⟩=>?_);obtain ⟨c,rfl,q1⟩:=q1;cases r1;refine eH ?_
 cases c with
 | false=>exact hb pins s1 σ H1 Q I1 q1
 | true=>exact ⟨.bl true,H1,I1,rfl,q1⟩
def Lv (ha:PE X a ta):PE X (.UnaryOp .Not a pos) (Nx ta):=by
 intro pins s σ H Q I h;refine UnaryOp_ (thn (ha pins s σ H _ I h) λv s1 ⟨x,H1,I1,r1,q1⟩=>?_);obtain ⟨c,rfl,q1⟩:=q1;cases r1;exact not_of (eH ⟨.bl (!c),H1,I1,rfl,q1⟩)
def tIf (t:TT) (ta tb:TE):TE:=λσ H Q=>t σ H λc H1=>if c = true then ta σ H1 Q else tb σ H1 Q
def EC {c:aH} (hc:PT X c tA) (ha:PE X a ta) (hb:PE X b tb):PE X (.IfExp c a b pos) (tIf tA ta tb):=by
 intro pins s σ H Q I h;refine wpAny_IfExp (thn (hc pins s σ H _ I h) λd s1 ⟨H1,I1,q1⟩=>?_)
 cases d with
 | true=>exact ha pins s1 σ H1 Q I1 q1
 | false=>exact hb pins s1 σ H1 Q I1 q1
end
end L2
namespace L2
open PySem PySem.Spec PyProof.Rows
def SqL (K:PySem.W.Frag) (H:Hp) (a:aw) (xs:List V):Prop :=
 Rd H a (.lst xs) \/
  ∃ (o:Obj) (its:Array ae) (n:Nat),K.lookup a = some o/\o.cls = .type "list"/\o.dict = none/\o.data = .seq its n/\its.size<=sizeLine/\Vals xs its.toList
def SqT (K:PySem.W.Frag) (H:Hp) (a:aw) (xs:List V):Prop :=
 Rd H a (.tup xs) \/
  ∃ (o:Obj) (its:Array ae) (n:Nat),K.lookup a = some o/\o.cls = .type "tuple"/\o.data = .seq its n/\its.size<=sizeLine/\Vals xs its.toList
def Pp:ae->Option V
 | .none=>some .non
 | .bool b=>some (.bl b)
 | .int i _=>some (.int i)
 | .str x _=>some (.str x)
 | .ref a=>some (.ref a)
 | .type n=>some (.ty n)
 | _=>none
def RelV.abs (r:RelV x u):Pp u = some x:=by
 cases x with
 | non=>cases r;rfl
 | bl _=>cases r;rfl
 | int _=>obtain ⟨t,rfl⟩:=r;rfl
 | str _=>obtain ⟨t,rfl⟩:=r;rfl
 | ref _=>cases r;rfl
 | ty _=>cases r;rfl
def RelV.inj {x y:V} {u:ae} (r:RelV x u) (q:RelV y u):x = y:=cH (r.abs.symm.trans q.abs)
def Vals.inj:∀ {xs ys:List V} {us:List ae},Vals xs us->Vals ys us->xs = ys
 | _,_,_,.nil,.nil=>rfl
 | _,_,_,.cons r t,.cons r' t'=>by rw [r.inj r',Vals.inj t t']
section
variable {X:Cx} {pins:List (aw × Obj)} {σ:St} {H:Hp} {s:ai} {a:aw} {xs ys:List V}
def SqT.of {K:PySem.W.Frag} (h:H a = some (.tup xs)):SqT K H a xs:=.inl (.inl h)
def Inv.list (I:Inv X pins σ H s) (h:SqL X.K H a xs):∃ its:List ae,Vals xs its/\PlainL s.heap a its.toArray/\xs.length<=sizeLine:=by
 rcases h with h | ⟨o,its,n,hk,hc,hd,hs,hz,r⟩
 . obtain ⟨z,its,n,r,e⟩:=h.ok I.hok;exact ⟨its,r,⟨_,n,e,rfl,rfl,rfl⟩,z⟩
 . refine ⟨its.toList,r,⟨o,n,I.kIn a o hk,hc,hd,by simpa using hs⟩,?_⟩;have e:=r.length;simp only [aK] at e
   lia
def Inv.tuple (I:Inv X pins σ H s) (h:SqT X.K H a xs):∃ its:List ae,Vals xs its/\JE s.heap a its.toArray/\xs.length<=sizeLine:=by
 rcases h with h | ⟨o,its,n,hk,hc,hs,hz,r⟩
 . obtain ⟨z,its,r,p⟩:=h.ok I.hok;exact ⟨its,r,p,z⟩
 . refine ⟨its.toList,r,⟨o,I.kIn a o hk,hc,n,by simpa using hs⟩,?_⟩;have e:=r.length;simp only [aK] at e
   lia
def Inv.list_inj (I:Inv X pins σ H s) (h:SqL X.K H a xs) (h':SqL X.K H a ys):xs = ys:=by
 obtain ⟨its,r,⟨o,n,e,_,_,d⟩,_⟩:=I.list h;obtain ⟨its',r',⟨o',n',e',_,_,d'⟩,_⟩:=I.list h';rw [e] at e';cases e';rw [d] at d';injection d' with d1 _;have:its = its':=by simpa using congrArg Array.toList d1
 subst this;exact r.inj r'
def Inv.tuple_inj (I:Inv X pins σ H s) (h:SqT X.K H a xs) (h':SqT X.K H a ys):xs = ys:=by
 obtain ⟨its,r,⟨o,e,_,n,d⟩,_⟩:=I.tuple h;obtain ⟨its',r',⟨o',e',_,n',d'⟩,_⟩:=I.tuple h';rw [e] at e';cases e';rw [d] at d';injection d' with d1 _;have:its = its':=by simpa using congrArg Array.toList d1
 subst this;exact r.inj r'
end
abbrev Cx.wish (X:Cx) (E:ae->ai->Prop):Cx:={ X with xe:=E }
abbrev Cx.nox (X:Cx):Cx:=X.wish λ_ _=>False
def Cx.Ok.wish {X:Cx} (ok:X.Ok) (E:ae->ai->Prop):(X.wish E).Ok :=
 ⟨ok.mod,ok.kind,ok.glob,ok.blt,ok.above,ok.inj,ok.has,ok.cab,ok.hd,ok.frames,ok.stk,ok.exf,ok.bs,ok.bsz,ok.noex,ok.exfs,ok.funs,ok.frf⟩
def Cx.Ok.unwish {X:Cx} {E:ae->ai->Prop} (ok:(X.wish E).Ok):X.Ok :=
 ⟨ok.mod,ok.kind,ok.glob,ok.blt,ok.above,ok.inj,ok.has,ok.cab,ok.hd,ok.frames,ok.stk,ok.exf,ok.bs,ok.bsz,ok.noex,ok.exfs,ok.funs,ok.frf⟩
section
variable {X:Cx} {pins:List (aw × Obj)} {σ:St} {H:Hp} {s:ai} {E:ae->ai->Prop}
def Inv.wish (I:Inv X pins σ H s) (E:ae->ai->Prop):Inv (X.wish E) pins σ H s:=⟨I.ok.wish E,I.os,I.bare,I.base,I.loc,I.cell,I.free,I.freeC,I.pin,I.hok,I.len⟩
def Inv.unwish (I:Inv (X.wish E) pins σ H s):Inv X pins σ H s:=⟨I.ok.unwish,I.os,I.bare,I.base,I.loc,I.cell,I.free,I.freeC,I.pin,I.hok,I.len⟩
def SP.unwish {D:Ends} {f:Flow} {s':ai} (h:SP (X.wish E) pins D f s'):SP X pins D f s':=by
 cases f with
 | next=>obtain ⟨σ',H',I,q⟩:=h;exact ⟨σ',H',I.unwish,q⟩
 | brk=>obtain ⟨σ',H',I,q⟩:=h;exact ⟨σ',H',I.unwish,q⟩
 | cont=>obtain ⟨σ',H',I,q⟩:=h;exact ⟨σ',H',I.unwish,q⟩
 | ret u=>obtain ⟨v,σ',H',I,r,q⟩:=h;exact ⟨v,σ',H',I.unwish,r,q⟩
def PSs.nox {st:List dD} {t:TS} (h:PSs X.nox st t):PSs X st t:=λpins s σ H D I hw =>
 dR (h pins s σ H D (I.wish _) hw) (λ_ _ q=>q.unwish) λ_ _ z=>dW z
end
section
variable {X:Cx} {st:dD} {rest:List dD} {t u:TS} {e:aH} {te:TE} {pos:Pos}
def Ny:TS:=λD σ H=>D.nx σ H
def OK (t u:TS):TS:=λD σ H=>t { D with nx:=u D } σ H
def Iq:PSs X [] Ny:=λ_ _ σ H _ I h=>xI ⟨σ,H,I,h⟩
def Er (h1:PS X st t) (h2:PSs X rest u):PSs X (st::rest) (OK t u):=by
 intro pins s σ H D I h;refine wpAny_execs_cons (thn (h1 pins s σ H { D with nx:=u D } I h) λf s1 q=>?_)
 cases f with
 | next =>
   obtain ⟨σ',H',I',q⟩:=q
   exact h2 pins s1 σ' H' D I' q
 | ret v=>exact q
 | brk=>exact q
 | cont=>exact q
def Inv.quiet {pins:List (aw × Obj)} {σ:St} {H:Hp} {s:ai} (I:Inv X pins σ H s):interactive X.env = false:=by simp [interactive,I.ok.kind]
def Nz (te:TE):TS:=λD σ H=>te σ H λ_ H1=>D.nx σ H1
def Aa (he:PE X e te) (hs:swapsWith e none pos.line X.env = pure false:=by rfl):PS X (.Expr e pos) (Nz te):=by
 intro pins s σ H D I h;exact wpAny_Expr_any (thn (he pins s σ H _ I h) λv s1 ⟨x,H1,I1,r1,q1⟩=>⟨σ,H1,I1,q1⟩) I.quiet hs
def OL (te:TE):TS:=λD σ H=>te σ H D.rt
def Li (he:PE X e te):PS X (.Return (some e) pos) (OL te):=by
 intro pins s σ H D I h;exact wpAny_Return_some (thn (he pins s σ H _ I h) λv s1 ⟨x,H1,I1,r1,q1⟩=>⟨x,σ,H1,I1,r1,q1⟩)
def OP (c:TT) (t u:TS):TS:=λD σ H=>c σ H λb H1=>if b = true then t D σ H1 else u D σ H1
def NN {c:aH} {a b:List dD} {tc:TT} (hc:PT X c tc) (ha:PSs X a t) (hb:PSs X b u):PS X (.If c a b pos) (OP tc t u):=by
 intro pins s σ H D I h;refine wpAny_If (thn (hc pins s σ H _ I h) λd s1 ⟨H1,I1,q1⟩=>?_)
 cases d with
 | true=>exact ha pins s1 σ H1 D I1 q1
 | false=>exact hb pins s1 σ H1 D I1 q1
end
abbrev TG:=V->St->Hp->(St->Hp->Prop)->Prop
abbrev TGs:=List V->St->Hp->(St->Hp->Prop)->Prop
def PG (X:Cx) (target:aH) (t:TG):Prop :=
 ∀ (pins:List (aw × Obj)) (s:ai) (σ:St) (H:Hp) (v:V) (u:ae) (Q:St->Hp->Prop),Inv X pins σ H s->RelV v u->t v σ H Q ->
  wpAny (model X.prog X.w) X.A (assign target X.env u) (λ_ s'=>∃ σ' H',Inv X pins σ' H' s'/\Q σ' H') X.xe s
def PGs (X:Cx) (ts:List aH) (t:TGs):Prop :=
 ∀ (pins:List (aw × Obj)) (s:ai) (σ:St) (H:Hp) (vs:List V) (us:List ae) (Q:St->Hp->Prop),Inv X pins σ H s->Vals vs us->t vs σ H Q ->
  wpAny (model X.prog X.w) X.A (assignInOrder ((assignEach ts X.env).map (·.2)) us) (λ_ s'=>∃ σ' H',Inv X pins σ' H' s'/\Q σ' H') X.xe s
abbrev MT:=V->V->V->Hp->(Hp->Prop)->Prop
def OE (X:Cx) (t:MT):Prop :=
 ∀ (pins:List (aw × Obj)) (s:ai) (σ:St) (H:Hp) (o i v:V) (ov iv u:ae) (Q:Hp->Prop),Inv X pins σ H s->RelV o ov->RelV i iv->RelV v u->t o i v H Q ->
  wpAny (model X.prog X.w) X.A (setItem ov iv u) (λ_ s'=>∃ H',Inv X pins σ H' s'/\Q H') X.xe s
section
variable {X:Cx} {pos:Pos}
def wZ (i:Nat):TG:=λv σ H Q=>Q (σ.set i (some v)) H
def Ac (hN:X.N.Nodup) (hi:X.N[i]? = some x) (hx:Loc X.env.scope x) (hf:X.fn x = true\/X.env.scope.names.lookup x = some .local:=by first | exact .inl rfl | exact .inr rfl | assumption):PG X (.Name x pos) (wZ i):=by
 intro pins s σ H v u Q I r h;exact MZ (qr I hN hi hx r (λs' I'=>⟨_,H,I',h⟩) hf)
def Oq:TGs:=λvs σ H Q=>vs = []/\Q σ H
def JR (t:TG) (u:TGs):TGs:=λvs σ H Q=>∃ v r,vs = v::r/\t v σ H λσ' H'=>u r σ' H' Q
def Iw:PGs X [] Oq:=by
 intro pins s σ H vs us Q I r h;obtain ⟨e,h⟩:=h;subst e;cases r;exact assignInOrder_nil ⟨σ,H,I,h⟩
def Ey {e:aH} {es:List aH} {t:TG} {u:TGs} (h1:PG X e t) (h2:PGs X es u)
 (hs:(assignEach (e::es) X.env).map (·.2) = assign e X.env::(assignEach es X.env).map (·.2):=by rfl):PGs X (e::es) (JR t u):=by
 intro pins s σ H vs us Q I r h;obtain ⟨v,vr,e1,h⟩:=h;subst e1
 cases r with
 | cons r rr =>
   rw [hs];refine assignInOrder_cons (thn (h1 pins s σ H _ _ _ I r h) λ_ s1 ⟨σ1,H1,I1,q1⟩=>?_);exact h2 pins s1 σ1 H1 _ _ Q I1 rr q1
def Pj (K:PySem.W.Frag) (n:Nat) (t:TGs):TG:=λv σ H Q=>∃ a xs,v = .ref a/\SqT K H a xs/\xs.length = n/\t xs σ H Q
def Lo (hc:X.calm = true) (h:PGs X es t)
 (hn:(assignEach es X.env).length = n:=by rfl) (hst:(assignEach es X.env).findIdx? (·.1) = none:=by rfl):PG X (.Tuple es k pos) (Pj X.K n t):=by
 intro pins s σ H v u Q I r hw;obtain ⟨a,xs,e1,hq,hl,hw⟩:=hw;subst e1;cases r;obtain ⟨its,rv,ht,hz⟩:=I.tuple hq;refine assign_Tuple_tuple (I.ok.hd hc) ht (by simp [hn,<- hl,rv.length]) hst λh' hx=>?_;have I1:Inv X pins σ H { s with heap:=h' }:=I.kept (t':=s.toks) λb o e=>hx b o (aO (aE e)) e;exact h pins _ σ H xs _ Q I1 (by simpa using rv) hw
def Pk (to ti:TE) (t:MT):TG:=λv σ H Q=>to σ H λo H1=>ti σ H1 λi H2=>t o i v H2 λH3=>Q σ H3
def Lp {o i:aH} {to ti:TE} {t:MT} (ho:PE X o to) (hi:PE X i ti) (hs:OE X t)
 (ha:∀ v,assign (.Subscript o i pos) X.env v = (do
   let ov <- holding [v] (eval o X.env)
   let iv <- holding [v,ov] (eval i X.env)
   standAt pos
   holding [v,ov,iv] (setItem ov iv v)
   release [v,ov,iv] []):=by intro _;rfl):PG X (.Subscript o i pos) (Pk to ti t):=by
 intro pins s σ H v u Q I r h;rw [ha];refine ab (bY (thn (ho pins s σ H _ I h) λov s1 ⟨x,H1,I1,r1,q1⟩=>?_));refine ab (bY (thn (hi pins s1 σ H1 _ I1 q1) λiv s2 ⟨y,H2,I2,r2,q2⟩=>?_));refine ab (gP (ab (bY (thn (hs pins s2 σ H2 x y v ov iv u _ I2 r1 r2 r q2) λ_ s3 ⟨H3,I3,q3⟩=>?_))));exact wpAny_release ⟨σ,H3,I3,q3⟩
def HC (te:TE) (g:TG):TS:=λD σ H=>te σ H λx H1=>g x σ H1 D.nx
def Ew {tg e:aH} {te:TE} {g:TG} (he:PE X e te) (hg:PG X tg g) (hs:swapsWithSole [tg] e pos.line X.env = pure false:=by rfl) (hw:swappedStores [tg] e X.env = pure none:=by rfl)
 (h1:(assignEach [tg] X.env).map (·.2) = [assign tg X.env]:=by rfl):PS X (.Assign [tg] e pos) (HC te g):=by
 intro pins s σ H D I h;refine wpAny_Assign_stores (thn (he pins s σ H _ I h) λv s1 ⟨x,H1,I1,r1,q1⟩=>?_) hs hw;rw [h1];exact thn (hg pins s1 σ H1 x v _ I1 r1 q1) λ_ s2 q=>q
def Lh {i:Nat} {x:Str} {e:aH} {te:TE} {pos':Pos} (hN:X.N.Nodup) (hi:X.N[i]? = some x) (hx:Loc X.env.scope x) (he:PE X e te) (hs:swapsWith e (some (.Name x pos')) pos.line X.env = pure false:=by rfl) (hf:X.fn x = true\/X.env.scope.names.lookup x = some .local:=by first | exact .inl rfl | exact .inr rfl | assumption) :
 PS X (.Assign [.Name x pos'] e pos) (HC te (wZ i)):=by
 intro pins s σ H D I h;refine wpAny_Assign_Name (thn (he pins s σ H _ I h) λv s1 ⟨y,H1,I1,r1,q1⟩=>?_) hs;exact qr I1 hN hi hx r1 (λs2 I2=>⟨_,H1,I2,q1⟩) hf
end
section
variable {X:Cx} {pos:Pos}
def KC (c:TT) (tb:TS):TS:=λD σ H=>∃ W:Nat->St->Hp->Prop,(∃ m,W m σ H)/\∀ m σ H,W m σ H ->
 c σ H λb H1=>if b = true then ∃ N:St->Hp->Prop,(∀ σ' H',N σ' H'->∃ m',m' < m/\W m' σ' H')/\tb { D with nx:=N,ct:=N,bk:=D.nx } σ H1 else D.nx σ H1
def Et {c:aH} {body:List dD} {tc:TT} {tb:TS} (hp:CD (model X.prog X.w) X.A X.env X.xe) (hc:PT X c tc) (hb:PSs X body tb):PS X (.While c body [] pos) (KC tc tb):=by
 intro pins s σ H D I h;obtain ⟨W,⟨m0,w0⟩,turn⟩:=h;refine wpAny_While (codeAny_whileLoop (λn s'=>∃ σ' H',Inv X pins σ' H' s'/\W n σ' H') ?_ m0 ⟨σ,H,I,w0⟩);rintro n s1 ⟨σ1,H1,I1,w1⟩;refine fH hp (thn (hc pins s1 σ1 H1 _ I1 (turn n σ1 H1 w1)) λb s2 ⟨H2,I2,q2⟩=>?_)
 cases b with
 | true =>
   obtain ⟨N,hN,q2⟩:=q2;rw [if_pos rfl];refine fH hp (thn (hb pins s2 σ1 H2 _ I2 q2) λf s3 q3=>?_)
   cases f with
   | next =>
     obtain ⟨σ3,H3,I3,n3⟩:=q3;obtain ⟨m',hm,w3⟩:=hN σ3 H3 n3
     exact ⟨m',hm,σ3,H3,I3,w3⟩
   | cont =>
     obtain ⟨σ3,H3,I3,n3⟩:=q3;obtain ⟨m',hm,w3⟩:=hN σ3 H3 n3
     exact ⟨m',hm,σ3,H3,I3,w3⟩
   | brk=>exact q3
   | ret v=>exact q3
 | false =>
   rw [if_neg aj];exact xI ⟨σ1,H2,I2,q2⟩
end
structure It where
 go:Nat->Hp->Prop
 yld:Nat->Hp->V->Hp->Prop
 stop:Nat->Hp->Prop
def ko (X:Cx) (pins:List (aw × Obj)) (H:Hp) (b:aw):Prop :=
 H b = none/\b≠X.env.locals/\b∉X.fs/\(b∈X.ex\/X.s₀.heap.objs.size<=b)/\(∀ x c,X.env.cells.lookup x = some c->c≠b)/\∀ p∈X.pn++pins,p.1≠b
def Inv.fpOk (I:Inv X pins σ H s) (hb:s.heap.objs.size<=b) (hn:H' b = none):ko X pins H' b:=by
 refine ⟨hn,fe (bz I.lt hb),I.nofs hb,.inr (bj I.sz hb),λx c e z=>?_,λp hp z=>?_⟩
 . obtain ⟨v,q⟩:=I.cell x c e;exact absurd (bz q.lt (by rw [z];exact hb)) (bX _)
 . exact absurd (bz (aE (I.pin p hp).1) (by rw [z];exact hb)) (bX _)
structure Turn (P:aS) (w:bD) (K:PySem.W.Frag) (tg:aH) (J:It) (fp:List aw) (it:aw) (tn:Nat->cb->Prop):Prop where
 mem:it∈fp
 obj:∀ i h,tn i h->∀ b∈fp,∃ o,h.get? b = some o/\∀ v,o.data≠.cell v
 keep:∀ i h h',tn i h->(∀ b∈fp,∀ o,h.get? b = some o->h'.get? b = some o)->tn i h'
 item:∀ (X:Cx),X.prog = P->X.w = w->X.K = K->X.calm = true->∀ (i:Nat) (pins:List (aw × Obj)) (s:ai) (σ:St) (H:Hp) (E:ae->ai->Prop),Inv X pins σ H s->(∀ b∈fp,ko X pins H b)->tn i s.heap->J.go i H ->
  wpAny (model P w) X.A (pyNext (.ref it)) (λr s1=>∃ u,r = some u /\
   wpAny (model P w) X.A (letOwnedTupleGo tg (.ref it) u) (λ_ s2=>∃ x H',Inv X pins σ H' s2/\RelV x u/\J.yld i H x H'/\tn (i+1) s2.heap/\∀ b∈fp,H' b = none) E s1) E s
 done:∀ (X:Cx),X.prog = P->X.w = w->X.K = K->X.calm = true->∀ (i:Nat) (pins:List (aw × Obj)) (s:ai) (σ:St) (H:Hp) (E:ae->ai->Prop),Inv X pins σ H s->(∀ b∈fp,ko X pins H b)->tn i s.heap->J.stop i H ->
  wpAny (model P w) X.A (pyNext (.ref it)) (λr s1=>r = none/\Inv X pins σ H s1) E s
 self:∀ (A:aW) (i:Nat) (s:ai) (Q:ae->ai->Prop) (E:ae->ai->Prop),tn i s.heap->Q (.ref it) s->wpAny (model P w) A (pyIter (.ref it)) Q E s
abbrev TI:=St->Hp->(It->Hp->Prop)->Prop
def PIE (X:Cx) (pins:List (aw × Obj)) (σ:St) (tg:aH) (R:It->Hp->Prop) (itv:ae) (s2:ai):Prop :=
 ∃ (it:aw) (fp:List aw) (tn:Nat->cb->Prop) (J:It) (H':Hp),itv = .ref it/\Inv X pins σ H' s2/\Turn X.prog X.w X.K tg J fp it tn/\tn 0 s2.heap/\(∀ b∈fp,ko X pins H' b)/\R J H'
def PI (X:Cx) (tg iter:aH) (wi:TI):Prop :=
 ∀ (pins:List (aw × Obj)) (s:ai) (σ:St) (H:Hp) (R:It->Hp->Prop),Inv X pins σ H s->wi σ H R ->
  wpAny (model X.prog X.w) X.A (eval iter X.env) (λv s1=>wpAny (model X.prog X.w) X.A (pyIter v) (PIE X pins σ tg R) X.xe s1) X.xe s
def wY (ho:s.heap.get? it = some o) (hc:o.cls = .type n) (hd:o.data = .fields vs)
 (hn:["enumerate","zip","dict_itemiterator","dict_reverseitemiterator","odict_iterator","itertools.zip_longest","itertools.pairwise"].contains n = false) (hQ:Q () s):wpAny M A (letOwnedTupleGo tg (.ref it) u) Q E s:=by
 unfold letOwnedTupleGo
 cases tg<;>first
  | exact aq hQ
  | (cases u<;>first
      | exact aq hQ
      | (refine ab (wpAny_load ho ?_)
         rw [hc,hd];show wpAny M A (if (["enumerate","zip","dict_itemiterator","dict_reverseitemiterator","odict_iterator","itertools.zip_longest","itertools.pairwise"].contains n && vs[0]? == some (rawInt _)) = true then _ else _) Q E s;rw [if_neg (by intro h;rw [hn,Bool.false_and] at h;cases h)];exact aq hQ))
def Itl (K:PySem.W.Frag) (a:aw):It :=
 ⟨λi H=>∃ xs x,SqL K H a xs/\xs[i]? = some x,λi H x H'=>H' = H/\∀ xs,SqL K H a xs->xs[i]? = some x,λi H=>∃ xs,SqL K H a xs/\xs.length<=i⟩
def Itt (K:PySem.W.Frag) (a:aw):It :=
 ⟨λi H=>∃ xs x,SqT K H a xs/\xs[i]? = some x,λi H x H'=>H' = H/\∀ xs,SqT K H a xs->xs[i]? = some x,λi H=>∃ xs,SqT K H a xs/\xs.length<=i⟩
def Itr (lo:Int) (n:Nat):It:=⟨λi _=>i < n,λi H x H'=>H' = H/\x = .int (lo+i),λi _=>n<=i⟩
def Bt {P:aS} {w:bD} {K:PySem.W.Frag} {tg:aH} (a it:aw):Turn P w K tg (Itl K a) [it] it (λi h=>h.IsListIter it a i) where
 mem:=by simp
 obj:=λi h st b hb=>by
  have e:b = it:=by simpa using hb
  subst e;obtain ⟨o,e,c,d⟩:=st;exact ⟨o,e,λv z=>by rw [d] at z;cases z⟩
 keep:=λi h h' st k=>st.at λo e=>k it ↥0 o e
 item:=by
  intro X hP hw hK hc i pins s σ H E I hf st hg;subst hP hw hK;obtain ⟨xs,x,hq,hx⟩:=hg;obtain ⟨its,rv,p,hz⟩:=I.list hq;obtain ⟨u,hu,ru⟩:=rv.get hx;obtain ⟨f0,f1,f2,f3,f4,f5⟩:=hf it ↥0;refine wpAny_pyNext_list_item st p.isList (x:=u) (by simpa using hu) λh' st' sb=>?_;have I1:Inv X pins σ H { s with heap:=h' }:=I.turned (t':=s.toks) (λb o hb e=>(sb.2 b hb).trans e) f0 f1 f3 f4 f5;obtain ⟨o,e,c,d⟩:=id st';exact ⟨u,rfl,wY (s:={ s with heap:=h' }) e c d ⇑0 ⟨x,H,I1,ru,⟨rfl,λys hy=>by rw [I.list_inj hy hq];exact hx⟩,st',λb hb=>(hf b hb).1⟩⟩
 done:=by
  intro X hP hw hK hc i pins s σ H E I hf st hg;subst hP hw hK;obtain ⟨xs,hq,hx⟩:=hg;obtain ⟨its,rv,p,hz⟩:=I.list hq;obtain ⟨f0,f1,f2,f3,f4,f5⟩:=hf it ↥0;have hl:=rv.length;exact wpAny_pyNext_list_end (I.ok.hd hc) st p.isList (by simp;lia) λh' eb=>⟨rfl,I.turned (t':=s.toks) (λb o hb e=>eb b o hb e) f0 f1 f3 f4 f5⟩
 self:=λ_ _ _ _ _ st h=>wpAny_pyIter_listiter st h
def yg {P:aS} {w:bD} {K:PySem.W.Frag} {tg:aH} (a it:aw):Turn P w K tg (Itt K a) [it] it (λi h=>h.IsTupleIter it a i) where
 mem:=by simp
 obj:=λi h st b hb=>by
  have e:b = it:=by simpa using hb
  subst e;obtain ⟨o,e,c,d⟩:=st;exact ⟨o,e,λv z=>by rw [d] at z;cases z⟩
 keep:=λi h h' st k=>st.at λo e=>k it ↥0 o e
 item:=by
  intro X hP hw hK hc i pins s σ H E I hf st hg;subst hP hw hK;obtain ⟨xs,x,hq,hx⟩:=hg;obtain ⟨its,rv,p,hz⟩:=I.tuple hq;obtain ⟨u,hu,ru⟩:=rv.get hx;obtain ⟨f0,f1,f2,f3,f4,f5⟩:=hf it ↥0;refine wpAny_pyNext_tuple_item st (show s.heap.IsTuple a its.toArray from p) (x:=u) (by simpa using hu) λh' st' sb=>?_;have I1:Inv X pins σ H { s with heap:=h' }:=I.turned (t':=s.toks) (λb o hb e=>(sb.2 b hb).trans e) f0 f1 f3 f4 f5;obtain ⟨o,e,c,d⟩:=id st';exact ⟨u,rfl,wY (s:={ s with heap:=h' }) e c d ⇑0 ⟨x,H,I1,ru,⟨rfl,λys hy=>by rw [I.tuple_inj hy hq];exact hx⟩,st',λb hb=>(hf b hb).1⟩⟩
 done:=by
  intro X hP hw hK hc i pins s σ H E I hf st hg;subst hP hw hK;obtain ⟨xs,hq,hx⟩:=hg;obtain ⟨its,rv,p,hz⟩:=I.tuple hq;obtain ⟨f0,f1,f2,f3,f4,f5⟩:=hf it ↥0;have hl:=rv.length;exact wpAny_pyNext_tuple_end (I.ok.hd hc) st (show s.heap.IsTuple a its.toArray from p) (by simp;lia) λh' eb=>⟨rfl,I.turned (t':=s.toks) (λb o hb e=>eb b o hb e) f0 f1 f3 f4 f5⟩
 self:=λ_ _ _ _ _ st h=>wpAny_pyIter_tupleiter st h
def yh {P:aS} {w:bD} {K:PySem.W.Frag} {tg:aH} (it:aw) (lo:Int) (n:Nat):Turn P w K tg (Itr lo n) [it] it (λi h=>IsRangeIter h it (lo+(i:Nat) * 1) ((n:Int) - (i:Nat)) 1) where
 mem:=by simp
 obj:=λi h st b hb=>by
  have e:b = it:=by simpa using hb
  subst e
  exact ⟨_,st,λv z=>by
   have z':Data.fields _ = Data.cell v:=z;cases z'⟩
 keep:=λi h h' st k=>k it ↥0 _ st
 item:=by
  intro X hP hw hK hc i pins s σ H E I hf st hg;subst hP hw hK;obtain ⟨f0,f1,f2,f3,f4,f5⟩:=hf it ↥0;have W:=Walks.range (prog:=X.prog) (w:=X.w) (I.ok.hd hc) it lo 1 n;refine W.item i s _ _ hg st λv h' tk hv st' kk=>?_;obtain ⟨t,rfl⟩:=hv;have I1:Inv X pins σ H { s with heap:=h',toks:=tk }:=I.turned (λb o hb e=>kk b o (by simpa using hb) e) f0 f1 f3 f4 f5;refine ⟨_,rfl,wY (s:={ s with heap:=h',toks:=tk }) (n:="range_iterator") st' rfl rfl ⇑0 ⟨.int (lo+i),H,I1,⟨t,?_⟩,⟨rfl,rfl⟩,st',λb hb=>(hf b hb).1⟩⟩;rw [Int.mul_one]
 done:=by
  intro X hP hw hK hc i pins s σ H E I hf st hg;subst hP hw hK;obtain ⟨f0,f1,f2,f3,f4,f5⟩:=hf it ↥0;exact wpAny_pyNext_range_end (I.ok.hd hc) st (by have:n<=i:=hg;lia) λh' eb=>⟨rfl,I.turned (t':=s.toks) (λb o hb e=>eb b o hb e) f0 f1 f3 f4 f5⟩
 self:=λ_ _ _ _ _ st h=>wpAny_pyIter_rangeiter st h
end L2
namespace L2
open PySem PySem.Spec PyProof.Rows
section
variable {X:Cx} {tg:aH}
def wj {pins:List (aw × Obj)} {σ:St} {H:Hp} {s:ai} {R:It->Hp->Prop} {E:ae->ai->Prop} {lo hi:Int} {t u v:Tok} {tk:Nat} (I:Inv X pins σ H s) (h1:-(2 ^ 62)<=lo) (h2:lo < 2 ^ 62) (h3:-(2 ^ 62)<=hi) (h4:hi < 2 ^ 62)
 (q:R (Itr lo (hi - lo).toNat) H):wpAny (model X.prog X.w) X.A (pyIter (.ref s.heap.objs.size)) (PIE X pins σ tg R) E { s with heap:=s.heap.push { cls:=.type "range",data:=.fields #[.int lo t,.int hi u,.int 1 v] },toks:=tk }:=by
 refine wpAny_pyIter_range (IsRange.new ..) (small_one h1 h2 h3 h4) ?_;have I1:Inv X pins σ H { s with heap:=s.heap.push { cls:=.type "range",data:=.fields #[.int lo t,.int hi u,.int 1 v] },toks:=tk }:=I.kept λb o e=>ah _ e
 refine ⟨(s.heap.push { cls:=.type "range",data:=.fields #[.int lo t,.int hi u,.int 1 v] }).objs.size,[(s.heap.push { cls:=.type "range",data:=.fields #[.int lo t,.int hi u,.int 1 v] }).objs.size],_,_,H,rfl,
  I1.kept (t':=tk) λb o e=>ah _ e,yh _ lo (hi - lo).toNat,?_,λb hb=>?_,q⟩
 . have e1:lo+((0:Nat):Int) * 1 = lo:=by simp
   have e2:(((hi - lo).toNat:Nat):Int) - ((0:Nat):Int) = Builtin.Range.rangeSize lo hi 1:=by rw [rangeSize_one];split<;>lia
   show IsRangeIter _ _ (lo+((0:Nat):Int) * 1) ((((hi - lo).toNat:Nat):Int) - ((0:Nat):Int)) 1;rw [e1,e2];exact aF _ rfl
 . have e:b = (s.heap.push { cls:=.type "range",data:=.fields #[.int lo t,.int hi u,.int 1 v] }).objs.size:=by simpa using hb
   subst e;exact I1.fpOk (ao _) (I1.hok.fresh (ao _))
def Ol (ta:TA):TI:=λσ H R=>ta σ H λvs H1=>∃ j:Int,vs = [.int j]/\-(2 ^ 62)<=j/\j < 2 ^ 62/\R (Itr 0 j.toNat) H1
def Oj (ta:TA):TI:=λσ H R=>ta σ H λvs H1=>∃ i j:Int,vs = [.int i,.int j]/\(-(2 ^ 62)<=i/\i < 2 ^ 62/\-(2 ^ 62)<=j/\j < 2 ^ 62)/\R (Itr i (j - i).toNat) H1
def BH {a:aH} {ta:TA} {p pos:Pos} (hg:Gl X "range") (hm:X.mg "range" = none) (ha:PA X [a] ta) (hs:starEach [a] X.env = [(false,eval a X.env)]:=by rfl):PI X tg (.Call (.Name "range" p) [a] [] pos) (Ol ta):=by
 intro pins s σ H R I h;refine Call_ (mC I hg hm boot_range (dB (thn (ha pos pins s σ H _ I h) λus s1 ⟨vs,H1,I1,r1,q1⟩=>?_) hs rfl));obtain ⟨j,e,q1,q2,q⟩:=q1;subst e
 cases r1 with
 | cons r rr =>
   cases rr;obtain ⟨t,rfl⟩:=r;exact call_range_1 (wj I1 ∅ ∅ q1 q2 (by simpa using q))
def BG (hg:Gl X "range") (hm:X.mg "range" = none) (ha:PA X [a,b] ta) (hs:starEach [a,b] X.env = [(false,eval a X.env),(false,eval b X.env)]:=by rfl) (hs2:starEach [b] X.env = [(false,eval b X.env)]:=by rfl) :
 PI X tg (.Call (.Name "range" p) [a,b] [] pos) (Oj ta):=by
 intro pins s σ H R I h;refine Call_ (mC I hg hm boot_range (dB (thn (ha pos pins s σ H _ I h) λus s1 ⟨vs,H1,I1,r1,q1⟩=>?_) (by rw [hs,hs2]) (by rw [hs2];rfl)));obtain ⟨i,j,e,⟨q1,q2,q3,q4⟩,q⟩:=q1;subst e
 cases r1 with
 | cons r rr =>
   cases rr with
   | cons r' rr =>
     cases rr;obtain ⟨t,rfl⟩:=r;obtain ⟨t',rfl⟩:=r';exact call_range_2 (wj I1 q1 q2 q3 q4 q)
def OQ (wi:TI) (g:TG) (tb:TS):TS:=λD σ H=>wi σ H λJ H1=>∃ W:Nat->Nat->St->Hp->Prop,(∃ m,W 0 m σ H1)/\∀ i m σ H,W i m σ H ->
 (J.stop i H/\D.nx σ H)\/(J.go i H/\∃ N:St->Hp->Prop,(∀ σ' H',N σ' H'->∃ m',m' < m/\W (i+1) m' σ' H')/\∀ x H',J.yld i H x H'->g x σ H' λσ2 H2=>tb { D with nx:=N,ct:=N,bk:=D.nx } σ2 H2)
def qE (fp:List aw) (h:cb):List (aw × Obj):=fp.filterMap λb=>(h.get? b).map λo=>(b,o)
def kb (hb:b∈fp) (e:h.get? b = some o):(b,o)∈qE fp h:=CG.mpr ⟨b,hb,by rw [e];rfl⟩
def BP (hp:p∈qE fp h):p.1∈fp/\h.get? p.1 = some p.2:=by
 obtain ⟨b,hb,e⟩:=CG.mp hp
 cases q:h.get? b with
 | none=>rw [q] at e;cases e
 | some o =>
   rw [q] at e;have e':(b,o) = p:=cH e;subst e';exact ⟨hb,q⟩
def Inv.pinned (I:Inv X pins σ H s) (hf:∀ b∈fp,ko X pins H b) (ho:∀ b∈fp,∃ o,s.heap.get? b = some o/\∀ v,o.data≠.cell v):Inv X (pins++qE fp s.heap) σ H s :=
 I.pins_of λp hp=>(bC.mp hp).elim (λz=>I.pin p (bo _ z)) λz=>by
  obtain ⟨hb,e⟩:=BP z;obtain ⟨f0,f1,f2,_⟩:=hf p.1 hb;obtain ⟨o,e',d⟩:=ho p.1 hb;rw [e] at e';cases e';exact ⟨e,f0,f1,f2,d⟩
def Inv.unpinned (I:Inv X (pins++pl) σ H s):Inv X pins σ H s:=I.pins_of λp hp=>I.pin p (bo _ (dU _ hp))
def Lj (hp:CD (model X.prog X.w) X.A X.env X.xe) (hc:X.calm = true) (hi:PI X tg iter wi) (hg:PG X tg g) (hb:PSs X body tb)
 (hs:∀ x,foldedSetIterable iter X.env x = pure x:=by intro _;rfl):PS X (.For tg iter body [] pos) (OQ wi g tb):=by
 intro pins s σ H D I h;refine wpAny_For (thn (hi pins s σ H _ I h) λv s1 h1=>thn h1 λitv s2 h2=>?_) hs;obtain ⟨it,fp,tn,J,H2,e,I2,T,st2,f2,W,⟨m0,w0⟩,turn⟩:=h2;subst e
 -- what stays true of the iterator's objects through the loop
 have stat:∀ {H':Hp},(∀ b∈fp,H' b = none)->∀ b∈fp,ko X pins H' b:=λhn b hb=>⟨hn b hb,(f2 b hb).2⟩;refine codeAny_forLoop_any (λn s'=>∃ i σ' H',Inv X pins σ' H' s'/\tn i s'.heap/\(∀ b∈fp,H' b = none)/\W i n σ' H') ?_ m0 ⟨0,σ,H2,I2,st2,λb hb=>(f2 b hb).1,w0⟩;rintro n s3 ⟨i,σ3,H3,I3,st3,fr3,w3⟩;rcases turn i n σ3 H3 w3 with ⟨stop,qn⟩ | ⟨go,N,hN,step⟩
 . refine fH hp (thn (T.done X rfl rfl rfl hc i pins s3 σ3 H3 X.xe I3 (stat fr3) st3 stop) λr s4 ⟨hr,I4⟩=>?_);subst hr;exact xI ⟨σ3,H3,I4,qn⟩
 . refine fH hp (thn (T.item X rfl rfl rfl hc i pins s3 σ3 H3 X.xe I3 (stat fr3) st3 go) λr s4 ⟨u,hr,h4⟩=>?_);subst hr;refine fH hp (thn h4 λ_ s5 ⟨x,H5,I5,r5,y5,st5,fr5⟩=>?_);have I5':=I5.pinned (stat fr5) (T.obj _ _ st5);refine fH hp (thn (hg _ s5 σ3 H5 x u _ I5' r5 (step x H5 y5)) λ_ s6 ⟨σ6,H6,I6,q6⟩=>?_);refine fH hp (thn (hb _ s6 σ6 H6 _ I6 q6) λf s7 q7=>?_)
   have again:∀ {σ7:St} {H7:Hp},Inv X (pins++qE fp s5.heap) σ7 H7 s7->N σ7 H7->∃ m,m < n/\∃ i σ' H',Inv X pins σ' H' s7/\tn i s7.heap/\(∀ b∈fp,H' b = none)/\W i m σ' H':=λ{σ7 H7} I7 n7=>by
    obtain ⟨m',hm,w7⟩:=hN σ7 H7 n7;refine ⟨m',hm,i+1,σ7,H7,I7.unpinned,T.keep _ _ _ st5 λb hb o e=>(I7.pin (b,o) (bo _ (bo _ (kb hb e)))).1,λb hb=>?_,w7⟩;obtain ⟨o,e,d⟩:=T.obj _ _ st5 b hb;exact (I7.pin (b,o) (bo _ (bo _ (kb hb e)))).2.1
   cases f with
   | next=>obtain ⟨σ7,H7,I7,n7⟩:=q7;exact again I7 n7
   | cont=>obtain ⟨σ7,H7,I7,n7⟩:=q7;exact again I7 n7
   | brk=>obtain ⟨σ7,H7,I7,q7⟩:=q7;exact ⟨σ7,H7,I7.unpinned,q7⟩
   | ret v=>obtain ⟨x7,σ7,H7,I7,r7,q7⟩:=q7;exact ⟨x7,σ7,H7,I7.unpinned,r7,q7⟩
end
end L2
namespace L2
open PySem PySem.Spec PyProof.Rows
abbrev R2:=V->V->Hp->VK->Prop
def OpR (X:Cx) (f:ae->ae->Sem ae) (r:R2):Prop :=
 ∀ (pins:List (aw × Obj)) (s:ai) (σ:St) (H:Hp) (x y:V) (v u:ae) (Q:VK),Inv X pins σ H s->RelV x v->RelV y u->r x y H Q ->
  wpAny (model X.prog X.w) X.A (f v u) (EP X pins σ Q) X.xe s
def UnR (X:Cx) (f:ae->Sem ae) (r:V->Hp->VK->Prop):Prop :=
 ∀ (pins:List (aw × Obj)) (s:ai) (σ:St) (H:Hp) (x:V) (v:ae) (Q:VK),Inv X pins σ H s->RelV x v->r x H Q ->
  wpAny (model X.prog X.w) X.A (f v) (EP X pins σ Q) X.xe s
def cz (X:Cx) (f:ae) (r:List V->Hp->VK->Prop):Prop :=
 ∀ (pins:List (aw × Obj)) (s:ai) (σ:St) (H:Hp) (xs:List V) (us:List ae) (Q:VK),Inv X pins σ H s->Vals xs us->r xs H Q ->
  wpAny (model X.prog X.w) X.A (call f us) (EP X pins σ Q) X.xe s
def Pq (X:Cx) (r:V->Hp->(Bool->Hp->Prop)->Prop):Prop :=
 ∀ (pins:List (aw × Obj)) (s:ai) (σ:St) (H:Hp) (x:V) (v:ae) (Q:Bool->Hp->Prop),Inv X pins σ H s->RelV x v->r x H Q ->
  wpAny (model X.prog X.w) X.A (truthy v) (TP X pins σ Q) X.xe s
def tOp (r:R2) (ta tb:TE):TE:=λσ H Q=>ta σ H λx H1=>tb σ H1 λy H2=>r x y H2 Q
def tUn (r:V->Hp->VK->Prop) (ta:TE):TE:=λσ H Q=>ta σ H λx H1=>r x H1 Q
def rI (C:Int->Int->Prop) (g:Int->Int->V):R2:=λx y H Q=>∃ i j,x = .int i/\y = .int j/\C i j/\Q (g i j) H
def rI0 (g:Int->Int->V):R2:=λx y H Q=>∃ i j,x = .int i/\y = .int j/\Q (g i j) H
def rU (g:Int->V):V->Hp->VK->Prop:=λx H Q=>∃ i,x = .int i/\Q (g i) H
section
variable {X:Cx} {a b c:aH} {ta tb tc:TE} {pos:Pos}
def MO (ha:PE X a ta) (hb:PE X b tb) {pins:List (aw × Obj)} {s:ai} {σ:St} {H:Hp} {R:V->V->Hp->Prop} (I:Inv X pins σ H s)
 (h:ta σ H λx H1=>tb σ H1 λy H2=>R x y H2) {Q:ae->ai->Prop} {f:ae->ae->Sem ae}
 (hf:∀ v u s2 x y H2,Inv X pins σ H2 s2->RelV x v->RelV y u->R x y H2->wpAny (model X.prog X.w) X.A (f v u) Q X.xe s2) :
 wpAny (model X.prog X.w) X.A (eval a X.env) (λv s₁=>wpAny (model X.prog X.w) X.A (eval b X.env) (λu s₂=>wpAny (model X.prog X.w) X.A (f v u) Q X.xe s₂) X.xe s₁) X.xe s:=by
 refine thn (ha pins s σ H _ I h) λv s1 zz=>?_;obtain ⟨x,H1,I1,r1,q1⟩:=zz;refine thn (hb pins s1 σ H1 _ I1 q1) λu s2 zz=>?_;obtain ⟨y,H2,I2,r2,q2⟩:=zz;exact hf v u s2 x y H2 I2 r1 r2 q2
def sI {op:zt} {r:R2} (ho:OpR X (binaryOp op) r) (ha:PE X a ta) (hb:PE X b tb):PE X (.BinOp a op b pos) (tOp r ta tb):=by
 intro pins s σ H Q I h;exact wpAny_BinOp (MO ha hb I h λv u s2 x y H2 I2 rx ry q=>ho pins s2 σ H2 x y v u Q I2 rx ry q)
def NO (ho:UnR X (unaryOp op) r) (ha:PE X a ta):PE X (.UnaryOp op a pos) (tUn r ta):=by
 intro pins s σ H Q I h;exact UnaryOp_ (thn (ha pins s σ H _ I h) λv s1 ⟨x,H1,I1,r1,q1⟩=>ho pins s1 σ H1 x v Q I1 r1 q1)
def opI {f:ae->ae->Sem ae} {C:Int->Int->Prop} {g:Int->Int->Int}
 (rule:∀ (i j:Int) (t u:Tok) (s:ai) (Q:ae->ai->Prop) (E:ae->ai->Prop),C i j->Q (.int (g i j) s.toks) { s with toks:=s.toks+1 }->wpAny (model X.prog X.w) X.A (f (.int i t) (.int j u)) Q E s) :
 OpR X f (rI C λi j=>.int (g i j)):=by
 intro pins s σ H x y v u Q I rx ry h;obtain ⟨i,j,rfl,rfl,hc,q⟩:=h;obtain ⟨t,rfl⟩:=rx;obtain ⟨t',rfl⟩:=ry;exact rule i j t t' s _ _ hc ⟨.int (g i j),H,I.tok _,⟨_,rfl⟩,q⟩
def NZ {f:ae->ae->Sem ae} {g:Int->Int->Int}
 (rule:∀ (i j:Int) (t u:Tok) (s:ai) (Q:ae->ai->Prop) (E:ae->ai->Prop),Q (.int (g i j) s.toks) { s with toks:=s.toks+1 }->wpAny (model X.prog X.w) X.A (f (.int i t) (.int j u)) Q E s) :
 OpR X f (rI0 λi j=>.int (g i j)):=by
 intro pins s σ H x y v u Q I rx ry h;obtain ⟨i,j,rfl,rfl,q⟩:=h;obtain ⟨t,rfl⟩:=rx;obtain ⟨t',rfl⟩:=ry;exact rule i j t t' s _ _ ⟨.int (g i j),H,I.tok _,⟨_,rfl⟩,q⟩
def Pd {f:ae->ae->Sem ae} {g:Int->Int->Bool}
 (rule:∀ (i j:Int) (t u:Tok) (s:ai) (Q:ae->ai->Prop) (E:ae->ai->Prop),Q (.bool (g i j)) s->wpAny (model X.prog X.w) X.A (f (.int i t) (.int j u)) Q E s) :
 OpR X f (rI0 λi j=>.bl (g i j)):=by
 intro pins s σ H x y v u Q I rx ry h;obtain ⟨i,j,rfl,rfl,q⟩:=h;obtain ⟨t,rfl⟩:=rx;obtain ⟨t',rfl⟩:=ry;exact rule i j t t' s _ _ ⟨.bl (g i j),H,I,rfl,q⟩
def Pt (i j:Int):Prop:=0<=j/\j<=1000000/\i.natAbs < 2 ^ 64
def LL:OpR X (binaryOp .Add) (rI0 λi j=>.int (i+j)):=NZ λ_ _ _ _ _ _ _ q=>add_int q
def LD:OpR X (binaryOp .Sub) (rI0 λi j=>.int (i - j)):=NZ λ_ _ _ _ _ _ _ q=>sub_int q
def LH:OpR X (binaryOp .Mod) (rI (λ_ j=>0 < j) λi j=>.int (i % j)):=opI λi j _ _ _ _ _ hc q=>by
 have h1:(0:Int) < j:=hc;exact mod_int' ∅ (by rw [vp i ∅];exact q)
def LF:OpR X (binaryOp .Pow) (rI Pt λi j=>.int (i ^ j.toNat)):=opI λ_ _ _ _ _ _ _ hc q=>pow_int_small hc.1 hc.2.1 hc.2.2 q
def unI {f:ae->Sem ae} {g:Int->Int}
 (rule:∀ (i:Int) (t:Tok) (s:ai) (Q:ae->ai->Prop) (E:ae->ai->Prop),Q (.int (g i) s.toks) { s with toks:=s.toks+1 }->wpAny (model X.prog X.w) X.A (f (.int i t)) Q E s) :
 UnR X f (rU λi=>.int (g i)):=by
 intro pins s σ H x v Q I rx h;obtain ⟨i,rfl,q⟩:=h;obtain ⟨t,rfl⟩:=rx;exact rule i t s _ _ ⟨.int (g i),H,I.tok _,⟨_,rfl⟩,q⟩
def Kz:UnR X (unaryOp .USub) (rU λi=>.int (-i)):=unI λ_ _ _ _ _ q=>neg_int q
end
def OW:V->V->Bool
 | .non,.non=>true | .non,.int _=>true | .int _,.non=>true | .non,.bl _=>true | .bl _,.non=>true | .non,.str _=>true | .str _,.non=>true
 | .int _,.int _=>true | .bl _,.bl _=>true | .str _,.str _=>true
 | .int _,.str _=>true | .str _,.int _=>true | .bl _,.str _=>true | .str _,.bl _=>true
 | _,_=>false
def rEq:R2:=λx y H Q=>OW x y = true/\Q (.bl (decide (x = y))) H
def Jp:decide (V.int i = V.int j) = (i == j):=by
 rw [gA];simp
def Mz:decide (V.bl i = V.bl j) = (i == j):=by
 rw [gA];simp
def Jo:decide (V.str i = V.str j) = (i == j):=by
 rw [gA];simp
section
variable {X:Cx} {a b c:aH} {ta tb tc:TE} {pos:Pos}
def gi (I:Inv X pins σ H s) (q:Q (.bl k) H) (e:k = k'):EP X pins σ Q (.bool k') s:=by
 subst e;exact ⟨.bl k,H,I,rfl,q⟩
def NX:OpR X (compareOp .Eq) rEq:=by
 intro pins s σ H x y v u Q I rx ry h;obtain ⟨hs,q⟩:=h
 cases x with
 | non =>
   cases rx
   cases y with
   | non=>cases ry;exact PySem.EqNone.eq_none_none (gi I q ↥0)
   | bl j=>cases ry;exact PySem.EqNone.eq_none_bool (gi I q ↥0)
   | int j=>obtain ⟨t',rfl⟩:=ry;exact PySem.EqNone.eq_none_int (gi I q ↥0)
   | str j=>obtain ⟨t',rfl⟩:=ry;exact PySem.EqNone.eq_none_str (gi I q ↥0)
   | _=>exact absurd (show false = true from hs) aj
 | bl i =>
   cases rx
   cases y with
   | non=>cases ry;exact PySem.EqNone.eq_bool_none (gi I q ↥0)
   | bl j=>cases ry;exact eq_bool (gi I q Mz)
   | str j=>obtain ⟨t',rfl⟩:=ry;exact PySem.EqMixed.eq_bool_str (gi I q ↥0)
   | _=>exact absurd (show false = true from hs) aj
 | int i =>
   obtain ⟨t,rfl⟩:=rx
   cases y with
   | non=>cases ry;exact PySem.EqNone.eq_int_none (gi I q ↥0)
   | int j=>obtain ⟨t',rfl⟩:=ry;exact eq_int (gi I q Jp)
   | str j=>obtain ⟨t',rfl⟩:=ry;exact PySem.EqMixed.eq_int_str (gi I q ↥0)
   | _=>exact absurd (show false = true from hs) aj
 | str i =>
   obtain ⟨t,rfl⟩:=rx
   cases y with
   | non=>cases ry;exact PySem.EqNone.eq_str_none (gi I q ↥0)
   | bl j=>cases ry;exact PySem.EqMixed.eq_str_bool (gi I q ↥0)
   | int j=>obtain ⟨t',rfl⟩:=ry;exact PySem.EqMixed.eq_str_int (gi I q ↥0)
   | str j=>obtain ⟨t',rfl⟩:=ry;exact eq_str (gi I q Jo)
   | _=>exact absurd (show false = true from hs) aj
 | _=>cases y<;>exact absurd (show false = true from hs) aj
def NW:OpR X (compareOp .Gt) (rI0 λi j=>.bl (decide (j < i))):=Pd λ_ _ _ _ _ _ _ q=>gt_int q
def BO:OpR X (compareOp .In) (λx y H Q=>∃ i j,x = .str i/\y = .str j/\Q (.bl (!(qe j i 0 j.length 1).isEmpty)) H):=by
 intro pins s σ H x y v u Q I rx ry h;obtain ⟨i,j,rfl,rfl,q⟩:=h;obtain ⟨t,rfl⟩:=rx;obtain ⟨t',rfl⟩:=ry;exact in_str (gi I q rfl)
def OpR.or {f:ae->ae->Sem ae} {r r':R2} (h:OpR X f r) (h':OpR X f r'):OpR X f (λx y H Q=>r x y H Q\/r' x y H Q):=by
 intro pins s σ H x y v u Q I rx ry q;rcases q with q | q
 . exact h pins s σ H x y v u Q I rx ry q
 . exact h' pins s σ H x y v u Q I rx ry q
def Iz {op:CmpOp} {r:R2} (ho:OpR X (compareOp op) r) (ha:PE X a ta) (hb:PE X b tb) (hm:behindInMarks op b = false):PE X (.Compare a [op] [b] pos) (tOp r ta tb):=by
 intro pins s σ H Q I h;exact wpAny_Compare1 (MO ha hb I h λv u s2 x y H2 I2 rx ry q=>ho pins s2 σ H2 x y v u Q I2 rx ry q) hm
def Nv (t:TE):TT:=λσ H Q=>t σ H λx H'=>∃ k,x = .bl k/\Q k H'
def Ip (ho:OpR X (compareOp op) r) (ha:PE X a ta) (hb:PE X b tb) (hm:behindInMarks op b = false):PT X (.Compare a [op] [b] pos) (Nv (tOp r ta tb)):=by
 intro pins s σ H Q I h
 refine wpAny_isTrue_Compare1 (thn (ha pins s σ H _ I h) λv s1 ⟨x,H1,I1,r1,q1⟩=>thn (hb pins s1 σ H1 _ I1 q1) λu s2 ⟨y,H2,I2,r2,q2⟩ =>
  thn (ho pins s2 σ H2 x y v u _ I2 r1 r2 q2) λc s3 ⟨z,H3,I3,r3,k,e,q3⟩=>?_) hm
 subst e;cases r3;exact eH ⟨H3,I3,q3⟩
def MS (K:PySem.W.Frag) (x:V) (H:Hp) (k:Bool):Prop :=
 match x with
 | .non=>k = false
 | .bl b=>k = b
 | .int i=>k = (i != 0)
 | .str y=>y.length<=sizeLine/\k = ((y.length:Int) != 0)
 | .ref p=>(∃ xs,SqL K H p xs/\k = !xs.isEmpty)\/(∃ xs,SqT K H p xs/\k = !xs.isEmpty)
 | _=>False
def qQ {xs:List V} {its:List ae} (r:Vals xs its):(!its.toArray.isEmpty) = !xs.isEmpty:=by
 cases r<;>simp
def mB:(sizeLine:Nat) < 2 ^ 63:=by rw [cF];decide
def KA:Pq X (λx H Q=>∃ k,MS X.K x H k/\Q k H):=by
 intro pins s σ H x v Q I rx h;obtain ⟨k,e,q⟩:=h;have hl:=mB;have hs:sizeLine = 16777216:=cF
 cases x with
 | non =>
   cases rx;have e':k = false:=e;subst e'
   exact truthy_none ⟨H,I,q⟩
 | bl b =>
   cases rx;have e':k = b:=e;subst e'
   exact eH ⟨H,I,q⟩
 | int i =>
   obtain ⟨t,rfl⟩:=rx;have e':k = (i != 0):=e;subst e'
   exact PySem.P.truthy_int ⟨H,I,q⟩
 | str y =>
   obtain ⟨t,rfl⟩:=rx;obtain ⟨hy,e'⟩:y.length<=sizeLine/\k = ((y.length:Int) != 0):=e;subst e'
   exact PySem.P.truthy_str ∅ ⟨H,I.tok _,q⟩
 | ref p =>
   cases rx;have e':(∃ xs,SqL X.K H p xs/\k = !xs.isEmpty)\/(∃ xs,SqT X.K H p xs/\k = !xs.isEmpty):=e;rcases e' with ⟨xs,hx,e'⟩ | ⟨xs,hx,e'⟩
   . subst e';obtain ⟨its,r,pl,hz⟩:=I.list hx;have hlen:=r.length;exact wpAny_truthy_list pl.isList (by simp only [aG];lia) ⟨H,I.tok _,by rw [qQ r];exact q⟩
   . subst e';obtain ⟨its,r,pl,hz⟩:=I.tuple hx;have hlen:=r.length
     exact truthy_tuple pl (by simp only [aG];lia) ⟨H,I.tok _,by rw [qQ r];exact q⟩
 | _=>exact (show False from e).elim
def qA (ha:PE X a ta) (he:∀ whole,isTrue a X.env whole = (do let v <- whole;standAt a.pos;holding [v] (truthy v))) :
 PT X a (λσ H Q=>ta σ H λx H'=>∃ k,MS X.K x H' k/\Q k H'):=by
 intro pins s σ H Q I h;exact isTrue_plain (thn (ha pins s σ H _ I h) λv s1 ⟨x,H1,I1,r1,q1⟩=>KA pins s1 σ H1 x v Q I1 r1 q1) (he _)
def yC:OpR X (binaryOp .Add) (λx y H Q=>∃ i j,x = .str i/\y = .str j/\i.length+j.length<=sizeLine/\Q (.str (i++j)) H):=by
 intro pins s σ H x y v u Q I rx ry h;obtain ⟨i,j,rfl,rfl,hz,q⟩:=h;obtain ⟨t,rfl⟩:=rx;obtain ⟨t',rfl⟩:=ry;exact add_str (λt' tk=>⟨.str (i++j),H,I.tok _,⟨_,rfl⟩,q⟩) hz
def vals1 (r:Vals [x] us):∃ u,us = [u]/\RelV x u:=by
 cases r with
 | cons r1 r2=>cases r2;exact ⟨_,rfl,r1⟩
def vals2 (r:Vals [x,y] us):∃ u w',us = [u,w']/\RelV x u/\RelV y w':=by
 cases r with
 | cons r1 r2 =>
   cases r2 with
   | cons r3 r4=>cases r4;exact ⟨_,_,rfl,r1,r3⟩
def Cq (hc:X.calm = true):cz X (.builtin "max") (λxs H Q=>∃ i j,xs = [.int i,.int j]/\Q (.int (if j > i then j else i)) H):=by
 intro pins s σ H xs us Q I r h;obtain ⟨i,j,rfl,q⟩:=h;obtain ⟨u,w',rfl,⟨t,rfl⟩,⟨t',rfl⟩⟩:=vals2 r;refine max_two_ints (I.ok.hd hc) λh' tk k=>⟨_,H,I.kept k,?_,q⟩;by_cases hj:j > i
 . rw [if_pos hj,if_pos hj];exact ⟨_,rfl⟩
 . rw [if_neg hj,if_neg hj];exact ⟨_,rfl⟩
def Cn (hc:X.calm = true):cz X (.builtin "min") (λxs H Q=>∃ i j,xs = [.int i,.int j]/\Q (.int (if j < i then j else i)) H):=by
 intro pins s σ H xs us Q I r h;obtain ⟨i,j,rfl,q⟩:=h;obtain ⟨u,w',rfl,⟨t,rfl⟩,⟨t',rfl⟩⟩:=vals2 r;refine min_two_ints (I.ok.hd hc) λh' tk k=>⟨_,H,I.kept k,?_,q⟩;by_cases hj:j < i
 . rw [if_pos hj,if_pos hj];exact ⟨_,rfl⟩
 . rw [if_neg hj,if_neg hj];exact ⟨_,rfl⟩
def Cs:cz X (.type "int") (λxs H Q=>(∃ i,xs = [.int i]/\Q (.int i) H)\/∃ k,xs = [.bl k]/\Q (.int (if k then 1 else 0)) H):=by
 intro pins s σ H xs us Q I r h;rcases h with ⟨i,rfl,q⟩ | ⟨k,rfl,q⟩
 . obtain ⟨u,rfl,t,rfl⟩:=vals1 r;exact call_int_int ⟨.int i,H,I,⟨_,rfl⟩,q⟩
 . obtain ⟨u,rfl,r1⟩:=vals1 r;cases r1;exact call_int_bool ⟨.int (if k then 1 else 0),H,I.tok _,⟨_,rfl⟩,q⟩
end
end L2
namespace L2
open PySem PySem.Spec PyProof.Rows
structure Pu (h:cb) (x dx C:aw) (mA:Str->Option ae):Prop where
 obj:h.get? x = some (PySem.W.instObj C dx)
 ns:h.Ns1 dx mA
 ne:dx≠x
section
variable {prog:aS} {w:bD} {A:aW} {E:ae->ai->Prop} {s:ai} {K:PySem.W.Frag} {x dx C f:aw} {mA:Str->Option ae} {name:Str} {v:ae}
end
section
variable {P:aS} {w:bD} {H H':Hp} {h h':cb} {a C dx:aw} {fs fs':List (Str × V)}
end
structure Cls (K:PySem.W.Frag) (C:aw):Prop where
 pg:PySem.W.plainGet K C Str.empty = true
 hd:PySem.W.hasDictIn K C = true
 po:PySem.W.plainOver K C = true
 sa:PySem.W.findIn K (.ref C) "__setattr__" = some (some (.builtin "object.__setattr__"))
structure Con (K:PySem.W.Frag) (C:aw) (f:Str) (v:V) (u:ae):Prop where
 at_:PySem.W.findIn K (.ref C) f = some (some u)
 rel:RelV v u
 get:PySem.W.specialIn K u "__get__" = some none
 cp:PySem.W.copiedNames.contains f = false
structure Meth (K:PySem.W.Frag) (C:aw) (m:Str) (f:aw):Prop where
 at_:PySem.W.findIn K (.ref C) m = some (some (.ref f))
 fn:PySem.W.isFn K (.ref f) = true
 kp:PySem.W.keepIn K (.ref f) = true
section
variable {X:Cx} {pins:List (aw × Obj)} {σ:St} {H:Hp} {s:ai} {a C dx:aw} {fs:List (Str × V)} {f:Str} {v:V} {A:aW} {E:ae->ai->Prop}
end
section
variable {X:Cx} {o e value:aH} {f:Str} {pos pos' tpos:Pos} {ta tv:TE}
end
section
variable {X:Cx} {pins:List (aw × Obj)} {σ:St} {H:Hp} {s:ai} {A:aW} {E:ae->ai->Prop} {Q:ae->ai->Prop} {c:ae} {b:Bool}
inductive zd (K:PySem.W.Frag) (H:Hp):V->ae->Prop where
 | non:zd K H .non (.type "NoneType")
 | bl (x:Bool):zd K H (.bl x) (.type "bool")
 | int (i:Int):zd K H (.int i) (.type "int")
 | str (x:Str):zd K H (.str x) (.type "str")
 | lst {a:aw} {xs:List V} (e:H a = some (.lst xs)):zd K H (.ref a) (.type "list")
 | frz {a:aw} {o:Obj} {xs:List V} (e:H a = some (.frz o (.lst xs))):zd K H (.ref a) (.type "list")
 | tup {a:aw} {xs:List V} (e:H a = some (.tup xs)):zd K H (.ref a) (.type "tuple")
end
end L2
namespace L2
open PySem PySem.Spec PyProof.Rows
structure lQ (k:Nat) (A:aW):Prop where
 hd:A.handled = none
 dp:A.depth+3 * k+5 < recursionLimit
 un:A.units+16 * k+200 < cLine
def lQ.deeper {k:Nat} {A:aW} (r:lQ (k+1) A) (env:Env):lQ k (A.deeper env) :=
 ⟨r.hd,by have:=r.dp;show A.depth+1+3 * k+5 < _;lia,by have:=r.un;show A.units+3+16 * k+200 < _;lia⟩
def lQ.depth {k:Nat} {A:aW} (r:lQ k A):A.depth < recursionLimit:=by have:=r.dp;lia
def KD:TA:=λ_ H Q=>Q [] H
def zE (ta:TE) (tr:TA):TA:=λσ H Q=>ta σ H λx H1=>tr σ H1 λxs H2=>Q (x::xs) H2
section
variable {X:Cx} {e:aH} {es:List aH} {te:TE} {t:TA} {pos:Pos}
def ot:PA X [] KD:=λ_ _ _ _ H Q I h=>Calls.spliced_nil ⟨[],H,I,.nil,h⟩
def jt (ha:PE X e te) (hr:PA X es t) (hs:starEach (e::es) X.env = (false,eval e X.env)::starEach es X.env:=by rfl):PA X (e::es) (zE te t):=by
 intro pos pins s σ H Q I h;rw [hs];show wpAny _ _ (spliced ((false,eval e X.env)::backTo pos (starEach es X.env))) _ _ s;refine Calls.spliced_cons (thn (ha pins s σ H _ I h) λu s1 ⟨x,H1,I1,r1,q1⟩=>?_);exact thn (hr pos pins s1 σ H1 _ I1 q1) λus s2 ⟨xs,H2,I2,r2,q2⟩=>⟨x::xs,H2,I2,.cons r1 r2,q2⟩
def OJ (t:TA):TE:=λσ H Q=>t σ H λxs H1=>xs.length<=sizeLine/\∀ p,H1 p = none->Q (.ref p) (upd H1 p (.tup xs))
def OO (t:TA):TE:=λσ H Q=>t σ H λxs H1=>xs.length<=sizeLine/\∀ p,H1 p = none->Q (.ref p) (upd H1 p (.lst xs))
def Lr (h:PA X es t):PE X (.Tuple es x1 pos) (OJ t):=by
 intro pins s σ H Q I hq;refine wpAny_Tuple_spliced (thn (h pos pins s σ H _ I hq) λus s1 ⟨xs,H1,I1,r,z,q⟩=>⟨by rw [<- r.length];exact z,?_⟩);have hf:H1 s1.heap.objs.size = none:=I1.hok.fresh (ao _);refine ⟨.ref s1.heap.objs.size,upd H1 s1.heap.objs.size (.tup xs),I1.laid (t':=s1.toks) (λb u e=>ah _ e) (ao _) ?_,rfl,q _ hf⟩;exact ⟨z,us,r,⟨_,aF _ rfl,rfl,_,rfl⟩⟩
def EA (h:PA X es t):PE X (.List es pos) (OO t):=by
 intro pins s σ H Q I hq;refine wpAny_List_spliced (thn (h pos pins s σ H _ I hq) λus s1 ⟨xs,H1,I1,r,z,q⟩=>⟨by rw [<- r.length];exact z,?_⟩);have hf:H1 s1.heap.objs.size = none:=I1.hok.fresh (ao _);refine ⟨.ref s1.heap.objs.size,upd H1 s1.heap.objs.size (.lst xs),I1.laid (t':=s1.toks) (λb u e=>ah _ e) (ao _) ?_,rfl,q _ hf⟩;exact ⟨z,us,0,r,aF _ rfl⟩
end
abbrev Sp:=List V->Hp->VK->XK->Prop
abbrev CXT:=List Env->Hp->ai->XK->ae->ai->Prop
structure Jw (P:aS) (w:bD) (K:PySem.W.Frag) (mg:Str->Option ae) (base:cb) (A:aW) (outer:List Env) (s:ai) (H:Hp):Prop where
 frames:A.frames = some outer
 mod:Mod K mg base
 bs:∀ b o,base.get? b = some o->s.heap.get? b = some o/\H b = none
 bsz:base.objs.size<=s.heap.objs.size
 funs:s.heap.FunFrames base outer
 frf:∀ b∈frs outer,H b = none
 hok:HOk P w H s.heap
 bare:mL s.gens
def CE (outer:List Env) (P:aS) (w:bD) (H:Hp) (s:ai) (Q:VK) (u:ae) (s':ai):Prop :=
 ∃ v H',s'.os = s.os/\mL s'.gens/\Un (frs outer) [] H H' s.heap s'.heap/\HOk P w H' s'.heap/\RelV v u/\Q v H'
def CR (CX:CXT) (outer:List Env) (P:aS) (w:bD) (H:Hp) (s:ai) (Q:VK) (E:XK) (r:vm) (s':ai):Prop :=
 match r with
 | .ok (.ret u)=>CE outer P w H s Q u s'
 | .ok _=>False
 | .error e=>CX outer H s E e s'
structure nO (P:aS) (w:bD) (K:PySem.W.Frag) (mg:Str->Option ae) (base:cb) (CX:CXT) (k:Nat) (f:aw) (fd:fI) (ps:List Str) (sp:Sp):Prop where
 len:∀ vs H Q E,sp vs H Q E->vs.length = ps.length
 run:∀ (A:aW) (outer:List Env) (s:ai) (H:Hp) (args:Args) (us:List ae) (vs:List V) (Q:VK) (E:XK),lQ k A->Jw P w K mg base A outer s H->BindsTo s fd args (ps.zip us)->Vals vs us->sp vs H Q E ->
  codeAny (model P w) A (.call (.ref f) args) (CR CX outer P w H s Q E) s
section
variable {X:Cx} {pins:List (aw × Obj)} {σ:St} {H:Hp} {s s':ai}
def Inv.env0 (I:Inv X pins σ H s):Jw X.prog X.w X.K X.mg X.base X.A X.stack s H :=
 ⟨I.ok.frames,I.ok.mod,I.bs,bj I.ok.bsz I.sz,I.stack,I.stkFree,I.hok,I.bare⟩
def Inv.after (I:Inv X pins σ H s) (h:CE X.stack X.prog X.w H s Q u s'):EP X pins σ Q u s':=by
 obtain ⟨v,H',os,bare,un,hok,r,q⟩:=h;obtain ⟨hh,g,d,t,os'⟩:=s';obtain rfl:os' = s.os:=os;exact ⟨v,H',I.call (h':=hh) (g':=g) (d':=d) (t':=t) (ch:=[]) un hok bare (λb z=>absurd z ↥0),r,q⟩
end
def NA (sp:Sp) (dvs:List V) (E:XK) (t:TA):TE:=λσ H Q=>t σ H λvs H1=>sp (vs++dvs) H1 Q E
def Binds (K:PySem.W.Frag) (fd:fI) (ps:List Str) (ds:List ae):Prop :=
 ∀ (s:ai) (us:List ae),K.In s.heap->(us++ds).length = ps.length->BindsTo s fd ⟨us,[]⟩ (ps.zip (us++ds))
def Binds.all {K:PySem.W.Frag} {fd:fI} {ps:List Str} (h:∀ us:List ae,us.length = ps.length->bindArgs fd ⟨us,[]⟩ = pure (ps.zip us)):Binds K fd ps []:=λs us _ hl=>by
 rw [cB] at hl |-;exact .of_eq (h us hl)
def Passes (CX:CXT) (X:Cx) (E:XK):Prop:=∀ (pins:List (aw × Obj)) (σ:St) (H:Hp) (s:ai) (e:ae) (s':ai),Inv X pins σ H s->CX X.stack H s E e s'->X.xe e s'
section
variable {X:Cx} {CX:CXT} {k:Nat} {f C:aw} {fd:fI} {ps:List Str} {sp:Sp} {dvs:List V} {ds:List ae} {E:XK} {x m:Str} {p pos apos:Pos} {e o:aH} {es:List aH} {ta:TE} {t:TA}
def La (F:nO X.prog X.w X.K X.mg X.base CX k f fd ps sp) (hr:lQ k X.A) (hb:Binds X.K fd ps ds) (hd:Vals dvs ds) (hx:Passes CX X E)
 (I:Inv X pins σ H s) (r:Vals vs us) (h:sp (vs++dvs) H Q E):wpAny (model X.prog X.w) X.A (call (.ref f) us) (EP X pins σ Q) X.xe s:=by
 have r2:Vals (vs++dvs) (us++ds):=r.append hd;have hl:(us++ds).length = ps.length:=by rw [<- r2.length];exact F.len _ _ _ _ h
 refine wpAny_call (GH (F.run X.A X.stack s H ⟨us,[]⟩ (us++ds) (vs++dvs) Q E hr I.env0 (hb s us I.kIn hl) r2 h) λr s' hq=>?_)
 cases r with
 | error e=>exact hx pins σ H s e s' I hq
 | ok fl =>
   cases fl with
   | ret u=>exact I.after hq
   | next=>exact dW hq
   | brk=>exact dW hq
   | cont=>exact dW hq
def IA (F:nO X.prog X.w X.K X.mg X.base CX k f fd ps sp) (hr:lQ k X.A) (hg:Gl X x) (hm:X.mg x = some (.ref f)) (hk:PySem.W.keepIn X.K (.ref f) = true) (hb:Binds X.K fd ps ds) (hd:Vals dvs ds) (hx:Passes CX X E)
 (ha:PA X (e::es) t) (hdb:(x == ("__debug__":Str)) = false:=by decide) (he:starEach (e::es) X.env = (false,eval e X.env)::starEach es X.env:=by rfl) (hpl:(backTo pos (starEach es X.env)).any (·.1) = false:=by rfl) :
 PE X (.Call (.Name x p) (e::es) [] pos) (NA sp dvs E t):=by
 intro pins s σ H Q I h;refine rq (Ao I hg hm ?_ hdb);refine PySem.W.callWith_K (h₀:=X.base) I.ok.mod.kin hk (thn (ha pos pins s σ H _ I h) λus s1 ⟨vs,H1,I1,r,q⟩=>⟨I1.kIn,?_⟩) he hpl;exact La F hr hb hd hx I1 r q
structure Mk (K:PySem.W.Frag) (C f:aw):Prop where
 makes:PySem.W.makesIn K C = true
 init:PySem.W.findIn K (.ref C) "__init__" = some (some (.ref f))
 fn:PySem.W.isFn K (.ref f) = true
 kp:PySem.W.keepIn K (.ref C) = true
end
section
variable {X:Cx} {CX:CXT} {k:Nat} {f C:aw} {fd:fI} {ps ks:List Str} {sp:Sp} {E:XK} {x m:Str} {p pos apos kpos:Pos} {e o:aH} {es:List aH} {kws:List jR} {te ta:TE} {t tk:TA} {nm:Option Str}
structure Pr (K:PySem.W.Frag) (fd:fI) (ps ks:List Str) (g:List ae->List ae->List ae) (gV:List V->List V->List V):Prop where
 to:∀ (s:ai) (us ws:List ae),K.In s.heap->(g us ws).length = ps.length->BindsTo s fd ⟨us,ks.zip ws⟩ (ps.zip (g us ws))
 rel:∀ {vs:List V} {us:List ae} {zs:List V} {ws:List ae},Vals vs us->Vals zs ws->Vals (gV vs zs) (g us ws)
variable {g:List ae->List ae->List ae} {gV:List V->List V->List V}
end
structure nN (N P:List Str) (sc:fc):Prop where
 kind:sc.kind = .function
 co:sc.isCoroutine = false
 gen:sc.isGenerator = false
 nd:N.Nodup
 pre:N.take P.length = P
 par:∀ x∈P,sc.names.lookup x = some .local\/sc.names.lookup x = some .cell
 nofree:∀ y∈sc.names,y.2≠.free
def tq {kindOf:Str->Option ku} {x:Str}:∀ {binds:List (Str × ae)} {m:Str->Option ae},(∀ v,(x,v)∉binds)->bindL kindOf binds m x = m x
 | [],_,_=>rfl
 | (n,v)::r,m,h=>by
   unfold bindL;rw [tq λw hw=>h w (ak _ hw)];split
   . have:x≠n:=by rintro rfl;exact h v au
     simp [this]
   . rfl
def tw {kindOf:Str->Option ku} {x:Str}:∀ {binds:List (Str × ae)} {m:Str->Option ae},(∀ v,(x,v)∉binds)->bindC kindOf binds m x = m x
 | [],_,_=>rfl
 | (n,v)::r,m,h=>by
   unfold bindC;rw [tw λw hw=>h w (ak _ hw)];split
   . rfl
   . have:x≠n:=by rintro rfl;exact h v au
     simp [this]
def tu {kindOf:Str->Option ku} {x:Str} {v:ae}:∀ {P:List Str} {vs:List ae} {i:Nat} {m:Str->Option ae},P.Nodup->P[i]? = some x->vs[i]? = some v->kindOf x = some .local ->
 bindL kindOf (P.zip vs) m x = some v
 | [],_,_,_,_,h,_,_=>by simp at h
 | _::_,[],_,_,_,_,h,_=>by simp at h
 | p::P,w::vs,0,m,nd,h1,h2,hk=>by
   simp at h1 h2;subst h1;subst h2;show bindL kindOf ((p,w)::P.zip vs) m p = _;unfold bindL;rw [tq λv hv=>(gy.mp nd).1 (rF hv).1,if_pos hk]
   simp
 | p::P,w::vs,i+1,m,nd,h1,h2,hk=>by
   show bindL kindOf ((p,w)::P.zip vs) m x = _;unfold bindL;exact tu (i:=i) (gy.mp nd).2 (by simpa using h1) (by simpa using h2) hk
def tB {kindOf:Str->Option ku} {x:Str} {v:ae}:∀ {P:List Str} {vs:List ae} {i:Nat} {m:Str->Option ae},P.Nodup->P[i]? = some x->vs[i]? = some v->kindOf x≠some .local ->
 bindC kindOf (P.zip vs) m x = some v
 | [],_,_,_,_,h,_,_=>by simp at h
 | _::_,[],_,_,_,_,h,_=>by simp at h
 | p::P,w::vs,0,m,nd,h1,h2,hk=>by
   simp at h1 h2;subst h1;subst h2;show bindC kindOf ((p,w)::P.zip vs) m p = _;unfold bindC;rw [tw λv hv=>(gy.mp nd).1 (rF hv).1,if_neg hk]
   simp
 | p::P,w::vs,i+1,m,nd,h1,h2,hk=>by
   show bindC kindOf ((p,w)::P.zip vs) m x = _;unfold bindC;exact tB (i:=i) (gy.mp nd).2 (by simpa using h1) (by simpa using h2) hk
def start (N:List Str) (vs:List V):St:=vs.map some++aZ (N.length - vs.length) none
def uS (CX:CXT) (P:aS) (w:bD) (K:PySem.W.Frag) (mg:Str->Option ae) (base:cb) (N:List Str) (qual:Str) (scope:fc) (f:aw) (cd:ae) (A:aW) (outer:List Env) (s:ai) (H:Hp) (E:XK):Cx where
 prog:=P
 w:=w
 K:=K
 mg:=mg
 base:=base
 A:=A.deeper (envOfC qual scope s.heap.objs.size f cd)
 N:=N
 s₀:=s
 H₀:=H
 env:=envOfC qual scope s.heap.objs.size f cd
 outer:=outer
 stack:=envOfC qual scope s.heap.objs.size f cd::outer
 ex:=[]
 calm:=true
 fn:=λ_=>true
 pn:=[]
 xe:=λe s'=>wpAny (model P w) (A.deeper (envOfC qual scope s.heap.objs.size f cd)) (leaving (envOfC qual scope s.heap.objs.size f cd) e) (λ_ s''=>CX outer H s E e s'') (λe' s''=>CX outer H s E e' s'') s'
def xA {sc:fc} {n:Nat} {x:Str} (h:sc.names.lookup x = some .cell):∃ c,(cellsFrom n sc.names []).lookup x = some c:=by
 have q:=PySem.W.cellsFrom_some sc.names n [] (.inl h);exact gf.mp q
def BV {CX:CXT} {P:aS} {w:bD} {K:PySem.W.Frag} {mg:Str->Option ae} {base:cb} {N ps:List Str} {qual:Str} {scope:fc} {f:aw} {cd:ae} {A:aW} {outer:List Env} {s s1:ai} {H:Hp} {E:XK} {us:List ae} {vs:List V}
 (S:nN N ps scope) (hd:A.handled = none) (e0:Jw P w K mg base A outer s H) (hl:vs.length = ps.length) (r:Vals vs us)
 (x:InCallC s s.heap.objs.size (bindL (envOfC qual scope s.heap.objs.size f cd).kindOf (ps.zip us) λ_=>none) (cellsFrom (s.heap.objs.size+1) scope.names []) (bindC (envOfC qual scope s.heap.objs.size f cd).kindOf (ps.zip us) λ_=>none) s1) :
 Inv (uS CX P w K mg base N qual scope f cd A outer s H E) [] (start N vs) H s1:=by
 have hpl:ps.length<=N.length:=by have:=congrArg AY S.pre;rw [bq] at this;lia
 obtain ⟨h1,tk,rfl,hk⟩:=x.done;have noA:∀ b:aw,b∉(uS CX P w K mg base N qual scope f cd A outer s H E).ex:=λb z=>absurd (show b∈([]:List aw) from z) ↥0
 refine ⟨⟨e0.mod,S.kind,rfl,rfl,ao _,λy z c h1 h2=>?_,λy hy=>?_,λy c _ h=>?_,λ_=>hd,Around.frames_deeper e0.frames,.inr ⟨rfl,rfl⟩,λb z=>absurd z (noA b),e0.bs,e0.bsz,λb _ _=>noA b,λb z=>absurd z (noA b),e0.funs,e0.frf⟩,
  rfl,e0.bare,Un.kept hk,⟨_,x.toInCall.ns,λi y v h1 h2 h3=>?_⟩,λy c h=>⟨_,x.cell y c h⟩,e0.hok.fresh (ao _),λy c h=>?_,λp hp=>absurd (show p∈([]:List (aw × Obj)) from hp) ↥0,e0.hok.kept hk,?_⟩
 . exact name_of_addr x.apart (PySem.mem_of_lookup h1) (PySem.mem_of_lookup h2)
 . have hy:scope.names.lookup y = some .cell\/scope.names.lookup y = some .free:=hy;rcases hy with hy | hy
   . exact xA hy
   . exact absurd rfl (S.nofree _ (PySem.mem_of_lookup hy))
 . exact ly (x.above y c (PySem.mem_of_lookup h))
 . have hi:i < vs.length:=by
    unfold start at h2;by_cases hi:i < vs.length
    . exact hi
    . rw [cg (by simpa using hi)] at h2;rw [gN] at h2;split at h2<;>cases h2
   have ha:vs[i]? = some v:=by
    unfold start at h2;rw [bL (by simpa using hi),cW] at h2
    cases e:vs[i]? with
    | none=>rw [e] at h2;cases h2
    | some a=>rw [e] at h2;cases h2;rfl
   obtain ⟨u,hu,rv⟩:=r.get ha
   have hp:ps[i]? = some y:=by
    rw [<- S.pre,eA ∅];exact h1
   have ndP:ps.Nodup:=by rw [<- S.pre];exact S.nd.sublist (GQ _ _)
   refine ⟨u,rv,?_⟩;rcases S.par y (bI hp) with k | k
   . exact .inl ⟨k,tu ndP hp hu k⟩
   . obtain ⟨c,e⟩:=xA (n:=s.heap.objs.size+1) k;refine .inr ⟨.inl k,c,e,?_⟩;have q:=x.cell y c e;rw [tB ndP hp hu (by show scope.names.lookup y≠_;rw [k];decide)] at q;exact q
 . exact e0.hok.fresh (ly (x.above y c (PySem.mem_of_lookup h)))
 . unfold start;show _ = N.length;rw [ax,ay,iF]
   lia
def Ou {CX:CXT} {P:aS} {w:bD} {K:PySem.W.Frag} {mg:Str->Option ae} {base:cb} {k:Nat} {f:aw} {name qual:Str} {params:CJ} {body:List dD} {scope:fc} {dV kV doc pm cdv ct oc:ae} {an od:Option aw}
 {osl:Array (Option ae)} {N ps:List Str} {sp:Sp} (lk:K.lookup f = some ⟨oc,od,.func (PySem.W.fnOf name qual params body scope dV kV doc pm an cdv ct),osl⟩) (hcd:PySem.W.codeIn K cdv qual = true) (S:nN N ps scope)
 (len:∀ vs H Q E,sp vs H Q E->vs.length = ps.length)
 (hbody:∀ (A:aW) (outer:List Env) (s:ai) (H:Hp) (vs:List V) (Q:VK) (E:XK),lQ k (A.deeper (envOfC qual scope s.heap.objs.size f cdv))->sp vs H Q E ->
   ∃ t,PSs (uS CX P w K mg base N qual scope f cdv A outer s H E) body t/\t { nx:=λ_ H'=>Q .non H',rt:=Q } (start N vs) H) :
 nO P w K mg base CX (k+1) f (PySem.W.fnOf name qual params body scope dV kV doc pm an cdv ct) ps sp:=by
 refine ⟨len,λA outer s H args us vs Q E hr e0 hb r hsp=>?_⟩;have hl:=len _ _ _ _ hsp;have KX:K.In s.heap:=e0.mod.kin.keeps λb o e=>(e0.bs b o e).1;have lim:s.heap.NoLimit:=e0.mod.nolimit.keeps λb o e=>(e0.bs b o e).1
 have hkind:∀ y∈ps.zip us,scope.names.lookup y.1 = some .local\/(scope.names.lookup y.1 = some .cell/\((cellsFrom (s.heap.objs.size+1) scope.names []).lookup y.1).isSome = true):=λ⟨n,v⟩ hy=>by
  rcases S.par n (rF hy).1 with q | q
  . exact .inl q
  . exact .inr ⟨q,PySem.W.cellsFrom_some _ _ _ (.inl q)⟩
 refine codeAny_call_function hr.depth (KX _ _ lk) rfl S.co S.gen rfl (PySem.W.codeRec_of KX hcd) (hb _ _ _ _ ?_);refine wpAny_newFunctionEnv_cells S.kind hkind λenv he s1 x=>?_;subst he;refine ⟨lim.keeps x.toInCall.keep,codeAny_func ?_⟩;obtain ⟨t,ht,hq⟩:=hbody A outer s H vs Q E (hr.deeper _) hsp;have I:Inv (uS CX P w K mg base N qual scope f cdv A outer s H E) [] (start N vs) H s1:=BV S hr.hd e0 hl r x;refine dR (ht [] s1 (start N vs) H _ I hq) (λfl s' hs=>?_) λe s' hs=>hs
 have fin:∀ {σ':St} {H':Hp} {v:V} {u:ae},Inv (uS CX P w K mg base N qual scope f cdv A outer s H E) [] σ' H' s'->RelV v u->Q v H'->CE outer P w H s Q u s' :=
  λ{σ' H' v u} J rv q=>⟨v,H',J.os,J.bare,J.base,J.hok,rv,q⟩
 cases fl with
 | ret u =>
   obtain ⟨v,σ',H',J,rv,q⟩:=hs
   exact fin J rv q
 | next =>
   obtain ⟨σ',H',J,q⟩:=hs
   exact fin (v:=V.non) (u:=bH) J rfl q
 | brk =>
   obtain ⟨_,_,_,q⟩:=hs
   exact dW q
 | cont =>
   obtain ⟨_,_,_,q⟩:=hs;exact dW q
end L2
namespace L2
open PySem PySem.Spec PyProof.Rows
section
variable {X:Cx} {x:Str} {p pos:Pos} {e:aH} {es:List aH} {t:TA} {id T:String} {r:List V->Hp->VK->Prop}
def tCB (r:List V->Hp->VK->Prop) (t:TA):TE:=λσ H Q=>t σ H λvs H1=>r vs H1 Q
def gC (hc:cz X (.builtin id) r) (hg:Gl X x) (hm:X.mg x = none) (hv:bootBuiltins x = some (.builtin id)) (ha:PA X (e::es) t) (hn:x≠"__name__":=by decide) (hdb:(x == ("__debug__":Str)) = false:=by decide)
 (he:starEach (e::es) X.env = (false,eval e X.env)::starEach es X.env:=by rfl) (hpl:(backTo pos (starEach es X.env)).any (·.1) = false:=by rfl):PE X (.Call (.Name x p) (e::es) [] pos) (tCB r t):=by
 intro pins s σ H Q I h;refine rq (mC I hg hm hv ?_ hn hdb);exact PyProof.Rows.callWith_builtin1 (thn (ha pos pins s σ H _ I h) λus s1 ⟨vs,H1,I1,r1,q1⟩=>hc pins s1 σ H1 vs us Q I1 r1 q1) he hpl
def lC (hc:cz X (.type T) r) (hg:Gl X x) (hm:X.mg x = none) (hv:bootBuiltins x = some (.type T)) (ha:PA X (e::es) t) (hn:x≠"__name__":=by decide) (hdb:(x == ("__debug__":Str)) = false:=by decide)
 (he:starEach (e::es) X.env = (false,eval e X.env)::starEach es X.env:=by rfl) (hpl:(backTo pos (starEach es X.env)).any (·.1) = false:=by rfl):PE X (.Call (.Name x p) (e::es) [] pos) (tCB r t):=by
 intro pins s σ H Q I h;refine rq (mC I hg hm hv ?_ hn hdb);exact dB (thn (ha pos pins s σ H _ I h) λus s1 ⟨vs,H1,I1,r1,q1⟩=>hc pins s1 σ H1 vs us Q I1 r1 q1) he hpl
end
end L2
namespace HT
open PySem PyProof.Rows
section
open PySem.SeqAt
open PySem.AutoSeq1 (wpAny_loadPart')
open PySem.MeetsSeq PySem.MeetsSeq2 PySem.MeetsSeq3
end
section
variable {prog:aS} {w:bD} {A:aW} {E:ae->ai->Prop} {s:ai}
def cat_tup (ht:JE s.heap t vs.toArray) (hb:JE s.heap b ws.toArray) (hv:vs≠[])
 (h1:ws = []->Q (.ref t) s) (h2:ws≠[]->Q (.ref s.heap.objs.size) { s with heap:=s.heap.push { cls:=.type "tuple",data:=.seq (vs++ws).toArray } })
 (hsz:vs.length+ws.length<=sizeLine):wpAny (model prog w) A (binaryOp .Add (.ref t) (.ref b)) Q E s:=by
 obtain ⟨⟨cls,dd,data,sl⟩,ho,hc,n,hd⟩:=id ht;obtain ⟨⟨cls2,dd2,data2,sl2⟩,ho2,hc2,n2,hd2⟩:=id hb;simp only at hc hd hc2 hd2;subst hc hd hc2 hd2;have e:vs.toArray++ws.toArray = (vs++ws).toArray:=by simp
 by_cases hw:ws = []
 . exact GG ⟨_,ho,rfl⟩ ⟨_,ho2,rfl⟩ vk Cv PySem.F.slot_tuple_add PySem.F.entry_tuple_add (PySem.F.args_tuple_add_2 _ _)
    (tuple_addW1 t b vs.toArray ws.toArray n n2 dd dd2 sl sl2 (by simpa using hv) (by simp [hw])) ⟨ho,ho2,h1 hw⟩
 . refine GG ⟨_,ho,rfl⟩ ⟨_,ho2,rfl⟩ vk Cv PySem.F.slot_tuple_add PySem.F.entry_tuple_add (PySem.F.args_tuple_add_2 _ _)
    (tuple_addW2 t b vs.toArray ws.toArray n n2 dd dd2 sl sl2 (by simpa using hv) (by simpa using hw) (by rw [aG,aG];exact hsz)) ⟨ho,ho2,?_⟩
   rw [e];exact h2 hw
def sIx (n d:Nat):Option Int->Nat
 | none=>d
 | some v=>if v < 0 then (v+(n:Int)).toNat else min v.toNat n
def sIx_nat (n d k:Nat):sIx n d (some (k:Int)) = min k n:=by
 show (if (k:Int) < 0 then ((k:Int)+(n:Int)).toNat else min (k:Int).toNat n) = min k n;rw [if_neg ∅,iq]
def KZ (n d:Nat) (hd:d<=n) (o:Option Int):sIx n d o<=n:=by
 cases o with
 | none=>exact hd
 | some v =>
   show (if v < 0 then (v+(n:Int)).toNat else min v.toNat n)<=n;by_cases hv:v < 0
   . rw [if_pos hv];lia
   . rw [if_neg hv];exact rz _ _
def AM (v:Int) (n d:Nat):(if v < 0 then max (v+(n:Int)) 0 else min v (n:Int)) = ((sIx n d (some v):Nat):Int):=by
 show (if v < 0 then max (v+(n:Int)) 0 else min v (n:Int)) = (((if v < 0 then (v+(n:Int)).toNat else min v.toNat n):Nat):Int);by_cases hv:v < 0
 . simp only [if_pos hv];lia
 . simp only [if_neg hv];lia
def zc (lo hi:Option Int) (n:Nat):iK lo hi 1 (n:Int) = (((sIx n 0 lo:Nat):Int),((sIx n n hi:Nat):Int)):=by
 have h1:¬ ((1:Int) < 0):=by lia
 unfold iK;simp only [h1,if_false];refine Prod.ext ?_ ?_
 . cases lo with
   | none=>rfl
   | some v=>exact AM v n 0
 . cases hi with
   | none=>rfl
   | some v=>exact AM v n n
def yB (i j:Nat):fj (i:Int) (j:Int) 1 = j - i:=by
 unfold fj;have h1:(1:Int) > 0:=by lia
 simp only [h1,if_true,Int.ediv_one];split<;>lia
def qu {v:ae} {o:Option Int} {Q:Option Int->ai->Prop} (p:rE v o) (h:Q o s):wpAny (model prog w) A (Builtin.Slice.slicePartIndex v) Q E s:=by
 cases p with
 | none=>exact slicePart_none h
 | int i t=>exact slicePart_int h
def oj {sl:aw} {vl vu:ae} {lo hi:Option Int} {n:Nat} {Q:Int × Int × Nat->ai->Prop} (hs:s.heap.IsSliceOf sl vl vu .none) (pl:rE vl lo) (pu:rE vu hi)
 (h:Q (((sIx n 0 lo:Nat):Int),1,sIx n n hi - sIx n 0 lo) s):wpAny (model prog w) A (nR (.ref sl) (pure (n:Int))) Q E s:=by
 obtain ⟨os,hos,hcs,hds⟩:=id hs;unfold nR Builtin.Slice.sliceFields;refine ab (ab (cT hos hds (x:=vl) rfl (ab (cT hos hds (x:=vu) rfl (ab (cT hos hds (x:=.none) rfl (aq ?_)))))));refine ab (slicePart_none ?_);show wpAny _ _ (if ((1:Int) == 0) = true then _ else _) _ _ s;rw [if_neg ⇑0];refine ab (qu pl (ab (qu pu (ab (aq ?_)))));show wpAny _ _ (match iK lo hi 1 (n:Int) with | (lo,hi)=>pure (lo,(1:Int),fj lo hi 1)) _ _ s;rw [zc lo hi n];show wpAny _ _ (pure (((sIx n 0 lo:Nat):Int),(1:Int),fj ((sIx n 0 lo:Nat):Int) ((sIx n n hi:Nat):Int) 1)) _ _ s;rw [yB];exact aq h
def Ex (xs:Array ae) (i k:Nat):((cc k).filterMap λ(m:Nat)=>xs[((i:Int)+(m:Int) * 1).toNat]?).toArray = ((xs.toList.drop i).take k).toArray:=by
 have e:(λ(m:Nat)=>xs[((i:Int)+(m:Int) * 1).toNat]?) = λm=>xs[i+m]? := by
  funext m
  have:((i:Int)+(m:Int) * 1).toNat = i+m:=by lia
  rw [this]
 rw [e];have:=pick_run xs i k;rw [List.filterMap_map] at this;have e2:((λx=>xs[x]?) ∘ λx=>i+x) = λm=>xs[i+m]? := rfl;rw [e2] at this;rw [this]
def getItem_tuple_cut {t sl:aw} {items:Array ae} {vl vu:ae} {lo hi:Option Int} {Q:ae->ai->Prop} (ht:JE s.heap t items) (hs:s.heap.IsSliceOf sl vl vu .none) (pl:rE vl lo) (pu:rE vu hi)
 (hw:¬ (sIx items.size 0 lo = 0/\sIx items.size items.size hi = items.size))
 (h:Q (.ref s.heap.objs.size) { s with heap:=s.heap.push { cls:=.type "tuple",data:=.seq ((items.toList.drop (sIx items.size 0 lo)).take (sIx items.size items.size hi - sIx items.size 0 lo)).toArray } })
 (hsz:items.size<=sizeLine):wpAny (model prog w) A (getItem (.ref t) (.ref sl)) Q E s:=by
 have htake:sizeOk (.seq ((items.toList.drop (sIx items.size 0 lo)).take (sIx items.size items.size hi - sIx items.size 0 lo)).toArray):=by
  show ((items.toList.drop (sIx items.size 0 lo)).take (sIx items.size items.size hi - sIx items.size 0 lo)).toArray.size<=sizeLine;rw [aG,bq,cP,aK];omega
 have hj:sIx items.size items.size hi<=items.size:=KZ _ _ (ao _) hi;obtain ⟨os,hos,hcs,hds⟩:=id hs;have hTs:s.TypeIs (.ref sl) "slice":=⟨os,hos,hcs⟩;unfold getItem
 try with_reducible refine bY ?_
 first | refine ab (aq ?_) | skip
 refine ab (wpAny_sequenceKey ht.typeIs ⇑0 ?_)
 refine ab (cU (name:=fX "__getitem__") ht.typeIs lT
  (bW lT ht.typeIs entry_tuple_getitem ?_ (args_tuple_getitem _ _)))
 show wpAny _ _ (Builtin.Tuple.tupleItemsOf (.ref t) >>= _) _ _ s;refine ab (tupleItemsOf_ ht ?_);refine ab (GA hTs ?_);rw [if_pos ⇑0];refine ab (oj hs pl pu ?_)
 have hno:¬ ((((sIx items.size 0 lo:Nat):Int) == 0 && (1:Int) == 1 && (sIx items.size items.size hi - sIx items.size 0 lo) == items.size) = true):=by
  intro q;rw [aa,aa] at q;have q1:((sIx items.size 0 lo:Nat):Int) = 0:=eq_of_beq q.1.1;have q2:sIx items.size items.size hi - sIx items.size 0 lo = items.size:=eq_of_beq q.2;exact hw ⟨by omega,by omega⟩
 show wpAny _ _ (if (((sIx items.size 0 lo:Nat):Int) == 0 && (1:Int) == 1 && (sIx items.size items.size hi - sIx items.size 0 lo) == items.size) = true then _ else _) _ _ s;rw [if_neg hno,Ex]
 first
  | exact ab (m:=fv _) (bA (aq ⟨_,rfl,aq h⟩) htake)
  | exact ab (m:=fv _) (bA (ab (aq (aq ⟨_,rfl,aq h⟩))) htake)
  | exact ab (ab (m:=fv _) (bA (aq (aq ⟨_,rfl,aq h⟩)) htake))
  | exact ab (ab (m:=fv _) (bA (aq ⟨_,rfl,aq h⟩) htake))
end
end HT
namespace L2
open PySem PySem.Spec PyProof.Rows
abbrev TO:=St->Hp->(Option Int->Hp->Prop)->Prop
def PO (X:Cx) (e:Option aH) (t:TO):Prop :=
 ∀ (pins:List (aw × Obj)) (s:ai) (σ:St) (H:Hp) (Q:Option Int->Hp->Prop),Inv X pins σ H s->t σ H Q ->
  wpAny (model X.prog X.w) X.A (evalPart e X.env) (λu s'=>∃ o H',Inv X pins σ H' s'/\rE u o/\Q o H') X.xe s
def HB:TO:=λ_ H Q=>Q none H
def Nw (t:TE):TO:=λσ H Q=>t σ H λx H1=>∃ i,x = .int i/\Q (some i) H1
section
variable {X:Cx} {e:aH} {te:TE} {lo hi:Option aH} {tl th:TO} {pos p2:Pos}
def Iu:PO X none HB:=by
 intro pins s σ H Q I h;rw [evalPart_none];exact aq ⟨none,H,I,.none,h⟩
def Ir (h:PE X e te):PO X (some e) (Nw te):=by
 intro pins s σ H Q I hw;rw [evalPart_some];refine thn (h pins s σ H _ I hw) λu s1 zz=>?_;obtain ⟨x,H1,I1,r1,q1⟩:=zz;obtain ⟨i,rfl,q⟩:=q1;obtain ⟨t,rfl⟩:=r1;exact ⟨some i,H1,I1,.int i t,q⟩
def SlR (X:Cx) (r:V->Option Int->Option Int->Hp->VK->Prop):Prop :=
 ∀ (pins:List (aw × Obj)) (s:ai) (σ:St) (H:Hp) (x:V) (v vl vu:ae) (lo hi:Option Int) (sl:aw) (Q:VK),Inv X pins σ H s->RelV x v->s.heap.IsSliceOf sl vl vu .none->rE vl lo->rE vu hi->r x lo hi H Q ->
  ∃ T id,typeLookup (.type T) "__getitem__" = pure (some (.builtin id))/\s.TypeIs v T/\wpAny (model X.prog X.w) X.A (getItem v (.ref sl)) (EP X pins σ Q) X.xe s
def SlR.or {r r':V->Option Int->Option Int->Hp->VK->Prop} (h:SlR X r) (h':SlR X r'):SlR X (λx lo hi H Q=>r x lo hi H Q\/r' x lo hi H Q):=by
 intro pins s σ H x v vl vu lo hi sl Q I rx hs pl pu q;rcases q with q | q
 . exact h pins s σ H x v vl vu lo hi sl Q I rx hs pl pu q
 . exact h' pins s σ H x v vl vu lo hi sl Q I rx hs pl pu q
def tSl (r:V->Option Int->Option Int->Hp->VK->Prop) (te:TE) (tl th:TO):TE:=λσ H Q=>te σ H λx H1=>tl σ H1 λl H2=>th σ H2 λu H3=>r x l u H3 Q
def wu (hr:SlR X r) (he:PE X e te) (hl:PO X lo tl) (hu:PO X hi th):PE X (.Subscript e (.Slice lo hi none p2) pos) (tSl r te tl th):=by
 intro pins s σ H Q I h;refine Subscript_ (thn (he pins s σ H _ I h) λv s1 ⟨x,H1,I1,r1,q1⟩=>?_);refine wpAny_Slice (thn (hl pins s1 σ H1 _ I1 q1) λvl s2 ⟨l,H2,I2,pl,q2⟩=>thn (hu pins s2 σ H2 _ I2 q2) λvu s3 ⟨u,H3,I3,pu,q3⟩=>?_);rw [evalPart_none];refine aq ?_;have I4:Inv X pins σ H3 { s3 with heap:=s3.heap.push { cls:=.type "slice",data:=.fields #[vl,vu,.none] } }:=I3.kept (t':=s3.toks) λb ob q=>ah _ q;obtain ⟨T,id,hT,ht,hg⟩:=hr pins { s3 with heap:=s3.heap.push { cls:=.type "slice",data:=.fields #[vl,vu,.none] } } σ H3 x v vl vu l u s3.heap.objs.size Q I4 r1 (Heap.IsSliceOf.new ..) pl pu q3;show wpAny (model X.prog X.w) X.A (subscriptTail e (.Slice lo hi none p2) v (.ref s3.heap.objs.size)) (EP X pins σ Q) X.xe { s3 with heap:=s3.heap.push { cls:=.type "slice",data:=.fields #[vl,vu,.none] } };exact tail_any (ops:=[.ref s3.heap.objs.size,v]) ht hT hg (by with_unfolding_all rfl)
def rQ (xs:List V) (lo hi:Option Int):List V:=(xs.drop (HT.sIx xs.length 0 lo)).take (HT.sIx xs.length xs.length hi - HT.sIx xs.length 0 lo)
def oY (xs:List V) (lo hi:Option Int):(rQ xs lo hi).length<=xs.length:=by
 unfold rQ;rw [bq,cP]
 lia
def Pa (K:PySem.W.Frag):V->Option Int->Option Int->Hp->VK->Prop:=λx lo hi H Q=>∃ a xs,x = .ref a/\SqT K H a xs /\
 ¬ (HT.sIx xs.length 0 lo = 0/\HT.sIx xs.length xs.length hi = xs.length)/\∀ p,H p = none->Q (.ref p) (upd H p (.tup (rQ xs lo hi)))
def KS:SlR X (Pa X.K):=by
 intro pins s σ H x v vl vu lo hi sl Q I rx hs pl pu h;obtain ⟨a,xs,rfl,hx,hw,q⟩:=h;cases rx;obtain ⟨its,r,ht,hz⟩:=I.tuple hx;have hlen:its.toArray.size = xs.length:=by rw [aG];exact r.length.symm
 refine ⟨"tuple",_,PyProof.Rows.slot_tuple_getitem.lookup,ht.typeIs,?_⟩;refine HT.getItem_tuple_cut ht hs pl pu (by rw [hlen];exact hw) ?_ (by rw [hlen];exact hz);rw [hlen];refine ⟨.ref s.heap.objs.size,_,I.laid (t':=s.toks) (o:=.tup (rQ xs lo hi)) (λb ob q=>ah _ q) (ao _) ?_,rfl,q _ (I.hok.fresh (ao _))⟩;exact ⟨bj (oY xs lo hi) hz,_,(r.drop (HT.sIx xs.length 0 lo)).take (HT.sIx xs.length xs.length hi - HT.sIx xs.length 0 lo),Ha _ _⟩
def NL (K:PySem.W.Frag):R2:=λx y H Q=>∃ a b xs ys,x = .ref a/\y = .ref b/\SqT K H a xs/\SqT K H b ys/\xs≠[]/\xs.length+ys.length<=sizeLine /\
 (ys = []->Q (.ref a) H)/\(ys≠[]->∀ p,H p = none->Q (.ref p) (upd H p (.tup (xs++ys))))
def Vals.nil_iff (r:Vals xs us):us = []↔xs = []:=by
 cases r with
 | nil=>simp
 | cons _ _=>simp
def IG:OpR X (binaryOp .Add) (NL X.K):=by
 intro pins s σ H x y v u Q I rx ry h;obtain ⟨a,b,xs,ys,rfl,rfl,ha,hb,hx,hz,q1,q2⟩:=h;cases rx;cases ry;obtain ⟨its,r1,p1,_⟩:=I.tuple ha;obtain ⟨its2,r2,p2,_⟩:=I.tuple hb;refine HT.cat_tup p1 p2 (λz=>hx (r1.nil_iff.mp z)) (λz=>⟨.ref a,H,I,rfl,q1 (r2.nil_iff.mp z)⟩) (λz=>?_) (by rw [<- r1.length,<- r2.length];exact hz);refine ⟨.ref s.heap.objs.size,_,I.laid (t':=s.toks) (o:=.tup (xs++ys)) (λb ob q=>ah _ q) (ao _) ?_,rfl,q2 (λw=>z (r2.nil_iff.mpr w)) _ (I.hok.fresh (ao _))⟩;exact ⟨by rw [ax];exact hz,_,r1.append r2,Ha _ _⟩
end
end L2
namespace L2
open PySem PySem.Spec PyProof.Rows
def ixN (n:Nat) (i:Int):Option Nat:=if 0<=i then (if i < n then some i.toNat else none) else if -(n:Int)<=i then some (i+n).toNat else none
def atI {α:Type} (xs:List α) (i:Int):Option α:=(ixN xs.length i).bind λj=>xs[j]?
def Ar (h:ixN n i = some j):seqIndex? i n = some j/\j < n/\-(n:Int)<=i/\i < n:=by
 unfold ixN at h;by_cases h0:0<=i
 . rw [if_pos h0] at h;by_cases h1:i < n
   . rw [if_pos h1] at h;have e:i.toNat = j:=cH h;exact ⟨by rw [Jy h0 h1,e],∅,∅,h1⟩
   . rw [if_neg h1] at h;cases h
 . rw [if_neg h0] at h;by_cases h1:-(n:Int)<=i
   . rw [if_pos h1] at h;have e:(i+n).toNat = j:=cH h;exact ⟨by rw [GC ∅ h1,e],∅,h1,∅⟩
   . rw [if_neg h1] at h;cases h
def vg {α:Type} {xs:List α} {i:Int} {v:α} (h:atI xs i = some v):∃ j,seqIndex? i xs.length = some j/\xs[j]? = some v/\j < xs.length/\-(xs.length:Int)<=i/\i < xs.length:=by
 unfold atI at h
 cases e:ixN xs.length i with
 | none=>rw [e] at h;cases h
 | some j =>
   rw [e] at h;obtain ⟨h1,h2,h3,h4⟩:=Ar e;exact ⟨j,h1,h,h2,h3,h4⟩
def atI_nat {α:Type} {xs:List α} {j:Nat} {v:α} (h:xs[j]? = some v):atI xs (j:Int) = some v:=by
 have hj:j < xs.length:=(aC.mp h).1
 have e:ixN xs.length (j:Int) = some j:=by
  unfold ixN;rw [if_pos ∅,if_pos ∅];simp
 unfold atI;rw [e];exact h
def PlainIx (b:aH):Prop:=∀ o i,subscripted b false o i = operate [o,i] (getItem o i)
def IxR (X:Cx) (r:R2):Prop :=
 ∀ (value slice:aH) (pins:List (aw × Obj)) (s:ai) (σ:St) (H:Hp) (x y:V) (v u:ae) (Q:VK),Inv X pins σ H s->RelV x v->RelV y u->r x y H Q ->
  subscripted slice false v u = operate [v,u] (getItem v u)->wpAny (model X.prog X.w) X.A (subscriptTail value slice v u) (EP X pins σ Q) X.xe s
def MtR (X:Cx) (id:String) (r:V->List V->Hp->VK->Prop):Prop :=
 ∀ (pins:List (aw × Obj)) (s:ai) (σ:St) (H:Hp) (x:V) (xs:List V) (v:ae) (us:List ae) (Q:VK),Inv X pins σ H s->RelV x v->Vals xs us->r x xs H Q ->
  wpAny (model X.prog X.w) X.A (call (.builtin id) (v::us)) (EP X pins σ Q) X.xe s
section
variable {X:Cx} {a b:aH} {ta tb:TE} {pos:Pos}
def IxR.or {r r':R2} (h:IxR X r) (h':IxR X r'):IxR X (λx y H Q=>r x y H Q\/r' x y H Q):=by
 intro value slice pins s σ H x y v u Q I rx ry q hs;rcases q with q | q
 . exact h value slice pins s σ H x y v u Q I rx ry q hs
 . exact h' value slice pins s σ H x y v u Q I rx ry q hs
def NQ (hr:IxR X r) (ha:PE X a ta) (hb:PE X b tb) (hs:PlainIx b):PE X (.Subscript a b pos) (tOp r ta tb):=by
 intro pins s σ H Q I h;exact Subscript_ (MO ha hb I h λv u s2 x y H2 I2 rx ry q=>hr a b pins s2 σ H2 x y v u Q I2 rx ry q (hs _ _))
def NJ (K:PySem.W.Frag):R2:=λx y H Q=>∃ p xs i v,x = .ref p/\y = .int i/\SqL K H p xs/\atI xs i = some v/\Q v H
def NH (K:PySem.W.Frag):R2:=λx y H Q=>∃ p xs i v,x = .ref p/\y = .int i/\SqT K H p xs/\atI xs i = some v/\Q v H
def NI:R2:=λx y H Q=>∃ z i c,x = .str z/\y = .int i/\z.length<=sizeLine/\atI z.cps.toList i = some c/\Q (.str ⟨#[c]⟩) H
def Jc:IxR X (NJ X.K):=by
 intro value slice pins s σ H x y v u Q I rx ry h hs;obtain ⟨p,xs,i,z,rfl,rfl,hq,he,q⟩:=h;cases rx;obtain ⟨t,rfl⟩:=ry;obtain ⟨its,r,pl,hz⟩:=I.list hq;obtain ⟨j,h1,h2,h3,h4,h5⟩:=vg he;obtain ⟨w,ew,rw'⟩:=r.get h2;have hl:=r.length;have hn:=mB;have fin:EP X pins σ Q w s:=⟨z,H,I,rw',q⟩;by_cases h0:0<=i
 . have hj:i.toNat = j:=by
    rw [Jy h0 h5] at h1;exact cH h1
   exact item_listR pl.isList h0 ∅ (by rw [hj];simpa using ew) fin hs
 . have hj:(i+(its.toArray.size:Int)).toNat = j:=by
    rw [GC ∅ h4] at h1;rw [aG,<- hl];exact cH h1
   exact GB (x:=w) pl.isList.typeIs slot_list_getitem.lookup
    (wpAny_getItem_list_neg (Q:=λr s'=>r = w/\EP X pins σ Q r s') pl.isList ∅ (by rw [aG]<;>lia) ∅ (by rw [hj];simpa using ew) ⟨rfl,fin⟩) hs
def Mn:IxR X (NH X.K):=by
 intro value slice pins s σ H x y v u Q I rx ry h hs;obtain ⟨p,xs,i,z,rfl,rfl,hq,he,q⟩:=h;cases rx;obtain ⟨t,rfl⟩:=ry;obtain ⟨its,r,pl,hz⟩:=I.tuple hq;obtain ⟨j,h1,h2,h3,h4,h5⟩:=vg he;obtain ⟨w,ew,rw'⟩:=r.get h2;have hl:=r.length;have hn:=mB;have fin:EP X pins σ Q w s:=⟨z,H,I,rw',q⟩
 exact GB (x:=w) pl.typeIs slot_tuple_getitem.lookup
  (getItem_tuple (j:=j) (Q:=λr s'=>r = w/\EP X pins σ Q r s') pl ∅ ∅ (by rw [aG,<- hl];exact h1) (by simpa using ew) ⟨rfl,fin⟩) hs
def Mp:IxR X NI:=by
 intro value slice pins s σ H x y v u Q I rx ry h hs;obtain ⟨z,i,c,rfl,rfl,hz,he,q⟩:=h;obtain ⟨t,rfl⟩:=rx;obtain ⟨t',rfl⟩:=ry;obtain ⟨j,h1,h2,h3,h4,h5⟩:=vg he;have hl:z.cps.toList.length = z.length:=by simp [Str.length]
 rw [hl] at h1 h4 h5;have hn:=mB
 exact tail_any (zh s z t) slot_str_getitem.lookup (getItem_str (c:=c) (by
  have e1:decide (i < -(2 ^ 63:Int)) = false:=decide_eq_false ∅;have e2:decide (i ≥ 2 ^ 63) = false:=decide_eq_false ∅;rw [e1,e2,Bool.or_false]) (by rw [h1];simpa using h2) ⟨.str ⟨#[c]⟩,H,I.tok _,⟨_,rfl⟩,q⟩) hs
def rIx (K:PySem.W.Frag):R2:=λx y H Q=>NJ K x y H Q\/NH K x y H Q\/NI x y H Q
def Mq:IxR X (rIx X.K):=Jc.or (Mn.or Mp)
def yL (its:List ae) (n j:Nat) (u:ae):bK (·.setIfInBounds j u) { cls:=.type "list",data:=.seq its.toArray n } = { cls:=.type "list",data:=.seq (its.set j u).toArray n }:=by
 simp [bK]
def Inv.lst {pins:List (aw × Obj)} {σ:St} {H:Hp} {s:ai} {p:aw} {xs:List V} (I:Inv X pins σ H s) (h:H p = some (.lst xs)) :
 ∃ (its:List ae) (n:Nat),Vals xs its/\s.heap.get? p = some { cls:=.type "list",data:=.seq its.toArray n }/\xs.length<=sizeLine:=by
 obtain ⟨z,its,n,r,e⟩:=I.hok p _ h;exact ⟨its,n,r,e,z⟩
def Inv.lstUpd {pins:List (aw × Obj)} {σ:St} {H:Hp} {s:ai} {p:aw} {xs ys:List V} {its its':List ae} {n n':Nat} {f:Obj->Obj} (I:Inv X pins σ H s) (h:H p = some (.lst xs))
 (ho:s.heap.get? p = some { cls:=.type "list",data:=.seq its.toArray n }) (hf:f { cls:=.type "list",data:=.seq its.toArray n } = { cls:=.type "list",data:=.seq its'.toArray n' }) (r:Vals ys its') (hz:ys.length<=sizeLine) (t:Nat) :
 Inv X pins σ (upd H p (.lst ys)) { s with heap:=s.heap.update p f,toks:=t }:=by
 have e:(s.heap.update p f).get? p = some { cls:=.type "list",data:=.seq its'.toArray n' }:=by
  rw [dh f ho (by rw [hf]<;>rfl),hf]
 refine I.write (x:=p) (e:=p) (by rw [h];trivial) (.inl rfl) (λb u hb q=>(cE _ _ (Ne.symm hb)).trans q) ⟨_,e⟩ ?_;exact ⟨hz,its',n',r,e⟩
def NG:V->V->V->Hp->(Hp->Prop)->Prop:=λo i v H Q=>∃ p xs k j,o = .ref p/\i = .int k/\H p = some (.lst xs)/\ixN xs.length k = some j/\Q (upd H p (.lst (xs.set j v)))
def set_list:OE X NG:=by
 intro pins s σ H o i v ov iv u Q I ro ri rv h;obtain ⟨p,xs,k,j,rfl,rfl,hp,hj,q⟩:=h;cases ro;obtain ⟨t,rfl⟩:=ri;obtain ⟨its,n,r,ho,hz⟩:=I.lst hp;obtain ⟨h1,h2,h3,h4⟩:=Ar hj;have hl:=r.length;have hn:=mB
 have I':Inv X pins σ (upd H p (.lst (xs.set j v))) { s with heap:=s.heap.update p (bK (·.setIfInBounds j u)) } :=
  I.lstUpd hp ho (yL its n j u) (r.set rv j) (by rw [cA];exact hz) s.toks
 by_cases h0:0<=k
 . have hk:k.toNat = j:=by
    rw [Jy h0 h4] at h1;exact cH h1
   exact PySem.W.ki_setAt ho h0 ∅ (by rw [aG,<- hl];exact h4) (by rw [hk];exact ⟨_,I',q⟩)
 . have hk:(k+(its.toArray.size:Int)).toNat = j:=by
    rw [GC ∅ h3] at h1;rw [aG,<- hl];exact cH h1
   exact PySem.W.ki_setBack ho ∅ (by rw [aG,<- hl];exact h3) ∅ (by rw [hk];exact ⟨_,I',q⟩)
def ue (lo hi:Option Int) (n:Nat):(sliceBounds lo hi none n).1 = ((HT.sIx n 0 lo:Nat):Int)/\(sliceBounds lo hi none n).2.1 = ((HT.sIx n n hi:Nat):Int)/\(sliceBounds lo hi none n).2.2 = 1:=by
 refine ⟨?_,?_,rfl⟩
 . cases lo with
   | none=>simp [sliceBounds,HT.sIx]
   | some i =>
     simp only [sliceBounds,HT.sIx,CF,show (1:Int) > 0 by decide,if_true];by_cases h:i < 0
     . simp only [h,if_true]<;>lia
     . simp only [h,if_false]<;>lia
 . cases hi with
   | none=>simp [sliceBounds,HT.sIx]
   | some i =>
     simp only [sliceBounds,HT.sIx,CF,show (1:Int) > 0 by decide,if_true];by_cases h:i < 0
     . simp only [h,if_true]<;>lia
     . simp only [h,if_false]<;>lia
def rK (its:List ae) (lo hi:Option Int):slicePick its.toArray lo hi none = ((its.drop (HT.sIx its.length 0 lo)).take (HT.sIx its.length its.length hi - HT.sIx its.length 0 lo)).toArray:=by
 obtain ⟨h1,h2,h3⟩:=ue lo hi its.toArray.size;unfold slicePick;rw [h1,h2,h3];simp only [sliceRange_one,pick_run,aG]<;>rfl
def Pc (K:PySem.W.Frag):V->Option Int->Option Int->Hp->VK->Prop:=λx lo hi H Q=>∃ a xs,x = .ref a/\SqL K H a xs/\∀ p,H p = none->Q (.ref p) (upd H p (.lst (rQ xs lo hi)))
def zM:SlR X (Pc X.K):=by
 intro pins s σ H x v vl vu lo hi sl Q I rx hs pl pu h;obtain ⟨a,xs,rfl,hx,q⟩:=h;cases rx;obtain ⟨its,r,ht,hz⟩:=I.list hx;have hlen:=r.length;refine ⟨"list",_,slot_list_getitem.lookup,ht.isList.typeIs,?_⟩;refine wpAny_getItem_list_slice ht.isList hs pl pu .none ↥0 ?_ (by rw [aG]<;>lia);rw [rK,<- hlen];refine ⟨.ref s.heap.objs.size,_,I.laid (t':=s.toks) (o:=.lst (rQ xs lo hi)) (λb ob q=>ah _ q) (ao _) ?_,rfl,q _ (I.hok.fresh (ao _))⟩;exact ⟨bj (oY xs lo hi) hz,_,0,(r.drop (HT.sIx xs.length 0 lo)).take (HT.sIx xs.length xs.length hi - HT.sIx xs.length 0 lo),aF _ rfl⟩
def ve:cz X (.builtin "len") (λxs H Q=>∃ p ys,xs = [.ref p]/\(SqL X.K H p ys\/SqT X.K H p ys)/\Q (.int ys.length) H):=by
 intro pins s σ H xs us Q I r h;obtain ⟨p,ys,rfl,hq,q⟩:=h;obtain ⟨u,rfl,rx⟩:=vals1 r;cases rx;have hn:=mB;rcases hq with hq | hq
 . obtain ⟨its,r',pl,hz⟩:=I.list hq;have hlen:=r'.length;exact Calls.call_len_list pl.isList (by simp only [aG]<;>lia) ⟨.int ys.length,H,I.tok _,⟨s.toks+1,by rw [aG,hlen]⟩,q⟩
 . obtain ⟨its,r',pl,hz⟩:=I.tuple hq;have hlen:=r'.length;exact len_tuple pl (by simp only [aG]<;>lia) ⟨.int ys.length,H,I.tok _,⟨s.toks+1,by rw [aG,hlen]⟩,q⟩
def vd:cz X (.builtin "len") (λxs H Q=>∃ z,xs = [.str z]/\z.length<=sizeLine/\Q (.int z.length) H):=by
 intro pins s σ H xs us Q I r h;obtain ⟨z,rfl,hz,q⟩:=h;obtain ⟨u,rfl,t,rfl⟩:=vals1 r;have hn:=mB;exact len_str ∅ ⟨.int z.length,H,I.tok _,⟨_,rfl⟩,q⟩
def cz.or {f:ae} {r r':List V->Hp->VK->Prop} (h:cz X f r) (h':cz X f r'):cz X f (λxs H Q=>r xs H Q\/r' xs H Q):=by
 intro pins s σ H xs us Q I rs q;rcases q with q | q
 . exact h pins s σ H xs us Q I rs q
 . exact h' pins s σ H xs us Q I rs q
def nJ:cz X (.type "list") (λxs H Q=>∃ p ys,xs = [.ref p]/\(SqL X.K H p ys\/SqT X.K H p ys)/\∀ l,H l = none->Q (.ref l) (upd H l (.lst ys))):=by
 intro pins s σ H xs us Q I r h;obtain ⟨p,ys,rfl,hq,q⟩:=h;obtain ⟨u,rfl,rx⟩:=vals1 r;cases rx
 have fin:∀ (its:List ae),Vals ys its->ys.length<=sizeLine->∀ (h':cb) (c':Nat),(∀ b o',s.heap.get? b = some o'->h'.get? b = some o') ->
  h'.get? s.heap.objs.size = some { cls:=.type "list",dict:=none,data:=.seq its.toArray c',slots := #[] }->EP X pins σ Q (.ref s.heap.objs.size) { s with heap:=h' }:=λits r' hz h' c' kp e =>
  ⟨.ref s.heap.objs.size,_,I.laid (t':=s.toks) kp (ao _) (show iL X.prog X.w _ h' _ (.lst ys) from ⟨hz,its,c',r',e⟩),rfl,q _ (I.hok.fresh (ao _))⟩
 rcases hq with hq | hq
 . obtain ⟨its,r',pl,hz⟩:=I.list hq;have hlen:=r'.length;obtain ⟨o,ho,hc,n,hd⟩:=pl.isList;exact call_list_seq p (.inl rfl) ho hc hd (λh' c' kp e=>fin its r' hz h' c' kp e) (by simp only [aG]<;>lia)
 . obtain ⟨its,r',pl,hz⟩:=I.tuple hq;have hlen:=r'.length;obtain ⟨o,ho,hc,n,hd⟩:=pl;exact call_list_seq p (.inr rfl) ho hc hd (λh' c' kp e=>fin its r' hz h' c' kp e) (by simp only [aG]<;>lia)
def rS:cz X (.type "tuple") (λxs H Q=>∃ p ys,xs = [.ref p]/\((SqL X.K H p ys/\∀ l,H l = none->Q (.ref l) (upd H l (.tup ys)))\/(SqT X.K H p ys/\Q (.ref p) H))):=by
 intro pins s σ H xs us Q I r h;obtain ⟨p,ys,rfl,h⟩:=h;obtain ⟨u,rfl,rx⟩:=vals1 r;cases rx;rcases h with ⟨hq,q⟩ | ⟨hq,q⟩
 . obtain ⟨its,r',pl,hz⟩:=I.list hq;have hlen:=r'.length;refine call_tuple_list pl.isList (λh' kp=>?_) (by simp only [aG]<;>lia);have I1:Inv X pins σ H { s with heap:=h' }:=I.kept (t':=s.toks) kp
   have I2:Inv X pins σ (upd H h'.objs.size (.tup ys)) { s with heap:=h'.push { cls:=.type "tuple",data:=.seq its.toArray } } :=
    I1.laid (t':=s.toks) (λb o e=>ah _ e) (ao _) (show iL X.prog X.w _ _ _ (.tup ys) from ⟨hz,its,r',Ha _ _⟩)
   exact ⟨.ref h'.objs.size,_,I2,rfl,q _ (I1.hok.fresh (ao _))⟩
 . obtain ⟨its,r',pl,hz⟩:=I.tuple hq;exact call_tuple_same pl ⟨.ref p,H,I,rfl,q⟩
def tyV (K:PySem.W.Frag) (T:String) (x:V) (H:Hp):Prop:=match x with
 | .str _=>T = "str"
 | .int _=>T = "int"
 | .ref p=>(T = "list"/\∃ xs,SqL K H p xs)\/(T = "tuple"/\∃ o,K.lookup p = some o/\o.cls = .type "tuple"/\o.dict = none)
 | _=>False
def Dz (I:Inv X pins σ H s) (r:RelV x v) (ty:tyV X.K T x H) :
 s.TypeIs v T/\∀ a,v = .ref a->∃ ob,s.heap.get? a = some ob/\ob.dict = none:=by
 cases x with
 | str z =>
   obtain ⟨t,rfl⟩:=r;cases (show T = "str" from ty)
   exact ⟨zh s z t,λ_ e=>nomatch e⟩
 | int i =>
   obtain ⟨t,rfl⟩:=r;cases (show T = "int" from ty)
   exact ⟨zi s i t,λ_ e=>nomatch e⟩
 | ref p =>
   cases r;rcases ty with ⟨rfl,xs,hq⟩ | ⟨rfl,o,hk,hc,hd⟩
   . obtain ⟨its,_,pl,_⟩:=I.list hq;refine ⟨pl.isList.typeIs,λa e=>?_⟩;cases e;obtain ⟨o,n,e,c,hd,_⟩:=pl;exact ⟨o,e,hd⟩
   . refine ⟨⟨o,I.kIn p o hk,hc⟩,λa e=>?_⟩;cases e
     exact ⟨o,I.kIn _ o hk,hd⟩
 | _=>exact dW ty
def OR (K:PySem.W.Frag) (T:String) (r:V->List V->Hp->VK->Prop) (to:TE):TE:=λσ H Q=>to σ H λx H1=>tyV K T x H1/\r x [] H1 Q
def tBM (K:PySem.W.Frag) (T:String) (r:V->List V->Hp->VK->Prop) (to:TE) (t:TA):TE:=λσ H Q=>to σ H λx H1=>tyV K T x H1/\t σ H1 λxs H2=>r x xs H2 Q
variable {o e:aH} {es:List aH} {to:TE} {t:TA} {name:Str} {apos cpos:Pos} {T id:String} {r:V->List V->Hp->VK->Prop}
def Ly (pa:PlainAttrs T) (slot:Slot T name id) (hty:typeOf (.builtin id) = pure (.type "method_descriptor")) (hm:MtR X id r) (ho:PE X o to)
 (hbase:attributeBase o name X.env (eval o X.env) = eval o X.env:=by rfl) (hline:(apos.endLine == cpos.line) = true:=by rfl):PE X (.Call (.Attribute o name apos) [] [] cpos) (OR X.K T r to):=by
 intro pins s σ H Q I h;refine wpAny_Call_method0_late hbase hline (thn (ho pins s σ H _ I h) λv s1 ⟨x,H1,I1,r1,ty,q1⟩=>?_);obtain ⟨h1,h2⟩:=Dz I1 r1 ty;exact ⟨T,id,pa,slot,hty,h1,h2,xQ rfl (PySem.evalArgs_none (hm pins s1 σ H1 x [] v [] Q I1 r1 .nil q1))⟩
def JL (pa:PlainAttrs T) (slot:Slot T name id) (hty:typeOf (.builtin id) = pure (.type "method_descriptor")) (hm:MtR X id r) (ho:PE X o to) (ha:PA X (e::es) t)
 (hbase:attributeBase o name X.env (eval o X.env) = eval o X.env:=by rfl)
 (hfew:((backTo cpos (starEach (e::es) X.env)).all (λx=>!x.1) && (backToKw cpos (keywordEach [] X.env)).all (λx=>x.1.isSome)
   && decide ((e::es).length+([]:List jR).length+(if ([]:List jR).isEmpty then 0 else 1) < 30)) = true:=by rfl)
 (hline:(apos.endLine == cpos.line) = true:=by rfl) (hs:starEach (e::es) X.env = (false,eval e X.env)::starEach es X.env:=by rfl) (hplain:(backTo cpos (starEach es X.env)).any (·.1) = false:=by rfl) :
 PE X (.Call (.Attribute o name apos) (e::es) [] cpos) (tBM X.K T r to t):=by
 intro pins s σ H Q I h;refine wpAny_Call_method_late hbase hfew hline rfl (thn (ho pins s σ H _ I h) λv s1 ⟨x,H1,I1,r1,ty,q1⟩=>?_);obtain ⟨h1,h2⟩:=Dz I1 r1 ty;refine ⟨T,id,pa,slot,hty,h1,h2,?_⟩;have hA:=ha cpos pins s1 σ H1 _ I1 q1;rw [hs] at hA |-;refine xQ (by show (false || (backTo cpos (starEach es X.env)).any (·.1)) = false;rw [hplain]<;>rfl) (Calls.evalArgs_plain ?_);exact thn hA λus s2 ⟨vs,H2,I2,r2,q2⟩=>hm pins s2 σ H2 x vs v us Q I2 r1 r2 q2
end
end L2
namespace L2
open PySem PySem.Spec PyProof.Rows
def MtM (X:Cx) (id:String) (r:V->List V->Hp->VK->Prop):Prop :=
 ∀ (pins:List (aw × Obj)) (s:ai) (σ:St) (H:Hp) (x:V) (xs:List V) (v:ae) (us:List ae) (Q:VK),Inv X pins σ H s->RelV x v->Vals xs us->r x xs H Q ->
  wpAny (model X.prog X.w) X.A (call (.builtin id) (v::us)) (EP X pins σ Q) X.xe s
def Vals.one:∀ {x:V} {us:List ae},Vals [x] us->∃ u,us = [u]/\RelV x u
 | _,_,.cons r .nil=>⟨_,rfl,r⟩
def Vals.zero:∀ {us:List ae},Vals [] us->us = []
 | _,.nil=>rfl
def Vals.dropLast (h:Vals xs us):Vals xs.dropLast us.dropLast:=by
 induction h with
 | nil=>exact .nil
 | cons r t ih =>
   cases t with
   | nil=>exact .nil
   | cons q t'=>exact .cons r ih
def Vals.eraseIdx:∀ {xs:List V} {us:List ae} (i:Nat),Vals xs us->Vals (xs.eraseIdx i) (us.eraseIdx i)
 | _,_,_,.nil=>.nil
 | _,_,0,.cons _ t=>t
 | _,_,i+1,.cons r t=>.cons r (Vals.eraseIdx i t)
def Vals.reverse {xs:List V} {us:List ae} (h:Vals xs us):Vals xs.reverse us.reverse:=by
 induction h with
 | nil=>exact .nil
 | cons r t ih=>rw [ph,ph];exact Vals.append ih (.cons r .nil)
section
variable {X:Cx} {pins:List (aw × Obj)} {σ:St} {H:Hp} {s:ai} {l b:aw} {xs ys zs:List V}
def Inv.lset {its its':List ae} {n:Nat} {f:Array ae->Array ae} {t':Nat} (I:Inv X pins σ H s) (hH:H l = some (.lst xs))
 (e:s.heap.get? l = some { cls:=.type "list",data:=.seq its.toArray n }) (hf:f its.toArray = its'.toArray) (hv:Vals ys its') (hz:ys.length<=sizeLine) :
 Inv X pins σ (upd H l (.lst ys)) { s with heap:=s.heap.update l (bK f),toks:=t' }:=by
 have q:=PySem.IsL.update e f;rw [hf] at q;refine I.write (x:=l) (e:=l) (by rw [hH];exact trivial) (.inl rfl) (λb' u hb hu=>(cE s.heap (bK f) (Ne.symm hb)).trans hu) ⟨_,q⟩ ?_;exact ⟨hz,its',_,hv,q⟩
def Inv.lnew (I:Inv X pins σ H s) (hv:Vals ys its) (hz:ys.length<=sizeLine) :
 Inv X pins σ (upd H s.heap.objs.size (.lst ys)) { s with heap:=s.heap.push { cls:=.type "list",data:=.seq its.toArray },toks:=t' } :=
 I.laid (λ_ _ q=>ah _ q) (ao _) ⟨hz,its,0,hv,aF _ rfl⟩
def Inv.fresh (I:Inv X pins σ H s):H s.heap.objs.size = none:=I.hok.fresh (ao _)
def Inv.lstM (I:Inv X pins σ H s) (hH:H l = some (.lst xs)):xs.length<=sizeLine/\∃ (its:List ae) (n:Nat),Vals xs its/\xs.length = its.length/\s.heap.get? l = some { cls:=.type "list",data:=.seq its.toArray n }:=by
 obtain ⟨z,its,n,r,e⟩:=I.hok l _ hH;exact ⟨z,its,n,r,r.length,e⟩
def EX {n:Nat} (h:n<=sizeLine):pq n = false:=by
 unfold pq;exact decide_eq_false ∅
end
section
variable {X:Cx}
def Il:V->List V->Hp->VK->Prop:=λx vs H Q=>∃ l xs y,x = .ref l/\vs = [y]/\H l = some (.lst xs)/\xs.length < sizeLine/\Q .non (upd H l (.lst (xs++[y])))
def sP:MtM X "list.append" Il:=by
 intro pins s σ H x vs v us Q I rx rv h;obtain ⟨l,xs,y,rfl,rfl,hH,hz,q⟩:=h;cases rx;obtain ⟨u,rfl,ru⟩:=rv.one;obtain ⟨z,its,n,r,hl,e⟩:=I.lstM hH;refine call_meets F.slot_list_append ⟨_,e,rfl⟩ F.entry_list_append (F.args_list_append_2 _ _) (PySem.list_append l its.toArray n u (by rw [aG];lia)) ⟨e,?_⟩;refine ⟨.non,_,I.lset (its':=its++[u]) hH e ↥0 (r.append (.cons ru .nil)) ?_,rfl,q⟩;rw [ax,bZ]
 lia
end
section
variable {prog:aS} {w:bD} {A:aW} {E:ae->ai->Prop} {s:ai}
end
section
variable {X:Cx}
end
end L2
namespace Att
open PySem PySem.W PySem.Calls PyProof.Rows
def pC:∀ (ns:List Int) (vs:List ae),WellAll P h vs (ns.map WData.int)->Hb vs ns:=by
 intro ns
 induction ns with
 | nil =>
   intro vs w;rw [xS] at w;cases w
   exact .nil
 | cons n ns ih =>
   intro vs w;rw [aJ] at w
   cases w with
   | cons a b =>
     cases a;exact .cons _ _ (ih _ b)
def BD {l:OpenLaw} {n:Nat} (hn:l.most = some n) {P:Params} {h:cb} {args:List WData} {vals:List ae}
 (hpre:l.row.toRowW.claim.pre args = true) (hwl:WellAll P h vals args) :
 ∃ a vs ns,vals = [kq a]/\args = [WData.list (ns.map WData.int)]/\h.get? a = some { cls:=.type "list",data:=.seq vs.toArray }/\Hb vs ns/\ns.length<=n:=by
 have hsh:WShape.hasAll [] args [.list .int] = true:=(pre_splitW hpre).1;have hc:l.pre.holds [] { args:=args } = true:=(pre_splitW hpre).2;obtain ⟨d,r,rfl,h1,h2⟩:=hasAllW_cons hsh;obtain rfl:=hasAllW_nil h2;obtain ⟨xs,rfl,h3⟩:=hasW_list h1;obtain ⟨ns,rfl⟩:=items_int h3
 have hlen:ns.length<=n:=by
  unfold OpenLaw.pre at hc
  have h4:(WTm.not (.lt (.lit (.int (n:Int))) (.len (.arg 0)))).holds [] { args:=[.list (ns.map .int)] } = true:=by
   have h4:=(holds_andW hc).1;rw [hn] at h4;exact h4
  have h5:=condW_of h4 (w_not (w_lt w_lit (w_len_list (w_arg rfl))));rw [ay] at h5;refine Nat.le_of_not_lt λq=>?_;have q':(n:Int) < ((ns.length:Nat):Int):=by lia
  first
   | (rw [decide_eq_true q'] at h5;exact absurd h5 ⇑0)
   | (simp at h5;lia)
 cases hwl with
 | cons w1 w2 =>
   cases w2
   cases w1 with
   | list ho hall=>exact ⟨_,_,ns,rfl,rfl,ho,pC ns _ hall,hlen⟩
def BF (l:OpenLaw) (args:List WData):l.row.toRowW.claim.post args (.bool true) args = true :=
 postW_of (r:=l.row.toRowW) (X:=(true == true))
  (show WShape.has [] (.bool true) .bool = true by first | rfl | decide | simp [WShape.has,WShape.arms,WShape.armsAll])
  (show (WTm.eq .res (.lit (.bool true))).value [] { args:=args,res:=some (.bool true),after:=args } = some (.bool (true == true)) from w_eq_bool (w_res rfl) w_lit) rfl
def attach_call {l:OpenLaw} {n:Nat} {q:aS} {loose:List Str} {XP:(Str->Option ae)->cb->Prop} {YP:bD->cb->Prop} {d:DefRec}
 (hn:l.most = some n) (hdf:d.params.defaults = [])
 (call:∀ (w:bD) (s₀ s₁:ai) (mg mb:Str->Option ae) (fa:aw) (o:Obj) (pm cd doc:ae) (a:aw) (vs:List ae) (ns:List Int),
   Ground q loose [] XP w s₀ mg mb s₁.heap->YP w s₁.heap ->
   s₁.heap.get? fa = some o->o.data = .func (docDef d.name d.params d.body d.scope pm cd doc)->s₁.heap.CodeRec cd d.name->mg d.name = some (.ref fa) ->
   s₁.heap.get? a = some { cls:=.type "list",data:=.seq vs.toArray }->Hb vs ns->ns.length<=n->s₁.gens = #[] ->
   codeAny (model l.prog w) callerA (.call (.ref fa) ⟨[.ref a],[]⟩) (λr s'=>r = .ok (.ret (.bool true))/\OldK s₁.heap s'.heap/\s'.os = s₁.os/\mL s'.gens) s₁) :
 WalkO q loose XP YP l.row.toRowW d [] (λf vs=>PySem.call f vs):=by
 intro w s₀ s₁ mg mb G Y fa o pm cd doc dV kV ho hd hcd hD hmg hg args vals as hpre hlay hrd hwl hlo;obtain rfl:dV = .none:=Dflts.none hD hdf;obtain rfl:kV = .none:=Dflts.noKw hD;obtain ⟨a,vs,ns,rfl,rfl,hobj,hints,hlen⟩:=BD hn hpre hwl;refine enter_call (GH (call w s₀ s₁ mg mb fa o pm cd doc a vs ns G Y ho (fd_plain hd) hcd hmg hobj hints hlen hg) λr s' hq=>?_);obtain ⟨rfl,h2,h3,h4⟩:=hq;exact ⟨.inl ⟨.bool true,.bool true,[],rfl,λ_=>rfl,.bool true,BF l _,λ_=>⟨List.Pairwise.nil,λ_ hm=>(nomatch hm)⟩⟩,h2,h3,h4⟩
section
variable {prog:aS} {w:bD} {A:aW} {E:ae->ai->Prop} {s:ai} {K:Frag}
end
end Att
namespace L2
open PySem PySem.Spec PyProof.Rows
def sk:∀ {vs:List ae} {ns:List Int},Hb vs ns->Vals (ns.map V.int) vs
 | _,_,.nil=>.nil
 | _,_,.cons n t h=>.cons ⟨t,rfl⟩ (sk h)
end L2
namespace L2
open PySem PySem.Spec PyProof.Rows
end L2
namespace L2
open PySem PySem.Spec PyProof.Rows
def jv (s:dD):CJ:=match s with
 | .FunctionDef _ a _ _ _ _ _ _ _ _=>a
 | _=>{ posonlyargs:=[],args:=[],vararg:=none,kwonlyargs:=[],kw_defaults:=[],kwarg:=none,defaults:=[] }
def iu (s:dD):List dD:=match s with
 | .FunctionDef _ _ b _ _ _ _ _ _ _=>b
 | _=>[]
def cu (s:dD):fc:=match s with
 | .FunctionDef _ _ _ _ _ _ sc _ _ _=>sc
 | _=>{ kind:=.function,names:=[],isGenerator:=false,isCoroutine:=false }
abbrev CX0:CXT:=λ_ _ _ _ _ _=>False
abbrev E0:XK:=λ_ _ _=>False
def NV:Passes CX0 X E0:=λ_ _ _ _ _ _ _ h=>h.elim
structure Fun (K:PySem.W.Frag) (x qual:Str) (st:dD) (f:aw) (fd:fI):Prop where
 ex:∃ (oc:ae) (od:Option aw) (dV kV doc pm:ae) (an:Option aw) (cdv ct:ae) (osl:Array (Option ae)),
  fd = PySem.W.fnOf x qual (jv st) (iu st) (cu st) dV kV doc pm an cdv ct/\K.lookup f = some ⟨oc,od,.func fd,osl⟩/\PySem.W.codeIn K cdv qual = true
 kp:PySem.W.keepIn K (.ref f) = true
section
variable {P:aS} {w:bD} {K:PySem.W.Frag} {mg:Str->Option ae} {base:cb}
def Mw {x qual:Str} {st:dD} {f:aw} {oc:ae} {od an:Option aw} {osl:Array (Option ae)} {dV kV doc pm cdv ct:ae} (l:K.lookup f = some ⟨oc,od,.func (PySem.W.fnOf x qual (jv st) (iu st) (cu st) dV kV doc pm an cdv ct),osl⟩)
 (c:PySem.W.codeIn K cdv qual = true) (k:PySem.W.keepIn K (.ref f) = true):Fun K x qual st f (PySem.W.fnOf x qual (jv st) (iu st) (cu st) dV kV doc pm an cdv ct):=⟨⟨oc,od,dV,kV,doc,pm,an,cdv,ct,osl,rfl,l,c⟩,k⟩
end
section
variable {X:Cx}
end
def Jd {A B:Prop} (h:B):if false = true then A else B:=by
 rw [if_neg aj];exact h
def Fx {A B:Prop} (h:A):if true = true then A else B:=by
 rw [if_pos rfl];exact h
def ij (H H':Hp):Prop:=∀ b o,H b = some o->H' b = some o
def ij.refl (H:Hp):ij H H:=λ_ _ h=>h
end L2
end
section
namespace L2
open PySem PySem.Spec PyProof.Rows
section
variable {κ:Type} [DecidableEq κ]
def vH (kvs:List (κ × V)) (k:κ):Option V:=(kvs.find? λkv=>decide (kv.1 = k)).map (·.2)
def putK (kvs:List (κ × V)) (k:κ) (v:V):List (κ × V) :=
 if (kvs.any λkv=>decide (kv.1 = k)) = true then kvs.map (λkv=>if kv.1 = k then (kv.1,v) else kv) else kvs++[(k,v)]
def JT (kvs:List (κ × V)) (k:κ):List (κ × V):=kvs.filter λkv=>decide (kv.1≠k)
def qj {p:κ × V} {r:List (κ × V)} {k:κ} (e:p.1 = k):vH (p::r) k = some p.2:=by simp [vH,gz,e]
def qk {p:κ × V} {r:List (κ × V)} {k:κ} (e:¬ p.1 = k):vH (p::r) k = vH r k:=by simp [vH,gz,e]
def vG (k:κ):∀ kvs:List (κ × V),(kvs.any λkv=>decide (kv.1 = k)) = (vH kvs k).isSome
 | []=>rfl
 | p::r=>by
   rw [iJ];by_cases e:p.1 = k
   . simp only [qj e,decide_eq_true e,kJ,Option.isSome_some]
   . rw [qk e,decide_eq_false e,nV];exact vG k r
def gL.isSome_eq {o:Option V} {u:Option ae} (r:gL o u):o.isSome = u.isSome:=by
 cases o with
 | none=>cases u with
   | none=>rfl
   | some _=>exact (show False from r).elim
 | some _=>cases u with
   | none=>exact (show False from r).elim
   | some _=>rfl
def gL.getD {o:Option V} {u:Option ae} {d:V} {d':ae} (r:gL o u) (rd:RelV d d'):RelV (o.getD d) (u.getD d'):=by
 cases o with
 | none=>cases u with
   | none=>exact rd
   | some _=>exact (show False from r).elim
 | some _=>cases u with
   | none=>exact (show False from r).elim
   | some _=>exact r
def KV.val {kvs:List (κ × V)} {vs:List (κ × ae)} (r:KV kvs vs) (k:κ):gL (vH kvs k) (valueAt vs k):=by
 unfold KV at r
 induction r with
 | nil=>exact jC
 | @cons p q ps qs h t ih =>
   obtain ⟨h1,h2⟩:=h;by_cases e:p.1 = k
   . have e':q.1 = k:=h1.symm.trans e;have b:valueAt (q::qs) k = some q.2:=by simp [valueAt,gz,e']
     rw [qj e,b];exact h2
   . have e':¬ q.1 = k:=λz=>e (h1.trans z);have b:valueAt (q::qs) k = valueAt qs k:=by simp [valueAt,gz,e']
     rw [qk e,b];exact ih
def KV.any {kvs:List (κ × V)} {vs:List (κ × ae)} (r:KV kvs vs) (k:κ):(kvs.any λkv=>decide (kv.1 = k)) = vs.any λkv=>decide (kv.1 = k):=by
 unfold KV at r
 induction r with
 | nil=>rfl
 | cons h t ih=>rw [iJ,iJ,ih,h.1]
def KV.repl {kvs:List (κ × V)} {vs:List (κ × ae)} (r:KV kvs vs) (k:κ) {y:V} {u:ae} (ry:RelV y u) :
 KV (kvs.map λkv=>if kv.1 = k then (kv.1,y) else kv) (vs.map λkv=>if kv.1 = k then (kv.1,u) else kv):=by
 unfold KV at r |-
 induction r with
 | nil=>exact .nil
 | @cons p q ps qs h t ih =>
   rw [aJ,aJ];refine .cons ?_ ih;obtain ⟨h1,h2⟩:=h;by_cases e:p.1 = k
   . rw [if_pos e,if_pos (h1.symm.trans e)];exact ⟨h1,ry⟩
   . rw [if_neg e,if_neg (λz=>e (h1.trans z))];exact ⟨h1,h2⟩
def KV.put {kvs:List (κ × V)} {vs:List (κ × ae)} (r:KV kvs vs) (k:κ) {y:V} {u:ae} (ry:RelV y u):KV (putK kvs k y) (stored vs k u):=by
 unfold putK stored;rw [r.any k];by_cases e:(vs.any λkv=>decide (kv.1 = k)) = true
 . rw [if_pos e,if_pos e];exact r.repl k ry
 . rw [if_neg e,if_neg e];exact Paired.snoc r ⟨rfl,ry⟩
def KV.drop {kvs:List (κ × V)} {vs:List (κ × ae)} (r:KV kvs vs) (k:κ):KV (JT kvs k) (without vs k):=by
 unfold KV at r |-;unfold JT without
 induction r with
 | nil=>exact .nil
 | @cons p q ps qs h t ih =>
   obtain ⟨h1,h2⟩:=h;rw [qb,qb];by_cases e:p.1 = k
   . have a:¬ decide (p.1≠k) = true:=by simp [e]
     have b:¬ decide (q.1≠k) = true:=by simp [h1.symm.trans e]
     rw [if_neg a,if_neg b];exact ih
   . have e':¬ q.1 = k:=λz=>e (h1.trans z);have a:decide (p.1≠k) = true:=by simp [e]
     have b:decide (q.1≠k) = true:=by simp [e']
     rw [if_pos a,if_pos b];exact .cons ⟨h1,h2⟩ ih
def KV.length {kvs:List (κ × V)} {vs:List (κ × ae)} (r:KV kvs vs):kvs.length = vs.length:=Paired.length r
end
abbrev KT (H:Hp):List (List Key × V)->List (List Key × aw × ae)->Prop:=Paired λp q=>p.1 = q.1/\H q.2.1 = some (.tup (p.1.map kV))/\RelV p.2 q.2.2
def KT.val {H:Hp} {kvs:List (List Key × V)} {xs:List (List Key × aw × ae)} (r:KT H kvs xs) (k:List Key):gL (vH kvs k) ((atKey xs k).map (·.2)):=by
 induction r with
 | nil=>exact jC
 | @cons p q ps qs h t ih =>
   obtain ⟨h1,_,h2⟩:=h;by_cases e:p.1 = k
   . have e':q.1 = k:=h1.symm.trans e;have b:atKey (q::qs) k = some q.2:=by simp [atKey,gz,e']
     rw [qj e,b];exact h2
   . have e':¬ q.1 = k:=λz=>e (h1.trans z);have b:atKey (q::qs) k = atKey qs k:=by simp [atKey,gz,e']
     rw [qk e,b];exact ih
def KT.repl {H:Hp} {kvs:List (List Key × V)} {xs:List (List Key × aw × ae)} (r:KT H kvs xs) (k:List Key) {y:V} {u:ae} (ry:RelV y u) :
 KT H (kvs.map λkv=>if kv.1 = k then (kv.1,y) else kv) (xs.map (putAt k u)):=by
 induction r with
 | nil=>exact .nil
 | @cons p q ps qs h t ih =>
   rw [aJ,aJ];refine .cons ?_ ih;obtain ⟨h1,h2,h3⟩:=h;unfold putAt;by_cases e:p.1 = k
   . rw [if_pos e,if_pos (h1.symm.trans e)];exact ⟨h1,h2,ry⟩
   . rw [if_neg e,if_neg (λz=>e (h1.trans z))];exact ⟨h1,h2,h3⟩
def KT.put {H:Hp} {kvs:List (List Key × V)} {xs:List (List Key × aw × ae)} (r:KT H kvs xs) (k:List Key) {b:aw} {y:V} {u:ae} (hb:H b = some (.tup (k.map kV))) (ry:RelV y u) :
 KT H (putK kvs k y) (storedH xs k b u):=by
 have e:(kvs.any λkv=>decide (kv.1 = k)) = (atKey xs k).isSome:=by
  rw [vG,(r.val k).isSome_eq,Option.isSome_map]
 unfold putK storedH;rw [e];by_cases q:(atKey xs k).isSome = true
 . rw [if_pos q,if_pos q];exact r.repl k ry
 . rw [if_neg q,if_neg q];exact Paired.snoc r ⟨rfl,hb,ry⟩
def KT.keeps {H H':Hp} {kvs:List (List Key × V)} {xs:List (List Key × aw × ae)} (r:KT H kvs xs) (ht:∀ b ys,H b = some (.tup ys)->H' b = some (.tup ys)):KT H' kvs xs :=
 Paired.mapP r λ_ _ z=>⟨z.1,ht _ _ z.2.1,z.2.2⟩
section
variable {P:aS} {w:bD} {H:Hp} {h:cb} {a:aw}
end
section
variable {X:Cx} {pins:List (aw × Obj)} {σ:St} {H:Hp} {s:ai} {a:aw} {y v:V} {u r:ae} {o:Option V} {A:aW} {E:ae->ai->Prop}
def Inv.big (I:Inv X pins σ H s):sysModules < s.heap.objs.size:=by
 have h:mainGlobals < s.heap.objs.size:=(I.mod.glob.keeps I.bk).lt;exact Nat.lt_trans ⇑0 h
end
section
variable {X:Cx} {pins:List (aw × Obj)} {σ:St} {H:Hp} {s:ai} {a:aw} {kvs:List (Key × V)} {k:Key} {u:ae} {A:aW} {E:ae->ai->Prop}
end
section
variable {X:Cx} {o i e value:aH} {pos pos' tpos:Pos} {td ty tv:TE}
end
section
variable {X:Cx} {pos:Pos}
end
structure M1 (X:Cx) (o:aH) (m:Str) (apos:Pos) (e:aH) (cpos:Pos):Prop where
 base:attributeBase o m X.env (eval o X.env) = eval o X.env
 few:((backTo cpos (starEach [e] X.env)).all (λx=>!x.1) && (backToKw cpos (keywordEach [] X.env)).all (λx=>x.1.isSome)
  && decide (([e]:List aH).length+([]:List jR).length+(if ([]:List jR).isEmpty then 0 else 1) < 30)) = true
 line:(apos.endLine == cpos.line) = true
 trees:backTo cpos (starEach [e] X.env) = [(false,eval e X.env)]
structure M2 (X:Cx) (o:aH) (m:Str) (apos:Pos) (e f:aH) (cpos:Pos):Prop where
 base:attributeBase o m X.env (eval o X.env) = eval o X.env
 few:((backTo cpos (starEach [e,f] X.env)).all (λx=>!x.1) && (backToKw cpos (keywordEach [] X.env)).all (λx=>x.1.isSome)
  && decide (([e,f]:List aH).length+([]:List jR).length+(if ([]:List jR).isEmpty then 0 else 1) < 30)) = true
 line:(apos.endLine == cpos.line) = true
 trees:backTo cpos (starEach [e,f] X.env) = [(false,eval e X.env),(false,eval f X.env)]
section
variable {X:Cx} {pins:List (aw × Obj)} {σ:St} {H:Hp} {s:ai} {a:aw} {y d:V} {u r:ae} {o:Option V} {A:aW} {E:ae->ai->Prop}
end
section
variable {X:Cx} {o e f:aH} {apos cpos:Pos} {td ty tx:TE}
end
section
variable {X:Cx} {pins:List (aw × Obj)} {σ:St} {H:Hp} {s:ai} {a:aw} {kvs:List (Key × V)} {A:aW} {E:ae->ai->Prop}
end
section
variable {X:Cx} {pins:List (aw × Obj)} {σ:St} {H:Hp} {s:ai} {a:aw} {y:V} {u:ae} {A:aW} {E:ae->ai->Prop}
end
abbrev TU:=St->Hp->(St->Hp->Prop)->Prop
def PU (X:Cx) (m:Sem Unit) (t:TU):Prop :=
 ∀ (pins:List (aw × Obj)) (s:ai) (σ:St) (H:Hp) (Q:St->Hp->Prop),Inv X pins σ H s->t σ H Q ->
  wpAny (model X.prog X.w) X.A m (λ_ s'=>∃ σ' H',Inv X pins σ' H' s'/\Q σ' H') X.xe s
def PTs (X:Cx) (ifs:List aH) (t:TT):Prop :=
 ∀ (pins:List (aw × Obj)) (s:ai) (σ:St) (H:Hp) (Q:Bool->Hp->Prop),Inv X pins σ H s->t σ H Q ->
  wpAny (model X.prog X.w) X.A (forIn ifs true λc r=>if r = true then do let ok <- isTrue c X.env (eval c X.env);pure (jT ok) else pure (jT r)) (TP X pins σ Q) X.xe s
section
variable {X:Cx}
def zZ:PTs X [] (λ_ H Q=>Q true H):=λpins s σ H Q I h=>wpAny_tests_nil ⟨H,I,h⟩
def Io (hc:PT X c t):PTs X [c] t:=λpins s σ H Q I h=>wpAny_tests_one (hc pins s σ H Q I h)
def tLp (J:It) (g:TG) (tt:TT) (tb:TU):TU:=λσ H Q=>∃ W:Nat->Nat->St->Hp->Prop,(∃ m,W 0 m σ H)/\∀ i m σ H,W i m σ H ->
 (J.stop i H/\Q σ H)\/(J.go i H/\∀ x H',J.yld i H x H'->g x σ H' λσ2 H2=>tt σ2 H2 λb H3 =>
   if b = true then tb σ2 H3 λσ4 H4=>∃ m',m' < m/\W (i+1) m' σ4 H4 else ∃ m',m' < m/\W (i+1) m' σ2 H3)
def AK
 (hx:X.xe = λ_ _=>False) (hc:X.calm = true)
 (hq:(Code.compLoop e d (.ref it) acc X.env).quiet = true)
 (hden:(model X.prog X.w).den (.compLoop e d (.ref it) acc X.env) = (compTurn e d (.ref it) acc X.env).onRaise (λx=>do noteFrame x X.env;theTreesLotGoes x))
 (hund:X.A.under (.compLoop e d (.ref it) acc X.env) = X.A)
 (hturn:compTurn e d (.ref it) acc X.env = (do
   standAt ip
   match <- pyNext (.ref it) with
   | none=>pure (.done .next)
   | some v =>
     letOwnedTupleGo tg (.ref it) v
     assign tg X.env v
     let mut ok:=true
     for c in ifs do
      if ok then ok <- isTrue c X.env (eval c X.env)
     if ok then body
     again (.compLoop e d (.ref it) acc X.env)))
 (T:Turn X.prog X.w X.K tg J fp it tn) (hg:PG X tg g) (ht:PTs X ifs tt) (hb:PU X body tb) {R:vm->ai->Prop}
 {pins:List (aw × Obj)} {s:ai} {σ:St} {H:Hp} {Q:St->Hp->Prop} (I:Inv X pins σ H s) (st:tn 0 s.heap) (f:∀ b∈fp,ko X pins H b) (h:tLp J g tt tb σ H Q)
 (hR:∀ s' σ' H',Inv X pins σ' H' s'->Q σ' H'->R (.ok .next) s'):codeAny (model X.prog X.w) X.A (.compLoop e d (.ref it) acc X.env) R s:=by
 obtain ⟨W,⟨m0,w0⟩,turn⟩:=h;have stat:∀ {H':Hp},(∀ b∈fp,H' b = none)->∀ b∈fp,ko X pins H' b:=λhn b hb=>⟨hn b hb,(f b hb).2⟩;refine codeAny_loop hq (λn s'=>∃ i σ' H',Inv X pins σ' H' s'/\tn i s'.heap/\(∀ b∈fp,H' b = none)/\W i n σ' H') ?_ m0 ⟨0,σ,H,I,st,λb hb=>(f b hb).1,w0⟩;rintro n s3 ⟨i,σ3,H3,I3,st3,fr3,w3⟩;rw [hden,hund,hturn];refine wpAny_noted ?_
 have cut:∀ {α:Type} {m:Sem α} {Q:α->ai->Prop} {s:ai} {E':ae->ai->Prop},wpAny (model X.prog X.w) X.A m Q X.xe s->wpAny (model X.prog X.w) X.A m Q E' s:=λz=>by
  rw [hx] at z;exact wpAny_noRaise z
 refine ab (gP (ab ?_));rcases turn i n σ3 H3 w3 with ⟨stop,qn⟩ | ⟨go,step⟩
 . refine cut (thn (T.done X rfl rfl rfl hc i pins s3 σ3 H3 X.xe I3 (stat fr3) st3 stop) λr s4 ⟨hr,I4⟩=>?_);subst hr;exact aq (hR s4 σ3 H3 I4 qn)
 . refine cut (thn (T.item X rfl rfl rfl hc i pins s3 σ3 H3 X.xe I3 (stat fr3) st3 go) λr s4 ⟨u,hr,h4⟩=>?_);subst hr;refine ab (cut (thn h4 λ_ s5 ⟨x,H5,I5,r5,y5,st5,fr5⟩=>?_));have I5':=I5.pinned (stat fr5) (T.obj _ _ st5);refine ab (cut (thn (hg _ s5 σ3 H5 x u _ I5' r5 (step x H5 y5)) λ_ s6 ⟨σ6,H6,I6,q6⟩=>?_))
   have again:∀ {σ7:St} {H7:Hp} {s7:ai},Inv X (pins++qE fp s5.heap) σ7 H7 s7->(∃ m',m' < n/\W (i+1) m' σ7 H7)->∃ m,m < n/\∃ i σ' H',Inv X pins σ' H' s7/\tn i s7.heap/\(∀ b∈fp,H' b = none)/\W i m σ' H':=λ{σ7 H7 s7} I7 n7=>by
    obtain ⟨m',hm,w7⟩:=n7;refine ⟨m',hm,i+1,σ7,H7,I7.unpinned,T.keep _ _ _ st5 λb hb o e=>(I7.pin (b,o) (bo _ (bo _ (kb hb e)))).1,λb hb=>?_,w7⟩;obtain ⟨o,e,d⟩:=T.obj _ _ st5 b hb;exact (I7.pin (b,o) (bo _ (bo _ (kb hb e)))).2.1
   refine ab (cut (thn (ht _ s6 σ6 H6 _ I6 q6) λok s7 ⟨H7,I7,q7⟩=>?_))
   cases ok with
   | false =>
     rw [if_neg aj] at q7
     exact aq ⟨rfl,again I7 q7⟩
   | true =>
     rw [if_pos rfl] at q7;refine ab (cut (thn (hb _ s7 σ6 H7 _ I7 q7) λ_ s8 ⟨σ8,H8,I8,q8⟩=>?_));exact aq ⟨rfl,again I8 q8⟩
end
def iI (env:Env):List (Str × ku)->List (Str × aw)->List (Str × aw)
 | [],cs=>cs
 | (n,k)::r,cs=>iI env r (if k == .free then (n,(env.cells.lookup n).getD 0)::cs else cs)
def AL:∀ (names:List (Str × ku)) (cs:List (Str × aw)),(∀ x,(x,cn)∈names->∃ c,env.cells.lookup x = some c) ->
 (forIn names cs λx r=>match x with | (name,kind)=>(do
   if (kind == cn) = true then do
    let y <- cellOf env name
    pure (jT ((name,y)::r))
   else pure (jT r):Sem (ForInStep (List (Str × aw))))) = (pure (iI env names cs):Sem (List (Str × aw)))
 | [],cs,_=>rfl
 | (n,k)::r,cs,h=>by
   have ih:=λcs=>AL (env:=env) r cs λx hx=>h x (ak _ hx);rw [rG];by_cases hk:k = .free
   . subst hk;obtain ⟨c,e⟩:=h n au;have e2:cellOf env n = pure c:=by unfold cellOf;rw [e]
     simp only [beq_self_eq_true,if_true,e2,pure_bind,iI,e,Option.getD_some];exact ih _
   . have hb:(k == cn) = false:=by simpa using hk
     simp only [hb,bb,if_false,pure_bind,iI];exact ih _
def yU (h:∀ x,(x,cn)∈scope.names->∃ c,env.cells.lookup x = some c):closureFor scope env = pure (iI env scope.names []):=by
 have q:=AL (env:=env) scope.names [] h;unfold closureFor;rw [<- bind_pure (pure (iI env scope.names []):Sem _),<- q]
def uT:∀ (names:List (Str × ku)) (cs:List (Str × aw)),(∀ x,(x,cn)∈names->∃ c,env.cells.lookup x = some c)->∀ p∈iI env names cs,p∈cs\/env.cells.lookup p.1 = some p.2
 | [],cs,_,p,hp=>.inl hp
 | (n,k)::r,cs,h,p,hp=>by
   unfold iI at hp;have ih:=uT (env:=env) r _ (λx hx=>h x (ak _ hx)) p hp;rcases ih with ih | ih
   . by_cases hk:k = .free
     . subst hk;rw [if_pos ↥0] at ih;rcases aQ.mp ih with rfl | ih
       . obtain ⟨c,e⟩:=h n au;right;rw [e];rfl
       . exact .inl ih
     . rw [if_neg (by simpa using hk)] at ih;exact .inl ih
   . exact .inr ih
def uU:∀ (names:List (Str × ku)) (cs:List (Str × aw)) (x:Str),((x,cn)∈names\/∃ c,(x,c)∈cs)->∃ c,(x,c)∈iI env names cs
 | [],cs,x,h=>by
   rcases h with h | h
   . cases h
   . exact h
 | (n,k)::r,cs,x,h=>by
   unfold iI;refine uU (env:=env) r _ x ?_;rcases h with h | ⟨c,h⟩
   . rcases aQ.mp h with e | h
     . cases e;right;rw [if_pos ↥0];exact ⟨_,au⟩
     . exact .inl h
   . right;split
     . exact ⟨c,ak _ h⟩
     . exact ⟨c,h⟩
def jG {α:Type}:∀ {l:List (Str × α)} {x:Str} {c:α},(x,c)∈l->∃ d,l.lookup x = some d
 | [],_,_,h=>by cases h
 | (y,d)::r,x,c,h=>by
   rw [dG]
   cases e:x == y with
   | true=>exact ⟨d,rfl⟩
   | false =>
     rcases aQ.mp h with q | q
     . cases q;simp at e
     . exact jG q
structure oN (X:Cx) (scope:fc):Prop where
 kind:scope.kind = .function
 nocell:∀ y∈scope.names,y.2≠.cell
 names:∀ y∈scope.names,y.2 = .local->scope.names.lookup y.1 = some .local
 free:∀ x,(x,cn)∈scope.names->X.env.kindOf x = some .cell\/X.env.kindOf x = some .free
def cxC (X:Cx) (scope:fc) (cl:List (Str × aw)) (C:aw) (Nc:List Str) (s:ai) (H:Hp) (fp:List aw):Cx :=
 { X with N:=Nc,s₀:=s,H₀:=H,env:=compEnvC scope cl C X.env,outer:=X.stack,ex:=fp,fn:=λ_=>false,pn:=[],xe:=λ_ _=>False }
def jd {scope:fc} {env:Env}:∀ (names:List (Str × ku)) (x:Str),
 (names.map λ(n,k)=>if (k == cn && env.scope.kind == .function && env.kindOf n == some .cell) then (n,lU) else (n,k)).lookup x =
   (names.lookup x).map λk=>if (k == cn && env.scope.kind == .function && env.kindOf x == some .cell) then lU else k
 | [],x=>rfl
 | (n,k)::r,x=>by
   have ih:=jd (scope:=scope) (env:=env) r x;rw [aJ]
   cases hx:x == n with
   | true =>
     have e:x = n:=by simpa using hx
     subst e;by_cases hc:(k == cn && env.scope.kind == .function && env.kindOf x == some .cell) = true
     . simp only [hc,if_true,dG,beq_self_eq_true,dN]
     . simp only [hc,if_false,dG,beq_self_eq_true,dN,bb]
   | false =>
     by_cases hc:(k == cn && env.scope.kind == .function && env.kindOf n == some .cell) = true
     . simp only [hc,if_true,dG,hx];exact ih
     . simp only [hc,if_false,dG,hx,bb];exact ih
def oG {scope:fc} {env:Env} {cl:List (Str × aw)} {C:aw} (x:Str):(compEnvC scope cl C env).kindOf x =
 (scope.names.lookup x).map λk=>if (k == cn && env.scope.kind == .function && env.kindOf x == some .cell) then lU else k:=jd (scope:=scope) (env:=env) scope.names x
def rR (nc:∀ y∈scope.names,y.2≠.cell) (h:(compEnvC scope cl C env).kindOf x = some .cell\/(compEnvC scope cl C env).kindOf x = some .free) :
 scope.names.lookup x = some .free:=by
 rw [oG] at h
 cases e:scope.names.lookup x with
 | none=>rw [e] at h;simp at h
 | some k =>
   rw [e] at h;have hm:=PySem.mem_of_lookup e;have:=nc _ hm;simp only [dN] at h;cases k<;>simp_all
def oz {X:Cx} {scope:fc} {C:aw} {Nc:List Str} {s:ai} {h1:cb} {t1:Nat} {H:Hp} {fp:List aw} {pins:List (aw × Obj)} {σ:St}
 (S:oN X scope) (I:Inv X pins σ H s) (hf:∀ b∈fp,ko X pins H b) (hfl:∀ b∈fp,b < s.heap.objs.size) (hC:C = s.heap.objs.size) (hns:h1.Ns C λ_=>none) (hk:∀ b o,s.heap.get? b = some o->h1.get? b = some o)
 (hN:∀ i x,i < X.N.length->Nc[i]? = some x->Vis scope x->X.N[i]? = some x/\scope.names.lookup x = some .free) (hl:X.N.length<=Nc.length) :
 Inv (cxC X scope (iI X.env scope.names []) C Nc s H fp) [] (σ++aZ (Nc.length - X.N.length) none) H { s with heap:=h1,toks:=t1 }:=by
 have hcl:∀ x,(x,cn)∈scope.names->∃ c,X.env.cells.lookup x = some c:=λx hx=>I.ok.has x (S.free x hx)
 have hlk:∀ x c,(iI X.env scope.names []).lookup x = some c->X.env.cells.lookup x = some c:=λx c e=>by
  have:=uT scope.names [] hcl _ (PySem.mem_of_lookup e);rcases this with z | z
  . cases z
  . exact z
 subst hC
 have neC:∀ x c,(iI X.env scope.names []).lookup x = some c->c < s.heap.objs.size:=λx c e=>by
  obtain ⟨v,z⟩:=I.cell x c (hlk x c e);exact z.lt
 refine ⟨⟨I.ok.mod,S.kind,I.ok.glob,I.ok.blt,ao _,λx y c e1 e2=>I.ok.inj x y c (hlk x c e1) (hlk y c e2),λx hx=>?_,λx c z _=>absurd z aj,I.ok.hd,I.ok.frames,.inl rfl,λb hb=>⟨aO (hfl b hb),λx c e=>(hf b hb).2.2.2.2.1 x c (hlk x c e)⟩,
  I.bs,bj I.ok.bsz I.sz,λb o e hb=>?_,λb hb hz=>?_,I.stack,I.stkFree⟩,rfl,I.bare,Un.kept hk,⟨_,hns,λi x v e1 e2 e3=>?_⟩,λx c e=>?_,I.hok.fresh (ao _),λx c e=>I.freeC x c (hlk x c e),λp hp=>absurd (show p∈([]:List (aw × Obj)) from hp) ↥0,I.hok.kept hk,?_⟩
 . have q:=rR (cl:=iI X.env scope.names []) (C:=s.heap.objs.size) S.nocell hx;obtain ⟨c,hm⟩:=uU (env:=X.env) scope.names [] x (.inl (PySem.mem_of_lookup q));exact jG hm
 . obtain ⟨_,_,_,f3,_⟩:=hf b hb;rcases f3 with z | z
   . exact I.ok.noex b o e z
   . exact absurd (bz (aE e) (bj I.ok.bsz z)) (bX _)
 . obtain ⟨_,f1,f2,_⟩:=hf b hb;rcases aQ.mp (I.stkSub b hz) with q | q
   . exact f1 q
   . exact f2 q
 . have e1:Nc[i]? = some x:=e1
   have hi:i < X.N.length:=by
    by_cases hi:i < X.N.length
    . exact hi
    . rw [cg (by rw [I.len];omega),gN] at e2;split at e2<;>cases e2
   rw [bL (by rw [I.len];exact hi)] at e2
   have vis:Vis scope x:=by
    have e3:Vis (relabel scope X.env) x:=e3;unfold Vis relabel at e3;rw [jd (scope:=scope)] at e3;unfold Vis
    cases q:scope.names.lookup x with
    | none=>rw [q] at e3;simp at e3
    | some k =>
      rw [q] at e3;simp only [dN] at e3;have:=S.nocell _ (PySem.mem_of_lookup q);cases k<;>simp_all
   obtain ⟨n1,n2⟩:=hN i x hi e1 vis;obtain ⟨m,hn,hl'⟩:=I.loc;have kd:=S.free x (PySem.mem_of_lookup n2)
   have visX:Vis X.env.scope x:=by
    rcases kd with z | z
    . exact .inr (.inl z)
    . exact .inr (.inr z)
   obtain ⟨u,r,l⟩:=hl' i x v n1 e2 visX;refine ⟨u,r,.inr ?_⟩;rcases l with ⟨k,_⟩ | ⟨k,c,ec,z⟩
   . rcases kd with z | z
     . rw [z] at k;cases k
     . rw [z] at k;cases k
   . obtain ⟨c',hm⟩:=uU (env:=X.env) scope.names [] x (.inl (PySem.mem_of_lookup n2));obtain ⟨c2,hc2⟩:=jG hm;have:=hlk x c2 hc2;rw [ec] at this;cases this;refine ⟨?_,c,hc2,?_⟩
     . show (compEnvC scope (iI X.env scope.names []) s.heap.objs.size X.env).kindOf x = some .cell\/(compEnvC scope (iI X.env scope.names []) s.heap.objs.size X.env).kindOf x = some .free;rw [oG,n2];simp only [dN];split
       . exact .inl rfl
       . exact .inr rfl
     . obtain ⟨o,ho,hd⟩:=z;exact ⟨o,hk _ _ ho,hd⟩
 . obtain ⟨v,o,ho,hd⟩:=I.cell x c (hlk x c e);exact ⟨v,o,hk _ _ ho,hd⟩
 . show _ = Nc.length;rw [ax,iF,I.len];omega
def DF (D:aw) (te:TE):TU:=λσ H Q=>te σ H λy H'=>∃ xs,H' D = some (.lst xs)/\xs.length < sizeLine/\Q σ (upd H' D (.lst (xs++[y])))
def zY (he:PE X elt te):PU X (do let _ <- call (.builtin "list.append") [.ref D,<- eval elt X.env]) (DF D te):=by
 intro pins s σ H Q I h;refine ab (thn (he pins s σ H _ I h) λu s1 ⟨y,H1,I1,r1,xs,hD,hz,q⟩=>?_);refine ab (thn (sP pins s1 σ H1 (.ref D) [y] (.ref D) [u] (λ_ H'=>Q σ H') I1 rfl (.cons r1 .nil) ⟨D,xs,y,rfl,rfl,hD,hz,q⟩) λ_ s2 ⟨_,H2,I2,_,q2⟩=>?_);exact aq ⟨σ,H2,I2,q2⟩
def tLC (k:Nat) (wi:TI) (g:TG) (tt:TT) (te:TE):TE:=λσ H Q=>wi σ H λJ H1=>∀ D,H1 D = none ->
 tLp J g tt (DF D te) (σ++aZ k none) (upd H1 D (.lst [])) λ_ H2=>Q (.ref D) H2
def mD
 (I:Inv X pins σ H s) (hf:∀ b∈fp,ko X pins H b) (hC:C = s.heap.objs.size) (J:Inv (cxC X scope cl C Nc s H fp) [] σ' H' s') (hs:fQ C s'.heap h2):Inv X pins σ H' { s' with heap:=h2 }:=by
 have hok:HOk X.prog X.w H' h2:=λb ob e=>by
  refine (J.hok b ob e).stay (λc w' hc q=>(hs.2 c ?_).trans q) (λ_ q=>q) λ_ _ q=>q;rintro rfl;have fr:H' c = none:=J.free;rcases hc with rfl | hc
  . rw [fr] at e;cases e
  . rw [fr] at hc;cases hc
 have neC:∀ b o,s.heap.get? b = some o->b≠C:=λb o e=>by rw [hC];exact aO (aE e)
 refine I.call' (s':={ s' with heap:=h2 }) (ch:=fp) J.os ⟨λb o e n hb hx=>?_,λb o e n hb hx=>?_,λb o e n hx=>J.base.free b o e n hx,λb o e hx=>?_,J.base.tups,J.base.frzs,J.base.tbls⟩ hok J.bare λb hb=>?_
 . exact (hs.2 b (neC b o e)).trans (J.base.keep b o e n hb hx)
 . obtain ⟨sl,z⟩:=J.base.slot b o e n hb hx;exact ⟨sl,(hs.2 b (neC b o e)).trans z⟩
 . obtain ⟨o',z⟩:=J.base.there b o e hx;exact ⟨o',(hs.2 b (neC b o e)).trans z⟩
 . obtain ⟨f0,f1,f2,f3,f4,f5⟩:=hf b hb;exact ⟨f3,f1,f4,f5⟩
def mE
 (S:oN X scope) (I:Inv X pins σ H s) (hf:∀ b∈fp,ko X pins H b) (hfl:∀ b∈fp,b < s.heap.objs.size) (hC:C = s.heap.objs.size) (hn:∀ b∈fp,H' b = none) :
 ∀ b∈fp,ko (cxC X scope (iI X.env scope.names []) C Nc s H fp) [] H' b:=λb hb=>by
 have hcl:∀ x,(x,cn)∈scope.names->∃ c,X.env.cells.lookup x = some c:=λx hx=>I.ok.has x (S.free x hx);obtain ⟨f0,f1,f2,f3,f4,f5⟩:=hf b hb;refine ⟨hn b hb,?_,λz=>?_,.inl hb,λx c e=>?_,λp hp=>absurd (show p∈([]:List (aw × Obj)) from hp) ↥0⟩
 . show b≠C;rw [hC];exact aO (hfl b hb)
 . rcases aQ.mp (I.stkSub b z) with q | q
   . exact f1 q
   . exact f2 q
 . have:=uT scope.names [] hcl _ (PySem.mem_of_lookup e);rcases this with z | z
   . cases z
   . exact f4 x c z
def EB
 (hx:X.xe = λ_ _=>False) (hc:X.calm = true) (S:oN X scope) (hN:∀ i x,i < X.N.length->Nc[i]? = some x->Vis scope x->X.N[i]? = some x/\scope.names.lookup x = some .free) (hl:X.N.length<=Nc.length)
 (hi:PI X tg iter wi) (hg:∀ cl C s H fp,PG (cxC X scope cl C Nc s H fp) tg g) (ht:∀ cl C s H fp,PTs (cxC X scope cl C Nc s H fp) ifs tt) (he:∀ cl C s H fp,PE (cxC X scope cl C Nc s H fp) elt te)
 (hs:∀ x,foldedSetIterable iter X.env x = pure x):PE X (.ListComp elt [⟨tg,iter,ifs,0⟩] scope pos) (tLC (Nc.length - X.N.length) wi g tt te):=by
 intro pins s σ H Q I h;rw [eval_ListComp]
 have cutE:∀ {α:Type} {m:Sem α} {Q:α->ai->Prop} {s:ai} {E':ae->ai->Prop},wpAny (model X.prog X.w) X.A m Q X.xe s->wpAny (model X.prog X.w) X.A m Q E' s:=λz=>by
  rw [hx] at z;exact wpAny_noRaise z
 refine lq (use:=none) rfl hs (yU λx hz=>I.ok.has x (S.free x hz)) S.kind S.names (thn (hi pins s σ H _ I h) λv s1 h1=>thn h1 λitv s2 h2=>?_);obtain ⟨it,fp,tn,J,H2,e,I2,T,st2,f2,q⟩:=h2;subst e;refine bA (hd:=by size_fits) ?_;have hfr:=I2.fresh;have I3:Inv X pins σ (upd H2 s2.heap.objs.size (.lst [])) { s2 with heap:=s2.heap.push { cls:=.type "list",data:=.seq ([]:List ae).toArray } }:=I2.lnew (t':=s2.toks) (its:=[]) .nil (bO _);have st3:tn 0 (s2.heap.push { cls:=.type "list",data:=.seq ([]:List ae).toArray }):=T.keep _ _ _ st2 λb _ o e=>ah _ e
 have fl3:∀ b∈fp,b < s2.heap.objs.size:=λb hb=>by
  obtain ⟨o,e,_⟩:=T.obj _ _ st2 b hb;exact aE e
 have ne3:∀ b∈fp,upd H2 s2.heap.objs.size (.lst []) b = none:=λb hb=>by rw [bP (aO (fl3 b hb))];exact (f2 b hb).1
 have f3:∀ b∈fp,ko X pins (upd H2 s2.heap.objs.size (.lst [])) b:=λb hb=>⟨ne3 b hb,(f2 b hb).2⟩;have q3:=q s2.heap.objs.size hfr;generalize hH3:upd H2 s2.heap.objs.size (.lst []) = H3 at I3 ne3 f3 q3;generalize hs3:({ s2 with heap:=s2.heap.push { cls:=.type "list",data:=.seq ([]:List ae).toArray } }:ai) = s3 at I3;have hs3h:s3.heap = s2.heap.push { cls:=.type "list",data:=.seq ([]:List ae).toArray }:=by rw [<- hs3]
 rw [<- hs3h] at st3;have fl4:∀ b∈fp,b < s3.heap.objs.size:=λb hb=>by rw [hs3h,bJ];exact bF (fl3 b hb)
 refine oR S.nocell (by intro y hy;simp at hy) (λh1 hns hsb=>?_) S.kind;have keep1:∀ b o,s3.heap.get? b = some o->h1.get? b = some o:=λb o e=>hsb.extBut b o (aO (aE e)) (ah _ e);have J0:=oz (h1:=h1) (t1:=s3.toks+([]:List (Str × ae)).length) S I3 f3 fl4 rfl (by simpa using hns) keep1 hN hl;have st4:tn 0 h1:=T.keep _ _ _ st3 λb _ o e=>keep1 b o e
 have loop:∀ s4:ai,s4 = { s3 with heap:=h1,toks:=s3.toks+([]:List (Str × ae)).length } ->
  codeAny (model X.prog X.w) X.A (.compLoop (.ListComp elt [⟨tg,iter,ifs,0⟩] scope pos) 0 (.ref it) (.ref s2.heap.objs.size) (compEnvC scope (iI X.env scope.names []) s3.heap.objs.size X.env))
   (compPost (model X.prog X.w) X.A X.xe none (EP X pins σ Q) (.ref s2.heap.objs.size) s3.heap.objs.size) s4:=by
  rintro s4 rfl
  refine AK (X:=cxC X scope (iI X.env scope.names []) s3.heap.objs.size Nc s3 H3 fp) (ip:=iter.pos) (body:=(do let _ <- call (.builtin "list.append") [.ref s2.heap.objs.size,<- eval elt (compEnvC scope (iI X.env scope.names []) s3.heap.objs.size X.env)]))
   rfl hc rfl rfl rfl (by rw [compTurn_list]<;>rfl) T (hg _ _ _ _ _) (ht _ _ _ _ _) (zY (he _ _ _ _ _)) J0 st4 (mE S I3 f3 fl4 rfl ne3) q3 ?_
  intro s' σ' H' J' q';obtain ⟨m,hn,_⟩:=J'.loc;exact ⟨m,hn,λh2 hs2=>⟨.ref s2.heap.objs.size,H',mD I3 f3 rfl J' hs2,rfl,q'⟩⟩
 exact GI (loop _ rfl) (T.self _ _ _ _ _ st4 (loop _ rfl))
def Eu
 (hx:X.xe = λ_ _=>False) (hc:X.calm = true) (S:oN X scope) (hN:∀ i x,i < X.N.length->Nc[i]? = some x->Vis scope x->X.N[i]? = some x/\scope.names.lookup x = some .free) (hl:X.N.length<=Nc.length)
 (hi:PI X tg iter wi) (hg:∀ cl C s H fp,PG (cxC X scope cl C Nc s H fp) tg g) (ht:∀ cl C s H fp,PTs (cxC X scope cl C Nc s H fp) ifs tt) (he:∀ cl C s H fp,PE (cxC X scope cl C Nc s H fp) elt te)
 (hs:∀ x,foldedSetIterable iter X.env x = pure x)
 (hNd:X.N.Nodup) (hy:X.N[i]? = some y) (hv:Loc X.env.scope y) (hf:X.fn y = true\/X.env.scope.names.lookup y = some .local)
 (hsw:swapsWith (.ListComp elt [⟨tg,iter,ifs,0⟩] scope pos) (some (.Name y py)) spos.line X.env = pure true) :
 PS X (.Assign [.Name y py] (.ListComp elt [⟨tg,iter,ifs,0⟩] scope pos) spos) (HC (tLC (Nc.length - X.N.length) wi g tt te) (wZ i)):=by
 intro pins s σ H Q I h;rw [exec_Assign_Name_used _ _ _ _ hsw];refine ab (gP (ab ?_));show wpAny _ X.A (do let _ <- comprehension (.ListComp elt [⟨tg,iter,ifs,0⟩] scope pos) scope X.env _ (newList []) false (eval iter X.env) (some (assign (.Name y py) X.env))) _ _ s
 refine ab (dR (lq (use:=some (assign (.Name y py) X.env)) (Q:=λ_ s'=>SP X pins Q .next s') rfl hs (yU λx hz=>I.ok.has x (S.free x hz)) S.kind S.names
  (thn (hi pins s σ H _ I h) λv s1 h1=>thn h1 λitv s2 h2=>?_)) (λ_ s' hq=>aq (aq hq)) λ_ _ e=>e)
 obtain ⟨it,fp,tn,J,H2,e,I2,T,st2,f2,q⟩:=h2;subst e;refine bA (hd:=by size_fits) ?_;have hfr:=I2.fresh;have I3:Inv X pins σ (upd H2 s2.heap.objs.size (.lst [])) { s2 with heap:=s2.heap.push { cls:=.type "list",data:=.seq ([]:List ae).toArray } }:=I2.lnew (t':=s2.toks) (its:=[]) .nil (bO _);have st3:tn 0 (s2.heap.push { cls:=.type "list",data:=.seq ([]:List ae).toArray }):=T.keep _ _ _ st2 λb _ o e=>ah _ e
 have fl3:∀ b∈fp,b < s2.heap.objs.size:=λb hb=>by
  obtain ⟨o,e,_⟩:=T.obj _ _ st2 b hb;exact aE e
 have ne3:∀ b∈fp,upd H2 s2.heap.objs.size (.lst []) b = none:=λb hb=>by rw [bP (aO (fl3 b hb))];exact (f2 b hb).1
 have f3:∀ b∈fp,ko X pins (upd H2 s2.heap.objs.size (.lst [])) b:=λb hb=>⟨ne3 b hb,(f2 b hb).2⟩;have q3:=q s2.heap.objs.size hfr;generalize hH3:upd H2 s2.heap.objs.size (.lst []) = H3 at I3 ne3 f3 q3;generalize hs3:({ s2 with heap:=s2.heap.push { cls:=.type "list",data:=.seq ([]:List ae).toArray } }:ai) = s3 at I3;have hs3h:s3.heap = s2.heap.push { cls:=.type "list",data:=.seq ([]:List ae).toArray }:=by rw [<- hs3]
 rw [<- hs3h] at st3;have fl4:∀ b∈fp,b < s3.heap.objs.size:=λb hb=>by rw [hs3h,bJ];exact bF (fl3 b hb)
 refine oR S.nocell (by intro y hy;simp at hy) (λh1 hns hsb=>?_) S.kind;have keep1:∀ b o,s3.heap.get? b = some o->h1.get? b = some o:=λb o e=>hsb.extBut b o (aO (aE e)) (ah _ e);have J0:=oz (h1:=h1) (t1:=s3.toks+([]:List (Str × ae)).length) S I3 f3 fl4 rfl (by simpa using hns) keep1 hN hl;have st4:tn 0 h1:=T.keep _ _ _ st3 λb _ o e=>keep1 b o e
 have loop:∀ s4:ai,s4 = { s3 with heap:=h1,toks:=s3.toks+([]:List (Str × ae)).length } ->
  codeAny (model X.prog X.w) X.A (.compLoop (.ListComp elt [⟨tg,iter,ifs,0⟩] scope pos) 0 (.ref it) (.ref s2.heap.objs.size) (compEnvC scope (iI X.env scope.names []) s3.heap.objs.size X.env))
   (compPost (model X.prog X.w) X.A X.xe (some (assign (.Name y py) X.env)) (λ_ s'=>SP X pins Q .next s') (.ref s2.heap.objs.size) s3.heap.objs.size) s4:=by
  rintro s4 rfl
  refine AK (X:=cxC X scope (iI X.env scope.names []) s3.heap.objs.size Nc s3 H3 fp) (ip:=iter.pos) (body:=(do let _ <- call (.builtin "list.append") [.ref s2.heap.objs.size,<- eval elt (compEnvC scope (iI X.env scope.names []) s3.heap.objs.size X.env)]))
   rfl hc rfl rfl rfl (by rw [compTurn_list]<;>rfl) T (hg _ _ _ _ _) (ht _ _ _ _ _) (zY (he _ _ _ _ _)) J0 st4 (mE S I3 f3 fl4 rfl ne3) q3 ?_
  intro s' σ' H' J' q';have hC:H' s3.heap.objs.size = none:=J'.free;obtain ⟨m,hn,_⟩:=J'.loc;have hn:s'.heap.Ns s3.heap.objs.size m:=hn
  -- the frame's state,the block's own names still there
  have I4:Inv X pins σ H' s':=mD I3 f3 rfl J' (vt _ _);obtain ⟨oc,es,ep,ho,hd,hr⟩:=id hn;have above:X.s₀.heap.objs.size<=s3.heap.objs.size:=I3.sz;have hL:s3.heap.objs.size≠X.env.locals:=fe I3.lt;have hfs:s3.heap.objs.size∉X.fs:=I3.nofs (ao _)
  have I5:Inv X (pins++[(s3.heap.objs.size,oc)]) σ H' s':=I4.pins_of λp hp=>by
   rcases bC.mp hp with hp | hp
   . exact I4.pin p (bo _ hp)
   . have:p = (s3.heap.objs.size,oc):=by simpa using hp
     subst this;exact ⟨ho,hC,hL,hfs,λv z=>by rw [hd] at z;cases z⟩
  show wpAny _ _ (assign (.Name y py) X.env (.ref s2.heap.objs.size)) _ _ _;refine MZ (qr (v:=.ref s2.heap.objs.size) I5 hNd hy hv rfl (λs5 I6=>?_) hf);have hp6:=I6.pin (s3.heap.objs.size,oc) (bo _ (bo _ ↥0));refine ⟨m,⟨oc,es,ep,hp6.1,hd,hr⟩,λh' hsb'=>?_⟩;have I7:Inv X pins (σ.set i (some (.ref s2.heap.objs.size))) H' s5:=I6.unpinned;refine ⟨_,H',I7.turned (h':=h') (t':=s5.toks) (it:=s3.heap.objs.size) (λb o hb e=>(hsb'.2 b hb).trans e) hC hL (.inr above) (λx c e z=>?_) (λp hp z=>?_),q'⟩
  . obtain ⟨v,o,hoc,hdc⟩:=I3.cell x c e;have:=aE hoc;rw [z] at this;exact absurd this (bX _)
  . have hq:=(I3.pin p hp).1;have:=aE hq;rw [z] at this;exact absurd this (bX _)
 exact GI (loop _ rfl) (T.self _ _ _ _ _ st4 (loop _ rfl))
section
variable {X:Cx}
def Pb:V->Option Int->Option Int->Hp->VK->Prop:=λx lo hi H Q=>∃ t,x = .str t/\t.length<=sizeLine/\Q (.str (Txt.slice t lo hi)) H
def part_of {v:ae} {lo:Option Int} (h:rE v lo):∃ l:Option (Int × Tok),v = partValue l/\l.map (·.1) = lo:=by
 cases h with
 | none=>exact ⟨none,rfl,rfl⟩
 | int i t=>exact ⟨some (i,t),rfl,rfl⟩
def KU:SlR X Pb:=by
 intro pins s σ H x v vl vu lo hi sl Q I rx hs pl pu h;obtain ⟨t,rfl,hz,q⟩:=h;obtain ⟨k,rfl⟩:=rx;obtain ⟨l,rfl,rfl⟩:=part_of pl;obtain ⟨u,rfl,rfl⟩:=part_of pu;refine ⟨"str",_,PySem.F.slot_str_getitem.lookup,zh _ _ _,wpAny_getItem_str_slice (l:=l) (u:=u) (st:=none) hs rfl ?_⟩;exact post_val_or_str ⟨bj (Txt.slice_le t _ _) hz,λt' k=>⟨.str _,H,I.tok _,⟨_,rfl⟩,q⟩⟩
end
end L2
end
section
namespace PP
open PySem PySem.W PyProof.Rows
def ans {α:Type} (lt:Nat->Nat->Bool):KasT α->α
 | .ret a=>a
 | .ask i j k=>ans lt (k (lt i j))
def dK {α β:Type} (lt:Nat->Nat->Bool) (f:α->KasT β):∀ t:KasT α,ans lt (t.bind f) = ans lt (f (ans lt t))
 | .ret a=>rfl
 | .ask i j k=>by
   show ans lt ((k (lt i j)).bind f) = _;rw [dK lt f (k (lt i j))];rfl
def fF {α:Type} (lt:Nat->Nat->Bool) (i j:Nat) (k:Bool->KasT α):ans lt (.ask i j k) = ans lt (k (lt i j)):=rfl
def iW {α:Type} (lt:Nat->Nat->Bool) (a:α):ans lt (.ret a) = a:=rfl
structure Ord (lt:Nat->Nat->Bool):Prop where
 as:∀ a b,lt a b = true->lt b a = false
 tr:∀ a b c,lt b a = false->lt c b = false->lt c a = false
section
variable {lt:Nat->Nat->Bool} (O:Ord lt)
def Up (lt:Nat->Nat->Bool) (p:Array Nat) (m:Nat):Prop:=∀ i j,i<=j->j < m->lt (p.getD j 0) (p.getD i 0) = false
def Dn' (lt:Nat->Nat->Bool) (p:Array Nat) (m:Nat):Prop:=∀ i j,i<=j->j < m->lt (p.getD i 0) (p.getD j 0) = false
include O
theorem Ord.refl (a:Nat):lt a a = false:=by
 cases h:lt a a with
 | false=>rfl
 | true=>have:=O.as a a h;rw [h] at this;cases this
theorem Up.one (p:Array Nat):Up lt p 1:=λi j h1 h2=>by
 have e1:j = 0:=by lia
 have e2:i = 0:=by lia
 subst e1;subst e2;exact O.refl _
theorem Up.more {p:Array Nat} {n:Nat} (h:Up lt p n) (hn:1<=n) (h2:lt (p.getD n 0) (p.getD (n - 1) 0) = false):Up lt p (n+1):=λi j h3 h4=>by
 by_cases e:j = n
 . subst e;by_cases e':i = j
   . subst e';exact O.refl _
   . exact O.tr _ _ _ (h i (j - 1) ∅ ∅) h2
 . exact h i j h3 ∅
theorem Dn'.more {p:Array Nat} {n:Nat} (h:Dn' lt p n) (hn:1<=n) (h2:lt (p.getD (n - 1) 0) (p.getD n 0) = false):Dn' lt p (n+1):=λi j h3 h4=>by
 by_cases e:j = n
 . subst e;by_cases e':i = j
   . subst e';exact O.refl _
   . exact O.tr _ _ _ h2 (h i (j - 1) ∅ ∅)
 . exact h i j h3 ∅
theorem yX (p:Array Nat):∀ (f n:Nat),1<=n->Up lt p n->n<=ans lt (kas_asc p f n)/\ans lt (kas_asc p f n)<=n+f/\Up lt p (ans lt (kas_asc p f n))/\(ans lt (kas_asc p f n) < n+f->lt (p.getD (ans lt (kas_asc p f n)) 0) (p.getD (ans lt (kas_asc p f n) - 1) 0) = true)
 | 0,n,_,h=>⟨ao _,ao _,h,λz=>absurd z (bX _)⟩
 | f+1,n,hn,h=>by
   unfold kas_asc;rw [fF]
   cases c:lt (p.getD n 0) (p.getD (n - 1) 0) with
   | true =>
     rw [if_pos rfl,iW]
     exact ⟨ao _,∅,h,λ_=>c⟩
   | false =>
     rw [if_neg aj];obtain ⟨a1,a2,a3,a4⟩:=yX p f (n+1) ∅ (h.more O hn c);exact ⟨∅,∅,a3,λz=>a4 ∅⟩
omit O in
theorem getD_eq (p:Array Nat) (k:Nat):p.getD k 0 = (p[k]?).getD 0:=by
 simp [Array.getD_eq_getD_getElem?]
omit O in
theorem jr (hj:j<=p.size) (k:Nat):(kas_rev p i j).getD k 0 = if i<=k/\k < j then p.getD (i+j - 1 - k) 0 else p.getD k 0:=by
 rw [getD_eq,kas_rev,getElem?_mirror hj ((j - i) / 2) ∅ k];by_cases h:i<=k/\k < j
 . rw [if_pos h];by_cases h2:(i<=k/\k < i+(j - i) / 2)\/(j - (j - i) / 2<=k/\k < j)
   . rw [if_pos h2,getD_eq]
   . rw [if_neg h2,getD_eq];have:i+j - 1 - k = k:=by lia
     rw [this]
 . rw [if_neg h];by_cases h2:(i<=k/\k < i+(j - i) / 2)\/(j - (j - i) / 2<=k/\k < j)
   . exfalso;lia
   . rw [if_neg h2,getD_eq]
omit O in
theorem jc (p:Array Nat) (i j:Nat):(kas_rev p i j).size = p.size:=mirror_size _ _ _ _
omit O in
theorem eQ (p:Array Nat) (i j:Nat):(kas_rev p i j).Perm p:=mirror_perm _ _ _ _
theorem Dn'.rev (h:Dn' lt p n) (hn:n<=p.size):Up lt (kas_rev p 0 n) n:=λi j h1 h2=>by
 rw [jr hn,jr hn,if_pos ⟨∅,h2⟩,if_pos ⟨∅,∅⟩];exact h _ _ ∅ ∅
def Eqv (lt:Nat->Nat->Bool) (p:Array Nat) (a b:Nat):Prop:=∀ i j,a<=i->i < b->a<=j->j < b->lt (p.getD i 0) (p.getD j 0) = false
theorem Dn'.turn (h:Dn' lt p n) (hn:n<=p.size) (e:Eqv lt p a n):Dn' lt (kas_rev p a n) n:=λi j h1 h2=>by
 rw [jr hn,jr hn];by_cases hi:a<=i
 . rw [if_pos ⟨hi,∅⟩,if_pos ⟨∅,h2⟩];exact e _ _ ∅ ∅ ∅ ∅
 . rw [if_neg ∅];by_cases hj:a<=j
   . rw [if_pos ⟨hj,h2⟩];exact h _ _ ∅ ∅
   . rw [if_neg ∅];exact h _ _ h1 h2
theorem pS:∀ (f:Nat) (p:Array Nat) (n q:Nat),1<=n->q < n->n+f<=p.size->Dn' lt p n->Eqv lt p (n - (q+1)) n ->
 let r:=ans lt (kas_desc f p n q)
 r.1.size = p.size/\r.1.Perm p/\n<=r.2.1/\r.2.1<=n+f/\r.2.2 < r.2.1/\Dn' lt r.1 r.2.1/\Eqv lt r.1 (r.2.1 - (r.2.2+1)) r.2.1
 | 0,p,n,q,hn,hq,hz,h,e=>⟨rfl,cI _,ao _,ao _,hq,h,e⟩
 | f+1,p,n,q,hn,hq,hz,h,e=>by
   unfold kas_desc;rw [fF]
   cases c:lt (p.getD n 0) (p.getD (n - 1) 0) with
   | true =>
     rw [if_pos rfl];have c':=O.as _ _ c
     have one:∀ p':Array Nat,Eqv lt p' (n+1 - (0+1)) (n+1):=λp' i j h1 h2 h3 h4=>by
      have e1:i = j:=by lia
      rw [e1];exact O.refl _
     by_cases hq0:q > 0
     . rw [if_pos hq0]
       have hT:Dn' lt (kas_rev p (n - (q+1)) n) (n+1):=by
        refine (h.turn O ∅ e).more O hn ?_;rw [jr ∅,jr ∅,if_pos ⟨∅,∅⟩,if_neg ∅];exact O.tr _ _ _ c' (e _ _ ∅ ∅ ∅ ∅)
       obtain ⟨a1,a2,a3,a4,a5,a6,a7⟩:=pS f (kas_rev p (n - (q+1)) n) (n+1) 0 ∅ ∅ (by rw [jc];lia) hT (one _);exact ⟨by rw [a1,jc],a2.trans (eQ _ _ _),∅,∅,a5,a6,a7⟩
     . rw [if_neg hq0];obtain ⟨a1,a2,a3,a4,a5,a6,a7⟩:=pS f p (n+1) 0 ∅ ∅ ∅ (h.more O hn c') (one _)
       exact ⟨a1,a2,∅,∅,a5,a6,a7⟩
   | false =>
     rw [if_neg aj,fF]
     cases d:lt (p.getD (n - 1) 0) (p.getD n 0) with
     | true =>
       rw [if_pos rfl,iW]
       exact ⟨rfl,cI _,ao _,JB _ _,hq,h,e⟩
     | false =>
       rw [if_neg aj]
       have hE:Eqv lt p (n+1 - (q+1+1)) (n+1):=λi j h1 h2 h3 h4=>by
        by_cases ei:i = n
        . subst ei;by_cases ej:j = i
          . subst ej;exact O.refl _
          . exact O.tr _ _ _ (e _ _ ∅ ∅ ∅ ∅) c
        . by_cases ej:j = n
          . subst ej;exact O.tr _ _ _ d (e _ _ ∅ ∅ ∅ ∅)
          . exact e _ _ ∅ ∅ ∅ ∅
       obtain ⟨a1,a2,a3,a4,a5,a6,a7⟩:=pS f p (n+1) (q+1) ∅ ∅ ∅ (h.more O hn d) hE;exact ⟨a1,a2,∅,∅,a5,a6,a7⟩
theorem vL (p:Array Nat) (n m:Nat) (hn:1<=n) (hm:n<=m) (hz:m<=p.size) (h:Dn' lt p n) :
 let r:=ans lt (kas_tail3 n m p)
 r.2.size = p.size/\r.2.Perm p/\1<=r.1/\r.1<=m/\Up lt r.2 r.1:=by
 unfold kas_tail3;rw [dK,iW];obtain ⟨a1,a2,a3,_⟩:=yX O (kas_rev p 0 n) (m - n) n hn (h.rev O ∅);exact ⟨jc _ _ _,eQ _ _ _,∅,∅,a3⟩
theorem oW (p:Array Nat) (n m:Nat) (hn:1<=n) (hm:n < m) (hz:m<=p.size) (h:Dn' lt p (n+1)) :
 let r:=ans lt (kas_descPart n m p)
 r.2.size = p.size/\r.2.Perm p/\1<=r.1/\r.1<=m/\Up lt r.2 r.1:=by
 unfold kas_descPart;rw [dK]
 have one:Eqv lt p (n+1 - (0+1)) (n+1):=λi j h1 h2 h3 h4=>by
  have e1:i = j:=by lia
  rw [e1];exact O.refl _
 obtain ⟨a1,a2,a3,a4,a5,a6,a7⟩:=pS O (m - (n+1)) p (n+1) 0 ∅ ∅ ∅ h one;generalize ans lt (kas_desc (m - (n+1)) p (n+1) 0) = r at a1 a2 a3 a4 a5 a6 a7;by_cases hq:r.2.2 > 0
 . rw [if_pos hq];obtain ⟨b1,b2,b3,b4,b5⟩:=vL O (kas_rev r.1 (r.2.1 - (r.2.2+1)) r.2.1) r.2.1 m ∅ ∅ (by rw [jc];lia) (a6.turn O ∅ a7);exact ⟨by rw [b1,jc,a1],(b2.trans (eQ _ _ _)).trans a2,b3,b4,b5⟩
 . rw [if_neg hq];obtain ⟨b1,b2,b3,b4,b5⟩:=vL O r.1 r.2.1 m ∅ ∅ ∅ a6;exact ⟨by rw [b1,a1],b2.trans a2,b3,b4,b5⟩
theorem Gg (p:Array Nat) (m:Nat) (hm:1<=m) (hz:m<=p.size) :
 let r:=ans lt (kas_count m p)
 r.2.size = p.size/\r.2.Perm p/\1<=r.1/\r.1<=m/\Up lt r.2 r.1:=by
 unfold kas_count;rw [dK];obtain ⟨a1,a2,a3,a4⟩:=yX O p (m - 1) 1 (ao _) (Up.one O p);generalize ans lt (kas_asc p (m - 1) 1) = n at a1 a2 a3 a4;by_cases e:(n == m) = true
 . rw [if_pos e,iW];exact ⟨rfl,cI _,a1,∅,a3⟩
 . rw [if_neg e];have ne:n≠m:=λz=>e (by rw [z];simp);have c:=a4 ∅;by_cases h1:n > 1
   . rw [if_pos h1,fF]
     cases d:lt (p.getD 0 0) (p.getD (n - 1) 0) with
     | true =>
       rw [if_pos rfl,iW]
       exact ⟨rfl,cI _,a1,∅,a3⟩
     | false =>
       rw [if_neg aj]
       have hE:Eqv lt p 0 n:=λi j _ hi _ hj=>by
        have x1:lt (p.getD 0 0) (p.getD j 0) = false:=O.tr _ _ _ (a3 j (n - 1) ∅ ∅) d;exact O.tr _ _ _ x1 (a3 0 i ∅ hi)
       have hD:Dn' lt (kas_rev p 0 n) (n+1):=by
        refine (Dn'.turn O (p:=p) (n:=n) (a:=0) (λi j hi hj=>hE i j ∅ ∅ ∅ (by omega)) ∅ hE).more O a1 ?_;rw [jr ∅,jr ∅,if_pos ⟨∅,∅⟩,if_neg ∅];exact O.tr _ _ _ (O.as _ _ c) (hE _ _ ∅ ∅ ∅ ∅)
       obtain ⟨b1,b2,b3,b4,b5⟩:=oW O (kas_rev p 0 n) n m a1 ∅ (by rw [jc];omega) hD;exact ⟨by rw [b1,jc],b2.trans (eQ _ _ _),b3,b4,b5⟩
   . rw [if_neg h1];have e1:n = 1:=by lia
     subst e1
     have hD:Dn' lt p (1+1):=by
      refine Dn'.more O (n:=1) (λi j h1 h2=>?_) (ao _) (O.as _ _ c);have e1:i = j:=by lia
      rw [e1];exact O.refl _
     exact oW O p 1 m (ao _) ∅ hz hD
theorem qC (p:Array Nat) (k:Nat) (h:Up lt p k):∀ (f l r:Nat),l<=r->r<=k->r - l<=f->(∀ i,i < l->lt (p.getD k 0) (p.getD i 0) = false)->(∀ i,r<=i->i < k->lt (p.getD i 0) (p.getD k 0) = false) ->
 let x:=ans lt (kas_place p k f l r)
 x<=k/\(∀ i,i < x->lt (p.getD k 0) (p.getD i 0) = false)/\∀ i,x<=i->i < k->lt (p.getD i 0) (p.getD k 0) = false
 | 0,l,r,h1,h2,h3,h4,h5=>by
   have e:l = r:=by lia
   subst e
   exact ⟨h2,h4,h5⟩
 | f+1,l,r,h1,h2,h3,h4,h5=>by
   unfold kas_place;by_cases hlr:l ≥ r
   . rw [if_pos hlr,iW];have e:l = r:=by lia
     subst e;exact ⟨h2,h4,h5⟩
   . rw [if_neg hlr,fF]
     cases c:lt (p.getD k 0) (p.getD ((l+r) / 2) 0) with
     | true =>
       rw [if_pos rfl];refine qC p k h f l ((l+r) / 2) ∅ ∅ ∅ h4 λi hi hk=>?_
       exact O.tr _ _ _ (O.as _ _ c) (h _ i (by omega) hk)
     | false =>
       rw [if_neg aj];refine qC p k h f ((l+r) / 2+1) r ∅ h2 ∅ (λi hi=>?_) h5;exact O.tr _ _ _ (h i ((l+r) / 2) ∅ ∅) c
theorem Gu:∀ (f:Nat) (p:Array Nat) (k:Nat),k+f<=p.size->Up lt p k ->
 let r:=ans lt (kas_bin f p k)
 r.size = p.size/\r.Perm p/\Up lt r (k+f)
 | 0,p,k,_,h=>⟨rfl,cI _,h⟩
 | f+1,p,k,hz,h=>by
   unfold kas_bin;rw [dK];obtain ⟨a1,a2,a3⟩:=qC O p k h k 0 k ∅ ∅ ∅ (λi hi=>by lia) (λi h1 h2=>by lia);generalize ans lt (kas_place p k k 0 k) = l at a1 a2 a3
   have bg:∀ t,(bubble p k (k - l)).getD t 0 = if t = l then p.getD k 0 else if l < t/\t<=k then p.getD (t - 1) 0 else p.getD t 0:=λt=>by
    rw [getD_eq,xJ ∅ (k - l) ∅ t];have e1:k - (k - l) = l:=by lia
    rw [e1];by_cases h1:t = l
    . rw [if_pos h1,if_pos h1,getD_eq]
    . rw [if_neg h1,if_neg h1];by_cases h2:l < t/\t<=k
      . rw [if_pos h2,if_pos h2,getD_eq]
      . rw [if_neg h2,if_neg h2,getD_eq]
   have hU:Up lt (bubble p k (k - l)) (k+1):=λi j h1 h2=>by
    rw [bg i,bg j];by_cases i1:i = l
    . rw [if_pos i1];by_cases j1:j = l
      . rw [if_pos j1];exact O.refl _
      . rw [if_neg j1,if_pos ⟨∅,∅⟩];exact a3 _ ∅ ∅
    . rw [if_neg i1];by_cases i2:l < i/\i<=k
      . rw [if_pos i2,if_neg ∅,if_pos ⟨∅,∅⟩];exact h _ _ ∅ ∅
      . rw [if_neg i2];by_cases j1:j = l
        . rw [if_pos j1];exact a2 i ∅
        . rw [if_neg j1];by_cases j2:l < j/\j<=k
          . rw [if_pos j2];exact h _ _ ∅ ∅
          . rw [if_neg j2];exact h _ _ h1 ∅
   obtain ⟨b1,b2,b3⟩:=Gu f (bubble p k (k - l)) (k+1) (by rw [bubble_size];lia) hU;exact ⟨by rw [b1,bubble_size],b2.trans (vw _ _ _),by rw [show k+(f+1) = k+1+f by lia];exact b3⟩
theorem HD (n:Nat) (hn:1<=n) :
 let r:=ans lt (kas_sort n)
 r.size = n/\r.Perm (fP (cc n))/\Up lt r n:=by
 unfold kas_sort;rw [dK];have hs:(fP (cc n)).size = n:=by simp
 obtain ⟨a1,a2,a3,a4,a5⟩:=Gg O (fP (cc n)) n hn ∅;generalize ans lt (kas_count n (fP (cc n))) = r at a1 a2 a3 a4 a5;by_cases h:r.1 < n
 . rw [if_pos h];have e:max r.1 1 = r.1:=by lia
   rw [e];obtain ⟨b1,b2,b3⟩:=Gu O (n - r.1) r.2 r.1 ∅ a5;have e2:r.1+(n - r.1) = n:=by lia
   rw [e2] at b3;exact ⟨∅,b2.trans a2,b3⟩
 . rw [if_neg h,iW];have e:r.1 = n:=by lia
   exact ⟨∅,a2,by rw [<- e];exact a5⟩
end
end PP
end
section
namespace PP
open PySem
set_option genInjectivity true in
inductive D where
 | non | bl (b:Bool) | int (i:Int) | str (x:Str) | lst (ds:List D) | tup (ds:List D) | fn (k:Nat) (ds:List D)
 deriving Inhabited
mutual
noncomputable def eqD:D->D->Bool
 | .non,.non=>true
 | .bl a,.bl b=>a == b
 | .bl a,.int b=>(if a then 1 else 0) == b
 | .int a,.bl b=>a == (if b then 1 else 0)
 | .int a,.int b=>a == b
 | .str a,.str b=>a == b
 | .lst a,.lst b=>gx a b
 | .tup a,.tup b=>gx a b
 | _,_=>false
noncomputable def gx:List D->List D->Bool
 | [],[]=>true
 | x::xs,y::ys=>eqD x y && gx xs ys
 | _,_=>false
end
mutual
noncomputable def ltD:D->D->Option Bool
 | .int a,.int b=>some (decide (a < b))
 | .str a,.str b=>some (decide (a.cps.toList < b.cps.toList))
 | .tup a,.tup b=>eB a b
 | _,_=>none
noncomputable def eB:List D->List D->Option Bool
 | [],[]=>some false
 | [],_::_=>some true
 | _::_,[]=>some false
 | x::xs,y::ys=>if eqD x y = true then eB xs ys else ltD x y
end
mutual
noncomputable def dep:D->Nat
 | .lst ds | .tup ds=>cJ ds+1
 | .fn _ _=>100000
 | _=>0
noncomputable def cJ:List D->Nat
 | []=>0
 | x::xs=>max (dep x) (cJ xs)
end
mutual
noncomputable def lf:D->Bool
 | .lst _=>false
 | .fn _ _=>false
 | .tup ds=>lfL ds
 | _=>true
noncomputable def lfL:List D->Bool
 | []=>true
 | x::xs=>lf x && lfL xs
end
def flat:D->Bool
 | .non | .bl _ | .int _ | .str _=>true
 | _=>false
def tv:D->Option Bool
 | .non=>some false
 | .bl b=>some b
 | .int i=>some (i != 0)
 | .str x=>if x.length<=sizeLine then some ((x.length:Int) != 0) else none
 | .lst ds | .tup ds=>some (!ds.isEmpty)
 | .fn _ _=>none
inductive Op where
 | add | sub | mul | mod | fdiv | pow
 deriving DecidableEq
inductive Cop where
 | lt | gt | eq | ne | isin | notin
 deriving DecidableEq
inductive Blt where
 | len | min | max | toInt | toTup | toLst | dvm | any | sum | sortb | isTup
 deriving DecidableEq
def kS (i j:Int):Bool:=(decide (-(2 ^ 64) < i) && decide (i < 2 ^ 64)) || (decide (-(2 ^ 64) < j) && decide (j < 2 ^ 64)) || (decide (i.natAbs < 2 ^ 200) && decide (j.natAbs < 2 ^ 200))
def HZ (x:Str) (n:Nat):Str:=⟨(aZ n x.cps.toList).flatten.toArray⟩
def MR:D->D->Option D
 | .int a,.int b=>some (.int (a+b))
 | .str a,.str b=>if a.length+b.length<=sizeLine then some (.str (a++b)) else none
 | .tup [],.tup b=>some (.tup b)
 | .tup (x::a),.tup b=>if (x::a).length+b.length<=sizeLine then some (.tup (x::a++b)) else none
 | .lst a,.lst b=>if a.length+b.length<=sizeLine then some (.lst (a++b)) else none
 | _,_=>none
def KG:D->D->Option D
 | .int a,.int b=>some (.int (a - b))
 | _,_=>none
def Mb:D->D->Option D
 | .int a,.int b=>if kS a b then some (.int (a * b)) else none
 | .str a,.int b=>if 0<=b/\b<=1000/\a.length<=1000 then some (.str (HZ a b.toNat)) else none
 | _,_=>none
def Mc:D->D->Option D
 | .int a,.int b=>if 0 < b then some (.int (a % b)) else none
 | _,_=>none
def FO:D->D->Option D
 | .int a,.int b=>if 0 < b/\b < 1000000000000000000000000000000000000000000000000000000000000 then some (.int (a / b)) else none
 | _,_=>none
def Lk:D->D->Option D
 | .int a,.int b=>if 0<=b/\b<=1000000/\a.natAbs < 2 ^ 64 then some (.int (a ^ b.toNat)) else none
 | _,_=>none
def opD:Op->D->D->Option D
 | .add=>MR | .sub=>KG | .mul=>Mb | .mod=>Mc | .fdiv=>FO | .pow=>Lk
def kin:D->D->Bool
 | .bl _,.bl _ | .int _,.int _ | .str _,.str _ | .lst _,.lst _ | .tup _,.tup _=>true
 | _,_=>false
def ky (a b:D):Bool:=kin a b && decide (min (dep a) (dep b)<=150) && decide (max (dep a) (dep b) < 100000)
def Od:D->D->Bool
 | .int _,.str _=>true
 | .str _,.int _=>true
 | _,_=>false
def LC (p:Int->Int->Bool):D->D->Option Bool
 | .int a,.int b=>some (p a b)
 | _,_=>none
def LY (y x:Str):Bool:=!(qe y x 0 y.length 1).isEmpty
def inD (a:D):D->Option Bool
 | .lst ds=>if dep a<=150/\cJ ds < 99999 then some (ds.any λy=>eqD y a) else none
 | .tup ds=>if dep a<=150/\cJ ds < 99999 then some (ds.any λy=>eqD y a) else none
 | .str y=>match a with
   | .str x=>some (LY y x)
   | _=>none
 | _=>none
def iN (a b:D):Option Bool:=if min (dep a) (dep b)<=150/\max (dep a) (dep b) < 100000 then ltD a b else none
def fy (ds:List D) (i j:Nat):Bool:=(iN (ds.getD i .non) (ds.getD j .non)).getD false
def fU (ds:List D):List D:=if ds.length < 2 then ds else (ans (fy ds) (PySem.W.kas_sort ds.length)).toList.map λi=>ds.getD i .non
def bE:D->Nat
 | .str _=>1
 | .int _=>2
 | .tup (.str _::_)=>3
 | .tup (.int _::_)=>4
 | _=>0
def sortable (ds:List D):Bool:=decide (ds.length < 64) && (ds.all λx=>bE x != 0 && bE x == bE (ds.getD 0 .non)) && ds.all λx=>ds.all λy=>(iN x y).isSome
def ltO (a b:D):Bool:=(iN a b).getD false
def wW (x:D):List D->List D
 | []=>[x]
 | y::ys=>if ltO y x = true then y::wW x ys else x::y::ys
def kN:List D->List D
 | []=>[]
 | x::xs=>wW x (kN xs)
mutual
noncomputable def iE:D->D->Bool
 | .bl a,.bl b=>decide (a = b)
 | .int a,.int b=>decide (a = b)
 | .str a,.str b=>decide (a = b)
 | .tup a,.tup b=>hW a b
 | _,_=>false
noncomputable def hW:List D->List D->Bool
 | [],[]=>true
 | x::xs,y::ys=>iE x y && hW xs ys
 | _,_=>false
end
def Cu (ds:List D):Bool:=decide (ds.length<=sizeLine) && (ds.all λx=>bE x != 0 && bE x == bE (ds.getD 0 .non)) && (ds.all λx=>ds.all λy=>(iN x y).isSome && (!ltO x y || !ltO y x) && (ltO x y || ltO y x || iE x y)) && ds.all λx=>ds.all λy=>ltO y x || ds.all λz=>ltO z y || !ltO z x
mutual
noncomputable def hb:D->Bool
 | .str _ | .int _=>true
 | .tup ds=>hbL ds
 | _=>false
noncomputable def hbL:List D->Bool
 | []=>true
 | d::ds=>hb d && hbL ds
end
def hok:D->Bool
 | .tup (.str x::ds)=>hbL ds && decide (cJ ds<=7)
 | _=>false
def jl:Cop->D->D->Option Bool
 | .lt,x,y=>iN x y
 | .gt,x,y=>LC (λa b=>decide (b < a)) x y
 | .eq,a,b=>if ky a b then some (eqD a b) else if Od a b = true then some false else none
 | .ne,a,b=>if ky a b then some (!eqD a b) else none
 | .isin,a,y=>inD a y
 | .notin,a,y=>(inD a y).map (!·)
def ixD:D->D->Option D
 | .lst ds,.int i=>L2.atI ds i
 | .tup ds,.int i=>L2.atI ds i
 | .str x,.int i=>if x.length<=sizeLine then (L2.atI x.cps.toList i).map λc=>.str ⟨#[c]⟩ else none
 | _,_=>none
def cutD (ds:List D) (lo hi:Option Int):List D:=(ds.drop (HT.sIx ds.length 0 lo)).take (HT.sIx ds.length ds.length hi - HT.sIx ds.length 0 lo)
def slD:D->Option Int->Option Int->Option D
 | .lst ds,lo,hi=>some (.lst (cutD ds lo hi))
 | .tup ds,lo,hi=>if HT.sIx ds.length 0 lo = 0/\HT.sIx ds.length ds.length hi = ds.length then none else some (.tup (cutD ds lo hi))
 | .str x,lo,hi=>if x.length<=sizeLine then some (.str (Txt.slice x lo hi)) else none
 | _,_,_=>none
def sS:List D->Option (List Int)
 | []=>some []
 | .int i::r=>(sS r).map (i::·)
 | _=>none
def IY:List D->Option D
 | [.str x]=>if x.length<=sizeLine then some (.int x.length) else none
 | [.lst ds]=>some (.int ds.length)
 | [.tup ds]=>some (.int ds.length)
 | _=>none
def minD:List D->Option D
 | [.int i,.int j]=>some (.int (if j < i then j else i))
 | [.lst ds]=>if ds≠[]/\(ds.all λx=>ds.all λy=>(iN x y).isSome) = true then some (ds.getD (PySem.argBest (fy ds) (ds.length - 1)) .non) else none
 | _=>none
def vI:List Int->Int
 | []=>0
 | n::ns=>ns.foldl (λa b=>if b > a then b else a) n
def maxD:List D->Option D
 | [.int i,.int j]=>some (.int (if j > i then j else i))
 | [.lst ds]=>(sS ds).bind λns=>if ns = [] then none else some (.int (vI ns))
 | _=>none
def tV:List D->Option D
 | [.int i]=>some (.int i)
 | [.bl b]=>some (.int (if b then 1 else 0))
 | [.str x]=>if x.length<=640 then (PySem.intText? x).map .int else none
 | _=>none
def tU:List D->Option D
 | [.lst ds]=>some (.tup ds)
 | [.tup ds]=>some (.tup ds)
 | _=>none
def og:List D->Option D
 | [.lst ds]=>some (.lst ds)
 | [.tup ds]=>some (.lst ds)
 | _=>none
def Jn:List D->Option D
 | [.int a,.int b]=>if 0 < b/\b < 1073741824 then some (.tup [.int (a / b),.int (a % b)]) else none
 | _=>none
def DG:List D->Option D
 | [.lst ds]=>(sS ds).map λns=>.int ns.sum
 | _=>none
def mH:List D->Option (List Bool)
 | []=>some []
 | .bl i::r=>(mH r).map (i::·)
 | _=>none
def Jv:List D->Option D
 | [.lst ds]=>(mH ds).map λbs=>.bl (bs.any id)
 | _=>none
def tX:List D->Option D
 | [.lst ds]=>if Cu ds = true then some (.lst (kN ds)) else none
 | _=>none
def kf:List D->Option D
 | [.tup _]=>some (.bl true)
 | [.fn _ _]=>none
 | [_]=>some (.bl false)
 | _=>none
def kF:Blt->List D->Option D
 | .len=>IY | .min=>minD | .max=>maxD | .toInt=>tV | .toTup=>tU | .toLst=>og | .dvm=>Jn | .any=>Jv | .sum=>DG | .sortb=>tX
 | .isTup=>kf
inductive Sl where
 | no | val (d:D) | own (ds:List D) | fnc (k:Nat) (cs:List D)
 deriving Inhabited
abbrev Loc:=List Sl
inductive Tg where
 | nm (i:Nat)
 | tp (is:List Nat)
def fS:List D->Option (List Str)
 | []=>some []
 | .str x::r=>(fS r).map (x::·)
 | _=>none
mutual
inductive E where
 | var (i:Nat)
 | pk (i:Nat)
 | glob (g:Nat)
 | int (i:Int) | bl (b:Bool) | non | str (x:Str)
 | bin (op:Op) (a b:E)
 | cmp (op:Cop) (a b:E)
 | and (a b:E) | or (a b:E) | not (a:E) | neg (a:E)
 | ite (c a b:E)
 | tup (es:Es) | lst (es:Es)
 | ix (a b:E)
 | sl (a:E) (lo hi:Eo)
 | call (f:Nat) (es:Es)
 | blt (f:Blt) (es:Es)
 | bad
 | isdig (i:Nat)
 | comp (k:Nat) (tg:Tg) (src:It) (ifs:Eo) (elt:E)
 | sset (k:Nat) (tg1:Tg) (src1:It) (tg2:Tg) (src2:It) (ifs:Eo) (elt:E)
inductive Es where
 | nil | cons (e:E) (es:Es)
inductive Eo where
 | no | yes (e:E)
inductive It where
 | rng (e:E) | rng2 (a b:E) | rev (e:E) | sq (e:E) | zp (es:Es)
end
def get (δ:Loc) (i:Nat):Option D:=match δ[i]? with
 | some (.val d)=>some d
 | some (.own ds)=>some (.lst ds)
 | _=>none
def FL (δ:Loc) (i:Nat):Option D:=match δ[i]? with
 | _=>get δ i
def demote (δ:Loc) (i:Nat):Loc:=match δ[i]? with
 | some (.own ds)=>δ.set i (.val (.lst ds))
 | _=>δ
def eP (δ:Loc):Tg->D->Option Loc
 | .nm i,d=>if i < δ.length then some (δ.set i (.val d)) else none
 | .tp is,.tup ds=>if is.length = ds.length/\is.all (· < δ.length) = true then some ((is.zip ds).foldl (λδ p=>δ.set p.1 (.val p.2)) δ) else none
 | .tp is,.lst ds=>if is.length = ds.length/\is.all (· < δ.length) = true then some ((is.zip ds).foldl (λδ p=>δ.set p.1 (.val p.2)) δ) else none
 | _,_=>none
def Ec:D->Option (List D)
 | .lst ds=>some ds
 | .tup ds=>some ds
 | _=>none
def CN (xs ys:List D):List D:=(xs.zip ys).map λp=>.tup [p.1,p.2]
def zpD:List D->Option (List D)
 | [x,y]=>(Ec x).bind λxs=>(Ec y).map λys=>CN xs ys
 | _=>none
def items:D->Option (List D)
 | .lst ds=>some ds
 | .tup ds=>some ds
 | .str x=>if x.length<=sizeLine then some (x.cps.toList.map λc=>.str ⟨#[c]⟩) else none
 | _=>none
def pB (lo:Int) (n:Nat):List D:=(cc n).map λ(i:Nat)=>D.int (lo+i)
def nG (f:D->Loc->Option (Option D × Loc)):List D->Loc->Option (List D × Loc)
 | [],δ=>some ([],δ)
 | x::xs,δ=>do
   let (o,δ1) <- f x δ
   let (ys,δ2) <- nG f xs δ1
   return (match o with | some y=>y::ys | none=>ys,δ2)
def gW (f:D->Loc->Option (List D × Loc)):List D->Loc->Option (List D × Loc)
 | [],δ=>some ([],δ)
 | x::xs,δ=>do
   let (o,δ1) <- f x δ
   let (ys,δ2) <- gW f xs δ1
   return (o++ys,δ2)
def kn (ts:List Str) (x:Str):List Str:=if x∈ts then ts else ts++[x]
def iP (xs:List Str):List Str:=xs.foldl kn []
structure Cl where
 call:Nat->List D->Option D
 gl:List D
 hf:Nat->Bool
section
variable (cx:Cl)
mutual
noncomputable def evE:E->Loc->Option (D × Loc)
 | .var i,δ=>do return (<- FL δ i,demote δ i)
 | .pk i,δ=>do return (<- get δ i,δ)
 | .glob g,δ=>do return (<- cx.gl[g]?,δ)
 | .int i,δ=>some (.int i,δ)
 | .bl b,δ=>some (.bl b,δ)
 | .non,δ=>some (.non,δ)
 | .str x,δ=>some (.str x,δ)
 | .bin op a b,δ=>do
   let (x,δ1) <- evE a δ
   let (y,δ2) <- evE b δ1
   return (<- opD op x y,δ2)
 | .cmp op a b,δ=>do
   let (x,δ1) <- evE a δ
   let (y,δ2) <- evE b δ1
   return (.bl (<- jl op x y),δ2)
 | .and a b,δ=>do
   match <- evE a δ with
   | (.bl true,δ1)=>evE b δ1
   | (.bl false,δ1)=>some (.bl false,δ1)
   | _=>none
 | .or a b,δ=>do
   match <- evE a δ with
   | (.bl true,δ1)=>some (.bl true,δ1)
   | (.bl false,δ1)=>evE b δ1
   | _=>none
 | .not a,δ=>do
   match <- evE a δ with
   | (.bl b,δ1)=>some (.bl (!b),δ1)
   | _=>none
 | .neg a,δ=>do
   match <- evE a δ with
   | (.int i,δ1)=>some (.int (-i),δ1)
   | _=>none
 | .ite c a b,δ=>do
   let (k,δ1) <- evT c δ
   if k then evE a δ1 else evE b δ1
 | .tup es,δ=>do
   let (ds,δ1) <- fW es δ
   if ds.length<=sizeLine then return (.tup ds,δ1) else none
 | .lst es,δ=>do
   let (ds,δ1) <- fW es δ
   if ds.length<=sizeLine then return (.lst ds,δ1) else none
 | .ix a b,δ=>do
   let (x,δ1) <- evE a δ
   let (y,δ2) <- evE b δ1
   return (<- ixD x y,δ2)
 | .sl a lo hi,δ=>do
   let (x,δ1) <- evE a δ
   let (l,δ2) <- evO lo δ1
   let (h,δ3) <- evO hi δ2
   return (<- slD x l h,δ3)
 | .call f es,δ=>do
   let (ds,δ1) <- fW es δ
   return (<- cx.call f ds,δ1)
 | .blt f es,δ=>do
   let (ds,δ1) <- fW es δ
   return (<- kF f ds,δ1)
 | .bad,_=>none
 | .isdig i,δ=>do
   match <- get δ i with
   | .str x=>some (.bl (decide (x.length > 0) && x.cps.all pE),δ)
   | _=>none
 | .comp k tg src ifs elt,δ=>do
   let (ds,δ1) <- evI src δ
   let (ys,δ2) <- nG (λx δ0=>do
    let δ2 <- eP (δ0++aZ k .no) tg x
    let (b,δ3) <- evG ifs δ2
    if b then do
     let (y,δ4) <- evE elt δ3
     return (some y,δ4.take δ0.length)
    else return (none,δ3.take δ0.length)) ds δ1
   if ys.length<=sizeLine then return (.lst ys,δ2) else none
 | .sset k tg1 src1 tg2 src2 ifs elt,δ=>do
   let (ds,δ1) <- evI src1 δ
   let (ys,δ2) <- gW (λx δ0=>do
    let δa <- eP (δ0++aZ k .no) tg1 x
    let (es,δb) <- evI src2 δa
    let (zs,δc) <- gW (λy δi=>do
     let δd <- eP δi tg2 y
     let (b,δe) <- evG ifs δd
     if b then do
      let (z,δf) <- evE elt δe
      return ([z],δf)
     else return ([],δe)) es δb
    return (zs,δc.take δ0.length)) ds δ1
   match fS ys with
   | some xs=>if xs.length < 4000/\(iP xs).length < 64 then some (.lst (fU ((iP xs).map .str)),δ2) else none
   | none=>none
noncomputable def evT:E->Loc->Option (Bool × Loc)
 | .and a b,δ=>do
   let (k,δ1) <- evT a δ
   if k then evT b δ1 else some (false,δ1)
 | .or a b,δ=>do
   let (k,δ1) <- evT a δ
   if k then some (true,δ1) else evT b δ1
 | .not a,δ=>do
   let (k,δ1) <- evT a δ
   return (!k,δ1)
 | .cmp op a b,δ=>do
   let (x,δ1) <- evE a δ
   let (y,δ2) <- evE b δ1
   return (<- jl op x y,δ2)
 | .ix a b,δ=>do
   let (x,δ1) <- evE a δ
   let (y,δ2) <- evE b δ1
   let d <- ixD x y
   return (<- tv d,δ2)
 | .var i,δ=>do
   let d <- get δ i
   return (<- tv d,δ)
 | .pk i,δ=>do
   let d <- get δ i
   return (<- tv d,δ)
 | .call f es,δ=>do
   let (ds,δ1) <- fW es δ
   let d <- cx.call f ds
   return (<- tv d,δ1)
 | .blt f es,δ=>do
   let (ds,δ1) <- fW es δ
   let d <- kF f ds
   return (<- tv d,δ1)
 | _,_=>none
noncomputable def fW:Es->Loc->Option (List D × Loc)
 | .nil,δ=>some ([],δ)
 | .cons e es,δ=>do
   let (d,δ1) <- evE e δ
   let (ds,δ2) <- fW es δ1
   return (d::ds,δ2)
noncomputable def evO:Eo->Loc->Option (Option Int × Loc)
 | .no,δ=>some (none,δ)
 | .yes e,δ=>do
   match <- evE e δ with
   | (.int i,δ1)=>some (some i,δ1)
   | _=>none
noncomputable def evG:Eo->Loc->Option (Bool × Loc)
 | .no,δ=>some (true,δ)
 | .yes e,δ=>evT e δ
noncomputable def evI:It->Loc->Option (List D × Loc)
 | .rng e,δ=>do
   match <- evE e δ with
   | (.int j,δ1)=>if -(2 ^ 62)<=j/\j < 2 ^ 62 then some (pB 0 j.toNat,δ1) else none
   | _=>none
 | .rng2 a b,δ=>do
   match <- evE a δ with
   | (.int i,δ1)=>match <- evE b δ1 with
     | (.int j,δ2)=>if -(2 ^ 62)<=i/\i < 2 ^ 62/\-(2 ^ 62)<=j/\j < 2 ^ 62 then some (pB i (j - i).toNat,δ2) else none
     | _=>none
   | _=>none
 | .rev e,δ=>do
   match <- evE e δ with
   | (.lst ds,δ1)=>some (ds.reverse,δ1)
   | _=>none
 | .sq e,δ=>do
   let (d,δ1) <- evE e δ
   return (<- items d,δ1)
 | .zp es,δ=>do
   let (ds,δ1) <- fW es δ
   return (<- zpD ds,δ1)
end
end
inductive Out where
 | nx (δ:Loc) | rt (d:D) (δ:Loc) | ro (d:D) (δ:Loc)
mutual
inductive S where
 | asg (tg:Tg) (e:E)
 | new (i:Nat) (e:E)
 | cmp (own:Bool) (i:Nat) (e:E)
 | ret (e:E)
 | ifs (c:E) (a b:Ss)
 | for_ (tg:Tg) (src:It) (body:Ss)
 | while_ (c:E) (body:Ss)
 | append (i:Nat) (e:E)
 | extend (i:Nat) (e:E)
 | setix (i:Nat) (j e:E)
 | bad
inductive Ss where
 | nil | cons (s:S) (ss:Ss)
end
def forL (f:D->Loc->Option Out):List D->Loc->Option Out
 | [],δ=>some (.nx δ)
 | x::xs,δ=>match f x δ with
   | some (.nx δ1)=>forL f xs δ1
   | some (.rt d δ1)=>some (.rt d δ1)
   | some (.ro ds δ1)=>some (.ro ds δ1)
   | none=>none
def me (c:Loc->Option (Bool × Loc)) (f:Loc->Option Out):Nat->Loc->Option Out
 | 0,_=>none
 | n+1,δ=>match c δ with
   | some (true,δ1)=>match f δ1 with
     | some (.nx δ2)=>me c f n δ2
     | some (.rt d δ2)=>some (.rt d δ2)
     | some (.ro ds δ2)=>some (.ro ds δ2)
     | none=>none
   | some (false,δ1)=>some (.nx δ1)
   | none=>none
def uj:Nat:=1000000
section
variable (cx:Cl)
mutual
noncomputable def evS:S->Loc->Option Out
 | .asg tg e,δ=>do
   let (d,δ1) <- evE cx e δ
   return .nx (<- eP δ1 tg d)
 | .new i e,δ=>do
   match <- evE cx e δ with
   | (.lst ds,δ1)=>if i < δ1.length then some (.nx (δ1.set i (.own ds))) else none
   | _=>none
 | .cmp own i e,δ=>do
   match <- evE cx e δ with
   | (.lst ds,δ1)=>if i < δ1.length then some (.nx (δ1.set i (if own then .own ds else .val (.lst ds)))) else none
   | _=>none
 | .ret e,δ=>do
   let (d,δ1) <- evE cx e δ
   return .rt d δ1
 | .ifs c a b,δ=>do
   let (k,δ1) <- evT cx c δ
   if k then eC a δ1 else eC b δ1
 | .for_ tg src body,δ=>do
   let (ds,δ1) <- evI cx src δ
   forL (λx δ0=>match eP δ0 tg x with
    | some δ2=>eC body δ2
    | none=>none) ds δ1
 | .while_ c body,δ=>me (λδ0=>evT cx c δ0) (λδ0=>eC body δ0) 1000 δ
 | .append i e,δ=>match δ[i]? with
   | some (.own _)=>do
     let (d,δ1) <- evE cx e δ
     match δ1[i]? with
     | some (.own ds)=>if ds.length < sizeLine then some (.nx (δ1.set i (.own (ds++[d])))) else none
     | _=>none
   | _=>none
 | .extend i e,δ=>match δ[i]? with
   | some (.own _)=>do
     match <- evE cx e δ with
     | (.lst ys,δ1)=>match δ1[i]? with
       | some (.own ds)=>if ds.length+ys.length<=sizeLine then some (.nx (δ1.set i (.own (ds++ys)))) else none
       | _=>none
     | _=>none
   | _=>none
 | .setix i j e,δ=>do
   let (d,δ1) <- evE cx e δ
   match δ1[i]? with
   | some (.own _)=>do
     match <- evE cx j δ1 with
     | (.int k,δ2)=>match δ2[i]? with
       | some (.own ds)=>match L2.ixN ds.length k with
         | some m=>some (.nx (δ2.set i (.own (ds.set m d))))
         | none=>none
       | _=>none
     | _=>none
   | _=>none
 | .bad,_=>none
noncomputable def eC:Ss->Loc->Option Out
 | .nil,δ=>some (.nx δ)
 | .cons s ss,δ=>match evS s δ with
   | some (.nx δ1)=>eC ss δ1
   | o=>o
end
end
structure Fd where
 name:Str
 ps:List Str
 loc:List Str
 body:Ss
 hf:Bool:=false
def outD:Option Out->Option D
 | some (.rt d _)=>some d
 | some (.ro d _)=>some d
 | some (.nx _)=>some .non
 | _=>none
def LA:Option Out->Option D
 | some (.ro d _)=>some d
 | _=>none
def init (n:Nat) (ds:List D):Loc:=ds.map .val++aZ (n - ds.length) .no
def hfs (G:List Fd) (f:Nat):Bool:=match G[f]? with
 | some fd=>fd.hf
 | none=>false
def Oh (n:Nat) (ds:List D) (k:Nat) (cs:List D):Loc:=ds.map .val++Sl.fnc k cs::aZ (n - (ds.length+1)) .no
def entry (hf:Bool) (n:Nat) (ds:List D):Option Loc:=match hf with
 | false=>some (init n ds)
 | true=>match ds.getLast? with
   | some (.fn k cs)=>some (Oh n ds.dropLast k cs)
   | _=>none
def run (G:List Fd) (gl:List D):Nat->Nat->List D->Option D
 | 0,_,_=>none
 | n+1,f,ds=>match G[f]? with
   | some fd=>if ds.length = fd.ps.length then (match entry fd.hf (fd.ps++fd.loc).length ds with
     | some δ=>outD (eC ⟨run G gl n,gl,hfs G⟩ fd.body δ)
     | none=>none) else none
   | none=>match G[f - uj]? with
     | some fd=>if uj<=f/\ds.length = fd.ps.length then (match entry fd.hf (fd.ps++fd.loc).length ds with
       | some δ=>LA (eC ⟨run G gl n,gl,hfs G⟩ fd.body δ)
       | none=>none) else none
     | none=>none
def cj:E->Bool
 | .pk _=>true
 | _=>false
mutual
noncomputable def np:E->Bool
 | .bin _ a b | .cmp _ a b | .and a b | .or a b | .ix a b=>np a && np b
 | .not a=>np a
 | .neg a=>np a
 | .ite c a b=>np c && np a && np b
 | .tup es | .lst es | .call _ es | .blt _ es=>npS es
 | .sl a lo hi=>np a && npO lo && npO hi
 | .comp _ _ src ifs elt=>npI src && npO ifs && np elt
 | .sset _ _ src1 _ src2 ifs elt=>npI src1 && npI src2 && npO ifs && np elt
 | _=>true
noncomputable def npS:Es->Bool
 | .nil=>true
 | .cons e es=>np e && npS es
noncomputable def npO:Eo->Bool
 | .no=>true
 | .yes e=>np e
noncomputable def npI:It->Bool
 | .rng e=>np e
 | .rng2 a b=>np a && np b
 | .rev e=>np e
 | .sq e=>np e
 | .zp es=>npS es
end
end PP
example:PP.evE ⟨λ_ _=>none,[],λ_=>false⟩ (.bin .add (.int 1) (.int 2)) [] = some (.int 3,[]):=rfl
end
section
namespace PP
open PySem L2
def KLs (K:PySem.W.Frag) (a:aw) (xs:List V):Prop:=∃ (its:Array ae) (n:Nat),K.lookup a = some ⟨.type "list",none,.seq its n,#[]⟩/\its.size<=sizeLine/\Vals xs its.toList
def Ls (K:PySem.W.Frag) (H:Hp) (F:aw->Prop) (a:aw) (xs:List V):Prop:=(Rd H a (.lst xs)/\¬ F a)\/KLs K a xs
def LsB (K:PySem.W.Frag) (H:Hp) (a:aw) (xs:List V):Prop:=Rd H a (.lst xs)\/KLs K a xs
def Ls.b {K:PySem.W.Frag} {H:Hp} {F:aw->Prop} {a:aw} {xs:List V} (h:Ls K H F a xs):LsB K H a xs:=h.imp (·.1) id
def LsB.sq (h:LsB K H a xs):SqL K H a xs:=by
 rcases h with h | ⟨its,n,h1,h2,h3⟩
 . exact .inl h
 . exact .inr ⟨_,its,n,h1,rfl,rfl,rfl,h2,h3⟩
def Ls.sq (h:Ls K H F a xs):SqL K H a xs:=h.b.sq
def LsB.obj (I:Inv X pins σ H s) (h:LsB X.K H a xs) :
 ∃ (its:List ae) (n:Nat),Vals xs its/\s.heap.get? a = some { cls:=.type "list",data:=.seq its.toArray n }/\xs.length<=sizeLine:=by
 rcases h with h | ⟨its,n,h1,h2,h3⟩
 . obtain ⟨z,its,n,r,e⟩:=h.ok I.hok;exact ⟨its,n,r,e,z⟩
 . refine ⟨its.toList,n,h3,?_,?_⟩
   . have:=I.kIn a _ h1;simpa using this
   . have:=h3.length;rw [this];simpa using h2
mutual
noncomputable def Rel (K:PySem.W.Frag) (H:Hp) (F:aw->Prop):D->V->Prop
 | .non,v=>v = .non
 | .bl b,v=>v = .bl b
 | .int i,v=>v = .int i
 | .str x,v=>v = .str x
 | .lst ds,v=>∃ a xs,v = .ref a/\Ls K H F a xs/\aI K H F ds xs
 | .tup ds,v=>∃ a xs,v = .ref a/\SqT K H a xs/\aI K H F ds xs
 | .fn _ _,_=>False
noncomputable def aI (K:PySem.W.Frag) (H:Hp) (F:aw->Prop):List D->List V->Prop
 | [],xs=>xs = []
 | d::ds,xs=>∃ y ys,xs = y::ys/\Rel K H F d y/\aI K H F ds ys
end
def NT:HO->Prop
 | .tbl _=>False
 | _=>True
structure Sim (H H':Hp):Prop where
 nt:∀ b o,NT o->H b = some o->H' b = some o
 tb:∀ b ps,H b = some (.tbl ps)->∃ qs,H' b = some (.tbl qs)
def Sim.of (h:ij H H'):Sim H H':=⟨λb o _ e=>h b o e,λb ps e=>⟨ps,h b _ e⟩⟩
def Sim.refl (H:Hp):Sim H H:=⟨λb o _ e=>e,λb ps e=>⟨ps,e⟩⟩
def Sim.trans (a:Sim H H1) (b:Sim H1 H2):Sim H H2:=⟨λx o n e=>b.nt x o n (a.nt x o n e),λx ps e=>by
 obtain ⟨qs,e⟩:=a.tb x ps e;exact b.tb x qs e⟩
def Fz (H:Hp) (a:aw) (o:Obj):Prop:=H a = some (.frz o (.ext λh=>h.get? a = some o))
structure Lam where
 qual:Str
 params:CJ
 body:aH
 scope:fc
 ps:List Str
 caps:List Str
class Tbs where
 ts:List (aw × Str)
 lams:List (Nat × Lam)
 gds:List (Str × List (Str × Int))
 dfs:List Nat
variable [Tbs]
def Mo:HO->Prop
 | .lst _=>True
 | .ext _=>True
 | _=>False
def flV:D->V
 | .bl b=>.bl b
 | .int i=>.int i
 | .str x=>.str x
 | _=>.non
def oM (H:Hp):List aw->List D->Prop
 | [],ds=>ds = []
 | c::r,ds=>∃ d ds' o u,ds = d::ds'/\flat d = true/\Fz H c o/\o.data = .cell (some u)/\RelV (flV d) u/\oM H r ds'
def FnV (H:Hp) (k:Nat) (cs:List D) (a:aw):Prop:=∃ (L:Lam) (pm ctv:ae) (c':aw) (oc:Obj) (vs:Array ae) (tk:Tok) (cells:List aw),
 Tbs.lams.lookup k = some L/\Fz H a (PySem.W.kla_obj "<lambda>" L.qual L.params L.body L.scope (L.caps.zip cells) pm c' ctv)/\Fz H c' oc/\oc.data = .fields vs/\vs[1]? = some (.str L.qual tk)/\cells.Nodup/\cells.length = L.caps.length/\oM H cells cs
def oM.keep {H H':Hp} (k:∀ a o,Fz H a o->Fz H' a o):∀ {cells:List aw} {cs:List D},oM H cells cs->oM H' cells cs
 | [],_,h=>h
 | c::r,cs,h=>by
   obtain ⟨d,ds',o,u,e,h1,h2,h3,h4,h5⟩:=h;exact ⟨d,ds',o,u,e,h1,k _ _ h2,h3,h4,oM.keep k h5⟩
def FnV.keep {H H':Hp} (k:∀ a o,Fz H a o->Fz H' a o) {n:Nat} {cs:List D} {a:aw} (h:FnV H n cs a):FnV H' n cs a:=by
 obtain ⟨L,pm,ctv,c',oc,vs,tk,cells,h1,h2,h3,h4,h5,h6,h7,h8⟩:=h;exact ⟨L,pm,ctv,c',oc,vs,tk,cells,h1,k _ _ h2,k _ _ h3,h4,h5,h6,h7,h8.keep k⟩
def oJ (H:Hp):Prop:=∀ t∈Tbs.ts,∃ ps,H t.1 = some (.tbl ps)/\TriplesOk ps.toList/\∀ pos cv,codeAmong pos ps.toList = some cv->∃ c o vs tk,cv = .ref c/\Fz H c o/\o.data = .fields vs/\vs[1]? = some (.str t.2 tk)
def oJ.keep {H H':Hp} (h:oJ H) (k:∀ b o,¬ Mo o->H b = some o->H' b = some o):oJ H':=λt ht=>by
 obtain ⟨ps,h1,h2,h3⟩:=h t ht;refine ⟨ps,k _ _ (λz=>z) h1,h2,λpos cv e=>?_⟩;obtain ⟨c,o,vs,tk,e1,e2,e3⟩:=h3 pos cv e;exact ⟨c,o,vs,tk,e1,k _ _ (λz=>z) e2,e3⟩
def FD (F:aw->Prop) (H:Hp):Prop:=∀ b,F b->∃ o,H b = some o/\(Mo o\/(∃ ps,o = .tbl ps)/\∃ t∈Tbs.ts,t.1 = b)
def FD.not (fd:FD F H) (e:H a = some o) (n:¬ Mo o) (t:NT o):¬ F a:=λz=>by
 obtain ⟨u,e2,h⟩:=fd a z;rw [e] at e2;cases e2;rcases h with h | ⟨⟨ps,rfl⟩,_⟩
 . exact n h
 . exact t
def FD.none (fd:FD F H) (e:H a = Option.none):¬ F a:=λz=>by
 obtain ⟨u,e2,_⟩:=fd a z;rw [e] at e2;cases e2
def TF (F:aw->Prop):Prop:=∀ t∈Tbs.ts,F t.1
structure Gh where
 h:Hp
 R:aw->Prop
def Gh.free (G:Gh) (a:aw):Prop:=G.h a = none/\¬ G.R a
def g0:Gh:=⟨λ_=>none,λ_=>False⟩
structure Step (G:Gh) (F:aw->Prop) (H:Hp) (F':aw->Prop) (H':Hp):Prop where
 keep:∀ b o,NT o->H b = some o->¬ F b->H' b = some o
 grow:∀ b,F' b->F b\/H b = none
 res:∀ b o,G.R b->F b->H b = some o->F' b/\H' b = some o
 tb:∀ b ps,H b = some (.tbl ps)->∃ qs,H' b = some (.tbl qs)
def Step.refl:Step G F H F H:=⟨λ_ _ _ h _=>h,λ_ h=>.inl h,λ_ _ _ h e=>⟨h,e⟩,λ_ ps e=>⟨ps,e⟩⟩
def Step.trans (a:Step G F H F1 H1) (b:Step G F1 H1 F2 H2):Step G F H F2 H2 where
 keep:=λx o t h n=>b.keep x o t (a.keep x o t h n) λz=>by
  rcases a.grow x z with q | q
  . exact n q
  . rw [h] at q;cases q
 grow:=λx h=>by
  rcases b.grow x h with q | q
  . exact a.grow x q
  . by_cases f:F x
    . exact .inl f
    . right
      cases e:H x with
      | none=>rfl
      | some o =>
        by_cases t:NT o
        . rw [a.keep x o t e f] at q;cases q
        . cases o<;>first | (exact absurd trivial t) | skip
          obtain ⟨qs,z⟩:=a.tb x _ e;rw [z] at q;cases q
 res:=λx o r h e=>by
  obtain ⟨h1,e1⟩:=a.res x o r h e;exact b.res x o r h1 e1
 tb:=λx ps e=>by
  obtain ⟨qs,e⟩:=a.tb x ps e;exact b.tb x qs e
def Step.of_same (h:ij H H'):Step G F H F H':=⟨λb o _ e _=>h b o e,λ_ h=>.inl h,λb o _ f e=>⟨f,h b o e⟩,λb ps e=>⟨ps,h b _ e⟩⟩
section
variable {K:PySem.W.Frag} {G:Gh} {H H':Hp} {F F':aw->Prop}
def zU (t:NT u) (k:∀ b o,NT o->H b = some o->¬ F b->H' b = some o) (n:¬ F a) (h:Rd H a u):Rd H' a u:=by
 rcases h with h | ⟨o,h⟩
 . exact .inl (k a _ t h n)
 . exact .inr ⟨o,k a _ trivial h n⟩
def vR (fd:FD F H) (k:∀ b o,NT o->H b = some o->¬ F b->H' b = some o) (h:SqT K H a xs):SqT K H' a xs:=by
 rcases h with h | h
 . refine .inl (zU trivial k (λz=>?_) h);rcases h with h | ⟨o,h⟩
   . exact fd.not h (λz=>z) trivial z
   . exact fd.not h (λz=>z) trivial z
 . exact .inr h
def Ls.step {a:aw} {xs:List V} (s:Step G F H F' H') (h:Ls K H F a xs):Ls K H' F' a xs:=by
 rcases h with ⟨h1,h2⟩ | h
 . refine .inl ⟨zU trivial s.keep h2 h1,λz=>?_⟩;rcases s.grow a z with q | q
   . exact h2 q
   . rcases h1 with h | ⟨o,h⟩
     . rw [h] at q;cases q
     . rw [h] at q;cases q
 . exact .inr h
def uG (fd:FD F H) (k:∀ b o,NT o->H b = some o->¬ F b->H' b = some o):∀ a o,Fz H a o->Fz H' a o:=λa o h=>by
 exact k a _ trivial h (fd.not h (λz=>z) trivial)
mutual
theorem Rel.step (fd:FD F H) (s:Step G F H F' H'):∀ (d:D) (v:V),Rel K H F d v->Rel K H' F' d v
 | .non,v,h=>by unfold Rel at h |-;exact h
 | .bl b,v,h=>by unfold Rel at h |-;exact h
 | .int i,v,h=>by unfold Rel at h |-;exact h
 | .str x,v,h=>by unfold Rel at h |-;exact h
 | .lst ds,v,h=>by
   unfold Rel at h |-;obtain ⟨a,xs,e,h1,h3⟩:=h
   exact ⟨a,xs,e,h1.step s,aI.step fd s ds xs h3⟩
 | .tup ds,v,h=>by
   unfold Rel at h |-;obtain ⟨a,xs,e,h1,h3⟩:=h
   exact ⟨a,xs,e,vR fd s.keep h1,aI.step fd s ds xs h3⟩
 | .fn _ _,v,h=>by unfold Rel at h;exact h.elim
theorem aI.step (fd:FD F H) (s:Step G F H F' H'):∀ (ds:List D) (xs:List V),aI K H F ds xs->aI K H' F' ds xs
 | [],xs,h=>by unfold aI at h |-;exact h
 | d::ds,xs,h=>by
   unfold aI at h |-;obtain ⟨y,ys,e,h1,h2⟩:=h;exact ⟨y,ys,e,Rel.step fd s d y h1,aI.step fd s ds ys h2⟩
end
def Rel.less (fd:FD F H) (hs:∀ b,F' b->F b) {d:D} {v:V} (h:Rel K H F d v):Rel K H F' d v :=
 Rel.step (G:=g0) fd ⟨λ_ _ _ h _=>h,λb z=>.inl (hs b z),λ_ _ r _ _=>r.elim,λ_ ps e=>⟨ps,e⟩⟩ d v h
def aI.less (fd:FD F H) (hs:∀ b,F' b->F b) {ds:List D} {xs:List V} (h:aI K H F ds xs):aI K H F' ds xs :=
 aI.step (G:=g0) fd ⟨λ_ _ _ h _=>h,λb z=>.inl (hs b z),λ_ _ r _ _=>r.elim,λ_ ps e=>⟨ps,e⟩⟩ ds xs h
mutual
theorem Rel.free (fd:FD F' H):∀ (d:D) (v:V),lf d = true->Rel K H F d v->Rel K H F' d v
 | .non,v,_,h=>by unfold Rel at h |-;exact h
 | .bl b,v,_,h=>by unfold Rel at h |-;exact h
 | .int i,v,_,h=>by unfold Rel at h |-;exact h
 | .str x,v,_,h=>by unfold Rel at h |-;exact h
 | .lst ds,v,l,h=>by unfold lf at l;cases l
 | .tup ds,v,l,h=>by
   unfold lf at l;unfold Rel at h |-;obtain ⟨a,xs,e,h1,h3⟩:=h
   exact ⟨a,xs,e,h1,aI.free fd ds xs l h3⟩
 | .fn _ _,v,l,h=>by unfold lf at l;cases l
theorem aI.free (fd:FD F' H):∀ (ds:List D) (xs:List V),lfL ds = true->aI K H F ds xs->aI K H F' ds xs
 | [],xs,_,h=>by unfold aI at h |-;exact h
 | d::ds,xs,l,h=>by
   unfold lfL at l;rw [aa] at l;unfold aI at h |-;obtain ⟨y,ys,e,h1,h2⟩:=h;exact ⟨y,ys,e,Rel.free fd d y l.1 h1,aI.free fd ds ys l.2 h2⟩
end
def aI.length:∀ {ds:List D} {xs:List V},aI K H F ds xs->xs.length = ds.length
 | [],xs,h=>by unfold aI at h;subst h;rfl
 | d::ds,xs,h=>by
   unfold aI at h;obtain ⟨y,ys,e,_,h2⟩:=h;subst e;rw [aB,aB,aI.length h2]
def aI.get:∀ {ds:List D} {xs:List V} {i:Nat} {d:D},aI K H F ds xs->ds[i]? = some d->∃ v,xs[i]? = some v/\Rel K H F d v
 | [],_,_,_,_,e=>by simp at e
 | d::ds,xs,i,d',h,e=>by
   unfold aI at h;obtain ⟨y,ys,q,h1,h2⟩:=h;subst q
   cases i with
   | zero=>simp at e;subst e;exact ⟨y,rfl,h1⟩
   | succ i =>
     obtain ⟨v,h3,h4⟩:=aI.get (i:=i) h2 (by simpa using e);exact ⟨v,by simpa using h3,h4⟩
def aI.append:∀ {ds es:List D} {xs ys:List V},aI K H F ds xs->aI K H F es ys->aI K H F (ds++es) (xs++ys)
 | [],es,xs,ys,h,h'=>by unfold aI at h;subst h;exact h'
 | d::ds,es,xs,ys,h,h'=>by
   unfold aI at h;obtain ⟨y,zs,q,h1,h2⟩:=h;subst q;show aI K H F (d::(ds++es)) (y::(zs++ys));unfold aI;exact ⟨y,zs++ys,rfl,h1,aI.append h2 h'⟩
def aI.one (h:Rel K H F d v):aI K H F [d] [v]:=by
 unfold aI;exact ⟨v,[],rfl,h,by unfold aI;rfl⟩
def aI.nil:aI K H F [] []:=by unfold aI;rfl
def aI.cons {d:D} {v:V} {ds:List D} {xs:List V} (h:Rel K H F d v) (t:aI K H F ds xs):aI K H F (d::ds) (v::xs):=by
 unfold aI;exact ⟨v,xs,rfl,h,t⟩
def aI.take:∀ {ds:List D} {xs:List V} (n:Nat),aI K H F ds xs->aI K H F (ds.take n) (xs.take n)
 | [],xs,n,h=>by unfold aI at h;subst h;simp;exact aI.nil
 | d::ds,xs,0,h=>by simp;exact aI.nil
 | d::ds,xs,n+1,h=>by
   unfold aI at h;obtain ⟨y,ys,q,h1,h2⟩:=h;subst q;rw [Cz,Cz];exact aI.cons h1 (aI.take n h2)
def aI.drop:∀ {ds:List D} {xs:List V} (n:Nat),aI K H F ds xs->aI K H F (ds.drop n) (xs.drop n)
 | [],xs,n,h=>by unfold aI at h;subst h;simp;exact aI.nil
 | d::ds,xs,0,h=>h
 | d::ds,xs,n+1,h=>by
   unfold aI at h;obtain ⟨y,ys,q,h1,h2⟩:=h;subst q;rw [CC,CC];exact aI.drop n h2
def aI.set {d:D} {v:V} (r:Rel K H F d v):∀ {ds:List D} {xs:List V} (n:Nat),aI K H F ds xs->aI K H F (ds.set n d) (xs.set n v)
 | [],xs,n,h=>by unfold aI at h;subst h;simp;exact aI.nil
 | e::ds,xs,0,h=>by
   unfold aI at h;obtain ⟨y,ys,q,h1,h2⟩:=h;subst q
   exact aI.cons r h2
 | e::ds,xs,n+1,h=>by
   unfold aI at h;obtain ⟨y,ys,q,h1,h2⟩:=h;subst q;exact aI.cons h1 (aI.set r n h2)
def aI.dropLast (h:aI K H F ds xs):aI K H F ds.dropLast xs.dropLast:=by
 rw [zx,zx,h.length];exact h.take _
def aI.cut (lo hi:Option Int) (h:aI K H F ds xs):aI K H F (cutD ds lo hi) (rQ xs lo hi):=by
 unfold cutD rQ;rw [h.length];exact (h.drop _).take _
end
def dF (K:PySem.W.Frag) (H:Hp) (F:aw->Prop) (d:D) (v:V):Prop:=Rel K H F d v\/∃ a xs ds,d = .lst ds/\v = .ref a/\H a = some (.lst xs)/\aI K H F ds xs
def RelM (m:Bool) (K:PySem.W.Frag) (H:Hp) (F:aw->Prop) (d:D) (v:V):Prop:=if m = true then dF K H F d v else Rel K H F d v
def RelM.b {m:Bool} {K:PySem.W.Frag} {H:Hp} {F:aw->Prop} {d:D} {v:V} (h:RelM m K H F d v):dF K H F d v:=by
 unfold RelM at h;split at h
 . exact h
 . exact .inl h
def dF.same {K:PySem.W.Frag} {G:Gh} {H H':Hp} {F F':aw->Prop} {d:D} {v:V} (fd:FD F H) (s:Step G F H F' H') (k:Sim H H') (h:dF K H F d v):dF K H' F' d v:=by
 rcases h with h | ⟨a,xs,ds,e1,e2,h1,h2⟩
 . exact .inl (Rel.step fd s d v h)
 . exact .inr ⟨a,xs,ds,e1,e2,k.nt _ _ trivial h1,aI.step fd s ds xs h2⟩
def RelM.step {m:Bool} {K:PySem.W.Frag} {G:Gh} {H H':Hp} {F F':aw->Prop} {d:D} {v:V} (fd:FD F H) (s:Step G F H F' H') (k:m = true->Sim H H') (h:RelM m K H F d v):RelM m K H' F' d v:=by
 cases m with
 | true=>exact dF.same fd s (k rfl) h
 | false=>exact Rel.step fd s d v h
def fG (K:PySem.W.Frag) (G:Gh) (F:aw->Prop) (H:Hp) (o:Option (Option V)):Sl->Prop
 | .no=>True
 | .val d=>∃ v,o = some (some v)/\Rel K H F d v
 | .own ds=>∃ a xs,o = some (some (.ref a))/\F a/\G.free a/\H a = some (.lst xs)/\aI K H F ds xs
 | .fnc k cs=>∃ a,o = some (some (.ref a))/\FnV H k cs a
def ow:Sl->Bool
 | .own _=>true
 | _=>false
structure Ok (K:PySem.W.Frag) (G:Gh) (F:aw->Prop) (σ:St) (H:Hp) (δ:Loc):Prop where
 same:Sim G.h H
 fd:FD F H
 rf:∀ b,G.R b->F b
 rl:∀ b,G.R b->∃ o,H b = some o/\Mo o
 tf:TF F
 tabs:oJ H
 len:δ.length = σ.length
 sl:∀ (i:Nat) (s:Sl),δ[i]? = some s->fG K G F H σ[i]? s
 apart:∀ (i j:Nat) (s t:Sl) (a:aw),δ[i]? = some s->δ[j]? = some t->ow s = true->ow t = true->σ[i]? = some (some (.ref a))->σ[j]? = some (some (.ref a))->i = j
section
variable {K:PySem.W.Frag} {G:Gh} {H H':Hp} {F F':aw->Prop} {σ:St} {δ:Loc}
def fG.same {o:Option (Option V)} (fd:FD F H) (k:ij H H'):∀ {s:Sl},fG K G F H o s->fG K G F H' o s
 | .no,_=>trivial
 | .val d,h=>by
   obtain ⟨v,e,h⟩:=h
   exact ⟨v,e,Rel.step (G:=G) fd (Step.of_same k) d v h⟩
 | .own ds,h=>by
   obtain ⟨a,xs,e,h1,h2,h3,h4⟩:=h
   exact ⟨a,xs,e,h1,h2,k _ _ h3,aI.step (G:=G) fd (Step.of_same k) ds xs h4⟩
 | .fnc n cs,h=>by
   obtain ⟨a,e,h⟩:=h;exact ⟨a,e,h.keep λa o z=>k _ _ z⟩
def FD.same (fd:FD F H) (k:ij H H'):FD F H':=λb h=>by
 obtain ⟨o,e,q⟩:=fd b h;exact ⟨o,k _ _ e,q⟩
def zS {P:aw->Prop} (h:∀ b,P b->∃ o,H b = some o/\Mo o) (k:ij H H'):∀ b,P b->∃ o,H' b = some o/\Mo o:=λb z=>by
 obtain ⟨o,e,q⟩:=h b z;exact ⟨o,k _ _ e,q⟩
def Ok.same' (h:Ok K G F σ H δ) (k:ij H H'):Ok K G F σ H' δ :=
 ⟨h.same.trans (.of k),h.fd.same k,h.rf,zS h.rl k,h.tf,h.tabs.keep λb o _ e=>k b o e,h.len,λi s e=>(h.sl i s e).same h.fd k,h.apart⟩
def cD (h:H p = none) (o:HO):ij H (upd H p o):=λb u q=>by rw [bP (ic q h)];exact q
def fG.less {o:Option (Option V)} (fd:FD F H) (hs:∀ b,F' b->F b):∀ {s:Sl},(∀ a,ow s = true->o = some (some (.ref a))->F' a)->fG K G F H o s->fG K G F' H o s
 | .no,_,_=>trivial
 | .val d,_,h=>by
   obtain ⟨v,e,h⟩:=h
   exact ⟨v,e,Rel.less fd hs h⟩
 | .own ds,q,h=>by
   obtain ⟨a,xs,e,h1,h2,h3,h4⟩:=h
   exact ⟨a,xs,e,q a rfl e,h2,h3,aI.less fd hs h4⟩
 | .fnc n cs,_,h=>h
inductive gL (K:PySem.W.Frag) (H:Hp) (F:aw->Prop):D->HO->Prop
 | lst {ds:List D} {xs:List V}:aI K H F ds xs->gL K H F (.lst ds) (.lst xs)
def owS:D->Sl
 | .lst ds=>.own ds
 | _=>.no
def ID {d d':D} (h:ow (owS d) = true) (e:owS d = owS d'):d = d':=by
 cases d<;>first | (cases h;done) | skip
 . cases d'<;>first | (cases e;rfl) | cases e
def gL.mo {d:D} {o:HO} (h:gL K H F d o):Mo o/\ow (owS d) = true:=by
 cases h<;>exact ⟨trivial,rfl⟩
def gL.step (fd:FD F H) (s:Step G F H F' H') {d:D} {o:HO} (h:gL K H F d o):gL K H' F' d o:=by
 cases h with
 | lst h=>exact .lst (aI.step fd s _ _ h)
def gL.sl {o:Option (Option V)} {a:aw} {d:D} {u:HO} (e:o = some (some (.ref a))) (hF:F a) (hg:G.free a) (h:H a = some u) (r:gL K H F d u):fG K G F H o (owS d):=by
 cases r with
 | lst r=>exact ⟨a,_,e,hF,hg,h,r⟩
def fG.ow {o:Option (Option V)} {s:Sl} (h:fG K G F H o s) (q:ow s = true):∃ a u d,o = some (some (.ref a))/\F a/\G.free a/\H a = some u/\gL K H F d u/\s = owS d:=by
 cases s with
 | own ds =>
   obtain ⟨a,xs,e,h1,h2,h3,h4⟩:=h
   exact ⟨a,_,.lst ds,e,h1,h2,h3,.lst h4,rfl⟩
 | _=>cases q
def fG.stay0 (fd:FD F H) (st:Step G' F H F' H') (k:∀ a u,o = some (some (.ref a))->F a->G.free a->H a = some u->F' a/\H' a = some u):∀ {s:Sl},fG K G F H o s->fG K G F' H' o s
 | .no,_=>trivial
 | .fnc n cs,h=>by
   obtain ⟨v,e,z⟩:=h
   exact ⟨v,e,z.keep (uG fd st.keep)⟩
 | .val d,h=>by
   obtain ⟨v,e,z⟩:=h
   exact ⟨v,e,Rel.step fd st d v z⟩
 | .own ds,h=>by
   obtain ⟨a,u,d,e,h1,h2,h3,h4,e5⟩:=fG.ow h rfl;rw [e5];obtain ⟨k1,k2⟩:=k a u e h1 h2 h3;exact gL.sl e k1 h2 k2 (h4.step fd st)
def fG.stay {o:Option (Option V)} (fd:FD F H) (st:Step G F H F' H') (k:∀ a u,o = some (some (.ref a))->F a->G.free a->H a = some u->F' a/\H' a = some u) {s:Sl} (h:fG K G F H o s):fG K G F' H' o s:=fG.stay0 fd st k h
def fG.free {G':Gh} {o:Option (Option V)} (k:∀ a,F a->G.free a->G'.free a):∀ {s:Sl},fG K G F H o s->fG K G' F H o s
 | .no,_=>trivial
 | .fnc n cs,h=>h
 | .val d,h=>h
 | .own ds,h=>by
   obtain ⟨a,xs,e,h1,h2,h3⟩:=h;exact ⟨a,xs,e,h1,k a h1 h2,h3⟩
def gL.rel (fd:FD F H) (hs:∀ b,F' b->F b) {a:aw} (n:¬ F' a) {d:D} {u:HO} (h:H a = some u) (r:gL K H F d u):Rel K H F' d (.ref a):=by
 cases r with
 | lst r =>
   unfold Rel;exact ⟨a,_,rfl,.inl ⟨.inl h,n⟩,aI.less fd hs r⟩
def gc {α:Type} {l:List α} {i j:Nat} {x y:α} (hi:i < l.length) (q:(l.set i x)[j]? = some y):(j = i/\y = x)\/(j≠i/\l[j]? = some y):=by
 by_cases hj:j = i
 . subst hj;rw [cV hi] at q;cases q;exact .inl ⟨rfl,rfl⟩
 . rw [bV (Ne.symm hj)] at q;exact .inr ⟨hj,q⟩
def Ok.demote (h:Ok K G F σ H δ) {i:Nat} {d:D} {a:aw} (e:δ[i]? = some (owS d)) (eo:ow (owS d) = true) (ea:σ[i]? = some (some (.ref a))) :
 Ok K G (λb=>F b/\b≠a) σ H (δ.set i (.val d))/\Rel K H (λb=>F b/\b≠a) d (.ref a):=by
 have hi:i < δ.length:=(aC.mp e).1;obtain ⟨a',u,d',e1,h1,h2,h3,h4,ed⟩:=fG.ow (h.sl i _ e) eo;rw [ea] at e1;cases e1;have ed:=ID eo ed;subst ed;have hs:∀ b,(F b/\b≠a)->F b:=λb z=>z.1;have r:Rel K H (λb=>F b/\b≠a) d (.ref a):=gL.rel h.fd hs (λz=>z.2 rfl) h3 h4
 have tf':TF λb=>F b/\b≠a:=λt ht=>⟨h.tf t ht,λw=>by
  obtain ⟨ps,e2,_⟩:=h.tabs t ht;rw [w,h3] at e2;cases e2;exact h4.mo.1⟩
 refine ⟨⟨h.same,λb z=>h.fd b z.1,λb z=>⟨h.rf b z,λw=>h2.2 (by rw [<- w];exact z)⟩,h.rl,tf',h.tabs,by rw [cA];exact h.len,λj s q=>?_,λj k s t b q1 q2 o1 o2 p1 p2=>?_⟩,r⟩
 . rcases gc hi q with ⟨rfl,rfl⟩ | ⟨hj,q⟩
   . exact ⟨.ref a,ea,r⟩
   . refine (h.sl j s q).less h.fd hs λb z zb=>?_;obtain ⟨b',u',d',e1,f1,_⟩:=fG.ow (h.sl j _ q) z;rw [zb] at e1;cases e1;exact ⟨f1,λw=>hj (h.apart j i _ _ a q e z eo (by rw [zb,w]) ea)⟩
 . rcases gc hi q1 with ⟨rfl,rfl⟩ | ⟨hj,q1⟩
   . cases o1
   . rcases gc hi q2 with ⟨rfl,rfl⟩ | ⟨hk,q2⟩
     . cases o2
     . exact h.apart j k s t b q1 q2 o1 o2 p1 p2
def Ok.set (h:Ok K G F σ H δ) {i:Nat} {d:D} {v:V} (hi:i < δ.length) (r:Rel K H F d v):Ok K G F (σ.set i (some v)) H (δ.set i (.val d)):=by
 have hi':i < σ.length:=by rw [<- h.len];exact hi
 refine ⟨h.same,h.fd,h.rf,h.rl,h.tf,h.tabs,by rw [cA,cA];exact h.len,λj s q=>?_,λj k s t b q1 q2 o1 o2 p1 p2=>?_⟩
 . rcases gc hi q with ⟨rfl,rfl⟩ | ⟨hj,q⟩
   . exact ⟨v,by rw [cV hi'],r⟩
   . rw [bV (Ne.symm hj)];exact h.sl j s q
 . rcases gc hi q1 with ⟨rfl,rfl⟩ | ⟨hj,q1⟩
   . cases o1
   . rcases gc hi q2 with ⟨rfl,rfl⟩ | ⟨hk,q2⟩
     . cases o2
     . rw [bV (Ne.symm hj)] at p1;rw [bV (Ne.symm hk)] at p2;exact h.apart j k s t b q1 q2 o1 o2 p1 p2
def Ok.ownO (h:Ok K G F σ H δ) {i:Nat} {d:D} {u:HO} {p:aw} (hi:i < δ.length) (hp:F p) (hg:G.free p) (e:H p = some u) (r:gL K H F d u)
 (hn:∀ (j:Nat) s,δ[j]? = some s->ow s = true->σ[j]?≠some (some (.ref p))):Ok K G F (σ.set i (some (.ref p))) H (δ.set i (owS d)):=by
 have hi':i < σ.length:=by rw [<- h.len];exact hi
 refine ⟨h.same,h.fd,h.rf,h.rl,h.tf,h.tabs,by rw [cA,cA];exact h.len,λj s q=>?_,λj k s t b q1 q2 o1 o2 p1 p2=>?_⟩
 . rcases gc hi q with ⟨rfl,rfl⟩ | ⟨hj,q⟩
   . exact gL.sl (by rw [cV hi']) hp hg e r
   . rw [bV (Ne.symm hj)];exact h.sl j s q
 . rcases gc hi q1 with ⟨rfl,rfl⟩ | ⟨hj,q3⟩
   . rcases gc hi q2 with ⟨rfl,rfl⟩ | ⟨hk,q2⟩
     . rfl
     . rw [cV hi'] at p1;rw [bV (Ne.symm hk)] at p2;cases p1;exact (hn k t q2 o2 p2).elim
   . rw [bV (Ne.symm hj)] at p1;rcases gc hi q2 with ⟨rfl,rfl⟩ | ⟨hk,q2⟩
     . rw [cV hi'] at p2;cases p2;exact (hn j s q3 o1 p1).elim
     . rw [bV (Ne.symm hk)] at p2;exact h.apart j k s t b q3 q2 o1 o2 p1 p2
def Ok.own (h:Ok K G F σ H δ) {i:Nat} {ds:List D} {xs:List V} {p:aw} (hi:i < δ.length) (hp:F p) (hg:G.free p) (e:H p = some (.lst xs)) (r:aI K H F ds xs)
 (hn:∀ (j:Nat) s,δ[j]? = some s->ow s = true->σ[j]?≠some (some (.ref p))):Ok K G F (σ.set i (some (.ref p))) H (δ.set i (.own ds)):=h.ownO (d:=.lst ds) hi hp hg e (.lst r) hn
def Ok.writeO (h:Ok K G F σ H δ) {i:Nat} {d d':D} {a:aw} {u:HO} (e:δ[i]? = some (owS d)) (eo:ow (owS d) = true) (ea:σ[i]? = some (some (.ref a))) (r:gL K H F d' u) :
 Ok K G F σ (upd H a u) (δ.set i (owS d'))/\Step G F H F (upd H a u):=by
 have hi:i < δ.length:=(aC.mp e).1;have e':=e;obtain ⟨a',x,d0,e1,h1,h2,h3,h4,_⟩:=fG.ow (h.sl i _ e) eo;rw [ea] at e1;cases e1
 have nt:NT x:=by
  have m:=h4.mo.1;cases x<;>first | trivial | exact m
 have st:Step G F H F (upd H a u):=⟨λb o _ q n=>by
  rw [bP (λz:b = a=>n (by rw [z];exact h1))];exact q,λb z=>.inl z,λb o r z e=>⟨z,by rw [bP (λw:b = a=>h2.2 (by rw [<- w];exact r))];exact e⟩,λb ps e=>⟨ps,by rw [bP (λw:b = a=>by rw [w,h3] at e;cases e;exact nt)];exact e⟩⟩
 have tb':oJ (upd H a u):=h.tabs.keep λb o n e=>by rw [bP (λw:b = a=>by rw [w,h3] at e;cases e;exact n h4.mo.1)];exact e
 refine ⟨⟨⟨λb o t q=>?_,λb ps q=>?_⟩,λb z=>?_,h.rf,λb z=>?_,h.tf,tb',by rw [cA];exact h.len,λj s q=>?_,λj k s t b q1 q2 o1 o2 p1 p2=>?_⟩,st⟩
 . have:=h.same.nt b o t q;rw [bP (λz:b = a=>by rw [z,h2.1] at q;cases q)];exact this
 . rw [bP (λz:b = a=>by rw [z,h2.1] at q;cases q)];exact h.same.tb b ps q
 . by_cases hb:b = a
   . subst hb;exact ⟨u,cy,.inl r.mo.1⟩
   . rw [bP hb];exact h.fd b z
 . by_cases hb:b = a
   . subst hb;exact ⟨u,cy,r.mo.1⟩
   . rw [bP hb];exact h.rl b z
 . rcases gc hi q with ⟨rfl,rfl⟩ | ⟨hj,q⟩
   . exact gL.sl ea h1 h2 cy (r.step h.fd st)
   . cases eq:ow s with
     | true =>
       refine fG.stay h.fd st (λb v e f1 f2 f3=>⟨f1,?_⟩) (h.sl j s q);rw [bP (λw:b = a=>hj (h.apart j i _ _ a q e' eq eo (by rw [e,w]) ea))]
       exact f3
     | false =>
       have z:=h.sl j s q
       cases s with
       | no=>trivial
       | fnc n cs =>
         obtain ⟨v,e,z⟩:=z
         exact ⟨v,e,z.keep (uG h.fd st.keep)⟩
       | val d =>
         obtain ⟨v,e,z⟩:=z
         exact ⟨v,e,Rel.step h.fd st d v z⟩
       | own _=>cases eq
 . have un:∀ (m:Nat) (g:Sl),(δ.set i (owS d'))[m]? = some g->ow g = true->∃ g',δ[m]? = some g'/\ow g' = true:=λm g q o=>by
    rcases gc hi q with ⟨rfl,rfl⟩ | ⟨hj,q⟩
    . exact ⟨_,e,eo⟩
    . exact ⟨g,q,o⟩
   obtain ⟨g1,q1,o1⟩:=un j _ q1 o1;obtain ⟨g2,q2,o2⟩:=un k _ q2 o2;exact h.apart j k g1 g2 b q1 q2 o1 o2 p1 p2
def Ok.write (h:Ok K G F σ H δ) (e:δ[i]? = some (.own ds)) (ea:σ[i]? = some (some (.ref a))) (r:aI K H F es ys) :
 Ok K G F σ (upd H a (.lst ys)) (δ.set i (.own es))/\Step G F H F (upd H a (.lst ys)):=h.writeO (d:=.lst ds) (d':=.lst es) e rfl ea (.lst r)
def Mo.nt {o:HO} (m:Mo o):NT o:=by
 cases o<;>first | trivial | exact m
def Step.of_sim (rl:∀ b,G.R b->∃ o,H b = some o/\Mo o) (k:Sim H H'):Step G F H F H':=⟨λb o t e _=>k.nt b o t e,λb z=>.inl z,λb o r f e=>⟨f,by
 obtain ⟨u,e2,m⟩:=rl b r;rw [e] at e2;cases e2;exact k.nt b _ m.nt e⟩,k.tb⟩
def Ok.call (h:Ok K G F σ H δ) (k:Sim H H') (t:oJ H'):Ok K G F σ H' δ/\Step G F H F H':=by
 have st:Step G F H F H':=Step.of_sim h.rl k;refine ⟨⟨h.same.trans k,λb z=>?_,h.rf,λb z=>?_,h.tf,t,h.len,λi s e=>?_,h.apart⟩,st⟩
 . obtain ⟨o,e,m⟩:=h.fd b z;rcases m with m | ⟨⟨ps,rfl⟩,t⟩
   . exact ⟨o,k.nt _ _ m.nt e,.inl m⟩
   . obtain ⟨qs,e⟩:=k.tb b ps e;exact ⟨_,e,.inr ⟨⟨qs,rfl⟩,t⟩⟩
 . obtain ⟨o,e,m⟩:=h.rl b z;exact ⟨o,k.nt _ _ m.nt e,m⟩
 . cases eq:ow s with
   | true =>
     obtain ⟨_,_,_,_,_,_,h3,h4,_⟩:=fG.ow (h.sl i s e) eq;refine fG.stay h.fd st (λb v e2 f1 f2 f3=>⟨f1,?_⟩) (h.sl i s e);obtain ⟨o,e3,m⟩:=h.fd b f1;rw [f3] at e3;cases e3;rcases m with m | ⟨⟨ps,rfl⟩,t,ht,eb⟩
     . exact k.nt _ _ m.nt f3
     . exfalso;obtain ⟨c,w,d,e5,_,_,e7,r7,_⟩:=fG.ow (h.sl i s e) eq;rw [e2] at e5;cases e5;rw [f3] at e7;cases e7
       exact r7.mo.1
   | false =>
     have q:=h.sl i s e
     cases s with
     | no=>trivial
     | fnc n cs =>
       obtain ⟨v,e,r⟩:=q
       exact ⟨v,e,r.keep (uG h.fd st.keep)⟩
     | val d =>
       obtain ⟨v,e,r⟩:=q
       exact ⟨v,e,Rel.step h.fd st d v r⟩
     | own _=>cases eq
end
end PP
end
section
namespace PP
open PySem L2 PyProof.Rows PySem.SeqAt
variable [Tbs]
def BY (xs:List (Array Nat)):∀ a:Array Nat,(xs.foldl (·++·) a).toList = a.toList++(xs.map (·.toList)).flatten:=by
 induction xs with
 | nil=>intro a;simp
 | cons x r ih=>intro a;rw [iZ,ih];simp
def IU (x:Str) (n:Int) (h:0<=n):Txt.mul x n = HZ x n.toNat:=by
 unfold Txt.mul HZ;by_cases h1:n < 1
 . have:n = 0:=by lia
   subst this;rfl
 . rw [if_neg h1];by_cases h2:(n == 1 || x.length == 0) = true
   . rw [if_pos h2];rw [dT] at h2;rcases h2 with h2 | h2
     . have:n = 1:=by simpa using h2
       subst this;simp
     . have e:x.cps = #[]:=by
        have:x.cps.size = 0:=by simpa [Str.length] using h2
        exact Array.eq_empty_of_size_eq_zero this
       cases x;simp at e;subst e;simp
   . rw [if_neg h2];congr 1;apply Array.ext';rw [BY];simp
def IE:OpR X (binaryOp .Mult) (λx y H Q=>∃ i n,x = .str i/\y = .int n/\(0<=n/\n<=1000/\i.length<=1000)/\Q (.str (HZ i n.toNat)) H):=by
 intro pins s σ H x y v u Q I rx ry h;obtain ⟨i,n,rfl,rfl,⟨h1,h2,h3⟩,q⟩:=h;obtain ⟨t,rfl⟩:=rx;obtain ⟨t',rfl⟩:=ry;refine SB.mul ⟨?_,λa _ b=>?_,λa _=>?_⟩ λt' k=>?_
 . simp;lia
 . have:(1000:Int)<=(2 ^ 63 - 1) / n:=by rw [Int.le_ediv_iff_mul_le ∅];lia
   lia
 . have:i.length * n.toNat<=1000 * 1000:=Nat.mul_le_mul h3 ∅;have z:=cF;unfold Builtin.Str.tooLong;simp
   lia
 . rw [IU i n h1];exact ⟨.str _,H,I.tok _,⟨_,rfl⟩,q⟩
mutual
noncomputable def RdV (h:cb):D->ae->Prop
 | .non,u=>u = .none
 | .bl b,u=>u = .bool b
 | .int i,u=>∃ t,u = .int i t
 | .str x,u=>∃ t,u = .str x t
 | .lst ds,u=>∃ a its,u = .ref a/\h.IsList a its/\RdL h ds its.toList
 | .tup ds,u=>∃ a its,u = .ref a/\h.IsTuple a its/\RdL h ds its.toList
 | .fn _ _,_=>False
noncomputable def RdL (h:cb):List D->List ae->Prop
 | [],us=>us = []
 | d::ds,us=>∃ w ws,us = w::ws/\RdV h d w/\RdL h ds ws
end
mutual
theorem Ef (I:Inv X pins σ H s):∀ (d:D) (v:V) (u:ae),Rel X.K H F d v->RelV v u->dep d < 100000->RdV s.heap d u
 | .non,v,u,h,r,_=>by unfold Rel at h;subst h;unfold RdV;exact r
 | .bl b,v,u,h,r,_=>by unfold Rel at h;subst h;unfold RdV;exact r
 | .int b,v,u,h,r,_=>by unfold Rel at h;subst h;unfold RdV;exact r
 | .str b,v,u,h,r,_=>by unfold Rel at h;subst h;unfold RdV;exact r
 | .lst ds,v,u,h,r,hd=>by
   unfold dep at hd;unfold Rel at h;obtain ⟨a,xs,e,h1,h3⟩:=h;subst e;cases (show u = kq a from r);obtain ⟨its,rv,p,hz⟩:=I.list h1.sq;unfold RdV
   exact ⟨a,its.toArray,rfl,p.isList,mq I ds xs its h3 rv ∅⟩
 | .tup ds,v,u,h,r,hd=>by
   unfold dep at hd;unfold Rel at h;obtain ⟨a,xs,e,h1,h3⟩:=h;subst e;cases (show u = kq a from r);obtain ⟨its,rv,p,hz⟩:=I.tuple h1;unfold RdV
   exact ⟨a,its.toArray,rfl,p,mq I ds xs its h3 rv ∅⟩
 | .fn _ _,v,u,h,r,_=>by unfold Rel at h;exact h.elim
theorem mq (I:Inv X pins σ H s):∀ (ds:List D) (xs:List V) (us:List ae),aI X.K H F ds xs->Vals xs us->cJ ds < 100000->RdL s.heap ds us
 | [],xs,us,h,r,_=>by unfold aI at h;subst h;cases r;unfold RdL;rfl
 | d::ds,xs,us,h,r,hd=>by
   unfold cJ at hd;unfold aI at h;obtain ⟨y,ys,e,h1,h2⟩:=h;subst e
   cases r with
   | cons r1 r2 =>
     unfold RdL;exact ⟨_,_,rfl,Ef I d y _ h1 r1 ∅,mq I ds ys _ h2 r2 ∅⟩
end
def fK (I:Inv X pins σ H s) (h:dF X.K H F d v) (r:RelV v u) (hd:dep d < 100000):RdV s.heap d u:=by
 rcases h with h | ⟨a,xs,ds,rfl,rfl,h1,h2⟩
 . exact Ef I d v u h r hd
 . cases (show u = kq a from r);obtain ⟨its,rv,p,hz⟩:=I.list (.inl (.inl h1));unfold RdV;unfold dep at hd;exact ⟨a,its.toArray,rfl,p.isList,mq I ds xs its h2 rv ∅⟩
mutual
theorem RdV.inj:∀ (d e:D) (u:ae),RdV h d u->RdV h e u->d = e
 | .non,e,u,a,b=>by
   unfold RdV at a;subst a
   cases e<;>unfold RdV at b<;>first | rfl | (obtain ⟨_,_,b,_⟩:=b;cases b;done) | (obtain ⟨_,b⟩:=b;cases b;done) | (cases b;done)
 | .bl x,e,u,a,b=>by
   unfold RdV at a;subst a
   cases e<;>unfold RdV at b<;>first | (cases b;rfl) | (obtain ⟨_,_,b,_⟩:=b;cases b;done) | (obtain ⟨_,b⟩:=b;cases b;done) | (cases b;done)
 | .int x,e,u,a,b=>by
   unfold RdV at a;obtain ⟨t,a⟩:=a;subst a
   cases e<;>unfold RdV at b<;>first | (obtain ⟨_,_,b,_⟩:=b;cases b;done) | (obtain ⟨_,b⟩:=b;cases b;rfl) | (obtain ⟨_,b⟩:=b;cases b;done) | (cases b;done)
 | .str x,e,u,a,b=>by
   unfold RdV at a;obtain ⟨t,a⟩:=a;subst a
   cases e<;>unfold RdV at b<;>first | (obtain ⟨_,_,b,_⟩:=b;cases b;done) | (obtain ⟨_,b⟩:=b;cases b;rfl) | (obtain ⟨_,b⟩:=b;cases b;done) | (cases b;done)
 | .lst ds,e,u,a,b=>by
   unfold RdV at a;obtain ⟨l,its,a,h1,h2⟩:=a;subst a
   cases e with
   | lst es =>
     unfold RdV at b;obtain ⟨l',its',b,k1,k2⟩:=b;cases b;obtain ⟨o,g1,g2,n,g3⟩:=h1;obtain ⟨o',f1,f2,n',f3⟩:=k1;rw [g1] at f1;cases f1;rw [g3] at f3;cases f3
     rw [RdL.inj ds es _ h2 k2]
   | tup es =>
     unfold RdV at b;obtain ⟨l',its',b,k1,k2⟩:=b;cases b;obtain ⟨o,g1,g2,_⟩:=h1;obtain ⟨o',f1,f2,_⟩:=k1;rw [g1] at f1;cases f1
     rw [g2] at f2;injection f2 with f2;exact absurd f2 ⇑0
   | _=>unfold RdV at b;first | (obtain ⟨_,b⟩:=b;cases b) | cases b
 | .tup ds,e,u,a,b=>by
   unfold RdV at a;obtain ⟨l,its,a,h1,h2⟩:=a;subst a
   cases e with
   | tup es =>
     unfold RdV at b;obtain ⟨l',its',b,k1,k2⟩:=b;cases b;obtain ⟨o,g1,g2,n,g3⟩:=h1;obtain ⟨o',f1,f2,n',f3⟩:=k1;rw [g1] at f1;cases f1;rw [g3] at f3;cases f3
     rw [RdL.inj ds es _ h2 k2]
   | lst es =>
     unfold RdV at b;obtain ⟨l',its',b,k1,k2⟩:=b;cases b;obtain ⟨o,g1,g2,_⟩:=h1;obtain ⟨o',f1,f2,_⟩:=k1;rw [g1] at f1;cases f1
     rw [g2] at f2;injection f2 with f2;exact absurd f2 ⇑0
   | _=>unfold RdV at b;first | (obtain ⟨_,b⟩:=b;cases b) | cases b
 | .fn _ _,e,u,a,b=>by unfold RdV at a;exact a.elim
theorem RdL.inj:∀ (ds es:List D) (us:List ae),RdL h ds us->RdL h es us->ds = es
 | [],es,us,a,b=>by
   unfold RdL at a;subst a
   cases es with
   | nil=>rfl
   | cons e es=>unfold RdL at b;obtain ⟨_,_,b,_⟩:=b;cases b
 | d::ds,es,us,a,b=>by
   unfold RdL at a;obtain ⟨w,ws,a,h1,h2⟩:=a;subst a
   cases es with
   | nil=>unfold RdL at b;cases b
   | cons e es =>
     unfold RdL at b;obtain ⟨_,_,b,k1,k2⟩:=b;cases b;rw [RdV.inj d e w h1 k1,RdL.inj ds es ws h2 k2]
end
mutual
theorem kX:∀ d:D,dep d < 100000->eqD d d = true
 | .non,_=>by unfold eqD;rfl
 | .bl b,_=>by unfold eqD;simp
 | .int b,_=>by unfold eqD;simp
 | .str b,_=>by unfold eqD;simp
 | .lst ds,h=>by unfold eqD;exact oC ds (by unfold dep at h;lia)
 | .tup ds,h=>by unfold eqD;exact oC ds (by unfold dep at h;lia)
 | .fn _ _,h=>by unfold dep at h;lia
theorem oC:∀ ds:List D,cJ ds < 100000->gx ds ds = true
 | [],_=>by unfold gx;rfl
 | d::ds,h=>by
   unfold cJ at h;unfold gx;rw [kX d ∅,oC ds ∅];rfl
end
def pairD (ds es:List D) (j:Nat):Bool:=match ds[j]?,es[j]? with
 | some x,some y=>eqD x y
 | _,_=>false
def lD:∀ (ds es:List D),(cc (min ds.length es.length)).all (pairD ds es) = true/\ds.length = es.length↔gx ds es = true
 | [],[]=>by unfold gx;simp
 | [],_::_=>by unfold gx;simp
 | _::_,[]=>by unfold gx;simp
 | d::ds,e::es=>by
   have ih:=lD ds es;have e1:min (d::ds).length (e::es).length = min ds.length es.length+1:=by simp only [aB];lia
   rw [e1,List.range_succ_eq_map,nQ,List.all_map];have e2:(pairD (d::ds) (e::es) ∘ Nat.succ) = pairD ds es:=by funext j;simp [pairD]
   rw [e2];unfold gx;rw [aa,aa,<- ih];have e3:pairD (d::ds) (e::es) 0 = eqD d e:=rfl;rw [e3];simp only [aB];constructor
   . rintro ⟨⟨a,b⟩,c⟩;exact ⟨a,b,∅⟩
   . rintro ⟨a,b,c⟩;exact ⟨⟨a,b⟩,∅⟩
def qS (h:ds.length = es.length):(cc ds.length).all (pairD ds es) = gx ds es:=by
 have q:=lD ds es;rw [<- h,zu] at q;rw [gA];rw [<- q];simp
def uM (h:ds.length≠es.length):gx ds es = false:=by
 have q:=lD ds es;rw [Bool.eq_false_iff];intro z;exact h (q.mpr z).2
def oE (ds es:List D):((cc (min ds.length es.length)).all (pairD ds es) && ds.length == es.length) = gx ds es:=by
 have q:=lD ds es;rw [gA,aa,<- q];simp
def RdL.length:∀ {ds:List D} {us:List ae},RdL h ds us->us.length = ds.length
 | [],us,a=>by unfold RdL at a;subst a;rfl
 | d::ds,us,a=>by
   unfold RdL at a;obtain ⟨w,ws,a,_,h2⟩:=a;subst a;rw [aB,aB,RdL.length h2]
def mm1 (a b c d:Nat):min a c<=min (max a b) (max c d):=Nat.le_min.mpr ⟨bj (JY _ _) (se _ _),bj (rz _ _) (se _ _)⟩
def mm2 (a b c d:Nat):min b d<=min (max a b) (max c d):=Nat.le_min.mpr ⟨bj (JY _ _) (rD _ _),bj (rz _ _) (rD _ _)⟩
mutual
theorem uN:∀ (a b:D) (A:aW) (s:ai) (u v:ae),RdV s.heap a u->RdV s.heap b v->A.units+min (dep a) (dep b) < cLine->EqAt A s u v (eqD a b)
 | .non,b,A,s,u,v,ra,rb,hu=>by
   unfold RdV at ra;subst ra
   cases b with
   | non=>unfold RdV at rb;subst rb;unfold eqD;exact Hj _
   | bl b=>unfold RdV at rb;subst rb;unfold eqD;exact EqAt.none_bool b
   | int b=>unfold RdV at rb;obtain ⟨t,rfl⟩:=rb;unfold eqD;exact EqAt.none_int b t
   | str b=>unfold RdV at rb;obtain ⟨t,rfl⟩:=rb;unfold eqD;exact EqAt.none_str b t
   | lst ds=>unfold RdV at rb;obtain ⟨l,its,rfl,h1,h2⟩:=rb;unfold eqD;exact EqAt.none_list h1 ∅
   | tup ds=>unfold RdV at rb;obtain ⟨l,its,rfl,h1,h2⟩:=rb;unfold eqD;exact EqAt.none_tuple h1 ∅
   | fn _ _=>unfold RdV at rb;exact rb.elim
 | .bl a,b,A,s,u,v,ra,rb,hu=>by
   unfold RdV at ra;subst ra
   cases b with
   | non=>unfold RdV at rb;subst rb;unfold eqD;exact EqAt.bool_none a
   | bl b=>unfold RdV at rb;subst rb;unfold eqD;exact EqAt.bool_bool a b
   | int b=>unfold RdV at rb;obtain ⟨t,rfl⟩:=rb;unfold eqD;exact EqAt.bool_int a b t
   | str b=>unfold RdV at rb;obtain ⟨t,rfl⟩:=rb;unfold eqD;exact EqAt.bool_str a b t
   | lst ds=>unfold RdV at rb;obtain ⟨l,its,rfl,h1,h2⟩:=rb;unfold eqD;exact EqAt.bool_list a h1 ∅
   | tup ds=>unfold RdV at rb;obtain ⟨l,its,rfl,h1,h2⟩:=rb;unfold eqD;exact EqAt.bool_tuple a h1 ∅
   | fn _ _=>unfold RdV at rb;exact rb.elim
 | .int a,b,A,s,u,v,ra,rb,hu=>by
   unfold RdV at ra;obtain ⟨t',rfl⟩:=ra
   cases b with
   | non=>unfold RdV at rb;subst rb;unfold eqD;exact EqAt.int_none a t'
   | bl b=>unfold RdV at rb;subst rb;unfold eqD;exact EqAt.int_bool a t' b
   | int b=>unfold RdV at rb;obtain ⟨t,rfl⟩:=rb;unfold eqD;exact EqAt.int_int a t' b t
   | str b=>unfold RdV at rb;obtain ⟨t,rfl⟩:=rb;unfold eqD;exact EqAt.int_str a t' b t
   | lst ds=>unfold RdV at rb;obtain ⟨l,its,rfl,h1,h2⟩:=rb;unfold eqD;exact EqAt.int_list a t' h1 ∅
   | tup ds=>unfold RdV at rb;obtain ⟨l,its,rfl,h1,h2⟩:=rb;unfold eqD;exact EqAt.int_tuple a t' h1 ∅
   | fn _ _=>unfold RdV at rb;exact rb.elim
 | .str a,b,A,s,u,v,ra,rb,hu=>by
   unfold RdV at ra;obtain ⟨t',rfl⟩:=ra
   cases b with
   | non=>unfold RdV at rb;subst rb;unfold eqD;exact EqAt.str_none a t'
   | bl b=>unfold RdV at rb;subst rb;unfold eqD;exact EqAt.str_bool a t' b
   | int b=>unfold RdV at rb;obtain ⟨t,rfl⟩:=rb;unfold eqD;exact EqAt.str_int a t' b t
   | str b=>unfold RdV at rb;obtain ⟨t,rfl⟩:=rb;unfold eqD;exact EqAt.str_str a t' b t
   | lst ds=>unfold RdV at rb;obtain ⟨l,its,rfl,h1,h2⟩:=rb;unfold eqD;exact EqAt.str_list a t' h1 ∅
   | tup ds=>unfold RdV at rb;obtain ⟨l,its,rfl,h1,h2⟩:=rb;unfold eqD;exact EqAt.str_tuple a t' h1 ∅
   | fn _ _=>unfold RdV at rb;exact rb.elim
 | .lst ds,b,A,s,u,v,ra,rb,hu=>by
   have ra':=ra;unfold RdV at ra;obtain ⟨l,its,rfl,h1,h2⟩:=ra
   cases b with
   | non=>unfold RdV at rb;subst rb;unfold eqD;exact EqAt.list_none h1 ∅
   | bl b=>unfold RdV at rb;subst rb;unfold eqD;exact EqAt.list_bool b h1 ∅
   | int b=>unfold RdV at rb;obtain ⟨t,rfl⟩:=rb;unfold eqD;exact EqAt.list_int b t h1 ∅
   | str b=>unfold RdV at rb;obtain ⟨t,rfl⟩:=rb;unfold eqD;exact EqAt.list_str b t h1 ∅
   | tup es=>unfold RdV at rb;obtain ⟨l',its',rfl,k1,k2⟩:=rb;unfold eqD;exact EqAt.list_tuple h1 k1 ∅
   | lst es =>
     have rb':=rb;unfold RdV at rb;obtain ⟨l',its',rfl,k1,k2⟩:=rb;by_cases hl:l = l'
     . subst hl;have e:=RdV.inj _ _ _ ra' rb';cases e;have hd:dep (.lst ds) < 100000:=by rw [zu] at hu;have:cLine = 9900:=rfl;lia
       rw [kX _ hd];exact Hj _
     . unfold eqD;have n1:its.size = ds.length:=by simpa using h2.length
       have n2:its'.size = es.length:=by simpa using k2.length
       have he:∀ j (j1:j < its.size) (j2:j < its'.size),EqAt A.in1 s its[j] its'[j] (pairD ds es j):=λj j1 j2=>by
        have q:=kh ds es A.in1 s its.toList its'.toList h2 k2 (by show A.units+1+_ < _;unfold dep at hu;lia) j (by simpa using j1) (by simpa using j2);simpa using q
       refine EqAt.of_refs hl ?_;by_cases hsz:its.size = its'.size
       . rw [<- qS (by lia:ds.length = es.length),<- n1];exact RcAt.lists h1 k1 hsz ∅ he
       . rw [uM (by lia:ds.length≠es.length)]
         exact RcAt.lists_lengths h1 k1 (by simpa using hsz) ∅
   | fn _ _=>unfold RdV at rb;exact rb.elim
 | .tup ds,b,A,s,u,v,ra,rb,hu=>by
   have ra':=ra;unfold RdV at ra;obtain ⟨l,its,rfl,h1,h2⟩:=ra
   cases b with
   | non=>unfold RdV at rb;subst rb;unfold eqD;exact EqAt.tuple_none h1 ∅
   | bl b=>unfold RdV at rb;subst rb;unfold eqD;exact EqAt.tuple_bool b h1 ∅
   | int b=>unfold RdV at rb;obtain ⟨t,rfl⟩:=rb;unfold eqD;exact EqAt.tuple_int b t h1 ∅
   | str b=>unfold RdV at rb;obtain ⟨t,rfl⟩:=rb;unfold eqD;exact EqAt.tuple_str b t h1 ∅
   | lst es=>unfold RdV at rb;obtain ⟨l',its',rfl,k1,k2⟩:=rb;unfold eqD;exact EqAt.tuple_list h1 k1 ∅
   | tup es =>
     have rb':=rb;unfold RdV at rb;obtain ⟨l',its',rfl,k1,k2⟩:=rb;by_cases hl:l = l'
     . subst hl;have e:=RdV.inj _ _ _ ra' rb';cases e;have hd:dep (.tup ds) < 100000:=by rw [zu] at hu;have:cLine = 9900:=rfl;lia
       rw [kX _ hd];exact Hj _
     . unfold eqD;have n1:its.size = ds.length:=by simpa using h2.length
       have n2:its'.size = es.length:=by simpa using k2.length
       have he:∀ j (j1:j < its.size) (j2:j < its'.size),EqAt A.in1 s its[j] its'[j] (pairD ds es j):=λj j1 j2=>by
        have q:=kh ds es A.in1 s its.toList its'.toList h2 k2 (by show A.units+1+_ < _;unfold dep at hu;lia) j (by simpa using j1) (by simpa using j2);simpa using q
       refine EqAt.of_refs hl ?_;rw [<- oE,<- n1,<- n2]
       exact RcAt.tuples h1 k1 ∅ he
   | fn _ _=>unfold RdV at rb;exact rb.elim
 | .fn _ _,b,A,s,u,v,ra,rb,hu=>by unfold RdV at ra;exact ra.elim
theorem kh:∀ (ds es:List D) (A:aW) (s:ai) (us vs:List ae),RdL s.heap ds us->RdL s.heap es vs->A.units+min (cJ ds) (cJ es) < cLine->∀ j (h1:j < us.length) (h2:j < vs.length),EqAt A s us[j] vs[j] (pairD ds es j)
 | [],_,_,_,us,_,ra,_,_,j,h1,_=>by unfold RdL at ra;subst ra;exact absurd h1 (JX _)
 | _::_,[],_,_,_,vs,_,rb,_,j,_,h2=>by unfold RdL at rb;subst rb;exact absurd h2 (JX _)
 | d::ds,e::es,A,s,us,vs,ra,rb,hu,j,h1,h2=>by
   unfold RdL at ra rb;obtain ⟨w,ws,rfl,a1,a2⟩:=ra;obtain ⟨w',ws',rfl,b1,b2⟩:=rb;unfold cJ at hu
   cases j with
   | zero=>exact uN d e A s w w' a1 b1 (ff (gj (mm1 _ _ _ _) _) hu)
   | succ j =>
     have q:=kh ds es A s ws ws' a2 b2 (ff (gj (mm2 _ _ _ _) _) hu) j (by simpa using h1) (by simpa using h2);simpa [pairD] using q
end
def AN (h:i.natAbs < 2 ^ 200):tJ i<=2 ^ 20:=by
 unfold tJ;split
 . exact bO _
 . rename_i h0;have:i.natAbs.log2 < 200:=(Nat.log2_lt (by simpa using h0)).mpr h;have:(200:Nat)<=2 ^ 20:=by decide
   lia
def IV (h:kS i j = true):IntMulOk i j:=by
 unfold kS at h;simp only [dT,aa,decide_eq_true_eq] at h;rcases h with (h | h) | h
 . exact .of_left (intBits_le_64 h.1 h.2)
 . exact .of_right (intBits_le_64 h.1 h.2)
 . exact .of_bits (AN h.1) (AN h.2)
def IF:OpR X (binaryOp .Mult) (rI IntMulOk λi j=>.int (i * j)):=opI λ_ _ _ _ _ _ _ hc q=>PyProof.Rows.mul_int q hc
def EG:OpR X (binaryOp .FloorDiv) (rI (λ_ j=>0 < j/\j < 1000000000000000000000000000000000000000000000000000000000000) λi j=>.int (i / j)):=opI λi j _ _ _ _ _ hc q=>by
 have h1:(0:Int) < j:=hc.1;have h2:j < 1000000000000000000000000000000000000000000000000000000000000:=hc.2;refine PyProof.Rows.floordiv_int ∅ (by rw [vq i ∅];exact q) (.inl (PyProof.noPylong_of_log2 ?_));exact Nat.lt_trans ((Nat.log2_lt (k:=200) ∅).mpr (bz (show j.natAbs < 1000000000000000000000000000000000000000000000000000000000000 by lia) ⇑0)) ⇑0
section
variable {X:Cx}
def LK (hu:X.A.units+200 < cLine):OpR X (compareOp .Eq) (λx y H Q=>∃ F a b,dF X.K H F a x/\dF X.K H F b y/\ky a b = true/\Q (.bl (eqD a b)) H):=by
 intro pins s σ H x y v u Q I rx ry h;obtain ⟨F,a,b,ha,hb,hk,q⟩:=h;unfold ky at hk;rw [aa,aa] at hk;obtain ⟨⟨hk,hd⟩,hm⟩:=hk;replace hd:=of_decide_eq_true hd;replace hm:=of_decide_eq_true hm;have ra:=fK I ha rx ∅;have rb:=fK I hb ry ∅;have fin:∀ k:Bool,k = eqD a b->EP X pins σ Q (.bool k) s:=λk e=>⟨.bl k,H,I,rfl,by rw [e];exact q⟩
 cases a<;>cases b<;>first
  | (exact absurd (show false = true from hk) aj)
  | skip
 . unfold RdV at ra rb;subst ra;subst rb;exact RcAt.bool_bool _ _ _ _ _ _ (fin _ (by unfold eqD;rfl))
 . unfold RdV at ra rb;obtain ⟨t,rfl⟩:=ra;obtain ⟨t',rfl⟩:=rb;exact RcAt.int_int _ _ _ _ _ _ _ _ (fin _ (by unfold eqD;rfl))
 . unfold RdV at ra rb;obtain ⟨t,rfl⟩:=ra;obtain ⟨t',rfl⟩:=rb;exact RcAt.str_str _ _ _ _ _ _ _ _ (fin _ (by unfold eqD;rfl))
 . rename_i ds es;unfold RdV at ra rb;obtain ⟨l,its,rfl,h1,h2⟩:=ra;obtain ⟨l',its',rfl,k1,k2⟩:=rb;have n1:its.size = ds.length:=by simpa using h2.length
   have n2:its'.size = es.length:=by simpa using k2.length
   have he:∀ j (j1:j < its.size) (j2:j < its'.size),EqAt X.A.in1 s its[j] its'[j] (pairD ds es j):=λj j1 j2=>by
    have q:=kh ds es X.A.in1 s its.toList its'.toList h2 k2 (by show X.A.units+1+_ < _;unfold dep at hd;lia) j (by simpa using j1) (by simpa using j2);simpa using q
   by_cases hsz:its.size = its'.size
   . refine eq_listAt h1 k1 hsz ∅ he (fin _ ?_);unfold eqD;rw [n1];exact qS ∅
   . refine eq_list_lengthsAt h1 k1 (by simpa using hsz) ∅ (fin _ ?_);unfold eqD;exact (uM ∅).symm
 . rename_i ds es;unfold RdV at ra rb;obtain ⟨l,its,rfl,h1,h2⟩:=ra;obtain ⟨l',its',rfl,k1,k2⟩:=rb;have n1:its.size = ds.length:=by simpa using h2.length
   have n2:its'.size = es.length:=by simpa using k2.length
   have he:∀ j (j1:j < its.size) (j2:j < its'.size),EqAt X.A.in1 s its[j] its'[j] (pairD ds es j):=λj j1 j2=>by
    have q:=kh ds es X.A.in1 s its.toList its'.toList h2 k2 (by show X.A.units+1+_ < _;unfold dep at hd;lia) j (by simpa using j1) (by simpa using j2);simpa using q
   refine eq_tupleAt h1 k1 ∅ he (fin _ ?_);unfold eqD;rw [n1,n2];exact oE ds es
def LG (hu:X.A.units+200 < cLine):OpR X (compareOp .NotEq) (λx y H Q=>∃ F a b,dF X.K H F a x/\dF X.K H F b y/\ky a b = true/\Q (.bl (!eqD a b)) H):=by
 intro pins s σ H x y v u Q I rx ry h;obtain ⟨F,a,b,ha,hb,hk,q⟩:=h;unfold ky at hk;rw [aa,aa] at hk;obtain ⟨⟨hk,hd⟩,hm⟩:=hk;replace hd:=of_decide_eq_true hd;replace hm:=of_decide_eq_true hm;have ra:=fK I ha rx ∅;have rb:=fK I hb ry ∅;have fin:∀ k:Bool,k = (!eqD a b)->EP X pins σ Q (.bool k) s:=λk e=>⟨.bl k,H,I,rfl,by rw [e];exact q⟩
 cases a<;>cases b<;>first
  | (exact absurd (show false = true from hk) aj)
  | skip
 . unfold RdV at ra rb;subst ra;subst rb;exact RcNeAt.bool_bool _ _ _ _ _ _ (fin _ (by unfold eqD;rfl))
 . unfold RdV at ra rb;obtain ⟨t,rfl⟩:=ra;obtain ⟨t',rfl⟩:=rb;exact RcNeAt.int_int _ _ _ _ _ _ _ _ (fin _ (by unfold eqD;rfl))
 . unfold RdV at ra rb;obtain ⟨t,rfl⟩:=ra;obtain ⟨t',rfl⟩:=rb;exact RcNeAt.str_str _ _ _ _ _ _ _ _ (fin _ (by unfold eqD;rfl))
 . rename_i ds es;unfold RdV at ra rb;obtain ⟨l,its,rfl,h1,h2⟩:=ra;obtain ⟨l',its',rfl,k1,k2⟩:=rb;have n1:its.size = ds.length:=by simpa using h2.length
   have n2:its'.size = es.length:=by simpa using k2.length
   have he:∀ j (j1:j < its.size) (j2:j < its'.size),EqAt X.A.in1 s its[j] its'[j] (pairD ds es j):=λj j1 j2=>by
    have q:=kh ds es X.A.in1 s its.toList its'.toList h2 k2 (by show X.A.units+1+_ < _;unfold dep at hd;lia) j (by simpa using j1) (by simpa using j2);simpa using q
   by_cases hsz:its.size = its'.size
   . refine RcNeAt.lists h1 k1 hsz ∅ he _ _ _ _ (fin _ ?_);unfold eqD;rw [n1,qS ∅]
   . refine RcNeAt.lists_lengths h1 k1 (by simpa using hsz) ∅ _ _ _ _ (fin _ ?_);unfold eqD;rw [uM ∅];rfl
 . rename_i ds es;unfold RdV at ra rb;obtain ⟨l,its,rfl,h1,h2⟩:=ra;obtain ⟨l',its',rfl,k1,k2⟩:=rb;have n1:its.size = ds.length:=by simpa using h2.length
   have n2:its'.size = es.length:=by simpa using k2.length
   have he:∀ j (j1:j < its.size) (j2:j < its'.size),EqAt X.A.in1 s its[j] its'[j] (pairD ds es j):=λj j1 j2=>by
    have q:=kh ds es X.A.in1 s its.toList its'.toList h2 k2 (by show X.A.units+1+_ < _;unfold dep at hd;lia) j (by simpa using j1) (by simpa using j2);simpa using q
   refine RcNeAt.tuples h1 k1 ∅ he _ _ _ _ (fin _ ?_);unfold eqD;rw [n1,n2,oE ds es]
open Classical in
def isEq (h:cb) (a:D) (u:ae):Bool:=if ∃ d,RdV h d u/\eqD d a = true then true else false
def Au (r:RdV h d u):isEq h a u = eqD d a:=by
 unfold isEq
 cases e:eqD d a with
 | true=>rw [if_pos ⟨d,r,e⟩]
 | false =>
   rw [if_neg];rintro ⟨d',r',e'⟩;rw [RdV.inj d d' u r r',e'] at e;cases e
def lg:∀ {ds:List D} {us:List ae},RdL h ds us->us.any (isEq h a) = ds.any λd=>eqD d a
 | [],us,r=>by unfold RdL at r;subst r;rfl
 | d::ds,us,r=>by
   unfold RdL at r;obtain ⟨w,ws,rfl,h1,h2⟩:=r;rw [iJ,iJ,Au h1,lg h2]
def kT (rv:RdV s.heap a v) (hu:A.units+dep a < cLine):∀ {ds:List D} {us:List ae},RdL s.heap ds us->∀ u∈us,EqAt A s u v (isEq s.heap a u)
 | [],us,r=>λu hm=>by unfold RdL at r;subst r;cases hm
 | d::ds,us,r=>λu hm=>by
   unfold RdL at r;obtain ⟨w,ws,rfl,h1,h2⟩:=r;rcases aQ.mp hm with rfl | hm
   . rw [Au h1];exact uN d a A s u v h1 rv ∅
   . exact kT rv hu h2 u hm
def LJ (hu:X.A.units+200 < cLine):OpR X (compareOp .In) (λx y H Q=>∃ F a ds,dF X.K H F a x/\(dF X.K H F (.lst ds) y\/dF X.K H F (.tup ds) y)/\(dep a<=150/\cJ ds < 99999)/\Q (.bl (ds.any λd=>eqD d a)) H):=by
 intro pins s σ H x y v u Q I rx ry h;obtain ⟨F,a,ds,ha,hb,⟨hd,hm⟩,q⟩:=h;have ra:=fK I ha rx ∅;have fin:∀ k:Bool,k = (ds.any λd=>eqD d a)->EP X pins σ Q (.bool k) s:=λk e=>⟨.bl k,H,I,rfl,by rw [e];exact q⟩;rcases hb with hb | hb
 . have rb:=fK I hb ry (by unfold dep;lia);unfold RdV at rb;obtain ⟨l',its',rfl,k1,k2⟩:=rb;refine in_listAt (isEq s.heap a) k1 (λw hw=>kT ra (by show X.A.units+1+_ < _;lia) k2 w (by simpa using hw)) (fin _ ?_);rw [show its'.any (isEq s.heap a) = its'.toList.any (isEq s.heap a) by simp,lg k2]
 . have rb:=fK I hb ry (by unfold dep;lia);unfold RdV at rb;obtain ⟨l',its',rfl,k1,k2⟩:=rb;refine in_tupleAt (isEq s.heap a) k1 (λw hw=>kT ra (by show X.A.units+1+_ < _;lia) k2 w (by simpa using hw)) (fin _ ?_);rw [show its'.any (isEq s.heap a) = its'.toList.any (isEq s.heap a) by simp,lg k2]
def BN (hu:X.A.units+200 < cLine):OpR X (compareOp .NotIn) (λx y H Q=>∃ F a ds,dF X.K H F a x/\(dF X.K H F (.lst ds) y\/dF X.K H F (.tup ds) y)/\(dep a<=150/\cJ ds < 99999)/\Q (.bl (!ds.any λd=>eqD d a)) H):=by
 intro pins s σ H x y v u Q I rx ry h;obtain ⟨F,a,ds,ha,hb,⟨hd,hm⟩,q⟩:=h;have ra:=fK I ha rx ∅;have fin:∀ k:Bool,k = (!ds.any λd=>eqD d a)->EP X pins σ Q (.bool k) s:=λk e=>⟨.bl k,H,I,rfl,by rw [e];exact q⟩;rcases hb with hb | hb
 . have rb:=fK I hb ry (by unfold dep;lia);unfold RdV at rb;obtain ⟨l',its',rfl,k1,k2⟩:=rb;refine notIn_listAt (isEq s.heap a) k1 (λw hw=>kT ra (by show X.A.units+1+_ < _;lia) k2 w (by simpa using hw)) (fin _ ?_);rw [show its'.any (isEq s.heap a) = its'.toList.any (isEq s.heap a) by simp,lg k2]
 . have rb:=fK I hb ry (by unfold dep;lia);unfold RdV at rb;obtain ⟨l',its',rfl,k1,k2⟩:=rb;refine notIn_tupleAt (isEq s.heap a) k1 (λw hw=>kT ra (by show X.A.units+1+_ < _;lia) k2 w (by simpa using hw)) (fin _ ?_);rw [show its'.any (isEq s.heap a) = its'.toList.any (isEq s.heap a) by simp,lg k2]
def qB (ns:List Int):∀ j,preSum (λi=>ns.getD i 0) j = (ns.take j).sum
 | 0=>by simp [preSum]
 | j+1=>by
   rw [preSum,qB ns j,GR,List.sum_append]
   cases e:ns[j]? with
   | none=>simp [e]
   | some v=>simp [e]
def vF {ns:List Int}:∀ {xs:List V} {us:List ae},xs = ns.map V.int->Vals xs us->∀ i v,us[i]? = some v->∃ t,v = GK (ns.getD i 0) t:=by
 induction ns with
 | nil=>intro xs us e r i v h;subst e;cases r;simp at h
 | cons n ns ih =>
   intro xs us e r i v h;subst e
   cases r with
   | cons r1 r2 =>
     cases i with
     | zero=>simp at h;subst h;obtain ⟨t,e⟩:=r1;exact ⟨t,by simpa using e⟩
     | succ i =>
       obtain ⟨t,e⟩:=ih rfl r2 i v (by simpa using h);exact ⟨t,by simpa using e⟩
def Hy {ns:List Bool}:∀ {xs:List V} {us:List ae},xs = ns.map V.bl->Vals xs us->∀ i v,us[i]? = some v->v = kG (ns.getD i false):=by
 induction ns with
 | nil=>intro xs us e r i v h;subst e;cases r;simp at h
 | cons n ns ih =>
   intro xs us e r i v h;subst e
   cases r with
   | cons r1 r2 =>
     cases i with
     | zero=>simp at h;subst h;have e:_ = kG n:=r1;simpa using e
     | succ i=>simpa using ih rfl r2 i v (by simpa using h)
def yx (bs:List Bool):((cc bs.length).any λi=>bs.getD i false) = bs.any id:=by
 rw [gA,kD,kD];constructor
 . rintro ⟨i,hi,e⟩;have hi':=md.mp hi;refine ⟨bs[i],eN hi',?_⟩;simpa [mJ,aD hi'] using e
 . rintro ⟨b,hb,e⟩;obtain ⟨i,hi,rfl⟩:=CB hb;exact ⟨i,md.mpr hi,by simpa [mJ,aD hi] using e⟩
def Ct (hc:X.calm = true):cz X (.builtin "any") (λxs H Q=>∃ (p:aw) (ns:List Bool),xs = [.ref p]/\SqL X.K H p (ns.map V.bl)/\Q (.bl (ns.any id)) H):=by
 intro pins s σ H xs us Q I r h;obtain ⟨p,ns,rfl,hq,q⟩:=h;obtain ⟨u,rfl,rx⟩:=vals1 r;cases rx;obtain ⟨its,rv,pl,hz⟩:=I.list hq;have hlt:p < s.heap.objs.size:=by obtain ⟨o,e,_⟩:=pl.isList;exact aE e
 refine call_any_walk (fO pl.isList ?_)
 refine ⟨s.heap.objs.size,[s.heap.objs.size,p],[s.heap.objs.size],its.toArray.size,_,_,λi=>ns.getD i false,rfl,rY (A:=X.A.in1) (I.ok.hd hc) s.heap.objs.size p (aO hlt) its.toArray,
  ⟨⟨_,aF _ rfl,rfl,rfl⟩,?_⟩,λi v s' Q' E' hP hQ=>?_,λh' tk hk=>?_⟩
 . obtain ⟨o,e,r⟩:=pl.isList;exact ⟨o,ah _ e,r⟩
 . rw [Hy rfl rv i v (by simpa using hP)];exact eH hQ
 . have e:its.toArray.size = ns.length:=by rw [aG,<- rv.length,ay]
   rw [e,yx];exact ⟨.bl (ns.any id),H,I.kept (h':=h') (t':=tk) (λb o e=>hk b o (by simp;exact aO (aE e)) (ah _ e)),rfl,q⟩
def Cj (hc:X.calm = true):cz X (.builtin "sum") (λxs H Q=>∃ (p:aw) (ns:List Int),xs = [.ref p]/\SqL X.K H p (ns.map V.int)/\Q (.int ns.sum) H):=by
 intro pins s σ H xs us Q I r h;obtain ⟨p,ns,rfl,hq,q⟩:=h;obtain ⟨u,rfl,rx⟩:=vals1 r;cases rx;obtain ⟨its,rv,pl,hz⟩:=I.list hq;have hlt:p < s.heap.objs.size:=by obtain ⟨o,e,_⟩:=pl.isList;exact aE e
 refine call_sum_walkG (fO pl.isList ?_)
 refine ⟨s.heap.objs.size,[s.heap.objs.size,p],[s.heap.objs.size],its.toArray.size,_,_,λi=>ns.getD i 0,rfl,rY (A:=X.A.in1) (I.ok.hd hc) s.heap.objs.size p (aO hlt) its.toArray,
  ⟨⟨_,aF _ rfl,rfl,rfl⟩,?_⟩,λb hb=>?_,λi v e=>?_,λh' tk t' hk=>?_⟩
 . obtain ⟨o,e,r⟩:=pl.isList;exact ⟨o,ah _ e,r⟩
 . have:b = s.heap.objs.size\/b = p:=by simpa using hb
   show b < (s.heap.push _).objs.size;rw [bJ];rcases this with rfl | rfl
   . exact dI _
   . exact bF hlt
 . exact vF rfl rv i v (by simpa using e)
 . refine ⟨.int ns.sum,H,I.kept (h':=h') (t':=tk) λb o e=>?_,⟨t',?_⟩,q⟩
   . exact hk b o (by simp;exact aO (aE e)) (ah _ e)
   . rw [qB];have e:its.toArray.size = ns.length:=by rw [aG,<- rv.length,ay]
     rw [e,pZ]
def Bu (h:ns≠[]):vI (ns++[v]) = if v > vI ns then v else vI ns:=by
 cases ns with
 | nil=>exact absurd rfl h
 | cons n ns =>
   show (ns++[v]).foldl _ n = _;rw [GX];rfl
def xC (ns:List Int):∀ k,k < ns.length->ns.getD (argBest (λi j=>decide (ns.getD i 0 > ns.getD j 0)) k) 0 = vI (ns.take (k+1))
 | 0,h=>by
   cases ns with
   | nil=>cases h
   | cons n ns=>simp [argBest,vI]
 | k+1,h=>by
   have ih:=xC ns k ∅;have e:ns[k+1]? = some (ns.getD (k+1) 0):=by rw [bQ,aD h];rfl
   have e2:ns.take (k+1+1) = ns.take (k+1)++[ns.getD (k+1) 0]:=by rw [GR,e];rfl
   rw [e2,Bu (by cases ns with
    | nil=>cases h
    | cons _ _=>simp),<- ih]
   show ns.getD (if decide (ns.getD (k+1) 0 > ns.getD (argBest (λi j=>decide (ns.getD i 0 > ns.getD j 0)) k) 0) = true then k+1 else argBest (λi j=>decide (ns.getD i 0 > ns.getD j 0)) k) 0 = _;by_cases hb:ns.getD (k+1) 0 > ns.getD (argBest (λi j=>decide (ns.getD i 0 > ns.getD j 0)) k) 0
   . rw [if_pos (decide_eq_true hb),if_pos hb]
   . rw [if_neg (by simpa using hb),if_neg hb]
def Co (hc:X.calm = true):cz X (.builtin "max") (λxs H Q=>∃ (p:aw) (ns:List Int),xs = [.ref p]/\ns≠[]/\SqL X.K H p (ns.map V.int)/\Q (.int (vI ns)) H):=by
 intro pins s σ H xs us Q I r h;obtain ⟨p,ns,rfl,hne,hq,q⟩:=h;obtain ⟨u,rfl,rx⟩:=vals1 r;cases rx;obtain ⟨its,rv,pl,hz⟩:=I.list hq;have hlt:p < s.heap.objs.size:=by obtain ⟨o,e,_⟩:=pl.isList;exact aE e
 have hlen:its.toArray.size = ns.length:=by rw [aG,<- rv.length,ay]
 have hpos:0 < ns.length:=mQ.mpr hne;have hval:∀ i v,its.toArray[i]? = some v->∃ t,v = GK (ns.getD i 0) t:=λi v e=>vF rfl rv i v (by simpa using e);refine call_max_walk (fO pl.isList ?_)
 refine ⟨s.heap.objs.size,[s.heap.objs.size,p],[s.heap.objs.size],its.toArray.size,_,_,λi j=>decide (ns.getD i 0 > ns.getD j 0),rfl,rY (A:=X.A.in1) (I.ok.hd hc) s.heap.objs.size p (aO hlt) its.toArray,
  ⟨⟨_,aF _ rfl,rfl,rfl⟩,?_⟩,λb hb=>?_,by rw [hlen];exact hpos,CmpOf.ints_gt (λi=>ns.getD i 0) hval,λv h' tk hv hk=>?_⟩
 . obtain ⟨o,e,r⟩:=pl.isList;exact ⟨o,ah _ e,r⟩
 . have:b = s.heap.objs.size\/b = p:=by simpa using hb
   show b < (s.heap.push _).objs.size;rw [bJ];rcases this with rfl | rfl
   . exact dI _
   . exact bF hlt
 . refine ⟨.int (vI ns),H,I.kept (h':=h') (t':=tk) λb o e=>?_,?_,q⟩
   . exact hk b o (by simp;exact aO (aE e)) (ah _ e)
   . obtain ⟨t,rfl⟩:=hval _ _ hv;refine ⟨t,?_⟩;rw [xC ns _ ∅,hlen,show ns.length - 1+1 = ns.length by lia,pZ]
def Gn {prog:aS} {w:bD} {A:aW} {E:ae->ai->Prop} {s:ai} {t b:aw} {ws:List ae} {Q:ae->ai->Prop} (ht:JE s.heap t ([]:List ae).toArray) (hb:JE s.heap b ws.toArray) (h:Q (.ref b) s):wpAny (model prog w) A (binaryOp .Add (.ref t) (.ref b)) Q E s:=by
 obtain ⟨⟨cls,dd,data,sl⟩,ho,hc,n,hd⟩:=id ht;obtain ⟨⟨cls2,dd2,data2,sl2⟩,ho2,hc2,n2,hd2⟩:=id hb;simp only at hc hd hc2 hd2;subst hc hd hc2 hd2;exact GG ⟨_,ho,rfl⟩ ⟨_,ho2,rfl⟩ vk Cv PySem.F.slot_tuple_add PySem.F.entry_tuple_add (PySem.F.args_tuple_add_2 _ _) (tuple_addW0 t b _ ws.toArray n n2 dd dd2 sl sl2 rfl) ⟨ho,ho2,h⟩
def II:OpR X (binaryOp .Add) (λx y H Q=>∃ a b ys,x = .ref a/\y = .ref b/\SqT X.K H a []/\SqT X.K H b ys/\Q (.ref b) H):=by
 intro pins s σ H x y v u Q I rx ry h;obtain ⟨a,b,ys,rfl,rfl,ha,hb,q⟩:=h;cases rx;cases ry;obtain ⟨its,r1,p1,_⟩:=I.tuple ha;obtain ⟨its2,r2,p2,_⟩:=I.tuple hb;cases r1;exact Gn p1 p2 ⟨.ref b,H,I,rfl,q⟩
def tyName:Blt->Option String
 | .isTup=>some "tuple"
 | _=>none
def Mu (I:Inv X pins σ H s) (h:dF X.K H F (.lst ds) v) (r:RelV v u):∃ l its,u = .ref l/\s.heap.IsList l its:=by
 rcases h with h | ⟨a,xs,_,_,rfl,h1,_⟩
 . unfold Rel at h;obtain ⟨a,xs,rfl,h1,_⟩:=h;obtain ⟨its,_,p,_⟩:=I.list h1.sq;exact ⟨a,_,r,p.isList⟩
 . obtain ⟨its,_,p,_⟩:=I.list (.inl (.inl h1));exact ⟨a,_,r,p.isList⟩
def Mt (I:Inv X pins σ H s) (h:dF X.K H F (.tup ds) v) (r:RelV v u):∃ l its,u = .ref l/\s.heap.IsTuple l its:=by
 rcases h with h | ⟨a,xs,_,e,_⟩
 . unfold Rel at h;obtain ⟨a,xs,rfl,h1,_⟩:=h;obtain ⟨its,_,p,_⟩:=I.tuple h1;exact ⟨a,_,r,p⟩
 . cases e
def Gp (hT:tyName f = some T):cz X (.builtin "isinstance") (λxs H Q=>∃ F d x b,dF X.K H F d x/\xs = [x,.ty T]/\kF f [d] = some (.bl b)/\Q (.bl b) H):=by
 intro pins s σ H xs us Q I r h;obtain ⟨F,d,x,b,hr,rfl,hb,q⟩:=h;obtain ⟨u,w',rfl,ru,rw'⟩:=vals2 r;cases (show w' = Value.type T from rw');have fin:∀ tk,EP X pins σ Q (.bool b) { s with toks:=tk }:=λtk=>⟨.bl b,H,I.tok tk,rfl,q⟩
 cases d with
 | non=>have rd:=fK I hr ru (by unfold dep;lia);unfold RdV at rd;subst rd;cases f<;>simp [tyName] at hT<;>subst hT<;>simp [kF,kf] at hb<;>subst hb<;>exact PySem.W.kia_one PySem.W.kitx_none I.kIn jC rfl (λz=>nomatch z) fin
 | bl y=>have rd:=fK I hr ru (by unfold dep;lia);unfold RdV at rd;subst rd;cases f<;>simp [tyName] at hT<;>subst hT<;>simp [kF,kf] at hb<;>subst hb<;>exact PySem.W.kia_one PySem.W.kitx_bool I.kIn jC rfl (λz=>nomatch z) fin
 | int y=>have rd:=fK I hr ru (by unfold dep;lia);unfold RdV at rd;obtain ⟨t,rfl⟩:=rd;cases f<;>simp [tyName] at hT<;>subst hT<;>simp [kF,kf] at hb<;>subst hb<;>exact PySem.W.kia_one PySem.W.kitx_int I.kIn jC rfl (λz=>nomatch z) fin
 | str y=>have rd:=fK I hr ru (by unfold dep;lia);unfold RdV at rd;obtain ⟨t,rfl⟩:=rd;cases f<;>simp [tyName] at hT<;>subst hT<;>simp [kF,kf] at hb<;>subst hb<;>exact PySem.W.kia_one PySem.W.kitx_str I.kIn jC rfl (λz=>nomatch z) fin
 | lst y =>
   obtain ⟨l,its,rfl,⟨o,h1,h2,_⟩⟩:=Mu I hr ru
   cases f<;>simp [tyName] at hT<;>subst hT<;>simp [kF,kf] at hb<;>subst hb<;>exact PySem.W.kia_one PySem.W.kitx_list I.kIn ⟨o,h1,h2⟩ rfl (λz=>nomatch z) fin
 | tup y =>
   obtain ⟨l,its,rfl,⟨o,h1,h2,_⟩⟩:=Mt I hr ru
   cases f<;>simp [tyName] at hT<;>subst hT<;>simp [kF,kf] at hb<;>subst hb<;>exact PySem.W.kia_one PySem.W.kitx_tuple I.kIn ⟨o,h1,h2⟩ rfl (λz=>nomatch z) fin
 | fn _ _=>cases f<;>simp [tyName] at hT<;>simp [kF,kf] at hb
def Its (x:Str):L2.It:=⟨λi _=>i < x.cps.size,λi H v H'=>H' = H/\∃ c,x.cps[i]? = some c/\v = .str ⟨#[c]⟩,λi _=>i = x.cps.size⟩
def qm {P:aS} {w:bD} {K:PySem.W.Frag} {tg:aH} {it:aw} {n:Nat} {PV:Nat->ae->Prop} {St:Nat->cb->Prop} {J:L2.It} {ty:String}
 (W:∀ A:aW,A.handled = none->JA P w A it [it] [it] n PV St) (hst:∀ i h,St i h->∃ (o:Obj) (vs:Array ae),h.get? it = some o/\o.cls = .type ty/\o.data = .fields vs)
 (hn:["enumerate","zip","dict_itemiterator","dict_reverseitemiterator","odict_iterator","itertools.zip_longest","itertools.pairwise"].contains ty = false)
 (go:∀ i H,J.go i H->i < n) (stop:∀ i H,J.stop i H->i = n) (yld:∀ i v H,PV i v->∃ x,RelV x v/\J.yld i H x H)
 (self:∀ (A:aW) (i:Nat) (s:ai) (Q:ae->ai->Prop) (E:ae->ai->Prop),St i s.heap->Q (.ref it) s->wpAny (model P w) A (pyIter (.ref it)) Q E s) :
 Turn P w K tg J [it] it St where
 mem:=by simp
 obj:=λi h st b hb=>by
  have e:b = it:=by simpa using hb
  subst e;obtain ⟨o,vs,e,c,d⟩:=hst i h st;exact ⟨o,e,λv z=>by rw [d] at z;cases z⟩
 keep:=λi h h' st k=>(W { } rfl).frame i h h' st k
 item:=by
  intro X hP hw hK hc i pins s σ H E I hf st hg;subst hP hw hK;obtain ⟨f0,f1,f2,f3,f4,f5⟩:=hf it ↥0;refine (W X.A (I.ok.hd hc)).item i s _ _ (go i H hg) st λv h' tk hv st' kk=>?_;have I1:Inv X pins σ H { s with heap:=h',toks:=tk }:=I.turned (λb o hb e=>kk b o (by simpa using hb) e) f0 f1 f3 f4 f5;obtain ⟨o,vs,e,c,d⟩:=hst _ _ st';obtain ⟨x,r,y⟩:=yld i v H hv;exact ⟨v,rfl,wY (s:={ s with heap:=h',toks:=tk }) e c d hn ⟨x,H,I1,r,y,st',λb hb=>(hf b hb).1⟩⟩
 done:=by
  intro X hP hw hK hc i pins s σ H E I hf st hg;subst hP hw hK;obtain ⟨f0,f1,f2,f3,f4,f5⟩:=hf it ↥0;have e:=stop i H hg;subst e;exact (W X.A (I.ok.hd hc)).done s _ _ st λh' tk kk=>⟨rfl,I.turned (λb o hb e=>kk b o (by simpa using hb) e) f0 f1 f3 f4 f5⟩
 self:=self
def DB {P:aS} {w:bD} {K:PySem.W.Frag} {tg:aH} (it:aw) (x:Str) (t:Tok):Turn P w K tg (Its x) [it] it (λi h=>h.IsStrIter it (strIterType x) x t i):=by
 unfold strIterType;split
 . exact qm (ty:="str_ascii_iterator") (λA hA=>Walks.strAscii hA it x t) (λi h ⟨o,e,c,d⟩=>⟨o,_,e,c,d⟩) ⇑0 (λi H z=>z) (λi H z=>z) (λi v H ⟨c,u,h1,h2⟩=>⟨.str ⟨#[c]⟩,⟨u,h2⟩,rfl,c,h1,rfl⟩) λ_ _ _ _ _ st h=>wpAny_pyIter_striter_ascii st h
 . exact qm (ty:="str_iterator") (λA hA=>Walks.strWide hA it x t) (λi h ⟨o,e,c,d⟩=>⟨o,_,e,c,d⟩) ⇑0 (λi H z=>z) (λi H z=>z) (λi v H ⟨c,u,h1,h2⟩=>⟨.str ⟨#[c]⟩,⟨u,h2⟩,rfl,c,h1,rfl⟩) λ_ _ _ _ _ st h=>wpAny_pyIter_striter_wide st h
end
end PP
end
section
namespace PP
open PySem L2 PyProof.Rows PySem.SeqAt PySem.Calls
def Kept (P:Nat->ae->Prop) (bt:Nat->Nat->Bool):Nat->List ae->Prop
 | 0,l=>l = []
 | j+1,l=>∃ v,l = [v,v]/\P (argBest bt j) v
section
variable {prog:aS} {w:bD} {A:aW} {R:vm->ai->Prop} {I:aw} {fp wr:List aw} {n:Nat} {P:Nat->ae->Prop} {St:Nat->cb->Prop}
end
variable {X:Cx} [Tbs]
end PP
end
section
namespace PP
open PySem L2 PySem.SeqAt PyProof.Rows PySem.W
open AutoSeq1 (wpAny_loadPart')
open MeetsSeq MeetsSeq2 MeetsSeq3 SeqRoads2
variable [Tbs]
def Gz (A:aW) (s:ai) (u v:ae) (b:Bool):Prop:=∀ (prog:aS) (w:bD) (E:ae->ai->Prop) (Q:ae->ai->Prop),Q (.bool b) s->wpAny (model prog w) A (richCompare .Lt u v) Q E s
def xG (A:aW) (s:ai) (last:Bool):List (ae × ae)->Bool->Prop
 | [],b=>b = last
 | (p,q)::r,b=>∃ e,EqAt A s p q e/\if e = true then xG A s last r b else Gz A s p q b
def yj (l m:aw) (xs ys:Array ae) (n n2:Nat) (dd dd2:Option aw) (sl sl2:Array (Option ae)) (b:Bool) :
 Meets (eJ.«tuple.__lt__» ⟨[.ref l,.ref m],[]⟩)
  (λA R s=>s.heap.get? l = some ⟨.type "tuple",dd,.seq xs n,sl⟩/\s.heap.get? m = some ⟨.type "tuple",dd2,.seq ys n2,sl2⟩ /\
    xG A.in1 s (decide (xs.size < ys.size)) (xs.toList.zip ys.toList) b/\R (.ok (.ret (.bool b))) s) :=
 .of_wp λprog w A R s h=>by
  obtain ⟨h0,g0,d0,t0,o0⟩:=s;obtain ⟨hx,hy,hlex,hR⟩:=h;have sub:=AutoSeq1.sub_tuple_tuple
  wp_walk using mM hx,mM hy,wpAny_forIn_list _ (λrest st s'=>st.1 = none/\s' = ⟨h0,g0,d0,t0,o0⟩/\xG A.in1 ⟨h0,g0,d0,t0,o0⟩ (decide (xs.size < ys.size)) rest b) _
  case turn =>
   rintro ⟨y,x⟩ rest st s' ⟨hst,rfl,e,he,hr⟩;refine ab (he prog w _ _ ?_)
   cases e with
   | true =>
     rw [if_pos rfl] at hr
     wp_walk
     exact ⟨rfl,rfl,hr⟩
   | false =>
     rw [if_neg aj] at hr;have hr':∀ {Q:ae->ai->Prop} {E:ae->ai->Prop},Q (.bool b) ⟨h0,g0,d0,t0,o0⟩->wpAny (model prog w) A.in1 (richCompare .Lt y x) Q E ⟨h0,g0,d0,t0,o0⟩:=λ{Q E} h=>hr prog w E Q h
     wp_walk using hr'
     exact ⟨_,rfl,hR⟩
  case fin =>
   rintro ⟨b1,b2⟩ s' ⟨hst,rfl,hl⟩;simp only at hst;subst hst;have hl:b = decide (xs.size < ys.size):=hl
   wp_walk
   refine ⟨_,rfl,?_⟩;have:Builtin.Tuple.tupleCompareSizes .Lt xs.size ys.size = .bool b:=by rw [hl];rfl
   rw [this];exact hR
  case h=>exact ⟨rfl,rfl,hlex⟩
def Gz.tuples (hx:s.heap.IsTuple l xs) (hy:s.heap.IsTuple m ys) (hu:A.units < cLine) (h:xG A.in1 s (decide (xs.size < ys.size)) (xs.toList.zip ys.toList) b):Gz A s (.ref l) (.ref m) b:=by
 intro prog w E Q q;obtain ⟨⟨c1,d1,t1,s1⟩,e1,k1,n1,f1⟩:=hx;obtain ⟨⟨c2,d2,t2,s2⟩,e2,k2,n2,f2⟩:=hy;have k1:c1 = _:=k1;have f1:t1 = _:=f1;have k2:c2 = _:=k2;have f2:t2 = _:=f2;subst k1 f1 k2 f2;have nn:kG b≠zr:=λz=>nomatch z;exact richCompare_meets_room (op:=.Lt) ⟨_,e1,rfl⟩ ⟨_,e2,rfl⟩ F.slot_tuple_lt F.entry_tuple_lt (F.args_tuple_lt_2 _ _) (yj l m xs ys n1 n2 d1 d2 s1 s2 b) ⟨e1,e2,h,(show kG b≠zr/\Q (.bool b) s from ⟨nn,q⟩)⟩ hu
mutual
theorem uz:∀ (a b:D) (A:aW) (s:ai) (u v:ae) (k:Bool),RdV s.heap a u->RdV s.heap b v->A.units+min (dep a) (dep b)+1 < cLine->ltD a b = some k->Gz A s u v k
 | .int a,b,A,s,u,v,k,ra,rb,hu,h=>by
   cases b with
   | int b =>
     unfold ltD at h;cases h;unfold RdV at ra rb;obtain ⟨t,rfl⟩:=ra;obtain ⟨t',rfl⟩:=rb;intro prog w E Q q
     exact lt_int q
   | _=>unfold ltD at h;cases h
 | .str a,b,A,s,u,v,k,ra,rb,hu,h=>by
   cases b with
   | str b =>
     unfold ltD at h;cases h;unfold RdV at ra rb;obtain ⟨t,rfl⟩:=ra;obtain ⟨t',rfl⟩:=rb;intro prog w E Q q
     exact lt_str q
   | _=>unfold ltD at h;cases h
 | .tup a,b,A,s,u,v,k,ra,rb,hu,h=>by
   cases b with
   | tup b =>
     unfold ltD at h;unfold RdV at ra rb;obtain ⟨l,xs,rfl,h1,h2⟩:=ra;obtain ⟨m,ys,rfl,k1,k2⟩:=rb;have n1:xs.size = a.length:=by simpa using h2.length
     have n2:ys.size = b.length:=by simpa using k2.length
     refine Gz.tuples h1 k1 (by omega) ?_;rw [n1,n2];unfold dep at hu
     exact wR a b A.in1 s xs.toList ys.toList k h2 k2 (by show A.units+1+_+1 < _;omega) h
   | _=>unfold ltD at h;cases h
 | .non,b,A,s,u,v,k,ra,rb,hu,h=>by cases b<;>(unfold ltD at h;cases h)
 | .bl x,b,A,s,u,v,k,ra,rb,hu,h=>by cases b<;>(unfold ltD at h;cases h)
 | .lst x,b,A,s,u,v,k,ra,rb,hu,h=>by cases b<;>(unfold ltD at h;cases h)
 | .fn x y,b,A,s,u,v,k,ra,rb,hu,h=>by cases b<;>(unfold ltD at h;cases h)
theorem wR:∀ (as bs:List D) (A:aW) (s:ai) (us vs:List ae) (k:Bool),RdL s.heap as us->RdL s.heap bs vs->A.units+min (cJ as) (cJ bs)+1 < cLine->eB as bs = some k->xG A s (decide (as.length < bs.length)) (us.zip vs) k
 | [],[],A,s,us,vs,k,ra,rb,hu,h=>by
   unfold RdL at ra rb;subst ra;subst rb;unfold eB at h;cases h
   rfl
 | [],y::ys,A,s,us,vs,k,ra,rb,hu,h=>by
   unfold RdL at ra;subst ra;unfold eB at h;cases h;show true = decide _
   simp
 | x::xs,[],A,s,us,vs,k,ra,rb,hu,h=>by
   unfold RdL at rb;subst rb;unfold eB at h;cases h;rw [nW];show false = decide _
   simp
 | x::xs,y::ys,A,s,us,vs,k,ra,rb,hu,h=>by
   unfold RdL at ra rb;obtain ⟨u,us',rfl,ra1,ra2⟩:=ra;obtain ⟨v,vs',rfl,rb1,rb2⟩:=rb;unfold eB at h;unfold cJ at hu;refine ⟨eqD x y,uN x y A s u v ra1 rb1 (ff (bj (gj (mm1 _ _ _ _) _) (JB _ 1)) hu),?_⟩
   cases e:eqD x y with
   | true =>
     rw [e,if_pos rfl] at h;rw [if_pos rfl];have:=wR xs ys A s us' vs' k ra2 rb2 (ff (Cy (gj (mm2 _ _ _ _) _) 1) hu) h;have e1:decide ((x::xs).length < (y::ys).length) = decide (xs.length < ys.length):=by simp
     rw [e1]
     exact this
   | false =>
     rw [e,if_neg aj] at h;rw [if_neg aj];exact uz x y A s u v k ra1 rb1 (ff (Cy (gj (mm1 _ _ _ _) _) 1) hu) h
end
def LI (hu:X.A.units+200 < cLine):OpR X (compareOp .Lt) (λx y H Q=>∃ F a b k,dF X.K H F a x/\dF X.K H F b y/\iN a b = some k/\Q (.bl k) H):=by
 intro pins s σ H x y v u Q I rx ry h;obtain ⟨F,a,b,k,ha,hb,e,q⟩:=h;unfold iN at e;split at e
 . exact uz a b X.A s v u k (fK I ha rx (by omega)) (fK I hb ry (by omega)) (by omega) e X.prog X.w X.xe _ ⟨.bl k,H,I,rfl,q⟩
 . cases e
def IH:OpR X (binaryOp .Add) (λx y H Q=>∃ l b xs zs,x = .ref l/\y = .ref b/\LsB X.K H l xs/\LsB X.K H b zs/\xs.length+zs.length<=sizeLine/\∀ p,H p = none->Q (.ref p) (upd H p (.lst (xs++zs)))):=by
 intro pins s σ H x y v u Q I rx ry h;obtain ⟨l,b,xs,zs,rfl,rfl,h1,h2,hz,q⟩:=h;cases rx;cases ry;obtain ⟨i1,n1,r1,e1,z1⟩:=h1.obj I;obtain ⟨i2,n2,r2,e2,z2⟩:=h2.obj I;have l1:=r1.length;have l2:=r2.length;refine PySem.P.add_list e1 e2 ?_ (by simp only [aG];omega);rw [show i1.toArray++i2.toArray = (i1++i2).toArray by simp];exact ⟨.ref _,_,I.lnew (t':=s.toks) (r1.append r2) (by rw [ax];omega),rfl,q _ I.fresh⟩
end PP
end
section
namespace PP
open PySem PySem.W PyProof.Rows
def inR {α:Type} (lt:Nat->Nat->Bool) (n:Nat):KasT α->Prop
 | .ret _=>True
 | .ask i j k=>i < n/\j < n/\inR lt n (k (lt i j))
def jN {α β:Type} {lt:Nat->Nat->Bool} {n:Nat} {f:α->KasT β}:∀ {t:KasT α},inR lt n t->inR lt n (f (ans lt t))->inR lt n (t.bind f)
 | .ret a,_,h=>h
 | .ask i j k,⟨h1,h2,h3⟩,h=>⟨h1,h2,jN h3 h⟩
def jg {α:Type} {lt:Nat->Nat->Bool} {n:Nat} {c:Prop} [Decidable c] {a b:KasT α} (h1:inR lt n a) (h2:inR lt n b):inR lt n (if c then a else b):=by
 by_cases h:c
 . rw [if_pos h];exact h1
 . rw [if_neg h];exact h2
def All (p:Array Nat) (n:Nat):Prop:=0 < n/\∀ x∈p,x < n
def All.at {p:Array Nat} {n:Nat} (h:All p n) (k:Nat):p.getD k 0 < n:=by
 rw [getD_eq]
 cases e:p[k]? with
 | none=>exact h.1
 | some x=>exact h.2 x (bu e)
def All.perm {p q:Array Nat} {n:Nat} (h:All p n) (e:q.Perm p):All q n:=⟨h.1,λx hx=>h.2 x (e.mem_iff.mp hx)⟩
section
variable {lt:Nat->Nat->Bool} {n:Nat}
def yY {p:Array Nat} (h:All p n):∀ f k,inR lt n (kas_asc p f k)
 | 0,k=>trivial
 | f+1,k=>⟨h.at _,h.at _,jg trivial (yY h f (k+1))⟩
def pU:∀ (f:Nat) (p:Array Nat) (k q:Nat),All p n->inR lt n (kas_desc f p k q)/\All (ans lt (kas_desc f p k q)).1 n
 | 0,p,k,q,h=>⟨trivial,h⟩
 | f+1,p,k,q,h=>by
   unfold kas_desc;have r1:=pU f (kas_rev p (k - (q+1)) k) (k+1) 0 (h.perm (eQ _ _ _));have r2:=pU f p (k+1) 0 h;have r3:=pU f p (k+1) (q+1) h;refine ⟨⟨h.at _,h.at _,jg (jg r1.1 r2.1) ⟨h.at _,h.at _,jg trivial r3.1⟩⟩,?_⟩;rw [fF]
   cases lt (p.getD k 0) (p.getD (k - 1) 0) with
   | true =>
     rw [if_pos rfl];by_cases hq:q > 0
     . rw [if_pos hq];exact r1.2
     . rw [if_neg hq];exact r2.2
   | false =>
     rw [if_neg aj,fF]
     cases lt (p.getD (k - 1) 0) (p.getD k 0) with
     | true=>rw [if_pos rfl];exact h
     | false=>rw [if_neg aj];exact r3.2
def vM {p:Array Nat} (h:All p n) (a m:Nat):inR lt n (kas_tail3 a m p)/\All (ans lt (kas_tail3 a m p)).2 n:=by
 unfold kas_tail3;have h':=h.perm (eQ p 0 a);refine ⟨jN (yY h' _ _) trivial,?_⟩;rw [dK,iW];exact h'
def oX {p:Array Nat} (h:All p n) (a m:Nat):inR lt n (kas_descPart a m p)/\All (ans lt (kas_descPart a m p)).2 n:=by
 unfold kas_descPart;obtain ⟨d1,d2⟩:=pU (lt:=lt) (m - (a+1)) p (a+1) 0 h;rw [dK];generalize hr:ans lt (kas_desc (m - (a+1)) p (a+1) 0) = r at d2;have t1:=vM (lt:=lt) (d2.perm (eQ r.1 (r.2.1 - (r.2.2+1)) r.2.1)) r.2.1 m;have t2:=vM (lt:=lt) d2 r.2.1 m;refine ⟨jN d1 (by rw [hr];exact jg t1.1 t2.1),?_⟩;by_cases hq:r.2.2 > 0
 . rw [if_pos hq];exact t1.2
 . rw [if_neg hq];exact t2.2
def Gi {p:Array Nat} (h:All p n) (m:Nat):inR lt n (kas_count m p)/\All (ans lt (kas_count m p)).2 n:=by
 unfold kas_count;rw [dK];have a1:=yY (lt:=lt) h (m - 1) 1;generalize hk:ans lt (kas_asc p (m - 1) 1) = k;have t1:=oX (lt:=lt) (h.perm (eQ p 0 k)) k m;have t2:=oX (lt:=lt) h k m;refine ⟨jN a1 (by rw [hk];exact jg trivial (jg ⟨h.at _,h.at _,jg trivial t1.1⟩ t2.1)),?_⟩;by_cases e:(k == m) = true
 . rw [if_pos e];exact h
 . rw [if_neg e];by_cases h1:k > 1
   . rw [if_pos h1,fF]
     cases lt (p.getD 0 0) (p.getD (k - 1) 0) with
     | true=>rw [if_pos rfl];exact h
     | false=>rw [if_neg aj];exact t1.2
   . rw [if_neg h1];exact t2.2
def qD {p:Array Nat} (h:All p n) (k:Nat):∀ f l r,inR lt n (kas_place p k f l r)
 | 0,l,r=>trivial
 | f+1,l,r=>by
   unfold kas_place;exact jg trivial ⟨h.at _,h.at _,jg (qD h k f _ _) (qD h k f _ _)⟩
def Gv:∀ (f:Nat) (p:Array Nat) (k:Nat),All p n->inR lt n (kas_bin f p k)
 | 0,p,k,h=>trivial
 | f+1,p,k,h=>by
   unfold kas_bin;exact jN (qD h k _ _ _) (Gv f _ _ (h.perm (vw _ _ _)))
def zK (hn:0 < n):inR lt n (kas_sort n):=by
 unfold kas_sort;have h:All (fP (cc n)) n:=⟨hn,λx hx=>by simpa using hx⟩;obtain ⟨c1,c2⟩:=Gi (lt:=lt) h n;exact jN c1 (jg (Gv _ _ _ c2) trivial)
end
def Aq {α:Type} {prog:aS} {w:bD} {A:aW} {κ:cK} {vs:List ae} {lt:Nat->Nat->Bool} {n:Nat} {s:ai} {Q:α->ai->Prop}
 (ha:∀ i j,i < n->j < n->∀ C:Bool->ai->Prop,C (lt i j) s->kas_ask prog w A κ vs i j C s):∀ t:KasT α,inR lt n t->Q (ans lt t) s->t.kasWp (kas_ask prog w A κ vs) Q s
 | .ret a,_,q=>q
 | .ask i j k,⟨h1,h2,h3⟩,q=>ha i j h1 h2 _ (Aq ha (k (lt i j)) h3 q)
def gk (lt:Nat->Nat->Bool) (vs:List ae):List ae:=if vs.length < 2 then vs else (ans lt (kas_sort vs.length)).toList.map λi=>vs.getD i bH
section
variable {prog:aS} {w:bD} {A:aW} {E:ae->ai->Prop} {s:ai}
def nu {a:aw} {vs:List ae} {n:Nat} {lt:Nat->Nat->Bool} {κ:cK} {P:PySem.Fin->ai->Prop} (ho:s.heap.get? a = some (seqObj "list" vs.toArray n)) (h64:vs.length < 64)
 (hlen:(gk lt vs).length = vs.length)
 (hk:2<=vs.length->∀ h':cb,(∀ b o,b≠a->s.heap.get? b = some o->h'.get? b = some o)->∀ C:cK->ai->Prop,C κ { s with heap:=h' }->wpAny (model prog w) A (keyKind' vs.toArray) C (λ_ _=>False) { s with heap:=h' })
 (ha:∀ h':cb,(∀ b o,b≠a->s.heap.get? b = some o->h'.get? b = some o)->∀ i j,i < vs.length->j < vs.length->∀ C:Bool->ai->Prop,C (lt i j) { s with heap:=h' }->kas_ask prog w A κ vs i j C { s with heap:=h' })
 (q:P (.done (.ret .none)) { s with heap:=sortedHeap s.heap a vs (gk lt vs).toArray }):wpAny (model prog w) A (eJ.«list.sort» ⟨[.ref a],[]⟩) P E s:=by
 have la:a < s.heap.objs.size:=aE ho;obtain ⟨e1,o1⟩:∃ e1,(s.heap.update a (bK λ_=>(#[]:Array ae))).get? a = some (seqObj "list" #[] e1):=⟨_,mO ho λ_ => #[]⟩;have o3:(((s.heap.update a (bK λ_=>(#[]:Array ae))).push (seqObj "tuple" vs.toArray 0)).push (seqObj "list" #[] 0)).get? a = some (seqObj "list" #[] e1):=ah _ (ah _ o1)
 have keep:∀ b o,b≠a->s.heap.get? b = some o->(((s.heap.update a (bK λ_=>(#[]:Array ae))).push (seqObj "tuple" vs.toArray 0)).push (seqObj "list" #[] 0)).get? b = some o:=λb o hb e =>
  ah _ (ah _ ((cE _ _ (Ne.symm hb)).trans e))
 have sz:(gk lt vs).toArray.size<=sizeLine:=by rw [aG,hlen,cF];lia
 rw [list_sort_plain];refine ab (listItems_at ho rfl (ab (gQ ho rfl ?_ (by rw [aG,cF];lia) (bO _))));refine ab (oT o1 rfl (ab (oQ ?_ (by show vs.length<=_;rw [cF];lia))));refine ab (lh (bY ?_) (bO _));show wpAny (model prog w) A _ P E { s with heap:=((s.heap.update a (bK λ_=>(#[]:Array ae))).push (seqObj "tuple" vs.toArray 0)).push (seqObj "list" #[] 0) };dsimp only;by_cases h2:vs.toArray.size < 2
 . have hv:vs.length < 2:=by simpa using h2
   have eo:gk lt vs = vs:=by unfold gk;rw [if_pos hv]
   rw [if_pos h2,if_pos h2];refine ab (aq ?_);rw [StateT.run_pure];refine ab (aq ?_);dsimp only;refine ab (oT o3 rfl ?_)
   have em:(arrOf (iB general' (vs.toArray.zip vs.toArray) #[] 7 none)).map (·.2) = (gk lt vs).toArray:=by
    rw [eo];show (vs.toArray.zip vs.toArray).map (·.2) = vs.toArray;apply Array.ext
    . simp
    . intro i h1 h2;simp
   rw [em];refine ab (gQ o3 rfl ?_ (bO _) (pF sz));simp only [bne_self_eq_false,bb,if_false];exact aq q
 . have hv:¬ vs.length < 2:=by simpa using h2
   have eo:gk lt vs = (ans lt (kas_sort vs.length)).toList.map λi=>vs.getD i bH:=by unfold gk;rw [if_neg hv]
   rw [if_neg h2,if_neg h2];refine ab (dR (hk ∅ _ keep (λκ' s'=>κ' = κ/\s' = { s with heap:=((s.heap.update a (bK λ_=>(#[]:Array ae))).push (seqObj "tuple" vs.toArray 0)).push (seqObj "list" #[] 0) }) ⟨rfl,rfl⟩) (λκ' s0 hk=>?_) λ_ _ x=>x.elim);obtain ⟨rfl,rfl⟩:=hk
   refine ab (dR (kat_run (Q:=λst' s'=>s' = { s with heap:=((s.heap.update a (bK λ_=>(#[]:Array ae))).push (seqObj "tuple" vs.toArray 0)).push (seqObj "list" #[] 0) }/\∃ p:Array Nat,arrOf st' = p.map (kas_item (vs.toArray.zip vs.toArray))/\failedOf st' = none/\p = ans lt (kas_sort vs.length))
    (G:=λp s'=>s' = { s with heap:=((s.heap.update a (bK λ_=>(#[]:Array ae))).push (seqObj "tuple" vs.toArray 0)).push (seqObj "list" #[] 0) }/\p = ans lt (kas_sort vs.length)) rfl ∅ h64 (λp st' s' a1 a2 a3 a4=>⟨a4.1,p,a2,a3,a4.2⟩)
    (Aq (lt:=lt) (n:=vs.length) (λi j h1 h2 C hc=>ha _ keep i j h1 h2 C hc) _ (zK ∅) ⟨rfl,rfl⟩)) ?_ λ_ _ e=>e)
   rintro ⟨⟨⟩,st'⟩ s' ⟨rfl,p,har,hf,rfl⟩;dsimp only;rw [kat_snds rfl har,<- eo];refine ab (oT o3 rfl (ab (gQ o3 rfl ?_ (bO _) (pF sz))));rw [hf];simp only [bne_self_eq_false,bb,if_false];exact aq q
def Bw {κ:cK} (hl:s.heap.IsList l vs.toArray) (h64:vs.length < 64) (hlen:(gk lt vs).length = vs.length)
 (hk:2<=vs.length->∀ (A':aW) (h':cb),A'.units<=A.units+2->(∀ b o,s.heap.get? b = some o->h'.get? b = some o)->∀ C:cK->ai->Prop,C κ { s with heap:=h' }->wpAny (model prog w) A' (keyKind' vs.toArray) C (λ_ _=>False) { s with heap:=h' })
 (ha:∀ (A':aW) (h':cb),A'.units<=A.units+2->(∀ b o,s.heap.get? b = some o->h'.get? b = some o)->∀ i j,i < vs.length->j < vs.length->∀ C:Bool->ai->Prop,C (lt i j) { s with heap:=h' }->kas_ask prog w A' κ vs i j C { s with heap:=h' })
 (q:Q (.ref (s.heap.objs.size+1)) { s with heap:=sortedAll s.heap vs (gk lt vs).toArray }):wpAny (model prog w) A (call (.builtin "sorted") [.ref l]) Q E s:=by
 refine fR Jz GD GF (GJ _) ?_;unfold eJ.«sorted»;refine ab (m:=checkCount "sorted" 1 1 _) (aq ?_);refine ab (collect_list hl (ab (lh ?_ (by rw [cF];lia))) (by rw [cF];lia));have hs:((s.heap.push (seqObj "list" #[] 0)).update s.heap.objs.size (bK (·++vs.toArray))).objs.size = s.heap.objs.size+1:=by rw [Hi,size_push']
 have hL:(((s.heap.push (seqObj "list" #[] 0)).update s.heap.objs.size (bK (·++vs.toArray))).push (seqObj "list" vs.toArray 0)).get? (s.heap.objs.size+1) = some (seqObj "list" vs.toArray 0):=by
  rw [<- hs];exact aF _ rfl
 have keep:∀ b o,s.heap.get? b = some o->b≠s.heap.objs.size+1/\(((s.heap.push (seqObj "list" #[] 0)).update s.heap.objs.size (bK (·++vs.toArray))).push (seqObj "list" vs.toArray 0)).get? b = some o:=λb o e=>by
  have hlt:b < s.heap.objs.size:=aE e;exact ⟨aO (bF hlt),ah _ ((cE _ _ (fe hlt)).trans (ah _ e))⟩
 show wpAny _ _ _ _ _ { s with heap:=((s.heap.push (seqObj "list" #[] 0)).update s.heap.objs.size (bK (·++vs.toArray))).push (seqObj "list" vs.toArray 0) };rw [hs];refine ab (bY (bW zj ⟨_,hL,rfl⟩ xK ?body (zq _)))
 case body =>
  refine nu (lt:=lt) (κ:=κ) hL h64 hlen (λh2 h' kp=>hk h2 _ h' ?_ λb o e=>kp b o (keep b o e).1 (keep b o e).2) (λh' kp=>ha _ h' ?_ λb o e=>kp b o (keep b o e).1 (keep b o e).2) ?_
  . exact ao _
  . exact ao _
  . exact ⟨_,rfl,aq ⟨_,rfl,q⟩⟩
end
end PP
end
section
namespace PP
open PySem L2 PySem.SeqAt PyProof.Rows PySem.W
variable [Tbs]
section
variable {lt:Nat->Nat->Bool}
def lH:∀ (f:Nat) (p:Array Nat) (k q:Nat),(ans lt (kas_desc f p k q)).1.Perm p
 | 0,p,k,q=>cI _
 | f+1,p,k,q=>by
   unfold kas_desc;rw [fF]
   cases lt (p.getD k 0) (p.getD (k - 1) 0) with
   | true =>
     rw [if_pos rfl];by_cases hq:q > 0
     . rw [if_pos hq];exact (lH f _ _ _).trans (eQ _ _ _)
     . rw [if_neg hq];exact lH f _ _ _
   | false =>
     rw [if_neg aj,fF]
     cases lt (p.getD (k - 1) 0) (p.getD k 0) with
     | true=>rw [if_pos rfl];exact cI _
     | false=>rw [if_neg aj];exact lH f _ _ _
def qp (a m:Nat) (p:Array Nat):(ans lt (kas_tail3 a m p)).2.Perm p:=by
 unfold kas_tail3;rw [dK,iW];exact eQ _ _ _
def lZ (a m:Nat) (p:Array Nat):(ans lt (kas_descPart a m p)).2.Perm p:=by
 unfold kas_descPart;rw [dK];have d:=lH (lt:=lt) (m - (a+1)) p (a+1) 0;generalize ans lt (kas_desc (m - (a+1)) p (a+1) 0) = r at d;by_cases hq:r.2.2 > 0
 . rw [if_pos hq];exact ((qp _ _ _).trans (eQ _ _ _)).trans d
 . rw [if_neg hq];exact (qp _ _ _).trans d
def yQ (m:Nat) (p:Array Nat):(ans lt (kas_count m p)).2.Perm p:=by
 unfold kas_count;rw [dK];generalize ans lt (kas_asc p (m - 1) 1) = k;by_cases e:(k == m) = true
 . rw [if_pos e];exact cI _
 . rw [if_neg e];by_cases h1:k > 1
   . rw [if_pos h1,fF]
     cases lt (p.getD 0 0) (p.getD (k - 1) 0) with
     | true=>rw [if_pos rfl];exact cI _
     | false=>rw [if_neg aj];exact (lZ _ _ _).trans (eQ _ _ _)
   . rw [if_neg h1];exact lZ _ _ _
def xB:∀ (f:Nat) (p:Array Nat) (k:Nat),(ans lt (kas_bin f p k)).Perm p
 | 0,p,k=>cI _
 | f+1,p,k=>by
   unfold kas_bin;rw [dK];exact (xB f _ _).trans (vw _ _ _)
def Bx (n:Nat):(ans lt (kas_sort n)).Perm (fP (cc n)):=by
 unfold kas_sort;rw [dK];have c:=yQ (lt:=lt) n (fP (cc n));generalize ans lt (kas_count n (fP (cc n))) = r at c;by_cases h:r.1 < n
 . rw [if_pos h];exact (xB _ _ _).trans c
 . rw [if_neg h];exact c
def iX (n:Nat):(ans lt (kas_sort n)).toList.Perm (cc n):=by
 have:=(Bx (lt:=lt) n).toList;simpa using this
end
mutual
theorem RdV.keep (k:∀ b o,h.get? b = some o->h'.get? b = some o):∀ (d:D) (u:ae),RdV h d u->RdV h' d u
 | .non,u,r=>by unfold RdV at r |-;exact r
 | .bl _,u,r=>by unfold RdV at r |-;exact r
 | .int _,u,r=>by unfold RdV at r |-;exact r
 | .str _,u,r=>by unfold RdV at r |-;exact r
 | .lst ds,u,r=>by
   unfold RdV at r |-;obtain ⟨a,its,e,⟨o,h1,h2⟩,h3⟩:=r
   exact ⟨a,its,e,⟨o,k _ _ h1,h2⟩,RdL.keep k ds _ h3⟩
 | .tup ds,u,r=>by
   unfold RdV at r |-;obtain ⟨a,its,e,⟨o,h1,h2⟩,h3⟩:=r
   exact ⟨a,its,e,⟨o,k _ _ h1,h2⟩,RdL.keep k ds _ h3⟩
 | .fn _ _,u,r=>by unfold RdV at r;exact r.elim
theorem RdL.keep (k:∀ b o,h.get? b = some o->h'.get? b = some o):∀ (ds:List D) (us:List ae),RdL h ds us->RdL h' ds us
 | [],us,r=>by unfold RdL at r |-;exact r
 | d::ds,us,r=>by
   unfold RdL at r |-;obtain ⟨w,ws,e,r1,r2⟩:=r;exact ⟨w,ws,e,RdV.keep k d w r1,RdL.keep k ds ws r2⟩
end
def RdL.nth:∀ {ds:List D} {us:List ae} (i:Nat),RdL h ds us->i < ds.length->RdV h (ds.getD i .non) (us.getD i bH)
 | [],us,i,r,hi=>by simp at hi
 | d::ds,us,i,r,hi=>by
   unfold RdL at r;obtain ⟨w,ws,rfl,r1,r2⟩:=r
   cases i with
   | zero=>exact r1
   | succ i=>exact RdL.nth i r2 (by simpa using hi)
section
variable {prog:aS} {w:bD} {s:ai}
def EH {A:aW} {E:ae->ai->Prop} {a b:D} {u v:ae} {k:Bool} {Q:Bool->ai->Prop} (ra:RdV s.heap a u) (rb:RdV s.heap b v) (hk:(bE a = 1/\bE b = 1)\/(bE a = 2/\bE b = 2)) (h:ltD a b = some k) (q:Q k s):wpAny (model prog w) A (oneLt' true u v) Q E s:=by
 rcases hk with ⟨h1,h2⟩ | ⟨h1,h2⟩
 . cases a<;>first | (simp [bE] at h1;done) | skip
   . cases b<;>first | (simp [bE] at h2;done) | skip
     . unfold RdV at ra rb;obtain ⟨t,rfl⟩:=ra;obtain ⟨t',rfl⟩:=rb;unfold ltD at h;cases h;exact oneLt_str q
     . rename_i l;cases l with
       | nil=>simp [bE] at h2
       | cons x r=>cases x<;>simp [bE] at h2
   . rename_i l;cases l with
     | nil=>simp [bE] at h1
     | cons x r=>cases x<;>simp [bE] at h1
 . cases a<;>first | (simp [bE] at h1;done) | skip
   . cases b<;>first | (simp [bE] at h2;done) | skip
     . unfold RdV at ra rb;obtain ⟨t,rfl⟩:=ra;obtain ⟨t',rfl⟩:=rb;unfold ltD at h;cases h;exact oneLt_int q
     . rename_i l;cases l with
       | nil=>simp [bE] at h2
       | cons x r=>cases x<;>simp [bE] at h2
   . rename_i l;cases l with
     | nil=>simp [bE] at h1
     | cons x r=>cases x<;>simp [bE] at h1
def qO:∀ (as bs:List D) (us vs:List ae) (i:Nat),RdL s.heap as us->RdL s.heap bs vs->A.units+min (cJ as) (cJ bs)+1 < cLine->eB as bs = some k->fin = decide (as.length < bs.length) ->
 (i = 0->∀ x y,as.head? = some x->bs.head? = some y->(bE x = 1/\bE y = 1)\/(bE x = 2/\bE y = 2))->Q k s->KatLex prog w A true fin Q (us.zip vs) i s
 | [],[],us,vs,i,ra,rb,hu,h,hf,hh,q=>by
   unfold RdL at ra rb;subst ra;subst rb;unfold eB at h;cases h;subst hf
   exact kat_nil q
 | [],y::ys,us,vs,i,ra,rb,hu,h,hf,hh,q=>by
   unfold RdL at ra;subst ra;unfold eB at h;cases h;have:fin = true:=by rw [hf];simp
   subst this
   exact kat_nil q
 | x::xs,[],us,vs,i,ra,rb,hu,h,hf,hh,q=>by
   unfold RdL at rb;subst rb;unfold eB at h;cases h;have:fin = false:=by rw [hf];simp
   subst this;rw [nW]
   exact kat_nil q
 | x::xs,y::ys,us,vs,i,ra,rb,hu,h,hf,hh,q=>by
   unfold RdL at ra rb;obtain ⟨u,us',rfl,ra1,ra2⟩:=ra;obtain ⟨v,vs',rfl,rb1,rb2⟩:=rb;unfold eB at h;unfold cJ at hu;rw [jD];refine kat_cons (uN x y A s u v ra1 rb1 ∅ prog w _ _ ?_)
   cases e:eqD x y with
   | true =>
     rw [e,if_pos rfl] at h
     exact kat_yes (qO xs ys us' vs' (i+1) ra2 rb2 ∅ h (by rw [hf];simp) (λz=>by lia) q)
   | false =>
     rw [e,if_neg aj] at h;refine kat_no ?_;by_cases hi:i = 0
     . subst hi;exact EH ra1 rb1 (hh rfl x y rfl rfl) h q
     . have e0:(true && i == 0) = false:=by simp [hi]
       rw [e0];exact kat_one u v (uz x y A s u v k ra1 rb1 ∅ h prog w _ _ q)
end
end PP
end
section
namespace PP
open PySem
structure Ck where
 N:List Str
 sc:fc
 fns:List (Str × List Str)
 gn:List Str
def Bq (sc:fc) (x:Str):Bool:=match sc.names.lookup x with
 | some .local=>true | some .cell=>true | some .free=>true | _=>false
def Mj (sc:fc) (x:Str):Bool:=match sc.names.lookup x with
 | some .local=>true | some .cell=>true | _=>false
def glB (sc:fc) (x:Str):Bool:=match sc.names.lookup x with
 | some .globalImplicit=>true | _=>false
def EZ (x:Str):Bool:=!(x == ("__debug__":Str)) && !(x == ("__classdict__":Str)) && !(x == ("__name__":Str))
def jf (c:Ck) (i:Nat) (x:Str):Bool:=decide (c.N[i]? = some x) && Bq c.sc x && EZ x
def jZ (c:Ck) (i:Nat) (x:Str):Bool:=decide (c.N[i]? = some x) && Mj c.sc x && EZ x
def gH (c:Ck) (x:Str):Bool:=glB c.sc x && EZ x
def NY:Op->zt->Bool
 | .add,.Add=>true | .sub,.Sub=>true | .mul,.Mult=>true | .mod,.Mod=>true | .fdiv,.FloorDiv=>true | .pow,.Pow=>true
 | _,_=>false
def AJ:Cop->CmpOp->Bool
 | .lt,.Lt=>true | .gt,.Gt=>true | .eq,.Eq=>true | .ne,.NotEq=>true | .isin,.In=>true | .notin,.NotIn=>true
 | _,_=>false
def tj:Blt->Str
 | .len=>"len" | .min=>"min" | .max=>"max" | .toInt=>"int" | .toTup=>"tuple" | .toLst=>"list" | .dvm=>"divmod" | .any=>"any" | .sum=>"sum" | .sortb=>"sorted"
 | .isTup=>"isinstance"
def jO:List Str:=["len","min","max","int","str","tuple","list","dict","sum","isinstance","bool","range","sorted","set","zip","any","divmod","reversed","all"]
def mw:Es->Bool
 | .nil=>true
 | .cons e es=>!cj e && mw es
def rN:Es->Bool
 | .nil=>true
 | .cons e es=>(!cj e || npS es) && rN es
def FV:Es->Nat
 | .nil=>0
 | .cons _ es=>FV es+1
def st (x:aH):Str:=match x with
 | .Name y _=>y
 | .Attribute _ m _=>m
 | _=>""
def cst (x:aH):Const:=match x with
 | .Constant v _ _=>v
 | _=>.none
def e1 (x:aH):aH:=match x with
 | .BinOp y _ _ _=>y
 | .Compare y _ _ _=>y
 | .UnaryOp _ y _=>y
 | .IfExp t _ _ _=>t
 | .Subscript y _ _=>y
 | .Call f _ _ _=>f
 | .Attribute y _ _=>y
 | .ListComp e _ _ _=>e
 | .SetComp e _ _ _=>e
 | _=>x
def bop (x:aH):zt:=match x with
 | .BinOp _ o _ _=>o
 | _=>.Add
def e2 (x:aH):aH:=match x with
 | .BinOp _ _ z _=>z
 | .IfExp _ y _ _=>y
 | .Subscript _ z _=>z
 | _=>x
def Pm (x:aH):List CmpOp:=match x with
 | .Compare _ os _ _=>os
 | _=>[]
def ls (x:aH):List aH:=match x with
 | .Compare _ _ zs _=>zs
 | .BoolOp _ vs _=>vs
 | .Tuple es _ _=>es
 | .List es _=>es
 | .Call _ as _ _=>as
 | _=>[]
def Po (x:aH):PySem.BoolOp:=match x with
 | .BoolOp o _ _=>o
 | _=>.And
def po (x:aH):Pos:=match x with
 | .Name _ p=>p
 | .BoolOp _ _ p=>p
 | .Call _ _ _ p=>p
 | .Attribute _ _ p=>p
 | .ListComp _ _ _ p=>p
 | _=>⟨0,0,0,0⟩
def uop (x:aH):PySem.UnaryOp:=match x with
 | .UnaryOp o _ _=>o
 | _=>.Not
def e3 (x:aH):aH:=match x with
 | .IfExp _ _ z _=>z
 | _=>x
def o1 (x:aH):Option aH:=match x with
 | .Slice l _ _ _=>l
 | _=>none
def o2 (x:aH):Option aH:=match x with
 | .Slice _ h _ _=>h
 | _=>none
def o3 (x:aH):Option aH:=match x with
 | .Slice _ _ s _=>s
 | _=>none
def kws (x:aH):List jR:=match x with
 | .Call _ _ ks _=>ks
 | _=>[]
def gns (x:aH):List qc:=match x with
 | .ListComp _ gs _ _=>gs
 | .SetComp _ gs _ _=>gs
 | _=>[]
def scp (x:aH) (d:fc):fc:=match x with
 | .ListComp _ _ sc _=>sc
 | .SetComp _ _ sc _=>sc
 | _=>d
def jK:aH->Nat
 | .Name .. => 0
 | .Constant .. => 1
 | .BinOp .. => 2
 | .Compare .. => 3
 | .BoolOp .. => 4
 | .UnaryOp .. => 5
 | .IfExp .. => 6
 | .Tuple .. => 7
 | .List .. => 8
 | .Subscript .. => 9
 | .Slice .. => 10
 | .Call .. => 11
 | .Attribute .. => 12
 | .ListComp .. => 13
 | .SetComp .. => 14
 | .JoinedStr .. => 15
 | .FormattedValue .. => 16
 | _=>99
def Og (x:aH):Nat->Prop
 | 0=>∃ y p,x = .Name y p
 | 1=>∃ v n p,x = .Constant v n p
 | 2=>∃ y o z p,x = .BinOp y o z p
 | 3=>∃ y os zs p,x = .Compare y os zs p
 | 4=>∃ o vs p,x = .BoolOp o vs p
 | 5=>∃ o y p,x = .UnaryOp o y p
 | 6=>∃ t y z p,x = .IfExp t y z p
 | 7=>∃ es n p,x = .Tuple es n p
 | 8=>∃ es p,x = .List es p
 | 9=>∃ y z p,x = .Subscript y z p
 | 10=>∃ l u s p,x = .Slice l u s p
 | 11=>∃ f as ks p,x = .Call f as ks p
 | 12=>∃ y m p,x = .Attribute y m p
 | 13=>∃ e gs sc p,x = .ListComp e gs sc p
 | 14=>∃ e gs sc p,x = .SetComp e gs sc p
 | 15=>∃ vs p,x = .JoinedStr vs p
 | 16=>∃ y cv sp p,x = .FormattedValue y cv sp p
 | _=>True
def FH (x:aH):Og x (jK x):=by
 cases x<;>first | trivial | exact ⟨_,_,rfl⟩ | exact ⟨_,_,_,rfl⟩ | exact ⟨_,_,_,_,rfl⟩ | exact ⟨_,_,_,_,_,rfl⟩
def dZ (h:((jK x == n) && b) = true):Og x n/\b = true:=by
 rw [aa] at h;exact ⟨eq_of_beq h.1▸FH x,h.2⟩
@[irreducible] noncomputable def fL (x:aH) (k:Str->Bool):Bool:=(jK x == 0) && k (st x)
def cS (h:fL x k = true):∃ y p,x = .Name y p/\k y = true:=by
 unfold fL at h;obtain ⟨⟨y,p,rfl⟩,h⟩:=dZ h;exact ⟨y,p,rfl,h⟩
@[irreducible] noncomputable def onC (x:aH) (k:Const->Bool):Bool:=(jK x == 1) && k (cst x)
def qH (h:onC x k = true):∃ v n p,x = .Constant v n p/\k v = true:=by
 unfold onC at h;obtain ⟨⟨v,n,p,rfl⟩,h⟩:=dZ h;exact ⟨v,n,p,rfl,h⟩
@[irreducible] noncomputable def EV (x:aH) (k:aH->zt->aH->Bool):Bool:=(jK x == 2) && k (e1 x) (bop x) (e2 x)
def wD (h:EV x k = true):∃ y o z p,x = .BinOp y o z p/\k y o z = true:=by
 unfold EV at h;obtain ⟨⟨y,o,z,p,rfl⟩,h⟩:=dZ h;exact ⟨y,o,z,p,rfl,h⟩
@[irreducible] noncomputable def ET (x:aH) (k:aH->List CmpOp->List aH->Bool):Bool:=(jK x == 3) && k (e1 x) (Pm x) (ls x)
def qG (h:ET x k = true):∃ y os zs p,x = .Compare y os zs p/\k y os zs = true:=by
 unfold ET at h;obtain ⟨⟨y,os,zs,p,rfl⟩,h⟩:=dZ h;exact ⟨y,os,zs,p,rfl,h⟩
@[irreducible] noncomputable def EU (x:aH) (k:PySem.BoolOp->List aH->Pos->Bool):Bool:=(jK x == 4) && k (Po x) (ls x) (po x)
def ng (h:EU x k = true):∃ o vs p,x = .BoolOp o vs p/\k o vs p = true:=by
 unfold EU at h;obtain ⟨⟨o,vs,p,rfl⟩,h⟩:=dZ h;exact ⟨o,vs,p,rfl,h⟩
@[irreducible] noncomputable def EI (x:aH) (k:PySem.UnaryOp->aH->Bool):Bool:=(jK x == 5) && k (uop x) (e1 x)
def pM (h:EI x k = true):∃ o y p,x = .UnaryOp o y p/\k o y = true:=by
 unfold EI at h;obtain ⟨⟨o,y,p,rfl⟩,h⟩:=dZ h;exact ⟨o,y,p,rfl,h⟩
@[irreducible] noncomputable def LR (x:aH) (k:aH->aH->aH->Bool):Bool:=(jK x == 6) && k (e1 x) (e2 x) (e3 x)
def Af (h:LR x k = true):∃ t y z p,x = .IfExp t y z p/\k t y z = true:=by
 unfold LR at h;obtain ⟨⟨t,y,z,p,rfl⟩,h⟩:=dZ h;exact ⟨t,y,z,p,rfl,h⟩
@[irreducible] noncomputable def wC (x:aH) (k:List aH->Bool):Bool:=(jK x == 7) && k (ls x)
def kQ (h:wC x k = true):∃ es n p,x = .Tuple es n p/\k es = true:=by
 unfold wC at h;obtain ⟨⟨es,n,p,rfl⟩,h⟩:=dZ h;exact ⟨es,n,p,rfl,h⟩
@[irreducible] noncomputable def EM (x:aH) (k:List aH->Bool):Bool:=(jK x == 8) && k (ls x)
def qF (h:EM x k = true):∃ es p,x = .List es p/\k es = true:=by
 unfold EM at h;obtain ⟨⟨es,p,rfl⟩,h⟩:=dZ h;exact ⟨es,p,rfl,h⟩
@[irreducible] noncomputable def sJ (x:aH) (k:aH->aH->Bool):Bool:=(jK x == 9) && k (e1 x) (e2 x)
def kR (h:sJ x k = true):∃ y z p,x = .Subscript y z p/\k y z = true:=by
 unfold sJ at h;obtain ⟨⟨y,z,p,rfl⟩,h⟩:=dZ h;exact ⟨y,z,p,rfl,h⟩
@[irreducible] noncomputable def LO (x:aH) (k:Option aH->Option aH->Option aH->Bool):Bool:=(jK x == 10) && k (o1 x) (o2 x) (o3 x)
def Ae (h:LO x k = true):∃ l u s p,x = .Slice l u s p/\k l u s = true:=by
 unfold LO at h;obtain ⟨⟨l,u,s,p,rfl⟩,h⟩:=dZ h;exact ⟨l,u,s,p,rfl,h⟩
@[irreducible] noncomputable def uq (x:aH) (k:aH->List aH->List jR->Pos->Bool):Bool:=(jK x == 11) && k (e1 x) (ls x) (kws x) (po x)
def sL (h:uq x k = true):∃ f as ks p,x = .Call f as ks p/\k f as ks p = true:=by
 unfold uq at h;obtain ⟨⟨f,as,ks,p,rfl⟩,h⟩:=dZ h;exact ⟨f,as,ks,p,rfl,h⟩
@[irreducible] noncomputable def LV (x:aH) (k:aH->Str->Pos->Bool):Bool:=(jK x == 12) && k (e1 x) (st x) (po x)
def IS (h:LV x k = true):∃ y m p,x = .Attribute y m p/\k y m p = true:=by
 unfold LV at h;obtain ⟨⟨y,m,p,rfl⟩,h⟩:=dZ h;exact ⟨y,m,p,rfl,h⟩
@[irreducible] noncomputable def IP (x:aH) (k:aH->List qc->fc->Pos->Bool):Bool:=(jK x == 13) && k (e1 x) (gns x) (scp x default) (po x)
def pN (h:IP x k = true):∃ e gs sc p,x = .ListComp e gs sc p/\k e gs sc p = true:=by
 unfold IP at h;obtain ⟨⟨e,gs,sc,p,rfl⟩,h⟩:=dZ h;exact ⟨e,gs,sc,p,rfl,h⟩
@[irreducible] noncomputable def LP (x:aH) (k:aH->List qc->fc->Bool):Bool:=(jK x == 14) && k (e1 x) (gns x) (scp x default)
def IK (h:LP x k = true):∃ e gs sc p,x = .SetComp e gs sc p/\k e gs sc = true:=by
 unfold LP at h;obtain ⟨⟨e,gs,sc,p,rfl⟩,h⟩:=dZ h;exact ⟨e,gs,sc,p,rfl,h⟩
def sls (x:dD):List aH:=match x with
 | .Assign ts _ _=>ts
 | _=>[]
def s1 (x:dD):aH:=match x with
 | .Assign _ y _=>y
 | .AugAssign t _ _ _=>t
 | .If t _ _ _=>t
 | .For t _ _ _ _=>t
 | .While t _ _ _=>t
 | .Expr y _=>y
 | _=>.Constant .none 0 ⟨0,0,0,0⟩
def s2 (x:dD):aH:=match x with
 | .AugAssign _ _ y _=>y
 | .For _ it _ _ _=>it
 | _=>.Constant .none 0 ⟨0,0,0,0⟩
def so (x:dD):Option aH:=match x with
 | .Return y _=>y
 | _=>none
def sb (x:dD):List dD:=match x with
 | .If _ y _ _=>y
 | .For _ _ y _ _=>y
 | .While _ y _ _=>y
 | _=>[]
def sc2 (x:dD):List dD:=match x with
 | .If _ _ z _=>z
 | .For _ _ _ z _=>z
 | .While _ _ z _=>z
 | _=>[]
def vN:dD->Nat
 | .Assign .. => 0
 | .AugAssign .. => 1
 | .Return .. => 2
 | .If .. => 3
 | .For .. => 4
 | .While .. => 5
 | .Expr .. => 6
 | _=>99
def Of (x:dD):Nat->Prop
 | 0=>∃ ts y p,x = .Assign ts y p
 | 1=>∃ t o y p,x = .AugAssign t o y p
 | 2=>∃ y p,x = .Return y p
 | 3=>∃ t y z p,x = .If t y z p
 | 4=>∃ t it y z p,x = .For t it y z p
 | 5=>∃ t y z p,x = .While t y z p
 | 6=>∃ y p,x = .Expr y p
 | _=>True
def FG (x:dD):Of x (vN x):=by
 cases x<;>first | trivial | exact ⟨_,_,rfl⟩ | exact ⟨_,_,_,rfl⟩ | exact ⟨_,_,_,_,rfl⟩ | exact ⟨_,_,_,_,_,rfl⟩
def lF (h:((vN x == n) && b) = true):Of x n/\b = true:=by
 rw [aa] at h;exact ⟨eq_of_beq h.1▸FG x,h.2⟩
@[irreducible] noncomputable def sM (x:dD) (k:List aH->aH->Bool):Bool:=(vN x == 0) && k (sls x) (s1 x)
def nh (h:sM x k = true):∃ ts y p,x = .Assign ts y p/\k ts y = true:=by
 unfold sM at h;obtain ⟨⟨ts,y,p,rfl⟩,h⟩:=lF h;exact ⟨ts,y,p,rfl,h⟩
@[irreducible] noncomputable def EK (x:dD) (k:Option aH->Bool):Bool:=(vN x == 2) && k (so x)
def EJ (h:EK x k = true):∃ y p,x = .Return y p/\k y = true:=by
 unfold EK at h;obtain ⟨⟨y,p,rfl⟩,h⟩:=lF h;exact ⟨y,p,rfl,h⟩
@[irreducible] noncomputable def EO (x:dD) (k:aH->List dD->List dD->Bool):Bool:=(vN x == 3) && k (s1 x) (sb x) (sc2 x)
def EN (h:EO x k = true):∃ t y z p,x = .If t y z p/\k t y z = true:=by
 unfold EO at h;obtain ⟨⟨t,y,z,p,rfl⟩,h⟩:=lF h;exact ⟨t,y,z,p,rfl,h⟩
@[irreducible] noncomputable def ES (x:dD) (k:aH->aH->List dD->List dD->Bool):Bool:=(vN x == 4) && k (s1 x) (s2 x) (sb x) (sc2 x)
def ER (h:ES x k = true):∃ t it y z p,x = .For t it y z p/\k t it y z = true:=by
 unfold ES at h;obtain ⟨⟨t,it,y,z,p,rfl⟩,h⟩:=lF h;exact ⟨t,it,y,z,p,rfl,h⟩
@[irreducible] noncomputable def LM (x:dD) (k:aH->List dD->List dD->Bool):Bool:=(vN x == 5) && k (s1 x) (sb x) (sc2 x)
def IJ (h:LM x k = true):∃ t y z p,x = .While t y z p/\k t y z = true:=by
 unfold LM at h;obtain ⟨⟨t,y,z,p,rfl⟩,h⟩:=lF h;exact ⟨t,y,z,p,rfl,h⟩
@[irreducible] noncomputable def IQ (x:dD) (k:aH->Bool):Bool:=(vN x == 6) && k (s1 x)
def Ag (h:IQ x k = true):∃ y p,x = .Expr y p/\k y = true:=by
 unfold IQ at h;obtain ⟨⟨y,p,rfl⟩,h⟩:=lF h;exact ⟨y,p,rfl,h⟩
section
variable {α:Type} {xs:List α}
@[irreducible] noncomputable def on0 (xs:List α) (k:Bool):Bool:=match xs with
 | []=>k
 | _=>false
def gE (h:on0 xs k = true):xs = []/\k = true:=by
 unfold on0 at h;cases xs<;>first | exact ⟨rfl,h⟩ | cases h
@[irreducible] noncomputable def onS (xs:List α) (k:α->List α->Bool):Bool:=match xs with
 | y::ys=>k y ys
 | _=>false
def ft (h:onS xs k = true):∃ y ys,xs = y::ys/\k y ys = true:=by
 unfold onS at h;cases xs<;>first | exact ⟨_,_,rfl,h⟩ | cases h
@[irreducible] noncomputable def on1 (xs:List α) (k:α->Bool):Bool:=onS xs λy ys=>on0 ys (k y)
def fu (h:on1 xs k = true):∃ y,xs = [y]/\k y = true:=by
 unfold on1 at h;obtain ⟨y,ys,rfl,h1⟩:=ft h;obtain ⟨rfl,h2⟩:=gE h1;exact ⟨y,rfl,h2⟩
@[irreducible] noncomputable def on2 (xs:List α) (k:α->α->Bool):Bool:=onS xs λy ys=>on1 ys (k y)
def ur (h:on2 xs k = true):∃ y z,xs = [y,z]/\k y z = true:=by
 unfold on2 at h;obtain ⟨y,ys,rfl,h1⟩:=ft h;obtain ⟨z,rfl,h2⟩:=fu h1;exact ⟨y,z,rfl,h2⟩
end
@[irreducible] noncomputable def onI (v:Const) (k:Int->Bool):Bool:=match v with
 | .int i=>k i
 | _=>false
def LS (h:onI v k = true):∃ i,v = .int i/\k i = true:=by
 unfold onI at h;cases v<;>first | exact ⟨_,rfl,h⟩ | cases h
@[irreducible] noncomputable def onB (v:Const) (k:Bool->Bool):Bool:=match v with
 | .bool i=>k i
 | _=>false
def LU (h:onB v k = true):∃ i,v = .bool i/\k i = true:=by
 unfold onB at h;cases v<;>first | exact ⟨_,rfl,h⟩ | cases h
@[irreducible] noncomputable def onT (v:Const) (k:Str->Bool):Bool:=match v with
 | .str i=>k i
 | _=>false
def LN (h:onT v k = true):∃ i,v = .str i/\k i = true:=by
 unfold onT at h;cases v<;>first | exact ⟨_,rfl,h⟩ | cases h
def JP:Const->Bool
 | .none=>true
 | _=>false
def FA (h:JP v = true):v = .none:=by
 cases v<;>first | rfl | cases h
@[irreducible] noncomputable def rM (x:aH) (k:Str->List aH->Bool):Bool:=uq x λf as ks _=>fL f λn=>on0 ks (k n as)
def fx (h:rM x k = true):∃ n np as p,x = .Call (.Name n np) as [] p/\k n as = true:=by
 unfold rM at h;obtain ⟨f,as,ks,p,rfl,h1⟩:=sL h;obtain ⟨n,np,rfl,h2⟩:=cS h1;obtain ⟨rfl,h3⟩:=gE h2;exact ⟨n,np,as,p,rfl,h3⟩
@[irreducible] noncomputable def onM (x:aH) (k:aH->Str->List aH->Bool):Bool:=uq x λf as ks cp=>LV f λy m ap=>on0 ks (decide (ap.endLine = cp.line) && k y m as)
def um (h:onM x k = true):∃ y m ap as cp,x = .Call (.Attribute y m ap) as [] cp/\ap.endLine = cp.line/\k y m as = true:=by
 unfold onM at h;obtain ⟨f,as,ks,cp,rfl,h1⟩:=sL h;obtain ⟨y,m,ap,rfl,h2⟩:=IS h1;obtain ⟨rfl,h3⟩:=gE h2;rw [aa] at h3;exact ⟨y,m,ap,as,cp,rfl,of_decide_eq_true h3.1,h3.2⟩
@[irreducible] noncomputable def onG (g:qc) (k:aH->aH->List aH->Bool):Bool:=decide (g.is_async = 0) && k g.target g.iter g.ifs
def uo (h:onG g k = true):∃ t it il,g = ⟨t,it,il,0⟩/\k t it il = true:=by
 obtain ⟨t,it,il,a⟩:=g;unfold onG at h;rw [aa] at h;have e:a = 0:=of_decide_eq_true h.1;subst e;exact ⟨t,it,il,rfl,h.2⟩
def tW:aH->Option (List Str)
 | .Name x _=>some [x]
 | .Tuple es _ _=>es.mapM fun | .Name x _=>some x | _=>none
 | _=>none
def MC (c:Ck):List Nat->List aH->Bool
 | [],es=>on0 es true
 | i::is,es=>onS es λe r=>fL e (λx=>jZ c i x) && MC c is r
def rg (c:Ck):Tg->aH->Bool
 | .nm i,x=>fL x λy=>jZ c i y
 | .tp is,x=>wC x λes=>MC c is es
def mh (n:Nat):Tg->Bool
 | .nm i=>decide (n<=i)
 | .tp is=>is.all λi=>decide (n<=i)
def jM (ts:List Str) (N:List Str):List Str:=N.map λy=>if ts.contains y then y++(" ":Str) else y
def jX (c:Ck) (sc:fc):Bool :=
 decide (sc.kind = .function) && sc.names.all λp=>decide (p.2≠.cell) && (!decide (p.2 = .local) || decide (sc.names.lookup p.1 = some .local)) &&
  (!decide (p.2 = .free) || (match c.sc.names.lookup p.1 with | some .cell=>true | some .free=>true | _=>false))
def namesOk (c:Ck) (sc:fc) (Nc:List Str):Bool :=
 decide Nc.Nodup && (cc c.N.length).all λi=>match Nc[i]? with
  | some x=>!Bq sc x || (decide (c.N[i]? = some x) && decide (sc.names.lookup x = some .free))
  | none=>false
def JO:PySem.UnaryOp->Bool
 | .Not=>true
 | _=>false
def isNeg:PySem.UnaryOp->Bool
 | .USub=>true
 | _=>false
def wV (h:JO o = true):o = .Not:=by cases o<;>first | rfl | cases h
def FC (h:isNeg o = true):o = .USub:=by cases o<;>first | rfl | cases h
@[irreducible] noncomputable def onO (x:Option aH) (k:aH->Bool):Bool:=match x with
 | some y=>k y
 | none=>false
def EL (h:onO x k = true):∃ y,x = some y/\k y = true:=by
 unfold onO at h
 cases x with
 | none=>cases h
 | some y=>exact ⟨y,rfl,h⟩
def gG:aH->Bool
 | .Name .. | .Constant .. | .BinOp .. | .Compare .. | .BoolOp .. | .UnaryOp .. | .IfExp .. | .Tuple .. | .List .. | .Subscript .. | .Call .. | .ListComp .. => true
 | .JoinedStr .. => true
 | _=>false
variable [Tbs]
def Je (x:aH):Bool:=jK x == 7
mutual
noncomputable def ckE (c:Ck):E->aH->Bool
 | .var i,x=>fL x λy=>jf c i y
 | .pk i,x=>fL x λy=>jf c i y
 | .glob g,x=>fL x λy=>decide (c.gn[g]? = some y) && gH c y
 | .int i,x=>onC x λv=>onI v λj=>decide (i = j)
 | .bl b,x=>onC x λv=>onB v λj=>decide (b = j)
 | .non,x=>onC x JP
 | .str t,x=>onC x λv=>onT v λu=>decide (t = u)
 | .bin op a b,x=>EV x λy o z=>NY op o && ckE c a y && ckE c b z && (!cj a || np b)
 | .cmp op a b,x=>ET x λy os zs=>on1 os λo=>on1 zs λz=>AJ op o && ckE c a y && ckE c b z && (!cj a || np b)
 | .and a b,x=>EU x λo vs p=>onS vs λy r=>onS r λz r2=>(match o with
   | .And=>true
   | .Or=>false) && ckE c a y && ckE c b (match r2 with
   | []=>z
   | _::_=>.BoolOp .And (z::r2) p) && !cj a && !cj b
 | .or a b,x=>EU x λo vs p=>onS vs λy r=>onS r λz r2=>(match o with
   | .And=>false
   | .Or=>true) && ckE c a y && ckE c b (match r2 with
   | []=>z
   | _::_=>.BoolOp .Or (z::r2) p) && !cj a && !cj b
 | .not a,x=>EI x λo y=>JO o && ckE c a y && !cj a
 | .neg a,x=>EI x λo y=>isNeg o && ckE c a y && !cj a
 | .ite k a b,x=>LR x λt y z=>ckE c k t && ckE c a y && ckE c b z && !cj a && !cj b
 | .tup es,x=>wC x λxs=>kE c es xs && mw es
 | .lst es,x=>EM x λxs=>kE c es xs && mw es
 | .ix a b,x=>sJ x λy z=>ckE c a y && ckE c b z && (!cj a || np b) && !cj b
 | .sl a lo hi,x=>sJ x λy z=>LO z λl h s=>s.isNone && (ckE c a y && ckO c lo l && ckO c hi h && (!cj a || (npO lo && npO hi)))
 | .call f es,x=>rM x λn xs=>(match c.fns[f]? with
    | some (m,ps)=>decide (m = n) && gH c n && decide (ps.length = FV es) && kE c es xs && mw es && !xs.isEmpty
    | none=>false)
 | .blt f es,x=>rM x λn xs=>decide (tj f = n) && gH c n && (match tyName f with
    | some T=>on2 xs λy w=>fL w λt=>decide (t = (T:Str)) && gH c t && kE c es [y] && rN es
    | none=>!xs.isEmpty && kE c es xs && rN es)
 | .bad,x=>gG x
 | .isdig i,x=>onM x λy m as=>fL y λy=>on0 as (decide (m = ("isdigit":Str)) && jf c i y)
 | .comp k tg src ifs elt,x=>IP x λex gs sc _=>on1 gs λg=>onG g λt it il=>(match tW t with
    | some ts=>decide (ts.length = k) && mh c.N.length tg && jX c sc && namesOk c sc (jM ts c.N++ts) && rg ⟨jM ts c.N++ts,sc,c.fns,c.gn⟩ tg t && ckI c src t it &&
       ckG ⟨jM ts c.N++ts,sc,c.fns,c.gn⟩ ifs il && ckE ⟨jM ts c.N++ts,sc,c.fns,c.gn⟩ elt ex && !cj elt
    | none=>false)
 | .sset k tg1 src1 tg2 src2 ifs elt,x=>rM x λf as=>on1 as λw=>LP w λex gs sc=>on2 gs λg1 g2=>onG g1 λt1 it1 il1=>onG g2 λt2 it2 il=>on0 il1 (decide (f = ("sorted":Str)) && gH c f && (match tW t1,tW t2 with
    | some n1,some n2=>decide ((n1++n2).length = k) && mh c.N.length tg1 && mh c.N.length tg2 && jX c sc && namesOk c sc (jM (n1++n2) c.N++(n1++n2)) && rg ⟨jM (n1++n2) c.N++(n1++n2),sc,c.fns,c.gn⟩ tg1 t1 && rg ⟨jM (n1++n2) c.N++(n1++n2),sc,c.fns,c.gn⟩ tg2 t2 && ckI c src1 t1 it1 &&
       ckI ⟨jM (n1++n2) c.N++(n1++n2),sc,c.fns,c.gn⟩ src2 t2 it2 && ckG ⟨jM (n1++n2) c.N++(n1++n2),sc,c.fns,c.gn⟩ ifs il && ckE ⟨jM (n1++n2) c.N++(n1++n2),sc,c.fns,c.gn⟩ elt ex && !cj elt
    | _,_=>false))
noncomputable def kE (c:Ck):Es->List aH->Bool
 | .nil,xs=>on0 xs true
 | .cons e es,xs=>onS xs λy ys=>ckE c e y && kE c es ys
noncomputable def ckO (c:Ck):Eo->Option aH->Bool
 | .no,x=>x.isNone
 | .yes e,x=>onO x λy=>ckE c e y && !cj e
noncomputable def ckG (c:Ck):Eo->List aH->Bool
 | .no,x=>on0 x true
 | .yes e,x=>on1 x λy=>ckE c e y
noncomputable def ckI (c:Ck):It->aH->aH->Bool
 | .rng e,_,x=>rM x λn xs=>on1 xs λy=>decide (n = ("range":Str)) && gH c n && ckE c e y && !cj e
 | .rng2 a b,_,x=>rM x λn xs=>on2 xs λy z=>decide (n = ("range":Str)) && gH c n && ckE c a y && ckE c b z && !cj a && !cj b
 | .rev e,_,x=>rM x λn xs=>on1 xs λy=>decide (n = ("reversed":Str)) && gH c n && ckE c e y && !cj e
 | .sq e,_,x=>ckE c e x && !cj e
 | .zp es,t,x=>rM x λn xs=>on2 xs λu v=>Je t && decide (n = ("zip":Str)) && gH c n && kE c es [u,v] && mw es
end
def lL (h:kE c es (y::ys) = true):∃ e es',es = .cons e es'/\ckE c e y = true/\kE c es' ys = true:=by
 cases es with
 | nil=>cases (gE h).1
 | cons e es =>
   obtain ⟨_,_,q,h'⟩:=ft h;cases q;rw [aa] at h';exact ⟨e,es,rfl,h'⟩
def vK (h:rg c tg t = true):(∃ x p,t = .Name x p)\/∃ es n p,t = .Tuple es n p:=by
 cases tg with
 | nm i=>obtain ⟨x,p,rfl,_⟩:=cS h;exact .inl ⟨x,p,rfl⟩
 | tp is=>obtain ⟨es,n,p,rfl,_⟩:=kQ h;exact .inr ⟨es,n,p,rfl⟩
def hdN (h:fL x k = true):gG x = true:=by obtain ⟨_,_,rfl,_⟩:=cS h;rfl
def hdC (h:onC x k = true):gG x = true:=by obtain ⟨_,_,_,rfl,_⟩:=qH h;rfl
def hdF (h:rM x k = true):gG x = true:=by obtain ⟨_,_,_,_,rfl,_⟩:=fx h;rfl
def hdM (h:onM x k = true):gG x = true:=by obtain ⟨_,_,_,_,_,rfl,_⟩:=um h;rfl
def hdB (h:EU x k = true):gG x = true:=by obtain ⟨_,_,_,rfl,_⟩:=ng h;rfl
def hdU (h:EI x k = true):gG x = true:=by obtain ⟨_,_,_,rfl,_⟩:=pM h;rfl
def hdS (h:sJ x k = true):gG x = true:=by obtain ⟨_,_,_,rfl,_⟩:=kR h;rfl
def cO (h:ckE c e x = true):gG x = true:=by
 cases e with
 | var i=>exact hdN h
 | pk i=>exact hdN h
 | glob g=>exact hdN h
 | int i=>exact hdC h
 | bl b=>exact hdC h
 | non=>exact hdC h
 | str t=>exact hdC h
 | bin op a b=>obtain ⟨_,_,_,_,rfl,_⟩:=wD h;rfl
 | cmp op a b=>obtain ⟨_,_,_,_,rfl,_⟩:=qG h;rfl
 | and a b=>exact hdB h
 | or a b=>exact hdB h
 | not a=>exact hdU h
 | neg a=>exact hdU h
 | ite k a b=>obtain ⟨_,_,_,_,rfl,_⟩:=Af h;rfl
 | tup es=>obtain ⟨_,_,_,rfl,_⟩:=kQ h;rfl
 | lst es=>obtain ⟨_,_,rfl,_⟩:=qF h;rfl
 | ix a b=>exact hdS h
 | sl a lo hi=>exact hdS h
 | call f es=>exact hdF h
 | blt f es=>exact hdF h
 | bad=>exact h
 | isdig i=>exact hdM h
 | comp k tg src ifs elt=>obtain ⟨_,_,_,_,rfl,_⟩:=pN h;rfl
 | sset k tg1 src1 tg2 src2 ifs elt=>exact hdF h
def cY (h:gG x = true) (xs:List aH) (env:Env):starEach (x::xs) env = (false,eval x env)::starEach xs env:=by
 cases x<;>first | rfl | (exact absurd h aj)
def FK (h:gG x = true) (env:Env) (v:ae):foldedSetIterable x env v = pure v:=by
 cases x<;>first | rfl | (exact absurd h aj)
def sT (h:gG x = true) (op:CmpOp):behindInMarks op x = false:=by
 cases x<;>first | rfl | (exact absurd h aj)
def Ji (h:gG x = true):L2.PlainIx x:=by
 intro o i;cases x<;>first | rfl | (exact absurd h aj)
def kU:aH->Bool
 | .ListComp .. => true
 | _=>false
def qR (h:gG x = true) (hc:kU x = false) (t:Option aH) (n:Nat) (env:Env):swapsWith x t n env = pure false:=by
 cases x<;>first | rfl | (exact absurd h aj) | (exact absurd hc.symm aj)
def FF:E->Bool
 | .comp .. => true
 | _=>false
@[irreducible] noncomputable def LQ (x:aH) (k:Str->Pos->Bool):Bool:=(jK x == 0) && k (st x) (po x)
def IM (h:LQ x k = true):∃ y p,x = .Name y p/\k y p = true:=by
 unfold LQ at h;obtain ⟨⟨y,p,rfl⟩,h⟩:=dZ h;exact ⟨y,p,rfl,h⟩
def newOk:E->Bool
 | .lst _=>true
 | .blt .toLst _=>true
 | .sl _ _ _=>true
 | _=>false
def isNm (x:aH):Bool:=jK x == 0
mutual
noncomputable def ckS (c:Ck):S->dD->Bool
 | .asg tg e,x=>sM x λts y=>on1 ts λt=>rg c tg t && ckE c e y && !cj e && !kU y && (isNm t || !Je y)
 | .new i e,x=>sM x λts y=>on1 ts λt=>fL t λt=>jZ c i t && ckE c e y && !kU y && newOk e
 | .cmp own i e,x=>FF e && sM x λts y=>on1 ts λt=>LQ t λt tp=>IP y λex gs sc p=>jZ c i t && ckE c e (.ListComp ex gs sc p) && ((decide (c.sc.names.lookup t = some .local) && decide (tp.line = p.line) && !(sc.names.any λ(n,k)=>n == t && (k == .local || k == .cell))) || (!own && decide (c.sc.names.lookup t = some .cell)))
 | .ret e,x=>EK x λy=>onO y λy=>ckE c e y && !cj e
 | .ifs k a b,x=>EO x λt y z=>ckE c k t && xy c a y && xy c b z
 | .for_ tg src body,x=>ES x λt it y z=>on0 z (rg c tg t && ckI c src t it && xy c body y)
 | .while_ k body,x=>LM x λt y z=>on0 z (ckE c k t && xy c body y)
 | .append i e,x=>IQ x λw=>onM w λy m as=>fL y λy=>on1 as λz=>decide (m = ("append":Str)) && jf c i y && ckE c e z && !cj e
 | .extend i e,x=>IQ x λw=>onM w λy m as=>fL y λy=>on1 as λz=>decide (m = ("extend":Str)) && jf c i y && ckE c e z && !cj e
 | .setix i j e,x=>sM x λts y=>on1 ts λt=>sJ t λw z=>fL w λt=>jf c i t && ckE c e y && !cj e && !kU y && ckE c j z && !cj j
 | .bad,_=>true
noncomputable def xy (c:Ck):Ss->List dD->Bool
 | .nil,xs=>on0 xs true
 | .cons s ss,xs=>onS xs λy ys=>ckS c s y && xy c ss ys
end
end PP
end
section
namespace PP
open PySem L2 PyProof.Rows
variable [Tbs]
def OD (K:PySem.W.Frag) (G:Gh) (F:aw->Prop) (σ:L2.St) (H:Hp) (m nP:Bool) (d:D) (δ':Loc) (Q:VK):Prop :=
 ∀ v H' F',Step G F H F' H'->(nP = true->Sim H H')->Ok K G F' σ H' δ'->RelM m K H' F' d v->Q v H'
def tE (K:PySem.W.Frag) (cx:Cl) (e:E):TE:=λσ H Q=>∃ G F δ d δ',Ok K G F σ H δ/\evE cx e δ = some (d,δ')/\OD K G F σ H (cj e) (np e) d δ' Q
def tT (K:PySem.W.Frag) (cx:Cl) (e:E):TT:=λσ H Q=>∃ G F δ b δ',Ok K G F σ H δ/\evT cx e δ = some (b,δ') /\
 ∀ H' F',Step G F H F' H'->(np e = true->Sim H H')->Ok K G F' σ H' δ'->Q b H'
def oZ (K:PySem.W.Frag) (H:Hp) (F:aw->Prop):Es->List D->List V->Prop
 | .nil,ds,vs=>ds = []/\vs = []
 | .cons e es,ds,vs=>∃ d ds' v vs',ds = d::ds'/\vs = v::vs'/\RelM (cj e) K H F d v/\oZ K H F es ds' vs'
def tEs (K:PySem.W.Frag) (cx:Cl) (es:Es):TA:=λσ H Q=>∃ G F δ ds δ',Ok K G F σ H δ/\fW cx es δ = some (ds,δ') /\
 ∀ vs H' F',Step G F H F' H'->(npS es = true->Sim H H')->Ok K G F' σ H' δ'->oZ K H' F' es ds vs->Q vs H'
def tO (K:PySem.W.Frag) (cx:Cl) (o:Eo):TO:=λσ H Q=>∃ G F δ d δ',Ok K G F σ H δ/\evO cx o δ = some (d,δ') /\
 ∀ H' F',Step G F H F' H'->(npO o = true->Sim H H')->Ok K G F' σ H' δ'->Q d H'
def tG (K:PySem.W.Frag) (cx:Cl) (o:Eo):TT:=λσ H Q=>∃ G F δ b δ',Ok K G F σ H δ/\evG cx o δ = some (b,δ') /\
 ∀ H' F',Step G F H F' H'->(npO o = true->Sim H H')->Ok K G F' σ H' δ'->Q b H'
def Wk (K:PySem.W.Frag) (G:Gh) (F:aw->Prop) (H:Hp) (J:L2.It) (ds:List D):Prop:=∀ F2 H2,Step G F H F2 H2->FD F2 H2->∀ i:Nat,
 (∀ d,ds[i]? = some d->J.go i H2/\∀ x H3,J.yld i H2 x H3->ij H2 H3/\Rel K H3 F2 d x)/\(i = ds.length->J.stop i H2)
def tI (K:PySem.W.Frag) (cx:Cl) (t:It):TI:=λσ H R=>∃ G F δ ds δ',Ok K G F σ H δ/\evI cx t δ = some (ds,δ') /\
 ∀ J H' F',Step G F H F' H'->(npI t = true->Sim H H')->Ok K G F' σ H' δ'->(∀ G',Wk K G' F' H' J ds)->R J H'
section
variable {K:PySem.W.Frag} {cx:Cl} {X:Cx}
def PE.imp (h:PE X e t) (w:∀ σ H Q,t' σ H Q->t σ H Q):PE X e t':=λpins s σ H Q I q=>h pins s σ H Q I (w σ H Q q)
def PT.imp (h:PT X e t) (w:∀ σ H Q,t' σ H Q->t σ H Q):PT X e t':=λpins s σ H Q I q=>h pins s σ H Q I (w σ H Q q)
def two {a b:E} {σ:L2.St} {G:Gh} {H:Hp} {F:aw->Prop} {δ δ1 δ2:Loc} {x y:D} (ok:Ok K G F σ H δ) (ea:evE cx a δ = some (x,δ1)) (eb:evE cx b δ1 = some (y,δ2)) (pc:(!cj a || np b) = true) {R:V->V->Hp->Prop}
 (k:∀ v u H2 F2,Step G F H F2 H2->((np a && np b) = true->Sim H H2)->Ok K G F2 σ H2 δ2->RelM (cj a) K H2 F2 x v->RelM (cj b) K H2 F2 y u->R v u H2) :
 tE K cx a σ H λv H1=>tE K cx b σ H1 λu H2=>R v u H2:=by
 refine ⟨G,F,δ,x,δ1,ok,ea,λv H1 F1 st1 sm1 ok1 r1=>⟨G,F1,δ1,y,δ2,ok1,eb,λu H2 F2 st2 sm2 ok2 r2=>?_⟩⟩;refine k v u H2 F2 (st1.trans st2) (λz=>?_) ok2 (RelM.step ok1.fd st2 (λz=>sm2 (by rw [z] at pc;simpa using pc)) r1) r2;rw [aa] at z;exact (sm1 z.1).trans (sm2 z.2)
def dF.int {H:Hp} {F:aw->Prop} {i:Int} {v:V} (h:dF K H F (.int i) v):v = .int i:=by
 rcases h with h | ⟨_,_,_,e,_⟩
 . unfold Rel at h;exact h
 . cases e
def dF.bl (h:dF K H F (.bl i) v):v = .bl i:=by
 rcases h with h | ⟨_,_,_,e,_⟩
 . unfold Rel at h;exact h
 . cases e
def dF.str {H:Hp} {F:aw->Prop} {i:Str} {v:V} (h:dF K H F (.str i) v):v = .str i:=by
 rcases h with h | ⟨_,_,_,e,_⟩
 . unfold Rel at h;exact h
 . cases e
def dF.tup {H:Hp} {F:aw->Prop} {ds:List D} {v:V} (h:dF K H F (.tup ds) v):∃ a xs,v = .ref a/\SqT K H a xs/\aI K H F ds xs:=by
 rcases h with h | ⟨_,_,_,e,_⟩
 . unfold Rel at h;exact h
 . cases e
def dF.lst {H:Hp} {F:aw->Prop} {ds:List D} {v:V} (h:dF K H F (.lst ds) v):∃ a xs,v = .ref a/\LsB K H a xs/\aI K H F ds xs:=by
 rcases h with h | ⟨a,xs,_,e,e2,h1,h2⟩
 . unfold Rel at h;obtain ⟨a,xs,e,h1,h2⟩:=h;exact ⟨a,xs,e,h1.b,h2⟩
 . cases e;exact ⟨a,xs,e2,.inl (.inl h1),h2⟩
def cR {H:Hp} {F:aw->Prop} (i:Int):Rel K H F (.int i) (.int i):=by unfold Rel;rfl
def kO (i:Bool):Rel K H F (.bl i) (.bl i):=by unfold Rel;rfl
def js {H:Hp} {F:aw->Prop} (i:Str):Rel K H F (.str i) (.str i):=by unfold Rel;rfl
def zT:Rel K H F .non .non:=by unfold Rel;rfl
def Ok.laid {σ:L2.St} {G:Gh} {H:Hp} {F:aw->Prop} {δ:Loc} {p:aw} (ok:Ok K G F σ H δ) (hp:H p = none) (o:HO):Ok K G F σ (upd H p o) δ/\Step G F H F (upd H p o)/\Sim H (upd H p o)/\¬ F p :=
 ⟨ok.same' (cD hp o),Step.of_same (cD hp o),.of (cD hp o),ok.fd.none hp⟩
def mj {σ:L2.St} {G:Gh} {H:Hp} {F:aw->Prop} {δ:Loc} {p:aw} {ds:List D} {xs:List V} (ok:Ok K G F σ H δ) (hp:H p = none) (r:aI K H F ds xs):Rel K (upd H p (.tup xs)) F (.tup ds) (.ref p):=by
 unfold Rel;exact ⟨p,xs,rfl,SqT.of cy,aI.step (G:=G) ok.fd (Step.of_same (cD hp _)) ds xs r⟩
def mn {σ:L2.St} {G:Gh} {H:Hp} {F:aw->Prop} {δ:Loc} {p:aw} {ds:List D} {xs:List V} (ok:Ok K G F σ H δ) (hp:H p = none) (r:aI K H F ds xs):Rel K (upd H p (.lst xs)) F (.lst ds) (.ref p):=by
 unfold Rel;exact ⟨p,xs,rfl,.inl ⟨.inl cy,(ok.laid hp (.lst xs)).2.2.2⟩,aI.step (G:=G) ok.fd (Step.of_same (cD hp _)) ds xs r⟩
def HR {a b:E} {y z:aH} {op:Op} {o:zt} {pos:Pos} (ho:NY op o = true) (pc:(!cj a || np b) = true) (ha:PE X y (tE X.K cx a)) (hb:PE X z (tE X.K cx b)):PE X (.BinOp y o z pos) (tE X.K cx (.bin op a b)):=by
 intro pins s σ H Q I h;obtain ⟨G,F,δ,d,δ',ok,ev,post⟩:=h;simp only [evE,af,ag] at ev;obtain ⟨⟨x,δ1⟩,ea,⟨y',δ2⟩,eb,d',hd,e⟩:=ev;cases e;dsimp only at eb hd post;have fin:∀ v H2 F2,Step G F H F2 H2->((np a && np b) = true->Sim H H2)->Ok X.K G F2 σ H2 δ2->Rel X.K H2 F2 d v->Q v H2:=λv H2 F2 st sm ok2 r=>post v H2 F2 st sm ok2 r;cases op<;>cases o<;>first | (exact absurd ho aj) | skip
 . refine sI (LL.or (yC.or (IG.or (II.or IH)))) ha hb pins s σ H Q I (two ok ea eb pc λv u H2 F2 st sm ok2 r1 r2=>?_);change MR x y' = some d at hd;unfold MR at hd;split at hd
   . cases hd;have e1:=r1.b.int;have e2:=r2.b.int;subst e1;subst e2;exact .inl ⟨_,_,rfl,rfl,fin _ _ _ st sm ok2 (cR _)⟩
   . split at hd
     . cases hd;have e1:=r1.b.str;have e2:=r2.b.str;subst e1;subst e2;exact .inr (.inl ⟨_,_,rfl,rfl,‹_›,fin _ _ _ st sm ok2 (js _)⟩)
     . cases hd
   . cases hd;obtain ⟨p1,xs1,e1,s1,l1⟩:=r1.b.tup;obtain ⟨p2,xs2,e2,s2,l2⟩:=r2.b.tup;subst e1;subst e2;unfold aI at l1;subst l1;refine .inr (.inr (.inr (.inl ⟨p1,p2,xs2,rfl,rfl,s1,s2,fin _ _ _ st sm ok2 ?_⟩)));unfold Rel;exact ⟨p2,xs2,rfl,s2,l2⟩
   . split at hd
     . rename_i q;cases hd;obtain ⟨p1,xs1,e1,s1,l1⟩:=r1.b.tup;obtain ⟨p2,xs2,e2,s2,l2⟩:=r2.b.tup;subst e1;subst e2;refine .inr (.inr (.inl ⟨p1,p2,xs1,xs2,rfl,rfl,s1,s2,λz=>?_,by rw [l1.length,l2.length];exact q,λz=>?_,λ_ p hp=>?_⟩))
       . have:=l1.length;rw [z] at this;cases this
       . refine fin _ _ _ st sm ok2 ?_;have e:∀ {ys:List D},aI X.K H2 F2 ys xs2->ys = []:=λ{ys} r=>by have:=r.length;rw [z] at this;exact eL.mp this.symm
         have:=e l2;subst this;rw [cB];unfold Rel;exact ⟨p1,xs1,rfl,s1,l1⟩
       . obtain ⟨o1,o2,o3,o4⟩:=ok2.laid hp (.tup (xs1++xs2));exact fin _ _ _ (st.trans o2) (λz=>(sm z).trans o3) o1 (mj ok2 hp (l1.append l2))
     . cases hd
   . split at hd
     . rename_i q;cases hd;obtain ⟨p1,xs1,e1,s1,l1⟩:=r1.b.lst;obtain ⟨p2,xs2,e2,s2,l2⟩:=r2.b.lst;subst e1;subst e2;refine .inr (.inr (.inr (.inr ⟨p1,p2,xs1,xs2,rfl,rfl,s1,s2,by rw [l1.length,l2.length];exact q,λp hp=>?_⟩)));obtain ⟨o1,o2,o3,o4⟩:=ok2.laid hp (.lst (xs1++xs2));exact fin _ _ _ (st.trans o2) (λz=>(sm z).trans o3) o1 (mn ok2 hp (l1.append l2))
     . cases hd
   . cases hd
 . refine sI LD ha hb pins s σ H Q I (two ok ea eb pc λv u H2 F2 st sm ok2 r1 r2=>?_);change KG x y' = some d at hd;unfold KG at hd;split at hd<;>first | (cases hd;done) | skip
   cases hd;have e1:=r1.b.int;have e2:=r2.b.int;subst e1;subst e2;exact ⟨_,_,rfl,rfl,fin _ _ _ st sm ok2 (cR _)⟩
 . refine sI (IF.or IE) ha hb pins s σ H Q I (two ok ea eb pc λv u H2 F2 st sm ok2 r1 r2=>?_);change Mb x y' = some d at hd;unfold Mb at hd;split at hd<;>first | (cases hd;done) | skip
   . split at hd
     . rename_i q;cases hd;have e1:=r1.b.int;have e2:=r2.b.int;subst e1;subst e2;refine .inl ⟨_,_,rfl,rfl,?_,fin _ _ _ st sm ok2 (cR _)⟩;exact IV q
     . cases hd
   . split at hd
     . rename_i q;cases hd;have e1:=r1.b.str;have e2:=r2.b.int;subst e1;subst e2;exact .inr ⟨_,_,rfl,rfl,q,fin _ _ _ st sm ok2 (js _)⟩
     . cases hd
 . refine sI LH ha hb pins s σ H Q I (two ok ea eb pc λv u H2 F2 st sm ok2 r1 r2=>?_);change Mc x y' = some d at hd;unfold Mc at hd;split at hd<;>first | (cases hd;done) | skip
   split at hd
   . rename_i q;cases hd;have e1:=r1.b.int;have e2:=r2.b.int;subst e1;subst e2;exact ⟨_,_,rfl,rfl,q,fin _ _ _ st sm ok2 (cR _)⟩
   . cases hd
 . refine sI EG ha hb pins s σ H Q I (two ok ea eb pc λv u H2 F2 st sm ok2 r1 r2=>?_);change FO x y' = some d at hd;unfold FO at hd;split at hd<;>first | (cases hd;done) | skip
   split at hd
   . rename_i q;cases hd;have e1:=r1.b.int;have e2:=r2.b.int;subst e1;subst e2;exact ⟨_,_,rfl,rfl,q,fin _ _ _ st sm ok2 (cR _)⟩
   . cases hd
 . refine sI LF ha hb pins s σ H Q I (two ok ea eb pc λv u H2 F2 st sm ok2 r1 r2=>?_);change Lk x y' = some d at hd;unfold Lk at hd;split at hd<;>first | (cases hd;done) | skip
   split at hd
   . rename_i q;cases hd;have e1:=r1.b.int;have e2:=r2.b.int;subst e1;subst e2;exact ⟨_,_,rfl,rfl,q,fin _ _ _ st sm ok2 (cR _)⟩
   . cases hd
end
end PP
end
section
namespace PP
open PySem L2 PySem.SeqAt PyProof.Rows PySem.W
variable [Tbs]
def jW (h:sortable ds = true):ds.length < 64/\(∀ x∈ds,bE x≠0/\bE x = bE (ds.getD 0 .non))/\∀ x∈ds,∀ y∈ds,∃ k,iN x y = some k:=by
 unfold sortable at h;simp only [aa,cQ,decide_eq_true_eq] at h;obtain ⟨⟨h1,h2⟩,h3⟩:=h;refine ⟨h1,λx hx=>?_,λx hx y hy=>gf.mp (h3 x hx y hy)⟩;have:=h2 x hx;exact ⟨by simpa using this.1,by simpa using this.2⟩
def sv (ds:List D):(fU ds).length = ds.length:=by
 unfold fU;by_cases h:ds.length < 2
 . rw [if_pos h]
 . rw [if_neg h,ay,(iX ds.length).length_eq,jQ]
def nM {K:PySem.W.Frag} {H:Hp} {F:aw->Prop} {ds:List D} {xs:List V} (r:aI K H F ds xs):∀ (is:List Nat),(∀ i∈is,i < ds.length)->aI K H F (is.map λi=>ds.getD i .non) (is.map λi=>xs.getD i .non)
 | [],_=>aI.nil
 | i::is,h=>by
   have hi:=h i au;obtain ⟨v,hv,rv⟩:=r.get (i:=i) (d:=ds.getD i .non) (by simp [hi]);have e:xs.getD i .non = v:=by simp [hv]
   rw [aJ,aJ,e];exact aI.cons rv (nM r is λj hj=>h j (ak _ hj))
def nL (r:Vals xs us):∀ (is:List Nat),(∀ i∈is,i < xs.length)->Vals (is.map λi=>xs.getD i .non) (is.map λi=>us.getD i bH)
 | [],_=>.nil
 | i::is,h=>by
   have hi:=h i au;obtain ⟨u,hu,ru⟩:=r.get (i:=i) (x:=xs.getD i .non) (by simp [hi]);have e:us.getD i bH = u:=by simp [hu]
   rw [aJ,aJ,e];exact .cons ru (nL r is λj hj=>h j (ak _ hj))
def Fv {M:mP} {A:aW} {E:ae->ai->Prop} {s:ai} {ds:List D} {us:List ae} (r:RdL s.heap ds us) (hk:∀ x∈ds,bE x≠0/\bE x = bE (ds.getD 0 .non)) (h2:2<=us.length) {Q:cK->ai->Prop}
 (q:Q (if bE (ds.getD 0 .non) < 3 then oneType' else tuples' true) s):wpAny M A (keyKind' us.toArray) Q E s:=by
 have hl:=r.length
 have all:∀ v∈us,∃ d∈ds,RdV s.heap d v:=by
  have:∀ (ds:List D) (us:List ae),RdL s.heap ds us->∀ v∈us,∃ d∈ds,RdV s.heap d v:=by
   intro ds
   induction ds with
   | nil=>intro us r v hv;unfold RdL at r;subst r;cases hv
   | cons d ds ih =>
     intro us r v hv;unfold RdL at r;obtain ⟨w,ws,rfl,r1,r2⟩:=r;rcases aQ.mp hv with rfl | hv
     . exact ⟨d,au,r1⟩
     . obtain ⟨d',h1,h2⟩:=ih ws r2 v hv;exact ⟨d',ak _ h1,h2⟩
  exact this ds us r
 generalize hn:bE (ds.getD 0 .non) = n at hk q
 have tups:∀ (T:ae) (P:D->Prop),(∀ d,P d->∀ u,RdV s.heap d u->Looks M s.heap (typeOf u) T)->(∀ x∈ds,∃ y r,x = .tup (y::r)/\P y)->∃ fs,KatTups s.heap us fs/\fs.length = us.length/\∀ v∈fs,Looks M s.heap (typeOf v) T:=by
  intro T P hP hx
  have:∀ (ds:List D) (us:List ae),RdL s.heap ds us->(∀ x∈ds,∃ y r,x = .tup (y::r)/\P y)->∃ fs,KatTups s.heap us fs/\fs.length = us.length/\∀ v∈fs,Looks M s.heap (typeOf v) T:=by
   intro ds
   induction ds with
   | nil=>intro us r _;unfold RdL at r;subst r;exact ⟨[],KatTups.nil,rfl,λv hv=>by cases hv⟩
   | cons d ds ih =>
     intro us r hx;unfold RdL at r;obtain ⟨w,ws,rfl,r1,r2⟩:=r;obtain ⟨fs,f1,f2,f3⟩:=ih ws r2 λx h=>hx x (ak _ h);obtain ⟨y,rr,rfl,py⟩:=hx d au;unfold RdV at r1;obtain ⟨a,its,rfl,⟨o,h1,hc,m,hd⟩,h3⟩:=r1;unfold RdL at h3;obtain ⟨f,fr,e,g1,g2⟩:=h3;refine ⟨f::fs,KatTups.cons h1 hc hd ?_ f1,by simp [f2],λv hv=>?_⟩
     . have:its.toList[0]? = some f:=by rw [e];rfl
       simpa using this
     . rcases aQ.mp hv with rfl | hv
       . exact hP y py _ g1
       . exact f3 v hv
  exact this ds us r hx
 match n,hk,q with
 | 0,hk,q =>
   obtain ⟨x,hx⟩:∃ x,x∈ds:=by
    cases ds with
    | nil=>rw [hl] at h2;simp at h2
    | cons x r=>exact ⟨x,au⟩
   exact absurd (hk x hx).2 (hk x hx).1
 | 1,hk,q =>
   refine kas_kind (T:=.type "str") h2 (λv hv=>?_) ⇑0 ⇑0 q;obtain ⟨d,hd,rd⟩:=all v hv;have:=(hk d hd).2;cases d<;>first | (simp [bE] at this;done) | skip
   . unfold RdV at rd;obtain ⟨t,rfl⟩:=rd;exact jP rfl
   . rename_i l;cases l with
     | nil=>simp [bE] at this
     | cons x r=>cases x<;>simp [bE] at this
 | 2,hk,q =>
   refine kas_kind (T:=.type "int") h2 (λv hv=>?_) ⇑0 ⇑0 q;obtain ⟨d,hd,rd⟩:=all v hv;have:=(hk d hd).2;cases d<;>first | (simp [bE] at this;done) | skip
   . unfold RdV at rd;obtain ⟨t,rfl⟩:=rd;exact jP rfl
   . rename_i l;cases l with
     | nil=>simp [bE] at this
     | cons x r=>cases x<;>simp [bE] at this
 | 3,hk,q =>
   obtain ⟨fs,f1,f2,f3⟩:=tups (.type "str") (λy=>∃ x,y = .str x) (λd ⟨x,e⟩ u rd=>by subst e;unfold RdV at rd;obtain ⟨t,rfl⟩:=rd;exact jP rfl) λx hx=>by
    have:=(hk x hx).2;cases x<;>first | (simp [bE] at this;done) | skip
    rename_i l;cases l with
    | nil=>simp [bE] at this
    | cons x r=>cases x<;>first | (simp [bE] at this;done) | exact ⟨_,_,rfl,_,rfl⟩
   exact kat_kind f1 ∅ f3 ⇑0 q
 | 4,hk,q =>
   obtain ⟨fs,f1,f2,f3⟩:=tups (.type "int") (λy=>∃ x,y = .int x) (λd ⟨x,e⟩ u rd=>by subst e;unfold RdV at rd;obtain ⟨t,rfl⟩:=rd;exact jP rfl) λx hx=>by
    have:=(hk x hx).2;cases x<;>first | (simp [bE] at this;done) | skip
    rename_i l;cases l with
    | nil=>simp [bE] at this
    | cons x r=>cases x<;>first | (simp [bE] at this;done) | exact ⟨_,_,rfl,_,rfl⟩
   exact kat_kind f1 ∅ f3 ⇑0 q
 | m+5,hk,q =>
   obtain ⟨x,hx⟩:∃ x,x∈ds:=by
    cases ds with
    | nil=>rw [hl] at h2;simp at h2
    | cons x r=>exact ⟨x,au⟩
   have:=(hk x hx).2;exfalso;cases x<;>first | (simp [bE] at this;done) | skip
   rename_i l;cases l with
   | nil=>simp [bE] at this
   | cons x r=>cases x<;>simp [bE] at this
def pV:∀ {ds:List D},(∀ x∈ds,dep x < 100000)->cJ ds < 100000
 | [],_=>by unfold cJ;lia
 | d::ds,h=>by
   have h1:=h d au;have h2:=pV λx hx=>h x (ak _ hx);unfold cJ
   lia
def tY (hs:sortable ds = true):cJ ds < 100000:=by
 obtain ⟨_,_,hlt⟩:=jW hs;refine pV λx hx=>?_;obtain ⟨b,hb⟩:=hlt x hx x hx;unfold iN at hb;split at hb
 . lia
 . cases hb
def OB {prog:aS} {w:bD} {A A':aW} {s:ai} {h':cb} {ds:List D} {its:List ae} (hu:A.units+200 < cLine) (hA:A'.units<=A.units+2) (rd:RdL s.heap ds its) (l3:its.length = ds.length) (hs:sortable ds = true)
 (k:∀ b o,s.heap.get? b = some o->h'.get? b = some o) (i j:Nat) (hi:i < its.length) (hj:j < its.length) (C:Bool->ai->Prop) (c:C (fy ds i j) { s with heap:=h' }) :
 kas_ask prog w A' (if bE (ds.getD 0 .non) < 3 then oneType' else tuples' true) its i j C { s with heap:=h' }:=by
 obtain ⟨h64,hk,hlt⟩:=jW hs
 have mem:∀ i,i < its.length->ds.getD i .non∈ds:=λi hi=>by
  have:i < ds.length:=by lia
  rw [bQ,aD this];exact eN this
 obtain ⟨b,hb⟩:=hlt _ (mem i hi) _ (mem j hj);have eb:fy ds i j = b:=by unfold fy;rw [hb];rfl
 rw [eb] at c;have ri:=RdV.keep k _ _ (RdL.nth i rd ∅);have rj:=RdV.keep k _ _ (RdL.nth j rd ∅);have ki:=hk _ (mem i hi);have kj:=hk _ (mem j hj);unfold iN at hb;split at hb
 . rename_i hd;unfold kas_ask;generalize ds.getD i .non = x at ri hb hd ki;generalize ds.getD j .non = y at rj hb hd kj;generalize its.getD i bH = u at ri;generalize its.getD j bH = v at rj;generalize bE (ds.getD 0 .non) = n0 at ki kj;by_cases h3:n0 < 3
   . rw [if_pos h3,zk];refine EH (s:={ s with heap:=h' }) ri rj ?_ hb c;have:=ki.1;have k1:n0 = 1\/n0 = 2:=by lia
     rcases k1 with k1 | k1
     . exact .inl ⟨∅,∅⟩
     . exact .inr ⟨∅,∅⟩
   . rw [if_neg h3]
     have tx:∀ z:D,bE z = n0->∃ p r,z = .tup (p::r)/\((n0 = 3/\bE p = 1)\/(n0 = 4/\bE p = 2)):=λz hz=>by
      cases z<;>first | (simp [bE] at hz;lia) | skip
      rename_i l
      cases l with
      | nil=>simp [bE] at hz;lia
      | cons p r=>cases p<;>first | (simp [bE] at hz;lia) | exact ⟨_,_,rfl,by simp [bE] at hz |-;lia⟩
     obtain ⟨p1,r1,rfl,w1⟩:=tx x ki.2;obtain ⟨p2,r2,rfl,w2⟩:=tx y kj.2;unfold RdV at ri rj;obtain ⟨a1,i1,rfl,⟨o1,g1,c1,m1,d1⟩,t1⟩:=ri;obtain ⟨a2,i2,rfl,⟨o2,g2,c2,m2,d2⟩,t2⟩:=rj;have z1:i1.size = (p1::r1).length:=by simpa using t1.length
     have z2:i2.size = (p2::r2).length:=by simpa using t2.length
     unfold ltD at hb;unfold dep at hd;refine kat_lt (s:={ s with heap:=h' }) g1 d1 g2 d2 (qO (s:={ s with heap:=h' }) (p1::r1) (p2::r2) i1.toList i2.toList 0 t1 t2 ∅ hb (by rw [z1,z2]) (λ_ x y hx hy=>?_) c);cases hx;cases hy;rcases w1 with ⟨e,w1⟩ | ⟨e,w1⟩<;>rcases w2 with ⟨e',w2⟩ | ⟨e',w2⟩<;>first | (exact .inl ⟨w1,w2⟩) | (exact .inr ⟨w1,w2⟩) | lia
 . cases hb
def uW {X:Cx} (hu:X.A.units+200 < cLine):cz X (.builtin "sorted") (λxs H Q=>∃ F ds v,xs = [v]/\dF X.K H F (.lst ds) v/\sortable ds = true/\∀ p ys,H p = none->aI X.K H F (fU ds) ys->Q (.ref p) (upd H p (.lst ys))):=by
 intro pins s σ H xs us Q I r h;obtain ⟨F,ds,v,rfl,rb,hs,q⟩:=h;obtain ⟨a,ws,rfl,hl,rl⟩:=rb.lst;obtain ⟨u,rfl,rx⟩:=vals1 r;cases rx;obtain ⟨its,n,rv,ho,hz⟩:=hl.obj I;obtain ⟨h64,hk,hlt⟩:=jW hs;have rd:=mq I ds ws its rl rv (tY hs);have l1:=rl.length;have l2:=rv.length;have l3:its.length = ds.length:=by lia
 have isl:s.heap.IsList a its.toArray:=⟨_,ho,rfl,n,rfl⟩;have out:gk (fy ds) its = (if its.length < 2 then its else (ans (fy ds) (kas_sort its.length)).toList.map λi=>its.getD i bH):=rfl
 have hlen:(gk (fy ds) its).length = its.length:=by
  rw [out];by_cases h:its.length < 2
  . rw [if_pos h]
  . rw [if_neg h,ay,(iX its.length).length_eq,jQ]
 have small:∀ i∈(ans (fy ds) (kas_sort its.length)).toList,i < its.length:=λi hi=>by simpa using (iX its.length).mem_iff.mp hi
 -- the values in their new places
 have hv:∃ ys,Vals ys (gk (fy ds) its)/\aI X.K H F (fU ds) ys:=by
  rw [out];unfold fU;by_cases h:its.length < 2
  . rw [if_pos h,if_pos ∅];exact ⟨ws,rv,rl⟩
  . rw [if_neg h,if_neg ∅,<- l3];exact ⟨_,nL rv _ λi hi=>by rw [l2];exact small i hi,nM rl _ λi hi=>by rw [<- l3];exact small i hi⟩
 obtain ⟨ys,vy,ry⟩:=hv;refine Bw (lt:=fy ds) (κ:=if bE (ds.getD 0 .non) < 3 then oneType' else tuples' true) isl ∅ hlen (λh2 A' h' hA k C c=>?_) (λA' h' hA k i j hi hj C c=>?_) ?_
 . exact Fv (s:={ s with heap:=h' }) (RdL.keep k ds its rd) hk h2 c
 . exact OB hu hA rd l3 hs k i j hi hj C c
 . obtain ⟨e,he⟩:=sortedAll_at s.heap its (gk (fy ds) its).toArray;refine ⟨.ref (s.heap.objs.size+1),upd H (s.heap.objs.size+1) (.lst ys),I.laid (t':=s.toks) (λb u hb=>sortedAll_old hb) (mI _) ⟨?_,_,e,vy,he⟩,rfl,q _ _ (I.hok.fresh (mI _)) ry⟩;rw [ry.length,sv,cF]
   lia
end PP
end
section
namespace PP
open PySem PySem.W PyProof.Rows
section
variable {prog:aS} {w:bD} {A:aW} {E:ae->ai->Prop} {s:ai}
end
end PP
end
section
namespace PP
open PySem L2 PySem.SeqAt PyProof.Rows PySem.W
variable [Tbs]
end PP
end
section
namespace PP
open PySem L2 PyProof.Rows PySem.SeqAt PySem.Calls
section
variable {prog:aS} {w:bD} {A:aW} {R:vm->ai->Prop} {I:aw} {fp wr:List aw} {n:Nat} {P:Nat->ae->Prop} {St:Nat->cb->Prop}
def uw:(toString "min"++toString ".loop":String) = "min.loop":=by decide
def IX (W:JA prog w A.in1 I fp wr n P St) {bt:Nat->Nat->Bool} {h0:cb} (hw:∀ b∈wr,h0.get? b = none)
 (hcmp:∀ i j vi vj (s:ai) (Q:ae->ai->Prop) (E:ae->ai->Prop),(∀ b o,h0.get? b = some o->s.heap.get? b = some o)->P i vi->P j vj->i < n->j < n->Q (.bool (bt i j)) s->wpAny (model prog w) A.in1 (richCompare .Lt vi vj) Q E s)
 {S:aw} (hSf:S∉fp) (hS0:h0.get? S = none):∀ (k j:Nat) (s:ai) (l:List ae) (c:Nat),0 < n->j+k = n->(∀ b o,h0.get? b = some o->s.heap.get? b = some o)->St j s.heap->Kept P bt j l ->
 s.heap.get? S = some { cls:=.type "list",dict:=none,data:=.seq l.toArray c,slots := #[] } ->
 (∀ v h' tk,P (argBest bt (n - 1)) v->(∀ b o,b∉wr->b≠S->s.heap.get? b = some o->h'.get? b = some o)->R (.ok (.ret v)) { s with heap:=h',toks:=tk }) ->
 codeAny (model prog w) A (.builtin "min.loop" ⟨[.ref I,.none,.ref S],[]⟩) R s:=by
 have hSw:S∉wr:=λh=>hSf (W.sub _ h);have up:∀ {h:cb} {f:Obj->Obj} {b:aw} {o:Obj},b≠S->h.get? b = some o->(h.update S f).get? b = some o:=λhb e=>(cE _ _ (Ne.symm hb)).trans e;have n0:∀ {b:aw} {o:Obj},h0.get? b = some o->b∉wr/\b≠S:=λe=>⟨λz=>(by rw [hw _ z] at e;cases e),λz=>(by rw [z,hS0] at e;cases e)⟩
 have best_lt:∀ j,argBest bt j<=j:=λj=>by
  induction j with
  | zero=>exact ao _
  | succ j ih=>unfold argBest;split<;>lia
 intro k
 induction k with
 | zero =>
   intro j s l c hn hk hk0 hst hl hS hR;obtain rfl:j = n:=by lia
   refine xM F.entry_min_loop ?_;rw [lP F.plain_min_loop _];show wpAny _ A.in1 (seqItems? (.ref S) >>= _) _ _ s;refine ab (dc hS rfl ?_);show wpAny _ A.in1 (tryCatch (pyNext (.ref I)) _ >>= _) _ _ s;refine ab (zf (W.done s _ _ hst λh' tk hk'=>?_))
   cases j with
   | zero=>exact absurd hn (bX 0)
   | succ j =>
     obtain ⟨v,rfl,hv⟩:=hl;show wpAny _ A.in1 (updateSeq S (λ_ => #[]) >>= _) _ _ _
     exact ab (xH (hk' S _ hSw hS) rfl (ab (jm (aq (hR v _ tk hv λb o hbw hbS e=>up hbS (hk' b o hbw e))))))
 | succ k ih =>
   intro j s l c hn hk hk0 hst hl hS hR;refine xM F.entry_min_loop ?_;rw [lP F.plain_min_loop _];show wpAny _ A.in1 (seqItems? (.ref S) >>= _) _ _ s;refine ab (dc hS rfl ?_);show wpAny _ A.in1 (tryCatch (pyNext (.ref I)) _ >>= _) _ _ s;refine ab (zf (W.item j s _ _ ∅ hst λv h' tk hP hst' hk'=>?_));have hS':=hk' S _ hSw hS;have k1:∀ b o,h0.get? b = some o->h'.get? b = some o:=λb o e=>hk' b o (n0 e).1 (hk0 b o e)
   have again:∀ (h2:cb) (l2:List ae) (c2:Nat),(∀ b o,b≠S->h'.get? b = some o->h2.get? b = some o)->h2.get? S = some { cls:=.type "list",dict:=none,data:=.seq l2.toArray c2,slots := #[] }->Kept P bt (j+1) l2 ->
    codeAny (model prog w) A (.builtin "min.loop" ⟨[.ref I,.none,.ref S],[]⟩) R { s with heap:=h2,toks:=tk }:=λh2 l2 c2 hk2 hS2 hl2 =>
    ih (j+1) _ l2 c2 hn ∅ (λb o e=>hk2 b o (n0 e).2 (k1 b o e)) (W.frame _ _ _ hst' λb hbf o e=>hk2 b o (λz=>hSf (z▸hbf)) e) hl2 hS2 λv' h'' tk'' hP' hk''=>hR v' h'' tk'' hP' λb o hbw hbS e=>hk'' b o hbw hbS (hk2 b o hbS (hk' b o hbw e))
   cases j with
   | zero =>
     cases hl;show wpAny _ A.in1 (updateSeq S (λ_ => #[v,v]) >>= _) _ _ _;refine ab (xH hS' rfl ?_);rw [uw]
     exact aq ⟨jj F.plain_min_loop _,again _ [v,v] _ (λb o hb e=>up hb e) (dh _ hS' rfl) ⟨v,rfl,hP⟩⟩
   | succ j =>
     obtain ⟨u,rfl,hu⟩:=hl;show wpAny _ A.in1 (tryCatch (holding [v,v] (richCompare .Lt v u >>= _)) _ >>= _) _ _ _;refine ab (zf (bY (ab (hcmp (j+1) (argBest bt j) v u _ _ _ k1 hP hu ∅ (by have:=best_lt j;lia) ?_))));refine ab (bY (eH (ab (jm (aq ?_)))))
     cases hb:bt (j+1) (argBest bt j) with
     | true =>
       rw [if_pos rfl];refine ab (xH hS' rfl (ab (jm ?_)));rw [uw]
       exact aq ⟨jj F.plain_min_loop _,again _ [v,v] _ (λb o hb e=>up hb e) (dh _ hS' rfl) ⟨v,rfl,by simp only [argBest,hb,if_true];exact hP⟩⟩
     | false =>
       rw [if_neg ⇑0];refine ab (jm ?_);rw [uw];exact aq ⟨jj F.plain_min_loop _,again _ [u,u] c (λb o _ e=>e) hS' ⟨u,rfl,by simp only [argBest,hb,bb,if_false];exact hu⟩⟩
end
def vc {prog:aS} {w:bD} {A:aW} {E:ae->ai->Prop} {s:ai} {x:ae} {Q:ae->ai->Prop}
 (h:wpAny (model prog w) A.in1 (pyIter x) (λit s₂=>∃ I fp wr n P St bt,∃ h0:cb,it = .ref I/\JA prog w A.in1 I fp wr n P St/\St 0 s₂.heap/\(∀ b∈fp,b < s₂.heap.objs.size)/\0 < n/\(∀ b∈wr,h0.get? b = none)/\(∀ b o,h0.get? b = some o->s₂.heap.get? b = some o) /\
   (∀ i j vi vj (s:ai) (Q:ae->ai->Prop) (E:ae->ai->Prop),(∀ b o,h0.get? b = some o->s.heap.get? b = some o)->P i vi->P j vj->i < n->j < n->Q (.bool (bt i j)) s->wpAny (model prog w) A.in1 (richCompare .Lt vi vj) Q E s) /\
   ∀ v h' tk,P (argBest bt (n - 1)) v->(∀ b o,b∉wr->s₂.heap.get? b = some o->h'.get? b = some o)->Q v { s₂ with heap:=h',toks:=tk }) E s) :
 wpAny (model prog w) A (call (.builtin "min") [x]) Q E s:=by
 refine call_function_tree F.kind_min F.plain_min F.entry_min (F.args_min1 _) ?_;show wpAny _ A.in1 (lV "min" ["key","default"] 0 ⟨[],[]⟩ >>= _) _ _ s;refine ab (kH (show lV "min" ["key","default"] 0 ⟨[],[]⟩ = pure [none,none] from rfl) ?_);refine ab (aq (ab (dR h (λit s₂ h₂=>?_) λ_ _ e=>e)));obtain ⟨I,fp,wr,n,P,St,bt,h0,rfl,W,hst,hfp,hn,hw,hk0,hcmp,hQ⟩:=h₂;refine ab (bA ?_);have hSf:s₂.heap.objs.size∉fp:=λhm=>bX _ (hfp _ hm)
 have hS0:h0.get? s₂.heap.objs.size = none:=by
  cases e:h0.get? s₂.heap.objs.size with
  | none=>rfl
  | some o=>exact absurd (aE (hk0 _ _ e)) (bX _)
 rw [uw];refine aq ⟨jj F.plain_min_loop _,IX W hw hcmp hSf hS0 n 0 _ [] _ hn ∅ (λb o e=>ah _ (hk0 b o e)) (W.frame _ _ _ hst λb _ o e=>ah _ e) rfl (aF _ rfl) λv h' tk hP hk=>?_⟩;exact hQ v h' tk hP λb o hbw e=>hk b o hbw (aO (aE e)) (ah _ e)
def argBest_lt (bt:Nat->Nat->Bool):∀ j,argBest bt j<=j
 | 0=>ao _
 | j+1=>by
   have:=argBest_lt bt j;unfold argBest;split<;>lia
def Cm {X:Cx} [Tbs] (hc:X.calm = true) (hu:X.A.units+200 < cLine):cz X (.builtin "min") (λxs H Q=>∃ F ds v,xs = [v]/\dF X.K H F (.lst ds) v/\ds≠[]/\(ds.all λx=>ds.all λy=>(iN x y).isSome) = true/\∀ y,RelM false X.K H F (ds.getD (argBest (fy ds) (ds.length - 1)) .non) y->Q y H):=by
 intro pins s σ H xs us Q I r h;obtain ⟨F,ds,v,rfl,rb,hne,hs,q⟩:=h;obtain ⟨a,ws,rfl,hl,rl⟩:=rb.lst;obtain ⟨u,rfl,rx⟩:=vals1 r;cases rx;obtain ⟨its,n,rv,ho,hz⟩:=hl.obj I;have lt2:∀ x∈ds,∀ y∈ds,∃ k,iN x y = some k:=λx hx y hy=>gf.mp (cQ.mp (cQ.mp hs x hx) y hy)
 have hd:cJ ds < 100000:=pV λx hx=>by
  obtain ⟨k,e⟩:=lt2 x hx x hx;unfold iN at e;split at e
  . rename_i z;lia
  . cases e
 have rd:=mq I ds ws its rl rv hd;have l1:=rl.length;have l2:=rv.length;have l3:its.length = ds.length:=by lia
 have hpos:0 < ds.length:=mQ.mpr hne;have isl:s.heap.IsList a its.toArray:=⟨_,ho,rfl,n,rfl⟩;have hlt:a < s.heap.objs.size:=aE ho;have hsz:its.toArray.size = ds.length:=by rw [aG,l3]
 have mem:∀ i,i < ds.length->ds.getD i .non∈ds:=λi hi=>by
  rw [bQ,aD hi];exact eN hi
 have at_:∀ i v,its.toArray[i]? = some v->its.getD i bH = v:=λi v e=>by
  have e:its[i]? = some v:=by simpa using e
  rw [bQ,e];rfl
 have new:s.heap.get? s.heap.objs.size = none:=by
  cases e:s.heap.get? s.heap.objs.size with
  | none=>rfl
  | some o=>exact absurd (aE e) (bX _)
 refine vc (fO isl ?_)
 refine ⟨s.heap.objs.size,[s.heap.objs.size,a],[s.heap.objs.size],its.toArray.size,_,_,fy ds,s.heap,rfl,rY (A:=X.A.in1) (I.ok.hd hc) s.heap.objs.size a (aO hlt) its.toArray,
  ⟨⟨_,aF _ rfl,rfl,rfl⟩,?_⟩,λb hb=>?_,by rw [hsz];exact hpos,λb hb=>?_,λb o e=>ah _ e,λi j vi vj s2 Q2 E2 hk hi hj li lj q2=>?_,λv h' tk hv hk=>?_⟩
 . obtain ⟨o,e,r⟩:=isl;exact ⟨o,ah _ e,r⟩
 . have:b = s.heap.objs.size\/b = a:=by simpa using hb
   show b < (s.heap.push _).objs.size;rw [bJ];rcases this with rfl | rfl
   . exact dI _
   . exact bF hlt
 . rw [aP.mp hb];exact new
 . rw [hsz] at li lj;obtain ⟨k,e⟩:=lt2 _ (mem i li) _ (mem j lj);have ri:=RdV.keep hk _ _ (RdL.nth i rd li);have rj:=RdV.keep hk _ _ (RdL.nth j rd lj);rw [at_ i vi hi] at ri;rw [at_ j vj hj] at rj;have eb:fy ds i j = k:=by unfold fy;rw [e];rfl
   rw [eb] at q2;unfold iN at e;split at e
   . exact uz _ _ X.A.in1 s2 vi vj k ri rj (by show X.A.units+1+_+1 < _;lia) e X.prog X.w E2 Q2 q2
   . cases e
 . have hlt:argBest (fy ds) (ds.length - 1) < ds.length:=by
    have:=argBest_lt (fy ds) (ds.length - 1)
    lia
   rw [hsz] at hv;have hv':=at_ _ _ hv
   have hd1:ds[argBest (fy ds) (ds.length - 1)]? = some (ds.getD (argBest (fy ds) (ds.length - 1)) .non):=by
    rw [bQ,aD hlt];rfl
   obtain ⟨y,e1,r1⟩:=rl.get hd1
   have rvy:RelV y v:=by
    have h1:its[argBest (fy ds) (ds.length - 1)]? = some v:=by simpa using hv
    obtain ⟨u,e2,r2⟩:=Vals.get rv e1;rw [h1] at e2;cases e2;exact r2
   exact ⟨y,H,I.kept (h':=h') (t':=tk) λb o e=>hk b o (by simp;exact aO (aE e)) (ah _ e),rvy,q y r1⟩
end PP
end
section
namespace PP
open PySem L2 PyProof.Rows
variable [Tbs]
section
variable {K:PySem.W.Frag} {cx:Cl} {X:Cx}
def hZ (r:Rel K H F d v):RelM false K H F d v:=r
def rC (K:PySem.W.Frag) (op:Cop):R2:=λx y H Q=>∃ F a b k,dF K H F a x/\dF K H F b y/\jl op a b = some k/\Q (.bl k) H
def LB (h:LC p a b = some k):∃ i j,a = .int i/\b = .int j/\k = p i j:=by
 unfold LC at h;split at h
 . cases h;exact ⟨_,_,rfl,rfl,rfl⟩
 . cases h
def JQ (h:inD a b = some k):(∃ ds,(b = .lst ds\/b = .tup ds)/\(dep a<=150/\cJ ds < 99999)/\k = ds.any λy=>eqD y a)\/∃ x y,a = .str x/\b = .str y/\k = LY y x:=by
 unfold inD at h;split at h
 . split at h
   . cases h;exact .inl ⟨_,.inl rfl,‹_›,rfl⟩
   . cases h
 . split at h
   . cases h;exact .inl ⟨_,.inr rfl,‹_›,rfl⟩
   . cases h
 . split at h
   . cases h;exact .inr ⟨_,_,rfl,rfl,rfl⟩
   . cases h
 . cases h
def uk:OpR X (compareOp .NotIn) (λx y H Q=>∃ i j,x = .str i/\y = .str j/\Q (.bl (!LY j i)) H):=by
 intro pins s σ H x y v u Q I rx ry h;obtain ⟨i,j,rfl,rfl,q⟩:=h;obtain ⟨t,rfl⟩:=rx;obtain ⟨t',rfl⟩:=ry;exact PySem.P.notIn_str ⟨.bl _,H,I,rfl,q⟩
def OpR.imp (h:OpR X f r) (w:∀ x y H Q,r' x y H Q->r x y H Q):OpR X f r':=λpins s σ H x y v u Q I rx ry q=>h pins s σ H x y v u Q I rx ry (w _ _ _ _ q)
def opC (hu:X.A.units+200 < cLine) (ho:AJ op o = true):OpR X (compareOp o) (rC X.K op):=by
 cases op<;>cases o<;>first | (exact absurd ho aj) | skip
 . exact OpR.imp (LI hu) λx y H Q ⟨F,a,b,k,ra,rb,e,q⟩=>⟨F,a,b,k,ra,rb,e,q⟩
 . refine OpR.imp NW λx y H Q zz=>?_;obtain ⟨F,a,b,k,ra,rb,e,q⟩:=zz;obtain ⟨i,j,rfl,rfl,rfl⟩:=LB e;exact ⟨i,j,ra.int,rb.int,q⟩
 . refine OpR.imp ((LK hu).or NX) λx y H Q zz=>?_;obtain ⟨F,a,b,k,ra,rb,e,q⟩:=zz;change (if ky a b = true then some (eqD a b) else if Od a b = true then some false else none) = some k at e;split at e
   . cases e;exact .inl ⟨F,a,b,ra,rb,‹_›,q⟩
   . split at e
     . rename_i hm;cases e;cases a<;>cases b<;>first | (cases hm;done) | skip
       . rw [ra.int,rb.str];exact .inr ⟨rfl,q⟩
       . rw [ra.str,rb.int];exact .inr ⟨rfl,q⟩
     . cases e
 . refine OpR.imp (LG hu) λx y H Q zz=>?_;obtain ⟨F,a,b,k,ra,rb,e,q⟩:=zz;change (if ky a b = true then some (!eqD a b) else none) = some k at e;split at e
   . cases e;exact ⟨F,a,b,ra,rb,‹_›,q⟩
   . cases e
 . intro pins s σ H x y v u Q I rx ry h;obtain ⟨F,a,b,k,ra,rb,e,q⟩:=h;rcases JQ e with ⟨ds,hb,hd,rfl⟩ | ⟨x',y',rfl,rfl,rfl⟩
   . refine LJ hu pins s σ H x y v u Q I rx ry ⟨F,a,ds,ra,?_,hd,q⟩;rcases hb with rfl | rfl
     . exact .inl rb
     . exact .inr rb
   . exact BO pins s σ H x y v u Q I rx ry ⟨x',y',ra.str,rb.str,q⟩
 . intro pins s σ H x y v u Q I rx ry h;obtain ⟨F,a,b,k,ra,rb,e,q⟩:=h;change (inD a b).map (!·) = some k at e;rw [bp] at e;obtain ⟨k',e,rfl⟩:=e;rcases JQ e with ⟨ds,hb,hd,rfl⟩ | ⟨x',y',rfl,rfl,rfl⟩
   . refine BN hu pins s σ H x y v u Q I rx ry ⟨F,a,ds,ra,?_,hd,q⟩;rcases hb with rfl | rfl
     . exact .inl rb
     . exact .inr rb
   . exact uk pins s σ H x y v u Q I rx ry ⟨x',y',ra.str,rb.str,q⟩
def MB (ev:evE cx (.cmp op a b) δ = some (d,δ')):∃ x δ1 y k,evE cx a δ = some (x,δ1)/\evE cx b δ1 = some (y,δ')/\jl op x y = some k/\d = .bl k:=by
 simp only [evE,af,ag] at ev;obtain ⟨⟨x,δ1⟩,ea,⟨y',δ2⟩,eb,k,hd,e⟩:=ev;cases e;exact ⟨x,δ1,y',k,ea,eb,hd,rfl⟩
def Js (ev:evT cx (.cmp op a b) δ = some (k,δ')):∃ x δ1 y,evE cx a δ = some (x,δ1)/\evE cx b δ1 = some (y,δ')/\jl op x y = some k:=by
 simp only [evT,af,ag] at ev;obtain ⟨⟨x,δ1⟩,ea,⟨y',δ2⟩,eb,k,hd,e⟩:=ev;cases e;exact ⟨x,δ1,y',ea,eb,hd⟩
def HQ (hu:X.A.units+200 < cLine) (ho:AJ op o = true) (pc:(!cj a || np b) = true) (ha:PE X y (tE X.K cx a)) (hb:PE X z (tE X.K cx b)) (hm:behindInMarks o z = false) :
 PE X (.Compare y [o] [z] pos) (tE X.K cx (.cmp op a b)):=by
 refine PE.imp (Iz (opC hu ho) ha hb hm) λσ H Q h=>?_;obtain ⟨G,F,δ,d,δ',ok,ev,post⟩:=h;obtain ⟨x,δ1,y',k,ea,eb,hd,rfl⟩:=MB ev;exact two ok ea eb pc λv u H2 F2 st sm ok2 r1 r2=>⟨F2,x,y',k,r1.b,r2.b,hd,post _ H2 F2 st sm ok2 (hZ (kO k))⟩
def DQ (hu:X.A.units+200 < cLine) (ho:AJ op o = true) (pc:(!cj a || np b) = true) (ha:PE X y (tE X.K cx a)) (hb:PE X z (tE X.K cx b)) (hm:behindInMarks o z = false) :
 PT X (.Compare y [o] [z] pos) (tT X.K cx (.cmp op a b)):=by
 refine PT.imp (Ip (opC hu ho) ha hb hm) λσ H Q h=>?_;obtain ⟨G,F,δ,k,δ',ok,ev,post⟩:=h;obtain ⟨x,δ1,y',ea,eb,hd⟩:=Js ev;exact two ok ea eb pc λv u H2 F2 st sm ok2 r1 r2=>⟨F2,x,y',k,r1.b,r2.b,hd,k,rfl,post H2 F2 st sm ok2⟩
def dP (n:(!cj e) = true) (h:RelM (cj e) K H F d v):Rel K H F d v:=by
 have e1:cj e = false:=by simpa using n
 rw [e1] at h;exact h
def snd_and (na:(!cj a) = true) (nb:(!cj b) = true) (ha:PE X y (tE X.K cx a)) (hb:PE X (.BoolOp .And (z::r) pos) (tE X.K cx b)):PE X (.BoolOp .And (y::z::r) pos) (tE X.K cx (.and a b)):=by
 refine PE.imp (Lz ha hb) λσ H Q h=>?_;obtain ⟨G,F,δ,d,δ',ok,ev,post⟩:=h;simp only [evE,af,ag] at ev;obtain ⟨⟨x,δ1⟩,ea,ev⟩:=ev;refine ⟨G,F,δ,x,δ1,ok,ea,λv H1 F1 st1 sm1 ok1 r1=>?_⟩;replace r1:=dP na r1;have np1:np (.and a b) = (np a && np b):=rfl
 cases x with
 | bl k =>
   unfold Rel at r1;refine ⟨k,r1,?_⟩
   cases k with
   | true =>
     rw [if_pos rfl];refine ⟨G,F1,δ1,d,δ',ok1,ev,λu H2 F2 st2 sm2 ok2 r2=>post u H2 F2 (st1.trans st2) (λn=>?_) ok2 (hZ (dP nb r2))⟩;rw [np1,aa] at n
     exact (sm1 n.1).trans (sm2 n.2)
   | false =>
     rw [if_neg aj];cases ev
     exact post _ H1 F1 st1 (λn=>by rw [np1,aa] at n;exact sm1 n.1) ok1 (hZ (kO false))
 | _=>cases ev
def DK (na:(!cj a) = true) (nb:(!cj b) = true) (ha:PE X y (tE X.K cx a)) (hb:PE X (.BoolOp .Or (z::r) pos) (tE X.K cx b)):PE X (.BoolOp .Or (y::z::r) pos) (tE X.K cx (.or a b)):=by
 refine PE.imp (NP ha hb) λσ H Q h=>?_;obtain ⟨G,F,δ,d,δ',ok,ev,post⟩:=h;simp only [evE,af,ag] at ev;obtain ⟨⟨x,δ1⟩,ea,ev⟩:=ev;refine ⟨G,F,δ,x,δ1,ok,ea,λv H1 F1 st1 sm1 ok1 r1=>?_⟩;replace r1:=dP na r1;have np1:np (.or a b) = (np a && np b):=rfl
 cases x with
 | bl k =>
   unfold Rel at r1;refine ⟨k,r1,?_⟩
   cases k with
   | false =>
     rw [if_neg aj];refine ⟨G,F1,δ1,d,δ',ok1,ev,λu H2 F2 st2 sm2 ok2 r2=>post u H2 F2 (st1.trans st2) (λn=>?_) ok2 (hZ (dP nb r2))⟩;rw [np1,aa] at n
     exact (sm1 n.1).trans (sm2 n.2)
   | true =>
     rw [if_pos rfl];cases ev
     exact post _ H1 F1 st1 (λn=>by rw [np1,aa] at n;exact sm1 n.1) ok1 (hZ (kO true))
 | _=>cases ev
def HJ (na:(!cj a) = true) (ha:PE X y (tE X.K cx a)):PE X (.UnaryOp .Not y pos) (tE X.K cx (.not a)):=by
 refine PE.imp (Lv ha) λσ H Q h=>?_;obtain ⟨G,F,δ,d,δ',ok,ev,post⟩:=h;simp only [evE,af,ag] at ev;obtain ⟨⟨x,δ1⟩,ea,ev⟩:=ev;refine ⟨G,F,δ,x,δ1,ok,ea,λv H1 F1 st1 sm1 ok1 r1=>?_⟩;replace r1:=dP na r1
 cases x with
 | bl k =>
   unfold Rel at r1;cases ev
   exact ⟨k,r1,post _ H1 F1 st1 sm1 ok1 (hZ (kO _))⟩
 | _=>cases ev
def PT.pw (h:PT X (.BoolOp op vs pos) t):PW X (.BoolOp op vs pos) t:=λ_ pins s σ H Q I q=>h pins s σ H Q I q
def vV (ha:PT X y (tT X.K cx a)) (hb:PW X (.BoolOp .And (z::r) pos) (tT X.K cx b)):PT X (.BoolOp .And (y::z::r) pos) (tT X.K cx (.and a b)):=by
 refine PT.imp (Lf ha hb).pt λσ H Q h=>?_;obtain ⟨G,F,δ,d,δ',ok,ev,post⟩:=h;simp only [evT,af,ag] at ev;obtain ⟨⟨k,δ1⟩,ea,ev⟩:=ev;have np1:np (.and a b) = (np a && np b):=rfl;refine ⟨G,F,δ,k,δ1,ok,ea,λH1 F1 st1 sm1 ok1=>?_⟩
 cases k with
 | true =>
   rw [if_pos rfl];refine ⟨G,F1,δ1,d,δ',ok1,ev,λH2 F2 st2 sm2 ok2=>post H2 F2 (st1.trans st2) (λn=>?_) ok2⟩;rw [np1,aa] at n
   exact (sm1 n.1).trans (sm2 n.2)
 | false =>
   rw [if_neg aj];cases ev;exact post H1 F1 st1 (λn=>by rw [np1,aa] at n;exact sm1 n.1) ok1
def zL (ha:PT X y (tT X.K cx a)) (hb:PW X (.BoolOp .Or (z::r) pos) (tT X.K cx b)):PT X (.BoolOp .Or (y::z::r) pos) (tT X.K cx (.or a b)):=by
 refine PT.imp (NM ha hb).pt λσ H Q h=>?_;obtain ⟨G,F,δ,d,δ',ok,ev,post⟩:=h;simp only [evT,af,ag] at ev;obtain ⟨⟨k,δ1⟩,ea,ev⟩:=ev;have np1:np (.or a b) = (np a && np b):=rfl;refine ⟨G,F,δ,k,δ1,ok,ea,λH1 F1 st1 sm1 ok1=>?_⟩
 cases k with
 | false =>
   rw [if_neg aj];refine ⟨G,F1,δ1,d,δ',ok1,ev,λH2 F2 st2 sm2 ok2=>post H2 F2 (st1.trans st2) (λn=>?_) ok2⟩;rw [np1,aa] at n
   exact (sm1 n.1).trans (sm2 n.2)
 | true =>
   rw [if_pos rfl];cases ev;exact post H1 F1 st1 (λn=>by rw [np1,aa] at n;exact sm1 n.1) ok1
def DP (ha:PT X y (tT X.K cx a)):PT X (.UnaryOp .Not y pos) (tT X.K cx (.not a)):=by
 refine PT.imp (Lg ha) λσ H Q h=>?_;obtain ⟨G,F,δ,d,δ',ok,ev,post⟩:=h;simp only [evT,af,ag] at ev;obtain ⟨⟨k,δ1⟩,ea,ev⟩:=ev;cases ev;exact ⟨G,F,δ,k,δ1,ok,ea,λH1 F1 st1 sm1 ok1=>post H1 F1 st1 sm1 ok1⟩
def HN (na:(!cj a) = true) (nb:(!cj b) = true) (hc:PT X t (tT X.K cx c)) (ha:PE X y (tE X.K cx a)) (hb:PE X z (tE X.K cx b)):PE X (.IfExp t y z pos) (tE X.K cx (.ite c a b)):=by
 refine PE.imp (EC hc ha hb) λσ H Q h=>?_;obtain ⟨G,F,δ,d,δ',ok,ev,post⟩:=h;simp only [evE,af,ag] at ev;obtain ⟨⟨k,δ1⟩,ea,ev⟩:=ev;have np1:np (.ite c a b) = (np c && np a && np b):=rfl;refine ⟨G,F,δ,k,δ1,ok,ea,λH1 F1 st1 sm1 ok1=>?_⟩
 cases k with
 | true =>
   rw [if_pos rfl];refine ⟨G,F1,δ1,d,δ',ok1,ev,λu H2 F2 st2 sm2 ok2 r2=>post u H2 F2 (st1.trans st2) (λn=>?_) ok2 (hZ (dP na r2))⟩;rw [np1,aa,aa] at n
   exact (sm1 n.1.1).trans (sm2 n.1.2)
 | false =>
   rw [if_neg aj];refine ⟨G,F1,δ1,d,δ',ok1,ev,λu H2 F2 st2 sm2 ok2 r2=>post u H2 F2 (st1.trans st2) (λn=>?_) ok2 (hZ (dP nb r2))⟩;rw [np1,aa,aa] at n;exact (sm1 n.1.1).trans (sm2 n.2)
def Ok.look (ok:Ok K G F σ H δ) (e:get δ i = some d):∃ v,σ[i]? = some (some v)/\dF K H F d v/\∃ F',Step G F H F' H/\Ok K G F' σ H (PP.demote δ i)/\Rel K H F' d v:=by
 unfold get at e
 cases q:δ[i]? with
 | none=>rw [q] at e;cases e
 | some s =>
   rw [q] at e
   cases s with
   | no=>cases e
   | fnc _ _=>cases e
   | val d' =>
     cases e;obtain ⟨v,e1,r⟩:=ok.sl i _ q;refine ⟨v,e1,.inl r,F,Step.refl,?_,r⟩
     unfold PP.demote;rw [q];exact ok
   | own ds =>
     cases e;obtain ⟨a,xs,e1,h1,h2,h3,h4⟩:=ok.sl i _ q;obtain ⟨o1,o2⟩:=ok.demote (d:=.lst ds) q rfl e1;refine ⟨.ref a,e1,.inr ⟨a,xs,ds,rfl,rfl,h3,h4⟩,λb=>F b/\b≠a,⟨λ_ _ _ z _=>z,λb z=>.inl z.1,λb o r z e=>⟨⟨z,λw=>h2.2 (by rw [<- w];exact r)⟩,e⟩,λ_ ps e=>⟨ps,e⟩⟩,?_,o2⟩;unfold PP.demote;rw [q];exact o1
def Ok.lookV (ok:Ok K G F σ H δ) (e:FL δ i = some d):∃ v,σ[i]? = some (some v)/\∃ F',Step G F H F' H/\Ok K G F' σ H (PP.demote δ i)/\Rel K H F' d v:=by
 obtain ⟨v,e1,_,h⟩:=ok.look (by unfold FL at e;exact e);exact ⟨v,e1,h⟩
def HE (hN:X.N[i]? = some x) (hv:Vis X.env.scope x) (hd:(x == ("__debug__":Str)) = false) (hcd:(x == ("__classdict__":Str)) = false):PE X (.Name x pos) (tE X.K cx (.var i)):=by
 refine PE.imp (mv hN hv hd hcd) λσ H Q h=>?_;obtain ⟨G,F,δ,d,δ',ok,ev,post⟩:=h;simp only [evE,af,ag] at ev;obtain ⟨d',e1,e⟩:=ev;cases e;obtain ⟨v,ev,F',st,ok',r⟩:=ok.lookV e1;exact ⟨v,ev,post v H F' st (λ_=>Sim.refl H) ok' (hZ r)⟩
def KN (hN:X.N[i]? = some x) (hv:Vis X.env.scope x) (hd:(x == ("__debug__":Str)) = false) (hcd:(x == ("__classdict__":Str)) = false):PE X (.Name x pos) (tE X.K cx (.pk i)):=by
 refine PE.imp (mv hN hv hd hcd) λσ H Q h=>?_;obtain ⟨G,F,δ,d,δ',ok,ev,post⟩:=h;simp only [evE,af,ag] at ev;obtain ⟨d',e1,e⟩:=ev;cases e;obtain ⟨v,ev,rb,_⟩:=ok.look e1;exact ⟨v,ev,post v H F Step.refl (λ_=>Sim.refl H) ok rb⟩
def yk (r:dF K H F d v) (e:tv d = some k):MS K v H k:=by
 cases d with
 | non=>cases e;rcases r with r | ⟨_,_,_,z,_⟩;(unfold Rel at r;subst r;rfl);cases z
 | bl b=>cases e;have:=r.bl;subst this;rfl
 | int i=>cases e;have:=r.int;subst this;rfl
 | str x =>
   change (if x.length<=sizeLine then some ((x.length:Int) != 0) else none) = some k at e;split at e
   . cases e;have:=r.str;subst this;exact ⟨‹_›,rfl⟩
   . cases e
 | lst ds =>
   cases e;obtain ⟨a,xs,rfl,h1,h2⟩:=r.lst;refine .inl ⟨xs,h1.sq,?_⟩;have:=h2.length
   cases ds<;>cases xs<;>first | rfl | (simp at this)
 | tup ds =>
   cases e;obtain ⟨a,xs,rfl,h1,h2⟩:=r.tup;refine .inr ⟨xs,h1,?_⟩;have:=h2.length
   cases ds<;>cases xs<;>first | rfl | (simp at this)
 | fn _ _=>cases e
def vU (he:e = .var i\/e = .pk i) (hN:X.N[i]? = some x) (hv:Vis X.env.scope x) (hd:(x == ("__debug__":Str)) = false) (hcd:(x == ("__classdict__":Str)) = false):PT X (.Name x pos) (tT X.K cx e):=by
 refine PT.imp (qA (mv hN hv hd hcd) λ_=>rfl) λσ H Q h=>?_;obtain ⟨G,F,δ,k,δ',ok,ev,post⟩:=h
 have ev':∃ d,get δ i = some d/\tv d = some k/\δ = δ':=by
  rcases he with rfl | rfl
  . simp only [evT,af,ag] at ev;obtain ⟨d,e1,k',e2,e⟩:=ev;cases e;exact ⟨d,e1,e2,rfl⟩
  . simp only [evT,af,ag] at ev;obtain ⟨d,e1,k',e2,e⟩:=ev;cases e;exact ⟨d,e1,e2,rfl⟩
 obtain ⟨d,e1,e2,rfl⟩:=ev';obtain ⟨v,ev,rb,_⟩:=ok.look e1;exact ⟨v,ev,k,yk rb e2,post H F Step.refl (λ_=>Sim.refl H) ok⟩
def HP:PE X (.Constant (.int i) j pos) (tE X.K cx (.int i)) :=
 PE.imp Lx λσ H Q ⟨G,F,δ,d,δ',ok,ev,post⟩=>by cases ev;exact post _ H F Step.refl (λ_=>Sim.refl H) ok (hZ (cR i))
def KQ:PE X (.Constant (.bool i) j pos) (tE X.K cx (.bl i)) :=
 PE.imp NR λσ H Q ⟨G,F,δ,d,δ',ok,ev,post⟩=>by cases ev;exact post _ H F Step.refl (λ_=>Sim.refl H) ok (hZ (kO i))
def HG:PE X (.Constant (.str i) j pos) (tE X.K cx (.str i)) :=
 PE.imp Lu λσ H Q ⟨G,F,δ,d,δ',ok,ev,post⟩=>by cases ev;exact post _ H F Step.refl (λ_=>Sim.refl H) ok (hZ (js i))
def HK:PE X (.Constant .none j pos) (tE X.K cx .non) :=
 PE.imp Lw λσ H Q ⟨G,F,δ,d,δ',ok,ev,post⟩=>by cases ev;exact post _ H F Step.refl (λ_=>Sim.refl H) ok (hZ zT)
def DL (hg:Gl X x) (hm:X.mg x = some u) (r:RelV v u) (hr:∀ d,cx.gl[g]? = some d->∀ H F,Rel X.K H F d v) (hd:(x == ("__debug__":Str)) = false):PE X (.Name x pos) (tE X.K cx (.glob g)):=by
 refine PE.imp (Iy hg hm r hd) λσ H Q h=>?_;obtain ⟨G,F,δ,d,δ',ok,ev,post⟩:=h;simp only [evE,af,ag] at ev;obtain ⟨d',e1,e⟩:=ev;cases e;exact post v H F Step.refl (λ_=>Sim.refl H) ok (hZ (hr d e1 H F))
def HL (n:(!cj a) = true) (ha:PE X y (tE X.K cx a)):PE X (.UnaryOp .USub y pos) (tE X.K cx (.neg a)):=by
 refine PE.imp (NO Kz ha) λσ H Q h=>?_;obtain ⟨G,F,δ,d,δ',ok,ev,post⟩:=h;simp only [evE,af,ag] at ev;obtain ⟨⟨x,δ1⟩,ea,ev⟩:=ev
 cases x with
 | int i =>
   cases ev;refine ⟨G,F,δ,_,_,ok,ea,λv H1 F1 st sm ok1 r=>?_⟩;have:=r.b.int;subst this
   exact ⟨i,rfl,post _ H1 F1 st sm ok1 (hZ (cR _))⟩
 | _=>cases ev
end
end PP
end
section
namespace PP
open PySem PyProof.Rows
def fD:Bool->av->Array av->Nat->Nat->Nat->StateT bf Sem (Option Nat):=sortPriv% PySem.Builtin.gallop
def qK:Array av->Array av->StateT bf Sem (Array av):=sortPriv% PySem.Builtin.mergeLo
def qL:Array av->Array av->StateT bf Sem (Array av):=sortPriv% PySem.Builtin.mergeHi
def beyond (left:Bool) (key:av) (arr:Array av) (base i:Nat):StateT bf Sem (Option Bool):=do
 let x <- elem' arr (base+i)
 if left then lt' x key else return (<- lt' key x).map (!·)
def yO (left:Bool) (key:av) (arr:Array av) (base n hint:Nat):fD left key arr base n hint = (do
 let mut lastofs:=0
 let mut ofs:=1
 let mut lo:=0
 let mut hi:=0
 let some right <- beyond left key arr base hint | return none
 if right then
  let maxofs:=n - hint
  for _ in [0:n] do
   if ofs ≥ maxofs then break
   let some more <- beyond left key arr base (hint+ofs) | return none
   if !more then break
   lastofs:=ofs
   ofs:=2 * ofs+1
  lo:=hint+lastofs+1
  hi:=hint+min ofs maxofs
 else
  let maxofs:=hint+1
  for _ in [0:n] do
   if ofs ≥ maxofs then break
   let some found <- beyond left key arr base (hint - ofs) | return none
   if found then break
   lastofs:=ofs
   ofs:=2 * ofs+1
  lo:=hint+1 - min ofs maxofs
  hi:=hint - lastofs
 for _ in [0:n] do
  if lo ≥ hi then break
  let m:=lo+(hi - lo) / 2
  let some more <- beyond left key arr base m | return none
  if more then lo:=m+1 else hi:=m
 return some hi):=rfl
def Om (left:Bool) (key:av) (arr:Array av) (base n lo hi:Nat):StateT bf Sem (Option Nat):=do
 let mut lo:=lo
 let mut hi:=hi
 for _ in [0:n] do
  if lo ≥ hi then break
  let m:=lo+(hi - lo) / 2
  let some more <- beyond left key arr base m | return none
  if more then lo:=m+1 else hi:=m
 return some hi
section
variable {M:mP} {A:aW} {E:ae->ai->Prop} {s:ai} {st:bf}
section
variable {left:Bool} {key:av} {arr:Array av} {base n hint:Nat} {B:Nat->Bool} {Q:Option Nat->bf->Prop}
 (hB:∀ (i:Nat) (Q:Option Bool->bf->Prop),i < n->Q (some (B i)) st->wpS M A E s (beyond left key arr base i) Q st)
 (mono:∀ i j,i<=j->j < n->B j = true->B i = true)
 (h:∀ k,k<=n->(∀ i,i < k->B i = true)->(∀ i,k<=i->i < n->B i = false)->Q (some k) st)
include hB mono h
theorem Az {lo hi:Nat} (h1:lo<=hi) (h2:hi<=n) (ht:∀ i,i < lo->B i = true) (hf:∀ i,hi<=i->i < n->B i = false):wpS M A E s (Om left key arr base n lo hi) Q st:=by
 unfold Om
 refine aA (dE (cq (I:=λx c st'=>st' = st/\∃ lo hi,c = (none,lo,hi)/\lo<=hi/\hi<=n/\hi - lo<=n - x/\(∀ i,i < lo->B i = true)/\∀ i,hi<=i->i < n->B i = false)
  (Q:=λc st'=>st' = st/\∃ k,c = (none,k,k)/\k<=n/\(∀ i,i < k->B i = true)/\∀ i,k<=i->i < n->B i = false) ?step ?fin ⟨rfl,lo,hi,rfl,h1,h2,∅,ht,hf⟩) ?post)
 case post =>
  rintro c st' ⟨rfl,k,rfl,a,b,d⟩;exact aR (h k a b d)
 case fin =>
  rintro c st' ⟨rfl,lo,hi,rfl,a1,a2,a3,a4,a5⟩;obtain rfl:lo = hi:=by lia
  exact ⟨rfl,lo,rfl,a2,a4,a5⟩
 case step =>
  rintro x c st' _ hx ⟨rfl,lo,hi,rfl,a1,a2,a3,a4,a5⟩;dsimp only;by_cases hge:lo ≥ hi
  . rw [if_pos hge];obtain rfl:lo = hi:=by lia
    exact aR ⟨rfl,lo,rfl,a2,a4,a5⟩
  . rw [if_neg hge];have hm:lo+(hi - lo) / 2 < hi:=by lia
    refine aA (hB _ _ ∅ ?_)
    cases hb:B (lo+(hi - lo) / 2) with
    | true=>exact aR ⟨rfl,_,hi,rfl,∅,a2,∅,λi hi'=>mono i _ ∅ ∅ hb,a5⟩
    | false =>
      refine aR ⟨rfl,lo,_,rfl,∅,∅,∅,a4,λi h3 h4=>?_⟩
      cases hc:B i with
      | false=>rfl
      | true=>rw [mono _ i h3 h4 hc] at hb;cases hb
theorem BX (hh:hint < n):wpS M A E s (fD left key arr base n hint) Q st:=by
 rw [yO];refine aA (hB hint _ hh ?_);dsimp only
 have nb:∀ {i j:Nat},i<=j->j < n->B i = false->B j = false:=λ{i j} h1 h2 h3=>by
  cases hc:B j with
  | false=>rfl
  | true=>rw [mono i j h1 h2 hc] at h3;cases h3
 cases hq:B hint with
 | true =>
   rw [if_pos rfl]
   refine aA (dE (cq (I:=λx c st'=>st' = st/\∃ l o:Nat,c = (none,l,o)/\hint+l < n/\l < o/\x+1<=o/\B (hint+l) = true)
    (Q:=λc st'=>st' = st/\∃ l o:Nat,c = (none,l,o)/\hint+l < n/\l < o/\B (hint+l) = true/\(o < n - hint->B (hint+o) = false)) ?step ?fin ⟨rfl,0,1,rfl,hh,⇑0,⇑0,hq⟩) ?post)
   case post =>
    rintro c st' ⟨rfl,l,o,rfl,a1,a2,a3,a4⟩;refine Az hB mono h ∅ ∅ (λi hi=>mono i _ ∅ a1 a3) λi h1 h2=>nb h1 h2 ?_;by_cases ho:o < n - hint
    . rw [show hint+min o (n - hint) = hint+o by lia];exact a4 ho
    . exfalso;lia
   case fin =>
    rintro c st' ⟨rfl,l,o,rfl,a1,a2,a3,a4⟩;exact ⟨rfl,l,o,rfl,a1,a2,a4,λz=>by lia⟩
   case step =>
    rintro x c st' _ hx ⟨rfl,l,o,rfl,a1,a2,a3,a4⟩;dsimp only;by_cases hge:o ≥ n - hint
    . rw [if_pos hge];exact aR ⟨rfl,l,o,rfl,a1,a2,a4,λz=>by lia⟩
    . rw [if_neg hge];refine aA (hB _ _ ∅ ?_)
      cases hb:B (hint+o) with
      | true=>exact aR ⟨rfl,o,_,rfl,∅,∅,∅,hb⟩
      | false=>exact aR ⟨rfl,l,o,rfl,a1,a2,a4,λ_=>hb⟩
 | false =>
   rw [if_neg ⇑0]
   refine aA (dE (cq (I:=λx c st'=>st' = st/\∃ l o:Nat,c = (none,l,o)/\l<=hint/\l < o/\x+1<=o/\B (hint - l) = false)
    (Q:=λc st'=>st' = st/\∃ l o:Nat,c = (none,l,o)/\l<=hint/\l < o/\B (hint - l) = false/\(o < hint+1->B (hint - o) = true)) ?step ?fin ⟨rfl,0,1,rfl,∅,⇑0,⇑0,hq⟩) ?post)
   case post =>
    rintro c st' ⟨rfl,l,o,rfl,a1,a2,a3,a4⟩;refine Az hB mono h ∅ ∅ (λi hi=>?_) λi h1 h2=>nb h1 h2 a3;by_cases ho:o < hint+1
    . exact mono i (hint - o) ∅ ∅ (a4 ho)
    . exfalso;lia
   case fin =>
    rintro c st' ⟨rfl,l,o,rfl,a1,a2,a3,a4⟩;exact ⟨rfl,l,o,rfl,a1,a2,a4,λz=>by lia⟩
   case step =>
    rintro x c st' _ hx ⟨rfl,l,o,rfl,a1,a2,a3,a4⟩;dsimp only;by_cases hge:o ≥ hint+1
    . rw [if_pos hge];exact aR ⟨rfl,l,o,rfl,a1,a2,a4,λz=>by lia⟩
    . rw [if_neg hge];refine aA (hB _ _ ∅ ?_)
      cases hb:B (hint - o) with
      | true=>exact aR ⟨rfl,l,o,rfl,a1,a2,a4,λ_=>hb⟩
      | false=>exact aR ⟨rfl,o,_,rfl,∅,∅,∅,hb⟩
end
end
def wH (a b:Array av):qK a b = (do
 rule "list.sort.merge-lo"
 let total:=a.size+b.size
 let done (out:Array av) (ia ib:Nat):=out++a.extract ia a.size++b.extract ib b.size
 let lastOfA (out:Array av) (ia ib:Nat):=out++b.extract ib b.size++a.extract ia a.size
 let mut out:Array av := #[<- elem' b 0]
 let mut ia:=0
 let mut ib:=1
 if ib == b.size then return done out ia ib
 if ia+1 == a.size then return lastOfA out ia ib
 let mut minGallop:=gallopOf (<- iM)
 for _ in [0:total] do
  let mut acount:=0
  let mut bcount:=0
  for _ in [0:total] do
   let some bWins <- lt' (<- elem' b ib) (<- elem' a ia) | return done out ia ib
   if bWins then
    out:=out.push (<- elem' b ib);ib:=ib+1;bcount:=bcount+1;acount:=0
    if ib == b.size then return done out ia ib
    if bcount ≥ minGallop then break
   else
    out:=out.push (<- elem' a ia);ia:=ia+1;acount:=acount+1;bcount:=0
    if ia+1 == a.size then return lastOfA out ia ib
    if acount ≥ minGallop then break
  rule "list.sort.gallop"
  minGallop:=minGallop+1
  for _ in [0:total] do
   if minGallop > 1 then minGallop:=minGallop - 1
   (sortPriv% PySem.Builtin.setMinGallop) minGallop
   let some k <- fD false (<- elem' b ib) a ia (a.size - ia) 0 | return done out ia ib
   acount:=k
   if k > 0 then
    out:=out++a.extract ia (ia+k);ia:=ia+k
    if ia+1 == a.size then return lastOfA out ia ib
    if ia == a.size then return done out ia ib
   out:=out.push (<- elem' b ib);ib:=ib+1
   if ib == b.size then return done out ia ib
   let some k <- fD true (<- elem' a ia) b ib (b.size - ib) 0 | return done out ia ib
   bcount:=k
   if k > 0 then
    out:=out++b.extract ib (ib+k);ib:=ib+k
    if ib == b.size then return done out ia ib
   out:=out.push (<- elem' a ia);ia:=ia+1
   if ia+1 == a.size then return lastOfA out ia ib
   if acount < 7 && bcount < 7 then break
  minGallop:=minGallop+1
  (sortPriv% PySem.Builtin.setMinGallop) minGallop
 unsupported "internal:list.sort.merge-bound"):=rfl
abbrev S7:=Option (Array av) × Array av × Nat × Nat × Nat × Nat × Nat
abbrev dnL (a b out:Array av) (ia ib:Nat):Array av:=out++a.extract ia a.size++b.extract ib b.size
abbrev lsA (a b out:Array av) (ia ib:Nat):Array av:=out++b.extract ib b.size++a.extract ia a.size
def ml3 (a b:Array av) (mg ac ia bc:Nat) (out:Array av) (ib:Nat):StateT bf Sem (ForInStep S7):=do
 let p <- elem' a ia
 if (ia+1+1 == a.size) = true then pure (.done (some (lsA a b (out.push p) (ia+1) ib),out.push p,ia+1,ib,mg,ac,bc)) else
 if (decide (ac < 7) && decide (bc < 7)) = true then pure (.done (none,out.push p,ia+1,ib,mg,ac,bc)) else pure (.yield (none,out.push p,ia+1,ib,mg,ac,bc))
def ml2 (a b:Array av) (mg ac bc ib:Nat) (out:Array av) (ia:Nat):StateT bf Sem (ForInStep S7):=do
 let p <- elem' b ib
 if (ib+1 == b.size) = true then pure (.done (some (dnL a b (out.push p) ia (ib+1)),out.push p,ia,ib+1,mg,ac,bc)) else do
  let r <- elem' a ia
  let some k <- fD true r b (ib+1) (b.size - (ib+1)) 0 | pure (.done (some (dnL a b (out.push p) ia (ib+1)),out.push p,ia,ib+1,mg,ac,bc))
  if k > 0 then (if (ib+1+k == b.size) = true then pure (.done (some (dnL a b (out.push p++b.extract (ib+1) (ib+1+k)) ia (ib+1+k)),out.push p++b.extract (ib+1) (ib+1+k),ia,ib+1+k,mg,ac,k)) else ml3 a b mg ac ia k (out.push p++b.extract (ib+1) (ib+1+k)) (ib+1+k)) else ml3 a b mg ac ia k (out.push p) (ib+1)
def ml1 (a b out:Array av) (ia ib ac bc mg:Nat):StateT bf Sem (ForInStep S7):=do
 modify λs=>iB (kindOf s) (arrOf s) (pendingOf s) mg (failedOf s)
 let p <- elem' b ib
 let some k <- fD false p a ia (a.size - ia) 0 | pure (.done (some (dnL a b out ia ib),out,ia,ib,mg,ac,bc))
 if k > 0 then (if (ia+k+1 == a.size) = true then pure (.done (some (lsA a b (out++a.extract ia (ia+k)) (ia+k) ib),out++a.extract ia (ia+k),ia+k,ib,mg,k,bc)) else if (ia+k == a.size) = true then pure (.done (some (dnL a b (out++a.extract ia (ia+k)) (ia+k) ib),out++a.extract ia (ia+k),ia+k,ib,mg,k,bc)) else ml2 a b mg k bc ib (out++a.extract ia (ia+k)) (ia+k)) else ml2 a b mg k bc ib out ia
section
variable {α:Type} {le:α->α->Prop}
structure Ml (le:α->α->Prop) (T out la lb:List α):Prop where
 pm:(out++(la++lb)).Perm T
 up:out.Pairwise le
 ua:la.Pairwise le
 ub:lb.Pairwise le
 oa:∀ x∈out,∀ y∈la,le x y
 ob:∀ x∈out,∀ y∈lb,le x y
variable {T out la lb:List α}
def Ml.moveA (m:Ml le T out la lb) (k:Nat) (h:∀ x∈la.take k,∀ y∈lb,le x y):Ml le T (out++la.take k) (la.drop k) lb:=by
 have e:=bw k la;have p:=m.ua;rw [<- e,bU] at p;have oa:=m.oa;rw [<- e] at oa;refine ⟨?_,bU.mpr ⟨m.up,p.1,λx hx y hy=>oa x hx y (dU _ hy)⟩,p.2.1,m.ub,λx hx y hy=>?_,λx hx y hy=>?_⟩
 . rw [aU,<- aU (la.take k),e];exact m.pm
 . exact (bC.mp hx).elim (λz=>oa x z y (bo _ hy)) λz=>p.2.2 x z y hy
 . exact (bC.mp hx).elim (λz=>m.ob x z y hy) λz=>h x z y hy
def Ml.swap (m:Ml le T out la lb):Ml le T out lb la:=⟨(List.perm_append_comm.append_left out).trans m.pm,m.up,m.ub,m.ua,m.ob,m.oa⟩
def Ml.moveB (m:Ml le T out la lb) (k:Nat) (h:∀ x∈lb.take k,∀ y∈la,le x y):Ml le T (out++lb.take k) la (lb.drop k):=(m.swap.moveA k h).swap
def Mr (le:α->α->Prop) (T r:List α):Prop:=r.Perm T/\r.Pairwise le
def Ml.endB (m:Ml le T out la []):Mr le T (out++la):=⟨by simpa using m.pm,bU.mpr ⟨m.up,m.ua,m.oa⟩⟩
def Ml.endA (m:Ml le T out [] lb):Mr le T (out++lb):=⟨by simpa using m.pm,bU.mpr ⟨m.up,m.ub,m.ob⟩⟩
def Ml.last (m:Ml le T out la lb) (h:∀ y∈lb,∀ x∈la,le y x):Mr le T (out++lb++la) :=
 ⟨by have:=m.swap.pm;simpa [aU] using this,bU.mpr ⟨bU.mpr ⟨m.up,m.ub,m.ob⟩,m.ua,λx hx y hy=>(bC.mp hx).elim (λz=>m.oa x z y hy) λz=>h x z y hy⟩⟩
def take1 {l:List α} {i:Nat} {x:α} (h:l[i]? = some x):(l.drop i).take 1 = [x]/\x∈l.drop i:=by
 obtain ⟨hi,e⟩:=aC.mp h;rw [de hi,e];exact ⟨rfl,au⟩
def qM {l:List α} {i k:Nat} {x:α} (h:x∈(l.drop i).take k):∃ j,j < k/\l[i+j]? = some x:=by
 obtain ⟨j,hj⟩:=dJ.mp h;rw [nX] at hj;split at hj
 . rename_i hk;rw [eW] at hj;exact ⟨j,hk,hj⟩
 . cases hj
def nk {l:List α} {i:Nat} {x:α} (h:x∈l.drop i):∃ j,l[i+j]? = some x:=by
 obtain ⟨j,hj⟩:=dJ.mp h;rw [eW] at hj;exact ⟨j,hj⟩
end
structure Cp (M:mP) (A:aW) (E:ae->ai->Prop) (s:ai) (κ:cK) (D:av->Prop) (bl:av->av->Bool):Prop where
 lt:∀ (x y:av) (st:bf) (Q:Option Bool->bf->Prop),D x->D y->kindOf st = κ->Q (some (bl x y)) st->wpS M A E s (lt' x y) Q st
 as:∀ x y,D x->D y->bl x y = true->bl y x = false
 tr:∀ x y z,D x->D y->D z->bl y x = false->bl z y = false->bl z x = false
def SB (st st':bf):Prop:=st' = iB (kindOf st) (arrOf st) (pendingOf st) (gallopOf st') (failedOf st)
section
variable {M:mP} {A:aW} {E:ae->ai->Prop} {s:ai} {st:bf} {κ:cK} {D:av->Prop} {bl:av->av->Bool}
abbrev leB (bl:av->av->Bool) (x y:av):Prop:=bl y x = false
def el {arr:Array av} {i:Nat} {x:av} {Q:av->bf->Prop} (h:arr[i]? = some x) (q:Q x st):wpS M A E s (elem' arr i) Q st:=by
 rw [elem'_eq,h];exact aR q
def tst (bl:av->av->Bool) (left:Bool) (key x:av):Bool:=if left then bl x key else !(bl key x)
def gal (C:Cp M A E s κ D bl) {left:Bool} {key:av} {arr:Array av} {base n hint:Nat} {Q:Option Nat->bf->Prop} (hk:kindOf st = κ) (dk:D key) (hn:base+n<=arr.size) (hh:hint < n) (dm:∀ i x,i < n->arr[base+i]? = some x->D x)
 (u:∀ i j x y,i<=j->j < n->arr[base+i]? = some x->arr[base+j]? = some y->leB bl x y)
 (h:∀ k,k<=n->(∀ i x,i < k->arr[base+i]? = some x->tst bl left key x = true)->(∀ i x,k<=i->i < n->arr[base+i]? = some x->tst bl left key x = false)->Q (some k) st):wpS M A E s (fD left key arr base n hint) Q st:=by
 have g:∀ i,i < n->∃ x,arr[base+i]? = some x:=λi hi=>⟨_,getElem?_pos arr (base+i) ∅⟩
 refine BX (B:=λi=>match arr[base+i]? with
  | some x=>tst bl left key x
  | none=>false) (λi Q hi q=>?_) (λi j hij hj hb=>?_) (λk h1 h2 h3=>h k h1 (λi x hi e=>?_) λi x h4 h5 e=>?_) hh
 . obtain ⟨x,e⟩:=g i hi;rw [e] at q;have dx:=dm i x hi e;unfold beyond;refine aA (el e ?_)
   cases left with
   | true=>exact C.lt x key st _ dx dk hk q
   | false=>exact aA (C.lt key x st _ dk dx hk (aR q))
 . obtain ⟨x,e⟩:=g i ∅;obtain ⟨y,e'⟩:=g j hj;simp only [e,e'] at hb |-;have l:=u i j x y hij hj e e';have dx:=dm i x ∅ e;have dy:=dm j y hj e';unfold tst at *
   cases left with
   | true =>
     simp only [if_true] at hb |-
     cases hc:bl x key with
     | true=>rfl
     | false=>rw [C.tr key x y dk dx dy hc l] at hb;cases hb
   | false =>
     simp only [bb,if_false,jS] at hb |-;exact C.tr x y key dx dy dk l hb
 . have:=h2 i hi
   rwa [e] at this
 . have:=h3 i h4 h5
   rwa [e] at this
def SB.refl:SB st st:=rfl
def SB.kind {st':bf} (h:SB st st'):kindOf st' = kindOf st:=by rw [h]
def SB.mg {st':bf} (h:SB st st') (g:Nat):SB st (iB (kindOf st') (arrOf st') (pendingOf st') g (failedOf st')):=by
 unfold SB at *;rw [h]
variable {a b:Array av} {Q:Array av->bf->Prop}
def xh (a:Array av) (i k:Nat):(a.extract i (i+k)).toList = (a.toList.drop i).take k:=by
 rw [zA,vn];congr 1
 lia
def AA (a:Array av) (i:Nat):(a.extract i a.size).toList = a.toList.drop i:=by
 rw [zA,vn,eV ↥0]
def eh (a:Array av) {i:Nat} (h:i < a.size):∃ x,a[i]? = some x/\a.toList[i]? = some x/\x∈a.toList:=by
 refine ⟨a[i],getElem?_pos a i h,?_,↥0⟩;rw [aN];exact getElem?_pos a i h
def Wl (bl:av->av->Bool) (a b out:Array av) (ia ib:Nat):Prop:=Ml (leB bl) (a.toList++b.toList) out.toList (a.toList.drop ia) (b.toList.drop ib)/\ia+1 < a.size/\ib < b.size
def Wl.len {out:Array av} {ia ib:Nat} (h:Wl bl a b out ia ib):out.size+3<=a.size+b.size:=by
 have:=h.1.pm.length_eq;simp only [ax,cP,aK] at this;have:=h.2
 lia
def Re (bl:av->av->Bool) (a b r:Array av):Prop:=Mr (leB bl) (a.toList++b.toList) r.toList
def pG {β:Type} {c:Prop} [Decidable c] {p r:StateT bf Sem β} {Q:β->bf->Prop} (h:c->wpS M A E s p Q st) (k:¬c->wpS M A E s r Q st):wpS M A E s (if c then p else r) Q st:=by
 split
 . rename_i hc;exact h hc
 . rename_i hc;exact k hc
def Wl.pushB {out:Array av} {ia ib:Nat} {y:av} (w:Ml (leB bl) (a.toList++b.toList) out.toList (a.toList.drop ia) (b.toList.drop ib)) (e:b.toList[ib]? = some y) (h:∀ x∈a.toList.drop ia,leB bl y x):Ml (leB bl) (a.toList++b.toList) (out.push y).toList (a.toList.drop ia) (b.toList.drop (ib+1)):=by
 have m:=w.moveB 1 (by rw [(take1 e).1];intro x hx;rw [aP.mp hx];exact h);rw [(take1 e).1,fJ] at m
 rwa [fo]
def Wl.pushA {out:Array av} {ia ib:Nat} {x:av} (w:Ml (leB bl) (a.toList++b.toList) out.toList (a.toList.drop ia) (b.toList.drop ib)) (e:a.toList[ia]? = some x) (h:∀ y∈b.toList.drop ib,leB bl x y):Ml (leB bl) (a.toList++b.toList) (out.push x).toList (a.toList.drop (ia+1)) (b.toList.drop ib):=by
 have m:=w.moveA 1 (by rw [(take1 e).1];intro x hx;rw [aP.mp hx];exact h);rw [(take1 e).1,fJ] at m
 rwa [fo]
def Wl.done {out:Array av} {ia ib:Nat} (m:Ml (leB bl) (a.toList++b.toList) out.toList (a.toList.drop ia) (b.toList.drop ib)) (h:ib = b.size\/ia = a.size):Re bl a b (dnL a b out ia ib):=by
 unfold Re dnL;rw [bM,bM,AA,AA];rcases h with rfl | rfl
 . rw [show b.toList.drop b.size = [] by simp] at m |-;rw [cB];exact m.endB
 . rw [show a.toList.drop a.size = [] by simp] at m |-;rw [cB];exact m.endA
def IL {σ:Type} (W:Nat->σ->Prop) (st:bf) (n:Nat) (c:Option (Array av) × σ) (st':bf):Prop:=c.1 = none/\SB st st'/\W n c.2
def QL {σ:Type} (R:Array av->Prop) (W:Nat->σ->Prop) (st:bf) (n:Nat) (c:Option (Array av) × σ) (st':bf):Prop:=(∃ r,c.1 = some r/\R r/\SB st st')\/IL W st n c st'
def PL {σ:Type} (R:Array av->Prop) (W:Nat->σ->Prop) (st:bf) (n:Nat) (r:ForInStep (Option (Array av) × σ)) (st':bf):Prop:=match r with
 | .done c=>QL R W st n c st'
 | .yield c=>IL W st n c st'
section
variable {σ:Type} {R:Array av->Prop} {W:Nat->σ->Prop} {n:Nat} {x:σ} {st':bf}
def Iv {r:Array av} (h:R r) (g:SB st st'):wpS M A E s (pure (.done (some r,x))) (PL R W st n) st':=aR (.inl ⟨_,rfl,h,g⟩)
def sF {c:Prop} [Decidable c] (h:W n x) (g:SB st st'):wpS M A E s (if c then pure (.done (none,x)) else pure (.yield (none,x))) (PL R W st n) st':=by
 split
 . exact aR (.inr ⟨rfl,g,h⟩)
 . exact aR ⟨rfl,g,h⟩
def gB {c:Prop} [Decidable c] {r:Array av} {p:StateT bf Sem (ForInStep (Option (Array av) × σ))} (h:c->R r) (g:SB st st') (k:¬c->wpS M A E s p (PL R W st n) st'):wpS M A E s (if c then pure (.done (some r,x)) else p) (PL R W st n) st':=by
 split
 . rename_i hc;exact Iv (h hc) g
 . rename_i hc;exact k hc
end
def Nt {x y:av} (h:tst bl false x y = false):bl x y = true:=by
 unfold tst at h;cases e:bl x y<;>simp_all
def Nu {x y:av} (h:tst bl false x y = true):bl x y = false:=by
 unfold tst at h;cases e:bl x y<;>simp_all
def eX {i j:Nat} (h:¬(i == j) = true):i≠j:=λz=>h (by rw [z];exact beq_self_eq_true j)
def WL (bl:av->av->Bool) (a b:Array av) {ρ:Type} (n:Nat) (x:Array av × Nat × Nat × ρ):Prop:=Wl bl a b x.1 x.2.1 x.2.2.1/\n<=x.1.size
abbrev S6:=Option (Array av) × Array av × Nat × Nat × Nat × Nat
def mlB (a b:Array av) (mg:Nat) (out:Array av) (ia ib bc:Nat):StateT bf Sem (ForInStep S6):=do
 let p <- elem' b ib
 if (ib+1 == b.size) = true then pure (.done (some (dnL a b (out.push p) ia (ib+1)),out.push p,ia,ib+1,0,bc+1)) else
 if bc+1 ≥ mg then pure (.done (none,out.push p,ia,ib+1,0,bc+1)) else pure (.yield (none,out.push p,ia,ib+1,0,bc+1))
def mlA (a b:Array av) (mg:Nat) (out:Array av) (ia ib ac:Nat):StateT bf Sem (ForInStep S6):=do
 let p <- elem' a ia
 if (ia+1+1 == a.size) = true then pure (.done (some (lsA a b (out.push p) (ia+1) ib),out.push p,ia+1,ib,ac+1,0)) else
 if ac+1 ≥ mg then pure (.done (none,out.push p,ia+1,ib,ac+1,0)) else pure (.yield (none,out.push p,ia+1,ib,ac+1,0))
def mlI (a b:Array av) (mg:Nat) (out:Array av) (ia ib ac bc:Nat):StateT bf Sem (ForInStep S6):=do
 let p <- elem' b ib
 let r <- elem' a ia
 let some w <- lt' p r | pure (.done (some (dnL a b out ia ib),out,ia,ib,ac,bc))
 if w = true then mlB a b mg out ia ib bc else mlA a b mg out ia ib ac
section
variable (C:Cp M A E s κ D bl) (ha:∀ x∈a.toList,D x) (hb:∀ x∈b.toList,D x) (ua:a.toList.Pairwise (leB bl)) (ub:b.toList.Pairwise (leB bl)) (hl:∀ y∈b.toList,∀ x∈a.toList.drop (a.size - 1),leB bl y x)
include C ha hb ua ub
theorem nv {l:List av} (hl:∀ x∈l,D x) (u:l.Pairwise (leB bl)) {i:Nat} {x:av} (h:l[i]? = some x):∀ y∈l.drop i,leB bl x y:=λy hy=>by
 obtain ⟨hi,e⟩:=aC.mp h;rw [de hi,e] at hy;rcases aQ.mp hy with e2 | hy
 . rw [e2];have dx:=hl x (bI h);show bl x x = false
   cases hc:bl x x with
   | false=>rfl
   | true=>have:=C.as x x dx dx hc;rw [hc] at this;cases this
 . have:=u.sublist (GY i l);rw [de hi,e,dq] at this;exact this.1 y hy
theorem JG {ar:Array av} {base:Nat} (u:ar.toList.Pairwise (leB bl)) (d:∀ z∈ar.toList,D z) (i j:Nat) (x y:av) (hij:i<=j) (_:j < ar.size - base) (e1:ar[base+i]? = some x) (e2:ar[base+j]? = some y):leB bl x y:=by
 rw [<- aN] at e1 e2;refine nv C ha hb ua ub d u e1 y ?_;rw [dJ];exact ⟨j - i,by rw [eW,show base+i+(j - i) = base+j by lia];exact e2⟩
include hl
theorem Wl.lastA {out:Array av} {ia ib:Nat} (m:Ml (leB bl) (a.toList++b.toList) out.toList (a.toList.drop ia) (b.toList.drop ib)) (h:ia+1 = a.size):Re bl a b (lsA a b out ia ib):=by
 unfold Re lsA;rw [bM,bM,AA,AA];exact m.last λy hy x hx=>hl y (bh hy) x (by rw [show a.size - 1 = ia by lia];exact hx)
variable {n ia ib ac bc mg:Nat} {out:Array av} {st3:bf}
theorem Md (hk:kindOf st = κ) (g1:SB st st3) (w:Wl bl a b out ia ib) (g3:n<=out.size):wpS M A E s (mlI a b mg out ia ib ac bc) (PL (Re bl a b) (WL bl a b) st (n+1)) st3:=by
 obtain ⟨g2,ga,gb⟩:=w;obtain ⟨p,ep,ep',mp⟩:=eh b gb;obtain ⟨r,er,er',mr⟩:=eh a (i:=ia) ∅;have hp:=hb p mp;have hr:=ha r mr;have gs:∀ z,n+1<=(out.push z).size:=λz=>by rw [gu];lia
 refine aA (el ep (aA (el er (aA (C.lt p r _ _ hp hr (g1.kind.trans hk) ?_)))))
 cases hc:bl p r with
 | true =>
   have m:=Wl.pushB g2 ep' λz hz=>C.tr p r z hp hr (ha z (bh hz)) (C.as _ _ hp hr hc) (nv C ha hb ua ub ha ua er' z hz)
   refine aA (el ep (gB (λd=>Wl.done m (.inl (eq_of_beq d))) g1 λd=>sF ⟨⟨m,ga,gM gb (eX d)⟩,gs p⟩ g1))
 | false =>
   have m:=Wl.pushA g2 er' λz hz=>C.tr r p z hr hp (hb z (bh hz)) hc (nv C ha hb ua ub hb ub ep' z hz);refine aA (el er (gB (λd=>Wl.lastA C ha hb ua ub hl m (eq_of_beq d)) g1 λd=>sF ⟨⟨m,gM ga (eX d),gb⟩,gs r⟩ g1))
theorem Ff (g1:SB st st3) (w:Wl bl a b out ia ib) (g3:n<=out.size) (g4:∀ r,a.toList[ia]? = some r->∀ z∈b.toList.drop ib,leB bl r z):wpS M A E s (ml3 a b mg ac ia bc out ib) (PL (Re bl a b) (WL bl a b) st n) st3:=by
 obtain ⟨g2,ga,gb⟩:=w;obtain ⟨r,er,er',mr⟩:=eh a (i:=ia) ∅;have m:=Wl.pushA g2 er' (g4 r er');exact aA (el er (gB (λd=>Wl.lastA C ha hb ua ub hl m (eq_of_beq d)) g1 λd=>sF ⟨⟨m,gM ga (eX d),gb⟩,by rw [gu];lia⟩ g1))
theorem Fg (hk:kindOf st = κ) (g1:SB st st3) (w:Wl bl a b out ia ib) (g3:n<=out.size) (g4:∀ p,b.toList[ib]? = some p->∀ z∈a.toList.drop ia,leB bl p z):wpS M A E s (ml2 a b mg ac bc ib out ia) (PL (Re bl a b) (WL bl a b) st n) st3:=by
 obtain ⟨g2,ga,gb⟩:=w;obtain ⟨p,ep,ep',mp⟩:=eh b gb;obtain ⟨r,er,er',mr⟩:=eh a (i:=ia) ∅;have hr:=ha r mr;have m:=Wl.pushB g2 ep' (g4 p ep');have gs:n<=(out.push p).size:=by rw [gu];lia
 refine aA (el ep (gB (λd=>Wl.done m (.inl (eq_of_beq d))) g1 λd=>?_));have hb1:ib+1 < b.size:=gM gb (eX d);refine aA (el er (aA (gal C (g1.kind.trans hk) hr ∅ ∅ (λi z _ e=>hb z (by rw [<- aN] at e;exact bI e)) (JG C ha hb ua ub ub hb) λk k1 k2 k3=>?_)))
 have cond:ib+1+k < b.size->∀ r',a.toList[ia]? = some r'->∀ z∈b.toList.drop (ib+1+k),leB bl r' z:=λhlt r' e z hz=>by
  rw [er'] at e;cases e;obtain ⟨y,ey,ey',my⟩:=eh b hlt;exact C.tr r y z hr (hb y my) (hb z (bh hz)) (k3 k y (ao _) ∅ ey) (nv C ha hb ua ub hb ub ey' z hz)
 have m2:Ml (leB bl) (a.toList++b.toList) (out.push p++b.extract (ib+1) (ib+1+k)).toList (a.toList.drop ia) (b.toList.drop (ib+1+k)):=by
  rw [bM,xh,<- fJ (i:=k)]
  exact m.moveB k λy hy z hz=>by
   obtain ⟨j,hj,e⟩:=qM hy;rw [aN] at e;have my:y∈b.toList:=bh (ba hy);exact C.tr y r z (hb y my) hr (ha z (bh hz)) (C.as _ _ (hb y my) hr (k2 j y hj e)) (nv C ha hb ua ub ha ua er' z hz)
 show wpS M A E s (if k > 0 then _ else _) _ _;by_cases hk0:k > 0
 . rw [if_pos hk0];exact gB (λd=>Wl.done m2 (.inl (eq_of_beq d))) g1 λd=>have hlt:=gM ∅ (eX d);Ff C ha hb ua ub hl g1 ⟨m2,ga,hlt⟩ (by rw [gR];lia) (cond hlt)
 . rw [if_neg hk0];obtain rfl:k = 0:=by lia
   exact Ff C ha hb ua ub hl g1 ⟨m,ga,hb1⟩ gs (cond hb1)
theorem Fh (hk:kindOf st = κ) (g1:SB st st3) (w:Wl bl a b out ia ib) (g3:n<=out.size):wpS M A E s (ml1 a b out ia ib ac bc mg) (PL (Re bl a b) (WL bl a b) st n) st3:=by
 have g2:=w;obtain ⟨g2,ga,gb⟩:=g2;obtain ⟨p,ep,ep',mp⟩:=eh b gb;have hp:=hb p mp;refine aA (cZ ?_);have g1:=g1.mg mg;refine aA (el ep (aA (gal C (g1.kind.trans hk) hp ∅ ∅ (λi z _ e=>ha z (by rw [<- aN] at e;exact bI e)) (JG C ha hb ua ub ua ha) λk k1 k2 k3=>?_)))
 have cond:ia+k < a.size->∀ p',b.toList[ib]? = some p'->∀ z∈a.toList.drop (ia+k),leB bl p' z:=λhlt p' e z hz=>by
  rw [ep'] at e;cases e;obtain ⟨y,ey,ey',my⟩:=eh a hlt;exact C.tr p y z hp (ha y my) (ha z (bh hz)) (C.as _ _ hp (ha y my) (Nt (k3 k y (ao _) ∅ ey))) (nv C ha hb ua ub ha ua ey' z hz)
 have m2:Ml (leB bl) (a.toList++b.toList) (out++a.extract ia (ia+k)).toList (a.toList.drop (ia+k)) (b.toList.drop ib):=by
  rw [bM,xh,<- fJ]
  exact g2.moveA k λy hy z hz=>by
   obtain ⟨j,hj,e⟩:=qM hy;rw [aN] at e;have my:y∈a.toList:=bh (ba hy);exact C.tr y p z (ha y my) hp (hb z (bh hz)) (Nu (k2 j y hj e)) (nv C ha hb ua ub hb ub ep' z hz)
 show wpS M A E s (if k > 0 then _ else _) _ _;by_cases hk0:k > 0
 . rw [if_pos hk0];refine gB (λd=>Wl.lastA C ha hb ua ub hl m2 (eq_of_beq d)) g1 λd1=>gB (λd=>Wl.done m2 (.inr (eq_of_beq d))) g1 λd2=>?_;have h1:=eX d1;have h2:=eX d2;exact Fg C ha hb ua ub hl hk g1 ⟨m2,∅,gb⟩ (by rw [gR];lia) (cond ∅)
 . rw [if_neg hk0];obtain rfl:k = 0:=by lia
   exact Fg C ha hb ua ub hl hk g1 w g3 (cond ∅)
theorem yI (hk:kindOf st = κ) (na:1<=a.size) (nb:1<=b.size) (h0:∀ y,b[0]? = some y->∀ x∈a.toList,leB bl y x) (q:∀ r st',Re bl a b r->SB st st'->Q r st'):wpS M A E s (qK a b) Q st:=by
 obtain ⟨b0,eb,eb',mb⟩:=eh b (i:=0) ∅
 have m0:Ml (leB bl) (a.toList++b.toList) (#[b0]:Array av).toList (a.toList.drop 0) (b.toList.drop 1):=by
  have m:Ml (leB bl) (a.toList++b.toList) [] a.toList b.toList:=⟨↥0,.nil,ua,ub,(λ_ h=>by cases h),λ_ h=>by cases h⟩;have:=m.moveB 1 (by rw [show b.toList.take 1 = [b0] from (take1 (i:=0) eb').1];intro x hx;rw [aP.mp hx];exact h0 b0 eb);rw [show b.toList.take 1 = [b0] from (take1 (i:=0) eb').1] at this;exact this
 rw [wH];refine aA (oO (dQ ⟨rfl,aA (el eb ?_)⟩));refine pG (λd=>aR (q _ _ (Wl.done m0 (.inl (eq_of_beq d))) .refl)) λd1=>pG (λd=>aR (q _ _ (Wl.lastA C ha hb ua ub hl m0 (eq_of_beq d)) .refl)) λd2=>?_;have c1:=eX d1;have c2:=eX d2;refine aA (ji (aA (dE (cq (I:=λx=>IL (WL bl a b) st (x+1)) (Q:=λc st'=>∃ r,c.1 = some r/\Re bl a b r/\SB st st') ?step ?fin ⟨rfl,.refl,⟨m0,∅,∅⟩,ao _⟩) ?post)))
 case post =>
  rintro ⟨o,rest⟩ st' ⟨r,rfl,h1,h2⟩;exact aR (q r st' h1 h2)
 case fin =>
  rintro ⟨o,out,ia,ib,mg⟩ st' ⟨h0,h1,h2,h3⟩;have:=h2.len
  lia
 case step =>
  rintro x ⟨o,out,ia,ib,mg⟩ st' _ hx ⟨h0,h1,h2,h3⟩;obtain rfl:o = none:=h0;refine aA (dE (cq (I:=λy=>IL (WL bl a b) st (x+1+min y 1)) (Q:=QL (Re bl a b) (WL bl a b) st (x+2)) ?step1 ?fin1 ⟨rfl,h1,h2,h3⟩) ?post1)
  case fin1=>exact λc st'' h=>.inr ⟨h.1,h.2.1,h.2.2.1,bj ∅ h.2.2.2⟩
  case step1 =>
   rintro y ⟨o,out,ia,ib,ac,bc⟩ st'' _ hy ⟨g0,g1,g2,g3⟩;obtain rfl:o = none:=g0;refine dE (Md C ha hb ua ub hl (n:=x+1) (ac:=ac) (bc:=bc) (mg:=mg) hk g1 g2 (bj ∅ g3)) λr st' h=>?_
   cases r with
   | done c=>exact h
   | yield c=>exact ⟨h.1,h.2.1,h.2.2.1,bj ∅ h.2.2.2⟩
  case post1 =>
   rintro ⟨o,out,ia,ib,ac,bc⟩ st1 (⟨r,g0,g1,g2⟩ | ⟨g0,g1,g2,g3⟩)
   . obtain rfl:o = some r:=g0;exact aR ⟨r,rfl,g1,g2⟩
   obtain rfl:o = none:=g0;refine aA (oO (dQ ⟨rfl,aA (dE (cq (I:=λy=>IL (WL bl a b) st (x+2)) (Q:=QL (Re bl a b) (WL bl a b) st (x+2)) ?step2 (λc st'' h=>.inr h) ⟨rfl,g1,g2,g3⟩) ?post2)⟩))
   case post2 =>
    rintro ⟨o,out,ia,ib,mg,ac,bc⟩ st2 (⟨r,g0,g1,g2⟩ | ⟨g0,g1,g2,g3⟩)
    . obtain rfl:o = some r:=g0;exact aR ⟨r,rfl,g1,g2⟩
    obtain rfl:o = none:=g0;exact aA (cZ (aR ⟨rfl,g1.mg _,g2,g3⟩))
   case step2 =>
    rintro y ⟨o,out,ia,ib,mg,ac,bc⟩ st'' _ hy ⟨g0,g1,g2,g3⟩;obtain rfl:o = none:=g0;show wpS M A E s (if mg > 1 then ml1 a b out ia ib ac bc (mg - 1) else ml1 a b out ia ib ac bc mg) _ _;refine dE (Q:=PL (Re bl a b) (WL bl a b) st (x+2)) ?_ λr st' h=>by cases r<;>exact h
    split
    . exact Fh C ha hb ua ub hl hk g1 g2 g3
    . exact Fh C ha hb ua ub hl hk g1 g2 g3
end
end
def wJ (a b:Array av):qL a b = (do
 rule "list.sort.merge-hi"
 let total:=a.size+b.size
 let done (out:Array av) (na nb:Nat):=a.extract 0 na++b.extract 0 nb++out.reverse
 let firstOfB (out:Array av) (na nb:Nat):=b.extract 0 nb++a.extract 0 na++out.reverse
 let mut na:=a.size - 1
 let mut nb:=b.size
 let mut out:Array av := #[<- elem' a na]
 if na == 0 then return done out na nb
 if nb == 1 then return firstOfB out na nb
 let mut minGallop:=gallopOf (<- iM)
 for _ in [0:total] do
  let mut acount:=0
  let mut bcount:=0
  for _ in [0:total] do
   let some aWins <- lt' (<- elem' b (nb - 1)) (<- elem' a (na - 1)) | return done out na nb
   if aWins then
    na:=na - 1;out:=out.push (<- elem' a na);acount:=acount+1;bcount:=0
    if na == 0 then return done out na nb
    if acount ≥ minGallop then break
   else
    nb:=nb - 1;out:=out.push (<- elem' b nb);bcount:=bcount+1;acount:=0
    if nb == 1 then return firstOfB out na nb
    if bcount ≥ minGallop then break
  rule "list.sort.gallop"
  minGallop:=minGallop+1
  for _ in [0:total] do
   if minGallop > 1 then minGallop:=minGallop - 1
   (sortPriv% PySem.Builtin.setMinGallop) minGallop
   let some at_ <- fD false (<- elem' b (nb - 1)) a 0 na (na - 1) | return done out na nb
   let k:=na - at_
   acount:=k
   if k > 0 then
    out:=out++(a.extract at_ na).reverse;na:=at_
    if na == 0 then return done out na nb
   nb:=nb - 1;out:=out.push (<- elem' b nb)
   if nb == 1 then return firstOfB out na nb
   let some at_ <- fD true (<- elem' a (na - 1)) b 0 nb (nb - 1) | return done out na nb
   let k:=nb - at_
   bcount:=k
   if k > 0 then
    out:=out++(b.extract at_ nb).reverse;nb:=at_
    if nb == 1 then return firstOfB out na nb
    if nb == 0 then return done out na nb
   na:=na - 1;out:=out.push (<- elem' a na)
   if na == 0 then return done out na nb
   if acount < 7 && bcount < 7 then break
  minGallop:=minGallop+1
  (sortPriv% PySem.Builtin.setMinGallop) minGallop
 unsupported "internal:list.sort.merge-bound"):=rfl
abbrev H7:=Option (Array av) × Nat × Nat × Array av × Nat × Nat × Nat
abbrev dnH (a b out:Array av) (na nb:Nat):Array av:=a.extract 0 na++b.extract 0 nb++out.reverse
abbrev fsB (a b out:Array av) (na nb:Nat):Array av:=b.extract 0 nb++a.extract 0 na++out.reverse
def mh3 (a b:Array av) (mg ac na bc:Nat) (out:Array av) (nb:Nat):StateT bf Sem (ForInStep H7):=do
 let p <- elem' a (na - 1)
 if (na - 1 == 0) = true then pure (.done (some (dnH a b (out.push p) (na - 1) nb),na - 1,nb,out.push p,mg,ac,bc)) else
 if (decide (ac < 7) && decide (bc < 7)) = true then pure (.done (none,na - 1,nb,out.push p,mg,ac,bc)) else pure (.yield (none,na - 1,nb,out.push p,mg,ac,bc))
def mh2 (a b:Array av) (mg ac bc nb:Nat) (out:Array av) (na:Nat):StateT bf Sem (ForInStep H7):=do
 let p <- elem' b (nb - 1)
 if (nb - 1 == 1) = true then pure (.done (some (fsB a b (out.push p) na (nb - 1)),na,nb - 1,out.push p,mg,ac,bc)) else do
  let r <- elem' a (na - 1)
  let some k <- fD true r b 0 (nb - 1) (nb - 1 - 1) | pure (.done (some (dnH a b (out.push p) na (nb - 1)),na,nb - 1,out.push p,mg,ac,bc))
  if nb - 1 - k > 0 then (if (k == 1) = true then pure (.done (some (fsB a b (out.push p++(b.extract k (nb - 1)).reverse) na k),na,k,out.push p++(b.extract k (nb - 1)).reverse,mg,ac,nb - 1 - k)) else if (k == 0) = true then pure (.done (some (dnH a b (out.push p++(b.extract k (nb - 1)).reverse) na k),na,k,out.push p++(b.extract k (nb - 1)).reverse,mg,ac,nb - 1 - k)) else mh3 a b mg ac na (nb - 1 - k) (out.push p++(b.extract k (nb - 1)).reverse) k) else mh3 a b mg ac na (nb - 1 - k) (out.push p) (nb - 1)
def mh1 (a b out:Array av) (na nb ac bc mg:Nat):StateT bf Sem (ForInStep H7):=do
 modify λs=>iB (kindOf s) (arrOf s) (pendingOf s) mg (failedOf s)
 let p <- elem' b (nb - 1)
 let some k <- fD false p a 0 na (na - 1) | pure (.done (some (dnH a b out na nb),na,nb,out,mg,ac,bc))
 if na - k > 0 then (if (k == 0) = true then pure (.done (some (dnH a b (out++(a.extract k na).reverse) k nb),k,nb,out++(a.extract k na).reverse,mg,na - k,bc)) else mh2 a b mg (na - k) bc nb (out++(a.extract k na).reverse) k) else mh2 a b mg (na - k) bc nb out na
section
variable {α:Type} {l:List α} {n k:Nat}
def Ee (h:n<=l.length):(l.take n).reverse.take k = ((l.take n).drop (n - k)).reverse:=by
 rw [List.take_reverse,bq,rZ h]
def JI (h:n<=l.length):(l.take n).reverse.drop k = (l.take (n - k)).reverse:=by
 rw [List.drop_reverse,bq,rZ h,List.take_take,rZ (Nat.sub_le _ _)]
def Fn {x:α} (h:n<=l.length) (hx:x∈(l.take n).reverse.take k):∃ j,n - k<=j/\j < n/\l[j]? = some x:=by
 rw [Ee h,iH] at hx;obtain ⟨j,e⟩:=nk hx;rw [nX] at e;split at e
 . exact ⟨n - k+j,∅,by assumption,e⟩
 . cases e
def rt1 {x:α} (h:1<=n) (e:l[n - 1]? = some x):(l.take n).reverse.take 1 = [x]:=by
 obtain ⟨hi,e'⟩:=aC.mp e;rw [Ee ∅,show (l.take n).drop (n - 1) = [x] from ?_]
 . rfl
 . rw [List.drop_take,show n - (n - 1) = 1 by lia,de hi,e'];rfl
def ox {x:α} (h:x∈l.take n):∃ j,j < n/\l[j]? = some x:=by
 obtain ⟨j,hj,e⟩:=qM (i:=0) (k:=n) (by simpa using h);exact ⟨j,hj,by simpa using e⟩
end
section
variable {M:mP} {A:aW} {E:ae->ai->Prop} {s:ai} {st:bf} {κ:cK} {D:av->Prop} {bl:av->av->Bool} {a b:Array av} {Q:Array av->bf->Prop}
def Mh (bl:av->av->Bool) (a b out:Array av) (na nb:Nat):Prop:=Ml (λx y=>leB bl y x) (a.toList++b.toList) out.toList (a.toList.take na).reverse (b.toList.take nb).reverse/\na<=a.size/\nb<=b.size
def Mh.len {out:Array av} {na nb:Nat} (h:Mh bl a b out na nb):out.size+na+nb = a.size+b.size:=by
 have e:=h.1.pm.length_eq;have:=h.2;simp only [ax,CA,bq,aK] at e
 lia
def AB (a:Array av) (n:Nat):(a.extract 0 n).toList = a.toList.take n:=by
 have:=xh a 0 n;simpa using this
def FP (a:Array av) {i n:Nat} (h:i<=n) (hn:n<=a.size):(a.extract i n).reverse.toList = (a.toList.take n).reverse.take (n - i):=by
 rw [Ee (by simpa using hn),lW,show n - (n - i) = i by lia,List.drop_take];have:=xh a i (n - i);rw [show i+(n - i) = n by lia] at this;rw [this]
def Mh.of {r:Array av} {t:List av} (e:r.toList.reverse = t) (h:Mr (λx y=>leB bl y x) (a.toList++b.toList) t):Re bl a b r:=by
 subst e;exact ⟨(pb _).symm.trans h.1,lM.mp h.2⟩
def Mh.done {out:Array av} {na nb:Nat} (m:Mh bl a b out na nb) (h:na = 0\/nb = 0):Re bl a b (dnH a b out na nb):=by
 refine Mh.of (t:=out.toList++(b.toList.take nb).reverse++(a.toList.take na).reverse) ?_ ?_
 . rw [bM,bM,AB,AB,lW];simp
 . have m:=m.1;rcases h with rfl | rfl
   . simp only [List.take_zero,He,cB] at m |-;exact m.endA
   . simp only [List.take_zero,He,cB] at m |-;exact m.endB
def Mh.moveA {out:Array av} {na nb:Nat} (m:Mh bl a b out na nb) {i:Nat} (hi:i<=na) (h:∀ j x,i<=j->j < na->a.toList[j]? = some x->∀ y∈b.toList.take nb,leB bl y x):Mh bl a b (out++(a.extract i na).reverse) i nb:=by
 have:=m.1.moveA (na - i) λx hx y hy=>by
  obtain ⟨j,h1,h2,e⟩:=Fn (by simpa using m.2.1) hx;exact h j x ∅ h2 e y (iH.mp hy)
 rw [JI (by simpa using m.2.1),show na - (na - i) = i by lia,<- FP a hi m.2.1] at this;refine ⟨?_,bj hi m.2.1,m.2.2⟩;rw [bM];exact this
def Mh.moveB {out:Array av} {na nb:Nat} (m:Mh bl a b out na nb) {i:Nat} (hi:i<=nb) (h:∀ j x,i<=j->j < nb->b.toList[j]? = some x->∀ y∈a.toList.take na,leB bl y x):Mh bl a b (out++(b.extract i nb).reverse) na i:=by
 have:=m.1.moveB (nb - i) λx hx y hy=>by
  obtain ⟨j,h1,h2,e⟩:=Fn (by simpa using m.2.2) hx;exact h j x ∅ h2 e y (iH.mp hy)
 rw [JI (by simpa using m.2.2),show nb - (nb - i) = i by lia,<- FP b hi m.2.2] at this;refine ⟨?_,m.2.1,bj hi m.2.2⟩;rw [bM];exact this
def JS (a:Array av) {n:Nat} {x:av} (h:1<=n) (e:a.toList[n - 1]? = some x) (out:Array av):out++(a.extract (n - 1) n).reverse = out.push x:=by
 have hn:n<=a.size:=by
  obtain ⟨hi,_⟩:=aC.mp e;have:n - 1 < a.size:=by simpa using hi
  lia
 apply Hd.mp;rw [bM,FP a ∅ hn,show n - (n - 1) = 1 by lia,rt1 h e,fo]
def Mh.pushA {out:Array av} {na nb:Nat} {x:av} (m:Mh bl a b out na nb) (h1:1<=na) (e:a.toList[na - 1]? = some x) (h:∀ y∈b.toList.take nb,leB bl y x):Mh bl a b (out.push x) (na - 1) nb:=by
 rw [<- JS a h1 e];refine m.moveA ∅ λj z h2 h3 e2=>?_;obtain rfl:j = na - 1:=by lia
 rw [e] at e2;cases e2;exact h
def Mh.pushB {out:Array av} {na nb:Nat} {x:av} (m:Mh bl a b out na nb) (h1:1<=nb) (e:b.toList[nb - 1]? = some x) (h:∀ y∈a.toList.take na,leB bl y x):Mh bl a b (out.push x) na (nb - 1):=by
 rw [<- JS b h1 e];refine m.moveB ∅ λj z h2 h3 e2=>?_;obtain rfl:j = nb - 1:=by lia
 rw [e] at e2;cases e2;exact h
def Mh.first {out:Array av} {na:Nat} (m:Mh bl a b out na 1) (h0:∀ y,b[0]? = some y->∀ x∈a.toList,leB bl y x):Re bl a b (fsB a b out na 1):=by
 refine Mh.of (t:=out.toList++(a.toList.take na).reverse++(b.toList.take 1).reverse) ?_ ?_
 . rw [bM,bM,AB,AB,lW];simp
 . refine m.1.swap.last λx hx y hy=>?_;obtain ⟨j,hj,e⟩:=ox (iH.mp hy);obtain rfl:j = 0:=by lia
   rw [aN] at e;exact h0 y e x (ba (iH.mp hx))
def Mh.firstE {out:Array av} {na nb:Nat} (m:Mh bl a b out na nb) (e:nb = 1) (h0:∀ y,b[0]? = some y->∀ x∈a.toList,leB bl y x):Re bl a b (fsB a b out na nb):=by
 subst e;exact m.first h0
def WH (bl:av->av->Bool) (a b:Array av) {ρ:Type} (n:Nat) (x:Nat × Nat × Array av × ρ):Prop:=Mh bl a b x.2.2.1 x.1 x.2.1/\1<=x.1/\2<=x.2.1/\n<=x.2.2.1.size
abbrev H6:=Option (Array av) × Nat × Nat × Array av × Nat × Nat
def mhA (a b:Array av) (mg:Nat) (out:Array av) (na nb ac:Nat):StateT bf Sem (ForInStep H6):=do
 let p <- elem' a (na - 1)
 if (na - 1 == 0) = true then pure (.done (some (dnH a b (out.push p) (na - 1) nb),na - 1,nb,out.push p,ac+1,0)) else
 if ac+1 ≥ mg then pure (.done (none,na - 1,nb,out.push p,ac+1,0)) else pure (.yield (none,na - 1,nb,out.push p,ac+1,0))
def mhB (a b:Array av) (mg:Nat) (out:Array av) (na nb bc:Nat):StateT bf Sem (ForInStep H6):=do
 let p <- elem' b (nb - 1)
 if (nb - 1 == 1) = true then pure (.done (some (fsB a b (out.push p) na (nb - 1)),na,nb - 1,out.push p,0,bc+1)) else
 if bc+1 ≥ mg then pure (.done (none,na,nb - 1,out.push p,0,bc+1)) else pure (.yield (none,na,nb - 1,out.push p,0,bc+1))
def mhI (a b:Array av) (mg:Nat) (out:Array av) (na nb ac bc:Nat):StateT bf Sem (ForInStep H6):=do
 let p <- elem' b (nb - 1)
 let r <- elem' a (na - 1)
 let some w <- lt' p r | pure (.done (some (dnH a b out na nb),na,nb,out,ac,bc))
 if w = true then mhA a b mg out na nb ac else mhB a b mg out na nb bc
def Oi {ar:Array av} {i:Nat} {z:av} (e:ar[0+i]? = some z):z∈ar.toList:=by
 rw [<- aN] at e;exact bI e
section
variable (C:Cp M A E s κ D bl) (ha:∀ x∈a.toList,D x) (hb:∀ x∈b.toList,D x) (ua:a.toList.Pairwise (leB bl)) (ub:b.toList.Pairwise (leB bl)) (h0:∀ y,b[0]? = some y->∀ x∈a.toList,leB bl y x)
include C ha hb ua ub
theorem dnT {l:List av} (hl:∀ x∈l,D x) (u:l.Pairwise (leB bl)) {i:Nat} {x:av} (e:l[i]? = some x) {n:Nat} (hn:n<=i+1):∀ y∈l.take n,leB bl y x:=λy hy=>by
 obtain ⟨j,hj,e2⟩:=ox hy;refine nv C ha hb ua ub hl u e2 x ?_;rw [dJ];exact ⟨i - j,by rw [eW,show j+(i - j) = i by lia];exact e⟩
theorem Nn {ar:Array av} {n:Nat} (u:ar.toList.Pairwise (leB bl)) (d:∀ z∈ar.toList,D z) (i j:Nat) (x y:av) (hij:i<=j) (_:j < n) (e1:ar[0+i]? = some x) (e2:ar[0+j]? = some y):leB bl x y:=by
 rw [jo,<- aN] at e1 e2;refine nv C ha hb ua ub d u e1 y ?_;rw [dJ];exact ⟨j - i,by rw [eW,show i+(j - i) = j by lia];exact e2⟩
variable {n na nb ac bc mg:Nat} {out:Array av} {st3:bf}
theorem Fi (g1:SB st st3) (w:Mh bl a b out na nb) (wa:1<=na) (wb:2<=nb) (g3:n<=out.size) (g4:∀ r,a.toList[na - 1]? = some r->∀ z∈b.toList.take nb,leB bl z r):wpS M A E s (mh3 a b mg ac na bc out nb) (PL (Re bl a b) (WH bl a b) st n) st3:=by
 have hA:=w.2.1;obtain ⟨r,er,er',mr⟩:=eh a (i:=na - 1) ∅;have m:=w.pushA wa er' (g4 r er');exact aA (el er (gB (λd=>m.done (.inl (eq_of_beq d))) g1 λd=>sF ⟨m,jH (eX d),wb,by rw [gu];lia⟩ g1))
include h0
theorem Me (hk:kindOf st = κ) (g1:SB st st3) (w:Mh bl a b out na nb) (wa:1<=na) (wb:2<=nb) (g3:n<=out.size):wpS M A E s (mhI a b mg out na nb ac bc) (PL (Re bl a b) (WH bl a b) st (n+1)) st3:=by
 have hA:=w.2.1;have hB:=w.2.2;obtain ⟨p,ep,ep',mp⟩:=eh b (i:=nb - 1) ∅;obtain ⟨r,er,er',mr⟩:=eh a (i:=na - 1) ∅;have hp:=hb p mp;have hr:=ha r mr;have gs:∀ z,n+1<=(out.push z).size:=λz=>by rw [gu];lia
 refine aA (el ep (aA (el er (aA (C.lt p r _ _ hp hr (g1.kind.trans hk) ?_)))))
 cases hc:bl p r with
 | true =>
   have m:=w.pushA wa er' λz hz=>C.tr z p r (hb z (ba hz)) hp hr (dnT C ha hb ua ub hb ub ep' ∅ z hz) (C.as _ _ hp hr hc)
   exact aA (el er (gB (λd=>m.done (.inl (eq_of_beq d))) g1 λd=>sF ⟨m,jH (eX d),wb,gs r⟩ g1))
 | false =>
   have m:=w.pushB ∅ ep' λz hz=>C.tr z r p (ha z (ba hz)) hr hp (dnT C ha hb ua ub ha ua er' ∅ z hz) hc;refine aA (el ep (gB (λd=>m.firstE (eq_of_beq d) h0) g1 λd=>?_));have:=eX d;exact sF ⟨m,wa,by show 2<=nb - 1;lia,gs p⟩ g1
theorem Fj (hk:kindOf st = κ) (g1:SB st st3) (w:Mh bl a b out na nb) (wa:1<=na) (wb:2<=nb) (g3:n<=out.size) (g4:∀ p,b.toList[nb - 1]? = some p->∀ z∈a.toList.take na,leB bl z p):wpS M A E s (mh2 a b mg ac bc nb out na) (PL (Re bl a b) (WH bl a b) st n) st3:=by
 have hA:=w.2.1;have hB:=w.2.2;obtain ⟨p,ep,ep',mp⟩:=eh b (i:=nb - 1) ∅;obtain ⟨r,er,er',mr⟩:=eh a (i:=na - 1) ∅;have hr:=ha r mr;have m:=w.pushB ∅ ep' (g4 p ep');have gs:n<=(out.push p).size:=by rw [gu];lia
 refine aA (el ep (gB (λd=>m.firstE (eq_of_beq d) h0) g1 λd=>?_));have d:=eX d;refine aA (el er (aA (gal C (g1.kind.trans hk) hr ∅ ∅ (λi z _ e=>hb z (Oi e)) (Nn C ha hb ua ub ub hb) λk k1 k2 k3=>?_)))
 have cond:∀ r',a.toList[na - 1]? = some r'->∀ z∈b.toList.take k,leB bl z r':=λr' e z hz=>by
  rw [er'] at e;cases e;obtain ⟨j,hj,ej⟩:=ox hz;rw [aN] at ej;have mz:z∈b.toList:=ba hz;exact C.as _ _ (hb z mz) hr (k2 j z hj (by rw [jo];exact ej))
 have m2:=m.moveB (i:=k) k1 λj y h5 h6 e z hz=>by
  have my:y∈b.toList:=bI e;rw [aN] at e;exact C.tr z r y (ha z (ba hz)) hr (hb y my) (dnT C ha hb ua ub ha ua er' ∅ z hz) (k3 j y h5 h6 (by rw [jo];exact e))
 show wpS M A E s (if nb - 1 - k > 0 then _ else _) _ _;by_cases hk0:nb - 1 - k > 0
 . rw [if_pos hk0];refine gB (λd=>m2.firstE (eq_of_beq d) h0) g1 λd2=>gB (λd=>m2.done (.inr (eq_of_beq d))) g1 λd3=>?_;have d2:=eX d2;have d3:=eX d3;exact Fi C ha hb ua ub g1 m2 wa ∅ (by rw [gR];lia) cond
 . rw [if_neg hk0];obtain rfl:k = nb - 1:=by lia
   exact Fi C ha hb ua ub g1 m wa ∅ gs cond
theorem Fm (hk:kindOf st = κ) (g1:SB st st3) (w:Mh bl a b out na nb) (wa:1<=na) (wb:2<=nb) (g3:n<=out.size):wpS M A E s (mh1 a b out na nb ac bc mg) (PL (Re bl a b) (WH bl a b) st n) st3:=by
 have hA:=w.2.1;have hB:=w.2.2;obtain ⟨p,ep,ep',mp⟩:=eh b (i:=nb - 1) ∅;have hp:=hb p mp;refine aA (cZ ?_);have g1:=g1.mg mg;refine aA (el ep (aA (gal C (g1.kind.trans hk) hp ∅ ∅ (λi z _ e=>ha z (Oi e)) (Nn C ha hb ua ub ua ha) λk k1 k2 k3=>?_)))
 have cond:∀ p',b.toList[nb - 1]? = some p'->∀ z∈a.toList.take k,leB bl z p':=λp' e z hz=>by
  rw [ep'] at e;cases e;obtain ⟨j,hj,ej⟩:=ox hz;rw [aN] at ej;exact Nu (k2 j z hj (by rw [jo];exact ej))
 have m2:=w.moveA (i:=k) k1 λj y h5 h6 e z hz=>by
  have my:y∈a.toList:=bI e;rw [aN] at e;exact C.tr z p y (hb z (ba hz)) hp (ha y my) (dnT C ha hb ua ub hb ub ep' ∅ z hz) (C.as _ _ hp (ha y my) (Nt (k3 j y h5 h6 (by rw [jo];exact e))))
 show wpS M A E s (if na - k > 0 then _ else _) _ _;by_cases hk0:na - k > 0
 . rw [if_pos hk0];refine gB (λd=>m2.done (.inl (eq_of_beq d))) g1 λd1=>?_;exact Fj C ha hb ua ub h0 hk g1 m2 (jH (eX d1)) wb (by rw [gR];lia) cond
 . rw [if_neg hk0];obtain rfl:k = na:=by lia
   exact Fj C ha hb ua ub h0 hk g1 w wa wb g3 cond
end
def yJ (C:Cp M A E s κ D bl) (ha:∀ x∈a.toList,D x) (hb:∀ x∈b.toList,D x) (ua:a.toList.Pairwise (leB bl)) (ub:b.toList.Pairwise (leB bl)) (hl:∀ y∈b.toList,∀ x∈a.toList.drop (a.size - 1),leB bl y x) (hk:kindOf st = κ) (na1:1<=a.size) (nb1:1<=b.size) (h0:∀ y,b[0]? = some y->∀ x∈a.toList,leB bl y x) (q:∀ r st',Re bl a b r->SB st st'->Q r st'):wpS M A E s (qL a b) Q st:=by
 obtain ⟨p0,e0,e0',m0⟩:=eh a (i:=a.size - 1) ∅
 have mm:Mh bl a b #[p0] (a.size - 1) b.size:=by
  have m:Mh bl a b #[] a.size b.size:=by
   refine ⟨?_,ao _,ao _⟩;rw [eV ↥0,eV ↥0];exact ⟨by simpa using (pb _).append (pb _),.nil,lM.mpr ua,lM.mpr ub,(λ_ h=>by cases h),λ_ h=>by cases h⟩
  exact m.pushA na1 e0' λy hy=>hl y (ba hy) p0 (take1 e0').2
 rw [wJ];refine aA (oO (dQ ⟨rfl,aA (el e0 ?_)⟩));refine pG (λd=>aR (q _ _ (mm.done (.inl (eq_of_beq d))) .refl)) λd1=>pG (λd=>aR (q _ _ (mm.firstE (eq_of_beq d) h0) .refl)) λd2=>?_;have c1:=eX d1;have c2:=eX d2;refine aA (ji (aA (dE (cq (I:=λx=>IL (WH bl a b) st (x+1)) (Q:=λc st'=>∃ r,c.1 = some r/\Re bl a b r/\SB st st') ?step ?fin ⟨rfl,.refl,mm,by show 1<=a.size - 1;lia,by show 2<=b.size;lia,ao _⟩) ?post)))
 case post =>
  rintro ⟨o,rest⟩ st' ⟨r,rfl,h1,h2⟩;exact aR (q r st' h1 h2)
 case fin =>
  rintro ⟨o,na,nb,out,mg⟩ st' ⟨h0,h1,h2,h3,h4,h5⟩;have:=h2.len;have h3:1<=na:=h3;have h5:_<=out.size:=h5
  lia
 case step =>
  rintro x ⟨o,na,nb,out,mg⟩ st' _ hx ⟨h0,h1,h2⟩;obtain rfl:o = none:=h0;refine aA (dE (cq (I:=λy=>IL (WH bl a b) st (x+1+min y 1)) (Q:=QL (Re bl a b) (WH bl a b) st (x+2)) ?step1 ?fin1 ⟨rfl,h1,h2⟩) ?post1)
  case fin1=>exact λc st'' h=>.inr ⟨h.1,h.2.1,h.2.2.1,h.2.2.2.1,h.2.2.2.2.1,bj ∅ h.2.2.2.2.2⟩
  case step1 =>
   rintro y ⟨o,na,nb,out,ac,bc⟩ st'' _ hy ⟨g0,g1,g2,g3,g4,g5⟩;obtain rfl:o = none:=g0;refine dE (Me C ha hb ua ub ‹_› (n:=x+1) (ac:=ac) (bc:=bc) (mg:=mg) hk g1 g2 g3 g4 (bj ∅ g5)) λr st' h=>?_
   cases r with
   | done c=>exact h
   | yield c=>exact ⟨h.1,h.2.1,h.2.2.1,h.2.2.2.1,h.2.2.2.2.1,bj ∅ h.2.2.2.2.2⟩
  case post1 =>
   rintro ⟨o,na,nb,out,ac,bc⟩ st1 (⟨r,g0,g1,g2⟩ | ⟨g0,g1,g2⟩)
   . obtain rfl:o = some r:=g0;exact aR ⟨r,rfl,g1,g2⟩
   obtain rfl:o = none:=g0;refine aA (oO (dQ ⟨rfl,aA (dE (cq (I:=λy=>IL (WH bl a b) st (x+2)) (Q:=QL (Re bl a b) (WH bl a b) st (x+2)) ?step2 (λc st'' h=>.inr h) ⟨rfl,g1,g2⟩) ?post2)⟩))
   case post2 =>
    rintro ⟨o,na,nb,out,mg,ac,bc⟩ st2 (⟨r,g0,g1,g2⟩ | ⟨g0,g1,g2⟩)
    . obtain rfl:o = some r:=g0;exact aR ⟨r,rfl,g1,g2⟩
    obtain rfl:o = none:=g0;exact aA (cZ (aR ⟨rfl,g1.mg _,g2⟩))
   case step2 =>
    rintro y ⟨o,na,nb,out,mg,ac,bc⟩ st'' _ hy ⟨g0,g1,g2,g3,g4,g5⟩;obtain rfl:o = none:=g0;show wpS M A E s (if mg > 1 then mh1 a b out na nb ac bc (mg - 1) else mh1 a b out na nb ac bc mg) _ _;refine dE (Q:=PL (Re bl a b) (WH bl a b) st (x+2)) ?_ λr st' h=>by cases r<;>exact h
    split
    . exact Fm C ha hb ua ub ‹_› hk g1 g2 g3 g4 g5
    . exact Fm C ha hb ua ub ‹_› hk g1 g2 g3 g4 g5
end
def wK (i:Nat):mergeAt' i = (do
 let s <- iM
 let (some (sa,na,power),some (sb,nb,_)):=((pendingOf s)[i]?,(pendingOf s)[i+1]?) | unsupported "internal:list.sort.pending"
 set (setPending s (((pendingOf s).setIfInBounds i (sa,na+nb,power)).eraseIdxIfInBounds (i+1)))
 let some k <- fD false (<- elem' (arrOf s) sb) (arrOf s) sa na 0 | return false
 let (sa,na):=(sa+k,na - k)
 if na == 0 then return true
 let some nb <- fD true (<- elem' (arrOf s) (sa+na - 1)) (arrOf s) sb nb (nb - 1) | return false
 if nb == 0 then return true
 let x:=(arrOf s).extract sa sb
 let y:=(arrOf s).extract sb (sb+nb)
 let merged <- if na<=nb then qK x y else qL x y
 modify λs=>iB (kindOf s) (merged.toList.zipIdx.foldl (λa (p,j)=>a.setIfInBounds (sa+j) p) (arrOf s)) (pendingOf s) (gallopOf s) (failedOf s)
 return (failedOf (<- iM)).isNone):=rfl
def laid:∀ (m:List av) (k o:Nat) (l1 l2 l3:List av) (a:Array av),a.toList = l1++l2++l3->l1.length = o+k->l2.length = m.length->((m.zipIdx k).foldl (λa (p:av × Nat)=>a.setIfInBounds (o+p.2) p.1) a).toList = l1++m++l3
 | [],k,o,l1,l2,l3,a,e,h1,h2=>by
   obtain rfl:l2 = []:=eL.mp h2
   exact e
 | x::m,k,o,l1,[],l3,a,e,h1,h2=>by cases h2
 | x::m,k,o,l1,y::l2,l3,a,e,h1,h2=>by
   rw [pY,iZ]
   have:=laid m (k+1) o (l1++[x]) l2 l3 (a.setIfInBounds (o+k) x) (by
    rw [jq,e,<- h1];simp [List.set_append]) (by rw [ax,bZ];lia) (tF h2)
   rw [this];simp
section
variable {M:mP} {A:aW} {E:ae->ai->Prop} {s:ai} {st:bf} {κ:cK} {D:av->Prop} {bl:av->av->Bool} {Q:Bool->bf->Prop}
def Hk {σ:Type} {x st:σ} {Q:PUnit->σ->Prop} (h:Q ⟨⟩ x):wpS M A E s (set x:StateT σ Sem PUnit) Q st:=by
 unfold wpS;rw [StateT.run_set];exact aq ⟨rfl,h⟩
def yH {l pre X post:List av} (e:l = pre++X++post) {o:Nat} (h:pre.length = o) {j:Nat} (hj:j < X.length):l[o+j]? = X[j]? := by
 subst h;rw [e,aU,cg ∅,show pre.length+j - pre.length = j by lia,bL hj]
def Aj {a:Array av} {pre X post:List av} (e:a.toList = pre++X++post) {o n:Nat} (h:pre.length = o) (hn:X.length = n):(a.extract o (o+n)).toList = X:=by
 rw [xh,e,aU,List.drop_append_of_le_length ∅,List.drop_of_length_le ∅,fi,List.take_append_of_le_length ∅,eV ∅]
def yK (C:Cp M A E s κ D bl) (hk:kindOf st = κ) (hf:failedOf st = none) {i sa na pw sb nb pw2:Nat} (h1:(pendingOf st)[i]? = some (sa,na,pw)) (h2:(pendingOf st)[i+1]? = some (sb,nb,pw2)) (hs:sb = sa+na) (n1:1<=na) (n2:1<=nb)
 {pre X Y post:List av} (e:(arrOf st).toList = pre++X++Y++post) (lp:pre.length = sa) (lX:X.length = na) (lY:Y.length = nb) (uX:X.Pairwise (leB bl)) (uY:Y.Pairwise (leB bl)) (dX:∀ x∈X,D x) (dY:∀ x∈Y,D x)
 (q:∀ (R:List av) (st':bf),R.Perm (X++Y)->R.Pairwise (leB bl)->(arrOf st').toList = pre++R++post->kindOf st' = κ->failedOf st' = none->pendingOf st' = ((pendingOf st).setIfInBounds i (sa,na+nb,pw)).eraseIdxIfInBounds (i+1)->Q true st'):wpS M A E s (mergeAt' i) Q st:=by
 have sz:(arrOf st).size = sa+na+nb+post.length:=by
  have:=congrArg AY e;simp only [aK,ax] at this
  lia
 have aX:∀ j,j < na->(arrOf st)[sa+j]? = X[j]? := λj hj=>by
  rw [<- aN];exact yH (post:=Y++post) (by rw [e];simp) lp ∅
 have aY:∀ j,j < nb->(arrOf st)[sb+j]? = Y[j]? := λj hj=>by
  rw [<- aN];exact yH (pre:=pre++X) e (by rw [ax];lia) ∅
 have pw_at:∀ {l:List av},l.Pairwise (leB bl)->(∀ x∈l,D x)->∀ {i j:Nat} {x y:av},i<=j->l[i]? = some x->l[j]? = some y->leB bl x y:=λ{l} u d {i j x y} hij e1 e2=>by
  rcases GP hij with h | rfl
  . obtain ⟨p1,q1⟩:=aC.mp e1;obtain ⟨p2,q2⟩:=aC.mp e2;have:=fY.mp u i j p1 p2 h
    rwa [q1,q2] at this
  . rw [e1] at e2;cases e2;have dx:=d x (bI e1);show bl x x = false
    cases hc:bl x x with
    | false=>rfl
    | true=>have:=C.as x x dx dx hc;rw [hc] at this;cases this
 obtain ⟨b0,eb⟩:∃ b0,Y[0]? = some b0:=⟨_,aD ∅⟩;obtain ⟨aL,ea⟩:∃ aL,X[na - 1]? = some aL:=⟨_,aD ∅⟩;have db:=dY b0 (bI eb);have da:=dX aL (bI ea);have whole:(∀ x∈X,∀ y∈Y,leB bl x y)->Q true (setPending st (((pendingOf st).setIfInBounds i (sa,na+nb,pw)).eraseIdxIfInBounds (i+1))):=λh=>q (X++Y) _ (.refl _) (bU.mpr ⟨uX,uY,h⟩) (by show (arrOf st).toList = _;rw [e];simp) hk hf rfl;rw [wK];refine aA (ji ?_);rw [h1,h2];dsimp only;refine aA (Hk ?_)
 have ix:∀ {l:List av} {x:av},x∈l->∃ j,j < l.length/\l[j]? = some x:=λh=>by
  obtain ⟨j,e⟩:=dJ.mp h;exact ⟨j,(aC.mp e).1,e⟩
 refine aA (el (x:=b0) (by have:=aY 0 ∅;rwa [Nat.add_zero,eb] at this) (aA (gal C hk db ∅ ∅ (λj x hj ex=>?_) (λj j' x y h3 h4 e1 e2=>?_) λk k1 k2 k3=>?_)))
 . rw [aX j hj] at ex;exact dX x (bI ex)
 . rw [aX _ ∅] at e1 e2;exact pw_at uX dX h3 e1 e2
 have k2:∀ j x,j < k->X[j]? = some x->leB bl x b0:=λj x hj ex=>by
  have t:(!(bl b0 x)) = true:=k2 j x hj (by rw [aX j ∅];exact ex);show bl b0 x = false;cases h:bl b0 x<;>rw [h] at t<;>first | rfl | cases t
 have k3:∀ j x,k<=j->j < na->X[j]? = some x->bl b0 x = true:=λj x h3 hj ex=>by
  have t:(!(bl b0 x)) = false:=k3 j x h3 hj (by rw [aX j hj];exact ex);cases h:bl b0 x<;>rw [h] at t<;>first | rfl | cases t
 have b0le:∀ y∈Y,leB bl b0 y:=λy hy=>by
  obtain ⟨j,_,ej⟩:=ix hy;exact pw_at uY dY (bO j) eb ej
 have leaL:∀ x∈X,leB bl x aL:=λx hx=>by
  obtain ⟨j,hj,ej⟩:=ix hx;exact pw_at uX dX ∅ ej ea
 dsimp only;by_cases z1:(na - k == 0) = true
 . rw [if_pos z1];have z1:=eq_of_beq z1;refine aR (whole λx hx y hy=>?_);obtain ⟨j,hj,ej⟩:=ix hx;exact C.tr x b0 y (dX x hx) db (dY y hy) (k2 j x ∅ ej) (b0le y hy)
 rw [if_neg z1];have z1:na - k≠0:=λz=>z1 (by rw [z];rfl);refine aA (el (x:=aL) (by rw [show sa+k+(na - k) - 1 = sa+(na - 1) by lia,aX _ ∅];exact ea) (aA (gal C hk da ∅ ∅ (λj x hj ex=>?_) (λj j' x y h3 h4 e1 e2=>?_) λm m1 m2 m3=>?_)))
 . rw [aY j hj] at ex;exact dY x (bI ex)
 . rw [aY _ ∅] at e1 e2;exact pw_at uY dY h3 e1 e2
 have m2:∀ j x,j < m->Y[j]? = some x->bl x aL = true:=λj x hj ex=>m2 j x hj (by rw [aY j ∅];exact ex);have m3:∀ j x,m<=j->j < nb->Y[j]? = some x->leB bl aL x:=λj x h3 hj ex=>m3 j x h3 hj (by rw [aY j hj];exact ex);dsimp only;by_cases z2:(m == 0) = true
 . rw [if_pos z2];obtain rfl:=eq_of_beq z2;refine aR (whole λx hx y hy=>?_);obtain ⟨j,hj,ej⟩:=ix hy;exact C.tr x aL y (dX x hx) da (dY y hy) (leaL x hx) (m3 j y ∅ ∅ ej)
 rw [if_neg z2];have z2:m≠0:=λz=>z2 (by rw [z];rfl)
 have ex:((arrOf st).extract (sa+k) sb).toList = X.drop k:=by
  rw [show sb = sa+k+(na - k) by lia];exact Aj (pre:=pre++X.take k) (post:=Y++post) (by rw [e];simp only [aU];rw [<- aU (X.take k) (X.drop k),bw]) (by rw [ax,bq];lia) (by rw [cP];lia)
 have ey:((arrOf st).extract sb (sb+m)).toList = Y.take m:=by
  exact Aj (pre:=pre++X) (post:=Y.drop m++post) (by rw [e];simp only [aU];rw [<- aU (Y.take m) (Y.drop m),bw]) (by rw [ax];lia) (by rw [bq];lia)
 generalize hx:(arrOf st).extract (sa+k) sb = x at ex |-;generalize hy:(arrOf st).extract sb (sb+m) = y at ey |-;have sx:x.size = na - k:=by rw [<- aK,ex,cP];lia
 have sy:y.size = m:=by rw [<- aK,ey,bq];lia
 have mX:∀ z∈X.drop k,∃ j,k<=j/\j < na/\X[j]? = some z:=λz hz=>by
  obtain ⟨j,ej⟩:=nk hz;exact ⟨k+j,∅,by have:=(aC.mp ej).1;lia,ej⟩
 have mY:∀ z∈Y.take m,∃ j,j < m/\Y[j]? = some z:=λz hz=>ox hz;have A1:∀ z∈x.toList,D z:=λz hz=>by rw [ex] at hz;exact dX z (bh hz)
 have A2:∀ z∈y.toList,D z:=λz hz=>by rw [ey] at hz;exact dY z (ba hz)
 have A3:x.toList.Pairwise (leB bl):=by rw [ex];exact uX.sublist (GY _ _)
 have A4:y.toList.Pairwise (leB bl):=by rw [ey];exact uY.sublist (GQ _ _)
 have A5:∀ u∈y.toList,∀ z∈x.toList.drop (x.size - 1),leB bl u z:=λu hu z hz=>by
  rw [ey] at hu;rw [ex,fJ,sx] at hz;obtain ⟨j,ej⟩:=nk hz;have hj:=(aC.mp ej).1;rw [show k+(na - k - 1)+j = na - 1 by lia,ea] at ej;cases ej;obtain ⟨i',hi',ei'⟩:=mY u hu;exact C.as _ _ (dY u (ba hu)) da (m2 i' u hi' ei')
 have A6:∀ u,y[0]? = some u->∀ z∈x.toList,leB bl u z:=λu hu z hz=>by
  rw [<- aN,ey,nX,if_pos ∅,eb] at hu;cases hu;rw [ex] at hz;obtain ⟨j,h3,h4,ej⟩:=mX z hz;exact C.as _ _ db (dX z (bh hz)) (k3 j z h3 h4 ej)
 have fin:∀ (r:Array av) (st':bf),Re bl x y r->SB (setPending st (((pendingOf st).setIfInBounds i (sa,na+nb,pw)).eraseIdxIfInBounds (i+1))) st'->wpS M A E s (do
  modify λs=>iB (kindOf s) (r.toList.zipIdx.foldl (λa (p:av × Nat)=>a.setIfInBounds (sa+k+p.2) p.1) (arrOf s)) (pendingOf s) (gallopOf s) (failedOf s)
  return (failedOf (<- iM)).isNone) Q st':=λr st' hr hsb=>by
  obtain ⟨pm,up⟩:=hr;rw [ex,ey] at pm;have ar:arrOf st' = arrOf st:=by rw [hsb]
  have fl:failedOf st' = none:=by rw [hsb];exact hf
  have kd:kindOf st' = κ:=by rw [hsb];exact hk
  have pd:pendingOf st' = ((pendingOf st).setIfInBounds i (sa,na+nb,pw)).eraseIdxIfInBounds (i+1):=by rw [hsb]
  refine aA (cZ (aA (ji (aR ?_))));show Q (failedOf st').isNone _;rw [fl];have mr:∀ z∈r.toList,z∈X.drop k\/z∈Y.take m:=λz hz=>bC.mp (pm.mem_iff.mp hz);have dr:∀ z∈r.toList,D z:=λz hz=>(mr z hz).elim (λh=>dX z (bh h)) λh=>dY z (ba h)
  have t1:∀ z∈X.take k,leB bl z b0:=λz hz=>by
   obtain ⟨j,hj,ej⟩:=ox hz;exact k2 j z hj ej
  have t2:∀ z∈Y.drop m,leB bl aL z:=λz hz=>by
   obtain ⟨j,ej⟩:=nk hz;exact m3 (m+j) z ∅ (by have:=(aC.mp ej).1;lia) ej
  have sX:=uX;rw [<- bw k X,bU] at sX;have sY:=uY;rw [<- bw m Y,bU] at sY;refine q (X.take k++r.toList++Y.drop m) _ ?_ ?_ ?_ kd (by first | exact fl | rfl) pd
  . have h:(X.take k++(X.drop k++Y.take m)++Y.drop m) = X++Y:=by
     simp only [aU];rw [bw,<- aU (X.take k),bw]
    rw [<- h];exact ((pm.append_left _).append_right _)
  . refine bU.mpr ⟨bU.mpr ⟨sX.1,up,λu hu z hz=>?_⟩,sY.2.1,λu hu z hz=>?_⟩
    . have du:=dX u (ba hu);rcases mr z hz with h | h
      . exact sX.2.2 u hu z h
      . exact C.tr u b0 z du db (dr z hz) (t1 u hu) (b0le z (ba h))
    . have dz:=dY z (bh hz);have xz:∀ u∈X,leB bl u z:=λu hu=>C.tr u aL z (dX u hu) da dz (leaL u hu) (t2 z hz);rcases bC.mp hu with h | h
      . exact xz u (ba h)
      . rcases mr u h with h | h
        . exact xz u (bh h)
        . exact sY.2.2 u h z hz
  . show (r.toList.zipIdx.foldl (λa (p:av × Nat)=>a.setIfInBounds (sa+k+p.2) p.1) (arrOf st')).toList = _;rw [ar]
    have:=laid r.toList 0 (sa+k) (pre++X.take k) (X.drop k++Y.take m) (Y.drop m++post) (arrOf st) (by
     rw [e];simp only [aU];rw [<- aU (Y.take m) (Y.drop m),bw,<- aU (X.take k) (X.drop k),bw]) (by rw [ax,bq];lia) pm.length_eq.symm
    refine Eq.trans this ?_;simp only [aU]
 split
 . exact aA (yI C A1 A2 A3 A4 A5 hk ∅ ∅ A6 λr st' h1 h2=>fin r st' h1 h2)
 . exact aA (yJ C A1 A2 A3 A4 A5 hk ∅ ∅ A6 λr st' h1 h2=>fin r st' h1 h2)
end
section
variable {M:mP} {A:aW} {E:ae->ai->Prop} {s:ai} {st:bf} {κ:cK} {D:av->Prop} {bl:av->av->Bool}
def Sg (bl:av->av->Bool) (a:Array av) (lo n:Nat):Prop:=∀ i j x y,i<=j->j < n->a[lo+i]? = some x->a[lo+j]? = some y->leB bl x y
structure Kp (lo n:Nat) (a a':Array av):Prop where
 pm:a'.Perm a
 out:∀ i,i < lo\/lo+n<=i->a'[i]? = a[i]?
def Kp.refl {lo n:Nat} {a:Array av}:Kp lo n a a:=⟨cI _,λ_ _=>rfl⟩
def Kp.trans {lo n:Nat} {a b c:Array av} (h:Kp lo n a b) (g:Kp lo n b c):Kp lo n a c:=⟨g.pm.trans h.pm,λi hi=>(g.out i hi).trans (h.out i hi)⟩
def Kp.size {lo n:Nat} {a b:Array av} (h:Kp lo n a b):b.size = a.size:=h.pm.size_eq
def Kp.dm {lo n:Nat} {a b:Array av} (h:Kp lo n a b) (d:∀ x∈a,D x):∀ x∈b,D x:=λx hx=>d x (h.pm.mem_iff.mp hx)
def nq (C:Cp M A E s κ D bl) {i j:Nat} {x y:av} {Q:Option Bool->bf->Prop} (hk:kindOf st = κ) (ei:(arrOf st)[i]? = some x) (ej:(arrOf st)[j]? = some y) (dx:D x) (dy:D y) (q:Q (some (bl x y)) st):wpS M A E s (ltAt' i j) Q st:=by
 rw [ltAt'_eq];exact aA (ji (aA (el ei (aA (el ej (C.lt x y st Q dx dy hk q))))))
def ma {a:Array av} (d:∀ x∈a,D x) {i:Nat} (h:i < a.size):∃ x,a[i]? = some x/\D x:=⟨a[i],getElem?_pos a i h,d _ (Array.getElem_mem h)⟩
def rT (C:Cp M A E s κ D bl) {lo n ok:Nat} {Q:Bool->bf->Prop} (hk:kindOf st = κ) (hn:lo+n<=(arrOf st).size) (hok:ok<=n) (hs:Sg bl (arrOf st) lo ok) (dm:∀ x∈arrOf st,D x)
 (q:∀ a',Kp lo n (arrOf st) a'->Sg bl a' lo n->Q true (setArr st a')):wpS M A E s (binarySort' lo n ok) Q st:=by
 have rf:∀ {x:av},D x->leB bl x x:=λ{x} dx=>by
  show bl x x = false
  cases hc:bl x x with
  | false=>rfl
  | true=>have:=C.as x x dx dx hc;rw [hc] at this;cases this
 rw [binarySort'_eq]
 refine aA (dE (cq (I:=λk c st'=>c = (none,())/\∃ a',st' = setArr st a'/\Kp lo n (arrOf st) a'/\Sg bl a' lo (min k n))
  (Q:=λc st'=>c = (none,())/\∃ a',st' = setArr st a'/\Kp lo n (arrOf st) a'/\Sg bl a' lo n) ?step ?fin ⟨rfl,arrOf st,rfl,.refl,?init⟩) ?post)
 case post =>
  rintro c st' ⟨rfl,a',rfl,h1,h2⟩;exact aR (q a' h1 h2)
 case init =>
  intro i j x y hij hj ei ej;by_cases h1:j < ok
  . exact hs i j x y hij h1 ei ej
  . obtain ⟨rfl,rfl⟩:i = 0/\j = 0:=by lia
    rw [ei] at ej;cases ej;exact rf (dm x (bu ei))
 case fin =>
  rintro c st' ⟨h0,a',h1,h2,h3⟩;rw [show min (max (max ok 1) n) n = n by lia] at h3;exact ⟨h0,a',h1,h2,h3⟩
 case step =>
  rintro k c st' hk1 hkn ⟨rfl,a',rfl,kp,sg⟩;rw [show min k n = k by lia] at sg;have da:=kp.dm dm;have sz:=kp.size;obtain ⟨v,ev,dv⟩:=ma da (i:=lo+k) ∅
  refine aA (dE (cq (I:=λz c st''=>st'' = setArr st a'/\∃ l r,c = (none,l,r)/\l<=r/\r<=k/\r - l<=k - z/\(∀ i x,i < l->a'[lo+i]? = some x->leB bl x v)/\∀ i x,r<=i->i < k->a'[lo+i]? = some x->leB bl v x)
   (Q:=λc st''=>st'' = setArr st a'/\∃ l r,c = (none,l,r)/\l<=k/\(∀ i x,i < l->a'[lo+i]? = some x->leB bl x v)/\∀ i x,l<=i->i < k->a'[lo+i]? = some x->leB bl v x) ?istep ?ifin ⟨rfl,0,k,rfl,bO _,ao _,∅,(λi x h=>by lia),λi x h1 h2=>by lia⟩) ?ipost)
  case ifin =>
   rintro c st'' ⟨rfl,l,r,rfl,h1,h2,h3,h4,h5⟩;obtain rfl:l = r:=by lia
   exact ⟨rfl,l,l,rfl,h2,h4,h5⟩
  case istep =>
   rintro z c st'' _ hz ⟨rfl,l,r,rfl,h1,h2,h3,h4,h5⟩;dsimp only;by_cases hge:l ≥ r
   . rw [if_pos hge];obtain rfl:l = r:=by lia
     exact aR ⟨rfl,l,l,rfl,h2,h4,h5⟩
   rw [if_neg hge];obtain ⟨u,eu,du⟩:=ma da (i:=lo+(l+r) / 2) ∅;refine aA (nq C (st:=setArr st a') hk ev eu dv du ?_)
   cases hc:bl v u with
   | true=>exact aR ⟨rfl,l,(l+r) / 2,rfl,∅,∅,∅,h4,λi x h6 h7 e=>C.tr v u x dv du (da x (bu e)) (C.as _ _ dv du hc) (sg _ _ u x h6 h7 eu e)⟩
   | false=>exact aR ⟨rfl,(l+r) / 2+1,r,rfl,∅,∅,∅,λi x h6 e=>C.tr x u v (da x (bu e)) du dv (sg _ _ x u ∅ ∅ e eu) hc,h5⟩
  case ipost =>
   rintro c st'' ⟨rfl,l,r,rfl,h1,h2,h3⟩;dsimp only;rw [moveDown'_eq];refine aA (cZ (aR ⟨rfl,bubble a' (lo+k) (lo+k - (lo+l)),rfl,kp.trans ⟨vw _ _ _,λi hi=>?_⟩,?_⟩))
   . rw [xJ ∅ _ ∅];rw [if_neg ∅,if_neg ∅]
   . rw [show min (k+1) n = k+1 by lia];intro i j x y hij hj ei ej
     have f:∀ {i:Nat} {x:av},i<=k->(bubble a' (lo+k) (lo+k - (lo+l)))[lo+i]? = some x->(i < l/\a'[lo+i]? = some x)\/(i = l/\x = v)\/(l < i/\a'[lo+(i - 1)]? = some x):=λ{i x} hi e=>by
      rw [xJ ∅ _ ∅] at e;by_cases c1:i = l
      . rw [if_pos ∅,ev] at e;cases e;exact .inr (.inl ⟨c1,rfl⟩)
      rw [if_neg ∅] at e;by_cases c2:l < i
      . rw [if_pos ∅,show lo+i - 1 = lo+(i - 1) by lia] at e;exact .inr (.inr ⟨c2,e⟩)
      . rw [if_neg ∅] at e;exact .inl ⟨∅,e⟩
     rcases f ∅ ei with ⟨a1,a2⟩ | ⟨a1,rfl⟩ | ⟨a1,a2⟩<;>rcases f ∅ ej with ⟨b1,b2⟩ | ⟨b1,rfl⟩ | ⟨b1,b2⟩
     . exact sg i j x y hij ∅ a2 b2
     . exact h2 i x a1 a2
     . exact sg i (j - 1) x y ∅ ∅ a2 b2
     . exfalso;lia
     . exact rf dv
     . exact h3 (j - 1) y ∅ ∅ b2
     . exfalso;lia
     . exfalso;lia
     . exact sg (i - 1) (j - 1) x y ∅ ∅ a2 b2
end
section
variable {M:mP} {A:aW} {E:ae->ai->Prop} {s:ai} {st:bf} {κ:cK} {D:av->Prop} {bl:av->av->Bool} {a:Array av} {lo n p:Nat}
def Dg (bl:av->av->Bool) (a:Array av) (lo n:Nat):Prop:=∀ i j x y,i<=j->j < n->a[lo+i]? = some x->a[lo+j]? = some y->leB bl y x
def Eg (bl:av->av->Bool) (a:Array av) (lo p n:Nat):Prop:=∀ i j x y,p<=i->i < n->p<=j->j < n->a[lo+i]? = some x->a[lo+j]? = some y->leB bl x y
abbrev mir (a:Array av) (i j:Nat):Array av:=mirror a i j ((j - i) / 2)
def mx (hn:lo+n<=a.size) {i:Nat} (h1:p<=i) (h2:i < n):(mir a (lo+p) (lo+n))[lo+i]? = a[lo+(p+n - 1 - i)]? := by
 rw [JW hn,if_pos ∅];congr 1
 lia
def ni (hn:lo+n<=a.size) {i:Nat} (h:i < lo+p\/lo+n<=i):(mir a (lo+p) (lo+n))[i]? = a[i]? := by
 rw [JW hn,if_neg ∅]
def ux {m:Nat} (hn:lo+n<=a.size) (hm:n<=m):Kp lo m a (mir a (lo+p) (lo+n)):=⟨mirror_perm _ _ _ _,λi hi=>ni hn ∅⟩
def Dg.rev (h:Dg bl a lo n) (hn:lo+n<=a.size):Sg bl (mir a lo (lo+n)) lo n:=λi j x y h1 h2 e1 e2=>by
 rw [show mir a lo (lo+n) = mir a (lo+0) (lo+n) from rfl,mx hn (bO _) ∅] at e1 e2;exact h _ _ y x ∅ ∅ e2 e1
def Dg.turn (h:Dg bl a lo n) (hn:lo+n<=a.size) (e:Eg bl a lo p n):Dg bl (mir a (lo+p) (lo+n)) lo n:=λi j x y h1 h2 e1 e2=>by
 by_cases hi:p<=i
 . rw [mx hn hi ∅] at e1;rw [mx hn ∅ h2] at e2;exact e _ _ y x ∅ ∅ ∅ ∅ e2 e1
 . rw [ni hn ∅] at e1;by_cases hj:p<=j
   . rw [mx hn hj h2] at e2;exact h _ _ x y ∅ ∅ e1 e2
   . rw [ni hn ∅] at e2;exact h _ _ x y h1 h2 e1 e2
section
variable (C:Cp M A E s κ D bl) (d:∀ x∈a,D x)
include C d
theorem ke {x:av} {i:Nat} (e:a[i]? = some x):leB bl x x:=by
 have dx:=d x (bu e);show bl x x = false
 cases hc:bl x x with
 | false=>rfl
 | true=>have:=C.as x x dx dx hc;rw [hc] at this;cases this
theorem Sg.more (h:Sg bl a lo n) (hn:1<=n) {u v:av} (eu:a[lo+n - 1]? = some u) (ev:a[lo+n]? = some v) (l:leB bl u v):Sg bl a lo (n+1):=λi j x y h1 h2 e1 e2=>by
 by_cases hj:j = n
 . subst hj;rw [ev] at e2;cases e2;by_cases hi:i = j
   . subst hi;rw [ev] at e1;cases e1;exact ke C d ev
   . exact C.tr x u v (d x (bu e1)) (d u (bu eu)) (d v (bu ev)) (h i (j - 1) x u ∅ ∅ e1 (by rw [show lo+(j - 1) = lo+j - 1 by lia];exact eu)) l
 . exact h i j x y h1 ∅ e1 e2
theorem Dg.more (h:Dg bl a lo n) (hn:1<=n) {u v:av} (eu:a[lo+n - 1]? = some u) (ev:a[lo+n]? = some v) (l:leB bl v u):Dg bl a lo (n+1):=λi j x y h1 h2 e1 e2=>by
 by_cases hj:j = n
 . subst hj;rw [ev] at e2;cases e2;by_cases hi:i = j
   . subst hi;rw [ev] at e1;cases e1;exact ke C d ev
   . exact C.tr v u x (d v (bu ev)) (d u (bu eu)) (d x (bu e1)) l (h i (j - 1) x u ∅ ∅ e1 (by rw [show lo+(j - 1) = lo+j - 1 by lia];exact eu))
 . exact h i j x y h1 ∅ e1 e2
theorem Sg.one:Sg bl a lo 1:=λi j x y h1 h2 e1 e2=>by
 obtain ⟨rfl,rfl⟩:i = 0/\j = 0:=by lia
 rw [e1] at e2;cases e2;exact ke C d e1
theorem AR {st:bf} (ha:arrOf st = a) (hk:kindOf st = κ) {m n0:Nat} {Q:Option (Option Nat) × Nat->bf->Prop} (h1:1<=n0) (h2:n0<=m) (hm:lo+m<=a.size) (h:Sg bl a lo n0) (q:∀ k,n0<=k->k<=m->Sg bl a lo k->(k < m->∀ u v,a[lo+k - 1]? = some u->a[lo+k]? = some v->bl v u = true)->Q (none,k) st) :
 wpS M A E s (forIn [n0:m] ((none,n0):Option (Option Nat) × Nat) λ_ c=>do
  let x <- ltAt' (lo+c.2) (lo+c.2 - 1)
  match x with
  | some b=>if b = true then pure (.done (none,c.2)) else pure (.yield (none,c.2+1))
  | _=>pure (.done (some none,c.2))) Q st:=by
 refine cq (I:=λx c st'=>st' = st/\c = (none,x)/\n0<=x/\x<=m/\Sg bl a lo x) (λx c st' h3 h4 h5=>?_) (λc st' h3=>?_) ⟨rfl,rfl,ao _,h2,h⟩
 . obtain ⟨rfl,rfl,h6,h7,h8⟩:=h5;obtain ⟨v,ev,dv⟩:=ma d (i:=lo+x) ∅;obtain ⟨u,eu,du⟩:=ma d (i:=lo+x - 1) ∅;refine aA (nq C hk (by rw [ha];exact ev) (by rw [ha];exact eu) dv du ?_);dsimp only
   cases hc:bl v u with
   | true=>exact aR (q x h6 h7 h8 λ_ u' v' e1 e2=>by rw [eu] at e1;rw [ev] at e2;cases e1;cases e2;exact hc)
   | false=>exact aR ⟨rfl,rfl,∅,∅,h8.more C d ∅ eu ev hc⟩
 . obtain ⟨rfl,rfl,h6,h7,h8⟩:=h3;rw [show max n0 m = m by lia] at h8 |-;exact q m h2 (ao _) h8 λz=>absurd z (bX _)
end
end
abbrev C3:=Option (Option Nat) × Nat × Nat
def dsB (lo:Nat) (c:C3):StateT bf Sem (ForInStep C3):=do
 let some smaller <- ltAt' (lo+c.2.1) (lo+c.2.1 - 1) | pure (.done (some none,c.2.1,c.2.2))
 if smaller then
  if c.2.2 > 0 then do
   reverseSlice' (lo+c.2.1 - (c.2.2+1)) (lo+c.2.1)
   pure (.yield (none,c.2.1+1,0))
  else pure (.yield (none,c.2.1+1,0))
 else
  let some larger <- ltAt' (lo+c.2.1 - 1) (lo+c.2.1) | pure (.done (some none,c.2.1,c.2.2))
  if larger then pure (.done (none,c.2.1,c.2.2)) else pure (.yield (none,c.2.1+1,c.2.2+1))
section
variable {M:mP} {A:aW} {E:ae->ai->Prop} {s:ai} {st:bf} {κ:cK} {D:av->Prop} {bl:av->av->Bool} {lo:Nat}
structure Fl (bl:av->av->Bool) (a0 a:Array av) (lo n q:Nat):Prop where
 kp:Kp lo n a0 a
 dg:Dg bl a lo n
 ql:q < n
 eg:Eg bl a lo (n - (q+1)) n
def FZ (C:Cp M A E s κ D bl) (hk:kindOf st = κ) (d:∀ x∈arrOf st,D x) {m n0:Nat} {Q:C3->bf->Prop} (h1:1<=n0) (h2:n0<=m) {a1:Array av} (hm:lo+m<=(arrOf st).size) (h:Fl bl (arrOf st) a1 lo n0 0)
 (q:∀ k r a',n0<=k->k<=m->Fl bl (arrOf st) a' lo k r->Q (none,k,r) (setArr st a')):wpS M A E s (forIn [n0:m] ((none,n0,0):C3) λ_ c=>dsB lo c) Q (setArr st a1):=by
 refine cq (I:=λx c st'=>∃ r a',st' = setArr st a'/\c = (none,x,r)/\n0<=x/\x<=m/\Fl bl (arrOf st) a' lo x r) (λx c st' h3 h4 h5=>?_) (λc st' h3=>?_) ⟨0,a1,rfl,rfl,ao _,h2,h⟩
 . obtain ⟨r,a',rfl,rfl,h6,h7,f⟩:=h5;have da:=f.kp.dm d;have sz:=f.kp.size;obtain ⟨v,ev,dv⟩:=ma da (i:=lo+x) ∅;obtain ⟨u,eu,du⟩:=ma da (i:=lo+x - 1) ∅;unfold dsB;dsimp only;refine aA (nq C (st:=setArr st a') hk ev eu dv du ?_);dsimp only;have up:∀ {a2:Array av},Kp lo x (arrOf st) a2->Kp lo (x+1) (arrOf st) a2:=λg=>⟨g.pm,λi hi=>g.out i ∅⟩
   have one:∀ {a2:Array av},(∀ z∈a2,D z)->Eg bl a2 lo (x+1 - (0+1)) (x+1):=λd2 i j y z g1 g2 g3 g4 e1 e2=>by
    obtain rfl:i = j:=by lia
    rw [e1] at e2;cases e2;exact ke C d2 e1
   have uu:a'[lo+(x - 1)]? = some u:=by rw [show lo+(x - 1) = lo+x - 1 by lia];exact eu
   cases hc:bl v u with
   | true =>
     rw [if_pos rfl];have l:=C.as _ _ dv du hc;by_cases hr:r > 0
     . rw [if_pos hr,lS];refine aA (cZ (aR ?_));have hq:=f.ql;rw [show lo+x - (r+1) = lo+(x - (r+1)) by lia];have kt:Kp lo x (arrOf st) (mir a' (lo+(x - (r+1))) (lo+x)):=f.kp.trans (ux ∅ (ao _));have dt:=kt.dm d;have ev2:(mir a' (lo+(x - (r+1))) (lo+x))[lo+x]? = some v:=by rw [ni ∅ ∅];exact ev
       have eu2:(mir a' (lo+(x - (r+1))) (lo+x))[lo+x - 1]? = a'[lo+(x - (r+1))]? := by
        rw [show lo+x - 1 = lo+(x - 1) by lia,mx ∅ ∅ ∅];congr 1
        lia
       obtain ⟨w,ew,dw⟩:=ma da (i:=lo+(x - (r+1))) ∅;exact ⟨0,_,rfl,rfl,∅,∅,up kt,(f.dg.turn ∅ f.eg).more C dt ∅ (eu2.trans ew) ev2 (C.tr v u w dv du dw l (f.eg _ _ u w ∅ ∅ ∅ ∅ uu ew)),∅,one dt⟩
     . rw [if_neg hr]
       exact aR ⟨0,a',rfl,rfl,∅,∅,up f.kp,f.dg.more C da ∅ eu ev l,∅,one da⟩
   | false =>
     rw [if_neg ⇑0];refine aA (nq C (st:=setArr st a') hk eu ev du dv ?_);dsimp only
     cases hd:bl u v with
     | true=>exact aR (q x r a' h6 h7 f)
     | false =>
       have hq:=f.ql;refine aR ⟨r+1,a',rfl,rfl,∅,∅,up f.kp,f.dg.more C da ∅ eu ev hd,∅,λi j y z g1 g2 g3 g4 e1 e2=>?_⟩;have dy:=da y (bu e1);have dz:=da z (bu e2);by_cases hi:i = x
       . subst hi;rw [ev] at e1;cases e1;by_cases hj:j = i
         . subst hj;rw [ev] at e2;cases e2;exact ke C da ev
         . exact C.tr v u z dv du dz hd (f.eg _ _ u z ∅ ∅ ∅ ∅ uu e2)
       . by_cases hj:j = x
         . subst hj;rw [ev] at e2;cases e2;exact C.tr y u v dy du dv (f.eg _ _ y u ∅ ∅ ∅ ∅ e1 uu) hc
         . exact f.eg _ _ y z ∅ ∅ ∅ ∅ e1 e2
 . obtain ⟨r,a',rfl,rfl,h6,h7,f⟩:=h3;rw [show max n0 m = m by lia] at f |-;exact q m r a' h2 (ao _) f
end
def tl2 (lo m n:Nat):StateT bf Sem (Option Nat):=do
 reverseSlice' lo (lo+n)
 let mut n:=n
 for _ in [n:m] do
  let some smaller <- ltAt' (lo+n) (lo+n - 1) | return none
  if smaller then break
  n:=n+1
 return some n
section
variable {M:mP} {A:aW} {E:ae->ai->Prop} {s:ai} {st:bf} {κ:cK} {D:av->Prop} {bl:av->av->Bool} {lo:Nat}
def DD (C:Cp M A E s κ D bl) (hk:kindOf st = κ) {a':Array av} {Q:Option Nat->bf->Prop} {m n:Nat} (d:∀ x∈arrOf st,D x) (h1:1<=n) (h2:n<=m) (hm:lo+m<=(arrOf st).size) (kp:Kp lo n (arrOf st) a') (dg:Dg bl a' lo n) (q:∀ k a2,1<=k->k<=m->Kp lo k (arrOf st) a2->Sg bl a2 lo k->Q (some k) (setArr st a2)):wpS M A E s (tl2 lo m n) Q (setArr st a'):=by
 have sz:=kp.size;have k2:Kp lo n (arrOf st) (mir a' lo (lo+n)):=kp.trans (ux (p:=0) ∅ (ao _));unfold tl2;rw [lS];refine aA (cZ ?_);refine aA (AR (a:=mir a' lo (lo+n)) C (k2.dm d) (st:=setArr st (mir a' lo (lo+n))) rfl hk h1 h2 (by rw [k2.size];exact hm) (dg.rev ∅) λk g1 g2 g3 _=>?_);exact aR (q k _ ∅ g2 ⟨k2.pm,λi hi=>k2.out i ∅⟩ g3)
end
def pt (lo m n:Nat):StateT bf Sem (Option Nat):=do
 liftM (rule "list.sort.descending-run")
 let c <- forIn [n+1:m] ((none,n+1,0):C3) λ_ c=>dsB lo c
 match c.fst with
 | some r=>pure r
 | none =>
   if c.snd.snd > 0 then do
    reverseSlice' (lo+c.snd.fst - (c.snd.snd+1)) (lo+c.snd.fst)
    tl2 lo m c.snd.fst
   else tl2 lo m c.snd.fst
def xp (lo m:Nat):countRun' lo m = (do
 let c <- forIn [1:m] ((none,1):Option (Option Nat) × Nat) λ_ c=>do
  let x <- ltAt' (lo+c.2) (lo+c.2 - 1)
  match x with
  | some b=>if b = true then pure (.done (none,c.2)) else pure (.yield (none,c.2+1))
  | _=>pure (.done (some none,c.2))
 match c.fst with
 | some r=>pure r
 | none =>
   if (c.snd == m) = true then pure (some c.snd)
   else if c.snd > 1 then do
    let x <- ltAt' lo (lo+c.snd - 1)
    match x with
    | some rose=>if rose = true then pure (some c.snd) else do
       reverseSlice' lo (lo+c.snd)
       pt lo m c.snd
    | _=>pure none
   else pt lo m c.snd):=by
 rw [countRun'_eq];dsimp only;unfold pt tl2 dsB;congr 1
 funext c
 obtain ⟨r,n⟩:=c
 cases r with
 | some r=>rfl
 | none =>
   dsimp only;split
   . rfl
   . split
     . congr 1
       funext x
       cases x with
       | none=>rfl
       | some rose =>
         dsimp only;split
         . rfl
         . congr 1
           funext _r
           congr 1;funext _u;congr 1;funext s2;obtain ⟨r2,n2,q2⟩:=s2;cases r2<;>rfl
     . congr 1;funext _u;congr 1;funext s2;obtain ⟨r2,n2,q2⟩:=s2;cases r2<;>rfl
section
variable {prog:aS} {w:bD} {A:aW} {E:ae->ai->Prop} {s:ai} {st:bf} {κ:cK} {D:av->Prop} {bl:av->av->Bool} {lo:Nat}
def JK (C:Cp (model prog w) A E s κ D bl) (hk:kindOf st = κ) {a':Array av} {Q:Option Nat->bf->Prop} {m n:Nat} (d:∀ x∈arrOf st,D x) (h1:1<=n) (h2:n < m) (hm:lo+m<=(arrOf st).size) (h:Fl bl (arrOf st) a' lo (n+1) 0)
 (q:∀ k a2,1<=k->k<=m->Kp lo k (arrOf st) a2->Sg bl a2 lo k->Q (some k) (setArr st a2)):wpS (model prog w) A E s (pt lo m n) Q (setArr st a'):=by
 unfold pt;refine aA (oO (dQ ⟨rfl,?_⟩));refine aA (FZ C hk d ∅ ∅ hm h λk r a2 g1 g2 f=>?_);dsimp only;have sz:=f.kp.size;by_cases hr:r > 0
 . rw [if_pos hr,lS];have hq:=f.ql;refine aA (cZ ?_);rw [show lo+k - (r+1) = lo+(k - (r+1)) by lia];exact DD C hk (a':=mir a2 (lo+(k - (r+1))) (lo+k)) d ∅ g2 hm (f.kp.trans (ux ∅ (ao _))) (f.dg.turn ∅ f.eg) q
 . rw [if_neg hr];exact DD C hk d ∅ g2 hm f.kp f.dg q
def xo (C:Cp (model prog w) A E s κ D bl) (hk:kindOf st = κ) {Q:Option Nat->bf->Prop} {m:Nat} (d:∀ x∈arrOf st,D x) (h1:1<=m) (hm:lo+m<=(arrOf st).size)
 (q:∀ k a2,1<=k->k<=m->Kp lo k (arrOf st) a2->Sg bl a2 lo k->Q (some k) (setArr st a2)):wpS (model prog w) A E s (countRun' lo m) Q st:=by
 rw [xp];refine aA (AR (a:=arrOf st) C d rfl hk (ao 1) h1 hm (Sg.one C d) λk g1 g2 g3 g4=>?_);dsimp only;by_cases hkm:k = m
 . rw [if_pos (by simpa using hkm)];exact aR (q k (arrOf st) g1 g2 .refl g3)
 rw [if_neg (by simpa using hkm)];obtain ⟨v,ev,dv⟩:=ma d (i:=lo+k) ∅;obtain ⟨u,eu,du⟩:=ma d (i:=lo+k - 1) ∅;have hb:=g4 ∅ u v eu ev
 have one:∀ {a2:Array av},(∀ z∈a2,D z)->Eg bl a2 lo (k+1 - (0+1)) (k+1):=λd2 i j y z g1 g2 g3 g4 e1 e2=>by
  obtain rfl:i = j:=by lia
  rw [e1] at e2;cases e2;exact ke C d2 e1
 by_cases hg:k > 1
 . rw [if_pos hg];obtain ⟨z,ez,dz⟩:=ma d (i:=lo) ∅;refine aA (nq C hk ez eu dz du ?_);dsimp only
   cases hr:bl z u with
   | true=>exact aR (q k (arrOf st) g1 g2 .refl g3)
   | false =>
     rw [if_neg ⇑0,lS];refine aA (cZ ?_)
     have all:∀ i x,i < k->(arrOf st)[lo+i]? = some x->leB bl x z/\leB bl z x/\leB bl u x:=λi x hi e=>by
      have dx:=d x (bu e);have a1:=g3 0 i z x (bO _) hi ez e;have a2:=g3 i (k - 1) x u ∅ ∅ e (by rw [show lo+(k - 1) = lo+k - 1 by lia];exact eu);exact ⟨C.tr x u z dx du dz a2 hr,a1,C.tr u z x du dz dx hr a1⟩
     have kt:Kp lo k (arrOf st) (mir (arrOf st) (lo+0) (lo+k)):=ux ∅ (ao _);have dt:=kt.dm d
     have dg:Dg bl (mir (arrOf st) (lo+0) (lo+k)) lo k:=λi j x y h1 h2 e1 e2=>by
      rw [mx ∅ (bO _) ∅] at e1 e2;exact g3 _ _ y x ∅ ∅ e2 e1
     have ev2:(mir (arrOf st) (lo+0) (lo+k))[lo+k]? = some v:=by rw [ni ∅ ∅];exact ev
     have eu2:(mir (arrOf st) (lo+0) (lo+k))[lo+k - 1]? = some z:=by
      rw [show lo+k - 1 = lo+(k - 1) by lia,mx ∅ (bO _) ∅];rw [show lo+(0+k - 1 - (k - 1)) = lo by lia];exact ez
     exact JK C hk (a':=mir (arrOf st) (lo+0) (lo+k)) d g1 ∅ hm ⟨⟨kt.pm,λi hi=>kt.out i ∅⟩,dg.more C dt g1 eu2 ev2 (C.tr v u z dv du dz (C.as _ _ dv du hb) (all (k - 1) u ∅ (by rw [show lo+(k - 1) = lo+k - 1 by lia];exact eu)).1),∅,one dt⟩ q
 . rw [if_neg hg];obtain rfl:k = 1:=by lia
   have dg:Dg bl (arrOf st) lo 1:=λi j x y h1 h2 e1 e2=>by
    obtain ⟨rfl,rfl⟩:i = 0/\j = 0:=by lia
    rw [e1] at e2;cases e2;exact ke C d e1
   exact JK C hk (a':=arrOf st) d g1 ∅ hm ⟨.refl,dg.more C d (ao 1) eu ev (C.as _ _ dv du hb),∅,one d⟩ q
end
def Cov (bl:av->av->Bool) (a:Array av):List (Nat × Nat × Nat)->Nat->Nat->Prop
 | [],p,hi=>p = hi
 | (s,n,_)::r,p,hi=>s = p/\1<=n/\Sg bl a p n/\Cov bl a r (p+n) hi
section
variable {bl:av->av->Bool} {a b:Array av}
def Cov.le:∀ {l:List (Nat × Nat × Nat)} {p hi:Nat},Cov bl a l p hi->p+l.length<=hi
 | [],_,_,h=>Nat.le_of_eq h
 | (s,n,w)::r,p,hi,⟨_,h1,_,h2⟩=>by
   have:=h2.le;simp only [aB]
   lia
def Sg.same {lo n:Nat} (h:Sg bl a lo n) (e:∀ i,lo<=i->i < lo+n->b[i]? = a[i]?):Sg bl b lo n:=λi j x y h1 h2 e1 e2=>h i j x y h1 h2 ((e _ ∅ ∅).symm.trans e1) ((e _ ∅ ∅).symm.trans e2)
def Cov.same:∀ {l:List (Nat × Nat × Nat)} {p hi:Nat},Cov bl a l p hi->(∀ i,p<=i->i < hi->b[i]? = a[i]?)->Cov bl b l p hi
 | [],_,_,h,_=>h
 | (s,n,w)::r,p,hi,⟨h0,h1,h2,h3⟩,e=>by
   have:=h3.le;exact ⟨h0,h1,h2.same λi g1 g2=>e i g1 ∅,h3.same λi g1 g2=>e i ∅ g2⟩
def Cov.snoc:∀ {l:List (Nat × Nat × Nat)} {p hi n w:Nat},Cov bl a l p hi->1<=n->Sg bl a hi n->Cov bl a (l++[(hi,n,w)]) p (hi+n)
 | [],p,hi,n,w,h,h1,h2=>by
   obtain rfl:p = hi:=h
   exact ⟨rfl,h1,h2,rfl⟩
 | (s,m,w')::r,p,hi,n,w,⟨h0,h1,h2,h3⟩,g1,g2=>⟨h0,h1,h2,h3.snoc g1 g2⟩
def Cov.pow:∀ {l:List (Nat × Nat × Nat)} {p hi:Nat} (k pw:Nat),Cov bl a l p hi->Cov bl a (l.modify k λt=>(t.1,t.2.1,pw)) p hi
 | [],_,_,0,_,h=>h
 | [],_,_,k+1,_,h=>h
 | (s,n,w)::r,_,_,0,_,h=>h
 | (s,n,w)::r,_,_,k+1,pw,⟨h0,h1,h2,h3⟩=>⟨h0,h1,h2,h3.pow k pw⟩
def Cov.two:∀ {l:List (Nat × Nat × Nat)} {p hi i:Nat},Cov bl a l p hi->i+1 < l.length->∃ s na pw nb pw2,l[i]? = some (s,na,pw)/\l[i+1]? = some (s+na,nb,pw2)/\1<=na/\1<=nb/\Sg bl a s na/\Sg bl a (s+na) nb/\p<=s/\s+na+nb<=hi /\
 ∀ b:Array av,(∀ j,j < s\/s+na+nb<=j->b[j]? = a[j]?)->Sg bl b s (na+nb)->Cov bl b ((l.set i (s,na+nb,pw)).eraseIdx (i+1)) p hi
 | [],_,_,_,_,h=>by simp at h
 | [_],_,_,_,_,h=>by simp at h
 | (s,n,w)::(s2,n2,w2)::r,p,hi,0,⟨h0,h1,h2,h3,h4,h5,h6⟩,_=>by
   subst h0;subst h3;have:=h6.le
   exact ⟨s,n,w,n2,w2,rfl,rfl,h1,h4,h2,h5,ao _,∅,λb g1 g2=>⟨rfl,∅,g2,by rw [<- Nat.add_assoc];exact h6.same λi k1 k2=>g1 i ∅⟩⟩
 | (s,n,w)::t::r,p,hi,i+1,⟨h0,h1,h2,h3⟩,hl=>by
   obtain ⟨s',na,pw,nb,pw2,e1,e2,g1,g2,g3,g4,g5,g6,g7⟩:=h3.two (i:=i) (by simpa using hl);exact ⟨s',na,pw,nb,pw2,e1,e2,g1,g2,g3,g4,∅,g6,λb k1 k2=>⟨h0,h1,h2.same λj j1 j2=>k1 j ∅,g7 b k1 k2⟩⟩
def Sg.part {lo n:Nat} (h:Sg bl a lo n) (hn:lo+n<=a.size):((a.toList.drop lo).take n).Pairwise (leB bl):=fY.mpr λi j hi hj hij=>by
 simp only [bq,cP,aK] at hi hj;have e:∀ k,k < n->(a.toList.drop lo)[k]? = a[lo+k]? := λk hk=>by rw [eW,aN]
 refine h i j _ _ ∅ ∅ ?_ ?_
 . rw [<- e i ∅,GV];exact aD _
 . rw [<- e j ∅,GV];exact aD _
def Sg.of {lo n:Nat} {pre R post:List av} (rf:∀ x∈R,leB bl x x) (e:a.toList = pre++R++post) (hp:pre.length = lo) (hn:R.length = n) (h:R.Pairwise (leB bl)):Sg bl a lo n:=λi j x y h1 h2 e1 e2=>by
 have f:∀ k,k < n->a[lo+k]? = R[k]? := λk hk=>by
  rw [<- aN];exact yH e hp ∅
 rw [f _ ∅] at e1 e2;rcases GP h1 with g | rfl
 . obtain ⟨p1,q1⟩:=aC.mp e1;obtain ⟨p2,q2⟩:=aC.mp e2;have:=fY.mp h i j p1 p2 g
   rwa [q1,q2] at this
 . rw [e1] at e2;cases e2;exact rf x (bI e1)
end
structure Pn (bl:av->av->Bool) (κ:cK) (a0:Array av) (hi:Nat) (st:bf):Prop where
 pm:(arrOf st).Perm a0
 kd:kindOf st = κ
 fl:failedOf st = none
 cv:Cov bl (arrOf st) (pendingOf st).toList 0 hi
section
variable {M:mP} {A:aW} {E:ae->ai->Prop} {s:ai} {st:bf} {κ:cK} {D:av->Prop} {bl:av->av->Bool} {a0:Array av}
def qJ (C:Cp M A E s κ D bl) (d:∀ x∈a0,D x) {i hi:Nat} {Q:Bool->bf->Prop} (h:Pn bl κ a0 hi st) (hh:hi<=a0.size) (hp:i+1 < (pendingOf st).size)
 (q:∀ st',Pn bl κ a0 hi st'->(∀ j,hi<=j->(arrOf st')[j]? = (arrOf st)[j]?)->(pendingOf st').size+1 = (pendingOf st).size->Q true st'):wpS M A E s (mergeAt' i) Q st:=by
 obtain ⟨sa,na,pw,nb,pw2,e1,e2,g1,g2,g3,g4,g5,g6,g7⟩:=h.cv.two (i:=i) (by simpa using hp);have sz:=h.pm.size_eq;have da:∀ x∈(arrOf st).toList,D x:=λx hx=>d x (h.pm.mem_iff.mp (zB.mp hx));rw [aN] at e1 e2
 have sp:(arrOf st).toList = (arrOf st).toList.take sa++((arrOf st).toList.drop sa).take na++((arrOf st).toList.drop (sa+na)).take nb++(arrOf st).toList.drop (sa+na+nb):=by
  have k1:(arrOf st).toList = (arrOf st).toList.take sa++(arrOf st).toList.drop sa:=(bw _ _).symm;have k2:(arrOf st).toList.drop sa = ((arrOf st).toList.drop sa).take na++(arrOf st).toList.drop (sa+na):=by rw [<- fJ];exact (bw _ _).symm
  have k3:(arrOf st).toList.drop (sa+na) = ((arrOf st).toList.drop (sa+na)).take nb++(arrOf st).toList.drop (sa+na+nb):=by rw [<- fJ (i:=nb)];exact (bw _ _).symm
  rw [aU,aU,<- k3,<- k2,<- k1]
 have lp:((arrOf st).toList.take sa).length = sa:=by rw [bq,aK];lia
 have lX:(((arrOf st).toList.drop sa).take na).length = na:=by rw [bq,cP,aK];lia
 have lY:(((arrOf st).toList.drop (sa+na)).take nb).length = nb:=by rw [bq,cP,aK];lia
 have dX:∀ x∈((arrOf st).toList.drop sa).take na,D x:=λx hx=>da x (bh (ba hx));have dY:∀ x∈((arrOf st).toList.drop (sa+na)).take nb,D x:=λx hx=>da x (bh (ba hx));refine yK C h.kd h.fl e1 e2 rfl g1 g2 sp lp lX lY (g3.part ∅) (g4.part ∅) dX dY λR st' pR uR eR k1 k2 k3=>?_;have lR:R.length = na+nb:=by rw [pR.length_eq,ax,lX,lY]
 have ou:∀ j,j < sa\/sa+na+nb<=j->(arrOf st')[j]? = (arrOf st)[j]? := λj hj=>by
  rw [<- aN,<- aN,eR]
  conv=>rhs;rw [sp]
  rcases hj with hj | hj
  . rw [aU,aU,aU,bL ∅,bL ∅]
  . rw [cg (by rw [ax];lia),cg (by simp only [ax];lia)];congr 1;simp only [ax]
    lia
 refine q st' ⟨?_,k1,k2,?_⟩ (λj hj=>ou j ∅) ?_
 . refine Array.Perm.trans ?_ h.pm;rw [sh,eR];exact ((pR.append_left _).append_right _).trans (by rw [<- aU,<- sp])
 . rw [k3];have:=g7 (arrOf st') ou (Sg.of (λx hx=>?_) eR lp lR uR)
   . rw [pz,jq];exact this
   . have dx:D x:=by
      rcases bC.mp (pR.mem_iff.mp hx) with z | z
      . exact dX x z
      . exact dY x z
     show bl x x = false
     cases hc:bl x x with
     | false=>rfl
     | true=>have:=C.as x x dx dx hc;rw [hc] at this;cases this
 . rw [k3,<- aK,pz,jq,List.length_eraseIdx,cA,aK,if_pos hp]
   lia
end
section
variable {prog:aS} {w:bD} {A:aW} {E:ae->ai->Prop} {s:ai} {κ:cK} {D:av->Prop} {bl:av->av->Bool} {a0:Array av}
def Pn.kp {hi k:Nat} {st:bf} {a2:Array av} (h:Pn bl κ a0 hi st) (kp:Kp hi k (arrOf st) a2):Pn bl κ a0 hi (setArr st a2):=⟨kp.pm.trans h.pm,h.kd,h.fl,h.cv.same λi _ h2=>kp.out i (.inl h2)⟩
def Pn.push {hi n w':Nat} {st:bf} (h:Pn bl κ a0 hi st) (h1:1<=n) (h2:Sg bl (arrOf st) hi n):Pn bl κ a0 (hi+n) (setPending st ((pendingOf st).push (hi,n,w'))):=⟨h.pm,h.kd,h.fl,by
 show Cov bl (arrOf st) ((pendingOf st).push (hi,n,w')).toList 0 (hi+n);rw [fo];exact h.cv.snoc h1 h2⟩
def Pn.pow {hi k pw:Nat} {st:bf} (h:Pn bl κ a0 hi st):Pn bl κ a0 hi (setPending st ((pendingOf st).modify k λx=>match x with | (st,len,_)=>(st,len,pw))):=⟨h.pm,h.kd,h.fl,by
 show Cov bl (arrOf st) ((pendingOf st).modify k _).toList 0 hi;rw [Array.toList_modify];exact h.cv.pow k pw⟩
def vS (C:Cp (model prog w) A E s κ D bl) (d:∀ x∈a0,D x) {st:bf} {Q:Unit->bf->Prop} (h:Pn bl κ a0 0 st) (h1:1<=a0.size)
 (q:∀ st',(arrOf st').Perm a0->failedOf st' = none->Sg bl (arrOf st') 0 a0.size->Q () st'):wpS (model prog w) A E s sortRuns' Q st:=by
 rw [sortRuns'_eq];refine aA (ji ?_);have sz0:=h.pm.size_eq;rw [sz0];dsimp only;generalize minRun' a0.size a0.size 0 = mr
 refine aA (dE (cq (I:=λx c st'=>∃ lo,c = (none,lo)/\min x a0.size<=lo/\lo<=a0.size/\Pn bl κ a0 lo st')
  (Q:=λc st'=>c = (none,a0.size)/\Pn bl κ a0 a0.size st') ?step ?fin ⟨0,rfl,∅,bO _,h⟩) ?post)
 case fin =>
  rintro c st' ⟨lo,rfl,g1,g2,g3⟩;obtain rfl:lo = a0.size:=by lia
  exact ⟨rfl,g3⟩
 case step =>
  rintro x c st' _ hx ⟨lo,rfl,g1,g2,g3⟩;dsimp only;by_cases hl:lo ≥ a0.size
  . rw [if_pos hl];obtain rfl:lo = a0.size:=by lia
    exact aR ⟨rfl,g3⟩
  rw [if_neg hl];have sz:=g3.pm.size_eq;have da:∀ {st:bf} {hi:Nat},Pn bl κ a0 hi st->∀ x∈arrOf st,D x:=λp x hx=>d x (p.pm.mem_iff.mp hx);refine aA (xo C g3.kd (da g3) (m:=a0.size - lo) ∅ ∅ λk a2 k1 k2 kp sg=>?_);dsimp only;by_cases hk:k < mr
  . rw [if_pos hk];refine aA (oO (dQ ⟨rfl,?_⟩));have g4:=g3.kp kp;have sz4:=g4.pm.size_eq;refine aA (rT C g4.kd ∅ ∅ sg (da g4) λa3 kp3 sg3=>?_);rw [if_neg ⇑0];have h:=g4.kp kp3;have sg:=sg3;have h1:=(show 1<=min (a0.size - lo) mr by lia);have h2:=(show lo+min (a0.size - lo) mr<=a0.size by lia);refine aA (ji ?_);generalize hb:Array.back? _ = b
    match b with
    | none=>exact aA (cZ (aR ⟨_,rfl,∅,h2,h.push h1 sg⟩))
    | some (s1,n1,w1) =>
      dsimp only;generalize power' _ _ _ _ = pw;refine aA (dE (cq (I:=λ_ c st'=>c = (none,())/\Pn bl κ a0 lo st'/\Sg bl (arrOf st') lo _) (Q:=λc st'=>c = (none,())/\Pn bl κ a0 lo st'/\Sg bl (arrOf st') lo _) ?_ (λ_ _ hh=>hh) ⟨rfl,h,sg⟩) ?_)
      . rintro x c st' _ _ ⟨rfl,g1,g2⟩;refine aA (ji ?_);by_cases hp:(pendingOf st').size > 1
        . rw [if_pos hp];generalize (pendingOf st')[(pendingOf st').size - 2]? = o
          match o with
          | none=>exact aR ⟨rfl,g1,g2⟩
          | some (u1,u2,u3) =>
            dsimp only;by_cases ho:u3<=pw
            . rw [if_pos ho];exact aR ⟨rfl,g1,g2⟩
            . rw [if_neg ho];exact aA (qJ C d g1 ∅ ∅ λst2 k1 k2 _=>aR ⟨rfl,k1,g2.same λi i1 _=>k2 i i1⟩)
        . rw [if_neg hp];exact aR ⟨rfl,g1,g2⟩
      . rintro c st' ⟨rfl,g1,g2⟩;exact aA (cZ (aA (cZ (aR ⟨_,rfl,∅,h2,(g1.pow (pw:=pw)).push h1 g2⟩))))
  . rw [if_neg hk];have h:=g3.kp kp;have sg:=sg;have h1:=k1;have h2:=(show lo+k<=a0.size by lia);refine aA (ji ?_);generalize hb:Array.back? _ = b
    match b with
    | none=>exact aA (cZ (aR ⟨_,rfl,∅,h2,h.push h1 sg⟩))
    | some (s1,n1,w1) =>
      dsimp only;generalize power' _ _ _ _ = pw;refine aA (dE (cq (I:=λ_ c st'=>c = (none,())/\Pn bl κ a0 lo st'/\Sg bl (arrOf st') lo _) (Q:=λc st'=>c = (none,())/\Pn bl κ a0 lo st'/\Sg bl (arrOf st') lo _) ?_ (λ_ _ hh=>hh) ⟨rfl,h,sg⟩) ?_)
      . rintro x c st' _ _ ⟨rfl,g1,g2⟩;refine aA (ji ?_);by_cases hp:(pendingOf st').size > 1
        . rw [if_pos hp];generalize (pendingOf st')[(pendingOf st').size - 2]? = o
          match o with
          | none=>exact aR ⟨rfl,g1,g2⟩
          | some (u1,u2,u3) =>
            dsimp only;by_cases ho:u3<=pw
            . rw [if_pos ho];exact aR ⟨rfl,g1,g2⟩
            . rw [if_neg ho];exact aA (qJ C d g1 ∅ ∅ λst2 k1 k2 _=>aR ⟨rfl,k1,g2.same λi i1 _=>k2 i i1⟩)
        . rw [if_neg hp];exact aR ⟨rfl,g1,g2⟩
      . rintro c st' ⟨rfl,g1,g2⟩;exact aA (cZ (aA (cZ (aR ⟨_,rfl,∅,h2,(g1.pow (pw:=pw)).push h1 g2⟩))))
 case post =>
  rintro c st' ⟨rfl,g⟩;dsimp only
  have one:∀ {st2:bf},Pn bl κ a0 a0.size st2->(pendingOf st2).size<=1->Sg bl (arrOf st2) 0 a0.size:=λ{st2} p hp=>by
   have cv:=p.cv;generalize hl:(pendingOf st2).toList = l at cv;have ll:l.length<=1:=by rw [<- hl];simpa using hp
   match l with
   | []=>exact absurd (show 0 = a0.size from cv) ∅
   | [(s1,n1,w1)] =>
     obtain ⟨_,_,k3,k4⟩:=cv;have k5:0+n1 = a0.size:=k4;rw [<- k5,jo]
     exact k3
   | _::_::_=>simp at ll
  refine aA (dE (cq (I:=λx c st'=>c = (none,())/\Pn bl κ a0 a0.size st'/\(pendingOf st').size<=max 1 (a0.size - x)) (Q:=λc st'=>c = (none,())/\Pn bl κ a0 a0.size st'/\(pendingOf st').size<=1) ?_ ?_ ⟨rfl,g,?_⟩) ?_)
  . rintro x c st2 _ hx ⟨rfl,g1,g2⟩;refine aA (ji ?_);by_cases hp:(pendingOf st2).size<=1
    . rw [if_pos hp];exact aR ⟨rfl,g1,hp⟩
    . rw [if_neg hp];refine aA (qJ C d g1 (ao _) ?_ λst3 k1 _ k3=>aR ⟨rfl,k1,∅⟩);split<;>lia
  . rintro c st2 ⟨rfl,g1,g2⟩;exact ⟨rfl,g1,∅⟩
  . have:=g.cv.le;simp only [aK] at this
    lia
  . rintro c st2 ⟨rfl,g1,g2⟩;exact aR (q st2 g1.pm g1.fl (one g1 g2))
end
end PP
end
section
namespace PP
open PySem PySem.W PyProof.Rows
section
variable {prog:aS} {w:bD} {A:aW} {E:ae->ai->Prop} {s:ai}
def Oy {κ:cK} {vs:List ae} {bl:ae->ae->Bool}
 (ha:∀ u v,u∈vs->v∈vs->∀ C:Bool->ai->Prop,C (bl u v) s->wpAny (model prog w) A (keyLt' κ u v) C (λ_ _=>False) s)
 (as:∀ u v,u∈vs->v∈vs->bl u v = true->bl v u = false) (tr:∀ u v z,u∈vs->v∈vs->z∈vs->bl v u = false->bl z v = false->bl z u = false) :
 Cp (model prog w) A E s κ (λx=>x.1 = x.2/\x.2∈vs) (λx y=>bl x.2 y.2) where
 lt:=λ⟨x1,x2⟩ ⟨y1,y2⟩ st Q ⟨dx1,dx⟩ ⟨dy1,dy⟩ hk q=>by
  obtain rfl:x1 = x2:=dx1;obtain rfl:y1 = y2:=dy1;rw [lt'_eq];refine aA (ji ?_);rw [hk];refine aA (oO (lx (dR (ha _ _ dx dy (λb s'=>s' = s/\b = bl x1 y1) ⟨rfl,rfl⟩) (λb s' hb=>?_) λ_ _ z=>dW z)));obtain ⟨rfl,rfl⟩:=hb;exact ⟨rfl,aR q⟩
 as:=λx y dx dy h=>as _ _ dx.2 dy.2 h
 tr:=λx y z dx dy dz h1 h2=>tr _ _ _ dx.2 dy.2 dz.2 h1 h2
def rO {a:aw} {vs:List ae} {n:Nat} {bl:ae->ae->Bool} {κ:cK} {P:PySem.Fin->ai->Prop} (ho:s.heap.get? a = some (seqObj "list" vs.toArray n)) (h2:2<=vs.length) (hz:vs.length<=sizeLine)
 (hk:∀ h':cb,(∀ b o,b≠a->s.heap.get? b = some o->h'.get? b = some o)->∀ C:cK->ai->Prop,C κ { s with heap:=h' }->wpAny (model prog w) A (keyKind' vs.toArray) C (λ_ _=>False) { s with heap:=h' })
 (ha:∀ h':cb,(∀ b o,b≠a->s.heap.get? b = some o->h'.get? b = some o)->∀ u v,u∈vs->v∈vs->∀ C:Bool->ai->Prop,C (bl u v) { s with heap:=h' }->wpAny (model prog w) A (keyLt' κ u v) C (λ_ _=>False) { s with heap:=h' })
 (as:∀ u v,u∈vs->v∈vs->bl u v = true->bl v u = false) (tr:∀ u v z,u∈vs->v∈vs->z∈vs->bl v u = false->bl z v = false->bl z u = false)
 (q:∀ rs:List ae,rs.Perm vs->rs.Pairwise (λx y=>bl y x = false)->P (.done (.ret .none)) { s with heap:=sortedHeap s.heap a vs rs.toArray }):wpAny (model prog w) A (eJ.«list.sort» ⟨[.ref a],[]⟩) P E s:=by
 have la:a < s.heap.objs.size:=aE ho;obtain ⟨e1,o1⟩:∃ e1,(s.heap.update a (bK λ_=>(#[]:Array ae))).get? a = some (seqObj "list" #[] e1):=⟨_,mO ho λ_ => #[]⟩;have o3:(((s.heap.update a (bK λ_=>(#[]:Array ae))).push (seqObj "tuple" vs.toArray 0)).push (seqObj "list" #[] 0)).get? a = some (seqObj "list" #[] e1):=ah _ (ah _ o1)
 have keep:∀ b o,b≠a->s.heap.get? b = some o->(((s.heap.update a (bK λ_=>(#[]:Array ae))).push (seqObj "tuple" vs.toArray 0)).push (seqObj "list" #[] 0)).get? b = some o:=λb o hb e =>
  ah _ (ah _ ((cE _ _ (Ne.symm hb)).trans e))
 rw [list_sort_plain];refine ab (listItems_at ho rfl (ab (gQ ho rfl ?_ (by rw [aG];exact hz) (bO _))));refine ab (oT o1 rfl (ab (oQ ?_ (by show vs.length<=_;exact hz))));refine ab (lh (bY ?_) (bO _));show wpAny (model prog w) A _ P E { s with heap:=((s.heap.update a (bK λ_=>(#[]:Array ae))).push (seqObj "tuple" vs.toArray 0)).push (seqObj "list" #[] 0) };dsimp only;have h2':¬ vs.toArray.size < 2:=by simp;lia
 rw [if_neg h2',if_neg h2'];generalize hs1:{ s with heap:=((s.heap.update a (bK λ_=>(#[]:Array ae))).push (seqObj "tuple" vs.toArray 0)).push (seqObj "list" #[] 0) } = s1;refine ab (dR (hs1▸hk _ keep (λκ' s'=>κ' = κ/\s' = s1) ⟨rfl,hs1⟩) (λκ' s0 hk=>?_) λ_ _ x=>x.elim);obtain ⟨rfl,rfl⟩:=hk
 have zm:(vs.toArray.zip vs.toArray).toList = vs.map λv=>(v,v):=by
  rw [Array.toList_zip];show vs.zip vs = _
  have z:∀ l:List ae,l.zip l = l.map λv=>(v,v):=λl=>by
   induction l with
   | nil=>rfl
   | cons a r ih=>rw [jD,ih,aJ]
  exact z vs
 have run:=vS (E:=E) (s:=s0) (κ:=κ') (a0:=vs.toArray.zip vs.toArray) (st:=iB κ' (vs.toArray.zip vs.toArray) #[] 7 none)
  (Q:=λ_ st'=>∃ rs:List ae,rs.Perm vs/\rs.Pairwise (λx y=>bl y x = false)/\(arrOf st').map (·.2) = rs.toArray/\failedOf st' = none)
  (Oy (λu v hu hv C hC=>by subst hs1;exact ha _ keep u v hu hv C hC) as tr) (λx hx=>by
    have hx':x∈(vs.toArray.zip vs.toArray).toList:=zB.mpr hx;rw [zm] at hx';obtain ⟨v,hv,rfl⟩:=cL.mp hx';exact ⟨rfl,hv⟩) ⟨.refl _,rfl,rfl,rfl⟩ (by simp;lia) (λst' g1 g2 g3=>by
    have gp:(arrOf st').toList.Perm (vs.map λv=>(v,v)):=by rw [<- zm];exact sh.mp g1
    refine ⟨(arrOf st').toList.map (·.2),?_,?_,?_,g2⟩
    . have:=gp.map (·.2);rw [xT] at this;simpa [Function.comp_def] using this
    . have sz:=g1.size_eq;have pw:=g3.part (by rw [sz];lia);rw [List.drop_zero,eV (by rw [aK];lia)] at pw;exact GS.mpr pw
    . apply Hd.mp;rw [Array.toList_map])
 unfold wpS at run;refine ab (dR run ?_ λ_ _ e=>e);rintro ⟨⟨⟩,st'⟩ s' ⟨rfl,rs,g1,g2,g3,g4⟩;dsimp only;rw [g3];subst hs1;refine ab (oT o3 rfl (ab (gQ o3 rfl ?_ (bO _) (by rw [aG,g1.length_eq];exact pF hz))));rw [g4];simp only [bne_self_eq_false,bb,if_false];exact aq (q rs g1 g2)
end
section
variable {prog:aS} {w:bD} {A:aW} {E:ae->ai->Prop} {s:ai}
def yp {l:aw} {vs:List ae} {bl:ae->ae->Bool} {κ:cK} {Q:ae->ai->Prop} (hl:s.heap.IsList l vs.toArray) (h2:2<=vs.length) (hz:vs.length<=sizeLine)
 (hk:∀ (A':aW) (h':cb),A'.units<=A.units+2->(∀ b o,s.heap.get? b = some o->h'.get? b = some o)->∀ C:cK->ai->Prop,C κ { s with heap:=h' }->wpAny (model prog w) A' (keyKind' vs.toArray) C (λ_ _=>False) { s with heap:=h' })
 (ha:∀ (A':aW) (h':cb),A'.units<=A.units+2->(∀ b o,s.heap.get? b = some o->h'.get? b = some o)->∀ u v,u∈vs->v∈vs->∀ C:Bool->ai->Prop,C (bl u v) { s with heap:=h' }->wpAny (model prog w) A' (keyLt' κ u v) C (λ_ _=>False) { s with heap:=h' })
 (as:∀ u v,u∈vs->v∈vs->bl u v = true->bl v u = false) (tr:∀ u v z,u∈vs->v∈vs->z∈vs->bl v u = false->bl z v = false->bl z u = false)
 (q:∀ rs:List ae,rs.Perm vs->rs.Pairwise (λx y=>bl y x = false)->Q (.ref (s.heap.objs.size+1)) { s with heap:=sortedAll s.heap vs rs.toArray }):wpAny (model prog w) A (call (.builtin "sorted") [.ref l]) Q E s:=by
 refine fR Jz GD GF (GJ _) ?_;unfold eJ.«sorted»;refine ab (m:=checkCount "sorted" 1 1 _) (aq ?_);refine ab (collect_list hl (ab (lh ?_ hz)) hz);have hs:((s.heap.push (seqObj "list" #[] 0)).update s.heap.objs.size (bK (·++vs.toArray))).objs.size = s.heap.objs.size+1:=by rw [Hi,size_push']
 have hL:(((s.heap.push (seqObj "list" #[] 0)).update s.heap.objs.size (bK (·++vs.toArray))).push (seqObj "list" vs.toArray 0)).get? (s.heap.objs.size+1) = some (seqObj "list" vs.toArray 0):=by
  rw [<- hs];exact aF _ rfl
 have keep:∀ b o,s.heap.get? b = some o->b≠s.heap.objs.size+1/\(((s.heap.push (seqObj "list" #[] 0)).update s.heap.objs.size (bK (·++vs.toArray))).push (seqObj "list" vs.toArray 0)).get? b = some o:=λb o e=>by
  have hlt:b < s.heap.objs.size:=aE e;exact ⟨aO (bF hlt),ah _ ((cE _ _ (fe hlt)).trans (ah _ e))⟩
 show wpAny _ _ _ _ _ { s with heap:=((s.heap.push (seqObj "list" #[] 0)).update s.heap.objs.size (bK (·++vs.toArray))).push (seqObj "list" vs.toArray 0) };rw [hs];refine ab (bY (bW zj ⟨_,hL,rfl⟩ xK ?body (zq _)))
 case body =>
  refine rO (bl:=bl) (κ:=κ) hL h2 hz (λh' kp=>hk _ h' ?_ λb o e=>kp b o (keep b o e).1 (keep b o e).2) (λh' kp=>ha _ h' ?_ λb o e=>kp b o (keep b o e).1 (keep b o e).2) as tr λrs r1 r2=>?_
  . exact ao _
  . exact ao _
  . exact ⟨_,rfl,aq ⟨_,rfl,q rs r1 r2⟩⟩
end
end PP
end
section
namespace PP
def qx {α:Type} {lt:α->α->Bool}:∀ {xs ys:List α},xs.Perm ys->xs.Pairwise (λa b=>lt b a = false)->ys.Pairwise (λa b=>lt b a = false)->(∀ a b,a∈xs->b∈xs->lt a b = false->lt b a = false->a = b)->xs = ys
 | [],ys,p,_,_,_=>p.nil_eq
 | a::r,[],p,_,_,_=>absurd p.length_eq ↥0
 | a::r,b::s,p,u,v,h=>by
   have hb:b∈a::r:=p.mem_iff.mpr au;have ha:a∈b::s:=p.mem_iff.mp au
   have e:a = b:=by
    rcases aQ.mp ha with z | z
    . exact z
    rcases aQ.mp hb with w | w
    . exact w.symm
    exact h a b au hb ((dq.mp v).1 a z) ((dq.mp u).1 b w)
   subst e;rw [qx (List.Perm.cons_inv p) (dq.mp u).2 (dq.mp v).2 λx y hx hy=>h x y (ak _ hx) (ak _ hy)]
end PP
end
section
namespace PP
open PySem PySem.W PyProof.Rows L2
variable [Tbs]
structure Big (ds:List D):Prop where
 len:ds.length<=sizeLine
 hd:∀ x∈ds,bE x≠0/\bE x = bE (ds.getD 0 .non)
 cmp:∀ x∈ds,∀ y∈ds,∃ k,iN x y = some k
 as:∀ x∈ds,∀ y∈ds,ltO x y = true->ltO y x = false
 tr:∀ x∈ds,∀ y∈ds,∀ z∈ds,ltO y x = false->ltO z y = false->ltO z x = false
 one:∀ x∈ds,∀ y∈ds,ltO x y = false->ltO y x = false->x = y
def oB (x:D):∀ ys:List D,(wW x ys).Perm (x::ys)
 | []=>.refl _
 | y::ys=>by
   unfold wW;split
   . exact ((oB x ys).cons y).trans (.swap x y ys)
   . exact .refl _
def mi:∀ ds:List D,(kN ds).Perm ds
 | []=>.refl _
 | x::xs=>(oB x _).trans ((mi xs).cons x)
def Av {S:D->Prop} (as:∀ x y,S x->S y->ltO x y = true->ltO y x = false) (tr:∀ x y z,S x->S y->S z->ltO y x = false->ltO z y = false->ltO z x = false) {x:D} (hx:S x):∀ {ys:List D},(∀ y∈ys,S y)->ys.Pairwise (λa b=>ltO b a = false)->(wW x ys).Pairwise λa b=>ltO b a = false
 | [],_,_=>List.pairwise_singleton _ _
 | y::ys,hs,h=>by
   have hy:=hs y au;have hr:∀ z∈ys,S z:=λz hz=>hs z (ak _ hz);obtain ⟨h1,h2⟩:=dq.mp h;unfold wW;split
   . rename_i e;refine dq.mpr ⟨λz hz=>?_,Av as tr hx hr h2⟩;rcases aQ.mp ((oB x ys).mem_iff.mp hz) with rfl | hz
     . exact as _ _ hy hx e
     . exact h1 z hz
   . rename_i e;have e:ltO y x = false:=by simpa using e
     refine dq.mpr ⟨λz hz=>?_,h⟩;rcases aQ.mp hz with rfl | hz
     . exact e
     . exact tr x y z hx hy (hr z hz) e (h1 z hz)
def vT {S:D->Prop} (as:∀ x y,S x->S y->ltO x y = true->ltO y x = false) (tr:∀ x y z,S x->S y->S z->ltO y x = false->ltO z y = false->ltO z x = false):∀ {ds:List D},(∀ x∈ds,S x)->(kN ds).Pairwise λa b=>ltO b a = false
 | [],_=>.nil
 | x::xs,h=>Av as tr (h x au) (λy hy=>h y (ak _ ((mi xs).mem_iff.mp hy))) (vT as tr λy hy=>h y (ak _ hy))
def Big.sorted {ds es:List D} (b:Big ds) (p:es.Perm ds) (u:es.Pairwise λx y=>ltO y x = false):es = kN ds :=
 qx (lt:=ltO) (p.trans (mi ds).symm) u (vT (S:=(·∈ds)) (λx y hx hy=>b.as x hx y hy) (λx y z hx hy hz=>b.tr x hx y hy z hz) λx hx=>hx) λx y hx hy=>b.one x (p.mem_iff.mp hx) y (p.mem_iff.mp hy)
def OC {prog:aS} {w:bD} {A A':aW} {s:ai} {h':cb} {ds:List D} {its:List ae} (hu:A.units+200 < cLine) (hA:A'.units<=A.units+2) (rd:RdL s.heap ds its) (l3:its.length = ds.length) (hk:∀ x∈ds,bE x≠0/\bE x = bE (ds.getD 0 .non)) (hlt:∀ x∈ds,∀ y∈ds,∃ k,iN x y = some k)
 (k:∀ b o,s.heap.get? b = some o->h'.get? b = some o) (i j:Nat) (hi:i < its.length) (hj:j < its.length) (C:Bool->ai->Prop) (c:C (fy ds i j) { s with heap:=h' }) :
 kas_ask prog w A' (if bE (ds.getD 0 .non) < 3 then oneType' else tuples' true) its i j C { s with heap:=h' }:=by
 have mem:∀ i,i < its.length->ds.getD i .non∈ds:=λi hi=>by
  have:i < ds.length:=by lia
  rw [bQ,aD this];exact eN this
 obtain ⟨b,hb⟩:=hlt _ (mem i hi) _ (mem j hj);have eb:fy ds i j = b:=by unfold fy;rw [hb];rfl
 rw [eb] at c;have ri:=RdV.keep k _ _ (RdL.nth i rd ∅);have rj:=RdV.keep k _ _ (RdL.nth j rd ∅);have ki:=hk _ (mem i hi);have kj:=hk _ (mem j hj);unfold iN at hb;split at hb
 . rename_i hd;unfold kas_ask;generalize ds.getD i .non = x at ri hb hd ki;generalize ds.getD j .non = y at rj hb hd kj;generalize its.getD i bH = u at ri;generalize its.getD j bH = v at rj;generalize bE (ds.getD 0 .non) = n0 at ki kj;by_cases h3:n0 < 3
   . rw [if_pos h3,zk];refine EH (s:={ s with heap:=h' }) ri rj ?_ hb c;have:=ki.1;have k1:n0 = 1\/n0 = 2:=by lia
     rcases k1 with k1 | k1
     . exact .inl ⟨∅,∅⟩
     . exact .inr ⟨∅,∅⟩
   . rw [if_neg h3]
     have tx:∀ z:D,bE z = n0->∃ p r,z = .tup (p::r)/\((n0 = 3/\bE p = 1)\/(n0 = 4/\bE p = 2)):=λz hz=>by
      cases z<;>first | (simp [bE] at hz;lia) | skip
      rename_i l
      cases l with
      | nil=>simp [bE] at hz;lia
      | cons p r=>cases p<;>first | (simp [bE] at hz;lia) | exact ⟨_,_,rfl,by simp [bE] at hz |-;lia⟩
     obtain ⟨p1,r1,rfl,w1⟩:=tx x ki.2;obtain ⟨p2,r2,rfl,w2⟩:=tx y kj.2;unfold RdV at ri rj;obtain ⟨a1,i1,rfl,⟨o1,g1,c1,m1,d1⟩,t1⟩:=ri;obtain ⟨a2,i2,rfl,⟨o2,g2,c2,m2,d2⟩,t2⟩:=rj;have z1:i1.size = (p1::r1).length:=by simpa using t1.length
     have z2:i2.size = (p2::r2).length:=by simpa using t2.length
     unfold ltD at hb;unfold dep at hd;refine kat_lt (s:={ s with heap:=h' }) g1 d1 g2 d2 (qO (s:={ s with heap:=h' }) (p1::r1) (p2::r2) i1.toList i2.toList 0 t1 t2 ∅ hb (by rw [z1,z2]) (λ_ x y hx hy=>?_) c);cases hx;cases hy;rcases w1 with ⟨e,w1⟩ | ⟨e,w1⟩<;>rcases w2 with ⟨e',w2⟩ | ⟨e',w2⟩<;>first | (exact .inl ⟨w1,w2⟩) | (exact .inr ⟨w1,w2⟩) | lia
 . cases hb
def BI {α β:Type} {f:α->β} {rs us:List β} (p:rs.Perm us):∀ T:List α,us = T.map f->∃ T':List α,T'.Perm T/\rs = T'.map f:=by
 induction p with
 | nil=>exact λT e=>⟨T,.refl _,e⟩
 | cons x p ih =>
   intro T e
   cases T with
   | nil=>cases e
   | cons t T =>
     rw [aJ] at e;injection e with e1 e2;obtain ⟨T',q,rfl⟩:=ih T e2
     exact ⟨t::T',q.cons t,by rw [aJ,e1]⟩
 | swap x y l =>
   intro T e
   cases T with
   | nil=>cases e
   | cons t T =>
     cases T with
     | nil=>cases e
     | cons t2 T =>
       rw [aJ,aJ] at e;injection e with e1 e2;injection e2 with e2 e3
       exact ⟨t2::t::T,.swap _ _ _,by rw [aJ,aJ,e1,e2,e3]⟩
 | trans p1 p2 ih1 ih2 =>
   intro T e;obtain ⟨T2,q2,e2⟩:=ih2 T e;obtain ⟨T1,q1,e1⟩:=ih1 T2 e2;exact ⟨T1,q1.trans q2,e1⟩
def list_range {α:Type} (l:List α) (d:α):l = (cc l.length).map λi=>l.getD i d:=by
 apply Hf
 . simp
 . intro i h1 h2;simp [bQ,aD h1]
open Classical in
def uZ {X:Cx} (hu:X.A.units+200 < cLine):cz X (.builtin "sorted") (λxs H Q=>∃ F ds v,xs = [v]/\dF X.K H F (.lst ds) v/\2<=ds.length/\Big ds/\∀ p ys,H p = none->aI X.K H F (kN ds) ys->Q (.ref p) (upd H p (.lst ys))):=by
 intro pins s σ H xs us Q I r h;obtain ⟨F,ds,v,rfl,rb,h2,big,q⟩:=h;obtain ⟨a,ws,rfl,hl,rl⟩:=rb.lst;obtain ⟨u,rfl,rx⟩:=vals1 r;cases rx;obtain ⟨its,n,rv,ho,hz⟩:=hl.obj I
 have hdep:cJ ds < 100000:=pV λx hx=>by
  obtain ⟨b,hb⟩:=big.cmp x hx x hx;unfold iN at hb;split at hb
  . lia
  . cases hb
 have rd:=mq I ds ws its rl rv hdep;have l1:=rl.length;have l2:=rv.length;have l3:its.length = ds.length:=by lia
 have isl:s.heap.IsList a its.toArray:=⟨_,ho,rfl,n,rfl⟩;have nth:∀ i,i < ds.length->RdV s.heap (ds.getD i .non) (its.getD i bH):=λi hi=>RdL.nth i rd hi
 have mem:∀ i,i < ds.length->ds.getD i .non∈ds:=λi hi=>by
  rw [bQ,aD hi];exact eN hi
 have at_:∀ u∈its,∃ i,i < ds.length/\u = its.getD i bH:=λu hu=>by
  obtain ⟨i,hi,e⟩:=CB hu;exact ⟨i,∅,by rw [bQ,aD hi];exact e.symm⟩
 let bl:ae->ae->Bool:=λu v=>decide (∃ x y,RdV s.heap x u/\RdV s.heap y v/\ltO x y = true)
 have hbl:∀ {i j:Nat},i < ds.length->j < ds.length->bl (its.getD i bH) (its.getD j bH) = ltO (ds.getD i .non) (ds.getD j .non):=λ{i j} hi hj=>by
  show decide _ = _
  cases e:ltO (ds.getD i .non) (ds.getD j .non) with
  | true=>exact decide_eq_true ⟨_,_,nth i hi,nth j hj,e⟩
  | false =>
    refine decide_eq_false ?_;rintro ⟨x,y,k1,k2,k3⟩;rw [RdV.inj _ _ _ k1 (nth i hi),RdV.inj _ _ _ k2 (nth j hj),e] at k3;cases k3
 refine yp (bl:=bl) (κ:=if bE (ds.getD 0 .non) < 3 then oneType' else tuples' true) isl ∅ (by have:=big.len;lia) (λA' h' hA k C c=>?_) (λA' h' hA k u v hu' hv' C c=>?_) (λu v hu' hv'=>?_) (λu v z hu' hv' hz'=>?_) λrs r1 r2=>?_
 . exact Fv (s:={ s with heap:=h' }) (RdL.keep k ds its rd) big.hd ∅ c
 . obtain ⟨i,hi,rfl⟩:=at_ u hu';obtain ⟨j,hj,rfl⟩:=at_ v hv';rw [hbl hi hj] at c;exact OC hu hA rd l3 big.hd big.cmp k i j ∅ ∅ C c
 . obtain ⟨i,hi,rfl⟩:=at_ u hu';obtain ⟨j,hj,rfl⟩:=at_ v hv';rw [hbl hi hj,hbl hj hi];exact big.as _ (mem i hi) _ (mem j hj)
 . obtain ⟨i,hi,rfl⟩:=at_ u hu';obtain ⟨j,hj,rfl⟩:=at_ v hv';obtain ⟨k,hk,rfl⟩:=at_ z hz';rw [hbl hj hi,hbl hk hj,hbl hk hi];exact big.tr _ (mem i hi) _ (mem j hj) _ (mem k hk)
 . obtain ⟨T,pT,rfl⟩:=BI r1 _ (list_range its bH)
   have hT:∀ i∈T,i < ds.length:=λi hi=>by
    have:=md.mp (pT.mem_iff.mp hi)
    lia
   have ry:aI X.K H F (T.map λi=>ds.getD i .non) (T.map λi=>ws.getD i .non):=nM rl T hT;have vy:Vals (T.map λi=>ws.getD i .non) (T.map λi=>its.getD i bH):=nL rv T λi hi=>by have:=hT i hi;lia
   have pd:(T.map λi=>ds.getD i .non).Perm ds:=by
    have:=pT.map λi=>ds.getD i .non;rw [l3,<- list_range] at this;exact this
   have ud:(T.map λi=>ds.getD i .non).Pairwise λx y=>ltO y x = false:=by
    rw [GS] at r2 |-;exact r2.imp_of_mem λ{i j} hi hj e=>by rw [<- hbl (hT j hj) (hT i hi)];exact e
   rw [big.sorted pd ud] at ry;obtain ⟨e,he⟩:=sortedAll_at s.heap its (T.map λi=>its.getD i bH).toArray;refine ⟨.ref (s.heap.objs.size+1),upd H (s.heap.objs.size+1) (.lst (T.map λi=>ws.getD i .non)),I.laid (t':=s.toks) (λb u hb=>sortedAll_old hb) (mI _) ⟨?_,_,e,vy,he⟩,rfl,q _ _ (I.hok.fresh (mI _)) ry⟩;have e1:=pT.length_eq;rw [jQ] at e1;have:=big.len;rw [ay]
   lia
def yq {ds:List D} (h:ds.length < 2):fU ds = ds/\kN ds = ds:=by
 refine ⟨by unfold fU;rw [if_pos h],?_⟩
 match ds,h with
 | [],_=>rfl
 | [x],_=>rfl
def Big.short {ds:List D} (b:Big ds) (h:ds.length < 64):sortable ds = true:=by
 unfold sortable;simp only [aa,decide_eq_true_eq,cQ];refine ⟨⟨h,λx hx=>?_⟩,λx hx y hy=>?_⟩
 . obtain ⟨h1,h2⟩:=b.hd x hx;exact ⟨by simpa using h1,by simpa using h2⟩
 . obtain ⟨k,e⟩:=b.cmp x hx y hy;rw [e];rfl
def va {X:Cx} (hu:X.A.units+200 < cLine):cz X (.builtin "sorted") (λxs H Q=>∃ F ds v,xs = [v]/\dF X.K H F (.lst ds) v/\Big ds/\∀ p ys,H p = none->aI X.K H F (kN ds) ys->Q (.ref p) (upd H p (.lst ys))):=by
 intro pins s σ H xs us Q I r h;obtain ⟨F,ds,v,e,rb,big,q⟩:=h;by_cases h2:ds.length < 2
 . obtain ⟨e1,e2⟩:=yq h2;rw [e2,<- e1] at q;exact uW hu pins s σ H xs us Q I r ⟨F,ds,v,e,rb,big.short ∅,q⟩
 . exact uZ hu pins s σ H xs us Q I r ⟨F,ds,v,e,rb,∅,big,q⟩
end PP
end
section
namespace PP
open PySem
mutual
theorem we:∀ a b:D,iE a b = true->a = b
 | .non,b,h=>by unfold iE at h;cases h
 | .lst _,b,h=>by unfold iE at h;cases h
 | .fn _ _,b,h=>by unfold iE at h;cases h
 | .bl a,b,h=>by
   cases b<;>unfold iE at h<;>first | (cases h;done) | exact congrArg D.bl (of_decide_eq_true h)
 | .int a,b,h=>by
   cases b<;>unfold iE at h<;>first | (cases h;done) | exact congrArg D.int (of_decide_eq_true h)
 | .str a,b,h=>by
   cases b<;>unfold iE at h<;>first | (cases h;done) | exact congrArg D.str (of_decide_eq_true h)
 | .tup a,b,h=>by
   cases b<;>unfold iE at h<;>first | (cases h;done) | exact congrArg D.tup (sD a _ h)
theorem sD:∀ a b:List D,hW a b = true->a = b
 | [],[],_=>rfl
 | [],_::_,h=>by unfold hW at h;cases h
 | _::_,[],h=>by unfold hW at h;cases h
 | x::xs,y::ys,h=>by
   unfold hW at h;rw [aa] at h;rw [we x y h.1,sD xs ys h.2]
end
def Ju {ds:List D} (h:Cu ds = true):Big ds:=by
 unfold Cu at h;simp only [aa,decide_eq_true_eq,cQ,dT,jS] at h;obtain ⟨⟨⟨h1,h2⟩,h3⟩,h4⟩:=h;refine ⟨h1,λx hx=>?_,λx hx y hy=>?_,λx hx y hy e=>?_,λx hx y hy z hz e1 e2=>?_,λx hx y hy e1 e2=>?_⟩
 . obtain ⟨a,b⟩:=h2 x hx;exact ⟨by simpa using a,by simpa using b⟩
 . exact gf.mp (h3 x hx y hy).1.1
 . rcases (h3 x hx y hy).1.2 with z | z
   . rw [e] at z;cases z
   . exact z
 . rcases h4 x hx y hy with z' | z'
   . rw [e1] at z';cases z'
   . rcases z' z hz with z' | z'
     . rw [e2] at z';cases z'
     . exact z'
 . rcases (h3 x hx y hy).2 with z | z
   . rcases z with z | z
     . rw [e1] at z;cases z
     . rw [e2] at z;cases z
   . exact we x y z
end PP
end
section
namespace PP
open PySem L2 PyProof.Rows
variable [Tbs]
section
variable {K:PySem.W.Frag} {cx:Cl} {X:Cx}
def uc:PA X [] (tEs X.K cx .nil):=by
 refine λpos pins s σ H Q I h=>ot pos pins s σ H Q I ?_;obtain ⟨G,F,δ,ds,δ',ok,ev,post⟩:=h;simp only [fW] at ev;cases ev;exact post [] H F Step.refl (λ_=>Sim.refl H) ok ⟨rfl,rfl⟩
def qt (pc:(!cj a || npS es) = true) (ha:PE X y (tE X.K cx a)) (hr:PA X ys (tEs X.K cx es)) (hs:starEach (y::ys) X.env = (false,eval y X.env)::starEach ys X.env):PA X (y::ys) (tEs X.K cx (.cons a es)):=by
 refine λpos pins s σ H Q I h=>jt ha hr hs pos pins s σ H Q I ?_;obtain ⟨G,F,δ,ds,δ',ok,ev,post⟩:=h;simp only [fW,af,ag] at ev;obtain ⟨⟨x,δ1⟩,ea,⟨ds',δ2⟩,eb,e⟩:=ev;cases e;refine ⟨G,F,δ,x,δ1,ok,ea,λv H1 F1 st1 sm1 ok1 r1=>⟨G,F1,δ1,ds',δ2,ok1,eb,λvs H2 F2 st2 sm2 ok2 r2=>?_⟩⟩;refine post (v::vs) H2 F2 (st1.trans st2) (λz=>?_) ok2 ⟨x,ds',v,vs,rfl,rfl,RelM.step ok1.fd st2 (λz=>sm2 (by rw [z] at pc;simpa using pc)) r1,r2⟩;have z':(np a && npS es) = true:=z;rw [aa] at z';exact (sm1 z'.1).trans (sm2 z'.2)
def oZ.rl:∀ {es:Es} {ds:List D} {vs:List V},mw es = true->oZ K H F es ds vs->aI K H F ds vs
 | .nil,ds,vs,_,h=>by obtain ⟨rfl,rfl⟩:=h;exact aI.nil
 | .cons e es,ds,vs,n,h=>by
   obtain ⟨d,ds',v,vs',rfl,rfl,h1,h2⟩:=h;have n':(!cj e && mw es) = true:=n;rw [aa] at n';exact aI.cons (dP n'.1 h1) (oZ.rl n'.2 h2)
def xF (K:PySem.W.Frag) (H:Hp) (F:aw->Prop):List D->List V->Prop
 | [],vs=>vs = []
 | d::ds,vs=>∃ v vs',vs = v::vs'/\dF K H F d v/\xF K H F ds vs'
def oZ.bl:∀ {es:Es} {ds:List D} {vs:List V},oZ K H F es ds vs->xF K H F ds vs
 | .nil,ds,vs,h=>by obtain ⟨rfl,rfl⟩:=h;rfl
 | .cons e es,ds,vs,h=>by
   obtain ⟨d,ds',v,vs',rfl,rfl,h1,h2⟩:=h;exact ⟨v,vs',rfl,h1.b,oZ.bl h2⟩
def AG {f:List D->Option D} {es:Es} {δ δ':Loc} {d:D} (ev:(do let (ds,δ1) <- fW cx es δ;return (<- f ds,δ1)) = some (d,δ')):∃ ds,fW cx es δ = some (ds,δ')/\f ds = some d:=by
 simp only [af,ag] at ev;obtain ⟨⟨ds,δ1⟩,ea,d',hd,e⟩:=ev;cases e;exact ⟨ds,ea,hd⟩
def HF (n:mw es = true) (h:PA X xs (tEs X.K cx es)):PE X (.Tuple xs k pos) (tE X.K cx (.tup es)):=by
 refine PE.imp (Lr h) λσ H Q h=>?_;obtain ⟨G,F,δ,d,δ',ok,ev,post⟩:=h;simp only [evE,af,ag] at ev;obtain ⟨⟨ds,δ1⟩,ea,ev⟩:=ev;split at ev
 . rename_i hz;cases ev;refine ⟨G,F,δ,ds,δ1,ok,ea,λvs H1 F1 st1 sm1 ok1 r1=>?_⟩;have r:=r1.rl n;refine ⟨by rw [r.length];exact hz,λp hp=>?_⟩;obtain ⟨o1,o2,o3,o4⟩:=ok1.laid hp (.tup vs);exact post _ _ _ (st1.trans o2) (λz=>(sm1 z).trans o3) o1 (hZ (mj ok1 hp r))
 . cases ev
def HM (n:mw es = true) (h:PA X xs (tEs X.K cx es)):PE X (.List xs pos) (tE X.K cx (.lst es)):=by
 refine PE.imp (EA h) λσ H Q h=>?_;obtain ⟨G,F,δ,d,δ',ok,ev,post⟩:=h;simp only [evE,af,ag] at ev;obtain ⟨⟨ds,δ1⟩,ea,ev⟩:=ev;split at ev
 . rename_i hz;cases ev;refine ⟨G,F,δ,ds,δ1,ok,ea,λvs H1 F1 st1 sm1 ok1 r1=>?_⟩;have r:=r1.rl n;refine ⟨by rw [r.length];exact hz,λp hp=>?_⟩;obtain ⟨o1,o2,o3,o4⟩:=ok1.laid hp (.lst vs);exact post _ _ _ (st1.trans o2) (λz=>(sm1 z).trans o3) o1 (hZ (mn ok1 hp r))
 . cases ev
def aI.at {H:Hp} {F:aw->Prop} {ds:List D} {xs:List V} {i:Int} {d:D} (h:aI K H F ds xs) (e:atI ds i = some d):∃ v,atI xs i = some v/\Rel K H F d v:=by
 unfold atI at e |-;rw [h.length]
 cases q:ixN ds.length i with
 | none=>rw [q] at e;cases e
 | some j =>
   rw [q] at e;exact h.get e
def KO (pc:(!cj a || np b) = true) (ha:PE X y (tE X.K cx a)) (hb:PE X z (tE X.K cx b)) (hp:PlainIx z):PE X (.Subscript y z pos) (tE X.K cx (.ix a b)):=by
 refine PE.imp (NQ Mq ha hb hp) λσ H Q h=>?_;obtain ⟨G,F,δ,d,δ',ok,ev,post⟩:=h;simp only [evE,af,ag] at ev;obtain ⟨⟨x,δ1⟩,ea,⟨y',δ2⟩,eb,d',hd,e⟩:=ev;cases e;dsimp only at eb hd post;refine two ok ea eb pc λv u H2 F2 st sm ok2 r1 r2=>?_;unfold ixD at hd;split at hd
 . have e2:=r2.b.int;obtain ⟨p,xs,e1,h1,h2⟩:=r1.b.lst;obtain ⟨w,hw,rw'⟩:=h2.at hd;exact .inl ⟨p,xs,_,w,e1,e2,h1.sq,hw,post _ _ _ st sm ok2 (hZ rw')⟩
 . have e2:=r2.b.int;obtain ⟨p,xs,e1,h1,h2⟩:=r1.b.tup;obtain ⟨w,hw,rw'⟩:=h2.at hd;exact .inr (.inl ⟨p,xs,_,w,e1,e2,h1,hw,post _ _ _ st sm ok2 (hZ rw')⟩)
 . have e2:=r2.b.int;have e1:=r1.b.str;split at hd
   . rename_i hz;rw [bp] at hd;obtain ⟨c,hc,rfl⟩:=hd;exact .inr (.inr ⟨_,_,c,e1,e2,hz,hc,post _ _ _ st sm ok2 (hZ (js _))⟩)
   . cases hd
 . cases hd
def JH (h:∀ e,o = .yes e->∃ y,l = some y/\(!cj e) = true/\PE X y (tE X.K cx e)) (hn:o = .no->l = none):PO X l (tO X.K cx o):=by
 cases o with
 | no =>
   rw [hn rfl];intro pins s σ H Q I q;refine Iu pins s σ H Q I ?_;obtain ⟨G,F,δ,d,δ',ok,ev,post⟩:=q;simp only [evO] at ev;cases ev
   exact post H F Step.refl (λ_=>Sim.refl H) ok
 | yes e =>
   obtain ⟨y,rfl,n,hy⟩:=h e rfl;intro pins s σ H Q I q;refine Ir hy pins s σ H Q I ?_;obtain ⟨G,F,δ,d,δ',ok,ev,post⟩:=q;simp only [evO,af,ag] at ev;obtain ⟨⟨x,δ1⟩,ea,ev⟩:=ev
   cases x with
   | int i =>
     cases ev
     exact ⟨G,F,δ,.int i,δ',ok,ea,λv H1 F1 st1 sm1 ok1 r1=>⟨i,by have:=dP n r1;unfold Rel at this;exact this,post H1 F1 st1 sm1 ok1⟩⟩
   | _=>cases ev
def KL {a:E} {lo hi:Eo} {y:aH} {l h:Option aH} {pos p2:Pos} (pc:(!cj a || (npO lo && npO hi)) = true) (ha:PE X y (tE X.K cx a)) (hl:PO X l (tO X.K cx lo)) (hh:PO X h (tO X.K cx hi)):PE X (.Subscript y (.Slice l h none p2) pos) (tE X.K cx (.sl a lo hi)):=by
 refine PE.imp (wu (zM.or (KS.or KU)) ha hl hh) λσ H Q h=>?_;obtain ⟨G,F,δ,d,δ',ok,ev,post⟩:=h;simp only [evE,af,ag] at ev;obtain ⟨⟨x,δ1⟩,ea,⟨l',δ2⟩,eb,⟨h',δ3⟩,ec,d',hd,e⟩:=ev;cases e;dsimp only at eb ec hd post;refine ⟨G,F,δ,x,δ1,ok,ea,λv H1 F1 st1 sm1 ok1 r1=>⟨G,F1,δ1,l',δ2,ok1,eb,λH2 F2 st2 sm2 ok2=>⟨G,F2,δ2,h',δ3,ok2,ec,λH3 F3 st3 sm3 ok3=>?_⟩⟩⟩;have st:=st2.trans st3
 have rb:dF X.K H3 F3 x v:=by
  refine (RelM.step ok1.fd st (λz=>?_) r1).b;rw [z] at pc;have pc':(npO lo && npO hi) = true:=by simpa using pc
  rw [aa] at pc';exact (sm2 pc'.1).trans (sm3 pc'.2)
 have fin:∀ w H4,ij H3 H4->Ok X.K G F3 σ H4 δ3->Rel X.K H4 F3 d w->Q w H4:=λw H4 s4 o4 r4=>post w H4 F3 ((st1.trans st).trans (Step.of_same s4)) (λz=>by
  have z':(np a && npO lo && npO hi) = true:=z;rw [aa,aa] at z';exact (((sm1 z'.1.1).trans (sm2 z'.1.2)).trans (sm3 z'.2)).trans (.of s4)) o4 (hZ r4)
 unfold slD at hd;split at hd
 . cases hd;obtain ⟨p,xs,e1,h1,h2⟩:=rb.lst;refine .inl ⟨p,xs,e1,h1.sq,λq hq=>?_⟩;obtain ⟨o1,o2,o3,o4⟩:=ok3.laid hq (.lst (rQ xs l' h'));exact fin _ _ (cD hq _) o1 (mn ok3 hq (h2.cut l' h'))
 . split at hd
   . cases hd
   . rename_i hw;cases hd;obtain ⟨p,xs,e1,h1,h2⟩:=rb.tup;refine .inr (.inl ⟨p,xs,e1,h1,by rw [h2.length];exact hw,λq hq=>?_⟩);obtain ⟨o1,o2,o3,o4⟩:=ok3.laid hq (.tup (rQ xs l' h'));exact fin _ _ (cD hq _) o1 (mj ok3 hq (h2.cut l' h'))
 . split at hd
   . cases hd;have e1:=rb.str;subst e1;exact .inr (.inr ⟨_,rfl,‹_›,fin _ _ (λb o e=>e) ok3 (js _)⟩)
   . cases hd
 . cases hd
def spF (K:PySem.W.Frag) (f:List D->Option D):Sp:=λvs H Q _=>∃ F ds d,FD F H/\TF F/\oJ H/\aI K H F ds vs/\f ds = some d/\∀ v H',Sim H H'->oJ H'->Rel K H' F d v->Q v H'
def DN {f:Nat} {es:Es} {x:Str} {y:aH} {ys:List aH} {k:Nat} {a:aw} {fd:fI} {ps:List Str} {p pos:Pos} (n:mw es = true) (fn:nO X.prog X.w X.K X.mg X.base CX0 k a fd ps (spF X.K (cx.call f))) (hr:lQ k X.A) (hg:Gl X x)
 (hm:X.mg x = some (.ref a)) (hk:PySem.W.keepIn X.K (.ref a) = true) (hb:Binds X.K fd ps []) (hA:PA X (y::ys) (tEs X.K cx es)) (hd:(x == ("__debug__":Str)) = false) (he:starEach (y::ys) X.env = (false,eval y X.env)::starEach ys X.env) (hpl:(backTo pos (starEach ys X.env)).any (·.1) = false) :
 PE X (.Call (.Name x p) (y::ys) [] pos) (tE X.K cx (.call f es)):=by
 refine PE.imp (IA fn hr hg hm hk hb .nil (NV) hA hd he hpl) λσ H Q h=>?_;obtain ⟨G,F,δ,d,δ',ok,ev,post⟩:=h;simp only [evE] at ev;obtain ⟨ds,ea,hd⟩:=AG ev;refine ⟨G,F,δ,ds,δ',ok,ea,λvs H1 F1 st1 sm1 ok1 r1=>?_⟩;show spF X.K (cx.call f) (vs++[]) H1 Q E0;rw [cB];exact ⟨F1,ds,d,ok1.fd,ok1.tf,ok1.tabs,r1.rl n,hd,λv H2 s2 t2 r2=>post v H2 F1 (st1.trans (ok1.call s2 t2).2) (λz=>(sm1 z).trans s2) (ok1.call s2 t2).1 (hZ r2)⟩
def pI {e:E} {x:aH} {es:Es} {f:List D->Option D} (hE:PE X x (tE X.K cx e)) (he:∀ whole,isTrue x X.env whole = (do let v <- whole;standAt x.pos;holding [v] (truthy v))) (n:cj e = false)
 (e1:∀ δ,evE cx e δ = (do let (ds,δ1) <- fW cx es δ;return (<- f ds,δ1))) (e2:∀ δ,evT cx e δ = (do let (ds,δ1) <- fW cx es δ;let d <- f ds;return (<- tv d,δ1))):PT X x (tT X.K cx e):=by
 refine PT.imp (qA hE he) λσ H Q h=>?_;obtain ⟨G,F,δ,k,δ',ok,ev,post⟩:=h;rw [e2] at ev;simp only [af,ag] at ev;obtain ⟨⟨ds,δ1⟩,ea,d,hd,k',hk,e⟩:=ev;cases e;refine ⟨G,F,δ,d,δ1,ok,?_,λv H1 F1 st1 sm1 ok1 r1=>⟨k,yk r1.b hk,post H1 F1 st1 sm1 ok1⟩⟩;rw [e1];simp only [af,ag];exact ⟨(ds,δ1),ea,d,hd,rfl⟩
def DO (hE:PE X x (tE X.K cx e)) (he:∀ whole,isTrue x X.env whole = (do let v <- whole;standAt x.pos;holding [v] (truthy v))) (e2:∀ δ k δ',evT cx e δ = some (k,δ')->∃ d,evE cx e δ = some (d,δ')/\tv d = some k):PT X x (tT X.K cx e) :=
 PT.imp (qA hE he) λσ H Q ⟨G,F,δ,k,δ',ok,ev,post⟩=>let ⟨d,e1,e3⟩:=e2 _ _ _ ev;⟨G,F,δ,d,δ',ok,e1,λv H1 F1 st1 sm1 ok1 r1=>⟨k,yk r1.b e3,post H1 F1 st1 sm1 ok1⟩⟩
def rB (K:PySem.W.Frag) (f:List D->Option D):List V->Hp->VK->Prop:=λxs H Q=>∃ F ds d,FD F H/\xF K H F ds xs/\f ds = some d/\∀ v H',ij H H'->Rel K H' F d v->Q v H'
def cz.imp {f:ae} {r r':List V->Hp->VK->Prop} (h:cz X f r) (w:∀ xs H Q,r' xs H Q->r xs H Q):cz X f r':=λpins s σ H xs us Q I rv q=>h pins s σ H xs us Q I rv (w _ _ _ q)
def b1 (h:xF K H F [d] xs):∃ v,xs = [v]/\dF K H F d v:=by
 obtain ⟨v,vs,rfl,h1,h2⟩:=h;cases h2;exact ⟨v,rfl,h1⟩
def b2 (h:xF K H F [d,e] xs):∃ v u,xs = [v,u]/\dF K H F d v/\dF K H F e u:=by
 obtain ⟨v,vs,rfl,h1,u,us,rfl,h2,h3⟩:=h;cases h3;exact ⟨v,u,rfl,h1,h2⟩
def sN (fd:FD F H) (hp:H p = none):¬ F p:=fd.none hp
def MI:cz X (.builtin "len") (rB X.K IY):=by
 refine cz.imp (ve.or vd) λxs H Q zz=>?_;obtain ⟨F,ds,d,fd,r,e,q⟩:=zz;unfold IY at e;split at e
 . split at e
   . cases e;obtain ⟨v,rfl,rv⟩:=b1 r;exact .inr ⟨_,by rw [rv.str],‹_›,q _ _ (ij.refl H) (cR _)⟩
   . cases e
 . cases e;obtain ⟨v,rfl,rv⟩:=b1 r;obtain ⟨a,ys,rfl,h1,h2⟩:=rv.lst;exact .inl ⟨a,ys,rfl,.inl h1.sq,by rw [h2.length];exact q _ _ (ij.refl H) (cR _)⟩
 . cases e;obtain ⟨v,rfl,rv⟩:=b1 r;obtain ⟨a,ys,rfl,h1,h2⟩:=rv.tup;exact .inl ⟨a,ys,rfl,.inr h1,by rw [h2.length];exact q _ _ (ij.refl H) (cR _)⟩
 . cases e
def MF (hc:X.calm = true) (hu:X.A.units+200 < cLine):cz X (.builtin "min") (rB X.K minD):=by
 refine cz.imp ((Cn hc).or (Cm hc hu)) λxs H Q zz=>?_;obtain ⟨F,ds,d,fd,r,e,q⟩:=zz;unfold minD at e;split at e
 . cases e;obtain ⟨v,u,rfl,r1,r2⟩:=b2 r;exact .inl ⟨_,_,by rw [r1.int,r2.int],q _ _ (ij.refl H) (cR _)⟩
 . split at e
   . rename_i z;cases e;obtain ⟨v,rfl,r1⟩:=b1 r;exact .inr ⟨F,_,v,rfl,r1,z.1,z.2,λy ry=>q _ _ (ij.refl H) ry⟩
   . cases e
 . cases e
def Cr:cz X (.type "int") (λxs H Q=>∃ x n,xs = [.str x]/\PySem.intText? x = some n/\x.length<=640/\Q (.int n) H):=by
 intro pins s σ H xs us Q I rv h;obtain ⟨x,n,rfl,h1,h2,q⟩:=h;obtain ⟨u,rfl,ru⟩:=rv.one;obtain ⟨t,rfl⟩:=ru;exact PySem.W.KIN.call_text h1 h2 ⟨.int n,H,I.tok _,⟨_,rfl⟩,q⟩
def MJ:cz X (.type "int") (rB X.K tV):=by
 refine cz.imp (Cs.or Cr) λxs H Q zz=>?_;obtain ⟨F,ds,d,fd,r,e,q⟩:=zz;unfold tV at e;split at e
 . cases e;obtain ⟨v,rfl,r1⟩:=b1 r;exact .inl (.inl ⟨_,by rw [r1.int],q _ _ (ij.refl H) (cR _)⟩)
 . cases e;obtain ⟨v,rfl,r1⟩:=b1 r;exact .inl (.inr ⟨_,by rw [r1.bl],q _ _ (ij.refl H) (cR _)⟩)
 . split at e
   . rw [bp] at e;obtain ⟨n,e1,rfl⟩:=e;obtain ⟨v,rfl,r1⟩:=b1 r;exact .inr ⟨_,n,by rw [r1.str],e1,‹_›,q _ _ (ij.refl H) (cR _)⟩
   . cases e
 . cases e
def vP (h:ij H H'):Step g0 F H F H':=Step.of_same h
def MD:cz X (.type "tuple") (rB X.K tU):=by
 refine cz.imp rS λxs H Q zz=>?_;obtain ⟨F,ds,d,fd,r,e,q⟩:=zz;unfold tU at e;split at e
 . cases e;obtain ⟨v,rfl,r1⟩:=b1 r;obtain ⟨a,ys,rfl,h1,h2⟩:=r1.lst;refine ⟨a,ys,rfl,.inl ⟨h1.sq,λl hl=>q _ _ (cD hl _) ?_⟩⟩;unfold Rel;exact ⟨l,ys,rfl,SqT.of cy,aI.step fd (vP (cD hl _)) _ _ h2⟩
 . cases e;obtain ⟨v,rfl,r1⟩:=b1 r;obtain ⟨a,ys,rfl,h1,h2⟩:=r1.tup;refine ⟨a,ys,rfl,.inr ⟨h1,q _ _ (ij.refl H) ?_⟩⟩;unfold Rel;exact ⟨a,ys,rfl,h1,h2⟩
 . cases e
def MH:cz X (.type "list") (rB X.K og):=by
 refine cz.imp nJ λxs H Q zz=>?_;obtain ⟨F,ds,d,fd,r,e,q⟩:=zz;unfold og at e;split at e
 . cases e;obtain ⟨v,rfl,r1⟩:=b1 r;obtain ⟨a,ys,rfl,h1,h2⟩:=r1.lst;refine ⟨a,ys,rfl,.inl h1.sq,λl hl=>q _ _ (cD hl _) ?_⟩;unfold Rel;exact ⟨l,ys,rfl,.inl ⟨.inl cy,sN fd hl⟩,aI.step fd (vP (cD hl _)) _ _ h2⟩
 . cases e;obtain ⟨v,rfl,r1⟩:=b1 r;obtain ⟨a,ys,rfl,h1,h2⟩:=r1.tup;refine ⟨a,ys,rfl,.inr h1,λl hl=>q _ _ (cD hl _) ?_⟩;unfold Rel;exact ⟨l,ys,rfl,.inl ⟨.inl cy,sN fd hl⟩,aI.step fd (vP (cD hl _)) _ _ h2⟩
 . cases e
def oA:∀ {ds:List D} {ns:List Int} {xs:List V},sS ds = some ns->aI K H F ds xs->xs = ns.map V.int
 | [],ns,xs,e,r=>by cases e;unfold aI at r;exact r
 | d::ds,ns,xs,e,r=>by
   unfold aI at r;obtain ⟨y,ys,rfl,h1,h2⟩:=r
   cases d with
   | int i =>
     unfold sS at e;rw [bp] at e;obtain ⟨ms,e,rfl⟩:=e;unfold Rel at h1
     rw [h1,oA e h2,aJ]
   | _=>cases e
def MG (hc:X.calm = true):cz X (.builtin "max") (rB X.K maxD):=by
 intro pins s σ H xs us Q I rv ⟨F,ds,d,fd,r,e,q⟩;unfold maxD at e;split at e
 . cases e;obtain ⟨v,u,rfl,r1,r2⟩:=b2 r;exact Cq hc pins s σ H _ us Q I rv ⟨_,_,by rw [r1.int,r2.int],q _ _ (ij.refl H) (cR _)⟩
 . rw [ag] at e;obtain ⟨ns,e,e'⟩:=e;split at e'
   . cases e'
   . rename_i hne;cases e';obtain ⟨v,rfl,r1⟩:=b1 r;obtain ⟨a,ys,rfl,h1,h2⟩:=r1.lst;rw [oA e h2] at h1;exact Co hc pins s σ H _ us Q I rv ⟨a,ns,rfl,hne,h1.sq,q _ _ (ij.refl H) (cR _)⟩
 . cases e
def rm:∀ {ds:List D} {ns:List Bool} {xs:List V},mH ds = some ns->aI K H F ds xs->xs = ns.map V.bl
 | [],ns,xs,e,r=>by cases e;unfold aI at r;exact r
 | d::ds,ns,xs,e,r=>by
   unfold aI at r;obtain ⟨y,ys,rfl,h1,h2⟩:=r
   cases d with
   | bl i =>
     unfold mH at e;rw [bp] at e;obtain ⟨ms,e,rfl⟩:=e;unfold Rel at h1
     rw [h1,rm e h2,aJ]
   | _=>cases e
def ML (hc:X.calm = true):cz X (.builtin "any") (rB X.K Jv):=by
 refine cz.imp (Ct hc) λxs H Q zz=>?_;obtain ⟨F,ds,d,fd,r,e,q⟩:=zz;unfold Jv at e;split at e
 . rw [bp] at e;obtain ⟨ns,e,rfl⟩:=e;obtain ⟨v,rfl,r1⟩:=b1 r;obtain ⟨a,ys,rfl,h1,h2⟩:=r1.lst;rw [rm e h2] at h1;exact ⟨a,ns,rfl,h1.sq,q _ _ (ij.refl H) (kO _)⟩
 . cases e
def ME (hc:X.calm = true):cz X (.builtin "sum") (rB X.K DG):=by
 refine cz.imp (Cj hc) λxs H Q zz=>?_;obtain ⟨F,ds,d,fd,r,e,q⟩:=zz;unfold DG at e;split at e
 . rw [bp] at e;obtain ⟨ns,e,rfl⟩:=e;obtain ⟨v,rfl,r1⟩:=b1 r;obtain ⟨a,ys,rfl,h1,h2⟩:=r1.lst;rw [oA e h2] at h1;exact ⟨a,ns,rfl,h1.sq,q _ _ (ij.refl H) (cR _)⟩
 . cases e
def Gm (hu:X.A.units+200 < cLine):cz X (.builtin "sorted") (rB X.K tX):=by
 refine cz.imp (va hu) λxs H Q zz=>?_;obtain ⟨F,ds,d,fd,r,e,q⟩:=zz;unfold tX at e;split at e
 . split at e
   . rename_i zs hs;cases e;obtain ⟨v,rfl,r1⟩:=b1 r;refine ⟨F,zs,v,rfl,r1,Ju hs,λp ys hp ry=>q _ _ (cD hp _) ?_⟩;unfold Rel;exact ⟨p,ys,rfl,.inl ⟨.inl cy,sN fd hp⟩,aI.step fd (vP (cD hp _)) _ _ ry⟩
   . cases e
 . cases e
def ir {f:Blt} {es:Es} {x:Str} {p pos:Pos} {xs:List aH} (g:List D->Option D) (hg:kF f = g) (h:PE X (.Call (.Name x p) xs [] pos) (tCB (rB X.K g) (tEs X.K cx es))):PE X (.Call (.Name x p) xs [] pos) (tE X.K cx (.blt f es)):=by
 subst hg;refine PE.imp h λσ H Q h=>?_;obtain ⟨G,F,δ,d,δ',ok,ev,post⟩:=h;simp only [evE] at ev;obtain ⟨ds,ea,hd⟩:=AG ev;refine ⟨G,F,δ,ds,δ',ok,ea,λvs H1 F1 st1 sm1 ok1 r1=>?_⟩;exact ⟨F1,ds,d,ok1.fd,r1.bl,hd,λv H2 s2 r2=>post v H2 F1 (st1.trans (Step.of_same s2)) (λz=>(sm1 z).trans (.of s2)) (ok1.same' s2) (hZ r2)⟩
end
end PP
end
section
namespace HT
open PySem PySem.Spec PyProof.Rows
section
variable {prog:aS} {w:bD} {A:aW} {E:ae->ai->Prop} {s:ai}
end
end HT
namespace L2
open PySem PySem.Spec PyProof.Rows
section
variable {X:Cx} {e:aH} {st:Option aH} {te:TE} {ts:TO} {pos p2:Pos}
end
end L2
namespace PP
open PySem L2 PyProof.Rows
variable [Tbs]
section
variable {K:PySem.W.Frag} {cx:Cl} {X:Cx}
end
end PP
end
section
namespace PP
open PySem L2 PyProof.Rows
variable [Tbs]
section
variable {K:PySem.W.Frag} {cx:Cl} {X:Cx}
def KP (hT:tyName f = some T) (ht:t = (T:Str)) (hg:Gl X "isinstance") (hm:X.mg "isinstance" = none) (hgt:Gl X t) (hmt:X.mg t = none) (hy:PE X y (tE X.K cx e)) (hs:starEach [y,.Name t tp] X.env = [(false,eval y X.env),(false,eval (.Name t tp) X.env)]) :
 PE X (.Call (.Name "isinstance" p) [y,.Name t tp] [] pos) (tE X.K cx (.blt f (.cons e .nil))):=by
 have hb:bootBuiltins t = some (.type T):=by
  subst ht;cases f<;>simp [tyName] at hT<;>subst hT<;>rfl
 have hn:t≠"__name__":=by
  subst ht;cases f<;>simp [tyName] at hT<;>subst hT<;>decide
 have hdb:(t == ("__debug__":Str)) = false:=by
  subst ht;cases f<;>simp [tyName] at hT<;>subst hT<;>decide
 have hA:PA X [y,.Name t tp] (zE (tE X.K cx e) (zE (tC (.ty T)) KD)):=jt hy (jt (IB hgt hmt hb rfl hn hdb) ot rfl) hs;refine PE.imp (gC (Gp hT) hg hm rfl hA ⇑0 ⇑0 hs rfl) λσ H Q h=>?_;obtain ⟨G,F,δ,d,δ',ok,ev,post⟩:=h;simp only [evE] at ev;obtain ⟨ds,ea,hd⟩:=AG ev;simp only [fW,af,ag] at ea;obtain ⟨⟨x,δ1⟩,ea,⟨ds',δ2⟩,eb,e2⟩:=ea;cases eb;cases e2
 obtain ⟨b,rfl⟩:∃ b,d = .bl b:=by
  cases f<;>simp [tyName] at hT<;>(cases x<;>simp [kF,kf] at hd<;>exact ⟨_,hd.symm⟩)
 refine ⟨G,F,δ,x,δ1,ok,ea,λv H1 F1 st1 sm1 ok1 r1=>?_⟩;exact ⟨F1,x,v,b,r1.b,rfl,hd,post _ H1 F1 st1 (λz=>sm1 (by have z':(np e && true) = true:=z;simpa using z')) ok1 (hZ (kO b))⟩
def aI.erase:∀ {ds:List D} {xs:List V} (n:Nat),aI K H F ds xs->aI K H F (ds.eraseIdx n) (xs.eraseIdx n)
 | [],xs,n,h=>by unfold aI at h;subst h;exact aI.nil
 | e::ds,xs,0,h=>by
   unfold aI at h;obtain ⟨y,ys,q,h1,h2⟩:=h;subst q
   exact h2
 | e::ds,xs,n+1,h=>by
   unfold aI at h;obtain ⟨y,ys,q,h1,h2⟩:=h;subst q;exact aI.cons h1 (aI.erase n h2)
def Ld:V->List V->Hp->VK->Prop:=λx vs H Q=>∃ t:Str,x = .str t/\vs = []/\Q (.bl (decide (t.length > 0) && t.cps.all pE)) H
def Fb:MtR X "str.isdigit" Ld:=by
 intro pins s σ H x xs v us Q I rx rv h;obtain ⟨y,rfl,rfl,q⟩:=h;obtain ⟨t,rfl⟩:=rx;cases rv;exact call_gives F.slot_str_isdigit (zh s y t) F.entry_str_isdigit (F.args_str_isdigit_1 _) (gives_str_isdigit y t) ⟨.bl _,H,I,rfl,q⟩
def By (hN:X.N[i]? = some x) (hv:Vis X.env.scope x) (hd:(x == ("__debug__":Str)) = false) (hcd:(x == ("__classdict__":Str)) = false) (hl:ap.endLine = cp.line) :
 PE X (.Call (.Attribute (.Name x pos) "isdigit" ap) [] [] cp) (tE X.K cx (.isdig i)):=by
 refine PE.imp (Ly PySem.F.plainAttrs_str PySem.F.slot_str_isdigit PySem.F.type_str_isdigit Fb (mv hN hv hd hcd) rfl (by simpa using hl)) λσ H Q h=>?_;obtain ⟨G,F,δ,d,δ',ok,ev,post⟩:=h;simp only [evE,af,ag] at ev;obtain ⟨z,e1,ev⟩:=ev
 cases z with
 | str y =>
   cases ev;unfold PP.get at e1;split at e1
   . rename_i d0 q0;cases e1;obtain ⟨v,e2,r⟩:=ok.sl i _ q0;unfold Rel at r;subst r;exact ⟨_,e2,rfl,y,rfl,rfl,post _ H F Step.refl (λ_=>Sim.refl H) ok (hZ (kO _))⟩
   . cases e1
   . cases e1
 | _=>cases ev
def Hl (fd:FD F H) (h1:Ls K H F a xs) (h3:aI K H F ds xs):Wk K G F H (Itl K a) ds:=by
 intro F2 H2 st fd2 i;have h4:=(h1.step st).sq;have h5:=aI.step fd st ds xs h3;refine ⟨λd e=>?_,λe=>⟨xs,h4,by rw [h5.length];lia⟩⟩;obtain ⟨v,hv,rv⟩:=h5.get e;refine ⟨⟨xs,v,h4,hv⟩,λx H3 y=>?_⟩;obtain ⟨rfl,y⟩:=y;refine ⟨λ_ _ e=>e,?_⟩;have:=y xs h4;rw [hv] at this;cases this;exact rv
def Ka (fd:FD F H) (h1:SqT K H a xs) (h3:aI K H F ds xs):Wk K G F H (Itt K a) ds:=by
 intro F2 H2 st fd2 i;have h4:=vR fd st.keep h1;have h5:=aI.step fd st ds xs h3;refine ⟨λd e=>?_,λe=>⟨xs,h4,by rw [h5.length];lia⟩⟩;obtain ⟨v,hv,rv⟩:=h5.get e;refine ⟨⟨xs,v,h4,hv⟩,λx H3 y=>?_⟩;obtain ⟨rfl,y⟩:=y;refine ⟨λ_ _ e=>e,?_⟩;have:=y xs h4;rw [hv] at this;cases this;exact rv
def Kb:Wk K G F H (Its x) (x.cps.toList.map λc=>D.str ⟨#[c]⟩):=by
 intro F2 H2 st fd2 i;refine ⟨λd e=>?_,λe=>by show i = x.cps.size;simpa using e⟩;rw [cW,bp] at e;obtain ⟨c,hc,rfl⟩:=e;have hc':x.cps[i]? = some c:=by simpa using hc
 refine ⟨(Array.getElem?_eq_some_iff.mp hc').1,λv H3 y=>?_⟩;obtain ⟨rfl,c',h1,h2⟩:=y;refine ⟨λ_ _ e=>e,?_⟩;rw [hc'] at h1;cases h1;rw [h2];exact js _
def CO {G:Gh} {H:Hp} {F:aw->Prop} {lo:Int} {n:Nat}:Wk K G F H (Itr lo n) (pB lo n):=by
 intro F2 H2 st fd2 i;unfold pB;refine ⟨λd e=>?_,λe=>by rw [e];simp;exact ao n⟩;rw [cW,bp] at e;obtain ⟨c,hc,rfl⟩:=e;have hl:i < n:=by have:=(aC.mp hc).1;simpa using this
 rw [List.getElem?_range hl] at hc;cases hc;refine ⟨hl,λv H3 y=>?_⟩;obtain ⟨rfl,h2⟩:=y;exact ⟨λ_ _ e=>e,by rw [h2];exact cR _⟩
def Ph (K:PySem.W.Frag) (tl:TE):TI:=λσ H R=>tl σ H λv H1=>(∃ a,v = .ref a/\(∃ xs,SqL K H1 a xs)/\R (Itl K a) H1)\/(∃ a,v = .ref a/\(∃ xs,SqT K H1 a xs)/\R (Itt K a) H1)\/∃ x,v = .str x/\R (Its x) H1
def Ln (hl:PE X l tl):PI X tg l (Ph X.K tl):=by
 intro pins s σ H R I h
 have key:∀ {v:ae} {s1:ai} {x:V} {H1:Hp},Inv X pins σ H1 s1->RelV x v->((∃ a,x = .ref a/\(∃ xs,SqL X.K H1 a xs)/\R (Itl X.K a) H1)\/(∃ a,x = .ref a/\(∃ xs,SqT X.K H1 a xs)/\R (Itt X.K a) H1)\/∃ y,x = .str y/\R (Its y) H1) ->
  wpAny (model X.prog X.w) X.A (pyIter v) (PIE X pins σ tg R) X.xe s1:=by
  intro v s1 x H1 I1 r1 q1;rcases q1 with ⟨a,rfl,⟨xs,hq⟩,q⟩ | ⟨a,rfl,⟨xs,hq⟩,q⟩ | ⟨z,rfl,q⟩
  . cases r1;obtain ⟨its,rv,p,hz⟩:=I1.list hq;refine fO p.isList ?_;refine ⟨s1.heap.objs.size,[s1.heap.objs.size],_,_,H1,rfl,I1.kept (t':=s1.toks) λb o e=>ah _ e,Bt a _,⟨_,aF _ rfl,rfl,rfl⟩,λb hb=>?_,q⟩;have e:b = s1.heap.objs.size:=by simpa using hb
    subst e;exact I1.fpOk (ao _) (I1.hok.fresh (ao _))
  . cases r1;obtain ⟨its,rv,p,hz⟩:=I1.tuple hq;refine MV (show s1.heap.IsTuple a its.toArray from p) ?_;refine ⟨s1.heap.objs.size,[s1.heap.objs.size],_,_,H1,rfl,I1.kept (t':=s1.toks) λb o e=>ah _ e,yg a _,⟨_,aF _ rfl,rfl,rfl⟩,λb hb=>?_,q⟩;have e:b = s1.heap.objs.size:=by simpa using hb
    subst e;exact I1.fpOk (ao _) (I1.hok.fresh (ao _))
  . obtain ⟨t,rfl⟩:=r1;refine wpAny_pyIter_strU ?_;refine ⟨s1.heap.objs.size,[s1.heap.objs.size],_,_,H1,rfl,I1.kept (t':=s1.toks) λb o e=>ah _ e,DB s1.heap.objs.size z t,⟨_,aF _ rfl,rfl,rfl⟩,λb hb=>?_,q⟩;have e:b = s1.heap.objs.size:=by simpa using hb
    subst e;exact I1.fpOk (ao _) (I1.hok.fresh (ao _))
 exact thn (hl pins s σ H _ I h) λv s1 ⟨x,H1,I1,r1,q1⟩=>key I1 r1 q1
def PI.imp (h:PI X tg l t) (w:∀ σ H R,t' σ H R->t σ H R):PI X tg l t':=λpins s σ H R I q=>h pins s σ H R I (w σ H R q)
def KJ (n:(!cj e) = true) (hl:PE X l (tE X.K cx e)):PI X tg l (tI X.K cx (.sq e)):=by
 refine PI.imp (Ln hl) λσ H R h=>?_;obtain ⟨G,F,δ,ds,δ',ok,ev,post⟩:=h;simp only [evI,af,ag] at ev;obtain ⟨⟨d,δ1⟩,ea,ds',hd,e2⟩:=ev;cases e2;dsimp only at hd post;refine ⟨G,F,δ,d,δ1,ok,ea,λv H1 F1 st1 sm1 ok1 r1=>?_⟩;have r:=dP n r1;unfold items at hd;split at hd
 . cases hd;unfold Rel at r;obtain ⟨a,xs,e1,h1,h3⟩:=r;exact .inl ⟨a,e1,⟨xs,h1.sq⟩,post _ _ _ st1 sm1 ok1 (λ_=>Hl ok1.fd h1 h3)⟩
 . cases hd;unfold Rel at r;obtain ⟨a,xs,e1,h1,h3⟩:=r;exact .inr (.inl ⟨a,e1,⟨xs,h1⟩,post _ _ _ st1 sm1 ok1 (λ_=>Ka ok1.fd h1 h3)⟩)
 . split at hd
   . cases hd;unfold Rel at r;exact .inr (.inr ⟨_,r,post _ _ _ st1 sm1 ok1 λ_=>Kb⟩)
   . cases hd
 . cases hd
def HH (n:(!cj e) = true) (hg:Gl X "range") (hm:X.mg "range" = none) (hy:PE X y (tE X.K cx e)) (hs:starEach [y] X.env = [(false,eval y X.env)]):PI X tg (.Call (.Name "range" p) [y] [] pos) (tI X.K cx (.rng e)):=by
 refine PI.imp (BH hg hm (jt hy ot hs) hs) λσ H R h=>?_;obtain ⟨G,F,δ,ds,δ',ok,ev,post⟩:=h;simp only [evI,af,ag] at ev;obtain ⟨⟨d,δ1⟩,ea,ev⟩:=ev
 cases d with
 | int j =>
   dsimp only at ev;split at ev
   . rename_i hj;cases ev;refine ⟨G,F,δ,.int j,_,ok,ea,λv H1 F1 st1 sm1 ok1 r1=>?_⟩;have r:=dP n r1;unfold Rel at r;subst r;exact ⟨j,rfl,hj.1,hj.2,post _ _ _ st1 sm1 ok1 λ_=>CO⟩
   . cases ev
 | _=>cases ev
def DJ (na:(!cj a) = true) (nb:(!cj b) = true) (hg:Gl X "range") (hm:X.mg "range" = none) (hy:PE X y (tE X.K cx a)) (hz:PE X z (tE X.K cx b)) (hs:starEach [y,z] X.env = [(false,eval y X.env),(false,eval z X.env)]) (hs2:starEach [z] X.env = [(false,eval z X.env)]) :
 PI X tg (.Call (.Name "range" p) [y,z] [] pos) (tI X.K cx (.rng2 a b)):=by
 refine PI.imp (BG hg hm (jt hy (jt hz ot hs2) (by rw [hs,hs2])) hs hs2) λσ H R h=>?_;obtain ⟨G,F,δ,ds,δ',ok,ev,post⟩:=h;simp only [evI,af,ag] at ev;obtain ⟨⟨d,δ1⟩,ea,ev⟩:=ev
 cases d with
 | int i =>
   simp only [af,ag] at ev;obtain ⟨⟨d2,δ2⟩,eb,ev⟩:=ev
   cases d2 with
   | int j =>
     dsimp only at ev;split at ev
     . rename_i hj;cases ev;have pc:(!cj a || np b) = true:=by rw [na];rfl
       refine two ok ea eb pc λv u H2 F2 st sm ok2 r1 r2=>?_;have e1:=dP na r1;have e2:=dP nb r2;unfold Rel at e1 e2;subst e1;subst e2;exact ⟨i,j,rfl,hj,post _ _ _ st sm ok2 λ_=>CO⟩
     . cases ev
   | _=>cases ev
 | _=>cases ev
end
section
variable {X:Cx} {cx:Cl}
def Itv (K:PySem.W.Frag) (a:aw) (n:Nat):L2.It :=
 ⟨λi H=>∃ xs x,SqL K H a xs/\xs.length = n/\xs.reverse[i]? = some x,λi H x H'=>H' = H/\∀ xs,SqL K H a xs->xs.reverse[i]? = some x,λi _=>i = n⟩
def DC {P:aS} {w:bD} {K:PySem.W.Frag} {tg:aH} (a it:aw) (n:Nat):Turn P w K tg (Itv K a n) [it] it (λi h=>i<=n/\h.IsRevIter it a ((n:Int) - 1 - (i:Int))) where
 mem:=by simp
 obj:=λi h st b hb=>by
  have e:b = it:=by simpa using hb
  subst e;obtain ⟨_,o,e,c,d⟩:=st;exact ⟨o,e,λv z=>by rw [d] at z;cases z⟩
 keep:=λi h h' st k=>⟨st.1,st.2.at λo e=>k it ↥0 o e⟩
 item:=by
  intro X hP hw hK hc i pins s σ H E I hf st hg;subst hP hw hK;obtain ⟨xs,x,hq,hn,hx⟩:=hg;obtain ⟨its,rv,p,hz⟩:=I.list hq
  have hi:i < xs.length:=by
   have:=(aC.mp hx).1;simpa using this
  have hx':xs[xs.length - 1 - i]? = some x:=by rw [<- lN hi];exact hx
  obtain ⟨u,hu,ru⟩:=rv.get hx';obtain ⟨f0,f1,f2,f3,f4,f5⟩:=hf it ↥0;have ei:(n:Int) - 1 - (i:Int) = ((xs.length - 1 - i:Nat):Int):=by lia
  have st2:=st.2;rw [ei] at st2;refine wpAny_pyNext_rev_item st2 p.isList (x:=u) (by simpa using hu) λh' st' sb=>?_;have I1:Inv X pins σ H { s with heap:=h' }:=I.turned (t':=s.toks) (λb o hb e=>(sb.2 b hb).trans e) f0 f1 f3 f4 f5;obtain ⟨o,e,c,d⟩:=id st';have e2:((xs.length - 1 - i:Nat):Int) - 1 = (n:Int) - 1 - ((i+1:Nat):Int):=by lia
  rw [e2] at st';exact ⟨u,rfl,wY (s:={ s with heap:=h' }) e c d ⇑0 ⟨x,H,I1,ru,⟨rfl,λys hy=>by rw [I.list_inj hy hq];exact hx⟩,⟨∅,st'⟩,λb hb=>(hf b hb).1⟩⟩
 done:=by
  intro X hP hw hK hc i pins s σ H E I hf st hg;subst hP hw hK;have hg:i = n:=hg;subst hg;obtain ⟨f0,f1,f2,f3,f4,f5⟩:=hf it ↥0;have st2:=st.2;rw [show (i:Int) - 1 - (i:Int) = -1 by lia] at st2;exact wpAny_pyNext_rev_end (I.ok.hd hc) st2 λh' eb=>⟨rfl,I.turned (t':=s.toks) (λb o hb e=>eb b o hb e) f0 f1 f3 f4 f5⟩
 self:=λ_ _ _ _ _ st h=>Jx st.2 h
def Pg (K:PySem.W.Frag) (ta:TA):TI:=λσ H R=>ta σ H λvs H1=>∃ a xs,vs = [.ref a]/\SqL K H1 a xs/\R (Itv K a xs.length) H1
def Lm {tg a:aH} {ta:TA} {p pos:Pos} (hg:Gl X "reversed") (hm:X.mg "reversed" = none) (ha:PA X [a] ta) (hs:starEach [a] X.env = [(false,eval a X.env)]):PI X tg (.Call (.Name "reversed" p) [a] [] pos) (Pg X.K ta):=by
 intro pins s σ H R I h;refine Call_ (mC I hg hm boot_reversed (dB (thn (ha pos pins s σ H _ I h) λus s1 ⟨vs,H1,I1,r1,q1⟩=>?_) hs rfl));obtain ⟨a,xs,e,hq,q⟩:=q1;subst e;obtain ⟨u,rfl,ru⟩:=r1.one;cases ru;obtain ⟨its,rv,p,hz⟩:=I1.list hq;refine call_reversed_list p.isList ?_;have hl:=rv.length;have I2:=I1.kept (h':=s1.heap.push (revObj a ((its.toArray.size:Int) - 1))) (t':=s1.toks) λb o e=>ah _ e;refine Jx (it:=s1.heap.objs.size) (l:=a) (i:=(its.toArray.size:Int) - 1) ⟨_,aF _ rfl,rfl,rfl⟩ ?_;refine ⟨s1.heap.objs.size,[s1.heap.objs.size],_,_,H1,rfl,I2,DC a _ xs.length,⟨bO _,?_⟩,λb hb=>?_,q⟩
 . have e:(xs.length:Int) - 1 - ((0:Nat):Int) = (its.toArray.size:Int) - 1:=by simp;lia
   rw [e];exact ⟨_,aF _ rfl,rfl,rfl⟩
 . have e:b = s1.heap.objs.size:=by simpa using hb
   subst e;exact I1.fpOk (ao _) (I1.hok.fresh (ao _))
def Kc {K:PySem.W.Frag} {G:Gh} {H:Hp} {F:aw->Prop} {a:aw} {xs:List V} {ds:List D} (fd:FD F H) (h1:Ls K H F a xs) (h3:aI K H F ds xs):Wk K G F H (Itv K a xs.length) ds.reverse:=by
 intro F2 H2 st fd2 i;have h4:=(h1.step st).sq;have h5:=aI.step fd st ds xs h3;have hl:=h5.length;refine ⟨λd e=>?_,λe=>by show i = xs.length;rw [CA] at e;lia⟩
 have hi:i < ds.length:=by
  have:=(aC.mp e).1;simpa using this
 rw [lN hi] at e;obtain ⟨v,hv,rv⟩:=h5.get e;have hv':xs.reverse[i]? = some v:=by rw [lN ∅,hl];exact hv
 refine ⟨⟨xs,v,h4,rfl,hv'⟩,λx H3 y=>?_⟩;obtain ⟨rfl,y⟩:=y;refine ⟨λ_ _ e=>e,?_⟩;have:=y xs h4;rw [hv'] at this;cases this;exact rv
def HI (n:(!cj e) = true) (hg:Gl X "reversed") (hm:X.mg "reversed" = none) (hy:PE X y (tE X.K cx e)) (hs:starEach [y] X.env = [(false,eval y X.env)]):PI X tg (.Call (.Name "reversed" p) [y] [] pos) (tI X.K cx (.rev e)):=by
 refine PI.imp (Lm hg hm (jt hy ot hs) hs) λσ H R h=>?_;obtain ⟨G,F,δ,ds,δ',ok,ev,post⟩:=h;simp only [evI,af,ag] at ev;obtain ⟨⟨d,δ1⟩,ea,ev⟩:=ev
 cases d with
 | lst ds =>
   cases ev;refine ⟨G,F,δ,.lst ds,_,ok,ea,λv H1 F1 st1 sm1 ok1 r1=>?_⟩;have r:=dP n r1;unfold Rel at r;obtain ⟨a,xs,e1,h1,h3⟩:=r;subst e1
   exact ⟨a,xs,rfl,h1.sq,post _ _ _ st1 sm1 ok1 λ_=>Kc ok1.fd h1 h3⟩
 | _=>cases ev
end
end PP
end
section
namespace PP
open PySem L2 PyProof.Rows Builtin.Str
variable [Tbs]
section
variable {X:Cx} {cx:Cl}
end
end PP
end
section
namespace PP
open PySem L2 PyProof.Rows
variable [Tbs]
section
variable {X:Cx} {cx:Cl}
def GdK (w:bD) (K:PySem.W.Frag) (a:aw) (D:List (Str × Int)):Prop :=
 KTD.tabLook KTD.flatLooks (λb=>K.lookup b) a (D.map λp=>(p.1,PyData.int p.2)) = true/\(D.map (·.1)).Nodup/\KTD.hashesOf (λb=>K.lookup b) a = D.map λp=>hashStr w p.1
end
def spO (K:PySem.W.Frag) (f:List D->Option D):Sp:=λvs H Q _=>∃ F ds zs,FD F H/\TF F/\oJ H/\aI K H F ds vs/\f ds = some zs/\∀ a u H',Sim H H'->oJ H'->H a = none->H' a = some u->gL K H' (λb=>F b\/b = a) zs u->Q (.ref a) H'
structure Cok (X:Cx) (c:Ck) (cx:Cl) (k:Nat):Prop where
 hN:X.N = c.N
 nd:c.N.Nodup
 vis:∀ x,Vis c.sc x->Vis X.env.scope x
 gl:∀ x,c.sc.names.lookup x = some .globalImplicit->Gl X x
 st:∀ x,L2.Loc c.sc x->L2.Loc X.env.scope x/\(X.fn x = true\/X.env.scope.names.lookup x = some .local)
 kc:∀ x,(c.sc.names.lookup x = some .cell\/c.sc.names.lookup x = some .free)->X.env.kindOf x = some .cell\/X.env.kindOf x = some .free
 calm:X.calm = true
 xe:X.xe = λ_ _=>False
 room:lQ k X.A
 fns:∀ (f:Nat) (x:Str) (ps:List Str),c.fns[f]? = some (x,ps)->∃ a fd,X.mg x = some (.ref a)/\PySem.W.keepIn X.K (.ref a) = true/\Binds X.K fd ps []/\nO X.prog X.w X.K X.mg X.base CX0 k a fd ps (spF X.K (cx.call f))
 fnO:∀ (f:Nat) (x:Str) (ps:List Str),c.fns[f]? = some (x,ps)->∃ a fd,X.mg x = some (.ref a)/\PySem.W.keepIn X.K (.ref a) = true/\Binds X.K fd ps []/\nO X.prog X.w X.K X.mg X.base CX0 k a fd ps (spO X.K (cx.call (f+uj)))
 fnD:∀ (f:Nat) (x:Str) (ps:List Str),c.fns[f]? = some (x,ps)->f∈Tbs.dfs->∃ a fd,X.mg x = some (.ref a)/\PySem.W.keepIn X.K (.ref a) = true/\Binds X.K fd ps [.none]/\nO X.prog X.w X.K X.mg X.base CX0 k a fd ps (spF X.K (cx.call f))
 blt:∀ x,x∈jO->X.mg x = none
 glob:∀ (g:Nat) (x:Str) (d:D),c.gn[g]? = some x->cx.gl[g]? = some d->∃ u v,X.mg x = some u/\RelV v u/\∀ H F,Rel X.K H F d v
 gsome:∀ (g:Nat) (x:Str),c.gn[g]? = some x->∃ d,cx.gl[g]? = some d
 gds:∀ (n:Str) (l:List (Str × Int)),Tbs.gds.lookup n = some l->∃ a,X.mg n = some (.ref a)/\GdK X.w X.K a l
 pos:k = 0->∀ f ds,cx.call f ds = none
def Dy (h:Bq sc x = true):Vis sc x:=by
 unfold Bq at h;split at h
 . exact .inl ‹_›
 . exact .inr (.inl ‹_›)
 . exact .inr (.inr ‹_›)
 . cases h
def Ft (h:Mj sc x = true):L2.Loc sc x:=by
 unfold Mj at h;split at h
 . exact .inl ‹_›
 . exact .inr ‹_›
 . cases h
def Mv (h:glB sc x = true):sc.names.lookup x = some .globalImplicit:=by
 unfold glB at h;split at h
 . assumption
 . cases h
def Ai (h:EZ x = true):(x == ("__debug__":Str)) = false/\(x == ("__classdict__":Str)) = false/\x≠("__name__":Str):=by
 unfold EZ at h;rw [aa,aa] at h;refine ⟨by simpa using h.1.1,by simpa using h.1.2,?_⟩;have:=h.2;intro z;subst z
 revert this
 decide
section
variable {X:Cx} {c:Ck} {cx:Cl} {k:Nat}
def Cok.name (C:Cok X c cx k) (h:jf c i x = true):X.N[i]? = some x/\Vis X.env.scope x/\(x == ("__debug__":Str)) = false/\(x == ("__classdict__":Str)) = false:=by
 unfold jf at h;rw [aa,aa] at h;obtain ⟨⟨h1,h2⟩,h3⟩:=h;obtain ⟨n1,n2,n3⟩:=Ai h3;exact ⟨by rw [C.hN];exact of_decide_eq_true h1,C.vis x (Dy h2),n1,n2⟩
def Cok.to (C:Cok X c cx k) (h:jZ c i x = true):X.N[i]? = some x/\L2.Loc X.env.scope x/\(X.fn x = true\/X.env.scope.names.lookup x = some .local):=by
 unfold jZ at h;rw [aa,aa] at h;obtain ⟨⟨h1,h2⟩,h3⟩:=h;obtain ⟨s1,s2⟩:=C.st x (Ft h2);exact ⟨by rw [C.hN];exact of_decide_eq_true h1,s1,s2⟩
def Cok.global (C:Cok X c cx k) (h:gH c x = true):Gl X x/\(x == ("__debug__":Str)) = false/\x≠("__name__":Str):=by
 unfold gH at h;rw [aa] at h;obtain ⟨n1,n2,n3⟩:=Ai h.2;exact ⟨C.gl x (Mv h.1),n1,n3⟩
def Cok.units (C:Cok X c cx k):X.A.units+200 < cLine:=by have:=C.room.un;lia
def Cok.nd' (C:Cok X c cx k):X.N.Nodup:=by rw [C.hN];exact C.nd
def uF:List Nat->TGs
 | []=>Oq
 | i::is=>JR (wZ i) (uF is)
def Oo (K:PySem.W.Frag) (n:Nat) (t:TGs):TG:=λv σ H Q=>∃ a xs,v = .ref a/\(SqT K H a xs\/SqL K H a xs)/\xs.length = n/\t xs σ H Q
def nK {prog:aS} {w:bD} {A:aW} {E:ae->ai->Prop} {s:ai} {env:Env} {elts:List aH} {x1} {pos:Pos} {t:aw} {items:Array ae} {Q:Unit->ai->Prop} (hh:A.handled = none) (ht:s.heap.IsList t items)
 (hn:(assignEach elts env).length = items.size) (hstar:(assignEach elts env).findIdx? (·.1) = none)
 (h:∀ h',Ba s.heap.objs.size s.heap h'->wpAny (model prog w) A (assignInOrder ((assignEach elts env).map (·.2)) items.toList) Q E { s with heap:=h' }) :
 wpAny (model prog w) A (assign (.Tuple elts x1 pos) env (.ref t)) Q E s:=by
 rw [assign_Tuple];refine ab (gP ?_);unfold unpack;rw [hn,hstar];exact ab (bY (PySem.W.kun_itemsOf hh ht h))
def Lq {X:Cx} {es:List aH} {k:Nat} {t:TGs} {n:Nat} {pos:Pos} (hc:X.calm = true) (h:PGs X es t)
 (hn:(assignEach es X.env).length = n:=by rfl) (hst:(assignEach es X.env).findIdx? (·.1) = none:=by rfl):PG X (.Tuple es k pos) (Oo X.K n t):=by
 intro pins s σ H v u Q I r hw;obtain ⟨a,xs,e1,hq,hl,hw⟩:=hw;rcases hq with hq | hq
 . exact Lo hc h hn hst pins s σ H v u Q I r ⟨a,xs,e1,hq,hl,hw⟩
 . subst e1;cases r;obtain ⟨its,rv,pl,hz⟩:=I.list hq;refine nK (I.ok.hd hc) pl.isList (by simp [hn,<- hl,rv.length]) hst λh' hx=>?_;have I1:Inv X pins σ H { s with heap:=h' }:=I.kept (t':=s.toks) λb o e=>hx b o (aO (aE e)) e;exact h pins _ σ H xs _ Q I1 (by simpa using rv) hw
def gTg (K:PySem.W.Frag):Tg->TG
 | .nm i=>wZ i
 | .tp is=>Oo K is.length (uF is)
def sH (C:Cok X c cx k):∀ (is:List Nat) (es:List aH),MC c is es = true->PGs X es (uF is)/\(assignEach es X.env).length = is.length/\(assignEach es X.env).findIdx? (·.1) = none
 | [],es,h=>by
   obtain ⟨rfl,_⟩:=gE h
   exact ⟨Iw,rfl,rfl⟩
 | i::is,es,h=>by
   obtain ⟨e,r,rfl,hh⟩:=ft h;rw [aa] at hh;obtain ⟨x,p,rfl,h1⟩:=cS hh.1;obtain ⟨q1,q2,q3⟩:=sH C is r hh.2;obtain ⟨n1,n2,n3⟩:=C.to h1;refine ⟨Ey (Ac C.nd' n1 n2 n3) q1 rfl,?_,?_⟩
   . show (assignEach r X.env).length+1 = _;rw [q2];rfl
   . show List.findIdx? _ ((false,_)::assignEach r X.env) = none;rw [CH,q3];rfl
def oh (C:Cok X c cx k) (h:rg c tg t = true):PG X t (gTg X.K tg):=by
 cases tg with
 | nm i =>
   obtain ⟨_,_,rfl,h1⟩:=cS h;obtain ⟨n1,n2,n3⟩:=C.to h1
   exact Ac C.nd' n1 n2 n3
 | tp is =>
   obtain ⟨_,_,_,rfl,h1⟩:=kQ h;obtain ⟨q1,q2,q3⟩:=sH C _ _ h1;exact Lq C.calm q1 q2 q3
def take_set {α:Type} (l:List α) (i n:Nat) (x:α) (h:n<=i):(l.set i x).take n = l.take n:=by
 apply List.ext_getElem?;intro j;by_cases hj:j < n
 . rw [eA hj,eA hj,bV ∅]
 . rw [fk (by rw [bq];lia),fk (by rw [bq];lia)]
def qo {K:PySem.W.Frag} {G:Gh} {H:Hp} {F:aw->Prop} {Q:L2.St->Hp->Prop}:∀ (is:List Nat) (ds:List D) (xs:List V) (σ:L2.St) (δ:Loc),Ok K G F σ H δ->aI K H F ds xs->is.length = ds.length->is.all (· < δ.length) = true ->
 (∀ σ',Ok K G F σ' H ((is.zip ds).foldl (λδ p=>δ.set p.1 (.val p.2)) δ)->(∀ n,(is.all λi=>decide (n<=i)) = true->σ'.take n = σ.take n)->Q σ' H)->uF is xs σ H Q
 | [],ds,xs,σ,δ,ok,r,hl,_,q=>by
   have:ds = []:=eL.mp hl.symm;subst this;unfold aI at r
   exact ⟨r,q σ ok λ_ _=>rfl⟩
 | i::is,[],xs,σ,δ,ok,r,hl,_,q=>by simp at hl
 | i::is,d::ds,xs,σ,δ,ok,r,hl,ha,q=>by
   unfold aI at r;obtain ⟨y,ys,rfl,r1,r2⟩:=r;rw [nQ,aa] at ha;refine ⟨y,ys,rfl,?_⟩;refine qo is ds ys (σ.set i (some y)) (δ.set i (.val d)) (ok.set (of_decide_eq_true ha.1) r1) r2 (by simpa using hl) ?_ λσ' o t=>q σ' o λn hn=>?_
   . rw [cA];exact ha.2
   . rw [nQ,aa] at hn;rw [t n hn.2,take_set _ _ _ _ (of_decide_eq_true hn.1)]
def mU {K:PySem.W.Frag} {G:Gh} {H:Hp} {F:aw->Prop} {σ:L2.St} {δ δ':Loc} {tg:Tg} {d:D} {v:V} {Q:L2.St->Hp->Prop} (ok:Ok K G F σ H δ) (r:Rel K H F d v) (e:eP δ tg d = some δ') (q:∀ σ',Ok K G F σ' H δ'->(∀ n,mh n tg = true->σ'.take n = σ.take n)->Q σ' H):gTg K tg v σ H Q:=by
 unfold eP at e;split at e
 . split at e
   . cases e;exact q _ (ok.set ‹_› r) λn hn=>take_set _ _ _ _ (of_decide_eq_true hn)
   . cases e
 . split at e
   . rename_i hh;cases e;unfold Rel at r;obtain ⟨a,xs,e1,h1,h2⟩:=r;exact ⟨a,xs,e1,.inl h1,by rw [h2.length];exact hh.1.symm,qo _ _ _ _ _ ok h2 hh.1 hh.2 q⟩
   . cases e
 . split at e
   . rename_i hh;cases e;unfold Rel at r;obtain ⟨a,xs,e1,h1,h2⟩:=r;exact ⟨a,xs,e1,.inr h1.b.sq,by rw [h2.length];exact hh.1.symm,qo _ _ _ _ _ ok h2 hh.1 hh.2 q⟩
   . cases e
 . cases e
def Ok.ext {K:PySem.W.Frag} {G:Gh} {H:Hp} {F:aw->Prop} {σ:L2.St} {δ:Loc} (h:Ok K G F σ H δ) (tl:L2.St):Ok K G F (σ++tl) H (δ++aZ tl.length .no):=by
 have low:∀ (j:Nat) (s:Sl),(δ++aZ tl.length .no)[j]? = some s->s = .no\/(δ[j]? = some s/\(σ++tl)[j]? = σ[j]?):=λj s e=>by
  by_cases hj:j < δ.length
  . rw [bL hj] at e;exact .inr ⟨e,bL (by rw [<- h.len];exact hj)⟩
  . rw [cg ∅,gN] at e;split at e
    . cases e;exact .inl rfl
    . cases e
 refine ⟨h.same,h.fd,h.rf,h.rl,h.tf,h.tabs,by rw [ax,ax,iF,h.len],λj s e=>?_,λi j s t a e1 e2 o1 o2 p1 p2=>?_⟩
 . rcases low j s e with rfl | ⟨e1,e2⟩
   . trivial
   . rw [e2];exact h.sl j s e1
 . rcases low i _ e1 with z | ⟨a1,a2⟩
   . subst z;cases o1
   . rcases low j _ e2 with z | ⟨b1,b2⟩
     . subst z;cases o2
     . rw [a2] at p1;rw [b2] at p2;exact h.apart i j s t a a1 b1 o1 o2 p1 p2
def Ok.cut {K:PySem.W.Frag} {G:Gh} {H:Hp} {F:aw->Prop} {σ:L2.St} {δ:Loc} (h:Ok K G F σ H δ) (n:Nat):Ok K G F (σ.take n) H (δ.take n):=by
 have low:∀ (j:Nat) (s:Sl),(δ.take n)[j]? = some s->δ[j]? = some s/\(σ.take n)[j]? = σ[j]? := λj s e=>by
  by_cases hj:j < n
  . rw [eA hj] at e;exact ⟨e,eA hj⟩
  . rw [fk (by rw [bq];lia)] at e;cases e
 refine ⟨h.same,h.fd,h.rf,h.rl,h.tf,h.tabs,by rw [bq,bq,h.len],λj s e=>?_,λi j s t a e1 e2 o1 o2 p1 p2=>?_⟩
 . obtain ⟨e1,e2⟩:=low j s e;rw [e2];exact h.sl j s e1
 . obtain ⟨a1,a2⟩:=low i _ e1;obtain ⟨b1,b2⟩:=low j _ e2;rw [a2] at p1;rw [b2] at p2;exact h.apart i j s t a a1 b1 o1 o2 p1 p2
def Gh.and (G:Gh) (D:aw):Gh:=⟨G.h,λb=>G.R b\/b = D⟩
def Ok.free {K:PySem.W.Frag} {G:Gh} {H:Hp} {F:aw->Prop} {σ:L2.St} {δ:Loc} {p:aw} (h:Ok K G F σ H δ) (hp:H p = none):G.free p:=by
 refine ⟨?_,λz=>?_⟩
 . cases e:G.h p with
   | none=>rfl
   | some o =>
     by_cases t:NT o
     . rw [h.same.nt p o t e] at hp;cases hp
     . cases o<;>first | (exact absurd trivial t) | skip
       obtain ⟨qs,z⟩:=h.same.tb p _ e;rw [z] at hp;cases hp
 . obtain ⟨o,e,_⟩:=h.rl p z;rw [hp] at e;cases e
def Ok.enterO {K:PySem.W.Frag} {G:Gh} {H:Hp} {F:aw->Prop} {σ:L2.St} {δ:Loc} {p:aw} (h:Ok K G F σ H δ) (hp:H p = none) {u:HO} (hu:Mo u):Ok K (G.and p) (λb=>F b\/b = p) σ (upd H p u) δ/\Step G F H (λb=>F b\/b = p) (upd H p u):=by
 have nF:¬ F p:=sN h.fd hp;have sm:=cD hp u;have st:∀ G':Gh,Step G' F H (λb=>F b\/b = p) (upd H p u):=λG'=>⟨λb o _ e _=>sm b o e,λb z=>by rcases z with z | z;exact .inl z;exact .inr (by rw [z];exact hp),λb o _ f e=>⟨.inl f,sm b o e⟩,λb ps e=>⟨ps,sm b _ e⟩⟩;refine ⟨⟨h.same.trans (.of sm),λb z=>?_,λb z=>?_,λb z=>?_,λt ht=>.inl (h.tf t ht),h.tabs.keep λb o _ e=>sm b o e,h.len,λj s e=>?_,h.apart⟩,st G⟩
 . rcases z with z | z
   . exact h.fd.same sm b z
   . rw [z];exact ⟨u,cy,.inl hu⟩
 . rcases z with z | z
   . exact .inl (h.rf b z)
   . exact .inr z
 . rcases z with z | z
   . exact zS h.rl sm b z
   . rw [z];exact ⟨u,cy,hu⟩
 . exact fG.stay0 h.fd (st G) (λa v _ f1 _ f3=>⟨.inl f1,sm _ _ f3⟩) (fG.free (G:=G) (G':=G.and p) (λa f1 f2=>⟨f2.1,λz=>Or.elim z f2.2 λw=>nF (w▸f1)⟩) (h.sl j s e))
def Ok.enter {K:PySem.W.Frag} {G:Gh} {H:Hp} {F:aw->Prop} {σ:L2.St} {δ:Loc} {p:aw} (h:Ok K G F σ H δ) (hp:H p = none) (xs:List V):Ok K (G.and p) (λb=>F b\/b = p) σ (upd H p (.lst xs)) δ/\Step G F H (λb=>F b\/b = p) (upd H p (.lst xs)):=h.enterO hp trivial
def Ok.pokeO {K:PySem.W.Frag} {G:Gh} {H:Hp} {F:aw->Prop} {σ:L2.St} {δ:Loc} {p:aw} {x u:HO} (h:Ok K (G.and p) F σ H δ) (hg:G.free p) (hP:H p = some x) (hx:Mo x) (hu:Mo u):Ok K (G.and p) F σ (upd H p u) δ:=by
 have hF:F p:=h.rf p (.inr rfl);have nt:=hx.nt;have st0:Step g0 F H F (upd H p u):=⟨λb o _ e n=>by rw [bP (λz:b = p=>n (by rw [z];exact hF))];exact e,λb z=>.inl z,λ_ _ r _ _=>r.elim,λb ps e=>⟨ps,by rw [bP (λw:b = p=>by rw [w,hP] at e;cases e;exact nt)];exact e⟩⟩;refine ⟨⟨λb o t e=>?_,λb ps e=>?_⟩,λb z=>?_,h.rf,λb z=>?_,h.tf,h.tabs.keep λb o n e=>?_,h.len,λj s e=>?_,h.apart⟩
 . rw [bP (λz:b = p=>by have e':G.h b = some o:=e;rw [z,hg.1] at e';cases e')];exact h.same.nt b o t e
 . rw [bP (λz:b = p=>by have e':G.h b = some _:=e;rw [z,hg.1] at e';cases e')];exact h.same.tb b ps e
 . by_cases hb:b = p
   . rw [hb];exact ⟨u,cy,.inl hu⟩
   . rw [bP hb];exact h.fd b z
 . by_cases hb:b = p
   . rw [hb];exact ⟨u,cy,hu⟩
   . rw [bP hb];exact h.rl b z
 . rw [bP (λw:b = p=>by rw [w,hP] at e;cases e;exact n hx)];exact e
 . exact fG.stay0 h.fd st0 (λa v _ f1 f2 f3=>⟨f1,by rw [bP (λz:a = p=>f2.2 (.inr z))];exact f3⟩) (h.sl j s e)
def Ok.poke {K:PySem.W.Frag} {G:Gh} {H:Hp} {F:aw->Prop} {σ:L2.St} {δ:Loc} {p:aw} {zs:List V} (h:Ok K (G.and p) F σ H δ) (hg:G.free p) (hP:H p = some (.lst zs)) (xs:List V):Ok K (G.and p) F σ (upd H p (.lst xs)) δ:=h.pokeO hg hP trivial trivial
def Ok.leave {K:PySem.W.Frag} {G:Gh} {H:Hp} {F:aw->Prop} {σ:L2.St} {δ:Loc} {p:aw} (h:Ok K (G.and p) F σ H δ) (hg:G.free p):Ok K G (λb=>F b/\b≠p) σ H δ:=by
 have hs:∀ b,(F b/\b≠p)->F b:=λb z=>z.1
 have tf':TF λb=>F b/\b≠p:=λt ht=>⟨h.tf t ht,λw=>by
  obtain ⟨ps,e,_⟩:=h.tabs t ht;obtain ⟨o,hP,m⟩:=h.rl p (.inr rfl);rw [w,hP] at e;cases e;exact m⟩
 refine ⟨h.same,λb z=>h.fd b z.1,λb z=>⟨h.rf b (.inl z),λw=>hg.2 (by rw [<- w];exact z)⟩,λb z=>h.rl b (.inl z),tf',h.tabs,h.len,λj s e=>?_,h.apart⟩;refine ((h.sl j s e).less h.fd hs λa z za=>?_).free (G:=G.and p) (G':=G) λb _ z=>⟨z.1,λw=>z.2 (Or.inl w)⟩;obtain ⟨a',u,d,e1,f1,f2,_⟩:=fG.ow (h.sl j s e) z;rw [za] at e1;cases e1;exact ⟨f1,λw=>f2.2 (.inr w)⟩
def Ok.keep {K:PySem.W.Frag} {G:Gh} {H:Hp} {F:aw->Prop} {σ:L2.St} {δ:Loc} {p:aw} (h:Ok K (G.and p) F σ H δ):Ok K G F σ H δ :=
 ⟨h.same,h.fd,λb z=>h.rf b (.inl z),λb z=>h.rl b (.inl z),h.tf,h.tabs,h.len,λj s e=>(h.sl j s e).free (G:=G.and p) (G':=G) λb _ z=>⟨z.1,λw=>z.2 (Or.inl w)⟩,h.apart⟩
end
section
variable {K:PySem.W.Frag} {cx:Cl}
def xu (cx:Cl) (k:Nat) (tg:Tg) (ifs:Eo) (elt:E):D->Loc->Option (Option D × Loc):=λx δ0=>do
 let δ2 <- eP (δ0++aZ k .no) tg x
 let (b,δ3) <- evG cx ifs δ2
 if b then do
  let (y,δ4) <- evE cx elt δ3
  return (some y,δ4.take δ0.length)
 else return (none,δ3.take δ0.length)
def Jq (ev:evE cx (.comp k tg src ifs elt) δ = some (d,δ')) :
 ∃ ds δ1 ys,evI cx src δ = some (ds,δ1)/\nG (xu cx k tg ifs elt) ds δ1 = some (ys,δ')/\ys.length<=sizeLine/\d = .lst ys:=by
 simp only [evE,af,ag] at ev;obtain ⟨⟨ds,δ1⟩,ea,⟨ys,δ2⟩,eb,ev⟩:=ev;split at ev
 . cases ev;exact ⟨ds,δ1,ys,ea,eb,‹_›,rfl⟩
 . cases ev
def Ce (h:xu cx k tg ifs elt x δ0 = some (o,δ1)):∃ δ2 b δ3,eP (δ0++aZ k .no) tg x = some δ2/\evG cx ifs δ2 = some (b,δ3) /\
 ((b = true/\∃ y δ4,evE cx elt δ3 = some (y,δ4)/\o = some y/\δ1 = δ4.take δ0.length)\/(b = false/\o = none/\δ1 = δ3.take δ0.length)):=by
 unfold xu at h;simp only [af,ag] at h;obtain ⟨δ2,e1,⟨b,δ3⟩,e2,h⟩:=h;refine ⟨δ2,b,δ3,e1,e2,?_⟩
 cases b with
 | true =>
   simp only [if_true,ag] at h;obtain ⟨⟨y,δ4⟩,e3,h⟩:=h;cases h
   exact .inl ⟨rfl,y,δ4,e3,rfl,rfl⟩
 | false =>
   simp only [bb,if_false] at h;cases h;exact .inr ⟨rfl,rfl,rfl⟩
def yS (h:nG f (x::xs) δ = some (ys,δ')):∃ o δ1 zs,f x δ = some (o,δ1)/\nG f xs δ1 = some (zs,δ')/\ys = (match o with | some y=>y::zs | none=>zs):=by
 unfold nG at h;simp only [af,ag] at h;obtain ⟨⟨o,δ1⟩,e1,⟨zs,δ2⟩,e2,h⟩:=h;cases h;exact ⟨o,δ1,zs,e1,e2,rfl⟩
def Step.sub (h:Step G' F H F' H') (hs:∀ b,G.R b->G'.R b):Step G F H F' H':=⟨h.keep,h.grow,λb o r=>h.res b o (hs b r),h.tb⟩
def xf:∀ (ps:List (Nat × D)) (δ:Loc),(ps.foldl (λδ p=>δ.set p.1 (Sl.val p.2)) δ).length = δ.length:=by
 intro ps
 induction ps with
 | nil=>intro δ;rfl
 | cons a r ih=>intro δ;rw [iZ,ih,cA]
def om (es:eP δ tg d = some δ'):δ'.length = δ.length:=by
 unfold eP at es;split at es
 . split at es
   . cases es;rw [cA]
   . cases es
 . split at es
   . cases es;rw [xf]
   . cases es
 . split at es
   . cases es;rw [xf]
   . cases es
 . cases es
def uA {P:List D->(aw->Prop)->L2.St->Hp->Prop} (wk:Wk K G F1 H1 J ds) (hs:∀ r F σ H,P r F σ H->Step G F1 H1 F H/\FD F H) (hm:∀ r F σ H H3,P r F σ H->ij H H3->P r F σ H3) (h0:P ds F0 σ0 H0)
 (turn:∀ d r F σ H x (N:L2.St->Hp->Prop),P (d::r) F σ H->Rel K H F d x->(∀ F4 σ4 H4,P r F4 σ4 H4->N σ4 H4)->g x σ H λσ2 H2=>tt σ2 H2 λb H3=>if b = true then tb σ2 H3 N else N σ2 H3)
 (fin:∀ F σ H,P [] F σ H->Q σ H):tLp J g tt tb σ0 H0 Q:=by
 refine ⟨λi m σc Hc=>m = ds.length - i/\i<=ds.length/\∃ F',P (ds.drop i) F' σc Hc,⟨ds.length,↥0,bO _,F0,h0⟩,?_⟩;rintro i m σc Hc ⟨rfl,hi,F',h⟩;obtain ⟨st,fd⟩:=hs _ _ _ _ h;by_cases hlt:i < ds.length
 . obtain ⟨go,yl⟩:=(wk F' Hc st fd i).1 ds[i] (aD hlt);refine .inr ⟨go,λx H3 hy=>?_⟩;obtain ⟨sm,rx⟩:=yl x H3 hy;rw [de hlt] at h;exact turn _ _ _ _ _ x _ (hm _ _ _ _ _ h sm) rx λF4 σ4 H4 z=>⟨_,∅,rfl,hlt,F4,z⟩
 . obtain rfl:i = ds.length:=by lia
   rw [Hg] at h;exact .inl ⟨(wk F' Hc st fd ds.length).2 rfl,fin _ _ _ h⟩
def Step.new {o:HO} (s:Step G F1 H1 F8 H8) (hp:H1 p = none):Step G F1 H1 F8 (upd H8 p o):=by
 refine ⟨λb o t e nf=>?_,s.grow,λb o r f e=>?_,λb ps e=>?_⟩
 . rw [bP (λw:b = p=>by rw [w,hp] at e;cases e)];exact s.keep b o t e nf
 . obtain ⟨a1,a2⟩:=s.res b o r f e;refine ⟨a1,?_⟩;rw [bP (λw:b = p=>by rw [w,hp] at e;cases e)];exact a2
 . rw [bP (λw:b = p=>by rw [w,hp] at e;cases e)];exact s.tb b ps e
def Sim.new {o:HO} (s:Sim H1 H8) (hp:H1 p = none):Sim H1 (upd H8 p o):=by
 refine ⟨λb o t e=>?_,λb ps e=>?_⟩
 . rw [bP (λw:b = p=>by rw [w,hp] at e;cases e)];exact s.nt b o t e
 . rw [bP (λw:b = p=>by rw [w,hp] at e;cases e)];exact s.tb b ps e
def yR (n:(!cj elt) = true) (hge:mh σ.length tg = true)
 (ok1:Ok K G F1 σ H1 δ1) (wk:Wk K G F1 H1 J ds) (hp:H1 p = none) (ev:nG (xu cx k tg ifs elt) ds δ1 = some (ys,δ2)) (hz:ys.length<=sizeLine)
 (q:∀ σ' H2 F2 xs,Ok K (G.and p) F2 σ H2 δ2->H2 p = some (.lst xs)->aI K H2 F2 ys xs->Step G F1 H1 F2 H2->((npO ifs && np elt) = true->Sim H1 H2)->Q σ' H2) :
 tLp J (gTg K tg) (tG K cx ifs) (DF p (tE K cx elt)) (σ++aZ k none) (upd H1 p (.lst [])) Q:=by
 have hg:=ok1.free hp;obtain ⟨ok2,st2⟩:=ok1.enter hp [];have hFs:∀ b,G.R b->(G.and p).R b:=λb z=>.inl z
 refine uA (P:=λr F' σc Hc=>∃ δi zs xs yi,(∃ tl:L2.St,σc = σ++tl/\tl.length = k)/\Ok K (G.and p) F' σ Hc δi/\nG (xu cx k tg ifs elt) r δi = some (zs,δ2)/\yi++zs = ys/\Hc p = some (.lst xs)/\aI K Hc F' yi xs/\Step G F1 H1 F' Hc /\
  ((npO ifs && np elt) = true->Sim H1 Hc)) wk (λr F σ H z=>by obtain ⟨_,_,_,_,_,ok,_,_,_,_,st,_⟩:=z;exact ⟨st,ok.fd⟩) (λr F σ H H3 z sm=>by obtain ⟨a1,a2,a3,a4,a5,ok,a6,a7,a8,a9,st,s⟩:=z;exact ⟨a1,a2,a3,a4,a5,ok.same' sm,a6,a7,sm _ _ a8,aI.step ok.fd (Step.of_same (G:=G) sm) _ _ a9,st.trans (.of_same sm),λq=>(s q).trans (.of sm)⟩) (F0:=λb=>F1 b\/b = p) ⟨δ1,ys,[],[],⟨_,rfl,↥0⟩,ok2,ev,rfl,cy,aI.nil,st2,λ_=>.of (cD hp _)⟩ ?_ ?_
 . rintro d r F' _ H3 x N ⟨δi,zs,xs,yi,⟨tl,rfl,htl⟩,ok,el,ey,eD,rl,st,sm⟩ rx hN;have hF:F' p:=ok.rf p (.inr rfl);obtain ⟨o,δ5,zs',ef,el',ez⟩:=yS el;obtain ⟨δ6,b,δ7,es,eg,alt⟩:=Ce ef;have okx:Ok K (G.and p) F' (σ++tl) H3 (δi++aZ k .no):=by rw [<- htl];exact ok.ext tl
   refine mU okx rx es λσ2 ok6 htake=>?_;have t2:σ2.take σ.length = σ:=by rw [htake _ hge,JD];rfl
   have l2:σ2.length = σ.length+k:=by
    have a1:=okx.len;have a2:=ok6.len;have e1:=om es;have e2:(σ++tl).length = σ.length+k:=by rw [ax,htl]
    lia
   have dl:δi.length = σ.length:=ok.len
   have tail:∃ tl':L2.St,σ2 = σ++tl'/\tl'.length = k:=by
    refine ⟨σ2.drop σ.length,?_,by rw [cP];lia⟩
    conv=>lhs;rw [<- bw σ.length σ2,t2]
   refine ⟨G.and p,F',δ6,b,δ7,ok6,eg,λH7 F7 st7 sm7 ok7=>?_⟩;have keepD:∀ {F8:aw->Prop} {H8:Hp},Step (G.and p) F' H3 F8 H8->H8 p = some (.lst xs):=λs8=>(s8.res p _ (.inr rfl) hF eD).2;rcases alt with ⟨rfl,y,δ8,ee,rfl,rfl⟩ | ⟨rfl,rfl,rfl⟩
   . refine Fx ?_;refine ⟨G.and p,F7,δ7,y,δ8,ok7,ee,λu H8 F8 st8 sm8 ok8 r8=>?_⟩;have s78:=st7.trans st8;have eD8:=keepD s78;have ry:=dP n r8;have rl8:aI K H8 F8 yi xs:=aI.step ok.fd s78 yi xs rl;have hF8:F8 p:=ok8.rf p (.inr rfl);have pk:Step g0 F8 H8 F8 (upd H8 p (.lst (xs++[u]))):=⟨λb o _ e nf=>by rw [bP (λz:b = p=>nf (by rw [z];exact hF8))];exact e,λb z=>.inl z,λ_ _ r _ _=>r.elim,λb ps e=>⟨ps,by rw [bP (λw:b = p=>by rw [w,eD8] at e;cases e)];exact e⟩⟩;subst ez
     have hyl:yi.length < sizeLine:=by
      have:=congrArg AY ey;rw [ax] at this;simp only [aB] at this
      lia
     refine ⟨xs,eD8,by rw [rl8.length];exact hyl,hN F8 _ _ ⟨δ8.take δi.length,zs',xs++[u],yi++[y],tail,?_,el',by rw [aU];exact ey,cy,?_,?_,λz=>?_⟩⟩
     . have:=(ok8.poke hg eD8 (xs++[u])).cut δi.length;rw [dl,t2] at this;rw [dl];exact this
     . exact aI.step ok8.fd pk _ _ (rl8.append (aI.one ry))
     . exact (st.trans (s78.sub hFs)).new hp
     . have z':=z;rw [aa] at z';exact (((sm z).trans (sm7 z'.1)).trans (sm8 z'.2)).new hp
   . refine Jd ?_;subst ez;refine hN F7 _ _ ⟨δ7.take δi.length,_,xs,yi,tail,?_,el',ey,keepD st7,aI.step ok.fd st7 yi xs rl,st.trans (st7.sub hFs),λz=>?_⟩
     . have:=ok7.cut δi.length;rw [dl,t2] at this;rw [dl];exact this
     . have z':=z;rw [aa] at z';exact (sm z).trans (sm7 z'.1)
 . rintro F' _ Hc ⟨δi,zs,xs,yi,_,ok,el,ey,eD,rl,st,sm⟩;cases el;rw [cB] at ey;subst ey;exact q _ Hc F' xs ok eD rl st sm
end
end PP
end
section
namespace PP
open PySem
section
variable (cx:Cl)
def wE (e:E) (δ:Loc) (Q:D->Loc->Prop):Prop:=∃ d δ',evE cx e δ = some (d,δ')/\Q d δ'
def wT (e:E) (δ:Loc) (Q:Bool->Loc->Prop):Prop:=∃ d δ',evT cx e δ = some (d,δ')/\Q d δ'
def wEs (e:Es) (δ:Loc) (Q:List D->Loc->Prop):Prop:=∃ d δ',fW cx e δ = some (d,δ')/\Q d δ'
def wO (e:Eo) (δ:Loc) (Q:Option Int->Loc->Prop):Prop:=∃ d δ',evO cx e δ = some (d,δ')/\Q d δ'
def wG (e:Eo) (δ:Loc) (Q:Bool->Loc->Prop):Prop:=∃ d δ',evG cx e δ = some (d,δ')/\Q d δ'
def wI (e:It) (δ:Loc) (Q:List D->Loc->Prop):Prop:=∃ d δ',evI cx e δ = some (d,δ')/\Q d δ'
def wS (s:S) (δ:Loc) (Q:Out->Prop):Prop:=∃ o,evS cx s δ = some o/\Q o
def wSs (s:Ss) (δ:Loc) (Q:Out->Prop):Prop:=∃ o,eC cx s δ = some o/\Q o
def wTg (δ:Loc) (tg:Tg) (d:D) (Q:Loc->Prop):Prop:=∃ δ',eP δ tg d = some δ'/\Q δ'
def wOp (op:Op) (x y:D) (Q:D->Prop):Prop:=∃ z,opD op x y = some z/\Q z
def tR (op:Cop) (x y:D) (Q:Bool->Prop):Prop:=∃ z,jl op x y = some z/\Q z
def pA (f:Blt) (ds:List D) (Q:D->Prop):Prop:=∃ z,kF f ds = some z/\Q z
def Dx (f:Nat) (ds:List D) (Q:D->Prop):Prop:=∃ z,cx.call f ds = some z/\Q z
def Dr (δ:Loc) (i:Nat) (Q:D->Prop):Prop:=∃ z,PP.get δ i = some z/\Q z
def wIx (x y:D) (Q:D->Prop):Prop:=∃ z,ixD x y = some z/\Q z
def wSl (x:D) (lo hi:Option Int) (Q:D->Prop):Prop:=∃ z,slD x lo hi = some z/\Q z
def wTv (x:D) (Q:Bool->Prop):Prop:=∃ z,tv x = some z/\Q z
def wItems (x:D) (Q:List D->Prop):Prop:=∃ z,items x = some z/\Q z
def Nr (k:Nat) (tg:Tg) (ifs:Eo) (elt:E):D->Loc->Option (Option D × Loc):=λx δ0=>do
 let δ2 <- eP (δ0++aZ k .no) tg x
 let (b,δ3) <- evG cx ifs δ2
 if b then do
  let (y,δ4) <- evE cx elt δ3
  return (some y,δ4.take δ0.length)
 else return (none,δ3.take δ0.length)
def qg (k:Nat) (tg:Tg) (ifs:Eo) (elt:E) (ds:List D) (δ:Loc) (Q:List D->Loc->Prop):Prop:=∃ ys δ',nG (Nr cx k tg ifs elt) ds δ = some (ys,δ')/\Q ys δ'
def Ot (tg:Tg) (body:Ss):D->Loc->Option Out:=λx δ0=>match eP δ0 tg x with
 | some δ2=>eC cx body δ2
 | none=>none
def vD (tg:Tg) (body:Ss) (ds:List D) (δ:Loc) (Q:Out->Prop):Prop:=∃ o,forL (Ot cx tg body) ds δ = some o/\Q o
def qf (c:E) (body:Ss) (n:Nat) (δ:Loc) (Q:Out->Prop):Prop:=∃ o,me (λδ0=>evT cx c δ0) (λδ0=>eC cx body δ0) n δ = some o/\Q o
end
section
variable {α β γ:Type} {P P':α->Loc->Prop} {R R':α->Prop} {Q:β->Loc->Prop} {S:γ->Prop} {o:Option (α × Loc)} {u:Option α} {f:α × Loc->Option (β × Loc)} {g:α->Option (β × Loc)} {f':α × Loc->Option γ} {g':α->Option γ} {d:β} {r:γ} {δ:Loc} {c:Prop} [Decidable c]
def yb:(∃ r,o.bind f' = some r/\S r)↔∃ x δ1,o = some (x,δ1)/\∃ r,f' (x,δ1) = some r/\S r:=by
 cases o with
 | none=>exact ⟨λ⟨_,e,_⟩=>(by cases e),λ⟨_,_,e,_⟩=>(by cases e)⟩
 | some p=>exact ⟨λh=>⟨p.1,p.2,rfl,h⟩,λ⟨_,_,e,h⟩=>by cases e;exact h⟩
def yqs:(∃ r,u.bind g' = some r/\S r)↔∃ x,u = some x/\∃ r,g' x = some r/\S r:=by
 cases u with
 | none=>exact ⟨λ⟨_,e,_⟩=>(by cases e),λ⟨_,e,_⟩=>(by cases e)⟩
 | some p=>exact ⟨λh=>⟨p,rfl,h⟩,λ⟨_,e,h⟩=>by cases e;exact h⟩
def yr:(∃ r',some r = some r'/\S r')↔S r:=⟨λ⟨_,e,h⟩=>(by cases e;exact h),λh=>⟨_,rfl,h⟩⟩
def yi:(∃ r',(if c then some r else none) = some r'/\S r')↔c/\S r:=by
 by_cases h:c
 . rw [if_pos h];exact yr.trans ⟨λq=>⟨h,q⟩,λq=>q.2⟩
 . rw [if_neg h];exact ⟨λ⟨_,e,_⟩=>(by cases e),λq=>absurd q.1 h⟩
def yn {A:Prop} (h:¬ A):(∃ r',(none:Option γ) = some r'/\S r')↔A:=⟨λ⟨_,e,_⟩=>(by cases e),λq=>absurd q h⟩
def xq {o:Option (β × Loc)}:(∃ d δ',o = some (d,δ')/\Q d δ')↔∃ r,o = some r/\Q r.1 r.2:=⟨λ⟨_,_,e,q⟩=>⟨_,e,q⟩,λ⟨r,e,q⟩=>⟨r.1,r.2,e,q⟩⟩
def xb:(∃ d δ',o.bind f = some (d,δ')/\Q d δ')↔∃ x δ1,o = some (x,δ1)/\∃ d δ',f (x,δ1) = some (d,δ')/\Q d δ':=xq.trans (yb.trans ⟨λ⟨x,y,e,h⟩=>⟨x,y,e,xq.mpr h⟩,λ⟨x,y,e,h⟩=>⟨x,y,e,xq.mp h⟩⟩)
def x1:(∃ d δ',u.bind g = some (d,δ')/\Q d δ')↔∃ x,u = some x/\∃ d δ',g x = some (d,δ')/\Q d δ':=xq.trans (yqs.trans ⟨λ⟨x,e,h⟩=>⟨x,e,xq.mpr h⟩,λ⟨x,e,h⟩=>⟨x,e,xq.mp h⟩⟩)
def xr:(∃ d' δ',some (d,δ) = some (d',δ')/\Q d' δ')↔Q d δ:=xq.trans yr
def xi:(∃ d' δ',(if c then some (d,δ) else none) = some (d',δ')/\Q d' δ')↔c/\Q d δ:=xq.trans yi
def xn {A:Prop} (h:¬ A):(∃ d' δ',(none:Option (β × Loc)) = some (d',δ')/\Q d' δ')↔A:=xq.trans (yn h)
def xc (h:∀ x δ,P x δ↔P' x δ):(∃ x δ1,o = some (x,δ1)/\P x δ1)↔∃ x δ1,o = some (x,δ1)/\P' x δ1:=⟨λ⟨x,δ,e,p⟩=>⟨x,δ,e,(h x δ).mp p⟩,λ⟨x,δ,e,p⟩=>⟨x,δ,e,(h x δ).mpr p⟩⟩
def xd (h:∀ x,R x↔R' x):(∃ x,u = some x/\R x)↔∃ x,u = some x/\R' x:=⟨λ⟨x,e,p⟩=>⟨x,e,(h x).mp p⟩,λ⟨x,e,p⟩=>⟨x,e,(h x).mpr p⟩⟩
end
def Ow {b:Bool} {P:Bool->Prop}:(∃ k,D.bl b = D.bl k/\P k)↔P b:=⟨λ⟨_,e,q⟩=>by cases e;exact q,λq=>⟨_,rfl,q⟩⟩
def AE {b:Int} {P:Int->Prop}:(∃ k,D.int b = D.int k/\P k)↔P b:=⟨λ⟨_,e,q⟩=>by cases e;exact q,λq=>⟨_,rfl,q⟩⟩
def AD {b:List D} {P:List D->Prop}:(∃ k,D.lst b = D.lst k/\P k)↔P b:=⟨λ⟨_,e,q⟩=>by cases e;exact q,λq=>⟨_,rfl,q⟩⟩
section
variable {cx:Cl} {δ:Loc}
def Kq {i:Nat} {Q:D->Loc->Prop}:wE cx (.var i) δ Q↔∃ d,FL δ i = some d/\Q d (demote δ i):=x1.trans (xd λ_=>xr)
def Nj {i:Nat} {Q:D->Loc->Prop}:wE cx (.pk i) δ Q↔Dr δ i λd=>Q d δ:=x1.trans (xd λ_=>xr)
def Kv {i:Int} {Q:D->Loc->Prop}:wE cx (.int i) δ Q↔Q (.int i) δ:=xr
def Ks {i:Str} {Q:D->Loc->Prop}:wE cx (.str i) δ Q↔Q (.str i) δ:=xr
def Ky {op:Op} {a b:E} {Q:D->Loc->Prop}:wE cx (.bin op a b) δ Q↔wE cx a δ λx δ1=>wE cx b δ1 λy δ2=>wOp op x y λz=>Q z δ2:=xb.trans (xc λ_ _=>xb.trans (xc λ_ _=>x1.trans (xd λ_=>xr)))
def Kw {op:Cop} {a b:E} {Q:D->Loc->Prop}:wE cx (.cmp op a b) δ Q↔wE cx a δ λx δ1=>wE cx b δ1 λy δ2=>tR op x y λz=>Q (.bl z) δ2:=xb.trans (xc λ_ _=>xb.trans (xc λ_ _=>x1.trans (xd λ_=>xr)))
def Ki {op:Cop} {a b:E} {Q:Bool->Loc->Prop}:wT cx (.cmp op a b) δ Q↔wE cx a δ λx δ1=>wE cx b δ1 λy δ2=>tR op x y λz=>Q z δ2:=xb.trans (xc λ_ _=>xb.trans (xc λ_ _=>x1.trans (xd λ_=>xr)))
def Dt {a b:E} {Q:D->Loc->Prop}:wE cx (.and a b) δ Q↔wE cx a δ λx δ1=>∃ k,x = .bl k/\if k = true then wE cx b δ1 Q else Q (.bl false) δ1:=xb.trans (xc λx _=>by
 cases x with
 | bl k=>refine Iff.trans ?_ Ow.symm;cases k;exact xr;exact cX
 | _=>exact xn λ⟨_,e,_⟩=>by cases e)
def Kt {a:E} {Q:D->Loc->Prop}:wE cx (.neg a) δ Q↔wE cx a δ λx δ1=>∃ i,x = .int i/\Q (.int (-i)) δ1:=xb.trans (xc λx _=>by
 cases x with
 | int k=>refine Iff.trans ?_ AE.symm;exact xr
 | _=>exact xn λ⟨_,e,_⟩=>by cases e)
def Kj {a b:E} {Q:Bool->Loc->Prop}:wT cx (.and a b) δ Q↔wT cx a δ λk δ1=>if k = true then wT cx b δ1 Q else Q false δ1:=xb.trans (xc λk _=>by cases k;exact xr;exact cX)
def Nb {a b:E} {Q:Bool->Loc->Prop}:wT cx (.or a b) δ Q↔wT cx a δ λk δ1=>if k = true then Q true δ1 else wT cx b δ1 Q:=xb.trans (xc λk _=>by cases k;exact cX;exact xr)
def Kh {a:E} {Q:Bool->Loc->Prop}:wT cx (.not a) δ Q↔wT cx a δ λk δ1=>Q (!k) δ1:=xb.trans (xc λ_ _=>xr)
def Kg {i:Nat} {Q:Bool->Loc->Prop}:wT cx (.var i) δ Q↔Dr δ i λd=>wTv d λb=>Q b δ:=x1.trans (xd λ_=>x1.trans (xd λ_=>xr))
def Hn {f:Nat} {es:Es} {Q:Bool->Loc->Prop}:wT cx (.call f es) δ Q↔wEs cx es δ λds δ1=>Dx cx f ds λd=>wTv d λb=>Q b δ1:=xb.trans (xc λ_ _=>x1.trans (xd λ_=>x1.trans (xd λ_=>xr)))
def Kr {es:Es} {Q:D->Loc->Prop}:wE cx (.tup es) δ Q↔wEs cx es δ λds δ1=>ds.length<=sizeLine/\Q (.tup ds) δ1:=xb.trans (xc λ_ _=>xi)
def Ku {es:Es} {Q:D->Loc->Prop}:wE cx (.lst es) δ Q↔wEs cx es δ λds δ1=>ds.length<=sizeLine/\Q (.lst ds) δ1:=xb.trans (xc λ_ _=>xi)
def Nk {a b:E} {Q:D->Loc->Prop}:wE cx (.ix a b) δ Q↔wE cx a δ λx δ1=>wE cx b δ1 λy δ2=>wIx x y λz=>Q z δ2:=xb.trans (xc λ_ _=>xb.trans (xc λ_ _=>x1.trans (xd λ_=>xr)))
def Ni {a:E} {lo hi:Eo} {Q:D->Loc->Prop}:wE cx (.sl a lo hi) δ Q↔wE cx a δ λx δ1=>wO cx lo δ1 λl δ2=>wO cx hi δ2 λh δ3=>wSl x l h λz=>Q z δ3:=xb.trans (xc λ_ _=>xb.trans (xc λ_ _=>xb.trans (xc λ_ _=>x1.trans (xd λ_=>xr))))
def pH {f:Nat} {es:Es} {Q:D->Loc->Prop}:wE cx (.call f es) δ Q↔wEs cx es δ λds δ1=>Dx cx f ds λz=>Q z δ1:=xb.trans (xc λ_ _=>x1.trans (xd λ_=>xr))
def Kx {f:Blt} {es:Es} {Q:D->Loc->Prop}:wE cx (.blt f es) δ Q↔wEs cx es δ λds δ1=>pA f ds λz=>Q z δ1:=xb.trans (xc λ_ _=>x1.trans (xd λ_=>xr))
def Ht {Q:List D->Loc->Prop}:wEs cx .nil δ Q↔Q [] δ:=xr
def Ds {e:E} {es:Es} {Q:List D->Loc->Prop}:wEs cx (.cons e es) δ Q↔wE cx e δ λx δ1=>wEs cx es δ1 λxs δ2=>Q (x::xs) δ2:=xb.trans (xc λ_ _=>xb.trans (xc λ_ _=>xr))
def Nf {Q:Option Int->Loc->Prop}:wO cx .no δ Q↔Q none δ:=xr
def Km {e:E} {Q:Option Int->Loc->Prop}:wO cx (.yes e) δ Q↔wE cx e δ λx δ1=>∃ i,x = .int i/\Q (some i) δ1:=xb.trans (xc λx _=>by
 cases x with
 | int k=>refine Iff.trans ?_ AE.symm;exact xr
 | _=>exact xn λ⟨_,e,_⟩=>by cases e)
def Nh {Q:Bool->Loc->Prop}:wG cx .no δ Q↔Q true δ:=xr
def Ko {e:E} {Q:Bool->Loc->Prop}:wG cx (.yes e) δ Q↔wT cx e δ Q:=cX
def Kn {e:E} {Q:List D->Loc->Prop}:wI cx (.rng e) δ Q↔wE cx e δ λx δ1=>∃ j,x = .int j/\(-(2 ^ 62)<=j/\j < 2 ^ 62)/\Q (pB 0 j.toNat) δ1:=xb.trans (xc λx _=>by
 cases x with
 | int k=>refine Iff.trans ?_ AE.symm;exact xi
 | _=>exact xn λ⟨_,e,_⟩=>by cases e)
def Hs {a b:E} {Q:List D->Loc->Prop}:wI cx (.rng2 a b) δ Q↔wE cx a δ λx δ1=>wE cx b δ1 λy δ2=>∃ i j,x = .int i/\y = .int j/\(-(2 ^ 62)<=i/\i < 2 ^ 62/\-(2 ^ 62)<=j/\j < 2 ^ 62)/\Q (pB i (j - i).toNat) δ2:=by
 unfold wI wE;simp only [evI,af,ag,Prod.exists];constructor
 . rintro ⟨d,δ',⟨x,δ1,h1,e⟩,q⟩;refine ⟨x,δ1,h1,?_⟩;split at e
   . rename_i h;cases h;simp only [ag,Prod.exists] at e;obtain ⟨y,δ2,h2,e⟩:=e;refine ⟨y,δ2,h2,?_⟩;split at e
     . rename_i h;cases h;split at e
       . cases e;exact ⟨_,_,rfl,rfl,‹_›,q⟩
       . cases e
     . cases e
   . cases e
 . rintro ⟨x,δ1,h1,y,δ2,h2,i,j,rfl,rfl,h,q⟩;refine ⟨_,_,⟨_,_,h1,?_⟩,q⟩;simp only [ag,Prod.exists];exact ⟨_,_,h2,by dsimp only;rw [if_pos h]⟩
def Ng {e:E} {Q:List D->Loc->Prop}:wI cx (.sq e) δ Q↔wE cx e δ λx δ1=>wItems x λds=>Q ds δ1:=xb.trans (xc λ_ _=>x1.trans (xd λ_=>xr))
def tQ {k:Nat} {tg:Tg} {src:It} {ifs:Eo} {elt:E} {Q:D->Loc->Prop}:wE cx (.comp k tg src ifs elt) δ Q↔wI cx src δ λds δ1=>qg cx k tg ifs elt ds δ1 λys δ2=>ys.length<=sizeLine/\Q (.lst ys) δ2:=xb.trans (xc λ_ _=>xb.trans (xc λ_ _=>xi))
def nZ {k:Nat} {tg:Tg} {ifs:Eo} {elt:E} {Q:List D->Loc->Prop}:qg cx k tg ifs elt [] δ Q↔Q [] δ:=xr
def mf {k:Nat} {tg:Tg} {ifs:Eo} {elt:E} {x:D} {xs:List D} {Q:List D->Loc->Prop}:qg cx k tg ifs elt (x::xs) δ Q↔wTg (δ++aZ k .no) tg x λδ2=>wG cx ifs δ2 λb δ3 =>
 if b = true then wE cx elt δ3 λy δ4=>qg cx k tg ifs elt xs (δ4.take δ.length) λys δ5=>Q (y::ys) δ5 else qg cx k tg ifs elt xs (δ3.take δ.length) Q:=xb.trans (x1.trans (xd λ_=>xb.trans (xc λb _=>by cases b;exact xr.trans (xb.trans (xc λ_ _=>xr));exact xb.trans (xc λ_ _=>xr.trans (xb.trans (xc λ_ _=>xr))))))
end
section
variable (cx:Cl)
def vJ (ss:Ss) (Q:Out->Prop):Out->Prop
 | .nx δ=>wSs cx ss δ Q
 | .rt d δ=>Q (.rt d δ)
 | .ro d δ=>Q (.ro d δ)
end
def wQ (next:Loc->Prop) (Q:Out->Prop):Out->Prop
 | .nx δ=>next δ
 | .rt d δ=>Q (.rt d δ)
 | .ro d δ=>Q (.ro d δ)
def rH (δ:Loc) (i:Nat) (s:Sl) (Q:Loc->Prop):Prop:=i < δ.length/\Q (δ.set i s)
def Bd (pre δ:Loc) (i:Nat) (s:Sl) (Q:Loc->Prop):Prop:=i < δ.length/\Q (pre.reverse++δ.set i s)
def Nd (δ:Loc) (i:Nat) (s:Sl) (Q:Loc->Prop):Prop:=Q (δ.set i s)
def sj (pre δ:Loc) (i:Nat) (s:Sl) (Q:Loc->Prop):Prop:=Q (pre.reverse++δ.set i s)
def vB (pre δ:Loc) (Q:Loc->Prop):Prop:=Q (pre.reverse++δ)
def Bf (δ0:Loc) (j:Nat) (δ:Loc) (i:Nat) (Q:D->Loc->Prop):Prop:=match δ[i]? with
 | some (.val d)=>Q d δ0
 | some (.own ds)=>Q (.lst ds) (δ0.set j (.val (.lst ds)))
 | _=>False
def rJ (δ:Loc) (i:Nat) (Q:List D->Prop):Prop:=match δ[i]? with
 | some (.own ds)=>Q ds
 | _=>False
section
variable {cx:Cl} {δ pre:Loc}
def jJ {ss:Ss} {Q:Out->Prop}:vJ cx ss Q (.nx δ)↔wSs cx ss δ Q:=cX
def DE {ss:Ss} {Q:Out->Prop} {d:D}:vJ cx ss Q (.rt d δ)↔Q (.rt d δ):=cX
def fV {n:Loc->Prop} {Q:Out->Prop}:wQ n Q (.nx δ)↔n δ:=cX
def CZ {i:Nat} {s:Sl} {Q:Loc->Prop}:rH δ i s Q↔Bd [] δ i s Q:=cX
def Bc {i:Nat} {s t:Sl} {Q:Loc->Prop}:Bd pre (t::δ) (i+1) s Q↔Bd (t::pre) δ i s Q:=by simp [Bd]
def Bb {s t:Sl} {Q:Loc->Prop}:Bd pre (t::δ) 0 s Q↔vB pre (s::δ) Q:=by simp [Bd,vB]
def Dh {i:Nat} {s:Sl} {Q:Loc->Prop}:Nd δ i s Q↔sj [] δ i s Q:=cX
def yd {i:Nat} {s t:Sl} {Q:Loc->Prop}:sj pre (t::δ) (i+1) s Q↔sj (t::pre) δ i s Q:=by simp [sj]
def yc {s t:Sl} {Q:Loc->Prop}:sj pre (t::δ) 0 s Q↔vB pre (s::δ) Q:=by simp [sj,vB]
def Bh {t:Sl} {Q:Loc->Prop}:vB (t::pre) δ Q↔vB pre (t::δ) Q:=by simp [vB]
def Df {Q:Loc->Prop}:vB [] δ Q↔Q δ:=cX
def Be {δ0:Loc} {i j:Nat} {t:Sl} {Q:D->Loc->Prop}:Bf δ0 j (t::δ) (i+1) Q↔Bf δ0 j δ i Q:=cX
def CT {δ0:Loc} {j:Nat} {d:D} {Q:D->Loc->Prop}:Bf δ0 j (.val d::δ) 0 Q↔Q d δ0:=cX
def CU {δ0:Loc} {j:Nat} {ds:List D} {Q:D->Loc->Prop}:Bf δ0 j (.own ds::δ) 0 Q↔Nd δ0 j (.val (.lst ds)) λδ1=>Q (.lst ds) δ1:=cX
def Bj {i:Nat} {t:Sl} {Q:D->Prop}:Dr (t::δ) (i+1) Q↔Dr δ i Q:=cX
def Dq {ds:List D} {Q:D->Prop}:Dr (.own ds::δ) 0 Q↔Q (.lst ds):=yr
def Bi {i:Nat} {t:Sl} {Q:List D->Prop}:rJ (t::δ) (i+1) Q↔rJ δ i Q:=cX
def Di {ds:List D} {Q:List D->Prop}:rJ (.own ds::δ) 0 Q↔Q ds:=cX
def Hu {i:Nat} {Q:D->Loc->Prop}:wE cx (.var i) δ Q↔Bf δ i δ i Q:=by
 rw [Kq];unfold FL Bf PP.get demote
 cases h:δ[i]? with
 | none=>simp
 | some s=>cases s<;>simp
def fw {Q:Out->Prop}:wSs cx .nil δ Q↔Q (.nx δ):=yr
def dC {s:S} {ss:Ss} {Q:Out->Prop}:wSs cx (.cons s ss) δ Q↔wS cx s δ (vJ cx ss Q):=by
 unfold wSs wS;simp only [eC]
 cases evS cx s δ with
 | none=>exact yn (λ⟨_,e,_⟩=>by cases e)
 | some o =>
   refine Iff.trans ?_ yr.symm
   cases o with
   | nx δ1=>exact cX
   | _=>exact yr
def xZ {tg:Tg} {e:E} {Q:Out->Prop}:wS cx (.asg tg e) δ Q↔wE cx e δ λd δ1=>wTg δ1 tg d λδ2=>Q (.nx δ2):=yb.trans (xc λ_ _=>yqs.trans (xd λ_=>yr))
def Kf {i:Nat} {d:D} {Q:Loc->Prop}:wTg δ (.nm i) d Q↔rH δ i (.val d) Q:=yi
def Ke {is:List Nat} {ds:List D} {Q:Loc->Prop}:wTg δ (.tp is) (.tup ds) Q↔(is.length = ds.length/\is.all (· < δ.length) = true)/\Q ((is.zip ds).foldl (λδ p=>δ.set p.1 (.val p.2)) δ):=yi
def Kk {i:Nat} {e:E} {Q:Out->Prop}:wS cx (.new i e) δ Q↔wE cx e δ λd δ1=>∃ ds,d = .lst ds/\rH δ1 i (.own ds) λδ2=>Q (.nx δ2):=yb.trans (xc λx _=>by
 cases x with
 | lst k=>refine Iff.trans ?_ AD.symm;exact yi
 | _=>exact yn λ⟨_,e,_⟩=>by cases e)
def Kl {own:Bool} {i:Nat} {e:E} {Q:Out->Prop}:wS cx (.cmp own i e) δ Q↔wE cx e δ λd δ1=>∃ ds,d = .lst ds/\rH δ1 i (bif own then .own ds else .val (.lst ds)) λδ2=>Q (.nx δ2):=yb.trans (xc λx _=>by
 cases x with
 | lst k=>refine Iff.trans ?_ AD.symm;cases own<;>exact yi
 | _=>exact yn λ⟨_,e,_⟩=>by cases e)
def Ho {i:Nat} {e:E} {Q:Out->Prop}:wS cx (.cmp false i e) δ Q↔wE cx e δ λd δ1=>∃ ds,d = .lst ds/\rH δ1 i (.val (.lst ds)) λδ2=>Q (.nx δ2):=Kl
def xY {e:E} {Q:Out->Prop}:wS cx (.ret e) δ Q↔wE cx e δ λd δ1=>Q (.rt d δ1):=yb.trans (xc λ_ _=>yr)
def De {c:E} {a b:Ss} {Q:Out->Prop}:wS cx (.ifs c a b) δ Q↔wT cx c δ λk δ1=>if k = true then wSs cx a δ1 Q else wSs cx b δ1 Q:=yb.trans (xc λk _=>by cases k<;>exact cX)
def tM {tg:Tg} {src:It} {body:Ss} {Q:Out->Prop}:wS cx (.for_ tg src body) δ Q↔wI cx src δ λds δ1=>vD cx tg body ds δ1 Q:=yb.trans (xc λ_ _=>cX)
def Dc {c:E} {body:Ss} {Q:Out->Prop}:wS cx (.while_ c body) δ Q↔qf cx c body 1000 δ Q:=cX
def si {i:Nat} {e:E} {Q:Out->Prop}:wS cx (.append i e) δ Q↔rJ δ i λ_=>wE cx e δ λd δ1=>rJ δ1 i λds=>ds.length < sizeLine/\rH δ1 i (.own (ds++[d])) λδ2=>Q (.nx δ2):=by
 unfold wS rJ;simp only [evS]
 cases δ[i]? with
 | none=>exact yn id
 | some s =>
   cases s with
   | own ds0 =>
     refine yb.trans (xc λd δ1=>?_);dsimp only
     cases h1:δ1[i]? with
     | none=>exact yn id
     | some s =>
       cases s with
       | own ds=>exact yi.trans ⟨λq=>⟨q.1,(aC.mp h1).1,q.2⟩,λq=>⟨q.1,q.2.2⟩⟩
       | _=>exact yn id
   | _=>exact yn id
def Bg {i:Nat} {e:E} {Q:Out->Prop}:wS cx (.extend i e) δ Q↔rJ δ i λ_=>wE cx e δ λd δ1=>∃ ys,d = .lst ys/\rJ δ1 i λds=>ds.length+ys.length<=sizeLine/\rH δ1 i (.own (ds++ys)) λδ2=>Q (.nx δ2):=by
 unfold wS rJ;simp only [evS]
 cases δ[i]? with
 | none=>exact yn id
 | some s =>
   cases s with
   | own ds0 =>
     refine yb.trans (xc λd δ1=>?_)
     cases d with
     | lst ys =>
       refine Iff.trans ?_ AD.symm;dsimp only
       cases h1:δ1[i]? with
       | none=>exact yn id
       | some s =>
         cases s with
         | own ds=>exact yi.trans ⟨λq=>⟨q.1,(aC.mp h1).1,q.2⟩,λq=>⟨q.1,q.2.2⟩⟩
         | _=>exact yn id
     | _=>exact yn λ⟨_,e,_⟩=>by cases e
   | _=>exact yn id
def iC {tg:Tg} {body:Ss} {Q:Out->Prop}:vD cx tg body [] δ Q↔Q (.nx δ):=yr
def gZ {tg:Tg} {body:Ss} {x:D} {xs:List D} {Q:Out->Prop}:vD cx tg body (x::xs) δ Q↔wTg δ tg x λδ2=>wSs cx body δ2 (wQ (λδ3=>vD cx tg body xs δ3 Q) Q):=by
 unfold vD wTg wSs;simp only [forL,Ot]
 cases eP δ tg x with
 | none=>exact yn (λ⟨_,e,_⟩=>by cases e)
 | some δ2 =>
   refine Iff.trans ?_ yr.symm;dsimp only
   cases eC cx body δ2 with
   | none=>exact yn (λ⟨_,e,_⟩=>by cases e)
   | some o =>
     refine Iff.trans ?_ yr.symm
     cases o with
     | nx δ1=>exact cX
     | _=>exact yr
def oU {c:E} {body:Ss} {n:Nat} {Q:Out->Prop}:qf cx c body (n+1) δ Q↔wT cx c δ λk δ1=>if k = true then wSs cx body δ1 (wQ (λδ3=>qf cx c body n δ3 Q) Q) else Q (.nx δ1):=by
 unfold qf wT wSs;simp only [me]
 cases evT cx c δ with
 | none=>exact yn (λ⟨_,_,e,_⟩=>by cases e)
 | some p =>
   refine Iff.trans ?_ (xq.trans yr).symm;obtain ⟨k,δ1⟩:=p
   cases k with
   | false=>exact yr
   | true =>
     dsimp only
     cases eC cx body δ1 with
     | none=>exact yn (λ⟨_,e,_⟩=>by cases e)
     | some o =>
       refine Iff.trans ?_ yr.symm
       cases o with
       | nx δ1=>exact cX
       | _=>exact yr
def jI {tg:Tg} {body:Ss} {Q:Out->Prop} (P:List D->Loc->Prop) (step:∀ x xs δ,P (x::xs) δ->wTg δ tg x λδ2=>wSs cx body δ2 (wQ (P xs) Q)) (fin:∀ δ,P [] δ->Q (.nx δ)):∀ (ds:List D) (δ:Loc),P ds δ->vD cx tg body ds δ Q
 | [],δ,h=>iC.mpr (fin δ h)
 | x::xs,δ,h=>by
   rw [gZ];obtain ⟨δ2,e,o,e2,q⟩:=step x xs δ h;refine ⟨δ2,e,o,e2,?_⟩
   cases o with
   | nx δ1=>exact jI P step fin xs δ1 q
   | rt d δ1=>exact q
   | ro d δ1=>exact q
end
def mT {a b:Int} {Q:D->Prop}:wOp .add (.int a) (.int b) Q↔Q (.int (a+b)):=yr
def Dk {a b:Int} {Q:D->Prop}:wOp .mul (.int a) (.int b) Q↔kS a b = true/\Q (.int (a * b)):=yi
def mS {a b:Int} {Q:D->Prop}:wOp .mod (.int a) (.int b) Q↔0 < b/\Q (.int (a % b)):=yi
def nY {a b:Int} {Q:D->Prop}:wOp .fdiv (.int a) (.int b) Q↔(0 < b/\b < 1000000000000000000000000000000000000000000000000000000000000)/\Q (.int (a / b)):=yi
def Dj {a b:Int} {Q:D->Prop}:wOp .pow (.int a) (.int b) Q↔(0<=b/\b<=1000000/\a.natAbs < 2 ^ 64)/\Q (.int (a ^ b.toNat)):=yi
def Dl {a b:Str} {Q:D->Prop}:wOp .add (.str a) (.str b) Q↔a.length+b.length<=sizeLine/\Q (.str (a++b)):=yi
def Dm {a b:List D} {Q:D->Prop}:wOp .add (.lst a) (.lst b) Q↔a.length+b.length<=sizeLine/\Q (.lst (a++b)):=yi
def Hw {a b:Int} {Q:Bool->Prop}:tR .lt (.int a) (.int b) Q↔Q (decide (a < b)):=yr
def Hx {a b:Int} {Q:Bool->Prop}:tR .gt (.int a) (.int b) Q↔Q (decide (b < a)):=yr
def Dw {a b:Int} {Q:Bool->Prop}:tR .eq (.int a) (.int b) Q↔Q (decide (a = b)):=yr
def Dv {a b:Str} {Q:Bool->Prop}:tR .eq (.str a) (.str b) Q↔Q (a == b):=yr
def Du {a:D} {ds:List D} {Q:Bool->Prop}:tR .isin a (.tup ds) Q↔(dep a<=150/\cJ ds < 99999)/\Q (ds.any λy=>eqD y a):=yi
def Bo {ds:List D} {Q:D->Prop}:pA .len [.lst ds] Q↔Q (.int ds.length):=yr
def Bn {x:Str} {Q:D->Prop}:pA .len [.str x] Q↔x.length<=sizeLine/\Q (.int x.length):=yi
def Bp {b:Bool} {Q:D->Prop}:pA .toInt [.bl b] Q↔Q (.int (if b then 1 else 0)):=yr
def Bk {ds:List D} {Q:D->Prop}:pA .toTup [.lst ds] Q↔Q (.tup ds):=yr
def Bm {ds:List D} {Q:D->Prop}:pA .toLst [.lst ds] Q↔Q (.lst ds):=yr
def Bl {ds:List D} {Q:D->Prop}:pA .toLst [.tup ds] Q↔Q (.lst ds):=yr
def vE {ds:List D} {ns:List Int} {Q:D->Prop} (h:sS ds = some ns):pA .sum [.lst ds] Q↔Q (.int ns.sum):=by simp [pA,kF,DG,h]
def qh {ds:List D} {Q:D->Prop}:pA .sortb [.lst ds] Q↔Cu ds = true/\Q (.lst (kN ds)):=yi
def Kd {b:Bool} {Q:Bool->Prop}:wTv (.bl b) Q↔Q b:=yr
def Hm {ds:List D} {Q:Bool->Prop}:wTv (.lst ds) Q↔Q (!ds.isEmpty):=yr
def Hr {ds:List D} {i:Int} {Q:D->Prop}:wIx (.lst ds) (.int i) Q↔∃ d,L2.atI ds i = some d/\Q d:=cX
def yf {ds:List D} {Q:List D->Prop}:wItems (.lst ds) Q↔Q ds:=yr
def ye {ds:List D} {Q:List D->Prop}:wItems (.tup ds) Q↔Q ds:=yr
def jk (G:List Fd) (gl:List D) (n i:Nat) (ds:List D) (Q:D->Prop):Prop:=∃ d,PP.run G gl n i ds = some d/\Q d
def retS (Q:D->Prop):Out->Prop
 | .rt d _=>Q d
 | .nx _=>Q .non
 | .ro d _=>Q d
def gY {G:List Fd} {gl:List D} {n i:Nat} {ds:List D} {P Q:D->Prop} (h:jk G gl n i ds P) (k:∀ d,P d->Q d):jk G gl n i ds Q:=by
 obtain ⟨d,e,p⟩:=h;exact ⟨d,e,k d p⟩
def bx {G:List Fd} {gl:List D} {n i:Nat} {ds:List D} {Q:D->Prop} (fd:Fd) (h:G[i]? = some fd) (hl:ds.length = fd.ps.length) (hf:fd.hf = false) (q:wSs ⟨PP.run G gl n,gl,hfs G⟩ fd.body (init (fd.ps++fd.loc).length ds) (retS Q)):jk G gl (n+1) i ds Q:=by
 obtain ⟨o,e,q⟩:=q;unfold jk
 have:PP.run G gl (n+1) i ds = outD (eC ⟨PP.run G gl n,gl,hfs G⟩ fd.body (init (fd.ps++fd.loc).length ds)):=by
  conv=>lhs;unfold PP.run
  rw [h];dsimp only;rw [if_pos hl,hf];rfl
 rw [this,e]
 cases o with
 | rt d δ=>exact ⟨d,rfl,q⟩
 | ro d δ=>exact ⟨d,rfl,q⟩
 | nx δ=>exact ⟨.non,rfl,q⟩
def oe {G:List Fd} {gl:List D} {n f:Nat} {ds:List D} {Q:D->Prop}:Dx ⟨PP.run G gl n,gl,hfs G⟩ f ds Q↔jk G gl n f ds Q:=cX
def HY {Q:D->Prop} {d:D} {δ:Loc}:retS Q (.rt d δ)↔Q d:=cX
def Hq {x:Str} {i:Int} {Q:D->Prop}:wIx (.str x) (.int i) Q↔x.length<=sizeLine/\∃ c,L2.atI x.cps.toList i = some c/\Q (.str ⟨#[c]⟩):=by
 unfold wIx ixD;dsimp only;constructor
 . rintro ⟨z,e,q⟩;split at e
   . rw [bp] at e;obtain ⟨c,e,rfl⟩:=e;exact ⟨‹_›,c,e,q⟩
   . cases e
 . rintro ⟨h,c,e,q⟩;exact ⟨_,by rw [if_pos h,e];rfl,q⟩
def bG {G:List Fd} {gl:List D} {n i:Nat} {ds:List D} {d:D} {Q:D->Prop} (h:PP.run G gl n i ds = some d):jk G gl n i ds Q↔Q d:=by
 unfold jk;rw [h];exact ⟨λ⟨_,e,q⟩=>by cases e;exact q,λq=>⟨d,rfl,q⟩⟩
def bR {G:List Fd} {gl:List D} {n i:Nat} {ds:List D} {d:D} (h:jk G gl n i ds λx=>x = d):PP.run G gl n i ds = some d:=by
 obtain ⟨x,e,rfl⟩:=h;exact e
def AQ {α:Type} {ds:List α} {j:Int} (h0:0<=j) (h1:j < ds.length):∃ d,d∈ds/\L2.atI ds j = some d:=by
 have hk:j.toNat < ds.length:=by omega
 refine ⟨ds[j.toNat],eN hk,?_⟩;have:=L2.atI_nat (xs:=ds) (j:=j.toNat) (v:=ds[j.toNat]) (aD hk)
 rwa [show ((j.toNat:Nat):Int) = j by omega] at this
def mul_r {a b:Int} (h0:-(2 ^ 64) < b) (h1:b < 2 ^ 64):kS a b = true:=by
 unfold kS;simp only [decide_eq_true h0,decide_eq_true h1,dA,xV,kJ]
def Oc {a b:Int} (h0:-(2 ^ 64) < a) (h1:a < 2 ^ 64):kS a b = true:=by
 unfold kS;simp only [decide_eq_true h0,decide_eq_true h1,dA,xV,kJ]
def JM {a b:Int} (h0:a.natAbs < 2 ^ 200) (h1:b.natAbs < 2 ^ 200):kS a b = true:=by
 unfold kS;simp only [decide_eq_true h0,decide_eq_true h1,dA,xV,kJ]
def zF (a b:Str):(a++b).length = a.length+b.length:=by
 show (a.cps++b.cps).size = a.cps.size+b.cps.size;exact gR
def small {n:Nat} (h:n<=1000):n<=sizeLine:=ly (ff h ⇑0)
def str_len (x:Str):x.cps.toList.length = x.length:=by
 show x.cps.toList.length = x.cps.size;simp
def pK {lo:Int} {n:Nat} {x:D} (h:x∈pB lo n):∃ i:Nat,i < n/\x = .int (lo+i):=by
 unfold pB at h;rw [cL] at h;obtain ⟨i,hi,rfl⟩:=h;exact ⟨i,by simpa using hi,rfl⟩
def jY {lo:Int} {n:Nat}:(pB lo n).length = n:=by simp [pB]
def Dp {a b c:D} {ds:List D} {Q:D->Prop}:wIx (.tup (a::b::c::ds)) (.int 2) Q↔Q c:=by
 have:L2.atI (a::b::c::ds) 2 = some c:=L2.atI_nat (j:=2) rfl;simp [wIx,ixD,this]
def tK {δ:Loc} {i j:Nat} {a b:D} {Q:Loc->Prop}:wTg δ (.tp [i,j]) (.tup [a,b]) Q↔rH δ i (.val a) λδ1=>rH δ1 j (.val b) Q:=by
 rw [Ke];unfold rH;simp only [nQ,List.all_nil,cA,Bool.and_true,aa,decide_eq_true_eq];exact ⟨λ⟨⟨_,h1,h2⟩,q⟩=>⟨h1,h2,q⟩,λ⟨h1,h2,q⟩=>⟨⟨rfl,h1,h2⟩,q⟩⟩
def SI:=az (@aJ.{0,0}) (az (@xS.{0,0}) (az (@kC.{0}) (az (@fi.{0}) (az (@cB.{0}) (az (@aB.{0}) (az (@aM.{0}) (az (@List.replicate_succ.{0}) (@List.replicate_zero.{0}))))))))
def WI:(∀ a b:Prop,(if True then a else b) = a)/\(∀ a b:Prop,(if False then a else b) = b)/\((false = true) = False)/\∀ (p:Prop) [Decidable p],(decide p = true) = p:=⟨λ_ _=>if_pos trivial,λ_ _=>if_neg id,↥0,λp _=>by simp⟩
def WS:=az (@Nj) (az (@Kv) (az (@Ks) (az (@Ky) (az (@Kw) (az (@Ki) (az (@Dt) (az (@Kt) (az (@Kj) (az (@Nb) (az (@Kh) (az (@Kg) (az (@Hn) (az (@Kr) (az (@Ku) (az (@Nk) (az (@Ni) (az (@pH) (az (@Kx) (az (@Ht) (az (@Ds) (az (@Nf) (az (@Km) (az (@Nh) (az (@Ko) (az (@Kn) (az (@Ng) (az (@tQ) (az (@jJ) (az (@DE) (az (@fV) (az (@CZ) (az (@Bc) (az (@Bb) (az (@Dh) (az (@yd) (az (@yc) (az (@Bh) (az (@Df) (az (@Be) (az (@CT) (az (@CU) (az (@Bj) (az (@Dq) (az (@Bi) (az (@Di) (az (@Hu) (az (@fw) (az (@dC) (az (@xZ) (az (@Kf) (az (@Kk) (az (@xY) (az (@De) (az (@tM) (az (@si) (az (@Bg) (az (@mT) (az (@Dk) (az (@mS) (az (@nY) (az (@Dj) (az (@Dm) (az (@Hw) (az (@Hx) (az (@Dw) (az (@Dv) (az (@Du) (az (@Bo) (az (@Bn) (az (@Bp) (az (@Bk) (az (@Bm) (az (@Bl) (az (@Kd) (az (@Hm) (az (@Hr) (az (@yf) (az (@ye) (az (@oe) (az (@HY) (az (@Ow) (az (@AE) (az (@AD) (az (@Dp) (az (@tK) (jC))))))))))))))))))))))))))))))))))))))))))))))))))))))))))))))))))))))))))))))))))))))
def tD {α:Type} (e:∀ i j,i < n->j < n->lt i j = lt' i j):∀ (t:PySem.W.KasT α),inR lt n t->ans lt t = ans lt' t
 | .ret a,_=>rfl
 | .ask i j k,h=>by
   unfold inR at h;rw [fF,fF,<- e i j h.1 h.2.1];exact tD e _ h.2.2
def BE {α β:Type} (d:α) (f:α->β) (xs:List α):(cc xs.length).map (λi=>f (xs.getD i d)) = xs.map f:=by
 apply Hf
 . simp
 . intro i h1 h2;simp only [ay] at h2;simp [mJ,aD h2]
def DH {α:Type} [Inhabited α] (g:α->D) (lt:α->α->Bool) (hlt:∀ x y,iN (g x) (g y) = some (lt x y)) (as:∀ a b,lt a b = true->lt b a = false) (tr:∀ a b c,lt b a = false->lt c b = false->lt c a = false) (xs:List α) :
 ∃ ys:List α,fU (xs.map g) = ys.map g/\ys.Perm xs/\∀ i j,i<=j->j < ys.length->lt (ys.getD j default) (ys.getD i default) = false:=by
 have rf:∀ a,lt a a = false:=λa=>by
  cases e:lt a a with
  | false=>rfl
  | true=>rw [as a a e] at e;cases e
 unfold fU;rw [ay];split
 . rename_i h;refine ⟨xs,rfl,List.Perm.refl _,λi j h1 h2=>?_⟩;have:i = j:=by omega
   subst this;exact rf _
 . rename_i h
   have hg:∀ i,i < xs.length->(xs.map g).getD i .non = g (xs.getD i default):=λi hi=>by
    simp [mJ,aD hi]
   have e:ans (fy (xs.map g)) (PySem.W.kas_sort xs.length) = ans (λi j=>lt (xs.getD i default) (xs.getD j default)) (PySem.W.kas_sort xs.length):=by
    refine tD (n:=xs.length) (λi j hi hj=>?_) _ (zK (by omega));unfold fy;rw [hg i hi,hg j hj,hlt];rfl
   rw [e];obtain ⟨z,p,u⟩:=HD (lt:=λi j=>lt (xs.getD i default) (xs.getD j default)) ⟨λa b=>as _ _,λa b c=>tr _ _ _⟩ xs.length (by omega);have pl:(ans (λi j=>lt (xs.getD i default) (xs.getD j default)) (PySem.W.kas_sort xs.length)).toList.Perm (cc xs.length):=(letI:Tbs:=⟨[],[],[],[]⟩;iX _);generalize ans (λi j=>lt (xs.getD i default) (xs.getD j default)) (PySem.W.kas_sort xs.length) = r at z p u pl |-;refine ⟨r.toList.map λi=>xs.getD i default,?_,?_,λi j h1 h2=>?_⟩
   . rw [xT];refine List.map_congr_left λi hi=>?_;exact hg i (by simpa using pl.mem_iff.mp hi)
   . have:=pl.map λi=>xs.getD i default
     rwa [show (cc xs.length).map (λi=>xs.getD i default) = xs from by simpa using BE default id xs] at this
   . rw [ay,aK,z] at h2
     have hr:∀ k,k < xs.length->(r.toList.map λi=>xs.getD i default).getD k default = xs.getD (r.getD k 0) default:=λk hk=>by
      have hk':k < r.toList.length:=by rw [aK,z];exact hk
      have hk2:k < r.size:=by rw [z];exact hk
      simp [mJ,hk2,Array.getD]
     rw [hr i (by omega),hr j h2];exact u i j h1 h2
section
variable {cx:Cl} {δ:Loc}
def hJ {α:Type} (g:α->D) (p:α->Bool) (h:α->D):∀ (xs:List α),(∀ x∈xs,wTg (δ++aZ k .no) tg (g x) λδ2=>wG cx ifs δ2 λb δ3=>b = p x/\if b = true then wE cx elt δ3 λy δ4=>y = h x/\δ4.take δ.length = δ else δ3.take δ.length = δ) ->
 Q ((xs.filter p).map h) δ->qg cx k tg ifs elt (xs.map g) δ Q
 | [],_,q=>nZ.mpr q
 | x::xs,hx,q=>by
   rw [aJ,mf];obtain ⟨δ2,e,b,δ3,e2,rfl,e3⟩:=hx x au;refine ⟨δ2,e,_,δ3,e2,?_⟩
   cases hp:p x with
   | true =>
     rw [hp,if_pos rfl] at e3;obtain ⟨y,δ4,e4,rfl,t⟩:=e3;rw [if_pos rfl];refine ⟨_,δ4,e4,?_⟩;show qg cx k tg ifs elt _ (δ4.take δ.length) _;rw [t];refine hJ g p h xs (λz hz=>hx z (ak _ hz)) ?_;rw [xO hp] at q
     exact q
   | false =>
     rw [hp,if_neg aj] at e3;rw [if_neg aj,e3];refine hJ g p h xs (λz hz=>hx z (ak _ hz)) ?_;rw [xP (by simp [hp])] at q;exact q
def jb {α:Type} (g:α->D) (P:List α->Loc->Prop) (step:∀ x xs δ,P (x::xs) δ->wTg δ tg (g x) λδ2=>wSs cx body δ2 (wQ (P xs) Q)) (fin:∀ δ,P [] δ->Q (.nx δ)) (xs:List α) (δ:Loc) (h:P xs δ):vD cx tg body (xs.map g) δ Q:=by
 induction xs generalizing δ with
 | nil=>exact iC.mpr (fin δ h)
 | cons x xs ih =>
   rw [aJ,gZ];obtain ⟨δ2,e,o,e2,q⟩:=step x xs δ h;refine ⟨δ2,e,o,e2,?_⟩
   cases o with
   | nx δ3=>exact ih δ3 q
   | rt d δ3=>exact q
   | ro d δ3=>exact q
end
section
variable {cx:Cl} {δ:Loc}
end
section
variable {cx:Cl} {δ:Loc}
end
end PP
end
section
namespace PP
open PySem L2 PyProof.Rows
def IZ (t:jn) (es:Array (Int × ae)) (h:Int) (x:ae):(layNew t es h x).2.1.led = t.led:=by
 unfold layNew;split
 . dsimp only;unfold SetTable.orStandIn;split<;>rfl
 . rfl
def BU (t:jn) (es:Array (Int × ae)) (m:Nat):(relayAll t es m).2.1.led = t.led:=by
 unfold relayAll;split
 . rename_i t' order h;dsimp only;split
   . unfold Cw SetTable.laid at h;simp only [af,ag,dM] at h;obtain ⟨_,_,e⟩:=h;cases e;rfl
   . rfl
 . rfl
def wt (t:jn) (es:Array (Int × ae)) (m:Nat) (hp:t.plain = false):(relayAll t es m).2.1.plain = false:=by
 unfold relayAll;split
 . rename_i t' order h;dsimp only;split
   . unfold Cw SetTable.laid at h;simp only [af,ag,dM] at h;obtain ⟨_,_,e⟩:=h;cases e;exact hp
   . rfl
 . rfl
def ze (P:aS) (w:bD) (us:List Str) (es:List (Int × ae)):Prop:=ElemsOf (strKind P w) es/\Paired (λ(u:Str) (e:Int × ae)=>∃ tk,e.2 = .str u tk) us es
def oK (P:aS) (w:bD) (a:aw) (ts:List Str) (h:cb):Prop:=∃ (es:Array (Int × ae)) (ep:Nat) (t:jn) (us:List Str),
 h.get? a = some { cls:=.type "set",dict:=none,data:=.set es ep t,slots := #[] }/\t.fits es.size = true/\t.led = (!w.params.followText "set-order")/\(es.size = 0\/t.plain = false)/\us.Perm ts/\ze P w us es.toList
section
variable {prog:aS} {w:bD} {A:aW} {E:ae->ai->Prop} {s:ai}
def isStr_of:(strKind prog w).is x (.str u tk) = decide (u = x):=by
 show Value.isStrOf x (.str u tk) = _;unfold Value.isStrOf;by_cases h:u = x
 . subst h;simp
 . simp [h]
def find_none:∀ {us:List Str} {es:List (Int × ae)},Paired (λ(u:Str) (e:Int × ae)=>∃ tk,e.2 = .str u tk) us es->(es.findIdx? (λe=>(strKind prog w).is x e.2) = none↔x∉us)
 | _,_,.nil=>by simp
 | _,_,.cons (a:=u) (b:=e) r t=>by
   obtain ⟨tk,hr⟩:=r;rw [CH,hr,isStr_of,aQ];by_cases h:u = x
   . subst h;simp
   . simp [h,find_none (x:=x) t,Ne.symm h]
def sW (h:ze prog w us es) (p:Hh es' es):∃ us',us'.Perm us/\ze prog w us' es':=by
 obtain ⟨h1,h2⟩:=h
 suffices q:∀ {es' es:List (Int × ae)},Hh es' es->∀ us,Paired (λ(u:Str) (e:Int × ae)=>∃ tk,e.2 = .str u tk) us es->∃ us',us'.Perm us/\Paired (λ(u:Str) (e:Int × ae)=>∃ tk,e.2 = .str u tk) us' es' by
  obtain ⟨us',p',r⟩:=q p us h2;exact ⟨us',p',h1.perm p,r⟩
 intro es' es p
 induction p with
 | nil=>intro us r;exact ⟨us,.refl _,r⟩
 | cons x _ ih =>
   intro us r
   cases r with
   | cons r t =>
     obtain ⟨us',p',r'⟩:=ih _ t
     exact ⟨_,p'.cons _,.cons r r'⟩
 | swap x y l =>
   intro us r
   cases r with
   | cons r1 t =>
     cases t with
     | cons r2 t=>exact ⟨_,.swap _ _ _,.cons r2 (.cons r1 t)⟩
 | trans _ _ i1 i2 =>
   intro us r;obtain ⟨u1,p1,r1⟩:=i2 us r;obtain ⟨u2,p2,r2⟩:=i1 u1 r1;exact ⟨u2,p2.trans p1,r2⟩
def Cb (h:ze prog w us es) (x:Str) (tk:Tok):ze prog w (us++[x]) (es++[((strKind prog w).hash x,.str x tk)]):=by
 refine ⟨h.1.push (isStr_of.trans (decide_eq_true rfl)) rfl,?_⟩
 have:∀ {us:List Str} {es:List (Int × ae)},Paired (λ(u:Str) (e:Int × ae)=>∃ tk,e.2 = .str u tk) us es->Paired (λ(u:Str) (e:Int × ae)=>∃ tk,e.2 = .str u tk) (us++[x]) (es++[((strKind prog w).hash x,.str x tk)]):=by
  intro us es r
  induction r with
  | nil=>exact .cons ⟨tk,rfl⟩ .nil
  | cons r _ ih=>exact .cons r ih
 exact this h.2
def kY {us:List Str} {es:List (Int × ae)} (h:ze prog w us es):es.length = us.length:=by
 have r:=h.2;clear h
 induction r with
 | nil=>rfl
 | cons _ _ ih=>simp [ih]
def zP {a:aw} {es es':Array (Int × ae)} {ep:Nat} {t t':jn} {h:cb} (g:h.get? a = some { cls:=.type "set",dict:=none,data:=.set es ep t,slots := #[] }) :
 (h.update a (GN es' t')).get? a = some { cls:=.type "set",dict:=none,data:=.set es' (ep+1) t',slots := #[] }:=dh (GN es' t') g rfl
def set_tail {g:Bool->Sem Unit} (hg:∀ (b:Bool) (s1:ai) (Q':Unit->ai->Prop),Q' () s1->wpAny (model prog w) A (g b) Q' E s1) {a:aw} {es es1:Array (Int × ae)} {ep:Nat} {t t2:jn} {ts us1:List Str}
 (k:s.heap.get? a = some { cls:=.type "set",dict:=none,data:=.set es ep t,slots := #[] }) (e1:ze prog w us1 es1.toList) (q1:us1.Perm ts) (z:ts.length < scanBound) (f2:t2.fits es1.size = true) (l2:t2.led = (!w.params.followText "set-order")) (p2:t2.plain = false)
 {dm:Bool} {R:Option Bool->ai->Prop} (h:∀ h',fQ a s.heap h'->oK prog w a ts h'->R (some true) { s with heap:=h' }) :
 wpAny (model prog w) A (do
  storeSet a es1 t2
  if (!dm && t2.tooFull) = true then do
   g (relayAll t2 es1 (en es1.size)).2.2
   storeSet a (relayAll t2 es1 (en es1.size)).1 (relayAll t2 es1 (en es1.size)).2.1
   pure (some true)
  else pure (some true)) R E s:=by
 have z1:es1.size < scanBound:=by rw [<- aK,kY e1,q1.length_eq];exact z
 have k1:=zP (es':=es1) (t':=t2) k;have sb1:=cm s.heap a (GN es1 t2);refine ab (MX k rfl ?_ (Na z1));split
 . have pr:=relayAll_perm t2 es1 (en es1.size);have fr:=relayAll_fits t2 es1 (en es1.size);have lr:=BU t2 es1 (en es1.size);have nr:=wt t2 es1 (en es1.size) p2;generalize relayAll t2 es1 (en es1.size) = L at pr fr lr nr |-;obtain ⟨es2,t3,gv⟩:=L;dsimp only at pr fr lr nr |-;obtain ⟨us2,q2,e2⟩:=sW e1 pr;have z2:es2.size < scanBound:=by rw [<- aK,kY e2,(q2.trans q1).length_eq];exact z
   refine ab (hg _ _ _ (ab (MX k1 rfl (aq (h _ (sb1.trans (cm _ a _)) ?_)) (Na z2))));exact ⟨es2,_,t3,us2,zP k1,fr,lr.trans l2,.inr nr,q2.trans q1,e2⟩
 . exact aq (h _ sb1 ⟨es1,_,t2,us1,k1,f2,l2,.inr p2,q1,e1⟩)
def wd (hS:oK prog w a ts s.heap) (hr:ts.length+1 < scanBound)
 (fin:∀ b h',fQ a s.heap h'->oK prog w a (if x∈ts then ts else ts++[x]) h'->Q b { s with heap:=h',toks:=s.toks+1 }) :
 wpAny (model prog w) A (setAdd a (.str x tk)) Q E s:=by
 obtain ⟨es,ep,t,us,g,hf,hl,hp,hu,he⟩:=hS;have hsz:es.size = ts.length:=by rw [<- aK,kY he,hu.length_eq]
 have hk:(strKind prog w).is x (.str x tk) = true:=isStr_of.trans (decide_eq_true rfl);unfold setAdd;refine bY (ab ((strKind prog w).pyHash hk ?_))
 (unfold setAddHashed setAddHashedIn)
 refine bY (ab (fN (s:={ s with toks:=s.toks+1 }) g rfl hf ?_));dsimp only;rw [byScan_of rfl ∅ he.1];simp only [↓reduceIte];unfold setAddByScan;refine ab (ab (dQ (ab (wpAny_setScan_of (s:={ s with toks:=s.toks+1 }) hk g rfl hf he.1 ?_))));have hfn:=find_none (prog:=prog) (w:=w) (x:=x) he.2
 cases hi:List.findIdx? (λe=>(strKind prog w).is x e.2) es.toList with
 | some j =>
   have hm:x∈ts:=by
    apply qd;intro z;rw [hfn.mpr λz'=>z (hu.mem_iff.mp z')] at hi;cases hi
   rw [if_pos hm] at fin
   exact aq (aq (fin false s.heap (vt a s.heap) ⟨es,ep,t,us,g,hf,hl,hp,hu,he⟩))
 | none =>
   have hm:x∉ts:=λz=>(hfn.mp hi) (hu.mem_iff.mpr z);rw [if_neg hm] at fin;dsimp only;have p1:=layNew_perm t es ((strKind prog w).hash x) (.str x tk);have f1:=layNew_fits t es ((strKind prog w).hash x) (.str x tk);have l1:=IZ t es ((strKind prog w).hash x) (.str x tk);generalize layNew t es ((strKind prog w).hash x) (.str x tk) = L at p1 f1 l1 |-;obtain ⟨es1,t1,dm,gv⟩:=L;dsimp only at p1 f1 l1 |-;rw [fo] at p1;obtain ⟨us1,q1,e1⟩:=sW (Cb he x tk) p1;have q1':us1.Perm (ts++[x]):=q1.trans (hu.append (.refl _));have z1:es1.size = ts.length+1:=by rw [<- aK,kY e1,q1'.length_eq];simp
   have gw:∀ (b:Bool) {s1:ai} {Q':Unit->ai->Prop},Q' () s1->wpAny (model prog w) A (match b with | true=>rule "set.scan.the-table-gave-way" | false=>pure ()) Q' E s1:=λb s1 Q' q=>by
    cases b
    . exact aq q
    . exact dQ q
   refine ab (gw _ ?_);have gw':∀ (b:Bool) (s1:ai) (Q':Unit->ai->Prop),Q' () s1->wpAny (model prog w) A (match b with | true=>rule "set.scan.the-table-gave-way" | false=>pure ()) Q' E s1:=λb s1 Q' q=>gw b q;have zz:(ts++[x]).length < scanBound:=by rw [ax,bZ];exact hr
   split
   . refine ab (kH (hashByValue_scannable 8 rfl) ?_);refine set_tail (s:={ s with toks:=s.toks+1 }) (t2:={ t1 with plain:=false }) gw' g e1 q1' zz (SetTable.fits_plain_off f1) (l1.trans hl) rfl ?_;exact λh' hs hx=>aq (fin true h' hs hx)
   . rename_i np;refine ab (aq ?_);refine set_tail (s:={ s with toks:=s.toks+1 }) (t2:=t1) gw' g e1 q1' zz f1 (l1.trans hl) (by simpa using np) ?_;exact λh' hs hx=>aq (fin true h' hs hx)
def Gy (hS:oK prog w a ts s.heap) (hr:ts.length+1 < scanBound)
 (h:∀ h',fQ a s.heap h'->oK prog w a (if x∈ts then ts else ts++[x]) h'->Q .none { s with heap:=h',toks:=s.toks+1 }) :
 wpAny (model prog w) A (call (.builtin "set.add") [.ref a,.str x tk]) Q E s:=by
 have g:∃ o,s.heap.get? a = some o/\o.cls = .type "set":=by
  obtain ⟨es,ep,t,us,g,_⟩:=hS;exact ⟨_,g,rfl⟩
 refine bW PySem.F.slot_set_add g PySem.F.entry_set_add ?_ (PySem.F.args_set_add_2 _ _);unfold eJ.«set.add» Builtin.Frozenset.oneOther;simp only [kB,bind_assoc];unfold mK;refine ab (aq (ab (aq (ab (wd hS hr λb h' hs hx=>?_)))));exact aq ⟨_,rfl,h h' hs hx⟩
end
def Cg {E:ae->ai->Prop} (hn:n≠0) (h:∀ i,i < n->Q i { s with drawn:=s.drawn.bump src }):wpAny M A (choose src n) Q E s :=
 λΓ p hΓ=>⟨hn,h _ (Nat.mod_lt _ (jH hn))⟩
def mG {α:Type}:∀ {xs:List α} {i:Nat} {x:α},xs[i]? = some x->xs.Perm (x::xs.eraseIdx i)
 | [],i,x,h=>by simp at h
 | y::ys,0,x,h=>by simp at h;subst h;exact .refl _
 | y::ys,i+1,x,h=>by
   have:=mG (xs:=ys) (i:=i) (by simpa using h);exact (this.cons y).trans (.swap _ _ _)
def wB {E:ae->ai->Prop} {α:Type}:∀ (n:Nat) (xs:List α) (s:ai) (Q:List α->ai->Prop),xs.length = n->(∀ ys d,ys.Perm xs->Q ys { s with drawn:=d })->wpAny M A (drawOrder n xs) Q E s
 | 0,xs,s,Q,hl,h=>by
   have:xs = []:=eL.mp hl;subst this
   exact aq (h [] s.drawn (.refl _))
 | n+1,[],s,Q,hl,h=>by simp at hl
 | n+1,x::xs,s,Q,hl,h=>by
   unfold drawOrder;refine ab (Cg ↥0 λi hi=>?_);have e:(x::xs)[i]? = some (x::xs)[i]:=aD hi;have pe:=mG e;rw [e];dsimp only;refine ab (wB n _ _ _ ?_ λys d p=>aq ?_)
   . rw [tH hi];simp at hl |-;exact hl
   . exact h _ d ((p.cons _).trans pe.symm)
def Ab {α:Type} (f:Nat->Nat):∀ (n k:Nat) (left:List α) (out:Array α),left.length = n->(rW f n k left out).toList.Perm (out.toList++left)
 | 0,k,left,out,hl=>by
   have:left = []:=eL.mp hl;subst this
   simp [rW]
 | n+1,k,left,out,hl=>by
   have hi:f k % left.length < left.length:=Nat.mod_lt _ ∅;have e:left[f k % left.length]? = some left[f k % left.length]:=aD hi;have pe:=mG e;unfold rW;rw [e];dsimp only;refine (Ab f n (k+1) _ _ (by rw [tH hi];lia)).trans ?_;rw [fo,aU];exact (List.Perm.refl _).append pe.symm
def sG {α:Type} (f:Nat->Nat) (xs:Array α):(pickOrder f xs).toList.Perm xs.toList:=by
 have:=Ab f xs.size 0 xs.toList #[] ↥0;simpa [pickOrder] using this
def lB:Slot "set_iterator" "__next__" "set_iterator.__next__" :=
 .of (owner:="set_iterator") (n:="__next__") (by rw [mN,iY];kernel_rfl) ⇑0 ⇑0 ⇑0 (by first | exact .inl ⇑0 | exact .inr ⇑0) (by rw [zo];kernel_rfl)
def xk:entryFor table "set_iterator.__next__" = some eJ.«set_iterator.__next__»:=entryFor_of_tree ⋯
def AS (a:ae):argsOk "set_iterator.__next__" ⟨[a],[]⟩:=by unfold argsOk;kernel_rfl
def FX:entryFor table "set.__iter__" = some eJ.«frozenset.__iter__»:=entryFor_alias (id':="frozenset.__iter__") ⋯ rfl ⇑0 ⋯
def Cc:entryFor table "set_iterator.__iter__" = some eJ.«dict_keyiterator.__iter__»:=entryFor_alias (id':="dict_keyiterator.__iter__") ⋯ rfl ⇑0 ⋯
def Gw (a:ae):argsOk "set_iterator.__iter__" ⟨[a],[]⟩:=by unfold argsOk;kernel_rfl
def vZ:Slot "set_iterator" "__iter__" "set_iterator.__iter__" :=
 .of (owner:="set_iterator") (n:="__iter__") (by rw [mN,iY];kernel_rfl) ⇑0 ⇑0 ⇑0 (by first | exact .inl ⇑0 | exact .inr ⇑0) (by rw [zo];kernel_rfl)
section
variable {prog:aS} {w:bD} {A:aW} {E:ae->ai->Prop} {s:ai}
def itO (first:ae) (i:Nat) (a:aw) (n ep:Nat):Obj:={ cls:=.type "set_iterator",data:=.fields #[first,.int i 0,.ref a,.int n 0,.int ep 0] }
def Fw (g:s.heap.get? a = some { cls:=.type "set",dict:=none,data:=.set es ep t,slots := #[] }) (hf:t.fits es.size = true)
 (hd:(w.params.followText "set-order" = true\/es.size<=1)->Q (.ref s.heap.objs.size) { s with heap:=s.heap.push (itO (.int 0 0) 0 a es.size ep) })
 (hn:w.params.followText "set-order" = false->∀ (ps:List Nat) d,ps.Perm (cc es.size) ->
   Q (.ref (s.heap.objs.size+1)) { s with drawn:=d,heap:=(s.heap.push { cls:=.type "tuple",data:=.seq (ps.map λ(i:Nat)=>rawInt i).toArray }).push (itO (.ref s.heap.objs.size) 0 a es.size ep) })
 (hz:es.size < 1000) (hp:es.size = 0\/t.plain = false):wpAny (model prog w) A (pyIter (.ref a)) Q E s:=by
 refine MY (T:="set") ⟨_,g,rfl⟩ PySem.F.slot_set_iter (bW PySem.F.slot_set_iter ⟨_,g,rfl⟩ FX ?_ (PySem.F.args_set_iter_1 _));unfold eJ.«frozenset.__iter__» Builtin.Frozenset.slot0 mK Builtin.Frozenset.sizeOf;simp only [slotArgs,kB,nU,bb,if_false,aM,bne_self_eq_false,pure_bind,bind_assoc];refine ab (pD g rfl hf ?_);unfold setDrawn setsByText;simp only [bind_assoc,pure_bind];refine ab (fN g rfl hf (ab (eZ ?_)));have sn:typeLookup (.type "set_iterator") (fX "__next__") = pure (some (.builtin "set_iterator.__next__")):=lB.lookup
 cases hb:w.params.followText "set-order" with
 | true =>
   rw [show ((model prog w).w.params.followText "set-order") = true from hb];simp only [nU,Bool.false_and,bb,if_false]
   refine ab (rV g rfl hf (ab (bA (aq ⟨_,rfl,"set_iterator",_,⟨_,aF _ rfl,rfl⟩,sn,hd (.inl hb)⟩))))
 | false =>
   rw [show ((model prog w).w.params.followText "set-order") = false from hb];split
   . refine ab (wB _ _ _ _ ↥0 λps d p=>?_);have hl:ps.length = es.size:=by rw [p.length_eq];simp
     unfold newTuple;refine ab (bA ?_ (by show (ps.map λ(i:Nat)=>rawInt i).toArray.size<=sizeLine;rw [cF];simp;lia));refine ab (rV (s:={ s with drawn:=d,heap:=s.heap.push { cls:=.type "tuple",data:=.seq (ps.map λ(i:Nat)=>rawInt i).toArray } }) (ah _ g) rfl hf ?_);refine ab (bA (aq ⟨_,rfl,"set_iterator",_,⟨_,aF _ rfl,rfl⟩,sn,?_⟩));have:=hn hb ps d p;rw [show (s.heap.push { cls:=.type "tuple",data:=.seq (ps.map λ(i:Nat)=>rawInt i).toArray }).objs.size = s.heap.objs.size+1 from bJ ..];exact this
   . rename_i nd
     have h1:es.size<=1:=by
      rcases hp with z | z
      . lia
      . apply qd;intro h2;apply nd;show (!false && (!t.plain && decide (es.size > 1))) = true;rw [z];simp
        lia
     refine ab (rV g rfl hf (ab (bA (aq ⟨_,rfl,"set_iterator",_,⟨_,aF _ rfl,rfl⟩,sn,hd (.inr h1)⟩))))
end
section
variable {prog:aS} {w:bD} {A:aW} {E:ae->ai->Prop} {s:ai}
def yw (es:Array (Int × ae)) (ep:Nat) (t:jn):Obj:={ cls:=.type "set",dict:=none,data:=.set es ep t,slots := #[] }
def plO (ps:List Nat):Obj:={ cls:=.type "tuple",data:=.seq (ps.map λ(i:Nat)=>rawInt i).toArray }
def uB (g:s.heap.get? I = some (itO f i a n ep)) (h:Q (.ref I) s):wpAny (model prog w) A (pyIter (.ref I)) Q E s:=by
 refine MY (T:="set_iterator") ⟨_,g,rfl⟩ vZ (bW vZ ⟨_,g,rfl⟩ Cc ?_ (Gw _));exact aq ⟨_,rfl,"set_iterator",_,⟨_,g,rfl⟩,lB.lookup,h⟩
def zG {Q:Option ae->ai->Prop} {Q':PySem.Fin->ai->Prop} (hh:A.handled = none) (h:∀ h',(∀ b o,s.heap.get? b = some o->h'.get? b = some o)->Q none { s with heap:=h' }) :
 wpAny (model prog w) A.in1 (do raiseNew (<- newExc (.type "StopIteration") [])) Q' (λe s'=>wpAny (model prog w) A (do
  let b <- isInstance e (.type "StopIteration")
  if b = true then pure none else throw e) Q E s') s:=by
 refine ab ?_;simp only [newExc,newTuple];refine ab (bA (ab (m:=firstArgMember _ _) (kH (a:=bH) (by first | rfl | (simp only [firstArgMember];rfl)) (bA ?_ (by size_fits)))) (by size_fits));simp only [raiseNew];apply ab;apply wpAny_handled;rw [(hh:A.in1.handled = none)];dsimp only;apply wpAny_throw;refine ab (vh (b:=true) (T:="StopIteration") ⟨_,aF _ rfl,rfl⟩ isSubtype_stop (aq (h _ λb o e=>?_)));exact ah _ (ah _ e)
def qP {I:aw} {f x:ae} {i:Nat} {a:aw} {n ep:Nat} {h:cb} (g:h.get? I = some (itO f i a n ep)):(h.update I (kr (·.setIfInBounds 0 x))).get? I = some (itO x i a n ep):=dh _ g rfl
def wU {I:aw} {f:ae} {i:Nat} {a:aw} {n ep:Nat} {h:cb} (g:h.get? I = some (itO f i a n ep)):(h.update I (kr (·.setIfInBounds 1 (rawInt ((i:Int)+1))))).get? I = some (itO f (i+1) a n ep):=by
 have:=dh (kr (·.setIfInBounds 1 (rawInt ((i:Int)+1)))) g rfl;rw [this];simp [kr,itO,rawInt]
section
variable {I a:aw} {es:Array (Int × ae)} {ep:Nat} {t:jn} {i:Nat} {Q:Option ae->ai->Prop}
def uv {slot:Nat} (g:s.heap.get? I = some (itO (.int slot 0) i a es.size ep)) (ga:s.heap.get? a = some (yw es ep t)) (hf:t.fits es.size = true) (hh:A.handled = none) {r:Option (ae × Nat)}
 (hs:∀ (A':aW) (Q':Option (ae × Nat)->ai->Prop) (E':ae->ai->Prop),Q' r s->wpAny (model prog w) A' (setNext a slot i ep) Q' E' s)
 (h:match r with
   | some (x,next)=>∀ h',h'.get? I = some (itO (.int next 0) (i+1) a es.size ep)->(∀ b o,b≠I->s.heap.get? b = some o->h'.get? b = some o)->Q (some x) { s with heap:=h' }
   | none=>∀ h',(∀ b o,b≠I->s.heap.get? b = some o->h'.get? b = some o)->Q none { s with heap:=h' }) :
 wpAny (model prog w) A (pyNext (.ref I)) Q E s:=by
 unfold pyNext;refine ab (lx (cU (name:=fX "__next__") ⟨_,g,rfl⟩ lB (bW lB ⟨_,g,rfl⟩ xk ?_ (AS _))));unfold eJ.«set_iterator.__next__»;simp only [slotArgs,kB,nU,bb,if_false,aM,bne_self_eq_false,pure_bind,bind_assoc];refine ab (wpAny_fieldsOf g rfl ?_);dsimp only;refine ab (pD ga rfl hf ?_);rw [if_neg ↥0];refine ab (hs _ _ _ ?_)
 cases r with
 | some p =>
   obtain ⟨x,next⟩:=p;refine ab (eY g rfl (by show 0 < 5;decide) (ab (eY (qP g) rfl (by show 1 < 5;decide) (aq ⟨x,rfl,aq (h _ (wU (qP g)) λb o hb e=>?_)⟩))))
   exact (cm _ I _).extBut b o hb ((cm _ I _).extBut b o hb e)
 | none =>
   refine ab (eY g rfl (by show 2 < 5;decide) ?_);refine zG hh λh' k=>?_;exact h h' λb o hb e=>k b o ((cm _ I _).extBut b o hb e)
def EW {T:aw} {ps:List Nat} (g:s.heap.get? I = some (itO (.ref T) i a es.size ep)) (ga:s.heap.get? a = some (yw es ep t)) (gT:s.heap.get? T = some (plO ps)) (hf:t.fits es.size = true) (hh:A.handled = none)
 (h:match ps[i]? with
   | some p=>∃ x,es[p]? = some x/\∀ h',h'.get? I = some (itO (.ref T) (i+1) a es.size ep)->(∀ b o,b≠I->s.heap.get? b = some o->h'.get? b = some o)->Q (some x.2) { s with heap:=h' }
   | none=>∀ h',(∀ b o,b≠I->s.heap.get? b = some o->h'.get? b = some o)->Q none { s with heap:=h' }) :
 wpAny (model prog w) A (pyNext (.ref I)) Q E s:=by
 unfold pyNext;refine ab (lx (cU (name:=fX "__next__") ⟨_,g,rfl⟩ lB (bW lB ⟨_,g,rfl⟩ xk ?_ (AS _))));unfold eJ.«set_iterator.__next__»;simp only [slotArgs,kB,nU,bb,if_false,aM,bne_self_eq_false,pure_bind,bind_assoc];refine ab (wpAny_fieldsOf g rfl ?_);dsimp only;refine ab (pD ga rfl hf ?_);rw [if_neg ↥0];refine ab (dc gT rfl ?_);dsimp only;have e:((ps.map λ(i:Nat)=>rawInt i).toArray)[((i:Nat):Int).toNat]? = (ps[i]?).map λ(p:Nat)=>rawInt p:=by simp
 rw [e]
 cases hp:ps[i]? with
 | some p =>
   rw [hp] at h;obtain ⟨x,hx,h⟩:=h;simp only [dN,rawInt];unfold setNextDrawn;simp only [bind_assoc,pure_bind];refine ab (fN ga rfl hf ?_);rw [if_neg ↥0];simp only [iq,hx,pure_bind];refine ab (eY g rfl (by show 1 < 5;decide) (aq ⟨x.2,rfl,aq (h _ (wU g) λb o hb e=>?_)⟩))
   exact (cm _ I _).extBut b o hb e
 | none =>
   rw [hp] at h;simp only [Option.map_none];refine ab (eY g rfl (by show 0 < 5;decide) (ab (eY (qP g) rfl (by show 2 < 5;decide) ?_)));refine zG hh λh' k=>?_;exact h h' λb o hb e=>k b o ((cm _ I _).extBut b o hb ((cm _ I _).extBut b o hb e))
end
end
section
variable {prog:aS} {w:bD} {A:aW} {E:ae->ai->Prop} {s:ai} {I a T:aw} {es:Array (Int × ae)} {ep:Nat} {t:jn}
def CQ (hh:A.handled = none) (h1:a≠I) (h2:T≠I) (hf:t.fits es.size = true) (hp:∀ p∈ps,p < es.size) :
 JA prog w A I [I,a,T] [I] ps.length (λi v=>∃ p x,ps[i]? = some p/\es[p]? = some x/\v = x.2) (λi h=>h.get? I = some (itO (.ref T) i a es.size ep)/\h.get? a = some (yw es ep t)/\h.get? T = some (plO ps)) where
 sub:=λb hb=>by simp at hb;simp [hb]
 frame:=λ_ _ _ st hk=>⟨hk I ↥0 _ st.1,hk a ↥0 _ st.2.1,hk T ↥0 _ st.2.2⟩
 item:=λi s Q E hi st hQ=>by
  refine EW (ps:=ps) st.1 st.2.1 st.2.2 hf hh ?_;have e:ps[i]? = some ps[i]:=aD hi;obtain ⟨x,hx⟩:∃ x,es[ps[i]]? = some x:=⟨_,dO (hp _ (eN hi))⟩;rw [e];exact ⟨x,hx,λh' g' k=>hQ _ h' s.toks ⟨_,_,e,hx,rfl⟩ ⟨g',k a _ h1 st.2.1,k T _ h2 st.2.2⟩ λb o hb z=>k b o (λq=>hb (by simp [q])) z⟩
 done:=λs Q E st hQ=>by
  refine EW (ps:=ps) st.1 st.2.1 st.2.2 hf hh ?_;have e:ps[ps.length]? = none:=by simp
  rw [e];exact λh' k=>hQ h' s.toks λb o hb z=>k b o (λq=>hb (by simp [q])) z
 self:=λ_ _ _ _ st hQ=>uB st.1 hQ
def txt (w:bD) (a:aw) (ep:Nat) (es:Array (Int × ae)):Array (Int × ae):=pickOrder (w.params.setOrder a ep) es
def CP (hh:A.handled = none) (h1:a≠I) (hf:t.fits es.size = true) (hb:w.params.followText "set-order" = true) :
 JA prog w A I [I,a] [I] es.size (λi v=>∃ x,(txt w a ep es)[i]? = some x/\v = x.2) (λi h=>(∃ slot:Nat,h.get? I = some (itO (.int slot 0) i a es.size ep))/\h.get? a = some (yw es ep t)):=by
 have hsz:(txt w a ep es).size = es.size:=by
  have:=(sG (w.params.setOrder a ep) es).length_eq;simpa [txt] using this
 have sn:∀ (A':aW) (s:ai) (slot i:Nat) (Q':Option (ae × Nat)->ai->Prop) (E':ae->ai->Prop),s.heap.get? a = some (yw es ep t)->Q' (((txt w a ep es)[i]?).map λe=>(e.2,slot)) s->wpAny (model prog w) A' (setNext a slot i ep) Q' E' s:=λA' s slot i Q' E' ga q=>by
  unfold setNext setsByText;simp only [bind_assoc,pure_bind];refine ab (fN ga rfl hf (ab (eZ ?_)));rw [show ((model prog w).w.params.followText "set-order") = true from hb];simp only [if_true,bne_self_eq_false,bb,if_false];unfold setWalk setsByText;simp only [bind_assoc,pure_bind];refine ab (fN ga rfl hf (ab (eZ ?_)));rw [show ((model prog w).w.params.followText "set-order") = true from hb];simp only [if_true,bind_assoc,pure_bind];exact ab (eZ (aq q))
 exact {
  sub:=λb hb=>by simp at hb;simp [hb]
  frame:=λ_ _ _ st hk=>⟨st.1.imp λslot e=>hk I ↥0 _ e,hk a ↥0 _ st.2⟩
  item:=λi s Q E hi st hQ=>by
   obtain ⟨slot,g⟩:=st.1;have e:(txt w a ep es)[i]? = some ((txt w a ep es)[i]'(by omega)):=dO _;refine uv (slot:=slot) (r:=some (((txt w a ep es)[i]'(by omega)).2,slot)) g st.2 hf hh (λA' Q' E' q=>sn A' s slot i Q' E' st.2 (by rw [e];exact q)) λh' g' k=>?_;exact hQ _ h' s.toks ⟨_,e,rfl⟩ ⟨⟨slot,g'⟩,k a _ h1 st.2⟩ λb o hb z=>k b o (λq=>hb (by simp [q])) z
  done:=λs Q E st hQ=>by
   obtain ⟨slot,g⟩:=st.1;have e:(txt w a ep es)[es.size]? = none:=by rw [<- hsz];simp
   refine uv (slot:=slot) (r:=none) g st.2 hf hh (λA' Q' E' q=>sn A' s slot es.size Q' E' st.2 (by rw [e];exact q)) λh' k=>?_;exact hQ h' s.toks λb o hb z=>k b o (λq=>hb (by simp [q])) z
  self:=λ_ _ _ _ st hQ=>uB st.1.choose_spec hQ }
def xD (p:Array Nat) (hp:p.size<=1) (slot:Nat):dn p slot = if p.any (· < slot) = true then 1 else 0:=by
 match p,hp with
 | ⟨[]⟩,_=>simp [dn,kI]
 | ⟨[j]⟩,_ =>
   by_cases h:j < slot
   . simp [dn,kI,h]
   . simp [dn,kI,h]
 | ⟨_::_::_⟩,h=>simp at h
def CS (hh:A.handled = none) (h1:a≠I) (hf:t.fits es.size = true) (hb:w.params.followText "set-order" = false) (hl:t.led = true) (hz:es.size<=1) :
 JA prog w A I [I,a] [I] es.size (λi v=>∃ x,es[i]? = some x/\v = x.2) (λi h=>(∃ slot:Nat,h.get? I = some (itO (.int slot 0) i a es.size ep)/\(i = 0->slot = 0)/\(1<=i->t.place.any (· < slot) = true))/\h.get? a = some (yw es ep t)):=by
 have hp:t.place.size = es.size:=by
  have:=hf;simp only [SetTable.fits,aa,beq_iff_eq] at this;exact this.1
 have sn:∀ (A':aW) (s:ai) (slot i:Nat) (Q':Option (ae × Nat)->ai->Prop) (E':ae->ai->Prop),s.heap.get? a = some (yw es ep t) ->
  Q' (match es[dn t.place slot]?,t.place[dn t.place slot]? with | some (_,x),some j=>some (x,j+1) | _,_=>none) s->wpAny (model prog w) A' (setNext a slot i ep) Q' E' s:=λA' s slot i Q' E' ga q=>by
  unfold setNext setsByText;simp only [bind_assoc,pure_bind];refine ab (fN ga rfl hf (ab (eZ ?_)));rw [show ((model prog w).w.params.followText "set-order") = false from hb];simp only [bb,if_false];refine kH (a:=(match es[dn t.place slot]?,t.place[dn t.place slot]? with | some (_,x),some j=>some (x,j+1) | _,_=>none)) ?_ q;rw [if_neg (by show ¬ ((!t.plain && decide (es.size > 1)) = true);simp;omega)];show ((if (!t.led && !es.isEmpty) = true then unsupported _ else pure ()) >>= λ_=>pure _:Sem _) = _;rw [hl];rfl
 exact {
  sub:=λb hb=>by simp at hb;simp [hb]
  frame:=λ_ _ _ st hk=>⟨st.1.imp λslot e=>⟨hk I ↥0 _ e.1,e.2⟩,hk a ↥0 _ st.2⟩
  item:=λi s Q E hi st hQ=>by
   obtain ⟨slot,g,z0,z1⟩:=st.1;have i0:i = 0:=by omega
   subst i0;have s0:=z0 rfl;subst s0;have b0:dn t.place 0 = 0:=by rw [xD _ (by omega)];simp
   have e:es[0]? = some (es[0]'hi):=dO _;have ej:t.place[0]? = some (t.place[0]'(by omega)):=dO _;refine uv (slot:=0) (r:=some ((es[0]'hi).2,t.place[0]'(by omega)+1)) g st.2 hf hh (λA' Q' E' q=>sn A' s 0 0 Q' E' st.2 (by rw [b0,e,ej];exact q)) λh' g' k=>?_;refine hQ _ h' s.toks ⟨_,e,rfl⟩ ⟨⟨_,g',λz=>by omega,λ_=>?_⟩,k a _ h1 st.2⟩ λb o hb z=>k b o (λq=>hb (by simp [q])) z;rw [Array.any_eq_true];exact ⟨0,by omega,↥0⟩
  done:=λs Q E st hQ=>by
   obtain ⟨slot,g,z0,z1⟩:=st.1
   have e:es[dn t.place slot]? = none:=by
    rw [xD _ (by omega)];rcases Nat.lt_or_ge 0 es.size with q | q
    . rw [if_pos (z1 (by omega))];exact xR (by omega)
    . exact xR (by split<;>omega)
   refine uv (slot:=slot) (r:=none) g st.2 hf hh (λA' Q' E' q=>sn A' s slot es.size Q' E' st.2 (by rw [e];exact q)) λh' k=>?_;exact hQ h' s.toks λb o hb z=>k b o (λq=>hb (by simp [q])) z
  self:=λ_ _ _ _ st hQ=>uB st.1.choose_spec.1 hQ }
def MU (w:bD) (a:aw) (xs:List ae) (h:cb):Prop:=∃ (es:Array (Int × ae)) (ep:Nat) (t:jn),
 h.get? a = some { cls:=.type "set",dict:=none,data:=.set es ep t,slots := #[] }/\t.fits es.size = true/\t.led = (!w.params.followText "set-order")/\(es.size = 0\/t.plain = false)/\(es.toList.map (·.2)).Perm xs
def Eb (hh:A.handled = none) (hS:MU w a xs s.heap) (hz:xs.length < 1000)
 (h:∀ (I:aw) (fp:List aw) (n:Nat) (P:Nat->ae->Prop) (St:Nat->cb->Prop) (us:List ae) d h',JA prog w A I fp [I] n P St->us.length = n->St 0 h'->(∀ b∈fp,b < h'.objs.size)->(∀ b o,s.heap.get? b = some o->b≠I/\h'.get? b = some o)->us.Perm xs->(∀ i v,P i v->us[i]? = some v)->(∀ b∈fp,b = a\/s.heap.objs.size<=b) ->
   Q (.ref I) { s with drawn:=d,heap:=h' }):wpAny (model prog w) A (pyIter (.ref a)) Q E s:=by
 obtain ⟨es,ep,t,g,hf,hl,hp,hu⟩:=hS;have hsz:es.size = xs.length:=by rw [<- hu.length_eq];simp
 have ha:a < s.heap.objs.size:=aE g
 have pe:∀ (vs:List (Int × ae)),vs.Perm es.toList->∃ us':List ae,us'.Perm xs/\us'.length = es.size/\∀ (i:Nat) (x:Int × ae),vs[i]? = some x->us'[i]? = some x.2:=λvs pv =>
  ⟨vs.map (·.2),(pv.map _).trans hu,by rw [ay,pv.length_eq,aK],λi x hx=>by rw [cW,hx];rfl⟩
 refine Fw g hf (λhm=>?_) (λhb ps d pp=>?_) (by omega) hp
 . cases hb:w.params.followText "set-order" with
   | true =>
     obtain ⟨us',p',l',q'⟩:=pe (txt w a ep es).toList (sG _ _);refine h s.heap.objs.size [s.heap.objs.size,a] es.size _ _ us' s.drawn _ (CP (ep:=ep) (I:=s.heap.objs.size) hh (aO ha) hf hb) l' ⟨⟨0,aF _ rfl⟩,ah _ g⟩ (λb hb=>?_) (λb o e=>⟨aO (aE e),ah _ e⟩) p' (λi v ⟨x,hx,hv⟩=>?_) (λb hb=>by simp at hb;rcases hb with rfl | rfl;exact .inr (ao _);exact .inl rfl)
     . rw [bJ];simp at hb;rcases hb with rfl | rfl
       . exact dI _
       . exact bF ha
     . rw [hv]
       exact q' i x (by simpa using hx)
   | false =>
     have h1:es.size<=1:=by
      rcases hm with z | z
      . rw [hb] at z;cases z
      . exact z
     obtain ⟨us',p',l',q'⟩:=pe es.toList (.refl _);refine h s.heap.objs.size [s.heap.objs.size,a] es.size _ _ us' s.drawn _ (CS (ep:=ep) (I:=s.heap.objs.size) hh (aO ha) hf hb (by rw [hl,hb];rfl) h1) l' ⟨⟨0,aF _ rfl,λ_=>rfl,λz=>by omega⟩,ah _ g⟩ (λb hb=>?_) (λb o e=>⟨aO (aE e),ah _ e⟩) p' (λi v ⟨x,hx,hv⟩=>?_) (λb hb=>by simp at hb;rcases hb with rfl | rfl;exact .inr (ao _);exact .inl rfl)
     . rw [bJ];simp at hb;rcases hb with rfl | rfl
       . exact dI _
       . exact bF ha
     . rw [hv];exact q' i x (by simpa using hx)
 . have hps:∀ p∈ps,p < es.size:=λp hp=>by simpa using pp.mem_iff.mp hp
   have hpl:ps.length = es.size:=by rw [pp.length_eq];simp
   have pv:(ps.filterMap λp=>es[p]?).Perm es.toList:=by
    have:=pp.filterMap λp=>es[p]?
    rwa [filterMap_getElem?_range] at this
   have ev:∀ (ps:List Nat),(∀ p∈ps,p < es.size)->∀ (i p:Nat),ps[i]? = some p->(ps.filterMap λp=>es[p]?)[i]? = es[p]? := λps=>by
    induction ps with
    | nil=>intro _ i p e;simp at e
    | cons q qs ih =>
      intro hq i p e;have hq0:es[q]? = some (es[q]'(hq q au)):=dO _;rw [List.filterMap_cons_some hq0]
      cases i with
      | zero=>simp at e;subst e;simp [hq0]
      | succ i=>simpa using ih (λp hp=>hq p (ak _ hp)) i p (by simpa using e)
   obtain ⟨us',p',l',q'⟩:=pe _ pv;have W:=CQ (prog:=prog) (w:=w) (A:=A) (ep:=ep) (a:=a) (I:=s.heap.objs.size+1) (T:=s.heap.objs.size) hh (aO (bF ha)) (aO (dI _)) hf hps;have sz:((s.heap.push (plO ps)).push (itO (.ref s.heap.objs.size) 0 a es.size ep)).objs.size = s.heap.objs.size+1+1:=by rw [bJ,bJ]
   refine h (s.heap.objs.size+1) [s.heap.objs.size+1,a,s.heap.objs.size] ps.length _ _ us' d _ W (l'.trans hpl.symm) ⟨?_,ah _ (ah _ g),ah _ (aF _ rfl)⟩ (λb hb=>?_) (λb o e=>⟨aO (bF (aE e)),ah _ (ah _ e)⟩) p' (λi v ⟨p,x,e1,e2,hv⟩=>?_) (λb hb=>by simp at hb;rcases hb with rfl | rfl | rfl;exact .inr (mI _);exact .inl rfl;exact .inr (ao _))
   . have:((s.heap.push (plO ps)).push (itO (.ref s.heap.objs.size) 0 a es.size ep)).get? (s.heap.push (plO ps)).objs.size = _:=aF _ rfl
     rwa [bJ] at this
   . show b < ((s.heap.push (plO ps)).push (itO (.ref s.heap.objs.size) 0 a es.size ep)).objs.size;rw [sz];simp at hb;rcases hb with rfl | rfl | rfl
     . exact dI _
     . exact bF (bF ha)
     . exact bF (dI _)
   . rw [hv];exact q' i x (by rw [ev ps hps i p e1];exact e2)
end
section
variable {prog:aS} {w:bD} {A:aW} {E:ae->ai->Prop} {s:ai} {a:aw}
def Fu:typeLookup (.type "set") "__len__" = pure (some (.builtin "set.__len__")):=PySem.F.slot_set_len.lookup
def An {α:Type}:∀ {us vs:List α},us.length = vs.length->(∀ (j:Nat) (v:α),vs[j]? = some v->us[j]? = some v)->us = vs
 | [],[],_,_=>rfl
 | [],_::_,h,_=>by simp at h
 | _::_,[],h,_=>by simp at h
 | u::us,v::vs,h,q=>by
   have e:=q 0 v rfl;simp at e;subst e;rw [An (by simpa using h) λj x hj=>q (j+1) x (by simpa using hj)]
def JV {id:String} {args:Args} {b:eJ} {R:vm->ai->Prop} (hb:entryFor table id = some b) (hp:plainId id = true)
 (h:wpAny (model prog w) A.in1 (b args) (λfin s'=>match fin with | .done f=>R (.ok f) s' | .again c'=>c'.quiet = true/\codeAny (model prog w) A c' R s') (λe s'=>R (.error e) s') s):codeAny (model prog w) A (.builtin id args) R s :=
 xM hb (by rw [lP hp args];exact h)
def xw {xs:List ae} {Q:List ae->ai->Prop} (hh:A.handled = none) (hS:MU w a xs s.heap) (hz:xs.length < 1000)
 (h:∀ (vs:List ae) d tk h',vs.Perm xs->(∀ b o,s.heap.get? b = some o->h'.get? b = some o)->Q vs { s with drawn:=d,toks:=tk,heap:=h' }) :
 wpAny (model prog w) A (collect (.ref a)) Q E s:=by
 have ha:a < s.heap.objs.size:=by obtain ⟨es,ep,t,g,_⟩:=hS;exact aE g
 have hsa:s.heap.objs.size≠a:=λz=>bX _ (by rw [z] at ha;exact ha);unfold collect;refine ab (wpAny_runValue (JV F.entry_proto_collect F.plain_proto_collect ?_));show wpAny _ A.in1 (newList [] >>= λl=>again (.builtin "list.__iadd__" ⟨[l,.ref a],[]⟩)) _ _ s;refine ab (bA (aq ⟨jj F.plain_list_iadd _,JV F.entry_list_iadd F.plain_list_iadd ?_⟩));generalize ho:({ cls:=.type "list",data:=.seq ([]:List ae).toArray }:Obj) = lo;have g0:(s.heap.push lo).get? s.heap.objs.size = some lo:=aF _ (by rw [<- ho];rfl)
 have hS1:MU w a xs (s.heap.push lo):=by
  obtain ⟨es,ep,t,g,r⟩:=hS;exact ⟨es,ep,t,ah _ g,r⟩
 have hT:({ s with heap:=s.heap.push lo }:ai).TypeIs (.ref a) "set":=by
  obtain ⟨es,ep,t,g,r⟩:=hS1;exact ⟨_,g,rfl⟩
 show wpAny _ A.in1 (nS (.ref s.heap.objs.size) (.ref a) (.ref s.heap.objs.size)) _ _ _;unfold nS;refine ab (GA hT ?_);have nr:px (.ref s.heap.objs.size) (.ref a) = false:=by simp [px,hsa]
 rw [if_neg (by rw [nr];decide)];refine ab (Eb (A:=A.in1) hh hS1 hz λI fp n P St us d h2 W hn st hf hk hu hP hfp=>?_);refine ab (bY ?_);unfold Builtin.List.listLengthHint
 have hT2:({ s with heap:=h2,drawn:=d }:ai).TypeIs (.ref a) "set":=by
  obtain ⟨es,ep,t,g,r⟩:=hS1;exact ⟨_,(hk _ _ g).2,rfl⟩
 refine ab (wpAny_specialOf hT2 Fu ?_);dsimp only;rw [show splitId "set.__len__" = some ("set","__len__") from by decide];dsimp only;refine ab (vh (b:=true) hT2 (by rw [zo];kernel_rfl) ?_);rw [if_neg ⇑0,if_pos ⋯];refine ab (GA hT2 (aq ?_));rw [if_pos ⇑0];have gS:h2.get? s.heap.objs.size = some lo:=(hk _ _ g0).2;subst ho
 have hSf:s.heap.objs.size∉fp:=λhm=>by
  rcases hfp _ hm with z | z
  . exact hsa z
  . rw [show ({ s with heap:=s.heap.push _ }:ai).heap.objs.size = s.heap.objs.size+1 from bJ ..] at z;exact bX _ z
 have g3:=mO gS λxs=>xs.push bH;have g4:=mO g3 λxs=>xs.pop;refine ab (dQ (ab ?_));unfold Builtin.List.listTouch;refine ab (gQ gS rfl (gQ (s:={ s with drawn:=d,heap:=h2.update s.heap.objs.size (bK λxs=>xs.push bH) }) g3 rfl ?_ (by rw [cF];simp) (by rw [cF];simp)) (by rw [cF];simp) (by rw [cF];simp));have up:∀ {h:cb} {f:Obj->Obj} {b:aw} {o:Obj},b≠s.heap.objs.size->h.get? b = some o->(h.update s.heap.objs.size f).get? b = some o:=λhb e=>(cE _ _ (Ne.symm hb)).trans e;have st4:=W.frame 0 _ ((h2.update s.heap.objs.size (bK λxs=>xs.push bH)).update s.heap.objs.size (bK λxs=>xs.pop)) st λb hb o e=>up (λz=>hSf (z▸hb)) (up (λz=>hSf (z▸hb)) e);refine aq ⟨jj F.plain_extend_loop _,codeAny_extend_loopS W.toS (by rw [<- hn,hu.length_eq,cF];lia) _ hSf _ n 0 _ #[] _ rfl (bO _) st4 g4 (ItemsOf.nil P) λs' acc c hm hS' hac=>?_⟩;show wpAny _ A (load s.heap.objs.size >>= _) _ _ s';refine ab (wpAny_load hS' (aq ?_));obtain ⟨hp',gn',dr',tk',os'⟩:=s';obtain ⟨m1,m2,m3,m4,m5⟩:=hm;obtain rfl:gn' = s.gens:=m2;obtain rfl:dr' = d:=m3;obtain rfl:os' = s.os:=m4;have ea:us = acc.toList:=An (hn.trans (hac.1.symm.trans aK.symm)) λj v hj=>hP j v (hac.2 j v (by simpa using hj));refine h acc.toList _ tk' hp' (by rw [<- ea];exact hu) λb o e=>?_;have hb:b≠s.heap.objs.size:=aO (aE e);have hb2:=hk b o (ah _ e);exact m1 b o (by simp [hb,hb2.1]) (up hb (up hb hb2.2))
def BK {α β:Type} {R:α->β->Prop} {ys' ys:List β} (p:Hh ys' ys):∀ xs,Paired R xs ys->∃ xs',xs'.Perm xs/\Paired R xs' ys':=by
 induction p with
 | nil=>intro us r;exact ⟨us,.refl _,r⟩
 | cons x _ ih =>
   intro us r
   cases r with
   | cons r t =>
     obtain ⟨us',p',r'⟩:=ih _ t
     exact ⟨_,p'.cons _,.cons r r'⟩
 | swap x y l =>
   intro us r
   cases r with
   | cons r1 t =>
     cases t with
     | cons r2 t=>exact ⟨_,.swap _ _ _,.cons r2 (.cons r1 t)⟩
 | trans _ _ i1 i2 =>
   intro us r;obtain ⟨u1,p1,r1⟩:=i2 us r;obtain ⟨u2,p2,r2⟩:=i1 u1 r1;exact ⟨u2,p2.trans p1,r2⟩
def xv {ts:List Str} {Q:List ae->ai->Prop} (hh:A.handled = none) (hS:oK prog w a ts s.heap) (hz:ts.length < 1000)
 (h:∀ (us:List Str) (vs:List ae) d tk h',us.Perm ts->Paired (λ(u:Str) (v:ae)=>∃ k,v = .str u k) us vs->(∀ b o,s.heap.get? b = some o->h'.get? b = some o)->Q vs { s with drawn:=d,toks:=tk,heap:=h' }) :
 wpAny (model prog w) A (collect (.ref a)) Q E s:=by
 obtain ⟨es,ep,t,us,g,hf,hl,hp,hu,he⟩:=hS
 have pr:∀ {us:List Str} {es:List (Int × ae)},Paired (λ(u:Str) (e:Int × ae)=>∃ tk,e.2 = .str u tk) us es->Paired (λ(u:Str) (v:ae)=>∃ k,v = .str u k) us (es.map (·.2)):=λr=>by
  induction r with
  | nil=>exact .nil
  | cons r _ ih=>exact .cons r ih
 refine xw hh ⟨es,ep,t,g,hf,hl,hp,.refl _⟩ (by rw [ay,kY he,hu.length_eq];exact hz) λvs d tk h' pv k=>?_;obtain ⟨us',p',r'⟩:=BK pv us (pr he.2);exact h us' vs d tk h' (p'.trans hu) r' k
end
end PP
end
section
namespace PP
open PySem L2 PyProof.Rows PySem.W
def ltS (a b:Str):Bool:=decide (a.cps.toList < b.cps.toList)
def Fq (a b:Str):iN (.str a) (.str b) = some (ltS a b):=by simp [iN,ltD,dep,ltS]
def yM (a b:Str) (h:ltS a b = true):ltS b a = false:=by
 unfold ltS at h |-;rw [decide_eq_true_eq] at h;rw [decide_eq_false_iff_not];exact List.lt_asymm h
def Fp (a b c:Str) (h1:ltS b a = false) (h2:ltS c b = false):ltS c a = false:=by
 unfold ltS at h1 h2 |-;rw [decide_eq_false_iff_not] at h1 h2 |-;exact List.le_trans h1 h2
def Fs (a b:Str) (h1:ltS a b = false) (h2:ltS b a = false):a = b:=by
 unfold ltS at h1 h2;rw [decide_eq_false_iff_not] at h1 h2;have:=List.le_antisymm h2 h1;obtain ⟨⟨x⟩⟩:=a;obtain ⟨⟨y⟩⟩:=b;simp at this;rw [this]
def Hz {α:Type} [Inhabited α] {lt:α->α->Bool} {ys:List α} (h:∀ i j,i<=j->j < ys.length->lt (ys.getD j default) (ys.getD i default) = false):ys.Pairwise λa b=>lt b a = false:=by
 rw [fY];intro i j hi hj hij;have:=h i j (ly hij) hj;simpa [mJ,aD hi,aD hj] using this
def hV (ts:List Str):∃ ys:List Str,fU (ts.map .str) = ys.map .str/\ys.Perm ts/\ys.Pairwise λa b=>ltS b a = false:=by
 obtain ⟨ys,e,p,u⟩:=DH D.str ltS Fq yM Fp ts;exact ⟨ys,e,p,Hz u⟩
def tZ {us ts:List Str} (p:us.Perm ts):fU (us.map .str) = fU (ts.map .str):=by
 obtain ⟨a,e1,p1,q1⟩:=hV us;obtain ⟨b,e2,p2,q2⟩:=hV ts;have:a = b:=List.Perm.eq_of_pairwise (λx y _ _ h1 h2=>Fs x y h2 h1) q1 q2 (p1.trans (p.trans p2.symm));rw [e1,e2,this]
def OV (X:Cx) (p:aw) (ts:List Str):HO:=.ext (oK X.prog X.w p ts)
variable [Tbs]
def jV:∀ {us:List Str} {vs:List ae},Paired (λ(u:Str) (v:ae)=>∃ k,v = .str u k) us vs->Vals (us.map V.str) vs
 | _,_,.nil=>.nil
 | _,_,.cons r t=>.cons r (jV t)
def oo {K:Frag} {H:Hp} {F:aw->Prop}:∀ (us:List Str),aI K H F (us.map .str) (us.map V.str)
 | []=>aI.nil
 | u::us=>aI.cons (js u) (oo us)
def EE {α β:Type} {R:α->β->Prop} {xs:List α} {vs:List β} (h:Paired R xs vs):∀ v∈vs,∃ u,R u v:=by
 induction h with
 | nil=>intro v h;cases h
 | cons r _ ih =>
   intro v h;rcases aQ.mp h with rfl | h
   . exact ⟨_,r⟩
   . exact ih v h
def wA (h:Paired (λ(u:Str) (v:ae)=>∃ k,v = .str u k) us vs):∀ i,i < vs.length->∃ u k,vs.getD i bH = .str u k/\(us.map D.str).getD i .non = .str u:=by
 induction h with
 | nil=>intro i h;cases h
 | cons r _ ih =>
   intro i h;obtain ⟨k,rfl⟩:=r
   cases i with
   | zero=>exact ⟨_,k,rfl,rfl⟩
   | succ i=>exact ih i (by simpa using h)
def Mm {M:mP} {A:aW} {E:ae->ai->Prop} {s:ai} {us:List Str} {vs:List ae} (p:Paired (λ(u:Str) (v:ae)=>∃ k,v = .str u k) us vs) (h2:2<=vs.length) {Q:cK->ai->Prop} (q:Q oneType' s):wpAny M A (keyKind' vs.toArray) Q E s:=by
 refine kas_kind (T:=.type "str") h2 (λv hv=>?_) ⇑0 ⇑0 q;obtain ⟨u,k,rfl⟩:=EE p v hv;exact jP rfl
def OA (p:Paired (λ(u:Str) (v:ae)=>∃ k,v = .str u k) us vs) (i j:Nat) (hi:i < vs.length) (hj:j < vs.length) (C:Bool->ai->Prop) (c:C (fy (us.map .str) i j) s):kas_ask prog w A' oneType' vs i j C s:=by
 obtain ⟨u,k,e1,e2⟩:=wA p i hi;obtain ⟨u',k',e3,e4⟩:=wA p j hj;unfold fy at c;rw [e2,e4,Fq] at c;unfold kas_ask;rw [e1,e3,zk];exact oneLt_str c
def uV (hc:X.calm = true) (hu:X.A.units+200 < cLine):cz X (.builtin "sorted") (λxs H Q=>∃ a ts,xs = [.ref a]/\H a = some (OV X a ts)/\ts.length < 64/\∀ p ys F,H p = none->aI X.K H F (fU (ts.map .str)) ys->Q (.ref p) (upd H p (.lst ys))):=by
 intro pins s σ H xs us0 Q I r h;obtain ⟨a,ts,rfl,hH,h64,q⟩:=h;obtain ⟨u,rfl,rx⟩:=vals1 r;cases rx;obtain ⟨hS,_,_⟩:=I.hok a _ hH;refine fR Jz GD GF (GJ _) ?_;unfold eJ.«sorted»;refine ab (m:=checkCount "sorted" 1 1 _) (aq (ab (xv (A:=X.A.in1) (I.ok.hd hc) hS ∅ λus vs d tk h1 pu pv k1=>ab (lh ?_ ?_))))
 . have hl:us.length = vs.length:=by
    have:=jV pv;have:=this.length;simpa using this
   have lu:us.length < 64:=by rw [pu.length_eq];exact h64
   have l3:vs.length = (us.map D.str).length:=by rw [ay];exact hl.symm
   have hlen:(gk (fy (us.map .str)) vs).length = vs.length:=by
    unfold gk;split
    . rfl
    . rw [ay,(iX vs.length).length_eq,jQ]
   have small:∀ i∈(ans (fy (us.map D.str)) (kas_sort vs.length)).toList,i < vs.length:=λi hi=>by simpa using (iX vs.length).mem_iff.mp hi
   have hv:∃ ys,Vals ys (gk (fy (us.map .str)) vs)/\aI X.K H (λ_=>False) (fU (us.map .str)) ys:=by
    unfold gk fU;have rl:aI X.K H (λ_=>False) (us.map .str) (us.map V.str):=oo us;have vv:=jV pv;by_cases h2:vs.length < 2
    . rw [if_pos h2,if_pos ∅];exact ⟨_,vv,rl⟩
    . rw [if_neg h2,if_neg ∅,<- l3];exact ⟨_,nL vv _ λi hi=>by rw [ay,hl];exact small i hi,nM rl _ λi hi=>by rw [<- l3];exact small i hi⟩
   obtain ⟨ys,vy,ry⟩:=hv;rw [tZ pu] at ry;have hL:(h1.push (seqObj "list" vs.toArray 0)).get? h1.objs.size = some (seqObj "list" vs.toArray 0):=aF _ rfl;refine ab (bY (bW zj ⟨_,hL,rfl⟩ xK ?_ (zq _)));refine nu (s:={ s with heap:=h1.push (seqObj "list" vs.toArray 0),drawn:=d,toks:=tk }) (lt:=fy (us.map .str)) (κ:=oneType') hL ∅ hlen (λh2 h' kp C c=>Mm pv h2 c) (λh' kp i j hi hj C c=>OA pv i j hi hj C c) ?_
   . refine ⟨_,rfl,aq ⟨_,rfl,?_⟩⟩;have J:=I.call (h':=h1) (g':=s.gens) (d':=d) (t':=tk) (ch:=[]) (Un.kept k1) (I.hok.kept k1) I.bare (λb z=>absurd z ↥0);obtain ⟨e,he⟩:=sortedHeap_at (out:=(gk (fy (us.map .str)) vs).toArray) hL
     have old:∀ b o,h1.get? b = some o->(sortedHeap (h1.push (seqObj "list" vs.toArray 0)) h1.objs.size vs (gk (fy (us.map .str)) vs).toArray).get? b = some o:=λb o e=>by
      have lb:=aE e;rw [sortedHeap_old (aO lb) (by rw [bJ];exact bF lb)];exact ah _ e
     refine ⟨.ref h1.objs.size,upd H h1.objs.size (.lst ys),J.laid (t':=tk) old (ao _) ⟨?_,_,e,vy,he⟩,rfl,q _ _ _ (J.hok.fresh (ao _)) ry⟩;rw [ry.length,sv,ay,cF]
     lia
 . have:=(jV pv).length;rw [ay,pu.length_eq] at this;rw [cF]
   lia
end PP
end
section
namespace PP
open PySem PySem.Spec L2 PyProof.Rows
def SH (P:aS) (w:bD) (D:aw) (ts:List Str):HO:=.ext (oK P w D ts)
def BC {P:aS} {w:bD} {D:aw} {ts:List Str} (h1 h2:cb) (x:oK P w D ts h1) (k:∀ o,h1.get? D = some o->h2.get? D = some o):oK P w D ts h2:=by
 obtain ⟨es,ep,t,us,g,r⟩:=x;exact ⟨es,ep,t,us,k _ g,r⟩
def zO {P:aS} {w:bD} {H:Hp} {h:cb} {D:aw} {ts:List Str} (x:oK P w D ts h):iL P w H h D (SH P w D ts):=by
 refine ⟨x,?_,BC⟩;obtain ⟨es,ep,t,us,g,r⟩:=x;exact ⟨_,g⟩
def ym (P:aS) (w:bD) (D:aw) (te:TE):TU:=λσ H Q=>te σ H λy H'=>∃ x ts,y = .str x/\H' D = some (SH P w D ts)/\ts.length+1 < scanBound/\Q σ (upd H' D (SH P w D (kn ts x)))
def Ep {X:Cx} {elt:aH} {te:TE} {D:aw} (he:PE X elt te):PU X (do let v <- eval elt X.env;standAt elt.pos;let _ <- call (.builtin "set.add") [.ref D,v]) (ym X.prog X.w D te):=by
 intro pins s σ H Q I h;refine ab (thn (he pins s σ H _ I h) λu s1 ⟨y,H1,I1,r1,x,ts,e,hD,hz,q⟩=>ab (gP (ab ?_)));subst e;obtain ⟨tk,rfl⟩:=r1;obtain ⟨hS,_,_⟩:=I1.hok D _ hD;refine Gy hS hz λh' sb hx=>aq ⟨σ,_,I1.write (o:=SH X.prog X.w D (kn ts x)) (by rw [hD];trivial) (.inl rfl) (λb o hb e=>sb.extBut b o hb e) ?_ (zO hx),q⟩;obtain ⟨es,ep,t,us,g,r⟩:=hx;exact ⟨_,g⟩
def tIn (P:aS) (w:bD) (wi:TI) (g:TG) (tt:TT) (D:aw) (te:TE):TU:=λσ H Q=>wi σ H λJ H'=>tLp J g tt (ym P w D te) σ H' Q
def tTr:TT:=λ_ H Q=>Q true H
section
variable {prog:aS} {w:bD} {A:aW} {R:vm->ai->Prop} {s:ai}
def su (hg:gs[d]? = some g) (ha:g.is_async = 0)
 (h0:codeAny (model prog w) A (.compLoop (.SetComp elt gs scope pos) d it acc env) R s)
 (h:wpAny (model prog w) A (pyIter it) (λit' s'=>codeAny (model prog w) A (.compLoop (.SetComp elt gs scope pos) d it' acc env) R s') (notedBy (model prog w) A env λx s'=>R (.error x) s') s) :
 codeAny (model prog w) A (.compStart (.SetComp elt gs scope pos) d it acc env) R s:=by
 apply codeAny_of_tree;show wpAny _ _ ((compStart (.SetComp elt gs scope pos) d it acc env).onRaise (λx=>do noteFrame x env;standAt theWindowsPlace)) _ _ s;apply wpAny_notedAt;unfold compStart;have hc:(clausesOf (.SetComp elt gs scope pos))[d]? = some g:=hg;rw [hc];have hn:(Option.elim (some g) false λx=>x.is_async != 0) = false:=by show (g.is_async != 0) = false;rw [ha];rfl
 rw [hn];show wpAny _ _ (ask >>= λ_=>_) _ _ s;refine ab (eZ (wpAny_ite ?_));split
 . exact aq ⟨rfl,h0⟩
 . exact ab (dQ (ab (gP (ab (dR h (λit' s' h'=>aq ⟨rfl,h'⟩) λ_ _ x=>x)))))
end
def Br (elt t1 i1 t2 i2:aH) (f1 f2:List aH) (scope:fc) (pos:Pos) (it acc:ae) (env:Env):compTurn (.SetComp elt [⟨t1,i1,f1,0⟩,⟨t2,i2,f2,0⟩] scope pos) 1 it acc env = (do
 standAt i2.pos
 match <- pyNext it with
 | none=>pure (.done .next)
 | some v =>
   letOwnedTupleGo t2 it v
   assign t2 env v
   let mut ok:=true
   for c in f2 do
    if ok then ok <- isTrue c env (eval c env)
   if ok then (do let v <- eval elt env;standAt elt.pos;let _ <- call (.builtin "set.add") [acc,v])
   again (.compLoop (.SetComp elt [⟨t1,i1,f1,0⟩,⟨t2,i2,f2,0⟩] scope pos) 1 it acc env)):=by rfl
def Bs (elt t1 i1 t2 i2:aH) (f1 f2:List aH) (scope:fc) (pos:Pos) (it acc:ae) (env:Env):compTurn (.SetComp elt [⟨t1,i1,f1,0⟩,⟨t2,i2,f2,0⟩] scope pos) 0 it acc env = (do
 standAt i1.pos
 match <- pyNext it with
 | none=>pure (.done .next)
 | some v =>
   letOwnedTupleGo t1 it v
   assign t1 env v
   let mut ok:=true
   for c in f1 do
    if ok then ok <- isTrue c env (eval c env)
   if ok then (do
    let x <- eval i2 env
    standAt i2.pos
    let x <- foldedSetIterable i2 env x
    let _ <- runOwn (.compStart (.SetComp elt [⟨t1,i1,f1,0⟩,⟨t2,i2,f2,0⟩] scope pos) 1 (<- holding [x] (pyIter x)) acc env) env)
   again (.compLoop (.SetComp elt [⟨t1,i1,f1,0⟩,⟨t2,i2,f2,0⟩] scope pos) 0 it acc env)):=by
 unfold compTurn;simp only [List.getElem?_cons_zero,List.getElem?_cons_succ,bne_self_eq_false,bb,if_false,bind_assoc,pure_bind];rfl
def En {X:Cx} {elt t1 i1 t2 i2:aH} {f1 f2:List aH} {scope:fc} {pos:Pos} {wi:TI} {g:TG} {tt:TT} {te:TE} {D:aw} (hx:X.xe = λ_ _=>False) (hc:X.calm = true)
 (hi:PI X t2 i2 wi) (hg:PG X t2 g) (ht:PTs X f2 tt) (he:PE X elt te) (hs:∀ x,foldedSetIterable i2 X.env x = pure x) :
 PU X (do
  let x <- eval i2 X.env
  standAt i2.pos
  let x <- foldedSetIterable i2 X.env x
  let _ <- runOwn (.compStart (.SetComp elt [⟨t1,i1,f1,0⟩,⟨t2,i2,f2,0⟩] scope pos) 1 (<- holding [x] (pyIter x)) (.ref D) X.env) X.env) (tIn X.prog X.w wi g tt D te):=by
 intro pins s σ H Q I h;refine ab (thn (hi pins s σ H _ I h) λv s1 h1=>ab (gP (ab (kH (hs v) (ab (bY (thn h1 λitv s2 h2=>?_)))))));obtain ⟨it,fp,tn,J,H2,e,I2,T,st2,f2',q⟩:=h2;subst e;refine ab (wpAny_runOwn (h:=none) ?_);rw [show X.A.mark none = X.A from rfl]
 have loop:∀ (R:vm->ai->Prop),(∀ s' σ' H',Inv X pins σ' H' s'->Q σ' H'->R (.ok .next) s')->codeAny (model X.prog X.w) X.A (.compLoop (.SetComp elt [⟨t1,i1,f1,0⟩,⟨t2,i2,f2,0⟩] scope pos) 1 (.ref it) (.ref D) X.env) R s2:=λR hR =>
  AK (e:=.SetComp elt [⟨t1,i1,f1,0⟩,⟨t2,i2,f2,0⟩] scope pos) (d:=1) (acc:=.ref D) (ip:=i2.pos) (body:=(do let v <- eval elt X.env;standAt elt.pos;let _ <- call (.builtin "set.add") [.ref D,v])) hx hc rfl rfl rfl (Br ..) T hg ht (Ep he) I2 st2 f2' q hR
 refine su (g:=⟨t2,i2,f2,0⟩) rfl rfl (loop _ ?_) (T.self _ _ _ _ _ st2 (loop _ ?_))
 . exact λs' σ' H' J' q'=>aq ⟨σ',H',J',q'⟩
 . exact λs' σ' H' J' q'=>aq ⟨σ',H',J',q'⟩
def tSC (P:aS) (w:bD) (k:Nat) (w1:TI) (g1:TG) (w2:TI) (g2:TG) (tt:TT) (te:TE):TE:=λσ H Q=>w1 σ H λJ H1=>∀ D,H1 D = none ->
 tLp J g1 tTr (tIn P w w2 g2 tt D te) (σ++aZ k none) (upd H1 D (SH P w D [])) λ_ H2=>Q (.ref D) H2
def Oa (led:Bool):Obj:={ cls:=.type "set",dict:=none,data:=.set #[] 0 (.fresh 0 0 led) }
def BR {prog:aS} {w:bD} {A:aW} {E:ae->ai->Prop} {s:ai} {Q:ae->ai->Prop} (h:Q (.ref s.heap.objs.size) { s with heap:=s.heap.push (Oa (!w.params.followText "set-order")) }):wpAny (model prog w) A (newSet (.type "set")) Q E s:=by
 unfold newSet setsByText;simp only [bind_assoc,pure_bind];exact ab (eZ (bA h))
def BJ
 (hx:X.xe = λ_ _=>False) (hc:X.calm = true) (S:oN X scope) (hN:∀ i x,i < X.N.length->Nc[i]? = some x->Vis scope x->X.N[i]? = some x/\scope.names.lookup x = some .free) (hl:X.N.length<=Nc.length)
 (hi:PI X t1 i1 w1) (hg:∀ cl C s H fp,PG (cxC X scope cl C Nc s H fp) t1 g1) (hi2:∀ cl C s H fp,PI (cxC X scope cl C Nc s H fp) t2 i2 w2) (hg2:∀ cl C s H fp,PG (cxC X scope cl C Nc s H fp) t2 g2) (ht:∀ cl C s H fp,PTs (cxC X scope cl C Nc s H fp) f2 tt) (he:∀ cl C s H fp,PE (cxC X scope cl C Nc s H fp) elt te)
 (hs:∀ x,foldedSetIterable i1 X.env x = pure x) (hs2:∀ env x,foldedSetIterable i2 env x = pure x):PE X (.SetComp elt [⟨t1,i1,[],0⟩,⟨t2,i2,f2,0⟩] scope pos) (tSC X.prog X.w (Nc.length - X.N.length) w1 g1 w2 g2 tt te):=by
 intro pins s σ H Q I h;have ee:eval (.SetComp elt [⟨t1,i1,[],0⟩,⟨t2,i2,f2,0⟩] scope pos) X.env = comprehension (.SetComp elt [⟨t1,i1,[],0⟩,⟨t2,i2,f2,0⟩] scope pos) scope X.env i1.pos (newSet (.type "set")) false (eval i1 X.env):=by rfl
 rw [ee];refine lq (use:=none) rfl hs (yU λx hz=>I.ok.has x (S.free x hz)) S.kind S.names (thn (hi pins s σ H _ I h) λv s1 h1=>thn h1 λitv s2 h2=>?_);obtain ⟨it,fp,tn,J,H2,e,I2,T,st2,f2',q⟩:=h2;subst e;refine BR ?_;have hfr:=I2.fresh;generalize hno:Oa (!X.w.params.followText "set-order") = no;have gD:(s2.heap.push no).get? s2.heap.objs.size = some no:=aF _ (by rw [<- hno];rfl)
 have sx:oK X.prog X.w s2.heap.objs.size [] (s2.heap.push no):=by
  subst hno;exact ⟨#[],0,.fresh 0 0 (!X.w.params.followText "set-order"),[],gD,rfl,rfl,.inl rfl,.refl _,λe he=>by simp at he,.nil⟩
 have I3:Inv X pins σ (upd H2 s2.heap.objs.size (SH X.prog X.w s2.heap.objs.size [])) { s2 with heap:=s2.heap.push no }:=I2.laid (t':=s2.toks) (λb u e=>ah _ e) (ao _) (zO sx);have st3:tn 0 (s2.heap.push no):=T.keep _ _ _ st2 λb _ o e=>ah _ e
 have fl3:∀ b∈fp,b < s2.heap.objs.size:=λb hb=>by
  obtain ⟨o,e,_⟩:=T.obj _ _ st2 b hb;exact aE e
 have ne3:∀ b∈fp,upd H2 s2.heap.objs.size (SH X.prog X.w s2.heap.objs.size []) b = none:=λb hb=>by rw [bP (aO (fl3 b hb))];exact (f2' b hb).1
 have f3:∀ b∈fp,ko X pins (upd H2 s2.heap.objs.size (SH X.prog X.w s2.heap.objs.size [])) b:=λb hb=>⟨ne3 b hb,(f2' b hb).2⟩;have q3:=q s2.heap.objs.size hfr;generalize hH3:upd H2 s2.heap.objs.size (SH X.prog X.w s2.heap.objs.size []) = H3 at I3 ne3 f3 q3;generalize hs3:({ s2 with heap:=s2.heap.push no }:ai) = s3 at I3;have hs3h:s3.heap = s2.heap.push no:=by rw [<- hs3]
 rw [<- hs3h] at st3;have fl4:∀ b∈fp,b < s3.heap.objs.size:=λb hb=>by rw [hs3h,bJ];exact bF (fl3 b hb)
 refine oR S.nocell (by intro y hy;simp at hy) (λh1 hns hsb=>?_) S.kind;have keep1:∀ b o,s3.heap.get? b = some o->h1.get? b = some o:=λb o e=>hsb.extBut b o (aO (aE e)) (ah _ e);have J0:=oz (h1:=h1) (t1:=s3.toks+([]:List (Str × ae)).length) S I3 f3 fl4 rfl (by simpa using hns) keep1 hN hl;have st4:tn 0 h1:=T.keep _ _ _ st3 λb _ o e=>keep1 b o e
 have loop:∀ s4:ai,s4 = { s3 with heap:=h1,toks:=s3.toks+([]:List (Str × ae)).length } ->
  codeAny (model X.prog X.w) X.A (.compLoop (.SetComp elt [⟨t1,i1,[],0⟩,⟨t2,i2,f2,0⟩] scope pos) 0 (.ref it) (.ref s2.heap.objs.size) (compEnvC scope (iI X.env scope.names []) s3.heap.objs.size X.env))
   (compPost (model X.prog X.w) X.A X.xe none (EP X pins σ Q) (.ref s2.heap.objs.size) s3.heap.objs.size) s4:=by
  rintro s4 rfl;refine AK (X:=cxC X scope (iI X.env scope.names []) s3.heap.objs.size Nc s3 H3 fp) (ip:=i1.pos) (ifs:=[]) (tt:=tTr) rfl hc rfl rfl rfl (Bs ..) T (hg _ _ _ _ _) zZ (En rfl hc (hi2 _ _ _ _ _) (hg2 _ _ _ _ _) (ht _ _ _ _ _) (he _ _ _ _ _) (hs2 _)) J0 st4 (mE S I3 f3 fl4 rfl ne3) q3 ?_;intro s' σ' H' J' q';obtain ⟨m,hn,_⟩:=J'.loc;exact ⟨m,hn,λh2 hs2=>⟨.ref s2.heap.objs.size,H',mD I3 f3 rfl J' hs2,rfl,q'⟩⟩
 exact su (g:=⟨t1,i1,[],0⟩) rfl rfl (loop _ rfl) (T.self _ _ _ _ _ st4 (loop _ rfl))
section
variable {prog:aS} {w:bD} {A:aW} {R:vm->ai->Prop} {I:aw} {fp wr:List aw} {G:Array JF->Array JF->Prop} {n:Nat} {P:Nat->ae->Prop} {St:Nat->ai->Prop}
end
section
variable {prog:aS} {w:bD} {A:aW} {E:ae->ai->Prop} {s:ai}
end
variable [Tbs]
end PP
end
section
namespace PP
open PySem L2 PyProof.Rows
variable [Tbs]
section
variable {K:PySem.W.Frag} {cx:Cl} {P:aS} {w:bD}
def Ok.enterX (h:Ok K G F σ H δ) (hp:H p = none) (φ:cb->Prop):Ok K (G.and p) (λb=>F b\/b = p) σ (upd H p (.ext φ)) δ/\Step G F H (λb=>F b\/b = p) (upd H p (.ext φ)):=h.enterO hp trivial
def Ok.pokeX {G:Gh} {H:Hp} {F:aw->Prop} {σ:L2.St} {δ:Loc} {p:aw} {φ:cb->Prop} (h:Ok K (G.and p) F σ H δ) (hg:G.free p) (hP:H p = some (.ext φ)) (ψ:cb->Prop):Ok K (G.and p) F σ (upd H p (.ext ψ)) δ:=h.pokeO hg hP trivial trivial
def inF (cx:Cl) (tg:Tg) (ifs:Eo) (elt:E):D->Loc->Option (List D × Loc):=λy δi=>do
 let δd <- eP δi tg y
 let (b,δe) <- evG cx ifs δd
 if b then do
  let (z,δf) <- evE cx elt δe
  return ([z],δf)
 else return ([],δe)
def outF (cx:Cl) (k:Nat) (tg1:Tg) (tg2:Tg) (src2:It) (ifs:Eo) (elt:E):D->Loc->Option (List D × Loc):=λx δ0=>do
 let δa <- eP (δ0++aZ k .no) tg1 x
 let (es,δb) <- evI cx src2 δa
 let (zs,δc) <- gW (inF cx tg2 ifs elt) es δb
 return (zs,δc.take δ0.length)
def zI (ev:evE cx (.sset k tg1 src1 tg2 src2 ifs elt) δ = some (d,δ')) :
 ∃ ds δ1 ys xs,evI cx src1 δ = some (ds,δ1)/\gW (outF cx k tg1 tg2 src2 ifs elt) ds δ1 = some (ys,δ')/\fS ys = some xs/\xs.length < 4000/\(iP xs).length < 64/\d = .lst (fU ((iP xs).map .str)):=by
 simp only [evE,af,ag] at ev;obtain ⟨⟨ds,δ1⟩,ea,⟨ys,δ2⟩,eb,ev⟩:=ev;dsimp only at ev;split at ev
 . rename_i xs hx;split at ev
   . rename_i hh;cases ev;exact ⟨ds,δ1,ys,xs,ea,eb,hx,hh.1,hh.2,rfl⟩
   . cases ev
 . cases ev
def Jh (h:inF cx tg ifs elt x δ0 = some (o,δ1)):∃ δ2 b δ3,eP δ0 tg x = some δ2/\evG cx ifs δ2 = some (b,δ3) /\
 ((b = true/\∃ y,evE cx elt δ3 = some (y,δ1)/\o = [y])\/(b = false/\o = []/\δ1 = δ3)):=by
 unfold inF at h;simp only [af,ag] at h;obtain ⟨δ2,e1,⟨b,δ3⟩,e2,h⟩:=h;refine ⟨δ2,b,δ3,e1,e2,?_⟩
 cases b with
 | true =>
   simp only [if_true,ag] at h;obtain ⟨⟨y,δ4⟩,e3,h⟩:=h;cases h
   exact .inl ⟨rfl,y,e3,rfl⟩
 | false =>
   simp only [bb,if_false] at h;cases h;exact .inr ⟨rfl,rfl,rfl⟩
def EF (h:outF cx k tg1 tg2 src2 ifs elt x δ0 = some (o,δ1)):∃ δa es δb δc,eP (δ0++aZ k .no) tg1 x = some δa/\evI cx src2 δa = some (es,δb)/\gW (inF cx tg2 ifs elt) es δb = some (o,δc)/\δ1 = δc.take δ0.length:=by
 unfold outF at h;simp only [af,ag] at h;obtain ⟨δa,e1,⟨es,δb⟩,e2,⟨zs,δc⟩,e3,h⟩:=h;cases h;exact ⟨δa,es,δb,δc,e1,e2,e3,rfl⟩
def qT {f:D->Loc->Option (List D × Loc)} {x:D} {xs ys:List D} {δ δ':Loc} (h:gW f (x::xs) δ = some (ys,δ')):∃ o δ1 zs,f x δ = some (o,δ1)/\gW f xs δ1 = some (zs,δ')/\ys = o++zs:=by
 unfold gW at h;simp only [af,ag] at h;obtain ⟨⟨o,δ1⟩,e1,⟨zs,δ2⟩,e2,h⟩:=h;cases h;exact ⟨o,δ1,zs,e1,e2,rfl⟩
def qq:∀ {a b:List D} {xs:List Str},fS (a++b) = some xs->∃ xa xb,fS a = some xa/\fS b = some xb/\xs = xa++xb
 | [],b,xs,h=>⟨[],xs,rfl,h,rfl⟩
 | d::a,b,xs,h=>by
   cases d<;>first | (simp [fS] at h;done) | skip
   rename_i x;rw [kC] at h;simp only [fS,bp] at h;obtain ⟨ys,h1,rfl⟩:=h;obtain ⟨xa,xb,e1,e2,rfl⟩:=qq h1;exact ⟨x::xa,xb,by simp [fS,e1],e2,rfl⟩
def xE (ts:List Str) (x:Str):(kn ts x).length<=ts.length+1:=by
 unfold kn;split
 . lia
 . simp
def FI {G:Gh} {F1:aw->Prop} {H1:Hp} {σ:L2.St} {J:L2.It} {es ys:List D} {δ1 δ2:Loc} {tg:Tg} {ifs:Eo} {elt:E} {p:aw} {ts xs:List Str} {Q:L2.St->Hp->Prop} (n:(!cj elt) = true) (hg:G.free p)
 (ok1:Ok K (G.and p) F1 σ H1 δ1) (wk:Wk K G F1 H1 J es) (hD:H1 p = some (SH P w p ts)) (ev:gW (inF cx tg ifs elt) es δ1 = some (ys,δ2)) (hx:fS ys = some xs) (hr:ts.length+xs.length < 4090)
 (q:∀ σ' H2 F2,σ'.length = σ.length->(∀ m,mh m tg = true->σ'.take m = σ.take m)->Ok K (G.and p) F2 σ' H2 δ2->H2 p = some (SH P w p (xs.foldl kn ts))->Step G F1 H1 F2 H2->((npO ifs && np elt) = true->∀ H0,H0 p = none->Sim H0 H1->Sim H0 H2)->Q σ' H2) :
 tLp J (gTg K tg) (tG K cx ifs) (ym P w p (tE K cx elt)) σ H1 Q:=by
 have hFs:∀ b,G.R b->(G.and p).R b:=λb z=>.inl z
 refine uA (P:=λr F' σc Hc=>∃ δi zs xr ti,σc.length = σ.length/\(∀ m,mh m tg = true->σc.take m = σ.take m)/\Ok K (G.and p) F' σc Hc δi/\gW (inF cx tg ifs elt) r δi = some (zs,δ2)/\fS zs = some xr/\Hc p = some (SH P w p ti)/\xr.foldl kn ti = xs.foldl kn ts/\ti.length+xr.length < 4090/\Step G F1 H1 F' Hc /\
  ((npO ifs && np elt) = true->∀ H0,H0 p = none->Sim H0 H1->Sim H0 Hc)) wk (λr F σ H z=>by obtain ⟨_,_,_,_,_,_,ok,_,_,_,_,_,st,_⟩:=z;exact ⟨st,ok.fd⟩) (λr F σ H H3 z sm=>by obtain ⟨a1,a2,a3,a4,a5,a6,ok,a7,a8,a9,b1,b2,st,s⟩:=z;exact ⟨a1,a2,a3,a4,a5,a6,ok.same' sm,a7,a8,sm _ _ a9,b1,b2,st.trans (.of_same sm),λq H0 h0 z=>(s q H0 h0 z).trans (.of sm)⟩) ⟨δ1,ys,xs,ts,rfl,λ_ _=>rfl,ok1,ev,hx,hD,rfl,hr,Step.refl,λ_ _ _ z=>z⟩ ?_ ?_
 . rintro d r F' σc H3 x N ⟨δi,zs,xr,ti,hl,htk,ok,el,exr,eD,ef,hr',st,sm⟩ rx hN;have hF:F' p:=ok.rf p (.inr rfl);obtain ⟨o,δ5,zs',eo,el',rfl⟩:=qT el;obtain ⟨δ6,b,δ7,es6,eg,alt⟩:=Jh eo;refine mU ok rx es6 λσ2 ok6 htake=>?_
   have l2:σ2.length = σ.length:=by
    have a1:=ok.len;have a2:=ok6.len;have e1:=om es6
    lia
   have t2:∀ m,mh m tg = true->σ2.take m = σ.take m:=λm hm=>(htake m hm).trans (htk m hm);refine ⟨G.and p,F',δ6,b,δ7,ok6,eg,λH7 F7 st7 sm7 ok7=>?_⟩;have keepD:∀ {F8:aw->Prop} {H8:Hp},Step (G.and p) F' H3 F8 H8->H8 p = some (SH P w p ti):=λs8=>(s8.res p _ (.inr rfl) hF eD).2;rcases alt with ⟨rfl,y,ee,rfl⟩ | ⟨rfl,rfl,rfl⟩
   . refine Fx ?_;refine ⟨G.and p,F7,δ7,y,δ5,ok7,ee,λu H8 F8 st8 sm8 ok8 r8=>?_⟩;have s78:=st7.trans st8;have eD8:=keepD s78;have ry:=dP n r8;obtain ⟨xa,xb,ea,eb,rfl⟩:=qq exr
     have hy':∃ x0,y = .str x0/\xa = [x0]:=by
      cases y<;>first | (simp [fS] at ea;done) | skip
      simp [fS] at ea;exact ⟨_,rfl,ea.symm⟩
     obtain ⟨x0,rfl,rfl⟩:=hy';unfold Rel at ry;have hF8:F8 p:=ok8.rf p (.inr rfl);have hal:=xE ti x0;rw [ax,bZ] at hr';refine ⟨x0,ti,ry,eD8,by show ti.length+1 < 4096;lia,hN F8 _ _ ⟨δ5,zs',xb,kn ti x0,l2,t2,ok8.pokeX hg eD8 _,el',eb,cy,?_,∅,?_,λz H0 h0 s0=>?_⟩⟩
     . rw [<- ef];rfl
     . have s1:=st.trans (s78.sub hFs);have hF1:F1 p:=ok1.rf p (.inr rfl);refine ⟨λb o t e nf=>?_,s1.grow,λb o r f e=>?_,λb ps e=>?_⟩
       . rw [bP (λw:b = p=>nf (by rw [w];exact hF1))];exact s1.keep b o t e nf
       . obtain ⟨a1,a2⟩:=s1.res b o r f e;refine ⟨a1,?_⟩;rw [bP (λw:b = p=>hg.2 (by rw [<- w];exact r))];exact a2
       . rw [bP (λw:b = p=>by rw [w,hD] at e;cases e)];exact s1.tb b ps e
     . have z':=z;rw [aa] at z';exact (((sm z H0 h0 s0).trans (sm7 z'.1)).trans (sm8 z'.2)).new h0
   . refine Jd ?_;refine hN F7 _ _ ⟨_,zs',xr,ti,l2,t2,ok7,el',exr,keepD st7,ef,hr',st.trans (st7.sub hFs),λz H0 h0 s0=>?_⟩;have z':=z;rw [aa] at z';exact (sm z H0 h0 s0).trans (sm7 z'.1)
 . rintro F' σc Hc ⟨δi,zs,xr,ti,hl,htk,ok,el,exr,eD,ef,hr',st,sm⟩;cases el;have:xr = []:=by simpa [fS] using exr.symm
   subst this;exact q _ Hc F' hl htk ok (by rw [<- ef];exact eD) st sm
end
section
variable {K:PySem.W.Frag} {H:Hp} {F:aw->Prop}
end
section
variable {X:Cx} {cx:Cl}
end
section
variable {X:Cx}
def BZ:fillsNumberSlot (.type "int") "divmod" = pure true :=
 fillsNumberSlot_of (id:="int.__divmod__") (r:=some (.builtin "int.__rdivmod__")) (by rw [mN,iY];kernel_rfl) ⇑0 (by rw [mN,iY];kernel_rfl)
def Ea:Slot "int" (dunder "divmod") "int.__divmod__":=(show ("__divmod__":Str) = dunder "divmod" by kernel_rfl)▸PySem.F.slot_int_divmod
def Jg {prog:aS} {w:bD} {A:aW} {E:ae->ai->Prop} {s:ai} {a b:Int} {t u:Tok} {Q:ae->ai->Prop} (hb:b≠0) (hp:Builtin.divisionGoesByPylong a b = false)
 (h:Q (.ref s.heap.objs.size) { s with heap:=s.heap.push { cls:=.type "tuple",data:=.seq #[.int (a.fdiv b) s.toks,.int (a.fmod b) (s.toks+1)] },toks:=s.toks+1+1 }) :
 wpAny (model prog w) A (call (.builtin "int.__divmod__") [.int a t,.int b u]) (λv s'=>v≠.notImplemented/\Q v s') E s:=by
 refine bW PySem.F.slot_int_divmod (zi s a t) PySem.F.entry_int_divmod ?_ (PySem.F.args_int_divmod_2 _ _);have hb':(b == 0) = false:=by simpa using hb
 show wpAny _ _ (do
  if b == 0 then rule "int.divmod.zero";raiseError "ZeroDivisionError" "integer division or modulo by zero"
  Builtin.roomForPylong a b
  ret (<- newTuple [<- mkInt (a.fdiv b),<- mkInt (a.fmod b)])) _ _ s
 simp only [hb',bb,if_false,pure_bind];refine ab (wpAny_roomForPylong (.inl hp) ?_);refine ab (wpAny_mkInt (ab (wpAny_mkInt (ab (oQ ?_ (show 2<=sizeLine by decide))))));exact aq ⟨_,rfl,↥0,h⟩
def Gq:cz X (.builtin "divmod") (λxs H Q=>∃ i j,xs = [.int i,.int j]/\0 < j/\j < 1073741824/\∀ p,H p = none->Q (.ref p) (upd H p (.tup [.int (i / j),.int (i % j)]))):=by
 intro pins s σ H xs us Q I r h;obtain ⟨i,j,rfl,h1,h2,q⟩:=h;obtain ⟨u,w',rfl,⟨t,rfl⟩,⟨t',rfl⟩⟩:=vals2 r;refine fR (b:=eJ.«divmod») ⇑0 ⇑0 (entryFor_of_tree ⋯) (by unfold argsOk;kernel_rfl) ?_;unfold eJ.«divmod»;refine ab (m:=someArgs "divmod" 2 2 _) (aq ?_);show wpAny _ _ (do let v <- lO "divmod()" "divmod" (.int i t) (.int j t');ret v) _ _ s;refine ab ?_;unfold lO;refine bY ?_
 have fin:EP X pins σ Q (.ref s.heap.objs.size) { s with heap:=s.heap.push { cls:=.type "tuple",data:=.seq #[.int (i.fdiv j) s.toks,.int (i.fmod j) (s.toks+1)] },toks:=s.toks+1+1 }:=by
  rw [vq i (by omega),vp i (by omega)];refine ⟨.ref s.heap.objs.size,upd H s.heap.objs.size (.tup [.int (i / j),.int (i % j)]),I.laid (t':=s.toks+1+1) (λb u e=>ah _ e) (ao _) ?_,rfl,q _ (I.hok.fresh (ao _))⟩;exact ⟨show 2<=sizeLine by decide,[.int (i / j) s.toks,.int (i % j) (s.toks+1)],.cons ⟨_,rfl⟩ (.cons ⟨_,rfl⟩ .nil),⟨_,aF _ rfl,rfl,_,rfl⟩⟩
 have hc:=Jg (prog:=X.prog) (w:=X.w) (A:=X.A.in1) (E:=X.xe) (t:=t) (u:=t') (Q:=λv s'=>EP X pins σ Q v s') (show j≠0 by omega) (PyProof.noPylong_small (x:=i) (by omega)) fin;have h9:=wpAny_binaryOp1_same (M:=model X.prog X.w) (A:=X.A.in1) (E:=X.xe) (s:=s) (a:=.int i t) (b:=.int j t') (T:="int") (nm:="divmod") (id:="int.__divmod__") (Q:=λo s'=>∃ v,o = some v/\EP X pins σ Q v s') (zi s i t) (zi s j t') BZ Ea (dR hc (λv s' h=>⟨h.1,v,rfl,h.2⟩) λ_ _ h=>h);refine ab (dR h9 (λo s' h=>?_) λ_ _ h=>h);obtain ⟨v,rfl,h⟩:=h;exact aq (aq ⟨_,rfl,h⟩)
def MK:cz X (.builtin "divmod") (rB X.K Jn):=by
 refine cz.imp Gq λxs H Q zz=>?_;obtain ⟨F,ds,d,fd,r,e,q⟩:=zz;unfold Jn at e;split at e
 . split at e
   . rename_i hb;cases e;obtain ⟨v,u,rfl,r1,r2⟩:=b2 r;refine ⟨_,_,by rw [r1.int,r2.int],hb.1,hb.2,λp hp=>q _ _ (cD hp _) ?_⟩;unfold Rel;exact ⟨p,_,rfl,SqT.of cy,aI.cons (cR _) (aI.cons (cR _) aI.nil)⟩
   . cases e
 . cases e
end
section
variable {cx:Cl} {k:Nat}
def lE:∀ {es:Es},mw es = true->rN es = true
 | .nil,_=>rfl
 | .cons e es,h=>by
   have h':(!cj e && mw es) = true:=h;rw [aa] at h';show ((!cj e || npS es) && rN es) = true;rw [h'.1,lE h'.2];rfl
def kL:∀ {es:Es} {ys:List aH},kE c es ys = true->(backTo pos (starEach ys env)).any (·.1) = false
 | .nil,ys,h=>by obtain ⟨rfl,_⟩:=gE h;rfl
 | .cons e es,ys,h=>by
   obtain ⟨_,_,rfl,hh⟩:=ft h;rw [aa] at hh;rw [cY (cO hh.1)];show (false || (backTo pos (starEach _ env)).any (·.1)) = false;rw [kL hh.2];rfl
def mV (C:Cok X c cx k) (h:jX c sc = true):oN X sc:=by
 unfold jX at h;rw [aa,cQ] at h;obtain ⟨h1,h2⟩:=h
 have q:∀ p∈sc.names,p.2≠.cell/\(p.2 = .local->sc.names.lookup p.1 = some .local)/\(p.2 = .free->c.sc.names.lookup p.1 = some .cell\/c.sc.names.lookup p.1 = some .free):=λp hp=>by
  have z:=h2 p hp;rw [aa,aa] at z;obtain ⟨⟨a,b⟩,d⟩:=z;refine ⟨of_decide_eq_true a,λe=>?_,λe=>?_⟩
  . rw [dT] at b;rcases b with b | b
    . simp [e] at b
    . exact of_decide_eq_true b
  . rw [dT] at d;rcases d with d | d
    . simp [e] at d
    . split at d
      . exact .inl ‹_›
      . exact .inr ‹_›
      . cases d
 exact ⟨of_decide_eq_true h1,λy hy=>(q y hy).1,λy hy e=>(q y hy).2.1 e,λx hx=>C.kc x ((q _ hx).2.2 rfl)⟩
def eF (C:Cok X c cx k) (h:jX c sc = true) (hn:Nc.Nodup) (cl:List (Str × aw)) (Ca:aw) (s:ai) (H:Hp) (fp:List aw):Cok (cxC X sc cl Ca Nc s H fp) ⟨Nc,sc,c.fns,c.gn⟩ cx k:=by
 have S:=mV C h;have kd:∀ x,(cxC X sc cl Ca Nc s H fp).env.kindOf x = (sc.names.lookup x).map λk=>if (k == cn && X.env.scope.kind == .function && X.env.kindOf x == some .cell) then lU else k:=λx=>oG x
 refine ⟨rfl,hn,λx hx=>?_,λx hx=>?_,λx hx=>?_,λx hx=>?_,C.calm,rfl,C.room,C.fns,C.fnO,C.fnD,C.blt,C.glob,C.gsome,C.gds,C.pos⟩
 . have e:=kd x;show (cxC X sc cl Ca Nc s H fp).env.kindOf x = some .local\/(cxC X sc cl Ca Nc s H fp).env.kindOf x = some .cell\/(cxC X sc cl Ca Nc s H fp).env.kindOf x = some .free;rw [e];rcases hx with hx | hx | hx
   . rw [hx];exact .inl rfl
   . exact absurd rfl (S.nocell _ (PySem.mem_of_lookup hx))
   . rw [hx];simp only [dN];split
     . exact .inr (.inl rfl)
     . exact .inr (.inr rfl)
 . show (cxC X sc cl Ca Nc s H fp).env.kindOf x = some .globalImplicit;rw [kd x];have hx:sc.names.lookup x = some .globalImplicit:=hx;rw [hx];rfl
 . have:sc.names.lookup x = some .local:=by
    rcases hx with hx | hx
    . exact hx
    . exact absurd rfl (S.nocell _ (PySem.mem_of_lookup hx))
   have e:(cxC X sc cl Ca Nc s H fp).env.kindOf x = some .local:=by rw [kd x,this];rfl
   exact ⟨.inl e,.inr e⟩
 . rw [kd x];have hx:sc.names.lookup x = some .cell\/sc.names.lookup x = some .free:=hx;rcases hx with hx | hx
   . exact absurd rfl (S.nocell _ (PySem.mem_of_lookup hx))
   . rw [hx];simp only [dN];split
     . exact .inl rfl
     . exact .inr rfl
def jL (h:namesOk c sc Nc = true):Nc.Nodup/\∀ i x,i < c.N.length->Nc[i]? = some x->Vis sc x->c.N[i]? = some x/\sc.names.lookup x = some .free:=by
 unfold namesOk at h;rw [aa,cQ] at h;refine ⟨of_decide_eq_true h.1,λi x hi e v=>?_⟩;have z:=h.2 i (by simpa using hi);rw [e] at z;dsimp only at z;rw [dT,aa] at z
 have vb:Bq sc x = true:=by
  unfold Bq;rcases v with v | v | v<;>rw [v]
 rcases z with z | ⟨z1,z2⟩
 . rw [vb] at z;cases z
 . exact ⟨of_decide_eq_true z1,of_decide_eq_true z2⟩
def xt {X:Cx} {c:Ck} {Nc:List Str} {kk:Nat} {tg:Tg} {src:It} {ifs:Eo} {elt:E} {pins:List (aw × Obj)} {s:ai} {σ:L2.St} {H:Hp} {Q:VK} (C:Cok X c cx k) (I:Inv X pins σ H s) (n:(!cj elt) = true) (hk:Nc.length = c.N.length+kk) (hge:mh c.N.length tg = true)
 {G:Gh} {F:aw->Prop} {δ δ':Loc} {d:D} (ok:Ok X.K G F σ H δ) (ev:evE cx (.comp kk tg src ifs elt) δ = some (d,δ'))
 (q:∀ p ys xs H1 F1 H2 F2,d = .lst ys->Step G F H F1 H1->Step G F1 H1 F2 H2->H1 p = none->G.free p->Ok X.K (G.and p) F2 σ H2 δ'->H2 p = some (.lst xs)->aI X.K H2 F2 ys xs->(np (.comp kk tg src ifs elt) = true->Sim H H2)->Q (.ref p) H2) :
 tLC (Nc.length - X.N.length) (tI X.K cx src) (gTg X.K tg) (tG X.K cx ifs) (tE X.K cx elt) σ H Q:=by
 obtain ⟨ds,δ1,ys,ei,ec,hz,rfl⟩:=Jq ev;have ek:Nc.length - X.N.length = kk:=by rw [C.hN,hk];lia
 rw [ek];refine ⟨G,F,δ,ds,δ1,ok,ei,λJ H1 F1 st1 sm1 ok1 wk=>λp hp=>?_⟩;have hg:=ok1.free hp;refine yR n (by rw [I.len,C.hN];exact hge) ok1 (wk _) hp ec hz λσ' H2 F2 xs ok2 eD rl st2 sm2=>?_;refine q p ys xs H1 F1 H2 F2 rfl st1 st2 hp hg ok2 eD rl λz=>?_;have z':(npI src && npO ifs && np elt) = true:=z;rw [aa,aa] at z';exact (sm1 z'.1.1).trans (sm2 (by rw [z'.1.2,z'.2];rfl))
def Gj {X:Cx} {c:Ck} {Nc:List Str} {kk:Nat} {tg:Tg} {src:It} {ifs:Eo} {elt:E} {pins:List (aw × Obj)} {s:ai} {σ:L2.St} {H:Hp} {Q:VK} (C:Cok X c cx k) (I:Inv X pins σ H s) (n:(!cj elt) = true) (hk:Nc.length = c.N.length+kk) (hge:mh c.N.length tg = true)
 (h:tE X.K cx (.comp kk tg src ifs elt) σ H Q):tLC (Nc.length - X.N.length) (tI X.K cx src) (gTg X.K tg) (tG X.K cx ifs) (tE X.K cx elt) σ H Q:=by
 obtain ⟨G,F,δ,d,δ',ok,ev,post⟩:=h;refine xt C I n hk hge ok ev λp ys xs H1 F1 H2 F2 e st1 st2 hp hg ok2 eD rl sm=>?_;subst e
 have st':Step G F1 H1 (λb=>F2 b/\b≠p) H2:=⟨st2.keep,λb z=>st2.grow b z.1,λb o r f e=>by
  obtain ⟨a1,a2⟩:=st2.res b o r f e;exact ⟨⟨a1,λw=>by rw [w,hp] at e;cases e⟩,a2⟩,st2.tb⟩
 refine post (.ref p) H2 _ (st1.trans st') sm (ok2.leave hg) (hZ ?_);unfold Rel;exact ⟨p,xs,rfl,.inl ⟨.inl eD,λz=>z.2 rfl⟩,aI.less ok2.fd (λb z=>z.1) rl⟩
def DM (C:Cok X c cx k) (n:(!cj elt) = true) (hk:Nc.length = c.N.length+kk) (hge:mh c.N.length tg = true) (hs:jX c sc = true) (hn:namesOk c sc Nc = true)
 (htg:∀ cl Ca s H fp,PG (cxC X sc cl Ca Nc s H fp) t (gTg X.K tg)) (hI:PI X t it (tI X.K cx src)) (hG:∀ cl Ca s H fp,PTs (cxC X sc cl Ca Nc s H fp) il (tG X.K cx ifs)) (hE:∀ cl Ca s H fp,PE (cxC X sc cl Ca Nc s H fp) ex (tE X.K cx elt))
 (hset:∀ v,foldedSetIterable it X.env v = pure v):PE X (.ListComp ex [⟨t,it,il,0⟩] sc pos) (tE X.K cx (.comp kk tg src ifs elt)):=by
 obtain ⟨nd,hvis⟩:=jL hn;intro pins s σ H Q I h;refine EB (Nc:=Nc) C.xe C.calm (mV C hs) (λi x hi=>by rw [C.hN] at hi |-;exact hvis i x hi) (by rw [C.hN,hk];lia) hI htg hG hE hset pins s σ H Q I ?_;exact Gj C I n hk hge h
def call_of {X:Cx} {c:Ck} {f:Nat} {es:Es} {n:Str} {p pos:Pos} {xs:List aH} (C:Cok X c cx k) (hA:PA X xs (tEs X.K cx es)) (h:(match c.fns[f]? with
 | some (m,ps)=>decide (m = n) && gH c n && decide (ps.length = FV es) && kE c es xs && mw es && !xs.isEmpty
 | none=>false) = true):PE X (.Call (.Name n p) xs [] pos) (tE X.K cx (.call f es)):=by
 split at h
 . rename_i m ps ef;simp only [aa] at h;obtain ⟨⟨⟨⟨⟨h1,h2⟩,h3⟩,h4⟩,h5⟩,h6⟩:=h;have e:=of_decide_eq_true h1;subst e;obtain ⟨a,fd,hm,hk,hb,fn⟩:=C.fns f _ _ ef;obtain ⟨g1,g2,g3⟩:=C.global h2
   cases xs with
   | nil=>simp at h6
   | cons y ys =>
     obtain ⟨_,_,_,a1,a2⟩:=lL h4;exact DN h5 fn C.room g1 hm hk hb hA g2 (cY (cO a1) _ _) (kL a2)
 . cases h
def MN (C:Cok X c cx k) (hg:gH c (tj f) = true) (ht:tyName f = none) (hA:PA X (y::ys) (tEs X.K cx es)) (h:kE c es (y::ys) = true):PE X (.Call (.Name (tj f) p) (y::ys) [] pos) (tE X.K cx (.blt f es)):=by
 obtain ⟨g1,g2,g3⟩:=C.global hg;obtain ⟨e,es',rfl,h1,h2⟩:=lL h;have he:=cY (cO h1) ys X.env;have hpl:=kL (env:=X.env) (pos:=pos) h2
 cases f with
 | len=>exact ir IY rfl (gC MI g1 (C.blt _ ⇑0) rfl hA g3 g2 he hpl)
 | min=>exact ir minD rfl (gC (MF C.calm C.units) g1 (C.blt _ ⇑0) rfl hA g3 g2 he hpl)
 | max=>exact ir maxD rfl (gC (MG C.calm) g1 (C.blt _ ⇑0) rfl hA g3 g2 he hpl)
 | toInt=>exact ir tV rfl (lC MJ g1 (C.blt _ ⇑0) rfl hA g3 g2 he hpl)
 | toTup=>exact ir tU rfl (lC MD g1 (C.blt _ ⇑0) rfl hA g3 g2 he hpl)
 | toLst=>exact ir og rfl (lC MH g1 (C.blt _ ⇑0) rfl hA g3 g2 he hpl)
 | dvm=>exact ir Jn rfl (gC MK g1 (C.blt _ ⇑0) rfl hA g3 g2 he hpl)
 | sortb=>exact ir tX rfl (gC (Gm C.units) g1 (C.blt _ ⇑0) rfl hA g3 g2 he hpl)
 | any=>exact ir Jv rfl (gC (ML C.calm) g1 (C.blt _ ⇑0) rfl hA g3 g2 he hpl)
 | sum=>exact ir DG rfl (gC (ME C.calm) g1 (C.blt _ ⇑0) rfl hA g3 g2 he hpl)
 | _=>cases ht
end
section
variable {K:PySem.W.Frag} {cx:Cl} {P:aS} {w:bD} {k:Nat}
def mZ:∀ (us:List Str) (zs:List V),aI K H F (us.map .str) zs->zs = us.map V.str
 | [],zs,h=>by unfold aI at h;exact h
 | u::us,zs,h=>by
   rw [aJ] at h;unfold aI at h;obtain ⟨y,ys,rfl,r1,r2⟩:=h;unfold Rel at r1;rw [r1,mZ us ys r2,aJ]
def BL {G:Gh} {F1:aw->Prop} {H1:Hp} {σ:L2.St} {J:L2.It} {ds ys:List D} {δ1 δ2:Loc} {k:Nat} {tg1 tg2:Tg} {src2:It} {ifs:Eo} {elt:E} {p:aw} {xs:List Str} {Q:L2.St->Hp->Prop} (n:(!cj elt) = true) (hge1:mh σ.length tg1 = true) (hge2:mh σ.length tg2 = true)
 (ok1:Ok K G F1 σ H1 δ1) (wk:Wk K G F1 H1 J ds) (hp:H1 p = none) (ev:gW (outF cx k tg1 tg2 src2 ifs elt) ds δ1 = some (ys,δ2)) (hx:fS ys = some xs) (hr:xs.length < 4000)
 (q:∀ σ' H2 F2,Ok K (G.and p) F2 σ H2 δ2->H2 p = some (SH P w p (iP xs))->Step G F1 H1 F2 H2->((npI src2 && (npO ifs && np elt)) = true->Sim H1 H2)->Q σ' H2) :
 tLp J (gTg K tg1) tTr (tIn P w (tI K cx src2) (gTg K tg2) (tG K cx ifs) p (tE K cx elt)) (σ++aZ k none) (upd H1 p (SH P w p [])) Q:=by
 have hg:=ok1.free hp;obtain ⟨ok2,st2⟩:=ok1.enterX hp (oK P w p []);have hFs:∀ b,G.R b->(G.and p).R b:=λb z=>.inl z
 refine uA (P:=λr F' σc Hc=>∃ δi zs xr ti,(∃ tl:L2.St,σc = σ++tl/\tl.length = k)/\Ok K (G.and p) F' σ Hc δi/\gW (outF cx k tg1 tg2 src2 ifs elt) r δi = some (zs,δ2)/\fS zs = some xr/\Hc p = some (SH P w p ti)/\xr.foldl kn ti = iP xs/\ti.length+xr.length < 4001/\Step G F1 H1 F' Hc /\
  ((npI src2 && (npO ifs && np elt)) = true->Sim H1 Hc)) wk (λr F σ H z=>by obtain ⟨_,_,_,_,_,ok,_,_,_,_,_,st,_⟩:=z;exact ⟨st,ok.fd⟩) (λr F σ H H3 z sm=>by obtain ⟨a1,a2,a3,a4,a5,ok,a7,a8,a9,b1,b2,st,s⟩:=z;exact ⟨a1,a2,a3,a4,a5,ok.same' sm,a7,a8,sm _ _ a9,b1,b2,st.trans (.of_same sm),λq=>(s q).trans (.of sm)⟩) (F0:=λb=>F1 b\/b = p) ⟨δ1,ys,xs,[],⟨_,rfl,↥0⟩,ok2,ev,hx,cy,rfl,by simp;lia,st2,λ_=>.of (cD hp _)⟩ ?_ ?_
 . rintro d r F' _ H3 x N ⟨δi,zs,xr,ti,⟨tl,rfl,htl⟩,ok,el,exr,eD,ef,hr',st,sm⟩ rx hN;have hF:F' p:=ok.rf p (.inr rfl);obtain ⟨o,δ5,zs',eo,el',rfl⟩:=qT el;obtain ⟨δa,es,δb,δc,e1,e2,e3,rfl⟩:=EF eo;obtain ⟨xa,xb,ea,eb,rfl⟩:=qq exr;rw [ax] at hr';have okx:Ok K (G.and p) F' (σ++tl) H3 (δi++aZ k .no):=by rw [<- htl];exact ok.ext tl
   refine mU okx rx e1 λσ2 ok6 htake=>?_;have t2:σ2.take σ.length = σ:=by rw [htake _ hge1,JD];rfl
   have l2:σ2.length = σ.length+k:=by
    have a1:=okx.len;have a2:=ok6.len;have e1:=om e1;have e2:(σ++tl).length = σ.length+k:=by rw [ax,htl]
    lia
   have dl:δi.length = σ.length:=ok.len;unfold tTr;refine Fx ?_;refine ⟨G.and p,F',δa,es,δb,ok6,e2,λJ' H7 F7 st7 sm7 ok7 wk7=>?_⟩;have eD7:H7 p = some (SH P w p ti):=(st7.res p _ (.inr rfl) hF eD).2;refine FI n hg ok7 (wk7 G) eD7 e3 ea ∅ λσ8 H8 F8 l8 tk8 ok8 eD8 st8 sm8=>?_;have t8:σ8.take σ.length = σ:=(tk8 _ hge2).trans t2
   have tail:∃ tl':L2.St,σ8 = σ++tl'/\tl'.length = k:=by
    refine ⟨σ8.drop σ.length,?_,by rw [cP];lia⟩
    conv=>lhs;rw [<- bw σ.length σ8,t8]
   have s78:=(st7.sub hFs).trans st8
   have fl:∀ (xa ti:List Str),(xa.foldl kn ti).length<=ti.length+xa.length:=λxa=>by
    induction xa with
    | nil=>intro ti;simp
    | cons x xa ih =>
      intro ti;have:=ih (kn ti x);have:=xE ti x;simp only [iZ,aB]
      lia
   have fa:=fl xa ti;refine hN F8 _ _ ⟨δc.take δi.length,zs',xb,xa.foldl kn ti,tail,?_,el',eb,eD8,by rw [<- ef,GX],∅,st.trans s78,λz=>?_⟩
   . have:=ok8.cut δi.length;rw [dl,t8] at this;rw [dl];exact this
   . have z':=z;rw [aa] at z';exact sm8 z'.2 H1 hp ((sm z).trans (sm7 z'.1))
 . rintro F' _ Hc ⟨δi,zs,xr,ti,_,ok,el,exr,eD,ef,hr',st,sm⟩;cases el;have:xr = []:=by simpa [fS] using exr.symm
   subst this;exact q _ Hc F' ok (by rw [<- ef];exact eD) st sm
def DI {X:Cx} {c:Ck} {sc:fc} {Nc:List Str} {kk:Nat} {tg1 tg2:Tg} {src1 src2:It} {ifs:Eo} {elt:E} {ex t1 it1 t2 it2:aH} {il:List aH} {p pos cp:Pos} (C:Cok X c cx k) (n:(!cj elt) = true) (hk:Nc.length = c.N.length+kk) (hge1:mh c.N.length tg1 = true) (hge2:mh c.N.length tg2 = true) (hs:jX c sc = true) (hn:namesOk c sc Nc = true)
 (gg:Gl X "sorted") (gm:X.mg "sorted" = none) (gn:("sorted":Str)≠"__name__") (gd:(("sorted":Str) == ("__debug__":Str)) = false)
 (htg1:∀ cl Ca s H fp,PG (cxC X sc cl Ca Nc s H fp) t1 (gTg X.K tg1)) (htg2:∀ cl Ca s H fp,PG (cxC X sc cl Ca Nc s H fp) t2 (gTg X.K tg2)) (hI:PI X t1 it1 (tI X.K cx src1)) (hI2:∀ cl Ca s H fp,PI (cxC X sc cl Ca Nc s H fp) t2 it2 (tI X.K cx src2)) (hG:∀ cl Ca s H fp,PTs (cxC X sc cl Ca Nc s H fp) il (tG X.K cx ifs)) (hE:∀ cl Ca s H fp,PE (cxC X sc cl Ca Nc s H fp) ex (tE X.K cx elt))
 (hset:∀ v,foldedSetIterable it1 X.env v = pure v) (hset2:∀ env v,foldedSetIterable it2 env v = pure v):PE X (.Call (.Name "sorted" p) [.SetComp ex [⟨t1,it1,[],0⟩,⟨t2,it2,il,0⟩] sc cp] [] pos) (tE X.K cx (.sset kk tg1 src1 tg2 src2 ifs elt)):=by
 obtain ⟨nd,hvis⟩:=jL hn;have hC:=BJ (pos:=cp) (Nc:=Nc) C.xe C.calm (mV C hs) (λi x hi=>by rw [C.hN] at hi |-;exact hvis i x hi) (by rw [C.hN,hk];lia) hI htg1 hI2 htg2 hG hE hset hset2;have hA:PA X [.SetComp ex [⟨t1,it1,[],0⟩,⟨t2,it2,il,0⟩] sc cp] (zE (tSC X.prog X.w (Nc.length - X.N.length) (tI X.K cx src1) (gTg X.K tg1) (tI X.K cx src2) (gTg X.K tg2) (tG X.K cx ifs) (tE X.K cx elt)) KD):=jt hC ot rfl;intro pins s σ H Q I h;refine gC (uV C.calm C.units) gg gm rfl hA gn gd rfl rfl pins s σ H Q I ?_;obtain ⟨G,F,δ,d,δ',ok,ev,post⟩:=h;obtain ⟨ds,δ1,ys,xs,ei,ee,hx,hl,h64,rfl⟩:=zI ev;have ek:Nc.length - X.N.length = kk:=by rw [C.hN,hk];lia
 rw [ek];refine ⟨G,F,δ,ds,δ1,ok,ei,λJ H1 F1 st1 sm1 ok1 wk=>λD hp=>?_⟩;have hg:=ok1.free hp;refine BL n (by rw [I.len,C.hN];exact hge1) (by rw [I.len,C.hN];exact hge2) ok1 (wk _) hp ee hx hl λσ' H2 F2 ok2 eD st2 sm2=>?_;refine ⟨D,iP xs,rfl,eD,h64,λp' zs F' hp' rl=>?_⟩
 have st':Step G F1 H1 (λb=>F2 b/\b≠D) H2:=⟨st2.keep,λb z=>st2.grow b z.1,λb o r f e=>by
  obtain ⟨a1,a2⟩:=st2.res b o r f e;exact ⟨⟨a1,λw=>by rw [w,hp] at e;cases e⟩,a2⟩,st2.tb⟩
 have ok3:=ok2.leave hg;have sm3:=cD hp' (.lst zs);refine post _ _ _ ((st1.trans st').trans (Step.of_same sm3)) (λz=>?_) (ok3.same' sm3) (hZ ?_)
 . have z':(npI src1 && npI src2 && npO ifs && np elt) = true:=z;simp only [aa] at z';exact ((sm1 z'.1.1.1).trans (sm2 (by simp only [aa];exact ⟨z'.1.1.2,z'.1.2,z'.2⟩))).trans (.of sm3)
 . obtain ⟨us,e1,_,_⟩:=hV (iP xs)
   have rl2:aI X.K H2 (λb=>F2 b/\b≠D) (fU ((iP xs).map .str)) zs:=by
    rw [e1] at rl |-;have:zs = us.map V.str:=mZ us zs rl;rw [this];exact oo us
   unfold Rel;exact ⟨p',zs,rfl,.inl ⟨.inl cy,sN ok3.fd hp'⟩,aI.step ok3.fd (vP sm3) _ _ rl2⟩
end
section
variable {cx:Cl} {k:Nat}
end
end PP
end
section
namespace PP
open PySem PySem.Spec PyProof.Rows
open Builtin.SmallTypes (nextOf)
section
variable {P:aS} {w:bD} {A:aW} {E:ae->ai->Prop} {s:ai}
def yG {i l:aw} {k:Nat} {xs:List ae} {x:ae} {Q:ae->ai->Prop} (hit:s.heap.IsTupleIter i l k) (ht:s.heap.IsTuple l xs.toArray) (hx:xs[k]? = some x) (q:∀ h',h'.IsTupleIter i l (k+1)->fQ i s.heap h'->Q x { s with heap:=h' }):wpAny (model P w) A (nextOf (.ref i)) Q E s:=by
 obtain ⟨o,ho,hc,hd⟩:=id hit;obtain ⟨ol,hol,_,nl,hdl⟩:=ht;have hx':xs.toArray[k]? = some x:=by simpa using hx
 unfold nextOf;refine ab (cU (name:=fX "__next__") hit.typeIs PySem.F.slot_tuple_iterator_next (bW PySem.F.slot_tuple_iterator_next hit.typeIs PySem.F.entry_tuple_iterator_next ?_ (PySem.F.args_tuple_iterator_next_1 _)));refine ab (m:=field (.ref i) 0) (cT ho hd (x:=.ref l) rfl ?_);refine (if_neg (show ¬ ((kq l == bH) = true) from aj))▸?_;refine ab (m:=field (.ref i) 1) (cT ho hd (x:=.int k 0) rfl ?_);refine ab (m:=seqItems? (.ref l)) (dc hol hdl ?_);simp only [iq,hx'];have sb:=cm s.heap i (kr (·.setIfInBounds 1 (rawInt ((k:Int)+1))));refine ab (eY ho hd ↥0 (aq ⟨x,rfl,aq (q _ ⟨_,dh _ ho (Obj.isFreed_of_fields (GO hd _)),(Obj.cls_mapFields ..).trans hc,?_⟩ sb)⟩));rw [GO hd];simp [rawInt]
def BQ {i l:aw} {k:Nat} {xs:List ae} {Q:ae->ai->Prop} (hh:A.handled = none) (hit:s.heap.IsTupleIter i l k) (ht:s.heap.IsTuple l xs.toArray) (hx:xs[k]? = none)
 (q:∀ h' e,Ba i s.heap h'->(∃ o,h'.get? e = some o/\o.cls = .type "StopIteration")->E (.ref e) { s with heap:=h' }):wpAny (model P w) A (nextOf (.ref i)) Q E s:=by
 obtain ⟨o,ho,hc,hd⟩:=id hit;obtain ⟨ol,hol,_,nl,hdl⟩:=ht;have hx':xs.toArray[k]? = none:=by simpa using hx
 unfold nextOf;refine ab (cU (name:=fX "__next__") hit.typeIs PySem.F.slot_tuple_iterator_next (bW PySem.F.slot_tuple_iterator_next hit.typeIs PySem.F.entry_tuple_iterator_next ?_ (PySem.F.args_tuple_iterator_next_1 _)));refine ab (m:=field (.ref i) 0) (cT ho hd (x:=.ref l) rfl ?_);refine (if_neg (show ¬ ((kq l == bH) = true) from aj))▸?_;refine ab (m:=field (.ref i) 1) (cT ho hd (x:=.int k 0) rfl ?_);refine ab (m:=seqItems? (.ref l)) (dc hol hdl ?_);simp only [iq,hx'];refine ab (dQ (ab (eY ho hd ↥0 (ab (m:=newExc (.type "StopIteration") []) ?_))));simp only [newExc,newTuple];refine ab (bA ?_ (by size_fits));refine ab (m:=firstArgMember _ _) (kH (a:=bH) (by first | rfl | (simp only [firstArgMember];rfl)) ?_);refine bA ?_ (by size_fits);simp only [raiseNew];refine ab (wpAny_handled ?_)
 first | rw [show A.in1.handled = none from hh] | rw [hh]
 exact ab (aq (wpAny_throw (q _ _ (((cm ..).extBut.push _).push _) ⟨_,aF _ rfl,rfl⟩)))
end
end PP
end
section
namespace PP
open PySem PySem.Spec L2 PyProof.Rows
open Builtin.SmallTypes (nextOf)
def SqM (m:Bool) (K:PySem.W.Frag) (H:Hp) (a:aw) (xs:List V):Prop:=if m = true then SqL K H a xs else SqT K H a xs
def OkM (m:Bool) (h:cb) (a:aw) (us:List ae):Prop:=if m = true then h.IsList a us.toArray else h.IsTuple a us.toArray
def ItO (m:Bool) (h:cb) (i l:aw) (k:Nat):Prop:=if m = true then h.IsListIter i l k else h.IsTupleIter i l k
def ItO.at {m:Bool} {h h':cb} {i l:aw} {k:Nat} (x:ItO m h i l k) (e:∀ o,h.get? i = some o->h'.get? i = some o):ItO m h' i l k:=by
 cases m
 . exact Heap.IsTupleIter.at x e
 . exact Heap.IsListIter.at x e
def ItO.obj {m:Bool} {h:cb} {i l:aw} {k:Nat} (x:ItO m h i l k):∃ o,h.get? i = some o/\∀ v,o.data≠.cell v:=by
 cases m <;>
 . obtain ⟨o,e,_,d⟩:=x;exact ⟨o,e,λv z=>by rw [d] at z;cases z⟩
section
variable {X:Cx} {pins:List (aw × Obj)} {σ:L2.St} {H:Hp} {s:ai} {A:aW} {E:ae->ai->Prop}
def okM (I:Inv X pins σ H s) (hq:SqM m X.K H l ys):∃ us,Vals ys us/\OkM m s.heap l us:=by
 cases m
 . obtain ⟨us,r,p,_⟩:=I.tuple hq;exact ⟨us,r,p⟩
 . obtain ⟨us,r,p,_⟩:=I.list hq;exact ⟨us,r,p.isList⟩
def zJ (I:Inv X pins σ H s) (h1:SqM m X.K H l xs) (h2:SqM m X.K H l ys):xs = ys:=by
 cases m
 . exact I.tuple_inj h1 h2
 . exact I.list_inj h1 h2
def uC {m:Bool} {i l:aw} {k:Nat} {ys:List V} {x:V} {Q:ae->ai->Prop} (I:Inv X pins σ H s) (hq:SqM m X.K H l ys) (hx:ys[k]? = some x) (it:ItO m s.heap i l k)
 (q:∀ u h',RelV x u->ItO m h' i l (k+1)->fQ i s.heap h'->Q u { s with heap:=h' }):wpAny (model X.prog X.w) A (nextOf (.ref i)) Q E s:=by
 obtain ⟨us,r,ok⟩:=okM I hq;obtain ⟨u,hu,ru⟩:=r.get hx;cases m
 . exact yG it ok hu λh' a b=>q u h' ru a b
 . exact wpAny_nextOf_list_item it ok (by simpa using hu) λh' a b=>q u h' ru a b
def As {m:Bool} {i l:aw} {k:Nat} {ys:List V} {Q:ae->ai->Prop} (hh:A.handled = none) (I:Inv X pins σ H s) (hq:SqM m X.K H l ys) (hx:ys.length<=k) (it:ItO m s.heap i l k)
 (q:∀ h' e,Ba i s.heap h'->(∃ o,h'.get? e = some o/\o.cls = .type "StopIteration")->E (.ref e) { s with heap:=h' }):wpAny (model X.prog X.w) A (nextOf (.ref i)) Q E s:=by
 obtain ⟨us,r,ok⟩:=okM I hq;have hl:us[k]? = none:=fk (by rw [<- r.length];exact hx);cases m
 . exact BQ hh it ok hl q
 . exact wpAny_nextOf_list_end hh it ok (by simpa using hl) q
structure Zp (h:cb) (m1 m2:Bool) (z TI TO i1 i2 l1 l2:aw) (f0:ae) (k1 k2:Nat):Prop where
 hz:CI h z TI TO f0
 ti:vo h TI (.ref i1) (.ref i2)
 to:∃ a b,vo h TO a b
 i1:ItO m1 h i1 l1 k1
 i2:ItO m2 h i2 l2 k2
structure Ap (z TI TO i1 i2:aw):Prop where
 a1:TI≠z
 a2:TO≠z
 a3:i1≠z
 a4:i2≠z
 a5:TI≠TO
 a6:TI≠i1
 a7:TI≠i2
 a8:TO≠i1
 a9:TO≠i2
 a10:i1≠i2
def fh {b:aw} {h':cb} (I:Inv X pins σ H s) (f:ko X pins H b) (k:∀ c o,c≠b->s.heap.get? c = some o->h'.get? c = some o):Inv X pins σ H { s with heap:=h' }:=I.turned (t':=s.toks) k f.1 f.2.1 f.2.2.2.1 f.2.2.2.2.1 f.2.2.2.2.2
def CM {m1 m2:Bool} {z TI TO i1 i2 l1 l2:aw} {k:Nat} {xs ys:List V} {x y:V} {Q:ae->ai->Prop} (D:Ap z TI TO i1 i2) (I:Inv X pins σ H s) (hf:∀ b∈[z,TI,TO,i1,i2],ko X pins H b) (Z:Zp s.heap m1 m2 z TI TO i1 i2 l1 l2 .none k k)
 (q1:SqM m1 X.K H l1 xs) (q2:SqM m2 X.K H l2 ys) (hx:xs[k]? = some x) (hy:ys[k]? = some y)
 (hQ:∀ T h',H T = none->(∀ b∈[z,TI,TO,i1,i2],T≠b)->Inv X pins σ (upd H T (.tup [x,y])) { s with heap:=h' }->Zp h' m1 m2 z TI TO i1 i2 l1 l2 (rawInt T) (k+1) (k+1)->Q (.ref T) { s with heap:=h' }) :
 wpAny (model X.prog X.w) A (eJ.«zip.__next__» ⟨[.ref z],[]⟩) (λfin s'=>∃ v,fin = .done (.ret v)/\Q v s') E s:=by
 obtain ⟨hz,ti,⟨a,b,to⟩,h1,h2⟩:=Z;have fz:=hf z ↥0;have fT:=hf TO ↥0;have f1:=hf i1 ↥0;have f2:=hf i2 ↥0;refine ab (m:=field (.ref z) 2) (cT hz rfl (x:=.bool false) rfl ?_);refine ab (m:=field (.ref z) 3) (cT hz rfl (x:=.ref TI) rfl ?_);refine ab (dc ti rfl ?_);refine ab (m:=di (.ref z)) ?_;unfold di;refine ab (cT hz rfl (x:=.none) rfl (aq ?_));simp only [if_true];refine ab (dQ (ab (cT hz rfl (x:=.ref TO) rfl (ab (ik hz ↥0 λg1 y1 s1=>ab ?_)))));replace y1:CI g1 z TI TO .ellipsis:=y1;have I1:=fh I fz λc o n e=>s1.extBut c o n e;simp only [pY,JC,rG,List.forIn_nil];refine ab (ab (pX (ab (m:=nextOf (.ref i1)) (uC I1 q1 hx (h1.at λo e=>s1.extBut _ o D.a3 e) λu g2 ru j1 s2=>aq ?_))));have I2:=fh I1 f1 λc o n e=>s2.extBut c o n e;have to2:vo g2 TO a b:=s2.extBut _ _ D.a8 (s1.extBut _ _ D.a2 to);refine ab (dc to2 rfl (ab (oP to2 λg3 to3 s3=>ab (jm (aq ?_)))));replace to3:vo g3 TO u b:=to3;have I3:=fh I2 fT λc o n e=>s3.extBut c o n e;refine ab (ab (pX (ab (m:=nextOf (.ref i2)) (uC I3 q2 hy (((h2.at λo e=>s1.extBut _ o D.a4 e).at λo e=>s2.extBut _ o D.a10.symm e).at λo e=>s3.extBut _ o D.a9.symm e) λv g4 rv j2 s4=>aq ?_))));have I4:=fh I3 f2 λc o n e=>s4.extBut c o n e;have to4:vo g4 TO u b:=s4.extBut _ _ D.a9 to3;refine ab (dc to4 rfl (ab (oP to4 λg5 to5 s5=>ab (jm (aq (aq ?_))))));replace to5:vo g5 TO u v:=to5;have I5:=fh I4 fT λc o n e=>s5.extBut c o n e;refine ab (dc to5 rfl (ab (oQ ?_)));have hT:H g5.objs.size = none:=I5.hok.fresh (ao _);have z5:CI g5 z TI TO .ellipsis:=s5.extBut _ _ D.a2.symm (s4.extBut _ _ D.a4.symm (s3.extBut _ _ D.a2.symm (s2.extBut _ _ D.a3.symm y1)));have ti5:vo g5 TI (.ref i1) (.ref i2):=s5.extBut _ _ D.a5 (s4.extBut _ _ D.a7 (s3.extBut _ _ D.a5 (s2.extBut _ _ D.a6 (s1.extBut _ _ D.a1 ti))));have k1:ItO m1 g5 i1 l1 (k+1):=((j1.at λo e=>s3.extBut _ o D.a8.symm e).at λo e=>s4.extBut _ o D.a10 e).at λo e=>s5.extBut _ o D.a8.symm e;have k2:ItO m2 g5 i2 l2 (k+1):=j2.at λo e=>s5.extBut _ o D.a9.symm e;have Tz:g5.objs.size≠z:=fe (aE z5)
 have Ts:∀ b∈[z,TI,TO,i1,i2],g5.objs.size≠b:=λb hb=>by
  obtain ⟨_,e1,_⟩:=k1.obj;obtain ⟨_,e2,_⟩:=k2.obj;simp only [aQ,qa,or_false] at hb;rcases hb with rfl | rfl | rfl | rfl | rfl
  . exact Tz
  . exact fe (aE ti5)
  . exact fe (aE to5)
  . exact fe (aE e1)
  . exact fe (aE e2)
 have I6:Inv X pins σ (upd H g5.objs.size (.tup [x,y])) { s with heap:=g5.push { cls:=.type "tuple",data:=.seq #[u,v] } } :=
  I5.laid (t':=s.toks) (λb u e=>ah _ e) (ao _) ⟨by show 2<=sizeLine;decide,[u,v],.cons ru (.cons rv .nil),⟨_,aF _ rfl,rfl,_,rfl⟩⟩
 have fz6:ko X pins (upd H g5.objs.size (.tup [x,y])) z:=⟨by rw [bP Tz.symm];exact fz.1,fz.2⟩;refine ab (m:=jE (.ref z) (.ref g5.objs.size)) ?_;unfold jE;have z6:CI (g5.push { cls:=.type "tuple",data:=.seq #[u,v] }) z TI TO .ellipsis:=ah _ z5;refine ab (ik z6 ↥0 λg7 z7 s7=>?_);replace z7:CI g7 z TI TO (rawInt g5.objs.size):=z7;refine ik z7 ↥0 λg8 z8 s8=>?_;replace z8:CI g8 z TI TO (rawInt g5.objs.size):=z8;have up:∀ c o,c≠z->g5.get? c = some o->g8.get? c = some o:=λc o n e=>s8.extBut _ _ n (s7.extBut _ _ n (ah _ e));have I8:=fh (fh I6 fz6 λc o n e=>s7.extBut c o n e) fz6 λc o n e=>s8.extBut c o n e;exact aq ⟨_,rfl,hQ g5.objs.size g8 hT Ts I8 ⟨z8,up _ _ D.a1 ti5,⟨_,_,up _ _ D.a2 to5⟩,k1.at λo e=>up _ o D.a3 e,k2.at λo e=>up _ o D.a4 e⟩⟩
def CK {m1 m2:Bool} {z TI TO i1 i2 l1 l2:aw} {k:Nat} {xs ys:List V} {Q:PySem.Fin->ai->Prop} (hh:A.handled = none) (D:Ap z TI TO i1 i2) (I:Inv X pins σ H s) (hf:∀ b∈[z,TI,TO,i1,i2],ko X pins H b) (Z:Zp s.heap m1 m2 z TI TO i1 i2 l1 l2 .none k k)
 (q1:SqM m1 X.K H l1 xs) (q2:SqM m2 X.K H l2 ys) (hend:xs.length<=k\/ys.length<=k)
 (hE:∀ h' e,Inv X pins σ H { s with heap:=h' }->(∃ o,h'.get? e = some o/\o.cls = .type "StopIteration")->E (.ref e) { s with heap:=h' }) :
 wpAny (model X.prog X.w) A (eJ.«zip.__next__» ⟨[.ref z],[]⟩) Q E s:=by
 obtain ⟨hz,ti,⟨a,b,to⟩,h1,h2⟩:=Z;have fz:=hf z ↥0;have fT:=hf TO ↥0;have f1:=hf i1 ↥0;have f2:=hf i2 ↥0;refine ab (m:=field (.ref z) 2) (cT hz rfl (x:=.bool false) rfl ?_);refine ab (m:=field (.ref z) 3) (cT hz rfl (x:=.ref TI) rfl ?_);refine ab (dc ti rfl ?_);refine ab (m:=di (.ref z)) ?_;unfold di;refine ab (cT hz rfl (x:=.none) rfl (aq ?_));simp only [if_true];refine ab (dQ (ab (cT hz rfl (x:=.ref TO) rfl (ab (ik hz ↥0 λg1 y1 s1=>ab ?_)))));replace y1:CI g1 z TI TO .ellipsis:=y1;have I1:=fh I fz λc o n e=>s1.extBut c o n e;simp only [pY,JC,rG,List.forIn_nil];have j1:ItO m1 g1 i1 l1 k:=h1.at λo e=>s1.extBut _ o D.a3 e
 have last:∀ {g:cb} {e:aw} (Ig:Inv X pins σ H { s with heap:=g }) (zg:CI g z TI TO .ellipsis) (he:∃ o,g.get? e = some o/\o.cls = .type "StopIteration"),
  wpAny (model X.prog X.w) A (setField (.ref z) 0 .none) (λ_ s'=>E (.ref e) s') E { s with heap:=g }:=λ{g e} Ig zg he=>by
  obtain ⟨o,ho,hc⟩:=he;have ez:e≠z:=λx=>by subst x;rw [zg] at ho;cases ho;simp at hc
  refine ik zg ↥0 λg' _ s'=>?_;have I':=fh (h':=g') Ig fz λc o n e=>s'.extBut c o n e;exact hE g' e I' ⟨o,s'.extBut _ _ ez ho,hc⟩
 refine ab (ab (pX (ab (m:=nextOf (.ref i1)) ?_)));by_cases hx:xs.length<=k
 . refine As hh I1 q1 hx j1 λg2 e x2 he=>?_;have I2:=fh (h':=g2) I1 f1 λc o n e=>x2 c o n e;exact last I2 (x2 _ _ D.a3.symm y1) he
 . obtain ⟨x,ex⟩:∃ x,xs[k]? = some x:=⟨xs[k],aD (by omega)⟩;refine uC I1 q1 ex j1 λu g2 ru j1' s2=>aq ?_;have I2:=fh I1 f1 λc o n e=>s2.extBut c o n e;have to2:vo g2 TO a b:=s2.extBut _ _ D.a8 (s1.extBut _ _ D.a2 to);refine ab (dc to2 rfl (ab (oP to2 λg3 to3 s3=>ab (jm (aq ?_)))));have I3:=fh I2 fT λc o n e=>s3.extBut c o n e;refine ab (ab (pX (ab (m:=nextOf (.ref i2)) ?_)));refine As hh I3 q2 (by omega) (((h2.at λo e=>s1.extBut _ o D.a4 e).at λo e=>s2.extBut _ o D.a10.symm e).at λo e=>s3.extBut _ o D.a9.symm e) λg4 e x4 he=>?_;have I4:=fh (h':=g4) I3 f2 λc o n e=>x4 c o n e;exact last I4 (x4 _ _ D.a4.symm (s3.extBut _ _ D.a2.symm (s2.extBut _ _ D.a3.symm y1))) he
end
end PP
end
section
namespace PP
open PySem PySem.Spec L2 PyProof.Rows
def Itz (K:PySem.W.Frag) (m1 m2:Bool) (l1 l2:aw):L2.It :=
 ⟨λi H=>∃ xs ys x y,SqM m1 K H l1 xs/\SqM m2 K H l2 ys/\xs[i]? = some x/\ys[i]? = some y,
   λi H v H'=>∃ T x y,v = .ref T/\H T = none/\H' = upd H T (.tup [x,y])/\(∀ xs,SqM m1 K H l1 xs->xs[i]? = some x)/\∀ ys,SqM m2 K H l2 ys->ys[i]? = some y,
   λi H=>∃ xs ys,SqM m1 K H l1 xs/\SqM m2 K H l2 ys/\(xs.length<=i\/ys.length<=i)⟩
def DA {P:aS} {w:bD} {K:PySem.W.Frag} {elts:List aH} {k0:Nat} {pos:Pos} {m1 m2:Bool} {z TI TO i1 i2 l1 l2:aw} (D:Ap z TI TO i1 i2) :
 Turn P w K (.Tuple elts k0 pos) (Itz K m1 m2 l1 l2) [z,TI,TO,i1,i2] z (λi h=>Zp h m1 m2 z TI TO i1 i2 l1 l2 .none i i) where
 mem:=by simp
 obj:=λi h st b hb=>by
  obtain ⟨hz,ti,⟨a,c,to⟩,h1,h2⟩:=st;simp only [aQ,qa,or_false] at hb;rcases hb with rfl | rfl | rfl | rfl | rfl
  . exact ⟨_,hz,λv z=>by cases z⟩
  . exact ⟨_,ti,λv z=>by cases z⟩
  . exact ⟨_,to,λv z=>by cases z⟩
  . exact h1.obj
  . exact h2.obj
 keep:=λi h h' st k=>by
  obtain ⟨hz,ti,⟨a,c,to⟩,h1,h2⟩:=st;exact ⟨k z ↥0 _ hz,k TI ↥0 _ ti,⟨a,c,k TO ↥0 _ to⟩,h1.at λo e=>k _ ↥0 o e,h2.at λo e=>k _ ↥0 o e⟩
 item:=by
  intro X hP hw hK hc i pins s σ H E I hf st hg;subst hP hw hK;obtain ⟨xs,ys,x,y,q1,q2,hx,hy⟩:=hg;have hT:s.TypeIs (.ref z) "zip":=⟨_,st.hz,rfl⟩;unfold pyNext;refine ab (lx (cU (name:=fX "__next__") hT PySem.F.slot_zip_next (bW PySem.F.slot_zip_next hT PySem.F.entry_zip_next (CM D I hf st q1 q2 hx hy λT h' nT nb I' Z'=>aq ⟨.ref T,rfl,?_⟩) (PySem.F.args_zip_next_1 _))));refine wpAny_letOwnedTupleGo_zip Z'.hz λh2 z2 s2=>?_;have hn:∀ b∈[z,TI,TO,i1,i2],upd H T (.tup [x,y]) b = none:=λb hb=>by rw [bP (nb b hb).symm];exact (hf b hb).1
  have I2:=fh (h':=h2) I' ⟨hn z ↥0,(hf z ↥0).2⟩ λc o n e=>s2.extBut c o n e;obtain ⟨_,ti,⟨a,c,to⟩,h1,h2'⟩:=Z'
  exact ⟨.ref T,upd H T (.tup [x,y]),I2,rfl,⟨T,x,y,rfl,nT,rfl,λxs' h=>by rw [zJ I h q1];exact hx,λys' h=>by rw [zJ I h q2];exact hy⟩,
   ⟨z2,s2.extBut _ _ D.a1 ti,⟨a,c,s2.extBut _ _ D.a2 to⟩,h1.at λo e=>s2.extBut _ o D.a3 e,h2'.at λo e=>s2.extBut _ o D.a4 e⟩,hn⟩
 done:=by
  intro X hP hw hK hc i pins s σ H E I hf st hg;subst hP hw hK;obtain ⟨xs,ys,q1,q2,he⟩:=hg;have hT:s.TypeIs (.ref z) "zip":=⟨_,st.hz,rfl⟩;unfold pyNext;refine ab (lx (cU (name:=fX "__next__") hT PySem.F.slot_zip_next (bW PySem.F.slot_zip_next hT PySem.F.entry_zip_next (CK (I.ok.hd hc) D I hf st q1 q2 he λh' e I' he=>?_) (PySem.F.args_zip_next_1 _))));obtain ⟨o,ho,hc⟩:=he;exact ab (vh (T:="StopIteration") (b:=true) ⟨o,ho,hc⟩ isSubtype_stop (aq ⟨rfl,I'⟩))
 self:=λ_ _ _ _ _ st h=>wpAny_pyIter_zip st.hz h
def itN (m:Bool):String:=if m = true then "list_iterator" else "tuple_iterator"
def ju (m:Bool) (l:aw):Obj:={ cls:=.type (itN m),data:=.fields #[.ref l,.int 0 0] }
def iterM {E:ae->ai->Prop} (ok:OkM m s.heap l us) (h:Q (.ref s.heap.objs.size) { s with heap:=s.heap.push (ju m l) }):wpAny (model prog w) A (pyIter (.ref l)) Q E s:=by
 cases m
 . exact MV (show s.heap.IsTuple l us.toArray from ok) h
 . exact fO (show s.heap.IsList l us.toArray from ok) h
def OkM.push (ok:OkM m h l us) (o:Obj):OkM m (h.push o) l us:=by
 cases m
 . exact Heap.IsTuple.at (show h.IsTuple l us.toArray from ok) λo e=>ah _ e
 . exact Heap.IsList.push ok o
def zH (h:cb) (m1 m2:Bool) (l1 l2:aw):cb:=((((h.push (ju m1 l1)).push (ju m2 l2)).push { cls:=.type "tuple",data:=.seq #[.ref h.objs.size,.ref (h.objs.size+1)] }).push { cls:=.type "tuple",data:=.seq #[.none,.none] }).push { cls:=.type "zip",data:=.fields #[.none,.bool false,.bool false,.ref (h.objs.size+2),.ref (h.objs.size+3)] }
def BS (l1 l2:aw) (us vs:List ae):Meets (eJ.«zip.__new__» ⟨[.type "zip",.ref l1,.ref l2],[]⟩) (λ_ R s=>OkM m1 s.heap l1 us/\OkM m2 s.heap l2 vs/\R (.ok (.ret (.ref (s.heap.objs.size+4)))) { s with heap:=zH s.heap m1 m2 l1 l2 }) :=
 .of_wp λprog w A R s h=>by
  obtain ⟨hp,g,d,tk,os⟩:=s;obtain ⟨o1,o2,h⟩:=h;have hsub:=sub_zip;have L1:OkM m1 (Shared.heap ⟨hp,g,d,tk,os⟩) l1 us:=o1;have L2:OkM m2 (Shared.heap ⟨hp.push (ju m1 l1),g,d,tk,os⟩) l2 vs:=OkM.push o2 _
  wp_walk using iterM L1,iterM L2
  refine ⟨_,rfl,?_⟩;unfold zH at h;simp only [bJ];exact h
section
variable {prog:aS} {w:bD} {A:aW} {E:ae->ai->Prop} {s:ai}
def Ci (o1:OkM m1 s.heap l1 us) (o2:OkM m2 s.heap l2 vs)
 (h:∀ h',Zp h' m1 m2 (s.heap.objs.size+4) (s.heap.objs.size+2) (s.heap.objs.size+3) s.heap.objs.size (s.heap.objs.size+1) l1 l2 .none 0 0->(∀ c o,s.heap.get? c = some o->h'.get? c = some o)->Q (.ref (s.heap.objs.size+4)) { s with heap:=h' }) :
 wpAny (model prog w) A (call (.type "zip") [.ref l1,.ref l2]) Q E s:=by
 refine callType_new PySem.F.called_zip ⇑0 (PySem.F.typeCall_zip_2 _ _) (PySem.F.newCall_zip_2 _ _) (λobj=>PySem.F.args_object_init_3 obj _ _) PySem.F.entry_zip_new (BS (m1:=m1) (m2:=m2) l1 l2 us vs) ⟨o1,o2,?_⟩;have up:∀ {h:cb} {c:aw} {o o':Obj},h.get? c = some o->(h.push o').get? c = some o:=λe=>ah _ e;have at_:∀ {h:cb} {o:Obj} {n:aw},h.objs.size = n->o.isFreed = false->(h.push o).get? n = some o:=λe f=>by rw [<- e];exact aF _ f
 have z1:(s.heap.push (ju m1 l1)).objs.size = s.heap.objs.size+1:=bJ ..;have z2:((s.heap.push (ju m1 l1)).push (ju m2 l2)).objs.size = s.heap.objs.size+2:=by rw [bJ,z1]
 have z3:(((s.heap.push (ju m1 l1)).push (ju m2 l2)).push { cls:=.type "tuple",data:=.seq #[.ref s.heap.objs.size,.ref (s.heap.objs.size+1)] }).objs.size = s.heap.objs.size+3:=by rw [bJ,z2]
 have z4:((((s.heap.push (ju m1 l1)).push (ju m2 l2)).push { cls:=.type "tuple",data:=.seq #[.ref s.heap.objs.size,.ref (s.heap.objs.size+1)] }).push { cls:=.type "tuple",data:=.seq #[.none,.none] }).objs.size = s.heap.objs.size+4:=by rw [bJ,z3]
 have g5:(zH s.heap m1 m2 l1 l2).get? (s.heap.objs.size+4) = some _:=at_ z4 rfl;have g4:(zH s.heap m1 m2 l1 l2).get? (s.heap.objs.size+3) = some _:=up (at_ z3 rfl);have g3:(zH s.heap m1 m2 l1 l2).get? (s.heap.objs.size+2) = some _:=up (up (at_ z2 rfl));have g2:(zH s.heap m1 m2 l1 l2).get? (s.heap.objs.size+1) = some (ju m2 l2):=up (up (up (at_ z1 rfl)));have g1:(zH s.heap m1 m2 l1 l2).get? s.heap.objs.size = some (ju m1 l1):=up (up (up (up (at_ rfl rfl))));have it:∀ {m:Bool} {i l:aw} {h:cb},h.get? i = some (ju m l)->ItO m h i l 0:=λ{m i l h} e=>by cases m<;>exact ⟨_,e,rfl,rfl⟩
 exact ⟨⟨_,g5,rfl⟩,h _ ⟨g5,g3,⟨_,_,g4⟩,it g1,it g2⟩ λc o e=>up (up (up (up (up e))))⟩
end
def Ma (h:a≠b):(show aw from a)≠(show aw from b):=h
def Pf (K:PySem.W.Frag) (ta:TA):TI:=λσ H R=>ta σ H λvs H1=>∃ m1 m2 l1 l2 xs ys,vs = [.ref l1,.ref l2]/\SqM m1 K H1 l1 xs/\SqM m2 K H1 l2 ys/\R (Itz K m1 m2 l1 l2) H1
def Ll {X:Cx} {elts:List aH} {k0:Nat} {tp:Pos} {a b:aH} {ta:TA} {p pos:Pos} (hg:Gl X "zip") (hm:X.mg "zip" = none) (ha:PA X [a,b] ta) (hs:starEach [a,b] X.env = (false,eval a X.env)::starEach [b] X.env) (hpl:(backTo pos (starEach [b] X.env)).any (·.1) = false) :
 PI X (.Tuple elts k0 tp) (.Call (.Name "zip" p) [a,b] [] pos) (Pf X.K ta):=by
 intro pins s σ H R I h;refine Call_ (mC I hg hm boot_zip (dB (thn (ha pos pins s σ H _ I h) λus s1 ⟨vs,H1,I1,r1,q1⟩=>?_) hs hpl));obtain ⟨m1,m2,l1,l2,xs,ys,rfl,s1',s2',q⟩:=q1;obtain ⟨u,rr,e,r,rr1⟩:∃ u rr,us = u::rr/\RelV (.ref l1) u/\Vals [.ref l2] rr:=by cases r1 with | cons r rr=>exact ⟨_,_,rfl,r,rr⟩
 obtain ⟨v,rfl,r2⟩:=vals1 rr1;subst e;cases r;cases r2;obtain ⟨us1,_,o1⟩:=okM I1 s1';obtain ⟨us2,_,o2⟩:=okM I1 s2';refine Ci o1 o2 λh' Z k=>?_;refine wpAny_pyIter_zip Z.hz ?_
 have D:Ap (s1.heap.objs.size+4) (s1.heap.objs.size+2) (s1.heap.objs.size+3) s1.heap.objs.size (s1.heap.objs.size+1):=by
  constructor<;>(refine Ma ?_;lia)
 refine ⟨_,_,_,_,H1,rfl,I1.kept (t':=s1.toks) k,DA D,Z,λb hb=>?_,q⟩
 have hle:s1.heap.objs.size<=b:=by
  simp only [aQ,qa,or_false] at hb;rcases hb with rfl | rfl | rfl | rfl | rfl<;>lia
 exact I1.fpOk hle (I1.hok.fresh hle)
end PP
end
section
namespace PP
open PySem L2 PyProof.Rows
variable [Tbs]
section
variable {X:Cx} {c:Ck} {cx:Cl} {k:Nat}
def kM:D->Bool
 | .lst _=>true
 | _=>false
def pJ {K:PySem.W.Frag} {H:Hp} {F:aw->Prop} {d:D} {ds:List D} {v:V} (e:Ec d = some ds) (r:Rel K H F d v):∃ a us,v = .ref a/\SqM (kM d) K H a us/\aI K H F ds us:=by
 cases d with
 | lst l =>
   cases e;obtain ⟨a,us,e1,h1,h2⟩:=dF.lst (.inl r)
   exact ⟨a,us,e1,h1.sq,h2⟩
 | tup l =>
   cases e;obtain ⟨a,us,e1,h1,h2⟩:=dF.tup (.inl r)
   exact ⟨a,us,e1,h1,h2⟩
 | _=>cases e
def JZ {K:PySem.W.Frag} {G:Gh} {H:Hp} {F:aw->Prop} {x y:D} {xs ys:List D} {l1 l2:aw} (fd:FD F H) (ex:Ec x = some xs) (ey:Ec y = some ys) (q1:Rel K H F x (.ref l1)) (q2:Rel K H F y (.ref l2)):Wk K G F H (Itz K (kM x) (kM y) l1 l2) (CN xs ys):=by
 intro F2 H2 st fd2 i;obtain ⟨_,w1,ea,t1,rl1⟩:=pJ ex (Rel.step fd st _ _ q1);cases ea;obtain ⟨_,w2,ea,t2,rl2⟩:=pJ ey (Rel.step fd st _ _ q2);cases ea;have ll1:=rl1.length;have ll2:=rl2.length;have zl:(CN xs ys).length = min xs.length ys.length:=by unfold CN;rw [ay,List.length_zip]
 refine ⟨λd e=>?_,λe=>⟨w1,w2,t1,t2,∅⟩⟩;unfold CN at e;rw [cW,bp] at e;obtain ⟨⟨d1,d2⟩,e,rfl⟩:=e;obtain ⟨e1,e2⟩:=List.getElem?_zip_eq_some.mp e;obtain ⟨a1,ha1,ra1⟩:=rl1.get e1;obtain ⟨a2,ha2,ra2⟩:=rl2.get e2;refine ⟨⟨w1,w2,a1,a2,t1,t2,ha1,ha2⟩,λv H3 hy=>?_⟩;obtain ⟨T,b1,b2,rfl,nT,rfl,y1,y2⟩:=hy;cases (y1 _ t1).symm.trans ha1;cases (y2 _ t2).symm.trans ha2;refine ⟨cD nT _,?_⟩;unfold Rel;exact ⟨T,[a1,a2],rfl,SqT.of cy,aI.step (G:=G) fd2 (Step.of_same (cD nT _)) _ _ (aI.cons ra1 (aI.cons ra2 aI.nil))⟩
def KI {es:Es} {tg a b:aH} {p pos:Pos} (ht:Je tg = true) (n:mw es = true) (hc:kE c es [a,b] = true) (hg:Gl X "zip") (hm:X.mg "zip" = none) (hA:PA X [a,b] (tEs X.K cx es)):PI X tg (.Call (.Name "zip" p) [a,b] [] pos) (tI X.K cx (.zp es)):=by
 obtain ⟨elts,k0,tp,rfl,_⟩:=kQ (x:=tg) (k:=λ_=>true) (by unfold wC;rw [aa];exact ⟨ht,rfl⟩);obtain ⟨_,_,_,c1,c2⟩:=lL hc;refine PI.imp (Ll hg hm hA (cY (cO c1) _ _) (kL c2)) λσ H R z=>?_;obtain ⟨G,F,δ,ds,δ',ok,ev,post⟩:=z;simp only [evI,af,ag] at ev;obtain ⟨⟨zs,δ1⟩,e1,ws,e2,e3⟩:=ev;cases e3;unfold zpD at e2;split at e2
 . rename_i x y ez;have ez:zs = [x,y]:=ez;subst ez;rw [ag] at e2;obtain ⟨xs,ex,e2⟩:=e2;rw [bp] at e2;obtain ⟨ys,ey,rfl⟩:=e2;refine ⟨G,F,δ,[x,y],_,ok,e1,λvs H1 F1 st sm ok1 r1=>?_⟩;have r:=r1.rl n;unfold aI at r;obtain ⟨v1,_,rfl,q1,r⟩:=r;unfold aI at r;obtain ⟨v2,_,rfl,q2,r⟩:=r;unfold aI at r;subst r;obtain ⟨l1,us1,rfl,s1,_⟩:=pJ ex q1;obtain ⟨l2,us2,rfl,s2,_⟩:=pJ ey q2;exact ⟨kM x,kM y,l1,l2,us1,us2,rfl,s1,s2,post _ _ _ st sm ok1 λG'=>JZ ok1.fd ex ey q1 q2⟩
 . cases e2
end
section
variable {cx:Cl} {k:Nat}
def kK {c:Ck} {tg:Tg} {ts:List Str} {kk:Nat} (h:ts.length = kk):(jM ts c.N++ts).length = c.N.length+kk:=by
 unfold jM;rw [ax,ay,h]
def nI {c:Ck} {t:It} {x tg:aH} (h:ckI c t tg x = true) (env:Env) (v:ae):foldedSetIterable x env v = pure v:=by
 cases t with
 | rng e=>obtain ⟨_,_,_,_,rfl,_⟩:=fx h;rfl
 | rng2 a b=>obtain ⟨_,_,_,_,rfl,_⟩:=fx h;rfl
 | rev e=>obtain ⟨_,_,_,_,rfl,_⟩:=fx h;rfl
 | zp es=>obtain ⟨_,_,_,_,rfl,_⟩:=fx h;rfl
 | sq e =>
   have h:(ckE c e x && !cj e) = true:=h;rw [aa] at h;exact FK (cO h.1) env v
def iV {X:Cx} {c:Ck} {f:Blt} {es:Es} {x:aH} (C:Cok X c cx k) (h:ckE c (.blt f es) x = true) (hE:∀ e y,es = .cons e .nil->ckE c e y = true->PE X y (tE X.K cx e)) (hA:∀ xs,kE c es xs = true->rN es = true->PA X xs (tEs X.K cx es)) :
 PE X x (tE X.K cx (.blt f es))/\∀ whole,isTrue x X.env whole = (do let v <- whole;standAt x.pos;holding [v] (truthy v)):=by
 obtain ⟨n,np,xs,p,rfl,hh⟩:=fx h;refine ⟨?_,λ_=>rfl⟩;simp only [aa] at hh;obtain ⟨⟨h1,h2⟩,h3⟩:=hh;have e:=of_decide_eq_true h1;subst e
 cases hT:tyName f with
 | some T =>
   rw [hT] at h3;obtain ⟨y,w,rfl,h4⟩:=ur h3;obtain ⟨t,tp,rfl,h5⟩:=cS h4;simp only [aa] at h5;obtain ⟨⟨⟨a1,a2⟩,a3⟩,a4⟩:=h5;have et:=of_decide_eq_true a1
   cases es with
   | nil=>exact absurd (gE a3).1 ↥0
   | cons e es' =>
     obtain ⟨_,_,q0,a3'⟩:=ft a3;cases q0;rw [aa] at a3'
     cases es' with
     | cons _ _=>obtain ⟨_,_,q0,_⟩:=ft a3'.2;cases q0
     | nil =>
       have q:=hE e y rfl a3'.1;obtain ⟨t1,t2,t3⟩:=C.global a2
       have tb:t∈jO:=by
        subst et;cases f<;>simp [tyName] at hT<;>subst hT<;>decide
       have hs:starEach [y,.Name t tp] X.env = [(false,eval y X.env),(false,eval (.Name t tp) X.env)]:=by rw [cY (cO a3'.1)];rfl
       have nm:tj f = ("isinstance":Str):=by cases f<;>simp [tyName] at hT<;>rfl
       rw [nm] at h2 |-;obtain ⟨g1,_,_⟩:=C.global h2
       exact KP hT et g1 (C.blt _ ⇑0) t1 (C.blt _ tb) q hs
 | none =>
   rw [hT] at h3;simp only [aa] at h3;obtain ⟨⟨b1,b2⟩,b3⟩:=h3
   cases xs with
   | nil=>simp at b1
   | cons y ys=>exact MN C h2 hT (hA _ b2 b3) b2
def ixT {X:Cx} {c:Ck} {a b:E} {x:aH} (C:Cok X c cx k) (h:ckE c (.ix a b) x = true) (hA:∀ y,ckE c a y = true->PE X y (tE X.K cx a)) (hB:∀ y,ckE c b y = true->PE X y (tE X.K cx b)) :
 PE X x (tE X.K cx (.ix a b))/\∀ whole,isTrue x X.env whole = (do let v <- whole;standAt x.pos;holding [v] (truthy v)):=by
 obtain ⟨_,_,_,rfl,hq1⟩:=kR h;simp only [aa] at hq1;obtain ⟨⟨⟨h1,h2⟩,h3⟩,h4⟩:=hq1;exact ⟨KO h3 (hA _ h1) (hB _ h2) (Ji (cO h2)),λ_=>rfl⟩
def Gr {X:Cx} {c:Ck} {f:Nat} {es:Es} {x:aH} (C:Cok X c cx k) (h:ckE c (.call f es) x = true) (hA:∀ xs,kE c es xs = true->rN es = true->PA X xs (tEs X.K cx es)) :
 PE X x (tE X.K cx (.call f es))/\∀ whole,isTrue x X.env whole = (do let v <- whole;standAt x.pos;holding [v] (truthy v)):=by
 obtain ⟨n,np,xs,p,rfl,hh⟩:=fx h;refine ⟨?_,λ_=>rfl⟩;have h':=hh;split at h'
 . simp only [aa] at h';exact call_of C (hA _ h'.1.1.2 (lE h'.1.2)) hh
 . cases h'
def noT (h:∀ δ,evT cx e δ = none):PT X x (tT X.K cx e):=λpins s σ H Q I q=>by
 obtain ⟨G,F,δ,b,δ',ok,ev,post⟩:=q;rw [h] at ev;cases ev
def noE {X:Cx} {e:E} {x:aH} (h:∀ δ,evE cx e δ = none):PE X x (tE X.K cx e):=λpins s σ H Q I q=>by
 obtain ⟨G,F,δ,b,δ',ok,ev,post⟩:=q;rw [h] at ev;cases ev
mutual
theorem dH:∀ (e:E) (X:Cx) (c:Ck) (x:aH),Cok X c cx k->ckE c e x = true->PE X x (tE X.K cx e)
 | .var i,X,c,x,C,h=>by
   obtain ⟨_,_,rfl,hq1⟩:=cS h;replace h:=hq1
   . obtain ⟨n1,n2,n3,n4⟩:=C.name h
     exact HE n1 n2 n3 n4
 | .pk i,X,c,x,C,h=>by
   obtain ⟨_,_,rfl,hq1⟩:=cS h;replace h:=hq1
   . obtain ⟨n1,n2,n3,n4⟩:=C.name h
     exact KN n1 n2 n3 n4
 | .glob g,X,c,x,C,h=>by
   obtain ⟨_,_,rfl,hq1⟩:=cS h;replace h:=hq1
   . rw [aa] at h;have e:=of_decide_eq_true h.1;obtain ⟨g1,g2,g3⟩:=C.global h.2;obtain ⟨d,hd⟩:=C.gsome g _ e;obtain ⟨u,v,hm,r,hr⟩:=C.glob g _ d e hd
     exact DL g1 hm r (λd' hd'=>by rw [hd] at hd';cases hd';exact hr) g2
 | .int i,X,c,x,C,h=>by
   obtain ⟨_,_,_,rfl,hq1⟩:=qH h;obtain ⟨_,rfl,hq2⟩:=LS hq1;replace h:=hq2
   . have e:=of_decide_eq_true h;subst e;exact HP
 | .bl i,X,c,x,C,h=>by
   obtain ⟨_,_,_,rfl,hq1⟩:=qH h;obtain ⟨_,rfl,hq2⟩:=LU hq1;replace h:=hq2
   . have e:=of_decide_eq_true h;subst e;exact KQ
 | .non,X,c,x,C,h=>by
   obtain ⟨_,_,_,rfl,hq1⟩:=qH h;replace h:=hq1;have e:=FA h;subst e
   exact HK
 | .str i,X,c,x,C,h=>by
   obtain ⟨_,_,_,rfl,hq1⟩:=qH h;obtain ⟨_,rfl,hq2⟩:=LN hq1;replace h:=hq2
   . have e:=of_decide_eq_true h;subst e;exact HG
 | .bin op a b,X,c,x,C,h=>by
   obtain ⟨_,_,_,_,rfl,hq1⟩:=wD h;replace h:=hq1
   . simp only [aa] at h;obtain ⟨⟨⟨h1,h2⟩,h3⟩,h4⟩:=h
     exact HR h1 h4 (dH a X c _ C h2) (dH b X c _ C h3)
 | .cmp op a b,X,c,x,C,h=>by
   obtain ⟨_,_,_,_,rfl,hq1⟩:=qG h;obtain ⟨_,rfl,hq2⟩:=fu hq1;obtain ⟨_,rfl,hq3⟩:=fu hq2;replace h:=hq3
   . simp only [aa] at h;obtain ⟨⟨⟨h1,h2⟩,h3⟩,h4⟩:=h
     exact HQ C.units h1 h4 (dH a X c _ C h2) (dH b X c _ C h3) (sT (cO h3) _)
 | .and a b,X,c,x,C,h=>by
   obtain ⟨o,_,p,rfl,hq1⟩:=ng h;obtain ⟨y,r,rfl,hq2⟩:=ft hq1;obtain ⟨z,r2,rfl,hq3⟩:=ft hq2;simp only [aa] at hq3;obtain ⟨⟨⟨⟨h0,h1⟩,h2⟩,h3⟩,h4⟩:=hq3;cases o<;>first | (cases h0;done) | skip
   cases r2 with
   | nil=>exact snd_and h3 h4 (dH a X c _ C h1) (Ez (dH b X c _ C h2))
   | cons w r=>exact snd_and h3 h4 (dH a X c _ C h1) (dH b X c _ C h2)
 | .or a b,X,c,x,C,h=>by
   obtain ⟨o,_,p,rfl,hq1⟩:=ng h;obtain ⟨y,r,rfl,hq2⟩:=ft hq1;obtain ⟨z,r2,rfl,hq3⟩:=ft hq2;simp only [aa] at hq3;obtain ⟨⟨⟨⟨h0,h1⟩,h2⟩,h3⟩,h4⟩:=hq3;cases o<;>first | (cases h0;done) | skip
   cases r2 with
   | nil=>exact DK h3 h4 (dH a X c _ C h1) (Ez (dH b X c _ C h2))
   | cons w r=>exact DK h3 h4 (dH a X c _ C h1) (dH b X c _ C h2)
 | .not a,X,c,x,C,h=>by
   obtain ⟨o,_,_,rfl,hh⟩:=pM h;simp only [aa] at hh;obtain rfl:=wV hh.1.1
   exact HJ hh.2 (dH a X c _ C hh.1.2)
 | .neg a,X,c,x,C,h=>by
   obtain ⟨o,_,_,rfl,hh⟩:=pM h;simp only [aa] at hh;obtain rfl:=FC hh.1.1
   exact HL hh.2 (dH a X c _ C hh.1.2)
 | .ite t a b,X,c,x,C,h=>by
   obtain ⟨_,_,_,_,rfl,hq1⟩:=Af h;replace h:=hq1
   . simp only [aa] at h;obtain ⟨⟨⟨⟨h1,h2⟩,h3⟩,h4⟩,h5⟩:=h
     exact HN h4 h5 (oi t X c _ C h1) (dH a X c _ C h2) (dH b X c _ C h3)
 | .tup es,X,c,x,C,h=>by
   obtain ⟨_,_,_,rfl,hq1⟩:=kQ h;replace h:=hq1
   . rw [aa] at h
     exact HF h.2 (gU es X c _ C h.1 (lE h.2))
 | .lst es,X,c,x,C,h=>by
   obtain ⟨_,_,rfl,hq1⟩:=qF h;replace h:=hq1
   . rw [aa] at h
     exact HM h.2 (gU es X c _ C h.1 (lE h.2))
 | .ix a b,X,c,x,C,h=>(ixT C h (λy q=>dH a X c y C q) λy q=>dH b X c y C q).1
 | .sl a lo hi,X,c,x,C,h=>by
   obtain ⟨_,_,_,rfl,hh⟩:=kR h;obtain ⟨_,_,o,_,rfl,h9⟩:=Ae hh;simp only [aa] at h9;obtain ⟨h0,⟨⟨h1,h2⟩,h3⟩,h4⟩:=h9;obtain rfl:=fM.mp h0
   exact KL (by simpa using h4) (dH a X c _ C h1) (HS lo X c _ C h2) (HS hi X c _ C h3)
 | .call f es,X,c,x,C,h=>(Gr C h λxs h1 h2=>gU es X c xs C h1 h2).1
 | .blt f .nil,X,c,x,C,h=>(iV C h (λe y z=>by cases z) λxs h1 h2=>gU .nil X c xs C h1 h2).1
 | .blt f (.cons e .nil),X,c,x,C,h=>(iV C h (λe' y z h1=>by cases z;exact dH e X c y C h1) λxs h1 h2=>gU (.cons e .nil) X c xs C h1 h2).1
 | .blt f (.cons e (.cons e2 es)),X,c,x,C,h=>(iV C h (λe' y z=>by cases z) λxs h1 h2=>gU (.cons e (.cons e2 es)) X c xs C h1 h2).1
 | .bad,X,c,x,C,h=>noE λδ=>rfl
 | .isdig i,X,c,x,C,h=>by
   obtain ⟨_,_,_,_,_,rfl,hln,hh⟩:=um h;obtain ⟨_,_,rfl,h2⟩:=cS hh;obtain ⟨rfl,h3⟩:=gE h2;rw [aa] at h3;have e:=of_decide_eq_true h3.1;subst e;obtain ⟨n1,n2,n3,n4⟩:=C.name h3.2
   exact By n1 n2 n3 n4 hln
 | .comp kk tg src ifs elt,X,c,x,C,h=>by
   obtain ⟨_,_,_,_,rfl,hq1⟩:=pN h;obtain ⟨_,rfl,hq2⟩:=fu hq1;obtain ⟨_,_,_,rfl,hq3⟩:=uo hq2;replace h:=hq3
   . split at h
     . rename_i ts ht;simp only [aa] at h;obtain ⟨⟨⟨⟨⟨⟨⟨⟨h1,h2⟩,h3⟩,h4⟩,h5⟩,h6⟩,h7⟩,h8⟩,h9⟩:=h;have nd:=(jL h4).1
       exact DM C h9 (kK (tg:=tg) (of_decide_eq_true h1)) h2 h3 h4 (λcl Ca s H fp=>oh (eF C h3 nd cl Ca s H fp) h5) (DZ src X c _ _ C h6)
        (λcl Ca s H fp=>KR ifs _ _ _ (eF C h3 nd cl Ca s H fp) h7) (λcl Ca s H fp=>dH elt _ _ _ (eF C h3 nd cl Ca s H fp) h8) (λv=>nI h6 _ v)
     . cases h
 | .sset kk tg1 src1 tg2 src2 ifs elt,X,c,x,C,h=>by
   obtain ⟨_,_,_,_,rfl,hq1⟩:=fx h;obtain ⟨_,rfl,hq2⟩:=fu hq1;obtain ⟨_,_,_,_,rfl,hq3⟩:=IK hq2;obtain ⟨_,_,rfl,hq4⟩:=ur hq3;obtain ⟨_,_,_,rfl,hq5⟩:=uo hq4;obtain ⟨_,_,_,rfl,hq6⟩:=uo hq5;obtain ⟨rfl,hq7⟩:=gE hq6;replace h:=hq7
   . rw [aa,aa] at h;obtain ⟨⟨h1,h2⟩,h⟩:=h;have e1:=of_decide_eq_true h1;subst e1;obtain ⟨g1,g2,g3⟩:=C.global h2;split at h
     . rename_i n1 n2 q1 q2;simp only [aa] at h;obtain ⟨⟨⟨⟨⟨⟨⟨⟨⟨⟨⟨h3,h4⟩,h5⟩,h6⟩,h7⟩,h8⟩,h9⟩,h10⟩,h11⟩,h12⟩,h13⟩,h14⟩:=h;have nd:=(jL h7).1
       exact DI C h14 (kK (tg:=tg1) (of_decide_eq_true h3)) h4 h5 h6 h7 g1 (C.blt _ ⇑0) g3 g2 (λcl Ca s H fp=>oh (eF C h6 nd cl Ca s H fp) h8) (λcl Ca s H fp=>oh (eF C h6 nd cl Ca s H fp) h9) (DZ src1 X c _ _ C h10)
        (λcl Ca s H fp=>DZ src2 _ _ _ _ (eF C h6 nd cl Ca s H fp) h11) (λcl Ca s H fp=>KR ifs _ _ _ (eF C h6 nd cl Ca s H fp) h12) (λcl Ca s H fp=>dH elt _ _ _ (eF C h6 nd cl Ca s H fp) h13) (λv=>nI h10 _ v) (λenv v=>nI h11 env v)
     . cases h
theorem oi:∀ (e:E) (X:Cx) (c:Ck) (x:aH),Cok X c cx k->ckE c e x = true->PT X x (tT X.K cx e)
 | .var i,X,c,x,C,h=>by
   obtain ⟨_,_,rfl,hq1⟩:=cS h;replace h:=hq1
   . obtain ⟨n1,n2,n3,n4⟩:=C.name h
     exact vU (.inl rfl) n1 n2 n3 n4
 | .pk i,X,c,x,C,h=>by
   obtain ⟨_,_,rfl,hq1⟩:=cS h;replace h:=hq1
   . obtain ⟨n1,n2,n3,n4⟩:=C.name h
     exact vU (.inr rfl) n1 n2 n3 n4
 | .cmp op a b,X,c,x,C,h=>by
   obtain ⟨_,_,_,_,rfl,hq1⟩:=qG h;obtain ⟨_,rfl,hq2⟩:=fu hq1;obtain ⟨_,rfl,hq3⟩:=fu hq2;replace h:=hq3
   . simp only [aa] at h;obtain ⟨⟨⟨h1,h2⟩,h3⟩,h4⟩:=h
     exact DQ C.units h1 h4 (dH a X c _ C h2) (dH b X c _ C h3) (sT (cO h3) _)
 | .and a b,X,c,x,C,h=>by
   obtain ⟨o,_,p,rfl,hq1⟩:=ng h;obtain ⟨y,r,rfl,hq2⟩:=ft hq1;obtain ⟨z,r2,rfl,hq3⟩:=ft hq2;simp only [aa] at hq3;obtain ⟨⟨⟨⟨h0,h1⟩,h2⟩,h3⟩,h4⟩:=hq3;cases o<;>first | (cases h0;done) | skip
   cases r2 with
   | nil=>exact vV (oi a X c _ C h1) (Im (oi b X c _ C h2))
   | cons w r=>exact vV (oi a X c _ C h1) (PT.pw (oi b X c _ C h2))
 | .or a b,X,c,x,C,h=>by
   obtain ⟨o,_,p,rfl,hq1⟩:=ng h;obtain ⟨y,r,rfl,hq2⟩:=ft hq1;obtain ⟨z,r2,rfl,hq3⟩:=ft hq2;simp only [aa] at hq3;obtain ⟨⟨⟨⟨h0,h1⟩,h2⟩,h3⟩,h4⟩:=hq3;cases o<;>first | (cases h0;done) | skip
   cases r2 with
   | nil=>exact zL (oi a X c _ C h1) (Le (oi b X c _ C h2))
   | cons w r=>exact zL (oi a X c _ C h1) (PT.pw (oi b X c _ C h2))
 | .not a,X,c,x,C,h=>by
   obtain ⟨o,_,_,rfl,hh⟩:=pM h;simp only [aa] at hh;obtain rfl:=wV hh.1.1
   exact DP (oi a X c _ C hh.1.2)
 | .call f es,X,c,x,C,h=>pI (es:=es) (f:=cx.call f) (Gr C h λxs h1 h2=>gU es X c xs C h1 h2).1 (Gr C h λxs h1 h2=>gU es X c xs C h1 h2).2 rfl (λδ=>rfl) λδ=>by rw [evT]
 | .blt f .nil,X,c,x,C,h=>pI (es:=.nil) (f:=kF f) (iV C h (λe y z=>by cases z) λxs h1 h2=>gU .nil X c xs C h1 h2).1 (iV C h (λe y z=>by cases z) λxs h1 h2=>gU .nil X c xs C h1 h2).2 rfl (λδ=>rfl) λδ=>by rw [evT]
 | .blt f (.cons e .nil),X,c,x,C,h=>pI (es:=.cons e .nil) (f:=kF f) (iV C h (λe' y z h1=>by cases z;exact dH e X c y C h1) λxs h1 h2=>gU (.cons e .nil) X c xs C h1 h2).1 (iV C h (λe' y z h1=>by cases z;exact dH e X c y C h1) λxs h1 h2=>gU (.cons e .nil) X c xs C h1 h2).2 rfl (λδ=>rfl) λδ=>by rw [evT]
 | .blt f (.cons e (.cons e2 es)),X,c,x,C,h=>pI (es:=.cons e (.cons e2 es)) (f:=kF f) (iV C h (λe' y z=>by cases z) λxs h1 h2=>gU (.cons e (.cons e2 es)) X c xs C h1 h2).1 (iV C h (λe' y z=>by cases z) λxs h1 h2=>gU (.cons e (.cons e2 es)) X c xs C h1 h2).2 rfl (λδ=>rfl) λδ=>by rw [evT]
 | .glob _,X,c,x,C,h=>noT λδ=>rfl
 | .int _,X,c,x,C,h=>noT λδ=>rfl
 | .bl _,X,c,x,C,h=>noT λδ=>rfl
 | .non,X,c,x,C,h=>noT λδ=>rfl
 | .str _,X,c,x,C,h=>noT λδ=>rfl
 | .neg _,X,c,x,C,h=>noT λδ=>rfl
 | .bin ..,X,c,x,C,h=>noT λδ=>rfl
 | .ite ..,X,c,x,C,h=>noT λδ=>rfl
 | .tup _,X,c,x,C,h=>noT λδ=>rfl
 | .lst _,X,c,x,C,h=>noT λδ=>rfl
 | .ix a b,X,c,x,C,h=>DO (ixT C h (λy q=>dH a X c y C q) λy q=>dH b X c y C q).1 (ixT C h (λy q=>dH a X c y C q) λy q=>dH b X c y C q).2 λδ k δ' q=>by
   simp only [evT,af,ag] at q;obtain ⟨⟨u,δ1⟩,e1,⟨v,δ2⟩,e2,d,e3,t,e4,e5⟩:=q;cases e5
   exact ⟨d,by simp only [evE,e1,e2,e3,af,aV];rfl,e4⟩
 | .sl ..,X,c,x,C,h=>noT λδ=>rfl
 | .isdig _,X,c,x,C,h=>noT λδ=>rfl
 | .bad,X,c,x,C,h=>noT λδ=>rfl
 | .sset ..,X,c,x,C,h=>noT λδ=>rfl
 | .comp ..,X,c,x,C,h=>noT λδ=>rfl
theorem gU:∀ (es:Es) (X:Cx) (c:Ck) (xs:List aH),Cok X c cx k->kE c es xs = true->rN es = true->PA X xs (tEs X.K cx es)
 | .nil,X,c,xs,C,h,_=>by
   obtain ⟨rfl,hq1⟩:=gE h;replace h:=hq1
   . exact uc
 | .cons e es,X,c,xs,C,h,ho=>by
   obtain ⟨_,_,rfl,hq1⟩:=ft h;replace h:=hq1
   . rw [aa] at h;have ho':((!cj e || npS es) && rN es) = true:=ho;rw [aa] at ho';exact qt ho'.1 (dH e X c _ C h.1) (gU es X c _ C h.2 ho'.2) (cY (cO h.1) _ _)
theorem HS:∀ (o:Eo) (X:Cx) (c:Ck) (l:Option aH),Cok X c cx k->ckO c o l = true->PO X l (tO X.K cx o)
 | .no,X,c,l,C,h=>by
   obtain rfl:=fM.mp h
   exact JH (λe z=>by cases z) λ_=>rfl
 | .yes e,X,c,l,C,h=>by
   obtain ⟨_,rfl,hq1⟩:=EL h;replace h:=hq1
   . rw [aa] at h;have q:=dH e X c _ C h.1;exact JH (λe' z=>by cases z;exact ⟨_,rfl,h.2,q⟩) λz=>by cases z
theorem KR:∀ (o:Eo) (X:Cx) (c:Ck) (l:List aH),Cok X c cx k->ckG c o l = true->PTs X l (tG X.K cx o)
 | .no,X,c,l,C,h=>by
   obtain ⟨rfl,hq1⟩:=gE h;replace h:=hq1
   . intro pins s σ H Q I q;obtain ⟨G,F,δ,b,δ',ok,ev,post⟩:=q;simp only [evG] at ev;cases ev
     exact zZ pins s σ H Q I (post H F Step.refl (λ_=>Sim.refl H) ok)
 | .yes e,X,c,l,C,h=>by
   obtain ⟨_,rfl,hq1⟩:=fu h;replace h:=hq1
   . have q:=Io (oi e X c _ C h);intro pins s σ H Q I z;obtain ⟨G,F,δ,b,δ',ok,ev,post⟩:=z;simp only [evG] at ev;exact q pins s σ H Q I ⟨G,F,δ,b,δ',ok,ev,post⟩
theorem DZ:∀ (t:It) (X:Cx) (c:Ck) (x tg:aH),Cok X c cx k->ckI c t tg x = true->PI X tg x (tI X.K cx t)
 | .rng e,X,c,x,tg,C,h=>by
   obtain ⟨_,_,_,_,rfl,hq1⟩:=fx h;obtain ⟨_,rfl,hq2⟩:=fu hq1;replace h:=hq2
   . simp only [aa] at h;obtain ⟨⟨⟨h1,h2⟩,h3⟩,h4⟩:=h;have z:=of_decide_eq_true h1;subst z
     exact HH h4 (C.global h2).1 (C.blt _ ⇑0) (dH e X c _ C h3) (cY (cO h3) _ _)
 | .rng2 a b,X,c,x,tg,C,h=>by
   obtain ⟨_,_,_,_,rfl,hq1⟩:=fx h;obtain ⟨_,_,rfl,hq2⟩:=ur hq1;replace h:=hq2
   . simp only [aa] at h;obtain ⟨⟨⟨⟨⟨h1,h2⟩,h3⟩,h4⟩,h5⟩,h6⟩:=h;have z:=of_decide_eq_true h1;subst z
     exact DJ h5 h6 (C.global h2).1 (C.blt _ ⇑0) (dH a X c _ C h3) (dH b X c _ C h4) (by rw [cY (cO h3),cY (cO h4)];rfl) (by rw [cY (cO h4)];rfl)
 | .rev e,X,c,x,tg,C,h=>by
   obtain ⟨_,_,_,_,rfl,hq1⟩:=fx h;obtain ⟨_,rfl,hq2⟩:=fu hq1;replace h:=hq2
   . simp only [aa] at h;obtain ⟨⟨⟨h1,h2⟩,h3⟩,h4⟩:=h;have z:=of_decide_eq_true h1;subst z
     exact HI h4 (C.global h2).1 (C.blt _ ⇑0) (dH e X c _ C h3) (cY (cO h3) _ _)
 | .zp es,X,c,x,tg,C,h=>by
   obtain ⟨_,_,_,_,rfl,h1⟩:=fx h;obtain ⟨_,_,rfl,h2⟩:=ur h1;simp only [aa] at h2;obtain ⟨⟨⟨⟨a1,a2⟩,a3⟩,a5⟩,a6⟩:=h2;have e:=of_decide_eq_true a2;subst e
   exact KI a1 a6 a5 (C.global a3).1 (C.blt _ ⇑0) (gU es X c _ C a5 (lE a6))
 | .sq e,X,c,x,tg,C,h=>by
   have h:(ckE c e x && !cj e) = true:=h;rw [aa] at h;exact KJ h.2 (dH e X c x C h.1)
end
end
def AV (K:PySem.W.Frag) (G:Gh) (F:aw->Prop) (H:Hp) (o:Out) (E:Ends):Prop:=match o with
 | .nx δ'=>∀ σ' H' F',Step G F H F' H'->Ok K G F' σ' H' δ'->E.nx σ' H'
 | .rt d δ'=>∀ v σ' H' F',Step G F H F' H'->Ok K G F' σ' H' δ'->Rel K H' F' d v->E.rt v H'
 | .ro d δ'=>∀ a u σ' H' F',Step G F H F' H'->Ok K G F' σ' H' δ'->F' a->G.free a->H' a = some u->gL K H' F' d u->E.rt (.ref a) H'
def tS (K:PySem.W.Frag) (ev:Loc->Option Out):TS:=λE σ H=>∃ G F δ o,Ok K G F σ H δ/\ev δ = some o/\AV K G F H o E
def AV.step {K:PySem.W.Frag} {G:Gh} {F F1:aw->Prop} {H H1:Hp} {o:Out} {E:Ends} (st:Step G F H F1 H1) (h:AV K G F H o E):AV K G F1 H1 o E:=by
 cases o with
 | nx δ=>exact λσ' H' F' s k=>h σ' H' F' (st.trans s) k
 | rt d δ=>exact λv σ' H' F' s k r=>h v σ' H' F' (st.trans s) k r
 | ro ds δ=>exact λa xs σ' H' F' s k=>h a xs σ' H' F' (st.trans s) k
section
variable {X:Cx} {c:Ck} {cx:Cl} {k:Nat}
def PS.imp {s:dD} {t t':TS} (h:PS X s t) (w:∀ E σ H,t' E σ H->t E σ H):PS X s t':=λpins s σ H E I q=>h pins s σ H E I (w E σ H q)
def PSs.imp {s:List dD} {t t':TS} (h:PSs X s t) (w:∀ E σ H,t' E σ H->t E σ H):PSs X s t':=λpins s σ H E I q=>h pins s σ H E I (w E σ H q)
def DS:PSs X [] (tS X.K (eC cx .nil)):=PSs.imp Iq λE σ H zz=>by
 obtain ⟨G,F,δ,o,ok,ev,post⟩:=zz;simp only [eC] at ev;cases ev;exact post σ H F Step.refl ok
def Bz {s:S} {ss:Ss} {y:dD} {ys:List dD} (h1:PS X y (tS X.K (evS cx s))) (h2:PSs X ys (tS X.K (eC cx ss))):PSs X (y::ys) (tS X.K (eC cx (.cons s ss))):=PSs.imp (Er h1 h2) λE σ H zz=>by
 obtain ⟨G,F,δ,o,ok,ev,post⟩:=zz;simp only [eC] at ev
 cases e:evS cx s δ with
 | none=>rw [e] at ev;cases ev
 | some o1 =>
   rw [e] at ev
   cases o1 with
   | nx δ1=>exact ⟨G,F,δ,.nx δ1,ok,e,λσ' H' F' st ok'=>⟨G,F',δ1,o,ok',ev,post.step st⟩⟩
   | rt d δ1=>cases ev;exact ⟨G,F,δ,_,ok,e,post⟩
   | ro d δ1=>cases ev;exact ⟨G,F,δ,_,ok,e,post⟩
def MQ {tg:Tg} {e:E} {δ:Loc} {o:Out} (ev:evS cx (.asg tg e) δ = some o):∃ d δ1 δ2,evE cx e δ = some (d,δ1)/\eP δ1 tg d = some δ2/\o = .nx δ2:=by
 simp only [evS,af,ag] at ev;obtain ⟨⟨d,δ1⟩,e1,δ2,e2,e3⟩:=ev;cases e3;exact ⟨d,δ1,δ2,e1,e2,rfl⟩
def MP {tg:Tg} {e:E} (n:(!cj e) = true) {E:Ends} {σ:L2.St} {H:Hp} (h:tS X.K (evS cx (.asg tg e)) E σ H):HC (tE X.K cx e) (gTg X.K tg) E σ H:=by
 obtain ⟨G,F,δ,o,ok,ev,post⟩:=h;obtain ⟨d,δ1,δ2,e1,e2,rfl⟩:=MQ ev;exact ⟨G,F,δ,d,δ1,ok,e1,λv H1 F1 st sm ok1 r=>mU ok1 (dP n r) e2 λσ' ok2 _=>post σ' H1 F1 st ok2⟩
def vX (C:Cok X c cx k) (hm:(isNm t || !Je y) = true\/swappedStores [t] y X.env = pure none) (h:rg c tg t = true) (hy:ckE c e y = true) (n:(!cj e) = true) (hs:swapsWithSole [t] y pos.line X.env = pure false) (he:PE X y (tE X.K cx e)):PS X (.Assign [t] y pos) (tS X.K (evS cx (.asg tg e))):=by
 have hh:=cO hy
 have hw:swappedStores [t] y X.env = pure none:=by
  refine hm.elim (λhm=>?_) id;rcases vK h with ⟨_,_,rfl⟩ | ⟨_,_,_,rfl⟩
  . cases y<;>first | rfl | (exact absurd hh aj)
  . cases y<;>first | rfl | (exact absurd hm aj) | (exact absurd hh aj)
 have h1:(assignEach [t] X.env).map (·.2) = [assign t X.env]:=by
  rcases vK h with ⟨_,_,rfl⟩ | ⟨_,_,_,rfl⟩<;>rfl
 exact PS.imp (Ew he (oh C h) hs hw h1) λE σ H h=>MP n h
def tN (K:PySem.W.Frag) (cx:Cl) (e:E):TE:=λσ H Q=>∃ G F δ ds δ',Ok K G F σ H δ/\evE cx e δ = some (.lst ds,δ') /\
 ∀ p xs H1 F1,Step G F H F1 H1->Ok K G F1 σ H1 δ'->H1 p = none->aI K H1 F1 ds xs->Q (.ref p) (upd H1 p (.lst xs))
def IC {K:PySem.W.Frag} {G:Gh} {F1:aw->Prop} {σ:L2.St} {H1:Hp} {δ1:Loc} {i:Nat} {p:aw} {ds:List D} {xs:List V} (ok1:Ok K G F1 σ H1 δ1) (hp:H1 p = none) (rl:aI K H1 F1 ds xs) (hi:i < δ1.length) :
 Ok K G (λb=>F1 b\/b = p) (σ.set i (some (.ref p))) (upd H1 p (.lst xs)) (δ1.set i (.own ds))/\Step G F1 H1 (λb=>F1 b\/b = p) (upd H1 p (.lst xs)):=by
 obtain ⟨o1,o2⟩:=ok1.enter hp xs;refine ⟨(o1.keep).own hi (.inr rfl) (ok1.free hp) cy (aI.step ok1.fd o2 ds xs rl) λj s e ho z=>?_,o2⟩;obtain ⟨a,u,d,e1,_,_,e2,_⟩:=fG.ow (ok1.sl j _ e) ho;rw [z] at e1;cases e1;rw [hp] at e2;cases e2
def DT (C:Cok X c cx k) {i:Nat} {e:E} {t:Str} {y:aH} {pos p2:Pos} (h:jZ c i t = true) (hy:ckE c e y = true) (nc:(!kU y) = true) (he:PE X y (tN X.K cx e)):PS X (.Assign [.Name t p2] y pos) (tS X.K (evS cx (.new i e))):=by
 obtain ⟨n1,n2,n3⟩:=C.to h;have nc':kU y = false:=by simpa using nc
 refine PS.imp (Lh C.nd' n1 n2 he (qR (cO hy) nc' _ _ _) n3) λE σ H zz=>?_;obtain ⟨G,F,δ,o,ok,ev,post⟩:=zz;simp only [evS,af,ag] at ev;obtain ⟨⟨d,δ1⟩,e1,ev⟩:=ev
 cases d with
 | lst ds =>
   dsimp only at ev;split at ev
   . cases ev;refine ⟨G,F,δ,ds,δ1,ok,e1,λp xs H1 F1 st ok1 hp rl=>?_⟩;obtain ⟨o1,o2⟩:=IC ok1 hp rl ‹_›;exact post _ _ _ (st.trans o2) o1
   . cases ev
 | _=>cases ev
def DY (n:mw es = true) (h:PA X xs (tEs X.K cx es)):PE X (.List xs pos) (tN X.K cx (.lst es)):=by
 refine PE.imp (EA h) λσ H Q h=>?_;obtain ⟨G,F,δ,d,δ',ok,ev,post⟩:=h;simp only [evE,af,ag] at ev;obtain ⟨⟨ds,δ1⟩,ea,ev⟩:=ev;split at ev
 . rename_i hz;cases ev;refine ⟨G,F,δ,ds,δ1,ok,ea,λvs H1 F1 st1 sm1 ok1 r1=>?_⟩;have r:=r1.rl n;exact ⟨by rw [r.length];exact hz,λp hp=>post p vs H1 F1 st1 ok1 hp r⟩
 . cases ev
def BB (C:Cok X c cx k) {es:Es} {p pos:Pos} {y:aH} {ys:List aH} (hg:gH c (tj .toLst) = true) (hA:PA X (y::ys) (tEs X.K cx es)) (h:kE c es (y::ys) = true):PE X (.Call (.Name (tj .toLst) p) (y::ys) [] pos) (tN X.K cx (.blt .toLst es)):=by
 obtain ⟨g1,g2,g3⟩:=C.global hg;obtain ⟨e,es',rfl,h1,h2⟩:=lL h;have he:=cY (cO h1) ys X.env;have hpl:=kL (env:=X.env) (pos:=pos) h2;refine PE.imp (lC nJ g1 (C.blt _ ⇑0) rfl hA g3 g2 he hpl) λσ H Q h=>?_;obtain ⟨G,F,δ,ds,δ',ok,ev,post⟩:=h;simp only [evE] at ev;obtain ⟨zs,ea,hd⟩:=AG ev;refine ⟨G,F,δ,zs,δ',ok,ea,λvs H1 F1 st1 sm1 ok1 r1=>?_⟩;have r:=r1.bl;change og zs = some (D.lst ds) at hd;unfold og at hd;split at hd
 . cases hd;obtain ⟨v,rfl,r9⟩:=b1 r;obtain ⟨a,ws,rfl,h1,h2⟩:=r9.lst;exact ⟨a,ws,rfl,.inl h1.sq,λl hl=>post l ws H1 F1 st1 ok1 hl h2⟩
 . cases hd;obtain ⟨v,rfl,r9⟩:=b1 r;obtain ⟨a,ws,rfl,h1,h2⟩:=r9.tup;exact ⟨a,ws,rfl,.inr h1,λl hl=>post l ws H1 F1 st1 ok1 hl h2⟩
 . cases hd
def HU {a:E} {lo hi:Eo} {y:aH} {l h:Option aH} {pos p2:Pos} (pc:(!cj a || (npO lo && npO hi)) = true) (ha:PE X y (tE X.K cx a)) (hl:PO X l (tO X.K cx lo)) (hh:PO X h (tO X.K cx hi)):PE X (.Subscript y (.Slice l h none p2) pos) (tN X.K cx (.sl a lo hi)):=by
 refine PE.imp (wu zM ha hl hh) λσ H Q h=>?_;obtain ⟨G,F,δ,ds,δ',ok,ev,post⟩:=h;simp only [evE,af,ag] at ev;obtain ⟨⟨x,δ1⟩,ea,⟨l',δ2⟩,eb,⟨h',δ3⟩,ec,d',hd,e⟩:=ev;cases e;dsimp only at eb ec hd post;refine ⟨G,F,δ,x,δ1,ok,ea,λv H1 F1 st1 sm1 ok1 r1=>⟨G,F1,δ1,l',δ2,ok1,eb,λH2 F2 st2 sm2 ok2=>⟨G,F2,δ2,h',δ3,ok2,ec,λH3 F3 st3 sm3 ok3=>?_⟩⟩⟩;have st:=st2.trans st3
 have rb:dF X.K H3 F3 x v:=by
  refine (RelM.step ok1.fd st (λz=>?_) r1).b;rw [z] at pc;have pc':(npO lo && npO hi) = true:=by simpa using pc
  rw [aa] at pc';exact (sm2 pc'.1).trans (sm3 pc'.2)
 unfold slD at hd;split at hd
 . cases hd;obtain ⟨p,xs,e1,h1,h2⟩:=rb.lst;exact ⟨p,xs,e1,h1.sq,λq hq=>post q _ H3 F3 (st1.trans st) ok3 hq (h2.cut l' h')⟩
 . split at hd
   . cases hd
   . cases hd
 . split at hd
   . cases hd
   . cases hd
 . cases hd
end
section
variable {X:Cx} {c:Ck} {cx:Cl} {k:Nat}
def DR {e:E} {y:aH} {pos:Pos} (n:(!cj e) = true) (he:PE X y (tE X.K cx e)):PS X (.Return (some y) pos) (tS X.K (evS cx (.ret e))):=PS.imp (Li he) λE σ H zz=>by
 obtain ⟨G,F,δ,out,ok,ev,post⟩:=zz;simp only [evS,af,ag] at ev;obtain ⟨⟨d,δ1⟩,e1,ev⟩:=ev;cases ev;exact ⟨G,F,δ,d,δ1,ok,e1,λv H1 F1 st sm ok1 r=>post v σ H1 F1 st ok1 (dP n r)⟩
def DU {t:E} {a b:Ss} {y:aH} {ya yb:List dD} {pos:Pos} (ht:PT X y (tT X.K cx t)) (ha:PSs X ya (tS X.K (eC cx a))) (hb:PSs X yb (tS X.K (eC cx b))):PS X (.If y ya yb pos) (tS X.K (evS cx (.ifs t a b))):=PS.imp (NN ht ha hb) λE σ H zz=>by
 obtain ⟨G,F,δ,out,ok,ev,post⟩:=zz;simp only [evS,af,ag] at ev;obtain ⟨⟨q,δ1⟩,e1,ev⟩:=ev;refine ⟨G,F,δ,q,δ1,ok,e1,λH1 F1 st sm ok1=>?_⟩
 cases q with
 | true=>exact Fx ⟨G,F1,δ1,out,ok1,ev,post.step st⟩
 | false=>exact Jd ⟨G,F1,δ1,out,ok1,ev,post.step st⟩
def DV (C:Cok X c cx k) {tg:Tg} {src:It} {body:Ss} {t it:aH} {ys:List dD} {pos:Pos} (htg:rg c tg t = true) (hI:PI X t it (tI X.K cx src)) (hset:∀ v,foldedSetIterable it X.env v = pure v) (hb:PSs X ys (tS X.K (eC cx body))):PS X (.For t it ys [] pos) (tS X.K (evS cx (.for_ tg src body))):=by
 have hp:CD (model X.prog X.w) X.A X.env X.xe:=by rw [C.xe];exact AW
 refine PS.imp (Lj hp C.calm hI (oh C htg) hb hset) λE σ H zz=>?_;obtain ⟨G,F,δ,out,ok,ev,post⟩:=zz;simp only [evS,af,ag] at ev;obtain ⟨⟨ds,δ1⟩,e1,ev⟩:=ev;dsimp only at ev;generalize ef:(λ(x:D) (δ0:Loc)=>match eP δ0 tg x with | some δ2=>eC cx body δ2 | none=>none) = f at ev;refine ⟨G,F,δ,ds,δ1,ok,e1,λJ H1 F1 st sm ok1 wk=>?_⟩;refine ⟨λi m σ' H'=>∃ F' δ',m = ds.length - i/\i<=ds.length/\Step G F1 H1 F' H'/\Ok X.K G F' σ' H' δ'/\forL f (ds.drop i) δ' = some out,⟨_,F1,δ1,rfl,bO _,Step.refl,ok1,ev⟩,?_⟩;rintro i m σ' H' ⟨F',δ',rfl,hi,st',ok',ev'⟩;by_cases hlt:i < ds.length
 . right;obtain ⟨d,hd⟩:∃ d,ds[i]? = some d:=⟨ds[i],by simp [hlt]⟩;obtain ⟨go,yl⟩:=(wk _ F' H' st' ok'.fd i).1 d hd;refine ⟨go,?_⟩
   have edr:ds.drop i = d::ds.drop (i+1):=by
    rw [de hlt];congr 1;rw [aD hlt] at hd;exact cH hd
   rw [edr] at ev';unfold forL at ev';refine ⟨λσ2 H2=>∃ m',m' < ds.length - i/\∃ F2 δ2,m' = ds.length - (i+1)/\i+1<=ds.length/\Step G F1 H1 F2 H2/\Ok X.K G F2 σ2 H2 δ2/\forL f (ds.drop (i+1)) δ2 = some out,λσ2 H2 z=>z,λx H3 hy=>?_⟩;obtain ⟨sm,rx⟩:=yl x H3 hy;replace ok':=ok'.same' sm;replace st':=st'.trans (Step.of_same sm)
   cases hf:f d δ' with
   | none=>rw [hf] at ev';cases ev'
   | some o1 =>
     have hf':=hf;rw [<- ef] at hf';dsimp only at hf'
     cases hs:eP δ' tg d with
     | none=>rw [hs] at hf';cases hf'
     | some δ2 =>
       rw [hs] at hf';refine mU ok' rx hs λσ2 ok2 _=>⟨G,F',δ2,o1,ok2,hf',?_⟩;rw [hf] at ev'
       cases o1 with
       | nx δ3=>exact λσ3 H4 F4 s4 k4=>⟨_,by omega,F4,δ3,rfl,hlt,st'.trans s4,k4,ev'⟩
       | rt d3 δ3 =>
         cases ev'
         exact λv σ3 H4 F4 s4 k4 r4=>post v σ3 H4 F4 ((st.trans st').trans s4) k4 r4
       | ro d3 δ3 =>
         cases ev';exact λa xs σ3 H4 F4 s4 k4=>post a xs σ3 H4 F4 ((st.trans st').trans s4) k4
 . left;have hi':i = ds.length:=by omega
   subst hi';refine ⟨(wk _ F' H' st' ok'.fd ds.length).2 rfl,?_⟩;rw [Hg] at ev';cases ev';exact post σ' H' F' (st.trans st') ok'
def yt (C:Cok X c cx k) {t:E} {body:Ss} {y:aH} {ys:List dD} {pos:Pos} (ht:PT X y (tT X.K cx t)) (hb:PSs X ys (tS X.K (eC cx body))):PS X (.While y ys [] pos) (tS X.K (evS cx (.while_ t body))):=by
 have hp:CD (model X.prog X.w) X.A X.env X.xe:=by rw [C.xe];exact AW
 refine PS.imp (Et hp ht hb) λE σ H zz=>?_;obtain ⟨G,F,δ,out,ok,ev,post⟩:=zz;simp only [evS] at ev;refine ⟨λm σ' H'=>∃ F' δ',Step G F H F' H'/\Ok X.K G F' σ' H' δ'/\me (λδ0=>evT cx t δ0) (λδ0=>eC cx body δ0) m δ' = some out,⟨1000,F,δ,Step.refl,ok,ev⟩,?_⟩;rintro m σ' H' ⟨F',δ',st',ok',ev'⟩
 cases m with
 | zero=>cases ev'
 | succ m =>
   unfold me at ev'
   cases ec:evT cx t δ' with
   | none=>rw [ec] at ev';cases ev'
   | some q =>
     obtain ⟨b,δ1⟩:=q;rw [ec] at ev';refine ⟨G,F',δ',b,δ1,ok',ec,λH1 F1 st1 sm1 ok1=>?_⟩;have sA:=st'.trans st1
     cases b with
     | true =>
       refine Fx ?_;dsimp only at ev';refine ⟨λσ2 H2=>∃ m',m' < m+1/\∃ F2 δ2,Step G F H F2 H2/\Ok X.K G F2 σ2 H2 δ2/\me (λδ0=>evT cx t δ0) (λδ0=>eC cx body δ0) m' δ2 = some out,λσ2 H2 z=>z,?_⟩
       cases hf:eC cx body δ1 with
       | none=>rw [hf] at ev';cases ev'
       | some o1 =>
         rw [hf] at ev';refine ⟨G,F1,δ1,o1,ok1,hf,?_⟩
         cases o1 with
         | nx δ3=>exact λσ3 H4 F4 s4 k4=>⟨m,by omega,F4,δ3,sA.trans s4,k4,ev'⟩
         | rt d3 δ3 =>
           cases ev'
           exact λv σ3 H4 F4 s4 k4 r4=>post v σ3 H4 F4 (sA.trans s4) k4 r4
         | ro d3 δ3 =>
           cases ev'
           exact λa xs σ3 H4 F4 s4 k4=>post a xs σ3 H4 F4 (sA.trans s4) k4
     | false =>
       refine Jd ?_;cases ev';exact post σ' H1 F1 sA ok1
end
section
variable {X:Cx} {c:Ck} {cx:Cl} {k:Nat}
def Ov (h:ckE c e z = true):((backTo cp (starEach [z] env)).all (λx=>!x.1) && (backToKw cp (keywordEach [] env)).all (λx=>x.1.isSome)
 && decide (([z]:List aH).length+([]:List jR).length+(if ([]:List jR).isEmpty then 0 else 1) < 30)) = true:=by
 rw [cY (cO h)];rfl
def vY (C:Cok X c cx k) (hx:jf c i x = true) (hl:ap.endLine = cp.line) (hz:ckE c e z = true) (n:(!cj e) = true) (he:PE X z (tE X.K cx e)) :
 PS X (.Expr (.Call (.Attribute (.Name x p1) "append" ap) [z] [] cp) p2) (tS X.K (evS cx (.append i e))):=by
 obtain ⟨n1,n2,n3,n4⟩:=C.name hx;have hs:=cY (cO hz) [] X.env;have hA:PA X [z] (tEs X.K cx (.cons e .nil)):=qt (by simp [npS]) he uc hs;refine PS.imp (Aa (JL PySem.F.plainAttrs_list PySem.F.slot_list_append PySem.F.type_list_append sP (mv n1 n2 n3 n4) hA rfl (Ov hz) (by simpa using hl) hs rfl)) λE σ H zz=>?_;obtain ⟨G,F,δ,out,ok,ev,post⟩:=zz;simp only [evS] at ev
 cases q:δ[i]? with
 | none=>rw [q] at ev;cases ev
 | some s =>
   rw [q] at ev
   cases s with
   | no=>cases ev
   | fnc _ _=>cases ev
   | val _=>cases ev
   | own ds0 =>
     simp only [af,ag] at ev;obtain ⟨⟨d,δ1⟩,e1,ev⟩:=ev;dsimp only at ev;obtain ⟨a,xs0,ea,f1,f2,f3,f4⟩:=ok.sl i _ q
     cases q1:δ1[i]? with
     | none=>rw [q1] at ev;cases ev
     | some s1 =>
       rw [q1] at ev
       cases s1 with
       | no=>cases ev
       | fnc _ _=>cases ev
       | val _=>cases ev
       | own ds =>
         dsimp only at ev;split at ev
         . rename_i hz';cases ev;refine ⟨.ref a,ea,.inl ⟨rfl,xs0,.inl (.inl f3)⟩,G,F,δ,[d],δ1,ok,by simp [fW,e1],λvs H1 F1 st sm ok1 r=>?_⟩;obtain ⟨d',ds',v,vs',ed,rfl,rv,rn⟩:=r;cases ed;obtain ⟨_,rfl⟩:=rn;have rv':=dP n rv;obtain ⟨a',xs,ea',g1,g2,g3,g4⟩:=ok1.sl i _ q1;rw [ea] at ea';cases ea';obtain ⟨o1,o2⟩:=ok1.write q1 ea (g4.append (aI.one rv'));exact ⟨a,xs,v,rfl,rfl,g3,by rw [g4.length];exact hz',post σ _ F1 (st.trans o2) o1⟩
         . cases ev
def NK (X:Cx):V->List V->Hp->VK->Prop:=λx vs H Q=>∃ l b xs zs,x = .ref l/\vs = [.ref b]/\H l = some (.lst xs)/\LsB X.K H b zs/\xs.length+zs.length<=sizeLine/\Q .non (upd H l (.lst (xs++zs)))
def IW:MtM X "list.extend" (NK X):=by
 intro pins s σ H x vs v us Q I rx rv h;obtain ⟨l,b,xs,zs,rfl,rfl,hH,hB,hz,q⟩:=h;cases rx;obtain ⟨u,rfl,ru⟩:=rv.one;cases ru;obtain ⟨z,its,n,r,hl,e⟩:=I.lstM hH;obtain ⟨its2,n2,r2,e2,z2⟩:=hB.obj I;have hl2:=r2.length;have s1:its.toArray.size = xs.length:=by rw [aG];lia
 have s2:its2.toArray.size = zs.length:=by rw [aG];lia
 refine call_meets F.slot_list_extend ⟨_,e,rfl⟩ F.entry_list_extend (F.args_list_extend_2 _ _) (AutoSeq1.list_extend_list_list_0 l its.toArray n b its2.toArray n2 ?_ (by rw [s1];lia) ∅) ⟨e,e2,?_⟩
 . rw [s1,s2,EX hz,Bool.and_false];exact aj
 . refine ⟨.non,_,I.lset (its':=its++its2) hH e ↥0 (r.append r2) (by rw [ax];lia),rfl,q⟩
def vW (C:Cok X c cx k) (hx:jf c i x = true) (hl:ap.endLine = cp.line) (hz:ckE c e z = true) (n:(!cj e) = true) (he:PE X z (tE X.K cx e)) :
 PS X (.Expr (.Call (.Attribute (.Name x p1) "extend" ap) [z] [] cp) p2) (tS X.K (evS cx (.extend i e))):=by
 obtain ⟨n1,n2,n3,n4⟩:=C.name hx;have hs:=cY (cO hz) [] X.env;have hA:PA X [z] (tEs X.K cx (.cons e .nil)):=qt (by simp [npS]) he uc hs;refine PS.imp (Aa (JL PySem.F.plainAttrs_list PySem.F.slot_list_extend PySem.F.type_list_extend IW (mv n1 n2 n3 n4) hA rfl (Ov hz) (by simpa using hl) hs rfl)) λE σ H zz=>?_;obtain ⟨G,F,δ,out,ok,ev,post⟩:=zz;simp only [evS] at ev
 cases q:δ[i]? with
 | none=>rw [q] at ev;cases ev
 | some s =>
   rw [q] at ev
   cases s with
   | no=>cases ev
   | fnc _ _=>cases ev
   | val _=>cases ev
   | own ds0 =>
     simp only [af,ag] at ev;obtain ⟨⟨d,δ1⟩,e1,ev⟩:=ev;obtain ⟨a,xs0,ea,f1,f2,f3,f4⟩:=ok.sl i _ q
     cases d with
     | lst ys =>
       dsimp only at ev
       cases q1:δ1[i]? with
       | none=>rw [q1] at ev;cases ev
       | some s1 =>
         rw [q1] at ev
         cases s1 with
         | no=>cases ev
         | fnc _ _=>cases ev
         | val _=>cases ev
         | own ds =>
           dsimp only at ev;split at ev
           . rename_i hz';cases ev;refine ⟨.ref a,ea,.inl ⟨rfl,xs0,.inl (.inl f3)⟩,G,F,δ,[.lst ys],δ1,ok,by simp [fW,e1],λvs H1 F1 st sm ok1 r=>?_⟩;obtain ⟨d',ds',v,vs',ed,rfl,rv,rn⟩:=r;cases ed;obtain ⟨_,rfl⟩:=rn;have rv':=dP n rv;unfold Rel at rv';obtain ⟨b,zs,rfl,rb,rl⟩:=rv';obtain ⟨a',xs,ea',g1,g2,g3,g4⟩:=ok1.sl i _ q1;rw [ea] at ea';cases ea';obtain ⟨o1,o2⟩:=ok1.write q1 ea (g4.append rl);exact ⟨a,b,xs,zs,rfl,rfl,g3,rb.b,by rw [g4.length,rl.length];exact hz',post σ _ F1 (st.trans o2) o1⟩
           . cases ev
     | _=>cases ev
def yu (C:Cok X c cx k) (hx:jf c i x = true) (hy:ckE c e y = true) (n:(!cj e) = true) (nc:(!kU y) = true) (hz:ckE c j z = true) (nj:(!cj j) = true) (he:PE X y (tE X.K cx e)) (hj:PE X z (tE X.K cx j)) :
 PS X (.Assign [.Subscript (.Name x p1) z p2] y pos) (tS X.K (evS cx (.setix i j e))):=by
 obtain ⟨n1,n2,n3,n4⟩:=C.name hx;have nc':kU y = false:=by simpa using nc
 have hh:=cO hz;have hh2:=cO hy
 have ha:∀ v,assign (.Subscript (.Name x p1) z p2) X.env v = (do
  let ov <- holding [v] (eval (.Name x p1) X.env)
  let iv <- holding [v,ov] (eval z X.env)
  standAt p2
  holding [v,ov,iv] (setItem ov iv v)
  release [v,ov,iv] []):=by
  intro v;cases z<;>first | rfl | (exact absurd hh aj)
 have hsw:swapsWithSole [.Subscript (.Name x p1) z p2] y pos.line X.env = pure false:=by
  cases y<;>first | rfl | (exact absurd hh2 aj) | (exact absurd nc'.symm aj)
 have hw:swappedStores [.Subscript (.Name x p1) z p2] y X.env = pure none:=by
  cases y<;>first | rfl | (exact absurd hh2 aj)
 refine PS.imp (Ew he (Lp (mv n1 n2 n3 n4) hj set_list ha) hsw hw rfl) λE σ H zz=>?_;obtain ⟨G,F,δ,out,ok,ev,post⟩:=zz;simp only [evS,af,ag] at ev;obtain ⟨⟨d,δ1⟩,e1,ev⟩:=ev;dsimp only at ev;refine ⟨G,F,δ,d,δ1,ok,e1,λv H1 F1 st1 sm1 ok1 r1=>?_⟩
 cases q1:δ1[i]? with
 | none=>rw [q1] at ev;cases ev
 | some s1 =>
   rw [q1] at ev
   cases s1 with
   | no=>cases ev
   | fnc _ _=>cases ev
   | val _=>cases ev
   | own ds0 =>
     obtain ⟨a,xs0,ea,f1,f2,f3,f4⟩:=ok1.sl i _ q1;simp only [ag] at ev;obtain ⟨⟨dj,δ2⟩,e2,ev⟩:=ev;refine ⟨.ref a,ea,G,F1,δ1,dj,δ2,ok1,e2,λw H2 F2 st2 sm2 ok2 r2=>?_⟩
     cases dj with
     | int m =>
       have:=r2.b.int;subst this;dsimp only at ev
       cases q2:δ2[i]? with
       | none=>rw [q2] at ev;cases ev
       | some s2 =>
         rw [q2] at ev
         cases s2 with
         | no=>cases ev
         | fnc _ _=>cases ev
         | val _=>cases ev
         | own ds =>
           dsimp only at ev;obtain ⟨a',xs,ea',g1,g2,g3,g4⟩:=ok2.sl i _ q2;rw [ea] at ea';cases ea'
           cases q3:ixN ds.length m with
           | none=>rw [q3] at ev;cases ev
           | some mm =>
             rw [q3] at ev;cases ev;have rv:=Rel.step ok1.fd st2 d v (dP n r1);obtain ⟨o1,o2⟩:=ok2.write q2 ea (aI.set rv mm g4)
             exact ⟨a,xs,m,mm,rfl,rfl,g3,by rw [g4.length];exact q3,post σ _ F2 ((st1.trans st2).trans o2) o1⟩
     | _=>cases ev
def DX:PS X x (tS X.K (evS cx .bad)):=λpins s σ H D I h=>by
 obtain ⟨G,F,δ,out,ok,ev,post⟩:=h;have ev:none = some out:=ev;cases ev
def OU (hm:newOk e = true) (C:Cok X c cx k) (h:ckE c e y = true):PE X y (tN X.K cx e):=by
 unfold newOk at hm;split at hm
 . obtain ⟨_,_,rfl,hh⟩:=qF h;rw [aa] at hh;exact DY hh.2 (gU _ X c _ C hh.1 (lE hh.2))
 . rename_i es;obtain ⟨_,_,xs,_,rfl,hh⟩:=fx h;simp only [aa] at hh;obtain ⟨⟨h1,h2⟩,h3⟩:=hh;have e1:=of_decide_eq_true h1;subst e1;have h3:(!xs.isEmpty && kE c es xs && rN es) = true:=h3;simp only [aa] at h3
   cases xs with
   | nil=>simp at h3
   | cons y ys=>exact BB C h2 (gU _ X c _ C h3.1.2 h3.2) h3.1.2
 . obtain ⟨_,_,_,rfl,hh⟩:=kR h;obtain ⟨_,_,o,_,rfl,h9⟩:=Ae hh;simp only [aa] at h9;obtain ⟨h0,⟨⟨h1,h2⟩,h3⟩,h4⟩:=h9;obtain rfl:=fM.mp h0;exact HU (by simpa using h4) (dH _ X c _ C h1) (HS _ X c _ C h2) (HS _ X c _ C h3)
 . cases hm
end
section
variable {X:Cx} {c:Ck} {cx:Cl} {k:Nat}
def BA (C:Cok X c cx k) (hS:X.env.scope = c.sc) (hB:X.env.blockKind = .function) (ho:(!own) = true)
 (hn:jZ c i t = true) (h:ckE c (.comp kk tg src ifs elt) (.ListComp ex gs sc p) = true) (hl:c.sc.names.lookup t = some .cell) (he:PE X (.ListComp ex gs sc p) (tE X.K cx (.comp kk tg src ifs elt))) :
 PS X (.Assign [.Name t tp] (.ListComp ex gs sc p) sp) (tS X.K (evS cx (.cmp own i (.comp kk tg src ifs elt)))):=by
 have hs:swapsWithSole [.Name t tp] (.ListComp ex gs sc p) sp.line X.env = pure false:=by
  have e1:X.env.kindOf t = some .cell:=by
   show X.env.scope.names.lookup t = some .cell;rw [hS];exact hl
  show (pure (X.env.blockKind == .function && X.env.kindOf t == some .local && tp.line == p.line && !(sc.names.any λ(n,k)=>n == t && (k == .local || k == .cell))):Sem Bool) = pure false;rw [hB,e1];congr 1
 have ht:rg c (.nm i) (.Name t tp) = true:=by
  unfold rg fL;exact Bool.and_eq_true_iff.mpr ⟨rfl,hn⟩
 refine PS.imp (vX (tg:=.nm i) C (.inl rfl) ht h rfl hs he) λD σ H hq=>?_;obtain ⟨G,F,δ,o,ok,ev,post⟩:=hq;refine ⟨G,F,δ,o,ok,?_,post⟩;obtain rfl:own = false:=by simpa using ho
 simp only [evS,af,ag] at ev |-;obtain ⟨⟨d,δ1⟩,e1,ev⟩:=ev
 cases d with
 | lst ds =>
   dsimp only at ev;split at ev
   . rename_i hi;cases ev;refine ⟨_,e1,_,?_,rfl⟩;exact if_pos hi
   . cases ev
 | _=>cases ev
def DW (C:Cok X c cx k) (hS:X.env.scope = c.sc) (hB:X.env.blockKind = .function)
 (hn:jZ c i t = true) (h:ckE c (.comp kk tg src ifs elt) (.ListComp ex gs sc p) = true) (hl:c.sc.names.lookup t = some .local) (hp:tp.line = p.line) (hz:(!(sc.names.any λ(n,k)=>n == t && (k == .local || k == .cell))) = true) :
 PS X (.Assign [.Name t tp] (.ListComp ex gs sc p) sp) (tS X.K (evS cx (.cmp own i (.comp kk tg src ifs elt)))):=by
 obtain ⟨n1,n2,n3⟩:=C.to hn;obtain ⟨_,_,_,_,e,hh⟩:=pN h;cases e;obtain ⟨_,rfl,h9⟩:=fu hh;obtain ⟨tgt,it,il,rfl,h10⟩:=uo h9;replace h:=h10
 . split at h
   . rename_i ts ht;simp only [aa] at h;obtain ⟨⟨⟨⟨⟨⟨⟨⟨h1,h2⟩,h3⟩,h4⟩,h5⟩,h6⟩,h7⟩,h8⟩,h9⟩:=h;obtain ⟨nd,hvis⟩:=jL h4;have hk:=kK (tg:=tg) (c:=c) (of_decide_eq_true h1)
     have hsw:swapsWith (.ListComp ex [⟨tgt,it,il,0⟩] sc p) (some (.Name t tp)) sp.line X.env = pure true:=by
      have e1:X.env.kindOf t = some .local:=by
       show X.env.scope.names.lookup t = some .local;rw [hS];exact hl
      show (pure (X.env.blockKind == .function && X.env.kindOf t == some .local && tp.line == p.line && !(sc.names.any λ(n,k)=>n == t && (k == .local || k == .cell))):Sem Bool) = pure true;rw [hB,e1,hp,hz];congr 1;simp
     intro pins s σ H E I hq
     refine Eu (Nc:=jM ts c.N++ts) (te:=tE X.K cx elt) (tt:=tG X.K cx ifs) (g:=gTg X.K tg) C.xe C.calm (mV C h3) (λi x hi=>by rw [C.hN] at hi |-;exact hvis i x hi) (by rw [C.hN,hk];lia) (DZ src X c _ _ C h6)
      (λcl Ca s H fp=>oh (eF C h3 nd cl Ca s H fp) h5) (λcl Ca s H fp=>KR ifs _ _ _ (eF C h3 nd cl Ca s H fp) h7) (λcl Ca s H fp=>dH elt _ _ _ (eF C h3 nd cl Ca s H fp) h8) (λv=>nI h6 _ v)
      C.nd' n1 n2 n3 hsw pins s σ H E I ?_
     obtain ⟨G,F,δ,o,ok,ev,post⟩:=hq;simp only [evS,af,ag] at ev;obtain ⟨⟨d,δ1⟩,e1,ev⟩:=ev
     cases d with
     | lst ds =>
       dsimp only at ev;split at ev
       . rename_i hi;cases ev;refine xt C I h9 hk h2 ok e1 λp ys xs H1 F1 H2 F2 e st1 st2 hp hg ok2 eD rl sm=>?_;cases e;show E.nx (σ.set i (some (.ref p))) H2
         cases own with
         | true =>
           refine post _ H2 F2 (st1.trans st2) ((ok2.keep).own hi (ok2.rf p (.inr rfl)) hg eD rl λj s ej ho z=>?_);obtain ⟨a,u,d,e2,_,g2,_⟩:=fG.ow (ok2.sl j _ ej) ho;rw [z] at e2;cases e2
           exact g2.2 (.inr rfl)
         | false =>
           have st':Step G F1 H1 (λb=>F2 b/\b≠p) H2:=⟨st2.keep,λb z=>st2.grow b z.1,λb o r f e=>by
            obtain ⟨a1,a2⟩:=st2.res b o r f e;exact ⟨⟨a1,λw=>by rw [w,hp] at e;cases e⟩,a2⟩,st2.tb⟩
           refine post _ H2 _ (st1.trans st') ((ok2.leave hg).set hi ?_);unfold Rel;exact ⟨p,xs,rfl,.inl ⟨.inl eD,λz=>z.2 rfl⟩,aI.less ok2.fd (λb z=>z.1) rl⟩
       . cases ev
     | _=>cases ev
   . cases h
end
section
variable {X:Cx} {c:Ck} {cx:Cl} {k:Nat} (C:Cok X c cx k) (hS:X.env.scope = c.sc) (hB:X.env.blockKind = .function)
include C hS hB
mutual
theorem OT:∀ (s:S) (x:dD),ckS c s x = true->PS X x (tS X.K (evS cx s))
 | .asg tg e,x,h=>by
   obtain ⟨_,_,_,rfl,hq1⟩:=nh h;obtain ⟨_,rfl,hq2⟩:=fu hq1;replace h:=hq2
   . simp only [aa] at h;obtain ⟨⟨⟨⟨h1,h2⟩,h3⟩,h4⟩,h5⟩:=h
     exact vX C (.inl h5) h1 h2 h3 (qR (cO h2) (by simpa using h4) _ _ _) (dH e X c _ C h2)
 | .new i e,x,h=>by
   obtain ⟨_,_,_,rfl,hq1⟩:=nh h;obtain ⟨_,rfl,hq2⟩:=fu hq1;obtain ⟨_,_,rfl,hq3⟩:=cS hq2;replace h:=hq3
   . simp only [aa] at h;obtain ⟨⟨⟨h1,h2⟩,h3⟩,h4⟩:=h
     exact DT C h1 h2 h3 (OU h4 C h2)
 | .cmp own i e,x,h=>by
   have h:(FF e && _) = true:=h;rw [aa] at h;obtain ⟨h0,h⟩:=h;cases e<;>first | (cases h0;done) | skip
   obtain ⟨_,_,_,rfl,hh⟩:=nh h;obtain ⟨_,rfl,h2⟩:=fu hh;obtain ⟨_,_,rfl,h3⟩:=IM h2;obtain ⟨_,_,_,_,rfl,h4⟩:=pN h3;simp only [aa] at h4;obtain ⟨⟨a1,a2⟩,a3⟩:=h4;rcases Bool.or_eq_true_iff.mp a3 with a3 | a3
   . simp only [aa] at a3;exact DW C hS hB a1 a2 (of_decide_eq_true a3.1.1) (of_decide_eq_true a3.1.2) a3.2
   . rw [aa] at a3
     exact BA C hS hB a3.1 a1 a2 (of_decide_eq_true a3.2) (dH _ X c _ C a2)
 | .ret e,x,h=>by
   obtain ⟨_,_,rfl,hq1⟩:=EJ h;obtain ⟨_,rfl,hq2⟩:=EL hq1;replace h:=hq2
   . rw [aa] at h
     exact DR h.2 (dH e X c _ C h.1)
 | .ifs t a b,x,h=>by
   obtain ⟨_,_,_,_,rfl,hq1⟩:=EN h;replace h:=hq1
   . simp only [aa] at h
     exact DU (oi t X c _ C h.1.1) (sC a _ h.1.2) (sC b _ h.2)
 | .for_ tg src body,x,h=>by
   obtain ⟨_,_,_,_,_,rfl,hq1⟩:=ER h;obtain ⟨rfl,hq2⟩:=gE hq1;replace h:=hq2
   . simp only [aa] at h
     exact DV C h.1.1 (DZ src X c _ _ C h.1.2) (λv=>nI h.1.2 _ v) (sC body _ h.2)
 | .while_ t body,x,h=>by
   obtain ⟨_,_,_,_,rfl,hq1⟩:=IJ h;obtain ⟨rfl,hq2⟩:=gE hq1;replace h:=hq2
   . rw [aa] at h
     exact yt C (oi t X c _ C h.1) (sC body _ h.2)
 | .append i e,x,h=>by
   obtain ⟨_,_,rfl,hh⟩:=Ag h;obtain ⟨_,_,_,_,_,rfl,hln,h2⟩:=um hh;obtain ⟨_,_,rfl,h3⟩:=cS h2;obtain ⟨_,rfl,h4⟩:=fu h3;simp only [aa] at h4;obtain ⟨⟨⟨a1,a2⟩,a3⟩,a4⟩:=h4;have z:=of_decide_eq_true a1;subst z
   exact vY C a2 hln a3 a4 (dH e X c _ C a3)
 | .extend i e,x,h=>by
   obtain ⟨_,_,rfl,hh⟩:=Ag h;obtain ⟨_,_,_,_,_,rfl,hln,h2⟩:=um hh;obtain ⟨_,_,rfl,h3⟩:=cS h2;obtain ⟨_,rfl,h4⟩:=fu h3;simp only [aa] at h4;obtain ⟨⟨⟨a1,a2⟩,a3⟩,a4⟩:=h4;have z:=of_decide_eq_true a1;subst z
   exact vW C a2 hln a3 a4 (dH e X c _ C a3)
 | .setix i j e,x,h=>by
   obtain ⟨_,_,_,rfl,hq1⟩:=nh h;obtain ⟨_,rfl,hq2⟩:=fu hq1;obtain ⟨_,_,_,rfl,hq3⟩:=kR hq2;obtain ⟨_,_,rfl,hq4⟩:=cS hq3;replace h:=hq4
   . simp only [aa] at h;obtain ⟨⟨⟨⟨⟨h1,h2⟩,h3⟩,h4⟩,h5⟩,h6⟩:=h
     exact yu C h1 h2 h3 h4 h5 h6 (dH e X c _ C h2) (dH j X c _ C h5)
 | .bad,x,h=>DX
theorem sC:∀ (ss:Ss) (xs:List dD),xy c ss xs = true->PSs X xs (tS X.K (eC cx ss))
 | .nil,xs,h=>by
   obtain ⟨rfl,hq1⟩:=gE h;replace h:=hq1
   . exact DS
 | .cons s ss,xs,h=>by
   obtain ⟨_,_,rfl,hq1⟩:=ft h;replace h:=hq1
   . rw [aa] at h;exact Bz (OT s _ h.1) (sC ss _ h.2)
end
end
structure Dn (K:PySem.W.Frag) (mgv:Str->Option ae) (cf:List (Str × List Str)) (gn:List Str) (fd:Fd) (st:dD) (a:aw) (fdd:fI):Prop where
 fn:Fun K fd.name fd.name st a fdd
 mg:mgv fd.name = some (.ref a)
 sc:nN (fd.ps++fd.loc) fd.ps (cu st)
 ck:xy ⟨fd.ps++fd.loc,cu st,cf,gn⟩ fd.body (iu st) = true\/∀ (X:Cx) (cx:Cl) (k:Nat),Cok X ⟨fd.ps++fd.loc,cu st,cf,gn⟩ cx k->X.env.scope = cu st->X.env.blockKind = .function->X.K = K->X.mg = mgv->PSs X (iu st) (tS K (eC cx fd.body))
 bd:Binds K fdd fd.ps []
def AU (K:PySem.W.Frag) (mg:Str->Option ae) (cf:List (Str × List Str)) (gn:List Str):List Fd->Prop
 | []=>True
 | fd::r=>(∃ st a fdd,Dn K mg cf gn fd st a fdd)/\AU K mg cf gn r
def oI {K:PySem.W.Frag} {mg:Str->Option ae} {cf:List (Str × List Str)} {gn:List Str}:∀ {G:List Fd} {i:Nat} {fd:Fd},AU K mg cf gn G->G[i]? = some fd->∃ st a fdd,Dn K mg cf gn fd st a fdd
 | [],_,_,_,e=>by simp at e
 | f::r,0,fd,h,e=>by
   cases e
   exact h.1
 | f::r,i+1,fd,h,e=>oI (i:=i) h.2 (by simpa using e)
def rh (G:List Fd):List (Str × List Str):=G.map λfd=>(fd.name,fd.ps)
structure Top (w:bD) (K:PySem.W.Frag) (mg:Str->Option ae) (G Gd:List Fd) (gl:List D) (gn:List Str):Prop where
 fns:AU K mg (rh Gd) gn Gd
 sub:∀ (i:Nat) (fd:Fd),Gd[i]? = some fd->G[i]? = some fd
 few:G.length<=uj
 blt:∀ x,x∈jO->mg x = none
 glob:∀ (g:Nat) (x:Str) (d:D),gn[g]? = some x->gl[g]? = some d->∃ u v,mg x = some u/\RelV v u/\∀ H F,Rel K H F d v
 gsome:∀ (g:Nat) (x:Str),gn[g]? = some x->∃ d,gl[g]? = some d
 gds:∀ (n:Str) (l:List (Str × Int)),Tbs.gds.lookup n = some l->∃ a,mg n = some (.ref a)/\GdK w K a l
 dfs:∀ f∈Tbs.dfs,∃ fd st a fdd,Gd[f]? = some fd/\Dn K mg (rh Gd) gn fd st a fdd/\Binds K fdd fd.ps [.none]
def vQ {K:PySem.W.Frag} {H:Hp} {F:aw->Prop} {ds:List D} {vs:List V} {N:List Str} (fd:FD F H) (tf:TF F) (tb:oJ H) (r:aI K H F ds vs) (hl:vs.length<=N.length):Ok K ⟨H,λb=>F b/\∃ o,H b = some o/\Mo o⟩ F (start N vs) H (init N.length ds):=by
 have hlen:=r.length
 have low:∀ (i:Nat) (s:Sl),(init N.length ds)[i]? = some s->s = .no\/∃ d,ds[i]? = some d/\s = .val d:=λi s e=>by
  unfold init at e;by_cases hi:i < ds.length
  . rw [bL (by simpa using hi),cW,aD hi] at e;cases e;exact .inr ⟨_,aD hi,rfl⟩
  . rw [cg (by simp;omega),gN] at e;split at e
    . cases e;exact .inl rfl
    . cases e
 refine ⟨Sim.refl H,fd,λb z=>z.1,λb z=>z.2,tf,tb,?_,λi s e=>?_,λi j s t a e1 _ o1=>?_⟩
 . unfold init L2.start;simp only [ax,ay,iF];omega
 . rcases low i s e with rfl | ⟨d,e1,rfl⟩
   . trivial
   . obtain ⟨v,hv,rv⟩:=r.get e1;refine ⟨v,?_,rv⟩;unfold L2.start;have hi:i < vs.length:=(aC.mp hv).1;rw [bL (by simpa using hi),cW,hv];rfl
 . rcases low i _ e1 with z | ⟨d,_,z⟩<;>(subst z;cases o1)
def grow {K:PySem.W.Frag} {H H':Hp} {F F':aw->Prop} {σ:L2.St} {δ:Loc} (hfd:FD F H) (ok:Ok K ⟨H,λb=>F b/\∃ o,H b = some o/\Mo o⟩ F' σ H' δ) (b:aw) (z:F b):F' b:=by
 obtain ⟨o,e,m | ⟨⟨ps,rfl⟩,t,ht,eb⟩⟩:=hfd b z
 . exact ok.rf b ⟨z,o,e,m⟩
 . rw [<- eb];exact ok.tf t ht
def okC {P:aS} {w:bD} {K:PySem.W.Frag} {mg:Str->Option ae} {base:cb} {x qual:Str} {st:dD} {f:aw} {fd:fI} {N ps:List Str} {k:Nat} {sp:Sp} (F:Fun K x qual st f fd) (S:nN N ps (cu st)) (len:∀ vs H Q E,sp vs H Q E->vs.length = ps.length)
 (hbody:∀ (A:aW) (outer:List Env) (s:ai) (H:Hp) (vs:List V) (Q:VK) (E:XK),lQ k (A.deeper (envOfC qual (cu st) s.heap.objs.size f fd.code))->sp vs H Q E ->
   ∃ t,PSs (uS CX0 P w K mg base N qual (cu st) f fd.code A outer s H E).nox (iu st) t/\t { nx:=λ_ H'=>Q .non H',rt:=Q } (L2.start N vs) H):nO P w K mg base CX0 (k+1) f fd ps sp:=by
 obtain ⟨oc,od,dV,kV,doc,pm,an,cdv,ct,osl,rfl,lk,hcd⟩:=F.ex;refine Ou lk hcd S len λA outer s H vs Q E hr hsp=>?_;obtain ⟨t,h,q⟩:=hbody A outer s H vs Q E hr hsp;exact ⟨t,h.nox,q⟩
section
variable {P:aS} {w:bD} {K:PySem.W.Frag} {mg:Str->Option ae} {base:cb} {G Gd:List Fd} {gl:List D} {gn:List Str}
def BM (mg:Str->Option ae) (base:cb):Prop:=∃ bm ob,mg "__builtins__" = some (.ref bm)/\bm≠builtinsNs/\base.get? bm = some ob/\ob.cls = .type "module"/\ob.dict = some builtinsNs/\ob.data = .plain
def zQ {n i:Nat} {fd:Fd} (e:G[i]? = some fd) {ds:List D} {d:D} (h:run G gl (n+1) i ds = some d):ds.length = fd.ps.length/\∃ δ,entry fd.hf (fd.ps++fd.loc).length ds = some δ/\outD (eC ⟨run G gl n,gl,hfs G⟩ fd.body δ) = some d:=by
 unfold run at h;rw [e] at h;dsimp only at h;split at h
 . cases q:entry fd.hf (fd.ps++fd.loc).length ds with
   | none=>rw [q] at h;cases h
   | some δ=>rw [q] at h;exact ⟨‹_›,δ,rfl,h⟩
 . cases h
def Ad {n i:Nat} {fd:Fd} (few:G.length<=uj) (e:G[i]? = some fd) {ds:List D} {d:D} (h:run G gl (n+1) (i+uj) ds = some d):ds.length = fd.ps.length/\∃ δ,entry fd.hf (fd.ps++fd.loc).length ds = some δ/\LA (eC ⟨run G gl n,gl,hfs G⟩ fd.body δ) = some d:=by
 unfold run at h;rw [fk (by omega)] at h;dsimp only at h;rw [Nat.add_sub_cancel,e] at h;dsimp only at h;split at h
 . cases q:entry fd.hf (fd.ps++fd.loc).length ds with
   | none=>rw [q] at h;cases h
   | some δ=>rw [q] at h;exact ⟨(‹_/\_›).2,δ,rfl,h⟩
 . cases h
def sO {H:Hp} {F:aw->Prop} {ds:List D} {vs:List V} (r:aI K H F ds vs) {k:Nat} {cs:List D} (e:ds.getLast? = some (.fn k cs)):False:=by
 rw [List.getLast?_eq_getElem?] at e;obtain ⟨v,_,rv⟩:=r.get e;unfold Rel at rv;exact rv
def Ed {n f:Nat} {ds:List D} (z:n = 0):run G gl n f ds = none:=by
 subst z;rfl
def Gx (T:Top w K mg G Gd gl gn) (hK:K.In base) (hB:BM mg base):∀ n:Nat,(∀ (i:Nat) (fd:Fd) (st:dD) (a:aw) (fdd:fI),Gd[i]? = some fd->Dn K mg (rh Gd) gn fd st a fdd ->
 nO P w K mg base CX0 n a fdd fd.ps (spF K (run G gl n i))/\nO P w K mg base CX0 n a fdd fd.ps (spO K (run G gl n (i+uj))))/\True
 | 0=>by
   have z:∀ i ds d,run G gl 0 i ds≠some d:=λi ds d h=>by unfold run at h;cases h
   refine ⟨λi fd st a fdd e _=>⟨⟨λvs H Q E h=>?_,λA outer s H args us vs Q E _ _ _ _ h=>?_⟩,⟨λvs H Q E h=>?_,λA outer s H args us vs Q E _ _ _ _ h=>?_⟩⟩,trivial⟩
   . obtain ⟨F,ds,d,_,_,_,_,h1,_⟩:=h;exact (z _ _ _ h1).elim
   . obtain ⟨F,ds,d,_,_,_,_,h1,_⟩:=h;exact (z _ _ _ h1).elim
   . obtain ⟨F,ds,d,_,_,_,_,h1,_⟩:=h;exact (z _ _ _ h1).elim
   . obtain ⟨F,ds,d,_,_,_,_,h1,_⟩:=h;exact (z _ _ _ h1).elim
 | n+1=>by
   obtain ⟨ih,_⟩:=Gx T hK hB n
   have fns:∀ (f:Nat) (x:Str) (ps:List Str),(rh Gd)[f]? = some (x,ps)->∃ gd st a fdd,gd.name = x/\gd.ps = ps/\Gd[f]? = some gd/\Dn K mg (rh Gd) gn gd st a fdd:=λf x ps hf=>by
    have hf':(Gd.map λfd=>(fd.name,fd.ps))[f]? = some (x,ps):=hf;rw [cW,bp] at hf';obtain ⟨gd,eg,ep⟩:=hf';cases ep;obtain ⟨st',a',fdd',D'⟩:=oI T.fns eg;exact ⟨gd,st',a',fdd',rfl,rfl,eg,D'⟩
   have fn1:∀ (f:Nat) (x:Str) (ps:List Str),(rh Gd)[f]? = some (x,ps)->∃ a fd,mg x = some (.ref a)/\PySem.W.keepIn K (.ref a) = true/\Binds K fd ps []/\nO P w K mg base CX0 n a fd ps (spF K (run G gl n f)):=λf x ps hf=>by
    obtain ⟨gd,st,a,fdd,rfl,rfl,eg,D'⟩:=fns f x ps hf;exact ⟨a,fdd,D'.mg,D'.fn.kp,D'.bd,(ih f gd st a fdd eg D').1⟩
   have fn3:∀ (f:Nat) (x:Str) (ps:List Str),(rh Gd)[f]? = some (x,ps)->∃ a fd,mg x = some (.ref a)/\PySem.W.keepIn K (.ref a) = true/\Binds K fd ps []/\nO P w K mg base CX0 n a fd ps (spO K (run G gl n (f+uj))):=λf x ps hf=>by
    obtain ⟨gd,st,a,fdd,rfl,rfl,eg,D'⟩:=fns f x ps hf;exact ⟨a,fdd,D'.mg,D'.fn.kp,D'.bd,(ih f gd st a fdd eg D').2⟩
   have fnd:∀ (f:Nat) (x:Str) (ps:List Str),(rh Gd)[f]? = some (x,ps)->f∈Tbs.dfs->∃ a fd,mg x = some (.ref a)/\PySem.W.keepIn K (.ref a) = true/\Binds K fd ps [.none]/\nO P w K mg base CX0 n a fd ps (spF K (run G gl n f)):=λf x ps hf hd=>by
    obtain ⟨gd,st,a,fdd,eg,D',bd⟩:=T.dfs f hd;have hf':(Gd.map λfd=>(fd.name,fd.ps))[f]? = some (x,ps):=hf;rw [cW,eg] at hf';cases hf';exact ⟨a,fdd,D'.mg,D'.fn.kp,bd,(ih f gd st a fdd eg D').1⟩
   refine ⟨λi fd st a fdd e Dd=>?_,trivial⟩
   . have eG:=T.sub i fd e
     have C:∀ (A:aW) (outer:List Env) (s:ai) (H:Hp) (E:XK),lQ n (A.deeper (envOfC fd.name (cu st) s.heap.objs.size a fdd.code)) ->
      Cok (uS CX0 P w K mg base (fd.ps++fd.loc) fd.name (cu st) a fdd.code A outer s H E).nox ⟨fd.ps++fd.loc,cu st,rh Gd,gn⟩ ⟨run G gl n,gl,hfs G⟩ n:=λA outer s H E hr =>
      ⟨rfl,Dd.sc.nd,λx hx=>hx,λx hx=>hx,λx hx=>⟨hx,.inl rfl⟩,λx hx=>hx,rfl,rfl,hr,fn1,fn3,fnd,T.blt,T.glob,T.gsome,T.gds,λz f ds=>Ed z⟩
     have B:∀ (A:aW) (outer:List Env) (s:ai) (H:Hp) (E:XK),lQ n (A.deeper (envOfC fd.name (cu st) s.heap.objs.size a fdd.code)) ->
      PSs (uS CX0 P w K mg base (fd.ps++fd.loc) fd.name (cu st) a fdd.code A outer s H E).nox (iu st) (tS K (eC ⟨run G gl n,gl,hfs G⟩ fd.body)):=λA outer s H E hr=>by
      have hblk:(uS CX0 P w K mg base (fd.ps++fd.loc) fd.name (cu st) a fdd.code A outer s H E).nox.env.blockKind = .function:=by
       unfold Env.blockKind;show (if (cu st).kind.isAnnotationScope then ScopeKind.function else (cu st).kind) = _;rw [Dd.sc.kind];rfl
      rcases Dd.ck with ck | oq
      . exact sC (cx:=⟨run G gl n,gl,hfs G⟩) (C A outer s H E hr) rfl hblk fd.body (iu st) ck
      . exact oq _ _ n (C A outer s H E hr) rfl hblk rfl rfl
     have fin:∀ {F:aw->Prop} {H:Hp} {σ:L2.St} {δ:Loc} {d:D} {Q:VK} {E:XK} (hfd:FD F H) (htf:TF F) (ok:Ok K ⟨H,λb=>F b/\∃ o,H b = some o/\Mo o⟩ F σ H δ) (h2:outD (eC ⟨run G gl n,gl,hfs G⟩ fd.body δ) = some d) (q:∀ v H',Sim H H'->oJ H'->Rel K H' F d v->Q v H'),
      tS K (eC ⟨run G gl n,gl,hfs G⟩ fd.body) { nx:=λ_ H'=>Q .non H',rt:=Q } σ H:=λ{F H σ δ d Q E} hfd htf ok h2 q=>by
      cases eo:eC ⟨run G gl n,gl,hfs G⟩ fd.body δ with
      | none=>rw [eo] at h2;cases h2
      | some o =>
        rw [eo] at h2;refine ⟨⟨H,λb=>F b/\∃ o,H b = some o/\Mo o⟩,F,_,o,ok,eo,?_⟩
        cases o with
        | nx δ =>
          cases h2
          exact λσ' H' F' st' ok'=>q .non H' ok'.same ok'.tabs zT
        | rt d' δ =>
          cases h2;refine λv σ' H' F' st' ok' r'=>q v H' ok'.same ok'.tabs (Rel.step (G:=g0) ok'.fd ⟨λ_ _ _ e _=>e,λb z=>?_,λ_ _ r _ _=>r.elim,λ_ ps e=>⟨ps,e⟩⟩ _ v r')
          exact .inl (grow hfd ok' b z)
        | ro ds' δ =>
          cases h2;refine λa xs σ' H' F' st' ok' f1 f2 hs r'=>q _ H' ok'.same ok'.tabs ?_;exact gL.rel ok'.fd (grow hfd ok') (sN hfd f2.1) hs r'
     have fiO:∀ {F:aw->Prop} {H:Hp} {σ:L2.St} {δ:Loc} {zs:D} {Q:VK} (hfd:FD F H) (htf:TF F) (ok:Ok K ⟨H,λb=>F b/\∃ o,H b = some o/\Mo o⟩ F σ H δ) (h2:LA (eC ⟨run G gl n,gl,hfs G⟩ fd.body δ) = some zs) (q:∀ a u H',Sim H H'->oJ H'->H a = none->H' a = some u->gL K H' (λb=>F b\/b = a) zs u->Q (.ref a) H'),
      tS K (eC ⟨run G gl n,gl,hfs G⟩ fd.body) { nx:=λ_ H'=>Q .non H',rt:=Q } σ H:=λ{F H σ δ zs Q} hfd htf ok h2 q=>by
      cases eo:eC ⟨run G gl n,gl,hfs G⟩ fd.body δ with
      | none=>rw [eo] at h2;cases h2
      | some o =>
        rw [eo] at h2;refine ⟨⟨H,λb=>F b/\∃ o,H b = some o/\Mo o⟩,F,_,o,ok,eo,?_⟩
        cases o with
        | ro ds' δ =>
          cases h2;refine λa xs σ' H' F' st' ok' f1 f2 hs r'=>q a xs H' ok'.same ok'.tabs f2.1 hs ?_
          have gr:∀ b,(F b\/b = a)->F' b:=λb z=>by
           rcases z with z | z
           . exact grow hfd ok' b z
           . rw [z];exact f1
          exact gL.step (G:=g0) ok'.fd ⟨λ_ _ _ e _=>e,λb z=>.inl (gr b z),λ_ _ r _ _=>r.elim,λ_ ps e=>⟨ps,e⟩⟩ r'
        | _=>cases h2
     refine ⟨okC Dd.fn Dd.sc (λvs H Q E h=>?_) λA outer s H vs Q E hr h=>?_,okC Dd.fn Dd.sc (λvs H Q E h=>?_) λA outer s H vs Q E hr h=>?_⟩
     . obtain ⟨F,ds,d,_,_,_,r,h1,_⟩:=h;rw [r.length,(zQ eG h1).1]
     . obtain ⟨F,ds,d,hfd,htf,htb,r,h1,q⟩:=h;obtain ⟨hl,δ,ed,h2⟩:=zQ eG h1;have hlen:=r.length;refine ⟨_,B A outer s H E hr,?_⟩;unfold entry at ed;split at ed
       . cases ed;exact fin (E:=E) hfd htf (vQ hfd htf htb r (by rw [hlen,hl,ax];omega)) h2 q
       . split at ed
         . rename_i eq;exact (sO r eq).elim
         . cases ed
     . obtain ⟨F,ds,zs,_,_,_,r,h1,_⟩:=h;rw [r.length,(Ad T.few eG h1).1]
     . obtain ⟨F,ds,zs,hfd,htf,htb,r,h1,q⟩:=h;obtain ⟨hl,δ,ed,h2⟩:=Ad T.few eG h1;have hlen:=r.length;refine ⟨_,B A outer s H E hr,?_⟩;unfold entry at ed;split at ed
       . cases ed;exact fiO hfd htf (vQ hfd htf htb r (by rw [hlen,hl,ax];omega)) h2 q
       . split at ed
         . rename_i eq;exact (sO r eq).elim
         . cases ed
end
def hS (a:aw) (o:Option HO):Hp:=λb=>if b = a/\o.isSome = true then o else if b∈Tbs.ts.map (·.1) then some (.tbl #[]) else none
def uE (e:hS a o b = some u):(b = a/\o = some u)\/(b∈Tbs.ts.map (·.1)/\u = .tbl #[]):=by
 unfold hS at e;split at e
 . rename_i h;exact .inl ⟨h.1,e⟩
 . split at e
   . cases e;exact .inr ⟨‹_›,rfl⟩
   . cases e
def Ja {P:aS} {w:bD} {K:PySem.W.Frag} {mg mb:Str->Option ae} {fa a:aw} {fd:fI} {x:Str} {f:List D->Option D} {s₁:ai} {vs:List ae} {ns:List Int}
 (KX:K.In s₁.heap) (hns:s₁.heap.Ns mainGlobals mg) (hb:s₁.heap.Ns builtinsNs mb) (hbb:∀ x:Str,x≠"__name__"->mb x = bootBuiltins x) (hlim:s₁.heap.NoLimit) (hg:s₁.gens = #[]) (hbm:BM mg s₁.heap)
 (ha:s₁.heap.get? a = some { cls:=.type "list",data:=.seq vs.toArray }) (hi:Hb vs ns) (hl:ns.length<=sizeLine) (hr:lQ 200 callerA)
 (ht:∀ t∈Tbs.ts,s₁.heap.get? t.1 = some (PySem.W.tabObj #[])/\K.lookup t.1 = none/\isCodeTable s₁.heap t.1)
 (F:∀ base:cb,K.In base->BM mg base->nO P w K mg base CX0 200 fa fd [x] (spF K f)) (hbind:Binds K fd [x] [])
 (hf:f [.lst (ns.map .int)] = some (.bl true)) :
 codeAny (model P w) callerA (.call (.ref fa) ⟨[.ref a],[]⟩) (λr s'=>r = .ok (.ret (.bool true))/\OldK s₁.heap s'.heap/\s'.os = s₁.os/\mL s'.gens) s₁:=by
 have rv:=sk hi;have lenV:=hi.length
 have htm:∀ b,b∈Tbs.ts.map (·.1)->s₁.heap.get? b = some (PySem.W.tabObj #[])/\K.lookup b = none/\isCodeTable s₁.heap b:=λb hb=>by
  obtain ⟨t,h1,h2⟩:=cL.mp hb;rw [<- h2];exact ht t h1
 have aT:a∉Tbs.ts.map (·.1):=λz=>by
  have:=(htm a z).1;rw [ha] at this;cases this
 have core:∀ o:Option HO,(∀ u,o = some u->∃ xs,u = .frz { cls:=.type "list",data:=.seq vs.toArray } (.lst xs))->HOk P w (hS a o) s₁.heap->(o≠none->K.lookup a = none)->Rel K (hS a o) (λb=>b∈Tbs.ts.map (·.1)) (.lst (ns.map .int)) (.ref a) ->
  codeAny (model P w) callerA (.call (.ref fa) ⟨[.ref a],[]⟩) (λr s'=>r = .ok (.ret (.bool true))/\OldK s₁.heap s'.heap/\s'.os = s₁.os/\mL s'.gens) s₁:=by
  intro o hO hok hK hR;have base_of:∀ {b:aw} {x:Obj},s₁.heap.get? b = some x->hS a o b = none->(rP s₁.heap (hS a o)).get? b = some x:=λe n=>FJ e n
  have noA:∀ {b:aw} {x:Obj},s₁.heap.get? b = some x->(∀ its n,x.data≠.seq its n)->(∀ vs,x.data≠.fields vs)->hS a o b = none:=λ{b x} e d1 d2=>by
   cases q:hS a o b with
   | none=>rfl
   | some u =>
     rcases uE q with ⟨rfl,_⟩ | ⟨z,_⟩
     . rw [ha] at e;cases e;exact absurd rfl (d1 _ _)
     . rw [(htm b z).1] at e;cases e;exact absurd rfl (d2 _)
  have nsK:∀ {b:aw} {m:Str->Option ae},s₁.heap.Ns b m->(rP s₁.heap (hS a o)).Ns b m:=λ{b m} ⟨x,es,ep,e,d,r⟩=>⟨x,es,ep,base_of e (noA e (λ_ _ z=>by rw [d] at z;cases z) λ_ z=>by rw [d] at z;cases z),d,r⟩
  have hKb:K.In (rP s₁.heap (hS a o)):=λb x e=>base_of (KX b x e) (by
   cases q:hS a o b with
   | none=>rfl
   | some u =>
     rcases uE q with ⟨rfl,z⟩ | ⟨z,_⟩
     . rw [hK (by rw [z];simp)] at e;cases e
     . rw [(htm b z).2.1] at e;cases e)
  have hM:Mod K mg (rP s₁.heap (hS a o)):=⟨hKb,nsK hns,⟨mb,nsK hb,hbb⟩,let ⟨mc,h1,h2⟩:=hlim;⟨mc,nsK h1,h2⟩⟩
  have hB:BM mg (rP s₁.heap (hS a o)):=by
   obtain ⟨bm,ob,b1,b2,b3,b4,b5,b6⟩:=hbm;exact ⟨bm,ob,b1,b2,base_of b3 (noA b3 (λ_ _ z=>by rw [b6] at z;cases z) λ_ z=>by rw [b6] at z;cases z),b4,b5,b6⟩
  have e0:Jw P w K mg (rP s₁.heap (hS a o)) callerA [] s₁ (hS a o):=⟨rfl,hM,λb x e=>IT e,Nat.le_of_eq (BW _ _),trivial,λb hb=>absurd (show b∈([]:List aw) from hb) ↥0,hok,.of_eq hg⟩
  have atT:∀ b,b∈Tbs.ts.map (·.1)->hS a o b = some (.tbl #[]):=λb z=>by
   unfold hS;rw [if_neg (λy=>aT (by rw [<- y.1];exact z)),if_pos z]
  have sp:spF K f [.ref a] (hS a o) (λv _=>v = .bl true) E0:=⟨λb=>b∈Tbs.ts.map (·.1),[.lst (ns.map .int)],.bl true,λb z=>by
   obtain ⟨t,h1,h2⟩:=cL.mp z;exact ⟨_,atT b z,.inr ⟨⟨#[],rfl⟩,t,h1,h2⟩⟩,λt h=>cL.mpr ⟨t,h,rfl⟩,λt h=>⟨#[],atT _ (cL.mpr ⟨t,h,rfl⟩),trivial,λpos cv e=>by cases e⟩,aI.one hR,hf,λv H' _ _ r=>by unfold Rel at r;exact r⟩
  refine GH ((F _ hKb hB).run callerA [] s₁ (hS a o) ⟨[.ref a],[]⟩ [.ref a] [.ref a] _ _ hr e0 (hbind s₁ [.ref a] KX rfl) (.cons rfl .nil) sp) λr s' h=>?_
  cases r with
  | error e=>exact dW h
  | ok fl =>
    cases fl with
    | next=>exact dW h
    | brk=>exact dW h
    | cont=>exact dW h
    | ret u =>
      obtain ⟨v,H',os,bare,un,hok',r',q⟩:=h;have q':v = .bl true:=q;subst q';obtain rfl:u = kG true:=r';refine ⟨rfl,⟨λb x e=>?_,λb x e=>un.there b x e ↥0⟩,os,bare⟩
      cases q:hS a o b with
      | none=>exact .inl (un.keep b x e q (by intro z;exact absurd (show b∈([]:List aw) from z) ↥0) ↥0)
      | some u =>
        rcases uE q with ⟨_,z⟩ | ⟨z,rfl⟩
        . obtain ⟨xs,rfl⟩:=hO u z;have z2:=un.frzs b _ _ q;obtain ⟨e1,_⟩:=hok b _ q;obtain ⟨e2,_⟩:=hok' b _ z2;rw [e] at e1;cases e1;exact .inl e2
        . obtain ⟨more,y⟩:=un.tbls b _ q;have e2:s'.heap.get? b = some { cls:=.none,data:=.fields (#[]++more) }:=hok' b _ y;have e1:=(htm b z).1;rw [e] at e1;cases e1;exact .inr (.inl ⟨(htm b z).2.2,rfl,#[],more,rfl,e2⟩)
 have rl:∀ (H:Hp) (F:aw->Prop) (ms:List Int),aI K H F (ms.map .int) (ms.map V.int):=by
  intro H F ms
  induction ms with
  | nil=>exact aI.nil
  | cons m ms ih=>exact aI.cons (cR m) ih
 have hok1:∀ o:Option HO,(∀ u,o = some u->iL P w (hS a o) s₁.heap a u)->HOk P w (hS a o) s₁.heap:=λo ho b u e=>by
  rcases uE e with ⟨rfl,z⟩ | ⟨z,rfl⟩
  . exact ho u z
  . exact (htm b z).1
 cases hk:K.lookup a with
 | some x =>
   have e:=KX a x hk;rw [ha] at e;cases e;refine core none (λu z=>by cases z) (hok1 none λu z=>by cases z) (λz=>absurd rfl z) ?_;unfold Rel
   exact ⟨a,ns.map V.int,rfl,.inr ⟨vs.toArray,_,hk,by rw [aG,lenV];exact hl,by simpa using rv⟩,rl _ _ ns⟩
 | none =>
   refine core (some (.frz { cls:=.type "list",data:=.seq vs.toArray } (.lst (ns.map V.int)))) (λu z=>⟨_,(cH z).symm⟩) (hok1 _ λu z=>?_) (λ_=>hk) ?_
   . cases z;exact ⟨ha,by rw [ay];exact hl,vs,_,rv,ha⟩
   . unfold Rel;refine ⟨a,ns.map V.int,rfl,.inl ⟨.inr ⟨{ cls:=.type "list",data:=.seq vs.toArray },?_⟩,aT⟩,rl _ _ ns⟩;unfold hS;rw [if_pos ⟨rfl,rfl⟩]
def walk_run {l:PySem.W.OpenLaw} {q:aS} {loose:List Str} {XP:(Str->Option ae)->cb->Prop} {YP:bD->cb->Prop} {d:DefRec} {K:Params->PySem.W.Frag} {G Gd:List Fd} {gl:List D} {gn:List Str} {i:Nat} {fd:Fd} {x:Str}
 (main:∀ ns:List Int,ns.length<=63->run G gl 200 i [.lst (ns.map .int)] = some (.bl true)) (hi:Gd[i]? = some fd) (hp:fd.ps = [x])
 (hn:l.most = some 63) (hdf:d.params.defaults = []) (hY:∀ (w:bD) (h:cb),YP w h->(K w.params).In h/\∀ t∈Tbs.ts,h.get? t.1 = some (PySem.W.tabObj #[]))
 (hnm:fd.name = d.name) (F:∀ (w:bD) (mg:Str->Option ae) (h:cb),(K w.params).In h->h.Ns mainGlobals mg->Top w (K w.params) mg G Gd gl gn/\∀ t∈Tbs.ts,(K w.params).lookup t.1 = none/\∃ c,PySem.W.codeHdIn (K w.params) c t.1 = true) :
 PySem.W.WalkO q loose XP YP l.row.toRowW d [] (λf vs=>PySem.call f vs):=by
 have hr:lQ 200 callerA:=⟨rfl,⇑0,⇑0⟩;refine Att.attach_call hn hdf λw s₀ s₁ mg mb fa o pm cd doc a vs ns TT Y ho hd hcd hmg hobj hints hlen hg=>?_;obtain ⟨KX,tabs⟩:=hY w _ Y;obtain ⟨T,tc⟩:=F w mg _ KX TT.T.g;obtain ⟨st,fa',fdd,Dd⟩:=oI T.fns hi
 obtain rfl:fa = fa':=by
  have e:=Dd.mg;rw [hnm,hmg] at e;cases e;rfl
 refine Ja KX TT.T.g TT.T.b TT.T.builtins TT.T.nolimit hg TT.T.bmain hobj hints (bj hlen ⇑0) hr (λt ht=>?_) (λbase hK hB=>?_) (hp▸Dd.bd) (main ns hlen)
 . obtain ⟨h1,c,h2⟩:=tc t ht;exact ⟨tabs t ht,h1,((PySem.W.codeHd_of_K KX h2).tab (tabs t ht)).isCodeTable⟩
 . have:=((Gx (P:=l.prog) (w:=w) (base:=base) T hK hB 200).1 i fd st fa fdd hi Dd).1;rw [hp] at this;exact this
section
def yD (K:PySem.W.Frag) (x:Str):Bool:=match PySem.W.nsIn K mainGlobals x with
 | some none=>true
 | _=>false
def Jt {K:PySem.W.Frag} {h:cb} {mg:Str->Option ae} (X:K.In h) (G:h.Ns mainGlobals mg) (q:jO.all (yD K) = true) (x:Str) (hx:x∈jO):mg x = none:=by
 have h:=cQ.mp q x hx;unfold yD at h;split at h
 . exact PySem.W.mg_none_of X G ‹_›
 . cases h
def sub_app {a b:List Fd} (i:Nat) (fd:Fd) (h:a[i]? = some fd):(a++b)[i]? = some fd:=by
 rw [bL (aC.mp h).1];exact h
end
end PP
end
section
namespace PP
open PySem L2
def vz:∀ {ps:List Str} {us:List ae} {x:Str},us.length = ps.length->x∈ps->((ps.zip us).lookup x).isSome = true
 | p::ps,u::us,x,hl,hx=>by
   rw [jD,dG];split
   . rfl
   . rename_i z;refine vz (tF hl) ((aQ.mp hx).resolve_left λe=>?_);rw [e,beq_self_eq_true] at z
     cases z
 | [],_,x,hl,hx=>by cases hx
 | p::ps,[],x,hl,hx=>by cases hl
def vx:∀ {ps:List Str} {us:List ae},us.length = ps.length->ps.Nodup->(ps.filterMap λn=>((ps.zip us).lookup n).map (n,·)) = ps.zip us
 | [],us,hl,_=>by rfl
 | p::ps,[],hl,_=>by cases hl
 | p::ps,u::us,hl,nd=>by
   rw [gy] at nd;have ih:=vx (tF hl) nd.2;rw [jD,eI,dG,beq_self_eq_true];dsimp only [Option.map];congr 1
   have h:∀ l:List Str,p∉l->(l.filterMap λn=>((((p,u)::ps.zip us).lookup n).map (n,·))) = l.filterMap λn=>((ps.zip us).lookup n).map (n,·):=λl=>by
    induction l with
    | nil=>intro _;rfl
    | cons n l il =>
      intro hn;rw [aQ,not_or] at hn;rw [eI,eI,il hn.2,dG,show (n == p) = false from beq_eq_false_iff_ne.mpr λe=>hn.1 e.symm]
   exact (h ps nd.1).trans ih
def ifF {α:Type} {c:Prop} [Decidable c] {a b x:α} (h:¬ c) (e:b = x):(if c then a else b) = x:=by rw [if_neg h];exact e
def yW {fd:fI} {ps:List Str} {us:List ae} (h1:fd.params.posonlyargs = []) (h2:fd.params.args.map (·.arg) = ps) (h3:fd.params.kwonlyargs = []) (h4:fd.params.vararg = none) (h5:fd.params.kwarg = none) (h6:fd.defaults = .none) (nd:ps.Nodup) (hl:us.length = ps.length):bindArgs fd ⟨us,[]⟩ = pure (ps.zip us):=by
 have hm:((ps.take ps.length).filter λn=>((ps.zip us).lookup n).isNone) = []:=by
  rw [pZ,xU];intro x hx;have:=vz hl hx
  cases e:(ps.zip us).lookup x with
  | none=>rw [e] at this;cases this
  | some v=>simp
 cases fd with
 | mk a b p c d e f df g =>
   cases p with
   | mk p1 p2 p3 p4 p5 p6 p7 =>
     cases h1;cases h3;cases h4;cases h5;cases h6;cases h2;have hl:us.length = (p2.map (·.arg)).length:=hl;refine ifF (α:=Sem _) (λz=>?_) ?_
     . have z:(decide (us.length > (p2.map (·.arg)).length) && true) = true:=z;rw [hl,Bool.and_true,decide_eq_true_eq] at z;exact bX _ z
     generalize hd:List.drop _ _ = dd;obtain rfl:dd = []:=hd.symm.trans List.drop_nil;refine ifF (α:=Sem _) (λz=>Bool.noConfusion ((congrArg (λl:List Str=>!l.isEmpty) hm).symm.trans z)) ?_;generalize hz:List.zip (List.drop _ _) ([]:List ae) = zz;obtain rfl:zz = []:=hz.symm.trans nW;have e:(p2.map Arg.arg++[]).filterMap (λn=>(((p2.map Arg.arg).zip us).lookup n).map (n,·)) = (p2.map Arg.arg).zip us:=by rw [cB];exact vx hl nd
     exact congrArg (pure:_->Sem _) e
def okD (d:Fd) (a:CJ) (s:fc):Bool :=
 a.posonlyargs.isEmpty && (a.kwonlyargs.isEmpty && (a.vararg.isNone && (a.kwarg.isNone && (decide (a.args.map (·.arg) = d.ps) && (decide (s.kind = .function) && ((!s.isCoroutine) && ((!s.isGenerator) && (decide (d.ps++d.loc).Nodup && (d.ps.all (λx=>decide (s.names.lookup x = some .local) || decide (s.names.lookup x = some .cell)) && s.names.all λy=>decide (y.2≠.free))))))))))
def LW {d:Fd} {st:dD} (h:okD d (jv st) (cu st) = true):nN (d.ps++d.loc) d.ps (cu st):=by
 simp only [okD,aa,dT,decide_eq_true_eq,cQ,jS] at h;obtain ⟨_,_,_,_,_,k,c,g,nd,p,f⟩:=h;exact ⟨k,c,g,nd,List.take_left,p,f⟩
def LX {K:PySem.W.Frag} {d:Fd} {st:dD} {fd:fI} (e1:fd.params = jv st) (e2:fd.defaults = .none) (h:okD d (jv st) (cu st) = true):Binds K fd d.ps []:=by
 simp only [okD,aa,decide_eq_true_eq,List.isEmpty_iff,fM] at h;obtain ⟨h1,h2,h3,h4,h5,_,_,_,nd,_⟩:=h;rw [<- e1] at h1 h2 h3 h4 h5;exact .all λus hl=>yW h1 h5 h2 h3 h4 e2 (GU.mp nd).1 hl
section
variable [Tbs] {K:PySem.W.Frag} {h:cb} {w:bD} {mg:Str->Option ae} {cf:List (Str × List Str)} {gn:List Str} {tp:Nat->dD} {G Gd:List Fd} {gl:List D}
inductive Hds (K:PySem.W.Frag) (mg:Str->Option ae) (cf:List (Str × List Str)) (gn:List Str) (tp:Nat->dD):List Fd->List (String × Nat)->Prop
 | nil:Hds K mg cf gn tp [] []
 | own {d:Fd} {i:String × Nat} {r:List Fd} {is:List (String × Nat)} (e:∃ st a fdd,Dn K mg cf gn d st a fdd) (t:Hds K mg cf gn tp r is):Hds K mg cf gn tp (d::r) (i::is)
 | cons {d:Fd} {x:String} {i:Nat} {f:aw} {oc:ae} {od an:Option aw} {osl:Array (Option ae)} {kV doc pm cdv ct:ae} {r:List Fd} {is:List (String × Nat)} (a:PySem.W.nsIn K mainGlobals (.ofString x) = some (some (.ref f))) (l:K.lookup f = some ⟨oc,od,.func (PySem.W.fnOf (.ofString x) (.ofString x) (jv (tp i)) (iu (tp i)) (cu (tp i)) .none kV doc pm an cdv ct),osl⟩)
   (c:PySem.W.codeIn K cdv (.ofString x) = true) (k:PySem.W.keepIn K (.ref f) = true) (z:(decide (d.name = .ofString x) && (okD d (jv (tp i)) (cu (tp i)) && xy ⟨d.ps++d.loc,cu (tp i),cf,gn⟩ d.body (iu (tp i)))) = true) (t:Hds K mg cf gn tp r is):Hds K mg cf gn tp (d::r) ((x,i)::is)
def Jj (X:K.In h) (N:h.Ns mainGlobals mg) {l:List Fd} {is:List (String × Nat)} (H:Hds K mg cf gn tp l is):AU K mg cf gn l:=by
 induction H with
 | nil=>trivial
 | own e t ih=>exact ⟨e,ih⟩
 | cons a l c k z t ih =>
   rw [aa,decide_eq_true_eq,aa] at z;obtain ⟨z0,z1,z2⟩:=z;rw [<- z0] at a l c;have F:=Mw l c k;exact ⟨⟨_,_,_,F,PySem.W.mg_of X N a,LW z1,.inl z2,LX rfl rfl z1⟩,ih⟩
mutual
inductive InK (K:PySem.W.Frag):D->ae->Prop
 | str {x:Str} {t:Tok}:InK K (.str x) (.str x t)
 | int {x:Int} {t:Tok}:InK K (.int x) (.int x t)
 | tup {ds:List D} {a:aw} {oD:Option aw} {oS:Array (Option ae)} {n:Nat} {vs:Array ae} (l:K.lookup a = some ⟨.type "tuple",oD,.seq vs n,oS⟩) (q:InKs K ds vs.toList) (z:vs.size<=99):InK K (.tup ds) (.ref a)
inductive InKs (K:PySem.W.Frag):List D->List ae->Prop
 | nil:InKs K [] []
 | cons {d:D} {v:ae} {ds:List D} {vs:List ae} (e:InK K d v) (t:InKs K ds vs):InKs K (d::ds) (v::vs)
end
mutual
theorem InK.rel:∀ {d:D} {u:ae},InK K d u->∃ v,RelV v u/\∀ H F,Rel K H F d v
 | _,_,.str=>⟨.str _,⟨_,rfl⟩,λH F=>js _⟩
 | _,_,.int=>⟨.int _,⟨_,rfl⟩,λH F=>cR _⟩
 | _,_,.tup l q z=>by
   obtain ⟨vs,h1,h2⟩:=q.rel;refine ⟨.ref _,rfl,λH F=>?_⟩;unfold Rel;exact ⟨_,vs,rfl,.inr ⟨_,_,_,l,rfl,rfl,bj z ⇑0,h1⟩,h2 H F⟩
theorem InKs.rel:∀ {ds:List D} {us:List ae},InKs K ds us->∃ vs,Vals vs us/\∀ H F,aI K H F ds vs
 | _,_,.nil=>⟨[],.nil,λ_ _=>aI.nil⟩
 | _,_,.cons e t=>by
   obtain ⟨v,h1,h2⟩:=e.rel;obtain ⟨vs,h3,h4⟩:=t.rel;exact ⟨v::vs,.cons h1 h3,λH F=>aI.cons (h2 H F) (h4 H F)⟩
end
inductive Gls (K:PySem.W.Frag):List Str->List D->Prop
 | nil:Gls K [] []
 | cons {x:Str} {d:D} {v:ae} {xs:List Str} {ds:List D} (a:PySem.W.nsIn K mainGlobals x = some (some v)) (e:InK K d v) (t:Gls K xs ds):Gls K (x::xs) (d::ds)
def Ay (X:K.In h) (N:h.Ns mainGlobals mg) (H:Gls K gn gl):∀ (g:Nat) (x:Str),gn[g]? = some x->∃ d,gl[g]? = some d/\∃ u v,mg x = some u/\RelV v u/\∀ H F,Rel K H F d v:=by
 induction H with
 | nil=>intro g x e;cases g<;>cases e
 | cons a e t ih =>
   intro g x z
   cases g with
   | zero =>
     cases z;obtain ⟨v,h1,h2⟩:=e.rel
     exact ⟨_,rfl,_,v,PySem.W.mg_of X N a,h1,h2⟩
   | succ g=>exact ih g x z
def top_mk (X:K.In h) (N:h.Ns mainGlobals mg) {is:List (String × Nat)} (H:Hds K mg (rh Gd) gn tp Gd is) (sub:∀ (i:Nat) (fd:Fd),Gd[i]? = some fd->G[i]? = some fd) (few:G.length<=uj) (hb:jO.all (yD K) = true) (hg:Gls K gn gl)
 (gds:∀ (n:Str) (l:List (Str × Int)),Tbs.gds.lookup n = some l->∃ a,mg n = some (.ref a)/\GdK w K a l) (dfs:∀ f∈Tbs.dfs,∃ fd st a fdd,Gd[f]? = some fd/\Dn K mg (rh Gd) gn fd st a fdd/\Binds K fdd fd.ps [.none]):Top w K mg G Gd gl gn :=
 ⟨Jj X N H,sub,few,Jt X N hb,λg x d h1 h2=>by
   obtain ⟨d',e,r⟩:=Ay X N hg g x h1;rw [h2] at e;cases e;exact r,λg x h1=>by
   obtain ⟨d',e,r⟩:=Ay X N hg g x h1;exact ⟨d',e⟩,gds,dfs⟩
end
end PP
end
section
namespace PP
open PySem
section
variable {cx:Cl} {δ:Loc}
def wEm (f:D->Loc->Option (List D × Loc)) (ds:List D) (δ:Loc) (Q:List D->Loc->Prop):Prop:=∃ ys δ',gW f ds δ = some (ys,δ')/\Q ys δ'
def Hv:wE cx (.sset k tg1 src1 tg2 src2 ifs elt) δ Q↔wI cx src1 δ λds δ1=>wEm (outF cx k tg1 tg2 src2 ifs elt) ds δ1 λys δ2=>∃ xs,fS ys = some xs/\(xs.length < 4000/\(iP xs).length < 64)/\Q (.lst (fU ((iP xs).map .str))) δ2:=by
 unfold wE wI wEm;constructor
 . rintro ⟨d,δ',e,q⟩
   letI:Tbs:=⟨[],[],[],[]⟩
   obtain ⟨ds,δ1,ys,xs,e1,e2,e3,h1,h2,rfl⟩:=zI e;exact ⟨ds,δ1,e1,ys,δ',e2,xs,e3,⟨h1,h2⟩,q⟩
 . rintro ⟨ds,δ1,e1,ys,δ2,e2,xs,e3,hh,q⟩;refine ⟨_,δ2,?_,q⟩;unfold evE;show ((evI cx src1 δ).bind _) = _;rw [e1];show ((gW (outF cx k tg1 tg2 src2 ifs elt) ds δ1).bind _) = _;rw [e2];show (match fS ys with | some xs=>if xs.length < 4000/\(iP xs).length < 64 then some (D.lst (fU ((iP xs).map .str)),δ2) else none | none=>none) = _;rw [e3];exact if_pos hh
def vC {α:Type} (g:α->D) (h:α->List D):∀ (xs:List α),(∀ x∈xs,wTg (δ++aZ k .no) tg1 (g x) λδa=>wI cx src2 δa λes δb=>wEm (inF cx tg2 ifs elt) es δb λzs δc=>zs = h x/\δc.take δ.length = δ) ->
 Q (xs.flatMap h) δ->wEm (outF cx k tg1 tg2 src2 ifs elt) (xs.map g) δ Q
 | [],_,q=>⟨[],δ,rfl,q⟩
 | x::xs,hx,q=>by
   obtain ⟨δa,e1,es,δb,e2,zs,δc,e3,rfl,t⟩:=hx x au;obtain ⟨ys,δ',e4,q'⟩:=vC (k:=k) (tg1:=tg1) (tg2:=tg2) (src2:=src2) (ifs:=ifs) (elt:=elt) (Q:=λys δ'=>Q (h x++ys) δ') g h xs (λz hz=>hx z (ak _ hz)) (by rw [pj] at q;exact q);refine ⟨h x++ys,δ',?_,q'⟩
   have eo:outF cx k tg1 tg2 src2 ifs elt (g x) δ = some (h x,δ):=by
    unfold outF;simp only [af,e1,aV,e2,e3,t,dM]
   rw [aJ];unfold gW;simp only [af,eo,aV,e4,dM]
def tP {α:Type} (g:α->D) (p:α->Bool) (v:α->D) (P:Loc->Prop):∀ (xs:List α) (δ:Loc),(∀ x∈xs,∀ δ,P δ->wTg δ tg (g x) λδ2=>wG cx ifs δ2 λb δ3=>b = p x/\if b = true then wE cx elt δ3 λy δ4=>y = v x/\P δ4 else P δ3)->P δ ->
 (∀ δ',P δ'->Q ((xs.filter p).map v) δ')->wEm (inF cx tg ifs elt) (xs.map g) δ Q
 | [],δ,_,hp,q=>⟨[],δ,rfl,q δ hp⟩
 | x::xs,δ,hx,hp,q=>by
   obtain ⟨δ2,e1,b,δ3,e2,rfl,e3⟩:=hx x au δ hp
   cases hb:p x with
   | true =>
     rw [hb] at e2 e3;rw [if_pos rfl] at e3;obtain ⟨y,δ4,e4,rfl,p4⟩:=e3;obtain ⟨ys,δ',e5,q'⟩:=tP (tg:=tg) (ifs:=ifs) (elt:=elt) (Q:=λys δ'=>Q (v x::ys) δ') g p v P xs δ4 (λz hz=>hx z (ak _ hz)) p4 (λδ' z=>by have:=q δ' z;rw [xO hb] at this;exact this);refine ⟨v x::ys,δ',?_,q'⟩
     have eo:inF cx tg ifs elt (g x) δ = some ([v x],δ4):=by
      unfold inF;simp only [af,e1,aV,e2,if_true,e4,dM]
     rw [aJ];unfold gW
     simp only [af,eo,aV,e5,dM,kC,fi]
   | false =>
     rw [hb] at e2 e3;rw [if_neg aj] at e3;obtain ⟨ys,δ',e5,q'⟩:=tP (tg:=tg) (ifs:=ifs) (elt:=elt) (Q:=Q) g p v P xs δ3 (λz hz=>hx z (ak _ hz)) e3 (λδ' z=>by have:=q δ' z;rw [xP (by simp [hb])] at this;exact this);refine ⟨ys,δ',?_,q'⟩
     have eo:inF cx tg ifs elt (g x) δ = some ([],δ3):=by
      unfold inF;simp only [af,e1,aV,e2,bb,if_false,dM]
     rw [aJ];unfold gW;simp only [af,eo,aV,e5,dM,fi]
end
def strs_map (xs:List Str):fS (xs.map .str) = some xs:=by
 induction xs with
 | nil=>rfl
 | cons x xs ih=>simp [fS,ih]
def Fo:y∈kn ts x↔y∈ts\/y = x:=by
 unfold kn;split
 . rename_i h;exact ⟨.inl,λz=>z.elim id λe=>e▸h⟩
 . simp
def sQ:∀ (xs ts:List Str),y∈xs.foldl kn ts↔y∈ts\/y∈xs
 | [],ts=>by simp
 | x::xs,ts=>by
   rw [iZ,sQ xs,Fo,aQ];constructor
   . rintro ((h | h) | h)
     . exact .inl h
     . exact .inr (.inl h)
     . exact .inr (.inr h)
   . rintro (h | h | h)
     . exact .inl (.inl h)
     . exact .inl (.inr h)
     . exact .inr h
def wL {y:Str} {xs:List Str}:y∈iP xs↔y∈xs:=by
 unfold iP;rw [sQ];simp
def yF (h:ts.Nodup):(kn ts x).Nodup:=by
 unfold kn;split
 . exact h
 . rename_i hx;rw [GU];refine ⟨h,↥0,λa ha b hb=>?_⟩;rw [aP] at hb;intro e;exact hx (by rw [<- hb,<- e];exact ha)
def yE (xs:List Str):(iP xs).Nodup:=by
 unfold iP
 suffices h:∀ (xs ts:List Str),ts.Nodup->(xs.foldl kn ts).Nodup from h xs [] ↥0
 intro xs
 induction xs with
 | nil=>intro ts h;exact h
 | cons x xs ih=>intro ts h;exact ih _ (yF h)
def sdT (xs:List Str):List Str:=((hV (iP xs)).choose)
def KY (xs:List Str):fU ((iP xs).map .str) = (sdT xs).map .str:=(hV (iP xs)).choose_spec.1
def HV:y∈sdT xs↔y∈xs:=by
 rw [show y∈sdT xs↔y∈iP xs from (hV (iP xs)).choose_spec.2.1.mem_iff,wL]
def sub_len:∀ {l ns:List Str},l.Nodup->(∀ x∈l,x∈ns)->l.length<=ns.length
 | [],_,_,_=>bO _
 | x::l,ns,h,hs=>by
   rw [gy] at h;have hx:=hs x au;have ih:=sub_len (l:=l) (ns:=ns.erase x) h.2 λy hy=>(List.mem_erase_of_ne λe=>h.1 (by rw [<- e];exact hy)).mpr (hs y (ak _ hy));rw [List.length_erase_of_mem hx] at ih;have:0 < ns.length:=List.length_pos_of_mem hx;rw [aB];omega
def Cd {xs ns:List Str} (h:∀ x∈xs,x∈ns):(iP xs).length<=ns.length:=by
 have h1:=yE xs;have h2:∀ x∈iP xs,x∈ns:=λx hx=>h x (wL.mp hx);exact sub_len h1 h2
end PP
end
section
namespace PP
open PySem L2
def sr:Nat->Ss->Ss
 | 0,_=>.nil
 | _,.nil=>.nil
 | k+1,.cons s ss=>.cons s (sr k ss)
def kx:Nat->Ss->Ss
 | 0,ss=>ss
 | _,.nil=>.nil
 | k+1,.cons _ ss=>kx k ss
def nxS (R:PP.Loc->Prop) (Q:Out->Prop):Out->Prop
 | .nx δ=>R δ
 | o=>Q o
def zD (h:wS cx s δ P) (k:∀ o,P o->Q o):wS cx s δ Q:=let ⟨o,e,p⟩:=h;⟨o,e,k o p⟩
def zC {R:PP.Loc->Prop}:∀ (k:Nat) (ss:Ss) (δ:PP.Loc),wSs cx (sr k ss) δ (nxS R Q)->(∀ δ',R δ'->wSs cx (kx k ss) δ' Q)->wSs cx ss δ Q
 | 0,ss,δ,h,q=>by
   unfold sr at h
   exact q δ (fw.mp h)
 | _+1,.nil,δ,h,q=>by
   unfold sr at h;unfold kx at q
   exact q δ (fw.mp h)
 | k+1,.cons s ss,δ,h,q=>by
   unfold sr at h;unfold kx at q;refine dC.mpr (zD (dC.mp h) λo p=>?_)
   cases o with
   | nx δ1=>exact zC k ss δ1 p q
   | rt d δ1=>exact p
   | ro d δ1=>exact p
def fg (k:Nat) (δ':PP.Loc) (h:eC cx (sr k ss) δ = some (.nx δ')) (q:wSs cx (kx k ss) δ' Q):wSs cx ss δ Q:=zC (R:=λd=>d = δ') k ss δ ⟨.nx δ',h,rfl⟩ λ_ e=>e▸q
def Fy {c A B:Prop} [Decidable c] (h1:c->A) (h2:¬ c->B):if c then A else B:=by
 by_cases h:c
 . rw [if_pos h];exact h1 h
 . rw [if_neg h];exact h2 h
def yZ:Ss->Ss->Ss
 | .nil,r=>r
 | .cons s t,r=>.cons s (yZ t r)
def tL {r:Ss}:∀ {a:Ss} {δ:PP.Loc},wSs cx (yZ a r) δ Q->wSs cx a δ (vJ cx r Q)
 | .nil,δ,h=>fw.mpr (jJ.mpr h)
 | .cons s t,δ,h=>dC.mpr (zD (dC.mp h) λo p=>by
   cases o with
   | nx δ1=>exact tL p
   | rt d δ1=>exact p
   | ro d δ1=>exact p)
def bN (p:Bool) (h:evT cx c δ = some (p,δ)) (ha:p = true->wSs cx (yZ a r) δ Q) (hb:p = false->wSs cx (yZ b r) δ Q):wSs cx (.cons (.ifs c a b) r) δ Q :=
 dC.mpr (De.mpr ⟨p,δ,h,by cases p;exact tL (hb rfl);exact tL (ha rfl)⟩)
variable {G:List Fd} {gl:List D} {n f:Nat}
def vA (as:List D) (δ1:PP.Loc) (h:fW ⟨PP.run G gl n,gl,hfs G⟩ es δ = some (as,δ1)) (hc:jk G gl n f as λd=>∃ δ2,eP δ1 tg d = some δ2/\wSs ⟨PP.run G gl n,gl,hfs G⟩ r δ2 Q):wSs ⟨PP.run G gl n,gl,hfs G⟩ (.cons (.asg tg (.call f es)) r) δ Q :=
 dC.mpr (xZ.mpr (pH.mpr ⟨as,δ1,h,oe.mpr hc⟩))
def CV (as:List D) (δ1:PP.Loc) (h:fW ⟨PP.run G gl n,gl,hfs G⟩ es δ = some (as,δ1)) (hc:jk G gl n f as Q):wSs ⟨PP.run G gl n,gl,hfs G⟩ (.cons (.ret (.call f es)) r) δ (retS Q) :=
 dC.mpr (xY.mpr (pH.mpr ⟨as,δ1,h,oe.mpr hc⟩))
def cM (as:List D) (h:fW ⟨PP.run G gl n,gl,hfs G⟩ es δ = some (as,δ)) (hc:jk G gl n f as λd=>∃ δ2,eP δ tg d = some δ2/\wSs ⟨PP.run G gl n,gl,hfs G⟩ r δ2 Q):wSs ⟨PP.run G gl n,gl,hfs G⟩ (.cons (.asg tg (.call f es)) r) δ Q:=vA as δ h hc
def gX (as:List D) (h:fW ⟨PP.run G gl n,gl,hfs G⟩ es δ = some (as,δ)) (hc:jk G gl n f as Q):wSs ⟨PP.run G gl n,gl,hfs G⟩ (.cons (.ret (.call f es)) r) δ (retS Q):=CV as δ h hc
def fZ (d:D) (h:evE cx e δ = some (d,δ)) (q:∃ δ2,eP δ tg d = some δ2/\wSs cx r δ2 Q):wSs cx (.cons (.asg tg e) r) δ Q:=dC.mpr (xZ.mpr ⟨d,δ,h,q⟩)
def mF (ha:evE cx a δ = some (x,δ)) (hb:evE cx b δ = some (y,δ)) (h:ixD x y = some z):evE cx (.ix a b) δ = some (z,δ):=by
 simp only [evE,ha,hb,h,af,aV];rfl
def cw (ha:evE cx a δ = some (x,δ)) (hb:evE cx b δ = some (y,δ)) (h:jl op x y = some p):evT cx (.cmp op a b) δ = some (p,δ):=by
 simp only [evT,ha,hb,h,af,aV];rfl
def ja (d:D) (h:evE cx e δ = some (d,δ)) (ho:δ[i]? = some (.own ds)) (hl:ds.length < sizeLine) (q:wSs cx r (δ.set i (.own (ds++[d]))) Q):wSs cx (.cons (.append i e) r) δ Q:=by
 have hi:i < δ.length:=(aC.mp ho).1;refine dC.mpr (si.mpr ?_);unfold rJ;rw [ho];refine ⟨d,δ,h,?_⟩;dsimp only;rw [ho];exact ⟨hl,hi,q⟩
def uH (ha:evT cx a δ = some (p,δ)) (hb:evT cx b δ = some (q,δ)):evT cx (.or a b) δ = some (p || q,δ):=by
 simp only [evT,ha,af,aV];cases p
 . exact hb
 . rfl
def nz (ha:evT cx a δ = some (p,δ)) (hb:evT cx b δ = some (q,δ)):evT cx (.and a b) δ = some (p && q,δ):=by
 simp only [evT,ha,af,aV];cases p
 . rfl
 . exact hb
def FT {α:Type} (g h:α->D) (as:α->List D) (xs:List α) (hl:xs.length<=sizeLine) (hi:evI ⟨PP.run G gl n,gl,hfs G⟩ src δ = some (xs.map g,δ)) (hd:i = δ.length) (he:∀ x∈xs,fW ⟨PP.run G gl n,gl,hfs G⟩ es (δ++[.val (g x)]) = some (as x,δ++[.val (g x)])) (hc:∀ x∈xs,PP.run G gl n f (as x) = some (h x)):evE ⟨PP.run G gl n,gl,hfs G⟩ (.comp 1 (.nm i) src .no (.call f es)) δ = some (.lst (xs.map h),δ):=by
 subst hd
 have:wE ⟨PP.run G gl n,gl,hfs G⟩ (.comp 1 (.nm δ.length) src .no (.call f es)) δ λd δ'=>d = .lst (xs.map h)/\δ' = δ:=by
  refine tQ.mpr ⟨_,_,hi,hJ g (λ_=>true) h xs (λx hx=>?_) ?_⟩
  . refine ⟨δ++[.val (g x)],?_,true,_,rfl,rfl,?_⟩
    . show (if δ.length < (δ++aZ 1 Sl.no).length then _ else _) = _;rw [if_pos ↥0];simp [zv]
    . rw [if_pos rfl];exact pH.mpr ⟨_,_,he x hx,_,hc x hx,rfl,↥0⟩
  . rw [mR.mpr λ_ _=>rfl,ay];exact ⟨hl,rfl,rfl⟩
 obtain ⟨_,_,e,rfl,rfl⟩:=this;exact e
def CW (ds:List D) (h:evE cx e δ = some (.lst ds,δ)) (hi:i < δ.length) (q:wSs cx r (δ.set i (.val (.lst ds))) Q):wSs cx (.cons (.cmp false i e) r) δ Q:=dC.mpr (Ho.mpr ⟨_,_,h,ds,rfl,hi,q⟩)
def cG (as:List D) (he:fW ⟨PP.run G gl n,gl,hfs G⟩ es δ = some (as,δ)) (hc:PP.run G gl n f as = some d):evE ⟨PP.run G gl n,gl,hfs G⟩ (.call f es) δ = some (d,δ):=by
 simp only [evE,he,hc,af,aV];rfl
def My (h:evE cx e δ = some (d,δ)) (hi:items d = some ds):evI cx (.sq e) δ = some (ds,δ):=by
 simp only [evI,h,hi,af,aV];rfl
def bB (h:evE cx e δ = some (d,δ)) (hs:fW cx es δ = some (ds,δ)):fW cx (.cons e es) δ = some (d::ds,δ):=by
 simp only [fW,h,hs,af,aV];rfl
def nA (h:fW cx es δ = some (ds,δ)) (hl:ds.length<=sizeLine):evE cx (.tup es) δ = some (.tup ds,δ):=by
 simp only [evE,h,af,aV];rw [if_pos hl];rfl
def uK (ha:evE cx a δ = some (x,δ)) (hb:evE cx b δ = some (y,δ)) (h:opD op x y = some z):evE cx (.bin op a b) δ = some (z,δ):=by
 simp only [evE,ha,hb,h,af,aV];rfl
def lz (d:D) (h:evE cx e δ = some (d,δ)) (q:Q d):wSs cx (.cons (.ret e) r) δ (retS Q):=dC.mpr (xY.mpr ⟨d,δ,h,q⟩)
def AF (hc:evT cx c δ = some (p,δ)) (ha:evE cx a δ = some (x,δ)) (hb:evE cx b δ = some (y,δ)):evE cx (.ite c a b) δ = some (if p = true then x else y,δ):=by
 simp only [evE,hc,af,aV];cases p
 . exact hb
 . exact ha
def kg (as:List D) (he:fW ⟨PP.run G gl n,gl,hfs G⟩ es δ = some (as,δ)) (hc:PP.run G gl n f as = some (.bl p)):evT ⟨PP.run G gl n,gl,hfs G⟩ (.call f es) δ = some (p,δ):=by
 simp only [evT,he,hc,af,aV];rfl
def uI (h:evT cx e δ = some (p,δ)):evT cx (.not e) δ = some (!p,δ):=by
 simp only [evT,h,af,aV];rfl
def Mx (h:fW cx es δ = some (ds,δ)) (hi:zpD ds = some zs):evI cx (.zp es) δ = some (zs,δ):=by
 simp only [evI,h,hi,af,aV];rfl
def Jk {j:Int} (h:evE cx e δ = some (.int j,δ)) (h0:-(2 ^ 62)<=j) (h1:j < 2 ^ 62):evI cx (.rng e) δ = some (pB 0 j.toNat,δ):=by
 simp only [evI,h,af,aV];rw [if_pos ⟨h0,h1⟩]
def pP (h:fW cx es δ = some (ds,δ)) (hb:kF b ds = some z):evE cx (.blt b es) δ = some (z,δ):=by
 simp only [evE,h,hb,af,aV];rfl
def lA (ds:List D) (h:evI cx src δ = some (ds,δ)) (q:vD cx tg body ds δ (vJ cx r Q)):wSs cx (.cons (.for_ tg src body) r) δ Q:=dC.mpr (tM.mpr ⟨ds,δ,h,q⟩)
def uJ (ha:evE cx a δ = some (x,δ)) (hb:evE cx b δ = some (y,δ)) (h:jl op x y = some p):evE cx (.cmp op a b) δ = some (.bl p,δ):=by
 simp only [evE,ha,hb,h,af,aV];rfl
end PP
end
section
namespace PP
open PySem
mutual
theorem pQ:∀ (a b:D),hb a = true->hb b = true->(eqD a b = true↔a = b)
 | .str x,.str y,_,_=>by unfold eqD;simp
 | .int x,.int y,_,_=>by unfold eqD;simp
 | .tup xs,.tup ys,h1,h2=>by
   unfold hb at h1 h2;unfold eqD;rw [xj xs ys h1 h2]
   simp
 | .str _,.int _,_,_ | .str _,.tup _,_,_ | .int _,.str _,_,_ | .int _,.tup _,_,_ | .tup _,.str _,_,_ | .tup _,.int _,_,_=>by unfold eqD;simp
 | .non,_,h,_ | .bl _,_,h,_ | .lst _,_,h,_ | .fn _ _,_,h,_=>by unfold hb at h;cases h
 | _,.non,_,h | _,.bl _,_,h | _,.lst _,_,h | _,.fn _ _,_,h=>by unfold hb at h;cases h
theorem xj:∀ (a b:List D),hbL a = true->hbL b = true->(gx a b = true↔a = b)
 | [],[],_,_=>by unfold gx;simp
 | [],_::_,_,_=>by unfold gx;simp
 | _::_,[],_,_=>by unfold gx;simp
 | x::xs,y::ys,h1,h2=>by
   unfold hbL at h1 h2;rw [aa] at h1 h2;unfold gx;rw [aa,pQ x y h1.1 h2.1,xj xs ys h1.2 h2.2];simp
end
def gF {a b:D} {k:Bool} (h:ltD a b = some k):(∃ i j:Int,a = .int i/\b = .int j/\k = decide (i < j))\/(∃ s t:Str,a = .str s/\b = .str t/\k = ltS s t)\/∃ xs ys,a = .tup xs/\b = .tup ys/\eB xs ys = some k:=by
 unfold ltD at h;split at h
 . cases h;exact .inl ⟨_,_,rfl,rfl,rfl⟩
 . cases h;exact .inr (.inl ⟨_,_,rfl,rfl,rfl⟩)
 . exact .inr (.inr ⟨_,_,rfl,rfl,h⟩)
 . cases h
def eT {x y:D} {xs ys:List D} (hx:hb x = true) (hy:hb y = true):eB (x::xs) (y::ys) = some k↔(x = y/\eB xs ys = some k)\/(x≠y/\ltD x y = some k):=by
 rw [show eB (x::xs) (y::ys) = if eqD x y = true then eB xs ys else ltD x y from by rw [eB]];by_cases e:x = y
 . rw [if_pos ((pQ x y hx hy).mpr e)];exact ⟨λh=>.inl ⟨e,h⟩,λh=>h.elim (·.2) λz=>absurd e z.1⟩
 . rw [if_neg λz=>e ((pQ x y hx hy).mp z)];exact ⟨λh=>.inr ⟨e,h⟩,λh=>h.elim (λz=>absurd z.1 e) (·.2)⟩
def LtA (a:D):Prop:=∀ b k k',hb a = true->hb b = true->ltD a b = some k->ltD b a = some k'->(a = b/\k = false/\k' = false)\/(a≠b/\k' = !k)
def LtT (a:D):Prop:=∀ b c k,hb a = true->hb b = true->hb c = true->ltD b a = some false->ltD c b = some false->ltD c a = some k->k = false
def kW {x:D} {xs:List D} (h:hbL (x::xs) = true):hb x = true/\hbL xs = true:=by
 unfold hbL at h
 rwa [aa] at h
def wN:∀ (xs ys:List D) (k k':Bool),(∀ x∈xs,LtA x)->hbL xs = true->hbL ys = true->eB xs ys = some k->eB ys xs = some k'->(xs = ys/\k = false/\k' = false)\/(xs≠ys/\k' = !k)
 | [],[],k,k',_,_,_,h,h'=>by
   unfold eB at h h';cases h;cases h'
   exact .inl ⟨rfl,rfl,rfl⟩
 | [],_::_,k,k',_,_,_,h,h'=>by
   unfold eB at h h';cases h;cases h'
   exact .inr ⟨↥0,rfl⟩
 | _::_,[],k,k',_,_,_,h,h'=>by
   unfold eB at h h';cases h;cases h'
   exact .inr ⟨↥0,rfl⟩
 | x::xs,y::ys,k,k',hA,h1,h2,h,h'=>by
   obtain ⟨a1,a2⟩:=kW h1;obtain ⟨b1,b2⟩:=kW h2;rcases (eT a1 b1).mp h with ⟨rfl,g⟩ | ⟨e,g⟩
   . rcases (eT b1 a1).mp h' with ⟨_,g'⟩ | ⟨e',_⟩
     . rcases wN xs ys k k' (λz hz=>hA z (ak _ hz)) a2 b2 g g' with ⟨rfl,q⟩ | ⟨n,q⟩
       . exact .inl ⟨rfl,q⟩
       . exact .inr ⟨λz=>n (List.cons.inj z).2,q⟩
     . exact absurd rfl e'
   . rcases (eT b1 a1).mp h' with ⟨e',_⟩ | ⟨_,g'⟩
     . exact absurd e'.symm e
     . rcases hA x au y k k' a1 b1 g g' with ⟨z,_⟩ | ⟨_,q⟩
       . exact absurd z e
       . exact .inr ⟨λz=>e (List.cons.inj z).1,q⟩
def qW {x:D}:∀ {xs:List D},x∈xs->dep x<=cJ xs
 | y::ys,h=>by
   unfold cJ;rcases aQ.mp h with rfl | h
   . exact se _ _
   . exact bj (qW h) (rD _ _)
def pO:∀ (n:Nat) (a:D),dep a<=n->LtA a
 | n,a,hn,b,k,k',ha,hb',h,h'=>by
   rcases gF h with ⟨i,j,rfl,rfl,rfl⟩ | ⟨s,t,rfl,rfl,rfl⟩ | ⟨xs,ys,rfl,rfl,h⟩
   . rcases gF h' with ⟨i',j',e1,e2,rfl⟩ | ⟨_,_,e,_⟩ | ⟨_,_,e,_⟩
     . cases e1;cases e2;by_cases e:i = j
       . subst e;exact .inl ⟨rfl,↥0,↥0⟩
       . refine .inr ⟨λz=>e (D.int.inj z),?_⟩;by_cases l:i < j
         . rw [decide_eq_true l,decide_eq_false ∅];rfl
         . rw [decide_eq_false l,decide_eq_true ∅];rfl
     . cases e
     . cases e
   . rcases gF h' with ⟨_,_,e,_⟩ | ⟨s',t',e1,e2,rfl⟩ | ⟨_,_,e,_⟩
     . cases e
     . cases e1;cases e2;by_cases e:s = t
       . subst e
         have:ltS s s = false:=by
          cases z:ltS s s with
          | false=>rfl
          | true=>have:=yM _ _ z;rw [z] at this;cases this
         exact .inl ⟨rfl,this,this⟩
       . refine .inr ⟨λz=>e (D.str.inj z),?_⟩
         cases z:ltS s t with
         | true=>exact yM _ _ z
         | false =>
           cases z':ltS t s with
           | true=>rfl
           | false=>exact absurd (Fs _ _ z z') e
     . cases e
   . rcases gF h' with ⟨_,_,e,_⟩ | ⟨_,_,e,_⟩ | ⟨xs',ys',e1,e2,h'⟩
     . cases e
     . cases e
     . cases e1;cases e2;unfold hb at ha hb';have hd:cJ xs+1<=n:=by unfold dep at hn;exact hn
       cases n with
       | zero=>lia
       | succ n =>
         rcases wN xs ys k k' (λx hx=>pO n x (by have:=qW hx;lia)) ha hb' h h' with ⟨rfl,q⟩ | ⟨e,q⟩
         . exact .inl ⟨rfl,q⟩
         . exact .inr ⟨λz=>e (D.tup.inj z),q⟩
def wM:∀ (xs ys zs:List D) (k:Bool),(∀ x∈xs,LtT x)->hbL xs = true->hbL ys = true->hbL zs = true->eB ys xs = some false->eB zs ys = some false->eB zs xs = some k->k = false
 | [],ys,zs,k,_,_,_,_,_,_,h3=>by
   cases zs<;>unfold eB at h3<;>cases h3<;>rfl
 | x::xs,[],zs,k,_,_,_,_,h1,_,_=>by
   unfold eB at h1;cases h1
 | x::xs,y::ys,[],k,_,_,_,_,_,h2,_=>by
   unfold eB at h2;cases h2
 | x::xs,y::ys,z::zs,k,hT,b1,b2,b3,h1,h2,h3=>by
   obtain ⟨x1,x2⟩:=kW b1;obtain ⟨y1,y2⟩:=kW b2;obtain ⟨z1,z2⟩:=kW b3;rcases (eT y1 x1).mp h1 with ⟨e1,g1⟩ | ⟨e1,g1⟩
   . subst e1;rcases (eT z1 y1).mp h2 with ⟨e2,g2⟩ | ⟨e2,g2⟩
     . subst e2;rcases (eT z1 z1).mp h3 with ⟨_,g3⟩ | ⟨e3,_⟩
       . exact wM xs ys zs k (λw hw=>hT w (ak _ hw)) x2 y2 z2 g1 g2 g3
       . exact absurd rfl e3
     . rcases (eT z1 y1).mp h3 with ⟨e3,_⟩ | ⟨_,g3⟩
       . exact absurd e3 e2
       . rw [g2] at g3;cases g3;rfl
   . rcases (eT z1 y1).mp h2 with ⟨e2,g2⟩ | ⟨e2,g2⟩
     . subst e2;rcases (eT z1 x1).mp h3 with ⟨e3,_⟩ | ⟨_,g3⟩
       . exact absurd e3 e1
       . rw [g1] at g3;cases g3;rfl
     . rcases (eT z1 x1).mp h3 with ⟨e3,_⟩ | ⟨_,g3⟩
       . subst e3;rcases pO _ y (ao _) z false false y1 z1 g1 g2 with ⟨e,_⟩ | ⟨_,e⟩
         . exact absurd e e1
         . cases e
       . exact hT x au y z k x1 y1 z1 g1 g2 g3
def Al:∀ (n:Nat) (a:D),dep a<=n->LtT a
 | n,a,hn,b,c,k,ha,hb',hc,h1,h2,h3=>by
   rcases gF h3 with ⟨i,j,rfl,rfl,rfl⟩ | ⟨s,t,rfl,rfl,rfl⟩ | ⟨zs,xs,rfl,rfl,g3⟩
   . rcases gF h1 with ⟨i',j',rfl,e2,e3⟩ | ⟨_,_,_,e,_⟩ | ⟨_,_,_,e,_⟩
     . cases e2;rcases gF h2 with ⟨_,_,e4,e5,e6⟩ | ⟨_,_,e,_⟩ | ⟨_,_,e,_⟩
       . cases e4;cases e5;have:=of_decide_eq_false e3.symm;have:=of_decide_eq_false e6.symm;exact decide_eq_false ∅
       . cases e
       . cases e
     . cases e
     . cases e
   . rcases gF h1 with ⟨_,_,_,e,_⟩ | ⟨i',j',rfl,e2,e3⟩ | ⟨_,_,_,e,_⟩
     . cases e
     . cases e2;rcases gF h2 with ⟨_,_,e,_⟩ | ⟨_,_,e4,e5,e6⟩ | ⟨_,_,e,_⟩
       . cases e
       . cases e4;cases e5;exact Fp _ _ _ e3.symm e6.symm
       . cases e
     . cases e
   . rcases gF h1 with ⟨_,_,_,e,_⟩ | ⟨_,_,_,e,_⟩ | ⟨ys,xs',rfl,e2,g1⟩
     . cases e
     . cases e
     . cases e2;rcases gF h2 with ⟨_,_,e,_⟩ | ⟨_,_,e,_⟩ | ⟨_,_,e4,e5,g2⟩
       . cases e
       . cases e
       . cases e4;cases e5;unfold hb at ha hb' hc;have hd:cJ xs+1<=n:=by unfold dep at hn;exact hn
         cases n with
         | zero=>lia
         | succ n=>exact wM xs ys zs k (λx hx=>Al n x (by have:=qW hx;lia)) ha hb' hc g1 g2 g3
end PP
end
section
namespace P1
open PySem L2 PP
def top (i:Nat):dD:=PySem.Challenge.pw_cutless_k32_one_branch_parted.main.body.getD i (.Pass ⟨0,0,0,0⟩)
def xm:Fd:=⟨"inside",["A"],[],
 (.cons (.ret (.ite (.cmp .isin (.ix (.var 0) (.int 0)) (.glob 0)) (.tup .nil) (.sl (.var 0) (.yes (.int 1)) .no)))
 .nil),false⟩
def qY:Fd:=⟨"is_place",["term"],[],
 (.cons (.ret (.isdig 0))
 .nil),false⟩
def eE:Fd:=⟨"words_within",["A"],["found","B"],
 (.cons (.ifs (.cmp .eq (.ix (.var 0) (.int 0)) (.str "word"))
 (.cons (.ret (.lst (.cons (.var 0) .nil)))
 .nil)
 .nil)
 (.cons (.new 1 (.lst .nil))
 (.cons (.for_ (.nm 2) (.sq (.call 0 (.cons (.var 0) .nil)))
 (.cons (.extend 1 (.call 2 (.cons (.var 2) .nil)))
 .nil))
 (.cons (.ret (.var 1))
 .nil)))),false⟩
def kl:Fd:=⟨"names_of",["A"],[],
 (.cons (.ret (.sset 2 (.nm 1) (.sq (.call 2 (.cons (.var 0) .nil))) (.nm 2) (.sq (.ix (.var 1) (.int 2))) (.yes (.not (.call 1 (.cons (.var 2) .nil)))) (.var 2)))
 .nil),false⟩
def iQ:Fd:=⟨"sorted_row",["signed"],["kept","each"],
 (.cons (.new 1 (.lst .nil))
 (.cons (.for_ (.nm 2) (.sq (.blt .sortb (.cons (.var 0) .nil)))
 (.cons (.ifs (.or (.not (.var 1)) (.cmp .ne (.ix (.pk 1) (.neg (.int 1))) (.var 2)))
 (.cons (.append 1 (.var 2))
 .nil)
 .nil)
 .nil))
 (.cons (.ret (.blt .toTup (.cons (.pk 1) .nil)))
 .nil))),false⟩
def uP:Fd:=⟨"more",["row","added"],[],
 (.cons (.ret (.call 4 (.cons (.bin .add (.blt .toLst (.cons (.var 0) .nil)) (.blt .toLst (.cons (.var 1) .nil))) .nil)))
 .nil),false⟩
def nE:Fd:=⟨"closes",["row"],[],
 (.cons (.ifs (.or (.cmp .isin (.tup (.cons (.str "right") (.cons (.tup (.cons (.str "yes") .nil)) .nil))) (.var 0)) (.cmp .isin (.tup (.cons (.str "left") (.cons (.tup (.cons (.str "no") .nil)) .nil))) (.var 0)))
 (.cons .bad
 .nil)
 .nil)
 (.cons (.ret (.blt .any (.cons (.comp 2 (.tp [1,2]) (.sq (.var 0)) .no (.and (.cmp .eq (.var 1) (.str "left")) (.cmp .isin (.tup (.cons (.str "right") (.cons (.var 2) .nil))) (.var 0)))) .nil)))
 .nil)),false⟩
def nD:Fd:=⟨"other_side",["side"],[],
 (.cons (.ret (.ite (.cmp .eq (.var 0) (.str "left")) (.str "right") (.str "left")))
 .nil),false⟩
def kz:Fd:=⟨"signed_within",["side","A"],["signed"],
 (.cons (.cmp true 2 (.comp 1 (.nm 3) (.sq (.call 0 (.cons (.var 1) .nil))) .no (.tup (.cons (.var 0) (.cons (.var 3) .nil)))))
 (.cons (.ifs (.cmp .isin (.ix (.var 1) (.int 0)) (.tup (.cons (.str "not") (.cons (.str "if") .nil))))
 (.cons (.setix 2 (.int 0) (.tup (.cons (.call 7 (.cons (.var 0) .nil)) (.cons (.ix (.var 1) (.int 1)) .nil))))
 .nil)
 .nil)
 (.cons (.ret (.var 2))
 .nil))),false⟩
def AI:Fd:=⟨"parts",["side","A","name"],["kind","signed"],
 (.cons (.asg (.nm 3) (.ix (.var 1) (.int 0)))
 (.cons (.ifs (.cmp .isin (.var 3) (.glob 0))
 (.cons .bad
 .nil)
 .nil)
 (.cons (.ifs (.cmp .isin (.var 3) (.glob 1))
 (.cons .bad
 .nil)
 .nil)
 (.cons (.asg (.nm 4) (.call 8 (.cons (.var 0) (.cons (.var 1) .nil))))
 (.cons (.ifs (.cmp .isin (.tup (.cons (.var 0) (.cons (.var 3) .nil))) (.glob 2))
 (.cons .bad
 .nil)
 .nil)
 (.cons (.ret (.lst (.cons (.var 4) .nil)))
 .nil)))))),false⟩
def xl:Fd:=⟨"is_own",["side","A"],[],
 (.cons (.ret (.cmp .isin (.tup (.cons (.var 0) (.cons (.ix (.var 1) (.int 0)) .nil))) (.glob 3)))
 .nil),false⟩
def lJ:Fd:=⟨"kids_of",["tree"],[],
 (.cons (.ret (.ite (.cmp .eq (.var 0) (.glob 4)) (.tup .nil) (.ix (.var 0) (.neg (.int 1)))))
 .nil),false⟩
def jw:Fd:=⟨"with_kids",["tree","kids"],[],
 (.cons (.ret (.ite (.cmp .eq (.var 0) (.glob 4)) (.var 0) (.bin .add (.sl (.var 0) .no (.yes (.neg (.int 1)))) (.tup (.cons (.blt .toTup (.cons (.var 1) .nil)) .nil)))))
 .nil),false⟩
def iz:Fd:=⟨"added_above",["tree"],[],
 (.cons (.ifs (.cmp .eq (.ix (.var 0) (.int 0)) (.str "rule"))
 (.cons (.ret (.call 9 (.cons (.ix (.var 0) (.int 1)) (.cons (.ix (.var 0) (.int 2)) (.cons (.ix (.var 0) (.int 3)) .nil)))))
 .nil)
 .nil)
 (.cons .bad
 (.cons .bad
 .nil))),false⟩
def iR:Fd:=⟨"rows_above",["row","tree"],[],
 (.cons (.ret (.comp 1 (.nm 2) (.sq (.call 13 (.cons (.var 1) .nil))) .no (.call 5 (.cons (.var 0) (.cons (.var 2) .nil)))))
 .nil),false⟩
def jx:Fd:=⟨"stands_at",["row","tree"],["side","A","name"],
 (.cons (.asg (.tp [2,3,4]) (.sl (.var 1) (.yes (.int 1)) (.yes (.int 4))))
 (.cons (.ifs (.cmp .notin (.tup (.cons (.var 2) (.cons (.var 3) .nil))) (.var 0))
 (.cons .bad
 .nil)
 .nil)
 (.cons (.ifs (.cmp .ne (.cmp .isin (.ix (.var 3) (.int 0)) (.glob 1)) (.cmp .ne (.var 4) (.str "")))
 (.cons .bad
 .nil)
 .nil)
 (.cons (.ret (.not (.and (.call 10 (.cons (.var 2) (.cons (.var 3) .nil))) .bad)))
 .nil)))),false⟩
def oF:Fd:=⟨"fits",["row","tree"],["rows","kids","above","kid"],
 (.cons (.ifs (.cmp .eq (.var 1) (.glob 4))
 (.cons (.ret (.call 6 (.cons (.var 0) .nil)))
 .nil)
 .nil)
 (.cons (.ifs (.and (.cmp .eq (.ix (.var 1) (.int 0)) (.str "rule")) (.not (.call 15 (.cons (.var 0) (.cons (.var 1) .nil)))))
 (.cons .bad
 .nil)
 .nil)
 (.cons (.asg (.nm 2) (.call 14 (.cons (.var 0) (.cons (.var 1) .nil))))
 (.cons (.asg (.nm 3) (.call 11 (.cons (.var 1) .nil)))
 (.cons (.ifs (.or (.not (.var 2)) (.cmp .ne (.blt .len (.cons (.var 2) .nil)) (.blt .len (.cons (.var 3) .nil))))
 (.cons .bad
 .nil)
 .nil)
 (.cons (.for_ (.tp [4,5]) (.zp (.cons (.var 2) (.cons (.var 3) .nil)))
 (.cons (.ifs (.not (.call 16 (.cons (.var 4) (.cons (.var 5) .nil))))
 (.cons .bad
 .nil)
 .nil)
 .nil))
 (.cons (.ret (.bl true))
 .nil))))))),false⟩
def gI:Fd:=⟨"trees_within",["tree"],["found","kid"],
 (.cons (.new 1 (.lst (.cons (.var 0) .nil)))
 (.cons (.for_ (.nm 2) (.sq (.call 11 (.cons (.var 0) .nil)))
 (.cons (.extend 1 (.call 17 (.cons (.var 2) .nil)))
 .nil))
 (.cons (.ret (.var 1))
 .nil))),false⟩
def iy:Fd:=⟨"cuts_within",["tree"],[],
 (.cons (.ret (.comp 1 (.nm 1) (.sq (.call 17 (.cons (.var 0) .nil))) (.yes (.cmp .eq (.ix (.var 1) (.int 0)) (.str "cut"))) (.var 1)))
 .nil),false⟩
def uQ:Fd:=⟨"cuts",["tree"],[],
 (.cons (.ret (.blt .len (.cons (.call 18 (.cons (.var 0) .nil)) .nil)))
 .nil),false⟩
def qX:Fd:=⟨"rules_of",["I","name","first","second"],[],
 (.cons (.ret (.tup (.cons (.var 0) (.cons (.tup (.cons (.str "rule") (.cons (.str "right") (.cons (.var 0) (.cons (.var 1) (.cons (.blt .toTup (.cons (.var 2) .nil)) .nil)))))) (.cons (.tup (.cons (.str "rule") (.cons (.str "left") (.cons (.var 0) (.cons (.var 1) (.cons (.blt .toTup (.cons (.var 3) .nil)) .nil)))))) .nil)))))
 .nil),false⟩
def iw:Fd:=⟨"shared_with",["ones","others"],[],
 (.cons (.ret (.comp 2 (.tp [2,3]) (.sq (.var 0)) (.yes (.and (.cmp .eq (.var 2) (.str "left")) (.cmp .isin (.tup (.cons (.str "right") (.cons (.var 3) .nil))) (.var 1)))) (.var 3)))
 .nil),false⟩
def gJ:Fd:=⟨"parted_close",["ones","others"],["forward","backward"],
 (.cons (.ifs (.call 6 (.cons (.var 0) .nil))
 (.cons (.ret (.tup (.cons (.tup (.cons (.str "no") .nil)) (.cons (.glob 4) (.cons (.glob 4) .nil)))))
 .nil)
 .nil)
 (.cons (.ifs (.call 6 (.cons (.var 1) .nil))
 (.cons (.ret (.tup (.cons (.tup (.cons (.str "yes") .nil)) (.cons (.glob 4) (.cons (.glob 4) .nil)))))
 .nil)
 .nil)
 (.cons (.asg (.nm 2) (.call 21 (.cons (.var 0) (.cons (.var 1) .nil))))
 (.cons (.ifs (.var 2)
 (.cons (.ret (.tup (.cons (.ix (.var 2) (.int 0)) (.cons (.glob 4) (.cons (.glob 4) .nil)))))
 .nil)
 .nil)
 (.cons (.asg (.nm 3) (.call 21 (.cons (.var 1) (.cons (.var 0) .nil))))
 (.cons (.ret (.call 20 (.cons (.tup (.cons (.str "not") (.cons (.ix (.var 3) (.int 0)) .nil))) (.cons (.str "") (.cons (.lst (.cons (.glob 4) .nil)) (.cons (.lst (.cons (.glob 4) .nil)) .nil))))))
 .nil)))))),false⟩
def gK:Fd:=⟨"of_one_kid",["part","rule","is_first","told"],["I","first","second","name","binder"],
 (.cons (.asg (.tp [4,5,6]) (.var 3))
 (.cons (.ifs (.var 2)
 (.cons (.asg (.nm 5) (.call 12 (.cons (.var 1) (.cons (.lst (.cons (.var 5) .nil)) .nil))))
 .nil)
 (.cons (.asg (.nm 6) (.call 12 (.cons (.var 1) (.cons (.lst (.cons (.var 6) .nil)) .nil))))
 .nil))
 (.cons (.asg (.nm 7) (.ix (.var 1) (.int 3)))
 (.cons (.ifs (.and (.cmp .isin (.var 7) (.call 3 (.cons (.var 4) .nil))) .bad)
 (.cons .bad
 (.cons .bad
 .nil))
 .nil)
 (.cons (.ret (.tup (.cons (.var 4) (.cons (.var 5) (.cons (.var 6) .nil)))))
 .nil))))),false⟩
def eU:Fd:=⟨"parted_tree",["ones","others","tree"],["side","A","name","kids","is_first","told","branch","kid"],
 (.cons (.ifs (.cmp .eq (.var 2) (.glob 4))
 (.cons (.ret (.call 22 (.cons (.var 0) (.cons (.var 1) .nil))))
 .nil)
 .nil)
 (.cons (.asg (.tp [3,4,5,6]) (.sl (.var 2) (.yes (.int 1)) .no))
 (.cons (.asg (.nm 7) (.cmp .isin (.tup (.cons (.var 3) (.cons (.var 4) .nil))) (.var 0)))
 (.cons (.new 8 (.lst .nil))
 (.cons (.for_ (.tp [9,10]) (.zp (.cons (.call 9 (.cons (.var 3) (.cons (.var 4) (.cons (.var 5) .nil)))) (.cons (.var 6) .nil)))
 (.cons (.ifs (.var 7)
 (.cons (.append 8 (.call 24 (.cons (.call 5 (.cons (.var 0) (.cons (.var 9) .nil))) (.cons (.var 1) (.cons (.var 10) .nil)))))
 .nil)
 (.cons (.append 8 (.call 24 (.cons (.var 0) (.cons (.call 5 (.cons (.var 1) (.cons (.var 9) .nil))) (.cons (.var 10) .nil)))))
 .nil))
 .nil))
 (.cons (.ifs (.cmp .eq (.blt .len (.cons (.pk 8) .nil)) (.int 2))
 (.cons .bad
 .nil)
 .nil)
 (.cons (.ret (.call 23 (.cons (.ite (.var 7) (.var 0) (.var 1)) (.cons (.var 2) (.cons (.var 7) (.cons (.ix (.pk 8) (.int 0)) .nil))))))
 .nil))))))),false⟩
def nC:Fd:=⟨"parted",["ones","others","tree"],[],
 (.cons (.ifs (.not (.call 16 (.cons (.call 5 (.cons (.var 0) (.cons (.var 1) .nil))) (.cons (.var 2) .nil))))
 (.cons .bad
 .nil)
 .nil)
 (.cons (.ifs (.cmp .gt (.call 19 (.cons (.var 2) .nil)) (.int 0))
 (.cons .bad
 .nil)
 .nil)
 (.cons (.ret (.call 24 (.cons (.var 0) (.cons (.var 1) (.cons (.var 2) .nil)))))
 .nil))),false⟩
def jz:Fd:=⟨"_law_once",["_law_some"],["_law_row","_law_one"],
 (.cons (.new 1 (.lst .nil))
 (.cons (.for_ (.nm 2) (.sq (.blt .sortb (.cons (.var 0) .nil)))
 (.cons (.ifs (.cmp .notin (.var 2) (.sl (.pk 1) (.yes (.neg (.int 1))) .no))
 (.cons (.append 1 (.var 2))
 .nil)
 .nil)
 .nil))
 (.cons (.ret (.blt .toTup (.cons (.pk 1) .nil)))
 .nil))),false⟩
def jB:Fd:=⟨"_law_cell",["_law_script","_law_k"],[],
 (.cons (.ifs (.cmp .lt (.var 1) (.blt .len (.cons (.var 0) .nil)))
 (.cons (.ret (.ix (.var 0) (.var 1)))
 .nil)
 .nil)
 (.cons (.ret (.bin .mod (.bin .mul (.bin .mul (.bin .add (.var 1) (.int 3)) (.bin .add (.var 1) (.int 3))) (.int 69621)) (.int 1000003)))
 .nil)),false⟩
def km:Fd:=⟨"_law_mix",["_law_cell_here"],["_law_far"],
 (.cons (.asg (.nm 1) (.bin .mod (.bin .mul (.bin .add (.bin .mod (.var 0) (.bin .pow (.int 10) (.int 30))) (.int 7)) (.int 618970019642690137449562111)) (.bin .add (.bin .pow (.int 10) (.int 30)) (.int 57))))
 (.cons (.ret (.bin .mod (.bin .mul (.var 1) (.var 1)) (.bin .add (.bin .pow (.int 10) (.int 31)) (.int 33))))
 .nil)),false⟩
def lK:Fd:=⟨"_law_at",["_law_n","_law_block","_law_many"],["_law_far"],
 (.cons (.asg (.nm 3) (.lst (.cons (.int 1) (.cons (.bin .pow (.int 10) (.int 3)) (.cons (.bin .pow (.int 10) (.int 6)) (.cons (.bin .pow (.int 10) (.int 9)) (.cons (.bin .pow (.int 10) (.int 12)) (.cons (.bin .pow (.int 10) (.int 15)) (.cons (.bin .pow (.int 10) (.int 18)) (.cons (.bin .pow (.int 10) (.int 21)) (.cons (.bin .pow (.int 10) (.int 24)) .nil)))))))))))
 (.cons (.ret (.bin .mod (.bin .mod (.bin .fdiv (.var 0) (.ix (.var 3) (.var 1))) (.int 1000)) (.var 2)))
 .nil)),false⟩
def iT:Fd:=⟨"_law_texts",["_law_n","_law_letters","_law_first","_law_many"],["_law_size_here","_law_at_here","_law_answer","_law_k","_law_text","_law_j","_law_width"],
 (.cons (.asg (.nm 4) (.bin .add (.int 1) (.call 29 (.cons (.var 0) (.cons (.int 0) (.cons (.int 8) .nil))))))
 (.cons (.asg (.nm 5) (.call 29 (.cons (.var 0) (.cons (.int 1) (.cons (.var 4) .nil)))))
 (.cons (.new 6 (.lst .nil))
 (.cons (.for_ (.nm 7) (.rng (.var 3))
 (.cons (.asg (.nm 8) (.str ""))
 (.cons (.for_ (.nm 9) (.rng (.var 4))
 (.cons (.asg (.nm 10) (.blt .len (.cons (.var 1) .nil)))
 (.cons (.ifs (.cmp .eq (.var 9) (.int 0))
 (.cons (.asg (.nm 10) (.var 2))
 .nil)
 .nil)
 (.cons (.asg (.nm 8) (.bin .add (.var 8) (.ix (.var 1) (.bin .mod (.bin .add (.call 29 (.cons (.var 0) (.cons (.bin .add (.int 2) (.bin .mod (.var 9) (.int 6))) (.cons (.var 10) .nil)))) (.bin .mul (.var 7) (.blt .toInt (.cons (.cmp .eq (.var 9) (.var 5)) .nil)))) (.var 10)))))
 .nil))))
 (.cons (.append 6 (.var 8))
 .nil))))
 (.cons (.ret (.var 6))
 .nil))))),false⟩
def iS:Fd:=⟨"_law_words",["_law_script"],[],
 (.cons (.ret (.call 30 (.cons (.call 28 (.cons (.call 27 (.cons (.var 0) (.cons (.int 0) .nil))) .nil)) (.cons (.str "bcdfghjklmpqrtvwxz") (.cons (.int 18) (.cons (.int 3) .nil))))))
 .nil),false⟩
def eO:Fd:=⟨"_law_names_drawn",["_law_script"],["_law_n"],
 (.cons (.asg (.nm 1) (.call 28 (.cons (.call 27 (.cons (.var 0) (.cons (.int 1) .nil))) .nil)))
 (.cons (.ifs (.cmp .eq (.bin .mod (.bin .fdiv (.var 1) (.bin .pow (.int 10) (.int 27))) (.int 4)) (.int 0))
 (.cons (.ret (.lst (.cons (.str "n0") (.cons (.str "n1") (.cons (.str "n2") (.cons (.str "n3") .nil))))))
 .nil)
 .nil)
 (.cons (.ret (.call 30 (.cons (.var 1) (.cons (.str "abcdefghijklmnopqrstuvwxyz123456789") (.cons (.int 26) (.cons (.int 4) .nil))))))
 .nil))),false⟩
def jy:Fd:=⟨"_law_word",["_law_n","_law_words_here","_law_names"],["_law_many","_law_at_here","_law_terms","_law_k","_law_pick"],
 (.cons (.asg (.tp [0,3]) (.blt .dvm (.cons (.var 0) (.cons (.int 4) .nil))))
 (.cons (.asg (.tp [0,4]) (.blt .dvm (.cons (.var 0) (.cons (.blt .len (.cons (.var 1) .nil)) .nil))))
 (.cons (.new 5 (.lst .nil))
 (.cons (.for_ (.nm 6) (.rng (.var 3))
 (.cons (.asg (.tp [0,7]) (.blt .dvm (.cons (.var 0) (.cons (.blt .len (.cons (.var 2) .nil)) .nil))))
 (.cons (.append 5 (.ix (.var 2) (.var 7)))
 .nil)))
 (.cons (.ret (.tup (.cons (.str "word") (.cons (.ix (.var 1) (.var 4)) (.cons (.blt .toTup (.cons (.pk 5) .nil)) .nil)))))
 .nil))))),false⟩
def jA:Fd:=⟨"_law_more",["_law_row","_law_added"],[],
 (.cons (.ret (.call 26 (.cons (.bin .add (.blt .toLst (.cons (.var 0) .nil)) (.blt .toLst (.cons (.var 1) .nil))) .nil)))
 .nil),false⟩
def iA:Fd:=⟨"_law_closes",["_law_row"],["_law_side","_law_claim"],
 (.cons (.for_ (.tp [1,2]) (.sq (.var 0))
 (.cons (.ifs (.and (.cmp .eq (.var 1) (.str "left")) (.or (.cmp .eq (.var 2) (.tup (.cons (.str "no") .nil))) (.cmp .isin (.tup (.cons (.str "right") (.cons (.var 2) .nil))) (.var 0))))
 (.cons (.ret (.bl true))
 .nil)
 .nil)
 (.cons (.ifs (.and (.cmp .eq (.var 1) (.str "right")) (.cmp .eq (.var 2) (.tup (.cons (.str "yes") .nil))))
 (.cons .bad
 .nil)
 .nil)
 .nil)))
 (.cons (.ret (.bl false))
 .nil)),false⟩
def kA:Fd:=⟨"_law_branches",["_law_side","_law_claim","_law_name"],["_law_far","_law_one"],
 (.cons (.asg (.nm 3) (.ix (.lst (.cons (.str "left") (.cons (.str "right") .nil))) (.blt .toInt (.cons (.cmp .eq (.var 0) (.str "left")) .nil))))
 (.cons (.ifs (.cmp .eq (.ix (.var 1) (.int 0)) (.str "not"))
 (.cons (.ret (.lst (.cons (.lst (.cons (.tup (.cons (.var 3) (.cons (.ix (.var 1) (.int 1)) .nil))) .nil)) .nil)))
 .nil)
 .nil)
 (.cons (.ifs (.cmp .isin (.ix (.var 1) (.int 0)) (.tup (.cons (.str "all") (.cons (.str "some") .nil))))
 (.cons .bad
 .nil)
 .nil)
 (.cons (.ifs (.cmp .notin (.ix (.var 1) (.int 0)) (.tup (.cons (.str "and") (.cons (.str "or") (.cons (.str "if") .nil)))))
 (.cons .bad
 .nil)
 .nil)
 (.cons (.asg (.nm 4) (.tup (.cons (.var 0) (.cons (.ix (.var 1) (.int 1)) .nil))))
 (.cons (.ifs (.cmp .eq (.ix (.var 1) (.int 0)) (.str "if"))
 (.cons (.asg (.nm 4) (.tup (.cons (.var 3) (.cons (.ix (.var 1) (.int 1)) .nil))))
 .nil)
 .nil)
 (.cons (.ifs (.cmp .eq (.cmp .eq (.ix (.var 1) (.int 0)) (.str "and")) (.cmp .eq (.var 0) (.str "left")))
 (.cons (.ret (.lst (.cons (.lst (.cons (.var 4) (.cons (.tup (.cons (.var 0) (.cons (.ix (.var 1) (.int 2)) .nil))) .nil))) .nil)))
 .nil)
 .nil)
 (.cons .bad
 .nil)))))))),false⟩
def iU:Fd:=⟨"_law_dealt",["_law_row","_law_n"],["_law_ones","_law_others","_law_one","_law_way"],
 (.cons (.new 2 (.lst .nil))
 (.cons (.new 3 (.lst .nil))
 (.cons (.for_ (.nm 4) (.sq (.var 0))
 (.cons (.asg (.tp [1,5]) (.blt .dvm (.cons (.var 1) (.cons (.int 5) .nil))))
 (.cons (.ifs (.or (.cmp .lt (.var 5) (.int 2)) (.cmp .eq (.var 5) (.int 4)))
 (.cons (.append 2 (.var 4))
 .nil)
 .nil)
 (.cons (.ifs (.cmp .gt (.var 5) (.int 1))
 (.cons (.append 3 (.var 4))
 .nil)
 .nil)
 .nil))))
 (.cons (.ret (.tup (.cons (.blt .toTup (.cons (.pk 2) .nil)) (.cons (.blt .toTup (.cons (.pk 3) .nil)) .nil))))
 .nil)))),false⟩
def fE:Fd:=⟨"_law_close_due",["_law_ones","_law_others"],["_law_side","_law_claim","_law_turned","_law_first"],
 (.cons (.ifs (.call 35 (.cons (.var 0) .nil))
 (.cons (.ret (.tup (.cons (.tup (.cons (.str "no") .nil)) (.cons (.tup (.cons (.str "close") .nil)) (.cons (.tup (.cons (.str "close") .nil)) .nil)))))
 .nil)
 .nil)
 (.cons (.ifs (.call 35 (.cons (.var 1) .nil))
 (.cons (.ret (.tup (.cons (.tup (.cons (.str "yes") .nil)) (.cons (.tup (.cons (.str "close") .nil)) (.cons (.tup (.cons (.str "close") .nil)) .nil)))))
 .nil)
 .nil)
 (.cons (.for_ (.tp [2,3]) (.sq (.var 0))
 (.cons (.ifs (.and (.cmp .eq (.var 2) (.str "left")) (.cmp .isin (.tup (.cons (.str "right") (.cons (.var 3) .nil))) (.var 1)))
 (.cons (.ret (.tup (.cons (.var 3) (.cons (.tup (.cons (.str "close") .nil)) (.cons (.tup (.cons (.str "close") .nil)) .nil)))))
 .nil)
 .nil)
 .nil))
 (.cons (.for_ (.tp [2,3]) (.sq (.var 1))
 (.cons (.ifs (.and (.cmp .eq (.var 2) (.str "left")) (.cmp .isin (.tup (.cons (.str "right") (.cons (.var 3) .nil))) (.var 0)))
 (.cons (.asg (.nm 4) (.tup (.cons (.str "not") (.cons (.var 3) .nil))))
 (.cons (.asg (.nm 5) (.tup (.cons (.str "rule") (.cons (.str "right") (.cons (.var 4) (.cons (.str "") (.cons (.tup (.cons (.tup (.cons (.str "close") .nil)) .nil)) .nil)))))))
 (.cons (.ret (.tup (.cons (.var 4) (.cons (.var 5) (.cons (.tup (.cons (.str "rule") (.cons (.str "left") (.cons (.var 4) (.cons (.str "") (.cons (.tup (.cons (.tup (.cons (.str "close") .nil)) .nil)) .nil)))))) .nil)))))
 .nil)))
 .nil)
 .nil))
 (.cons .bad
 .nil))))),false⟩
def gq:Fd:=⟨"_law_size",["_law_claim"],[],
 (.cons (.ifs (.cmp .eq (.ix (.var 0) (.int 0)) (.str "word"))
 (.cons (.ret (.int 1))
 .nil)
 .nil)
 (.cons (.ret (.bin .add (.int 1) (.blt .sum (.cons (.comp 1 (.nm 1) (.sq (.sl (.var 0) (.yes (.int 1)) .no)) .no (.call 39 (.cons (.var 1) .nil))) .nil))))
 .nil)),false⟩
def ie:Fd:=⟨"_law_up",["_law_row","_law_tree","_law_n","_law_extra"],["_law_side","_law_claim","_law_other","_law_gone","_law_both","_law_made","_law_kept"],
 (.cons (.asg (.tp [4,5]) (.ix (.var 0) (.call 29 (.cons (.var 2) (.cons (.int 0) (.cons (.blt .len (.cons (.var 0) .nil)) .nil))))))
 (.cons (.asg (.nm 6) (.ix (.var 0) (.call 29 (.cons (.var 2) (.cons (.int 1) (.cons (.blt .len (.cons (.var 0) .nil)) .nil))))))
 (.cons (.ifs (.or (.cmp .eq (.call 29 (.cons (.var 2) (.cons (.int 2) (.cons (.int 3) .nil)))) (.int 0)) (.cmp .eq (.var 6) (.tup (.cons (.var 4) (.cons (.var 5) .nil)))))
 (.cons (.asg (.nm 6) (.tup (.cons (.ix (.lst (.cons (.str "left") (.cons (.str "right") .nil))) (.call 29 (.cons (.var 2) (.cons (.int 3) (.cons (.int 2) .nil))))) (.cons (.var 3) .nil))))
 .nil)
 .nil)
 (.cons (.asg (.nm 7) (.lst (.cons (.tup (.cons (.var 4) (.cons (.var 5) .nil))) (.cons (.var 6) .nil))))
 (.cons (.asg (.nm 8) (.tup (.cons (.var 5) (.cons (.ix (.var 6) (.int 1)) .nil))))
 (.cons (.ifs (.cmp .eq (.call 29 (.cons (.var 2) (.cons (.int 4) (.cons (.int 2) .nil)))) (.int 1))
 (.cons (.asg (.nm 8) (.tup (.cons (.ix (.var 6) (.int 1)) (.cons (.var 5) .nil))))
 .nil)
 .nil)
 (.cons (.ifs (.cmp .eq (.call 29 (.cons (.var 2) (.cons (.int 5) (.cons (.int 3) .nil)))) (.int 0))
 (.cons (.asg (.nm 9) (.tup (.cons (.ix (.lst (.cons (.str "left") (.cons (.str "right") .nil))) (.blt .toInt (.cons (.cmp .eq (.var 4) (.str "left")) .nil))) (.cons (.tup (.cons (.str "not") (.cons (.var 5) .nil))) .nil))))
 (.cons (.asg (.nm 7) (.lst (.cons (.tup (.cons (.var 4) (.cons (.var 5) .nil))) .nil)))
 .nil))
 (.cons (.ifs (.cmp .eq (.var 4) (.ix (.var 6) (.int 0)))
 (.cons (.asg (.nm 9) (.tup (.cons (.var 4) (.cons (.bin .add (.tup (.cons (.ix (.lst (.cons (.str "or") (.cons (.str "and") .nil))) (.blt .toInt (.cons (.cmp .eq (.var 4) (.str "left")) .nil))) .nil)) (.var 8)) .nil))))
 .nil)
 (.cons (.ifs (.cmp .eq (.var 4) (.str "left"))
 (.cons (.asg (.nm 9) (.tup (.cons (.str "right") (.cons (.tup (.cons (.str "if") (.cons (.var 5) (.cons (.ix (.var 6) (.int 1)) .nil)))) .nil))))
 .nil)
 (.cons (.asg (.nm 9) (.tup (.cons (.str "right") (.cons (.tup (.cons (.str "if") (.cons (.ix (.var 6) (.int 1)) (.cons (.var 5) .nil)))) .nil))))
 .nil))
 .nil))
 .nil))
 (.cons (.ifs (.cmp .gt (.call 39 (.cons (.ix (.var 9) (.int 1)) .nil)) (.int 36))
 (.cons (.ret (.tup (.cons (.var 0) (.cons (.var 1) .nil))))
 .nil)
 .nil)
 (.cons (.cmp false 10 (.comp 1 (.nm 11) (.sq (.var 0)) (.yes (.or (.cmp .notin (.var 11) (.var 7)) (.cmp .eq (.call 29 (.cons (.var 2) (.cons (.int 6) (.cons (.int 5) .nil)))) (.int 0)))) (.var 11)))
 (.cons (.ret (.tup (.cons (.call 34 (.cons (.var 10) (.cons (.lst (.cons (.var 9) .nil)) .nil))) (.cons (.tup (.cons (.str "rule") (.cons (.ix (.var 9) (.int 0)) (.cons (.ix (.var 9) (.int 1)) (.cons (.str "") (.cons (.tup (.cons (.var 1) .nil)) .nil)))))) .nil))))
 .nil)))))))))),false⟩
def ig:Fd:=⟨"_law_due",["_law_ones","_law_others","_law_tree"],["_law_walked","_law_first","_law_added","_law_between","_law_one","_law_other","_law_node"],
 (.cons (.new 3 (.lst .nil))
 (.cons (.while_ (.cmp .eq (.ix (.var 2) (.int 0)) (.str "rule"))
 (.cons (.asg (.nm 4) (.cmp .isin (.tup (.cons (.ix (.var 2) (.int 1)) (.cons (.ix (.var 2) (.int 2)) .nil))) (.var 0)))
 (.cons (.asg (.nm 5) (.ix (.call 36 (.cons (.ix (.var 2) (.int 1)) (.cons (.ix (.var 2) (.int 2)) (.cons (.str "") .nil)))) (.int 0)))
 (.cons (.ifs (.var 4)
 (.cons (.asg (.nm 0) (.call 34 (.cons (.var 0) (.cons (.var 5) .nil))))
 .nil)
 (.cons (.asg (.nm 1) (.call 34 (.cons (.var 1) (.cons (.var 5) .nil))))
 .nil))
 (.cons (.append 3 (.tup (.cons (.var 4) (.cons (.var 2) .nil))))
 (.cons (.asg (.nm 2) (.ix (.ix (.var 2) (.int 4)) (.int 0)))
 .nil))))))
 (.cons (.asg (.tp [6,7,8]) (.call 38 (.cons (.var 0) (.cons (.var 1) .nil))))
 (.cons (.for_ (.tp [4,9]) (.rev (.var 3))
 (.cons (.ifs (.var 4)
 (.cons (.asg (.nm 7) (.bin .add (.sl (.var 9) .no (.yes (.int 4))) (.tup (.cons (.tup (.cons (.var 7) .nil)) .nil))))
 .nil)
 (.cons (.asg (.nm 8) (.bin .add (.sl (.var 9) .no (.yes (.int 4))) (.tup (.cons (.tup (.cons (.var 8) .nil)) .nil))))
 .nil))
 .nil))
 (.cons (.ret (.tup (.cons (.var 6) (.cons (.var 7) (.cons (.var 8) .nil)))))
 .nil))))),false⟩
def d_law:Fd:=⟨"law",["_law_script"],["_law_words_here","_law_names","_law_n","_law_start","_law_row","_law_k","_law_tree","_law_m","_law_ones","_law_others","_law_answer"],
 (.cons (.asg (.nm 1) (.call 31 (.cons (.var 0) .nil)))
 (.cons (.asg (.nm 2) (.call 32 (.cons (.var 0) .nil)))
 (.cons (.asg (.nm 3) (.call 28 (.cons (.call 27 (.cons (.var 0) (.cons (.int 2) .nil))) .nil)))
 (.cons (.asg (.nm 4) (.call 33 (.cons (.bin .fdiv (.var 3) (.bin .pow (.int 10) (.int 8))) (.cons (.var 1) (.cons (.var 2) .nil)))))
 (.cons (.new 5 (.lst (.cons (.tup (.cons (.str "left") (.cons (.var 4) .nil))) (.cons (.tup (.cons (.str "right") (.cons (.var 4) .nil))) .nil))))
 (.cons (.for_ (.nm 6) (.rng (.bin .add (.int 1) (.bin .mod (.var 3) (.int 4))))
 (.cons (.append 5 (.tup (.cons (.ix (.lst (.cons (.str "left") (.cons (.str "right") .nil))) (.bin .mod (.bin .fdiv (.bin .fdiv (.var 3) (.bin .pow (.int 10) (.int 3))) (.bin .add (.var 6) (.int 1))) (.int 2))) (.cons (.call 33 (.cons (.bin .fdiv (.bin .fdiv (.var 3) (.bin .pow (.int 10) (.int 12))) (.bin .add (.var 6) (.int 3))) (.cons (.var 1) (.cons (.var 2) .nil)))) .nil))))
 .nil))
 (.cons (.asg (.nm 5) (.call 34 (.cons (.var 5) (.cons (.lst .nil) .nil))))
 (.cons (.asg (.nm 7) (.tup (.cons (.str "close") .nil)))
 (.cons (.for_ (.nm 6) (.rng2 (.int 4) (.blt .max (.cons (.int 7) (.cons (.blt .min (.cons (.blt .len (.cons (.var 0) .nil)) (.cons (.int 34) .nil))) .nil))))
 (.cons (.asg (.nm 8) (.call 28 (.cons (.call 27 (.cons (.var 0) (.cons (.var 6) .nil))) .nil)))
 (.cons (.asg (.tp [5,7]) (.call 40 (.cons (.var 5) (.cons (.var 7) (.cons (.var 8) (.cons (.call 33 (.cons (.bin .fdiv (.var 8) (.bin .pow (.int 10) (.int 21))) (.cons (.var 1) (.cons (.var 2) .nil)))) .nil))))))
 .nil)))
 (.cons (.asg (.tp [9,10]) (.call 37 (.cons (.var 5) (.cons (.call 28 (.cons (.call 27 (.cons (.var 0) (.cons (.int 3) .nil))) .nil)) .nil))))
 (.cons (.asg (.nm 11) (.call 25 (.cons (.var 9) (.cons (.var 10) (.cons (.var 7) .nil)))))
 (.cons (.ret (.and (.blt .isTup (.cons (.var 11) .nil)) (.cmp .eq (.var 11) (.call 41 (.cons (.var 9) (.cons (.var 10) (.cons (.var 7) .nil)))))))
 .nil)))))))))))),false⟩
def Gd:List Fd:=[xm,qY,eE,kl,iQ,uP,nE,nD,kz,AI,xl,lJ,jw,iz,iR,jx,oF,gI,iy,uQ,qX,iw,gJ,gK,eU,nC,jz,jB,km,lK,iT,iS,eO,jy,jA,iA,kA,iU,fE,gq,ie,ig,d_law]
def Gs:List Fd:=[xm,qY,eE,kl,iQ,uP,nE,nD,kz,AI,xl,lJ,jw,iz,iR,jx,oF,gI,iy,uQ,qX,iw,gJ,gK,eU,nC,jz,jB,km,lK,iT,iS,eO,jy,jA,iA,kA,iU,fE,gq,ie,ig,d_law]
noncomputable instance tbs:Tbs:=⟨[],[],[],[]⟩
def pls:List (String × Nat):=[("inside",7),("is_place",8),("words_within",9),("names_of",10),("sorted_row",17),("more",18),("closes",19),("other_side",21),("signed_within",22),("parts",23),("is_own",24),("kids_of",27),("with_kids",28),("added_above",29),("rows_above",30),("stands_at",31),("fits",32),("trees_within",33),("cuts_within",34),("cuts",35),("rules_of",37),("shared_with",38),("parted_close",39),("of_one_kid",41),("parted_tree",42),("parted",43),("_law_once",45),("_law_cell",46),("_law_mix",47),("_law_at",48),("_law_texts",49),("_law_words",50),("_law_names_drawn",51),("_law_word",54),("_law_more",55),("_law_closes",56),("_law_branches",57),("_law_dealt",58),("_law_close_due",59),("_law_size",60),("_law_up",61),("_law_due",62),("law",63)]
def gls:List D:=[.tup [.str "yes",.str "no",.str "word"],.tup [.str "all",.str "some"],.tup [.tup [.str "right",.str "and"],.tup [.str "left",.str "or"],.tup [.str "left",.str "if"]],.tup [.tup [.str "right",.str "all"],.tup [.str "left",.str "some"]],.tup [.str "close"]]
def gns:List Str:=["LEAVES","BINDERS","FORKS","OWN","CLOSE"]
inductive B | and | or | imp
def B.s:B->Str | .and=>"and" | .or=>"or" | .imp=>"if"
inductive F where
 | word (w:Str) (ts:List Str) | neg (a:F) | bi (b:B) (x y:F)
def hd:F->Str
 | .word _ _=>"word" | .neg _=>"not" | .bi b _ _=>b.s
def enc:F->D
 | .word w ts=>.tup [.str "word",.str w,.tup (ts.map .str)]
 | .neg a=>.tup [.str "not",enc a]
 | .bi b x y=>.tup [.str b.s,enc x,enc y]
def tl:F->List D
 | .word w ts=>[.str w,.tup (ts.map .str)]
 | .neg a=>[enc a]
 | .bi _ x y=>[enc x,enc y]
def kZ (A:F):enc A = .tup (.str (hd A)::tl A):=by cases A<;>rfl
def kd:F->Nat
 | .word _ _=>2 | .neg _=>3 | .bi _ _ _=>4
def kdS (s:Str):Nat:=if s = "yes" then 0 else if s = "no" then 1 else if s = "word" then 2 else if s = "not" then 3 else 4
def yN:∀ A:F,kdS (hd A) = kd A
 | .word _ _=>(by decide:kdS "word" = 2)
 | .neg _=>(by decide:kdS "not" = 3)
 | .bi .and _ _=>(by decide:kdS "and" = 4)
 | .bi .or _ _=>(by decide:kdS "or" = 4)
 | .bi .imp _ _=>(by decide:kdS "if" = 4)
def sR {A B:F} (h:hd A = hd B):kd A = kd B:=by rw [<- yN A,<- yN B,h]
def sz:F->Nat
 | .neg a=>sz a+1
 | .bi _ x y=>sz x+sz y+1
 | _=>1
def iO (x:Str):dep (.str x) = 0:=by unfold dep;rfl
def qU:∀ ts:List Str,cJ (ts.map D.str) = 0
 | []=>by unfold cJ;rfl
 | t::ts=>by rw [aJ];unfold cJ;rw [qU ts,iO];rfl
def hF:F->Nat
 | .neg a=>hF a+1
 | .bi _ x y=>max (hF x) (hF y)+1
 | _=>1
def sU:∀ A:F,hF A<=sz A
 | .word _ _=>ao _
 | .neg a=>by have:=sU a;simp only [hF,sz];omega
 | .bi _ x y=>by have:=sU x;have:=sU y;simp only [hF,sz];omega
def nB:∀ A:F,dep (enc A)<=hF A+1
 | .word w ts=>by unfold enc;simp [dep,cJ,qU,hF]
 | .neg a=>by have:=nB a;unfold enc;simp [dep,cJ,hF];omega
 | .bi b x y=>by have:=nB x;have:=nB y;unfold enc;simp [dep,cJ,hF];omega
def lI (A:F):dep (enc A)<=sz A+1:=by have:=nB A;have:=sU A;omega
def AH:∀ ts us:List Str,gx (ts.map D.str) (us.map D.str) = true->ts = us
 | [],[],_=>rfl
 | [],_::_,h=>by unfold gx at h;cases h
 | _::_,[],h=>by unfold gx at h;cases h
 | t::ts,u::us,h=>by
   rw [aJ,aJ] at h;unfold gx eqD at h;rw [aa] at h;rw [show t = u by simpa using h.1,AH ts us h.2]
def sV {A B:F} (h:eqD (enc A) (enc B) = true):hd A = hd B/\gx (tl A) (tl B) = true:=by
 rw [kZ,kZ] at h;unfold eqD gx eqD at h;rw [aa] at h;exact ⟨by simpa using h.1,h.2⟩
def Ox {a b:D} (h:gx [a] [b] = true):eqD a b = true:=by
 unfold gx at h;rw [aa] at h;exact h.1
def Jl {a b x y:D} (h:gx [a,x] [b,y] = true):eqD a b = true/\eqD x y = true:=by
 unfold gx at h;rw [aa] at h;exact ⟨h.1,Ox h.2⟩
def MM:∀ b c:B,b.s = c.s->b = c
 | .and,.and,_ | .or,.or,_ | .imp,.imp,_=>rfl
 | .and,.or,h | .and,.imp,h | .or,.and,h | .or,.imp,h | .imp,.and,h | .imp,.or,h=>absurd h ⇑0
def uL:∀ A B:F,eqD (enc A) (enc B) = true->A = B
 | .word w ts,B,h=>by
   have this:=sR (sV h).1;have h2:=(sV h).2
   cases B with
   | word v us =>
     obtain ⟨h3,h4⟩:=Jl h2;unfold eqD at h3 h4
     rw [show w = v by simpa using h3,AH ts us h4]
   | _=>exact absurd this (by simp [kd])
 | .neg a,B,h=>by
   have this:=sR (sV h).1;have h2:=(sV h).2
   cases B with
   | neg b=>rw [uL a b (Ox h2)]
   | _=>exact absurd this (by simp [kd])
 | .bi b x y,B,h=>by
   have this':=(sV h).1;have this:=sR this';have h2:=(sV h).2
   cases B with
   | bi c u v =>
     obtain ⟨h3,h4⟩:=Jl h2
     rw [MM b c this',uL x u h3,uL y v h4]
   | _=>exact absurd this (by simp [kd])
def sd (L:Bool):Str:=if L then "left" else "right"
abbrev It:=Bool × F
def itD (p:It):D:=.tup [.str (sd p.1),enc p.2]
def KW:∀ b c:Bool,sd b = sd c->b = c:=by decide
def FW {p q:It} (h:eqD (itD p) (itD q) = true):p = q:=by
 unfold itD eqD at h;obtain ⟨h1,h2⟩:=Jl h;unfold eqD at h1;obtain ⟨a,A⟩:=p;obtain ⟨b,B⟩:=q;rw [show a = b from KW a b (by simpa using h1),show A = B from uL A B h2]
def low (ps:List It):Prop:=∀ p∈ps,sz p.2<=61
def jh (p:It) (h:sz p.2<=61):dep (itD p)<=64:=by
 have:=lI p.2;unfold itD;simp only [dep,cJ,iO];omega
def uO:∀ {ps:List It},low ps->cJ (ps.map itD)<=64
 | [],_=>by show cJ ([]:List D)<=64;unfold cJ;omega
 | p::ps,h=>by
   rw [aJ];unfold cJ;have:=jh p (h p au);have:=uO (ps:=ps) λq hq=>h q (ak _ hq);omega
def eq_self (p:It) (h:sz p.2<=61):eqD (itD p) (itD p) = true:=kX _ (by have:=jh p h;omega)
def has (ps:List It) (q:It):Bool:=(ps.map itD).any λy=>eqD y (itD q)
def lG {ps:List It} {q:It} (h:low ps):has ps q = true↔q∈ps:=by
 unfold has;rw [kD];constructor
 . rintro ⟨y,hy,e⟩;obtain ⟨p,hp,rfl⟩:=cL.mp hy;rw [<- FW e];exact hp
 . intro hq;exact ⟨_,List.mem_map_of_mem hq,eq_self q (h q hq)⟩
def wX {ps:List It} {q:It} (h:low ps) (hq:sz q.2<=61):dep (itD q)<=150/\cJ (ps.map itD) < 99999:=⟨by have:=jh q hq;omega,by have:=uO h;omega⟩
def ltn (ys:List D):(eB [] ys).isSome = true:=by cases ys<;>(unfold eB;rfl)
def Pe (ys:List D):(eB ys []).isSome = true:=by cases ys<;>(unfold eB;rfl)
def ltc {x y:D} {xs ys:List D} (h:(ltD x y).isSome = true) (h2:(eB xs ys).isSome = true):(eB (x::xs) (y::ys)).isSome = true:=by
 unfold eB;split
 . exact h2
 . exact h
def lts {s t:Str} {xs ys:List D} (h:s = t->(eB xs ys).isSome = true):(eB (.str s::xs) (.str t::ys)).isSome = true:=by
 unfold eB;split
 . rename_i e;exact h (by unfold eqD at e;simpa using e)
 . unfold ltD;rfl
def Ak:∀ xs ys:List Str,(eB (xs.map D.str) (ys.map D.str)).isSome = true
 | [],ys=>ltn _
 | xs,[]=>Pe _
 | x::xs,y::ys=>lts λ_=>Ak xs ys
def qN {xs ys:List D} (h:(eB xs ys).isSome = true):(ltD (.tup xs) (.tup ys)).isSome = true:=by unfold ltD;exact h
def uy:∀ A B:F,(ltD (enc A) (enc B)).isSome = true
 | .word w ts,B=>by
   rw [kZ B];refine qN (lts λe=>?_);have e:hd (.word w ts) = hd B:=e
   cases B with
   | word v us=>exact lts λ_=>ltc (qN (Ak ts us)) (ltn _)
   | _=>exact absurd (sR e) (by simp [kd])
 | .neg a,B=>by
   rw [kZ B];refine qN (lts λe=>?_);have e:hd (.neg a) = hd B:=e
   cases B with
   | neg b=>exact ltc (uy a b) (ltn _)
   | _=>exact absurd (sR e) (by simp [kd])
 | .bi b x y,B=>by
   rw [kZ B];refine qN (lts λe=>?_);have e:hd (.bi b x y) = hd B:=e
   cases B with
   | bi c u v=>exact ltc (uy x u) (ltc (uy y v) (ltn _))
   | _=>exact absurd (sR e) (by simp [kd])
def Ax:∀ ts:List Str,hbL (ts.map D.str) = true
 | []=>by unfold hbL;rfl
 | t::ts=>by rw [aJ];unfold hbL;rw [Ax ts];unfold hb;rfl
def uD:∀ A:F,hb (enc A) = true
 | .word w ts=>by unfold enc;simp only [hb,hbL,Ax,dA]
 | .neg a=>by unfold enc;simp only [hb,hbL,uD a,dA]
 | .bi b x y=>by unfold enc;simp only [hb,hbL,uD x,uD y,dA]
def ny (p:It):hb (itD p) = true:=by unfold itD;simp only [hb,hbL,uD,dA]
def Ms {p q:It} (h:itD p = itD q):p = q:=FW ((pQ _ _ (ny p) (ny q)).mpr h)
def ltI (p q:It):Bool:=(ltD (itD p) (itD q)).getD false
def oV (p q:It):ltD (itD p) (itD q) = some (ltI p q):=by
 have:(ltD (itD p) (itD q)).isSome = true:=qN (lts λ_=>ltc (uy _ _) (ltn _));unfold ltI
 cases e:ltD (itD p) (itD q) with
 | none=>rw [e] at this;cases this
 | some k=>rfl
def Mi (p q:It) (h:ltI p q = true):ltI q p = false:=by
 rcases pO _ (itD p) (ao _) (itD q) _ _ (ny p) (ny q) (oV p q) (oV q p) with ⟨_,e,_⟩ | ⟨_,e⟩
 . rw [h] at e;cases e
 . rw [e,h];rfl
def Mf (a b c:It) (h1:ltI b a = false) (h2:ltI c b = false):ltI c a = false :=
 Al _ (itD a) (ao _) (itD b) (itD c) _ (ny a) (ny b) (ny c) (by rw [oV,h1]) (by rw [oV,h2]) (oV c a)
def Mg (p q:It) (h1:ltI p q = false) (h2:ltI q p = false):p = q:=by
 rcases pO _ (itD p) (ao _) (itD q) _ _ (ny p) (ny q) (oV p q) (oV q p) with ⟨e,_⟩ | ⟨_,e⟩
 . exact Ms e
 . rw [h1,h2] at e;cases e
def qv:∀ ts:List Str,hW (ts.map D.str) (ts.map D.str) = true
 | []=>by unfold hW;rfl
 | t::ts=>by rw [aJ];unfold hW iE;rw [qv ts];simp
def mW:∀ A:F,iE (enc A) (enc A) = true
 | .word w ts=>by unfold enc;simp only [iE,hW,qv,dA,decide_true]
 | .neg a=>by unfold enc;simp only [iE,hW,mW a,dA,decide_true]
 | .bi b x y=>by unfold enc;simp only [iE,hW,mW x,mW y,dA,decide_true]
def HW (p:It):iE (itD p) (itD p) = true:=by unfold itD;simp only [iE,hW,mW,dA,decide_true]
def Am {p q:It} (h:sz p.2<=61) (h2:sz q.2<=61):iN (itD p) (itD q) = some (ltI p q):=by
 have:=jh p h;have:=jh q h2;unfold iN;rw [if_pos (by omega),oV]
def oy {p q:It} (h:sz p.2<=61) (h2:sz q.2<=61):ltO (itD p) (itD q) = ltI p q:=by
 unfold ltO;rw [Am h h2];rfl
def zR {row:List It} (h:low row) (hl:row.length<=1000) (ss:(1000:Nat) < sizeLine):Cu (row.map itD) = true:=by
 unfold Cu;simp only [aa,decide_eq_true_eq,cQ,List.forall_mem_map,dT,jS];refine ⟨⟨⟨by rw [ay];omega,λp hp=>?_⟩,λp hp q hq=>?_⟩,λp hp q hq=>?_⟩
 . cases row with
   | nil=>cases hp
   | cons z zs=>exact ⟨rfl,rfl⟩
 . rw [Am (h p hp) (h q hq),oy (h p hp) (h q hq),oy (h q hq) (h p hp)];refine ⟨⟨rfl,?_⟩,?_⟩
   . cases e:ltI p q with
     | false=>exact .inl rfl
     | true=>exact .inr (Mi p q e)
   . cases e:ltI p q with
     | true=>exact .inl (.inl rfl)
     | false =>
       cases e2:ltI q p with
       | true=>exact .inl (.inr rfl)
       | false=>rw [Mg p q e e2];exact .inr (HW q)
 . rw [oy (h q hq) (h p hp)]
   cases e:ltI q p with
   | true=>exact .inl rfl
   | false =>
     refine .inr λz hz=>?_;rw [oy (h z hz) (h q hq),oy (h z hz) (h p hp)]
     cases e2:ltI z q with
     | true=>exact .inl rfl
     | false=>exact .inr (Mf p q z e e2)
def insI (x:It):List It->List It
 | []=>[x]
 | y::ys=>if ltI y x = true then y::insI x ys else x::y::ys
def srt:List It->List It
 | []=>[]
 | x::xs=>insI x (srt xs)
def insI_perm (x:It):∀ ys,(insI x ys).Perm (x::ys)
 | []=>.refl _
 | y::ys=>by
   unfold insI;split
   . exact ((insI_perm x ys).cons y).trans (.swap x y ys)
   . exact .refl _
def iD:∀ xs,(srt xs).Perm xs
 | []=>.refl _
 | x::xs=>(insI_perm x _).trans ((iD xs).cons x)
def Aw {x:It}:∀ {ys:List It},sz x.2<=61->low ys->wW (itD x) (ys.map itD) = (insI x ys).map itD
 | [],_,_=>rfl
 | y::ys,hx,h=>by
   rw [aJ];unfold wW insI;rw [oy (h y au) hx,Aw hx λp hp=>h p (ak _ hp)];split<;>rfl
def yo:∀ {xs:List It},low xs->kN (xs.map itD) = (srt xs).map itD
 | [],_=>rfl
 | x::xs,h=>by
   have h2:low xs:=λp hp=>h p (ak _ hp);rw [aJ];unfold kN srt;rw [yo h2,Aw (h x au) λp hp=>h2 p ((iD xs).mem_iff.mp hp)]
def isL (acc:List It) (x:It):Bool:=match acc.getLast? with
 | some y=>eqD (itD y) (itD x)
 | none=>false
def dd:List It->List It->List It
 | acc,[]=>acc
 | acc,x::xs=>dd (if isL acc x = true then acc else acc++[x]) xs
def mo (l:List It):List It:=dd [] (srt l)
def Jf {acc:List It} {x:It} (h:isL acc x = true):x∈acc:=by
 unfold isL at h;split at h
 . rename_i y e;rw [<- FW h];exact AX e
 . cases h
def Ge {p:It}:∀ (xs acc:List It),p∈dd acc xs↔p∈acc\/p∈xs
 | [],acc=>by simp [dd]
 | x::xs,acc=>by
   unfold dd;rw [Ge xs];split
   . rename_i h;have:=Jf h;constructor
     . rintro (z | z)
       . exact .inl z
       . exact .inr (ak _ z)
     . rintro (z | z)
       . exact .inl z
       . rcases aQ.mp z with z | z
         . rw [z];exact .inl this
         . exact .inr z
   . rw [bC,aP,aQ,or_assoc]
def Gf:∀ (xs acc:List It),(dd acc xs).length<=acc.length+xs.length
 | [],acc=>by simp [dd]
 | x::xs,acc=>by
   unfold dd;have:=Gf xs (if isL acc x = true then acc else acc++[x])
   have h2:(if isL acc x = true then acc else acc++[x]).length<=acc.length+1:=by
    split
    . omega
    . rw [ax];simp
   rw [aB];omega
def qI {p:It} {l:List It}:p∈mo l↔p∈l:=by
 unfold mo;rw [Ge,(iD l).mem_iff];simp
def Fe (l:List It):(mo l).length<=l.length:=by
 unfold mo;have:=Gf (srt l) [];rw [(iD l).length_eq] at this;simpa using this
def Fc {l:List It} (h:low l):low (mo l):=λp hp=>h p (qI.mp hp)
def low.app {a b:List It} (h:low a) (h2:low b):low (a++b):=λp hp=>(bC.mp hp).elim (h p) (h2 p)
def low.one {p:It} (h:sz p.2<=61):low [p]:=λq hq=>by rw [aP.mp hq];exact h
def Jb {l:List D} {y:D}:atI (l++[y]) (-1) = some y:=by
 unfold atI ixN;rw [if_neg ⇑0,if_pos (by simp;omega)];show (l++[y])[(-1+((l++[y]).length:Int)).toNat]? = some y;have e:(-1+((l++[y]).length:Int)).toNat = l.length:=by rw [ax];simp;omega
 rw [e,cg (ao _),Nat.sub_self];rfl
def Ob {p q:It} (hp:sz p.2<=61) (hq:sz q.2<=61) {Q:Bool->Prop} (k:Q (!eqD (itD p) (itD q))):tR .ne (itD p) (itD q) Q:=by
 refine ⟨_,?_,k⟩;show (if ky (itD p) (itD q) = true then some (!eqD (itD p) (itD q)) else none) = _;have:=jh p hp;have:=jh q hq;rw [if_pos (by unfold ky;rw [show kin (itD p) (itD q) = true from rfl,Bool.true_and,aa,decide_eq_true_eq,decide_eq_true_eq];omega)]
def s64:(1000:Nat) < sizeLine:=by decide
def FE (l:List It) (y x:It):isL (l++[y]) x = eqD (itD y) (itD x):=by
 unfold isL;rw [AZ,xN];rfl
def low.tail {x:It} {xs:List It} (h:low (x::xs)):low xs:=λp hp=>h p (ak _ hp)
def Ei (n:Nat) (l:List It) (h:low l) (hl:l.length<=900):PP.run Gs gls (n+1) 4 [.lst (l.map itD)] = some (.tup ((mo l).map itD)):=by
 apply bR;refine bx iQ rfl rfl rfl ?_;simp only [iQ,init,SI,Nat.reduceAdd,Nat.reduceSub];simp only [↓qh,↓WS,WI,↓reduceIte];refine ⟨⇑0,zR h (by omega) s64,?_⟩;rw [yo h];refine jb (g:=itD) (λrest δ=>∃ (acc:List It) (s:Sl),δ = [.val (.lst (l.map itD)),.own (acc.map itD),s]/\low acc/\low rest/\dd acc rest = mo l/\acc.length+rest.length<=900) ?_ ?_ _ _ ⟨[],_,rfl,(λp hp=>by cases hp),(λp hp=>h p ((iD l).mem_iff.mp hp)),rfl,by rw [aM,(iD l).length_eq];omega⟩
 . rintro x rest δ ⟨acc,s,rfl,ha,hr,e,hlen⟩;rw [aB] at hlen;have hx:=hr x au;have ss:=s64;rw [dd] at e
   have app:isL acc x = false->∃ (acc':List It) (s:Sl),([.val (.lst (l.map itD)),.own (acc.map itD++[itD x]),.val (itD x)]:PP.Loc) = [.val (.lst (l.map itD)),.own (acc'.map itD),s]/\low acc'/\low rest/\dd acc' rest = mo l/\acc'.length+rest.length<=900:=λz=>by
    rw [z,if_neg aj] at e;exact ⟨acc++[x],_,by rw [bT];rfl,ha.app (.one hx),hr.tail,e,by rw [ax];simp only [aB,aM];omega⟩
   rcases zw acc with rfl | ⟨l',y,rfl⟩
   . simp only [xS,↓WS,WI,↓reduceIte];exact ⟨⇑0,app rfl⟩
   . rw [zy] at e hlen app ha |-;have hy:=ha y ↥0;rw [bT] at app |-;have hne:(!!(l'.map itD++[y].map itD).isEmpty) = false:=by cases l'<;>rfl
     simp only [hne,↓WS,WI,↓reduceIte];refine ⟨itD y,Jb,Ob hy hx ?_⟩;rw [FE] at app e
     cases eb:eqD (itD y) (itD x) with
     | true =>
       rw [eb,if_pos rfl] at e
       exact ⟨l'++[y],_,by rw [bT],ha,hr.tail,e,by omega⟩
     | false=>exact ⟨by simp only [ax,ay,aB,aM] at hlen |-;omega,app eb⟩
 . rintro δ ⟨acc,s,rfl,_,_,e,_⟩;simp only [↓WS,WI,↓reduceIte];rw [<- e];rfl
def ui (n:Nat) (r ad:List It) (a:D) (ha:a = .lst (ad.map itD)\/a = .tup (ad.map itD)) (h:low (r++ad)) (hl:r.length+ad.length<=900):PP.run Gs gls (n+2) 5 [.tup (r.map itD),a] = some (.tup ((mo (r++ad)).map itD)):=by
 have w:=Ei n (r++ad) h (by rw [ax];exact hl);rw [bT] at w;have ss:=s64;apply bR;refine bx uP rfl rfl rfl ?_;simp only [uP,init,SI,Nat.reduceAdd,Nat.reduceSub];rcases ha with rfl | rfl
 . simp only [↓WS,WI,↓reduceIte];exact ⟨by rw [ay,ay];omega,(bG w).mpr rfl⟩
 . simp only [↓WS,WI,↓reduceIte];exact ⟨by rw [ay,ay];omega,(bG w).mpr rfl⟩
def Lb (n:Nat) (l:List It) (h:low l) (hl:l.length<=900):PP.run Gs gls (n+1) 26 [.lst (l.map itD)] = some (.tup ((mo l).map itD)):=by
 apply bR;refine bx jz rfl rfl rfl ?_;simp only [jz,init,SI,Nat.reduceAdd,Nat.reduceSub];simp only [↓qh,↓WS,WI,↓reduceIte];refine ⟨⇑0,zR h (by omega) s64,?_⟩;rw [yo h];refine jb (g:=itD) (λrest δ=>∃ (acc:List It) (s:Sl),δ = [.val (.lst (l.map itD)),.own (acc.map itD),s]/\low acc/\low rest/\dd acc rest = mo l/\acc.length+rest.length<=900) ?_ ?_ _ _ ⟨[],_,rfl,(λp hp=>by cases hp),(λp hp=>h p ((iD l).mem_iff.mp hp)),rfl,by rw [aM,(iD l).length_eq];omega⟩
 . rintro x rest δ ⟨acc,s,rfl,ha,hr,e,hlen⟩;rw [aB] at hlen;have hx:=hr x au;have ss:=s64;rw [dd] at e
   have app:isL acc x = false->(acc.map itD).length < sizeLine/\∃ (acc':List It) (s:Sl),([.val (.lst (l.map itD)),.own (acc.map itD++[itD x]),.val (itD x)]:PP.Loc) = [.val (.lst (l.map itD)),.own (acc'.map itD),s]/\low acc'/\low rest/\dd acc' rest = mo l/\acc'.length+rest.length<=900:=λz=>by
    rw [z,if_neg aj] at e;exact ⟨by rw [ay];omega,acc++[x],_,by rw [bT];rfl,ha.app (.one hx),hr.tail,e,by rw [ax];simp only [aB,aM];omega⟩
   have keep:isL acc x = true->∃ (acc':List It) (s:Sl),([.val (.lst (l.map itD)),.own (acc.map itD),.val (itD x)]:PP.Loc) = [.val (.lst (l.map itD)),.own (acc'.map itD),s]/\low acc'/\low rest/\dd acc' rest = mo l/\acc'.length+rest.length<=900:=λz=>by
    rw [z,if_pos rfl] at e;exact ⟨acc,_,rfl,ha,hr.tail,e,by omega⟩
   have cut:cutD (acc.map itD) (some (-1)) none = match acc.getLast? with
    | some y=>[itD y]
    | none=>[]:=by
    rcases zw acc with rfl | ⟨l',y,rfl⟩
    . rfl
    . rw [zy,AZ,xN];unfold cutD;rw [show HT.sIx ((l'++[y]).map itD).length ((l'++[y]).map itD).length none = ((l'++[y]).map itD).length from rfl]
      have e1:HT.sIx ((l'++[y]).map itD).length 0 (some (-1)) = l'.length:=by
       unfold HT.sIx;simp;omega
      rw [e1,bT];simp
   simp only [↓WS,WI,↓reduceIte];refine ⟨_,by show some (D.lst (cutD (acc.map itD) (some (-1)) none)) = _;rw [cut],?_⟩
   have nin:∀ (o:Option It),(∀ y,o = some y->sz y.2<=61)->∀ Q:Bool->Prop,Q (!(match o with | some y=>eqD (itD y) (itD x) | none=>false))->tR .notin (itD x) (.lst (match o with | some y=>[itD y] | none=>[])) Q:=λo ho Q q=>by
    have dx:=jh x hx
    cases o with
    | none=>exact ⟨true,by show (inD (itD x) (.lst [])).map (!·) = _;unfold inD;dsimp only;rw [if_pos ⟨by omega,by unfold cJ;omega⟩];rfl,q⟩
    | some y =>
      have dy:=jh y (ho y rfl);refine ⟨!eqD (itD y) (itD x),?_,q⟩;show (inD (itD x) (.lst [itD y])).map (!·) = _;unfold inD;dsimp only;rw [if_pos ⟨by omega,by unfold cJ cJ;omega⟩];simp
   refine nin _ (λy hy=>ha y (AX hy)) _ ?_;change if (!isL acc x) = true then _ else _
   cases z:isL acc x with
   | true=>exact keep z
   | false=>exact app z
 . rintro δ ⟨acc,s,rfl,_,_,e,_⟩;simp only [↓WS,WI,↓reduceIte];rw [<- e];rfl
def pL (n:Nat) (r ad:List It) (r' a:D) (hr:r' = .lst (r.map itD)\/r' = .tup (r.map itD)) (ha:a = .lst (ad.map itD)) (h:low (r++ad)) (hl:r.length+ad.length<=900):PP.run Gs gls (n+2) 34 [r',a] = some (.tup ((mo (r++ad)).map itD)):=by
 have w:=Lb n (r++ad) h (by rw [ax];exact hl);rw [bT] at w;have ss:=s64;apply bR;subst ha;refine bx jA rfl rfl rfl ?_;simp only [jA,init,SI,Nat.reduceAdd,Nat.reduceSub];rcases hr with rfl | rfl
 . simp only [↓WS,WI,↓reduceIte];exact ⟨by rw [ay,ay];omega,(bG w).mpr rfl⟩
 . simp only [↓WS,WI,↓reduceIte];exact ⟨by rw [ay,ay];omega,(bG w).mpr rfl⟩
def cl (ps:List It):Bool:=ps.any λp=>p.1 && has ps (false,p.2)
def clo (S:It->Prop):Prop:=∃ A,S (true,A)/\S (false,A)
def yV {ps:List It} (h:low ps):cl ps = true↔clo (·∈ps):=by
 unfold cl clo;rw [kD];constructor
 . rintro ⟨⟨b,A⟩,hp,e⟩;rw [aa,lG h] at e;obtain ⟨e1,e2⟩:=e
   cases b with
   | true=>exact ⟨A,hp,e2⟩
   | false=>cases e1
 . rintro ⟨A,h1,h2⟩;exact ⟨(true,A),h1,by rw [aa,lG h];exact ⟨rfl,h2⟩⟩
def sZ {α:Type} (f:α->Bool):∀ xs:List α,mH (xs.map λx=>D.bl (f x)) = some (xs.map f)
 | []=>rfl
 | x::xs=>by
   rw [aJ];unfold mH;rw [sZ f xs];rfl
def any_map {α:Type} (f:α->Bool) (xs:List α) {Q:D->Prop} (q:Q (.bl (xs.any f))):pA .any [.lst (xs.map λx=>D.bl (f x))] Q:=by
 refine ⟨.bl (xs.any f),?_,q⟩;show (mH (xs.map λx=>D.bl (f x))).map (λbs=>D.bl (bs.any id)) = _;rw [sZ];show some (D.bl ((xs.map f).any id)) = _;rw [List.any_map];rfl
def NC (b:Bool):(sd b == "left") = b:=by cases b<;>decide
def leaf (s:Str):D:=.tup [.str s]
def Ah {s:Str} (hs:kdS s < 2) (A:F):eqD (enc A) (leaf s) = false:=by
 cases e:eqD (enc A) (leaf s) with
 | false=>rfl
 | true =>
   exfalso;rw [kZ] at e;unfold leaf eqD gx eqD at e;rw [aa] at e;have e2:hd A = s:=by simpa using e.1
   have:=yN A;rw [e2] at this;cases A<;>simp only [kd] at this<;>omega
def LZ {s:Str} (hs:kdS s < 2) (L:Bool) (ps:List It):((ps.map itD).any λy=>eqD y (.tup [.str (sd L),leaf s])) = false:=by
 rw [GZ];intro y hy;obtain ⟨p,_,rfl⟩:=cL.mp hy;intro e;unfold itD eqD at e;have:=(Jl e).2;rw [Ah hs] at this;cases this
def JN:kdS "yes" < 2:=by decide
def Oe:kdS "no" < 2:=by decide
def qy (n:Nat) (ps:List It) (h:low ps) (hl:ps.length<=1000):PP.run Gs gls (n+1) 6 [.tup (ps.map itD)] = some (.bl (cl ps)):=by
 have ss:=s64;have dl:=uO h;apply bR;refine bx nE rfl rfl rfl ?_;simp only [nE,init,SI,Nat.reduceAdd,Nat.reduceSub];refine bN false ?_ (λz=>by cases z) λ_=>?_
 . have e:∀ (L:Bool) (s:Str),kdS s < 2->jl .isin (.tup [.str (sd L),leaf s]) (.tup (ps.map itD)) = some false:=λL s hs=>by
    show (if dep (.tup [.str (sd L),leaf s])<=150/\cJ (ps.map itD) < 99999 then some ((ps.map itD).any λy=>eqD y (.tup [.str (sd L),leaf s])) else none) = _;rw [if_pos ⟨by unfold leaf;simp [dep,cJ],by omega⟩,LZ hs]
   exact uH (cw ⋯ ⋯ (e false "yes" JN)) (cw ⋯ ⋯ (e true "no" Oe))
 simp only [aB,aM,yZ,↓WS,WI,↓reduceIte];refine hJ itD (λ_=>true) (λp=>.bl (p.1 && has ps (false,p.2))) ps (λp hp=>?_) ⟨?_,?_⟩
 . obtain ⟨b,A⟩:=p;show wTg [Sl.val (D.tup (ps.map itD)),.no,.no] (Tg.tp [1,2]) (D.tup [D.str (sd b),enc A]) _;simp only [↓tK,NC,SI,↓WS,WI,↓reduceIte];refine ⟨trivial,?_⟩
   cases b with
   | false=>exact ⟨rfl,rfl⟩
   | true=>exact ⟨⇑0,wX (q:=(false,A)) h (h (true,A) hp),rfl,rfl⟩
 . rw [ay,mR.mpr λ_ _=>rfl];omega
 . rw [mR.mpr λ_ _=>rfl];exact any_map _ _ rfl
def OX:Option Out->Option D
 | some (.rt d _)=>some d
 | _=>none
def jF {cx:Cl} {ss:Ss} {δ:PP.Loc} {d:D} {Q:D->Prop} (h:OX (eC cx ss δ) = some d) (q:Q d):wSs cx ss δ (retS Q):=by
 unfold wSs
 cases e:eC cx ss δ with
 | none=>rw [e] at h;cases h
 | some o =>
   rw [e] at h
   cases o with
   | rt d' δ'=>cases h;exact ⟨_,rfl,q⟩
   | _=>cases h
def nH {as bs:List D} (h:min (cJ as) (cJ bs)<=149) (h2:max (cJ as) (cJ bs) < 99999):jl .eq (.tup as) (.tup bs) = some (eqD (.tup as) (.tup bs)):=by
 show (if ky (.tup as) (.tup bs) = true then some (eqD (.tup as) (.tup bs)) else _) = _;rw [if_pos];unfold ky;rw [show kin (.tup as) (.tup bs) = true from rfl,Bool.true_and,aa,decide_eq_true_eq,decide_eq_true_eq];unfold dep;omega
def xx {A:F} {s:Str} (h:sz A<=61) (hs:kdS s < 2):jl .eq (enc A) (leaf s) = some false:=by
 have a:=lI A;rw [<- Ah hs A,kZ A];rw [kZ A] at a;unfold dep at a;exact nH (by simp only [cJ,iO];omega) (by simp only [cJ,iO] at a |-;omega)
def Gk (b:Bool):jl .eq (.str (sd b)) (.str "left") = some b:=by cases b<;>decide
def Oz (b:Bool):jl .eq (.str (sd b)) (.str "right") = some (!b):=by cases b<;>decide
def qZ {ps:List It} {q:It} (h:low ps) (hq:sz q.2<=61):jl .isin (itD q) (.tup (ps.map itD)) = some (has ps q):=by
 show (if dep (itD q)<=150/\cJ (ps.map itD) < 99999 then some (has ps q) else none) = _;rw [if_pos (wX h hq)]
def Cf {ps:List It} {q:It} (h:low ps) (hq:sz q.2<=61):jl .notin (itD q) (.tup (ps.map itD)) = some (!has ps q):=by
 show ((if dep (itD q)<=150/\cJ (ps.map itD) < 99999 then some (has ps q) else none).map (!·)) = _;rw [if_pos (wX h hq)];rfl
def sE (n:Nat) (ps:List It) (h:low ps):PP.run Gs gls (n+1) 35 [.tup (ps.map itD)] = some (.bl (cl ps)):=by
 apply bR;refine bx iA rfl rfl rfl ?_;simp only [iA,init,SI,Nat.reduceAdd,Nat.reduceSub];refine lA (ps.map itD) ⋯ ?_;refine jb (g:=itD) (λrest δ=>∃ s1 s2:Sl,δ = [.val (.tup (ps.map itD)),s1,s2]/\(∀ p∈rest,p∈ps)/\(rest.any λp=>p.1 && has ps (false,p.2)) = cl ps) ?_ ?_ _ _ ⟨_,_,rfl,λp hp=>hp,rfl⟩
 . rintro ⟨b,A⟩ rest δ ⟨s1,s2,rfl,hm,e⟩;have hA:sz A<=61:=h _ (hm _ au);rw [iJ] at e;refine ⟨[.val (.tup (ps.map itD)),.val (.str (sd b)),.val (enc A)],rfl,?_⟩;refine bN (b && (false || has ps (false,A))) (nz (cw ⋯ ⋯ (Gk b)) (uH (cw ⋯ ⋯ (xx hA Oe)) (cw (x:=itD (false,A)) ⋯ ⋯ (qZ h hA)))) (λz=>?_) λz=>?_
   . rw [nV] at z;rw [show (((b,A):It).1 && has ps (false,(b,A).2)) = true from z,kJ] at e;rw [<- e];exact ⟨.rt (.bl true) [.val (.tup (ps.map itD)),.val (.str (sd b)),.val (enc A)],⋯,rfl⟩
   . rw [nV] at z;rw [show (((b,A):It).1 && has ps (false,(b,A).2)) = false from z,nV] at e;refine bN (!b && false) (nz (cw ⋯ ⋯ (Oz b)) (cw ⋯ ⋯ (xx hA JN))) (λz=>by simp at z) λ_=>?_;exact ⟨.nx [.val (.tup (ps.map itD)),.val (.str (sd b)),.val (enc A)],⋯,_,_,rfl,λq hq=>hm q (ak _ hq),e⟩
 . rintro δ ⟨s1,s2,rfl,_,e⟩;rw [<- e];exact jF (Q:=λd=>d = .bl false) (d:=.bl false) ⋯ rfl
inductive K where
 | neg (L:Bool) (a:F) | bi (b:B) (x y:F)
def sB:B->Bool | .and=>true | .or=>false | .imp=>false
def fB:B->Bool | .and=>true | .or=>false | .imp=>true
def K.L:K->Bool | .neg L _=>L | .bi b _ _=>sB b
def K.A:K->F | .neg _ a=>.neg a | .bi b x y=>.bi b x y
def K.it (k:K):It:=(k.L,k.A)
def K.br:K->List It | .neg L a=>[(!L,a)] | .bi b x y=>[(fB b,x),(sB b,y)]
def CL:D:=.tup [.str "close"]
def rk (k:K) (d:D):D:=.tup [.str "rule",.str (sd k.L),enc k.A,.str "",.tup [d]]
def bS:List K->D
 | []=>CL
 | k::ks=>rk k (bS ks)
def okT (ks:List K):Prop:=∀ k∈ks,sz k.A<=61
def okT.tl {k:K} {ks:List K} (h:okT (k::ks)):okT ks:=λq hq=>h q (ak _ hq)
def okT.hd {k:K} {ks:List K} (h:okT (k::ks)):sz k.A<=61:=h k au
def oH {k:K} (h:sz k.A<=61):low k.br:=λp hp=>by
 cases k with
 | neg L a =>
   rw [aP.mp hp];simp only [K.A,sz] at h;show sz a<=61
   omega
 | bi b x y =>
   simp only [K.A,sz] at h;rcases aQ.mp hp with e | e
   . rw [e];show sz x<=61;omega
   . rw [aP.mp e];show sz y<=61;omega
def vf (k:K):k.br.length<=2:=by cases k<;>simp [K.br]
def Gb:dep CL = 1:=by unfold CL;simp only [dep,cJ,iO];rfl
def qV (k:K) (d:D):dep (rk k d) = max (dep (enc k.A)) (dep d+1)+1:=by
 unfold rk;simp only [dep,cJ,iO];omega
def JU:∀ ks:List K,okT ks->dep (bS ks)<=2 * ks.length+64
 | [],_=>by rw [bS,Gb];omega
 | k::ks,o=>by
   have:=JU ks o.tl;have:=lI k.A;have:=o.hd;rw [bS,qV,aB];omega
def zX (n:Nat):∀ k:K,PP.run Gs gls (n+4) 9 [.str (sd k.L),enc k.A,.str ""] = some (.lst [.lst (k.br.map itD)])
 | .neg true a=>by kernel_rfl
 | .neg false a=>by kernel_rfl
 | .bi .and x y=>by kernel_rfl
 | .bi .or x y=>by kernel_rfl
 | .bi .imp x y=>by kernel_rfl
def yA (n:Nat):∀ k:K,PP.run Gs gls (n+1) 36 [.str (sd k.L),enc k.A,.str ""] = some (.lst [.lst (k.br.map itD)])
 | .neg true a=>by kernel_rfl
 | .neg false a=>by kernel_rfl
 | .bi .and x y=>by kernel_rfl
 | .bi .or x y=>by kernel_rfl
 | .bi .imp x y=>by kernel_rfl
def Ij (n:Nat) (k:K) (d:D):PP.run Gs gls (n+5) 13 [rk k d] = some (.lst [.lst (k.br.map itD)]):=by
 apply bR;refine bx iz rfl rfl rfl ?_;simp only [iz,init,SI,Nat.reduceAdd,Nat.reduceSub];refine bN true ⋯ (λ_=>?_) λz=>by cases z
 exact gX [.str (sd k.L),enc k.A,.str ""] ⋯ ((bG (zX n k)).mpr rfl)
def isC (ks:List K) (o:okT ks) (hl:ks.length<=1000):jl .eq (bS ks) CL = some ks.isEmpty:=by
 have d:=JU ks o
 cases ks with
 | nil=>kernel_rfl
 | cons k ks =>
   rw [show (k::ks).isEmpty = eqD (rk k (bS ks)) CL by kernel_rfl];unfold bS rk at d |-;unfold dep at d;exact nH (by simp only [cJ,iO];omega) (by simp only [cJ,iO] at d |-;omega)
def prf:(It->Prop)->List K->Prop
 | S,[]=>clo S
 | S,k::ks=>S k.it/\prf (λp=>S p\/p∈k.br) ks
def je:∀ {ks:List K} {S S':It->Prop},(∀ p,S p->S' p)->prf S ks->prf S' ks
 | [],S,S',h,⟨A,k1,k2⟩=>⟨A,h _ k1,h _ k2⟩
 | k::ks,S,S',h,w=>⟨h _ w.1,je (λp z=>z.imp (h p) id) w.2⟩
def ka {a b:List It} {p:It}:p∈mo (a++b)↔p∈a\/p∈b:=qI.trans bC
def gh (a b:List It):(mo (a++b)).length<=a.length+b.length:=by
 rw [<- ax];exact Fe _
def Eh (n:Nat) (row:List It) (k:K) (d:D) (h:low row) (hm:k.it∈row):PP.run Gs gls (n+2) 15 [.tup (row.map itD),rk k d] = some (.bl true):=by
 apply bR;refine bx jx rfl rfl rfl ?_;simp only [jx,init,SI,Nat.reduceAdd,Nat.reduceSub];refine fg 1 [.val (.tup (row.map itD)),.val (rk k d),.val (.str (sd k.L)),.val (enc k.A),.val (.str "")] ⋯ ?_;refine bN (!has row k.it) (cw (x:=itD k.it) ⋯ ⋯ (Cf h (h _ hm))) (λz=>?_) λ_=>?_
 . rw [(lG h).mpr hm] at z;cases z
 . refine jF (d:=.bl true) ?_ rfl
   cases k with
   | neg L a=>cases L<;>kernel_rfl
   | bi b x y=>cases b<;>kernel_rfl
def Ik (n:Nat) (row:List It) (k:K) (d:D) (h:low row) (o:sz k.A<=61) (hl:row.length<=890):PP.run Gs gls (n+6) 14 [.tup (row.map itD),rk k d] = some (.lst [.tup ((mo (row++k.br)).map itD)]):=by
 have w1:=ui (n+3) row k.br _ (.inl rfl) (h.app (oH o)) (by have:=vf k;omega);apply bR;refine bx iR rfl rfl rfl ?_;simp only [iR,init,SI,Nat.reduceAdd,Nat.reduceSub];exact lz _ (FT (G:=Gs) (gl:=gls) (n:=n+5) (f:=5) (λb=>D.lst (b.map itD)) (λb=>.tup ((mo (row++b)).map itD)) (λb=>[.tup (row.map itD),.lst (b.map itD)]) [k.br] (show 1<=sizeLine by decide) (My (cG [rk k d] ⋯ (Ij n k d)) rfl) rfl (λb _=>by kernel_rfl) λb hb=>by rw [aP.mp hb];exact w1) rfl
def El (n:Nat) (k:K) (ks:List K) (o:okT (k::ks)) (hl:ks.length<=500):PP.run Gs gls (n+1) 11 [bS (k::ks)] = some (.tup [bS ks]):=by
 apply bR;refine bx lJ rfl rfl rfl ?_;simp only [lJ,init,SI,Nat.reduceAdd,Nat.reduceSub];exact lz (.tup [bS ks]) (AF (x:=.tup []) (y:=.tup [bS ks]) (cw ⋯ ⋯ (isC _ o (by rw [aB];omega))) ⋯ ⋯) rfl
def Em:∀ (ks:List K) (row:List It) (n:Nat),low row->okT ks->ks.length+9<=n->row.length+2 * ks.length<=800->prf (·∈row) ks->PP.run Gs gls n 16 [.tup (row.map itD),bS ks] = some (.bl true)
 | [],row,n+1,h,o,hn,hl,w=>by
   rw [aM] at hn hl;obtain ⟨m,rfl⟩:∃ m,n = m+1:=⟨n - 1,by omega⟩;have c:=qy m row h (by omega);rw [(yV h).mpr w] at c;apply bR;refine bx oF rfl rfl rfl ?_;simp only [oF,init,SI,Nat.reduceAdd,Nat.reduceSub];refine bN true (cw ⋯ ⋯ (isC [] o ⇑0)) (λ_=>?_) λz=>by cases z
   exact gX [.tup (row.map itD)] ⋯ ((bG c).mpr rfl)
 | k::ks,row,n+1,h,o,hn,hl,w=>by
   rw [aB] at hn hl;obtain ⟨m,rfl⟩:∃ m,n = m+6:=⟨n - 6,by omega⟩;have bl:=vf k;have ml:=gh row k.br;have f:=Em ks (mo (row++k.br)) (m+6) (Fc (h.app (oH o.hd))) o.tl (by omega) (by omega) (je (λp z=>ka.mpr z) w.2);have w1:=Eh (m+4) row k (bS ks) h w.1;have w2:=Ik m row k (bS ks) h o.hd (by omega);have w3:=El (m+5) k ks o (by omega);apply bR;refine bx oF rfl rfl rfl ?_;simp only [oF,init,SI,Nat.reduceAdd,Nat.reduceSub];refine bN false (cw ⋯ ⋯ (isC (k::ks) o (by rw [aB];omega))) (λz=>by cases z) λ_=>?_;refine bN (true && !true) (nz ⋯ (uI (kg [.tup (row.map itD),bS (k::ks)] ⋯ w1))) (λz=>by cases z) λ_=>?_;refine cM [.tup (row.map itD),bS (k::ks)] ⋯ ((bG w2).mpr ⟨_,rfl,?_⟩);refine cM [bS (k::ks)] ⋯ ((bG w3).mpr ⟨_,rfl,?_⟩);refine fg 1 [.val (.tup (row.map itD)),.val (bS (k::ks)),.val (.lst [.tup ((mo (row++k.br)).map itD)]),.val (.tup [bS ks]),.no,.no] ⋯ ?_;refine lA [D.tup [.tup ((mo (row++k.br)).map itD),bS ks]] ⋯ ?_;refine gZ.mpr ⟨[.val (.tup (row.map itD)),.val (bS (k::ks)),.val (.lst [.tup ((mo (row++k.br)).map itD)]),.val (.tup [bS ks]),.val (.tup ((mo (row++k.br)).map itD)),.val (bS ks)],rfl,?_⟩;refine bN (!true) (uI (kg [.tup ((mo (row++k.br)).map itD),bS ks] ⋯ f)) (λz=>by cases z) λ_=>?_;refine fw.mpr (fV.mpr (iC.mpr (jJ.mpr ?_)))
   exact jF (d:=.bl true) ⋯ rfl
 | ks,row,0,_,_,hn,_,_=>by omega
def subs:List K->List (List K)
 | []=>[[]]
 | k::ks=>(k::ks)::subs ks
def vO:∀ ks:List K,(subs ks).length = ks.length+1
 | []=>rfl
 | k::ks=>by rw [subs,aB,aB,vO ks]
def wm:∀ (ks:List K) (n:Nat),okT ks->ks.length<=500->ks.length+2<=n->PP.run Gs gls n 17 [bS ks] = some (.lst ((subs ks).map bS))
 | [],n+1,o,hd,hn=>by
   obtain ⟨m,rfl⟩:∃ m,n = m+1:=⟨n - 1,by rw [aM] at hn;omega⟩
   kernel_rfl
 | k::ks,n+1,o,hd,hn=>by
   rw [aB] at hd hn;obtain ⟨m,rfl⟩:∃ m,n = m+1:=⟨n - 1,by omega⟩;have w:=El m k ks o (by omega);have w1:=wm ks (m+1) o.tl (by omega) (by omega);have ss:=s64;have l1:=vO ks;apply bR;refine bx gI rfl rfl rfl ?_;simp only [gI,init,SI,Nat.reduceAdd,Nat.reduceSub];refine fg 1 [.val (bS (k::ks)),.own [bS (k::ks)],.no] ⋯ ?_;simp only [kx,aB,aM,↓bG w,↓bG w1,↓gZ,↓iC,↓WS,WI,↓reduceIte];refine ⟨by simp only [ay];omega,?_⟩
   simp only [subs,aJ,kC,fi]
 | ks,0,_,_,hn=>by omega
def Lc (ks:List K) (n:Nat) (o:okT ks) (hd:ks.length<=500) (hn:ks.length+2<=n):PP.run Gs gls (n+2) 19 [bS ks] = some (.int 0):=by
 have w:=wm ks n o hd hn
 have w2:PP.run Gs gls (n+1) 18 [bS ks] = some (.lst []):=by
  apply bR;refine bx iy rfl rfl rfl ?_;simp only [iy,init,SI,Nat.reduceAdd,Nat.reduceSub];simp only [↓bG w,↓WS,WI,↓reduceIte];refine hJ bS (λ_=>false) (λ_=>.non) (subs ks) (λu hu=>⟨[.val (bS ks),.val (bS u)],rfl,false,[.val (bS ks),.val (bS u)],?_,rfl,rfl⟩) ?_
  . cases u with
    | nil=>kernel_rfl
    | cons k u=>kernel_rfl
  . rw [xU.mpr λ_ _=>aj];exact ⟨bO _,rfl⟩
 apply bR;refine bx uQ rfl rfl rfl ?_;simp only [uQ,init,SI,Nat.reduceAdd,Nat.reduceSub];simp only [↓bG w2,aM,↓WS,WI,↓reduceIte];rfl
def wrd (p:Str × List Str):D:=.tup [.str "word",.str p.1,.tup (p.2.map .str)]
def wds:F->List (Str × List Str)
 | .word w ts=>[(w,ts)]
 | .neg a=>wds a
 | .bi _ x y=>wds x++wds y
def jU:∀ A:F,2 * (wds A).length<=sz A+1
 | .word w ts=>by simp [wds,sz]
 | .neg a=>by have:=jU a;simp only [wds,sz];omega
 | .bi b x y=>by have:=jU x;have:=jU y;simp only [wds,sz,ax];omega
def wok (A:F):Prop:=∀ p∈wds A,p.2.length<=3/\("":Str)∉p.2
def xX {b:B} {x y:F} (h1:wok x) (h2:wok y):wok (.bi b x y):=λp hp=>(bC.mp hp).elim (h1 p) (h2 p)
def isN (t:Str):Bool:=!(decide (t.length > 0) && t.cps.all pE)
def ND (n:Nat) (t:Str):PP.run Gs gls (n+1) 1 [.str t] = some (.bl (!isN t)):=by
 unfold isN;rw [xW];kernel_rfl
def Ia:∀ (A:F) (n:Nat),hF A+1<=n->sz A<=61->PP.run Gs gls n 2 [enc A] = some (.lst ((wds A).map wrd))
 | .word w ts,n+2,h,_=>by kernel_rfl
 | .neg a,n+2,h,hs=>by
   simp only [hF] at h;simp only [sz] at hs;have ih:=Ia a (n+1) (by omega) (by omega);have hl:=jU a;have ss:=s64;apply bR;have wi:PP.run Gs gls (n+1) 0 [enc (.neg a)] = some (.tup [enc a]):=by kernel_rfl
   refine bx eE rfl rfl rfl ?_;simp only [eE,init,SI,Nat.reduceAdd,Nat.reduceSub];refine fg 2 [.val (enc (.neg a)),.own [],.no] ⋯ ?_;simp only [kx,↓bG wi,↓gZ,↓iC,↓bG ih,ay,aM,fi,↓WS,WI,↓reduceIte]
   exact ⟨by omega,rfl⟩
 | .bi b x y,n+2,h,hs=>by
   simp only [hF] at h;simp only [sz] at hs;have ih1:=Ia x (n+1) (by omega) (by omega);have ih2:=Ia y (n+1) (by omega) (by omega);have hl1:=jU x;have hl2:=jU y;have ss:=s64;apply bR;have wi:PP.run Gs gls (n+1) 0 [enc (.bi b x y)] = some (.tup [enc x,enc y]):=by cases b<;>kernel_rfl
   refine bx eE rfl rfl rfl ?_;simp only [eE,init,SI,Nat.reduceAdd,Nat.reduceSub];refine fg 2 [.val (enc (.bi b x y)),.own [],.no] (by cases b<;>kernel_rfl) ?_;simp only [kx,↓bG wi,↓gZ,↓iC,↓bG ih1,↓bG ih2,ay,aM,fi,↓WS,WI,↓reduceIte]
   exact ⟨by omega,by omega,by simp only [wds,bT]⟩
 | A,0,h,_=>by omega
 | A,1,h,_=>by cases A<;>simp only [hF] at h<;>omega
def xg:∀ l:List (Str × List Str),(∀ p∈l,p.2.length<=3)->(l.flatMap λp=>p.2.filter isN).length<=3 * l.length
 | [],_=>ao _
 | p::l,h=>by
   have:=xg l λq hq=>h q (ak _ hq);have:=h p au;have:=iG isN p.2;rw [pj,ax,aB];omega
def FN (l:List (Str × List Str)):(l.flatMap λp=>(p.2.filter isN).map D.str) = (l.flatMap λp=>p.2.filter isN).map D.str:=by
 induction l with
 | nil=>rfl
 | cons p l ih=>simp [pj,ih]
def OZ (n:Nat) (A:F) (hs:sz A<=37) (hA:wok A) (h:hF A+1<=n):∃ xs:List Str,("":Str)∉xs/\PP.run Gs gls (n+1) 3 [enc A] = some (.lst (xs.map .str)):=by
 refine ⟨sdT ((wds A).flatMap λp=>p.2.filter isN),λz=>?_,?_⟩
 . obtain ⟨p,hp,h2⟩:=List.mem_flatMap.mp (HV.mp z);exact (hA p hp).2 (dS.mp h2).1
 have e:=Ia A n h (by omega);have l1:=xg (wds A) λp hp=>(hA p hp).1;have l2:=jU A;have l3:=Cd (xs:=(wds A).flatMap λp=>p.2.filter isN) λx hx=>hx;apply bR;refine bx kl rfl rfl rfl ?_;simp only [kl,init,SI,Nat.reduceAdd,Nat.reduceSub];obtain ⟨n',rfl⟩:∃ n',n = n'+1:=⟨n - 1,by omega⟩;simp only [↓Hv,↓bG e,↓WS,WI,↓reduceIte];refine vC wrd (λp=>(p.2.filter isN).map D.str) _ ?_ ?_
 . intro p _;unfold wrd;simp only [SI,↓WS,WI,↓reduceIte];refine tP D.str isN D.str (λδ=>∃ s:Sl,δ = [.val (enc A),.val (.tup [.str "word",.str p.1,.tup (p.2.map .str)]),s]) _ _ ?_ ⟨_,rfl⟩ ?_
   . rintro t _ δ ⟨s,rfl⟩;simp only [↓bG (ND _ t),xW,↓WS,WI,↓reduceIte];refine ⟨trivial,?_⟩;split
     . exact ⟨trivial,_,rfl⟩
     . exact ⟨_,rfl⟩
   . rintro δ ⟨s,rfl⟩;exact ⟨rfl,rfl⟩
 . rw [FN];refine ⟨_,strs_map _,⟨by omega,by omega⟩,?_⟩;rw [KY]
def nice (I:D):Prop:=I = leaf "no"\/I = leaf "yes"\/∃ A,I = enc A/\sz A<=37/\wok A
def Ic {I:D} (h:nice I) (n:Nat) (hn:39<=n):∃ xs:List Str,("":Str)∉xs/\PP.run Gs gls (n+1) 3 [I] = some (.lst (xs.map .str)):=by
 obtain ⟨m,rfl⟩:∃ m,n = m+2:=⟨n - 2,by omega⟩;rcases h with rfl | rfl | ⟨A,rfl,h1,h2⟩
 . exact ⟨[],↥0,⋯⟩
 . exact ⟨[],↥0,⋯⟩
 . exact OZ (m+2) A h1 h2 (by have:=sU A;omega)
def EY {xs:List Str} (h:("":Str)∉xs):jl .isin (.str "") (.lst (xs.map .str)) = some false:=by
 have d:=qU xs;show (if dep (.str "")<=150/\cJ (xs.map D.str) < 99999 then some ((xs.map D.str).any λy=>eqD y (.str "")) else none) = _;rw [if_pos ⟨by rw [iO];omega,by omega⟩];congr 1;rw [GZ];intro y hy e;obtain ⟨t,ht,rfl⟩:=cL.mp hy;unfold eqD at e;rw [show t = "" by simpa using e] at ht;exact h ht
def shr (ones others:List It):List F:=(ones.filter λp=>p.1 && has others (false,p.2)).map (·.2)
structure R where
 I:D
 f:D
 s:D
def R.d (r:R):D:=.tup [r.I,r.f,r.s]
def pcl (ones others:List It):R :=
 if cl ones = true then ⟨leaf "no",CL,CL⟩ else if cl others = true then ⟨leaf "yes",CL,CL⟩ else
  match shr ones others with
  | A::_=>⟨enc A,CL,CL⟩
  | []=>match shr others ones with
    | A::_=>⟨enc (.neg A),rk (.neg false A) CL,rk (.neg true A) CL⟩
    | []=>⟨leaf "no",CL,CL⟩
def step (k:K) (first:Bool) (r:R):R:=if first = true then ⟨r.I,rk k r.f,r.s⟩ else ⟨r.I,r.f,rk k r.s⟩
def prt:List It->List It->List K->R
 | ones,others,[]=>pcl ones others
 | ones,others,k::ks=>step k (has ones k.it) (if has ones k.it = true then prt (mo (ones++k.br)) others ks else prt ones (mo (others++k.br)) ks)
def zN {ones others:List It} (h:low others) {A:F}:A∈shr ones others↔(true,A)∈ones/\(false,A)∈others:=by
 unfold shr;rw [cL];constructor
 . rintro ⟨⟨b,B⟩,hp,rfl⟩;rw [dS,aa,lG h] at hp;obtain ⟨h1,h2,h3⟩:=hp;have e:b = true:=h2;rw [e] at h1;exact ⟨h1,h3⟩
 . rintro ⟨h1,h2⟩;exact ⟨_,dS.mpr ⟨h1,by rw [aa,lG h];exact ⟨rfl,h2⟩⟩,rfl⟩
def wo (n:Nat) (ones others:List It) (h1:low ones) (h2:low others) (hl:ones.length<=1000):PP.run Gs gls (n+1) 21 [.tup (ones.map itD),.tup (others.map itD)] = some (.lst ((shr ones others).map enc)):=by
 have ss:=s64;apply bR;refine bx iw rfl rfl rfl ?_;simp only [iw,init,SI,Nat.reduceAdd,Nat.reduceSub];simp only [↓WS,WI,↓reduceIte];refine hJ itD (λp=>p.1 && has others (false,p.2)) (λp=>enc p.2) ones (λp hp=>?_) ⟨?_,?_⟩
 . obtain ⟨b,A⟩:=p;show wTg [Sl.val (D.tup (ones.map itD)),.val (D.tup (others.map itD)),.no,.no] (Tg.tp [2,3]) (D.tup [D.str (sd b),enc A]) _;simp only [↓tK,NC,SI,↓WS,WI,↓reduceIte]
   cases b with
   | false=>exact ⟨rfl,rfl⟩
   | true =>
     refine ⟨⇑0,wX (q:=(false,A)) h2 (h1 (true,A) hp),rfl,?_⟩;exact Fy (λz=>⟨trivial,rfl⟩) λz=>rfl
 . have:=iG (λp:It=>p.1 && has others (false,p.2)) ones;rw [ay];omega
 . unfold shr;rw [xT];rfl
def un (ones others:List It) (p:It):Prop:=p∈ones\/p∈others
def wz {ones others:List It} (h1:low ones) (h2:low others) (k:clo (un ones others)) (c1:cl ones = false) (c2:cl others = false) (c3:shr ones others = []):∃ A r,shr others ones = A::r:=by
 cases e:shr others ones with
 | cons A r=>exact ⟨A,r,rfl⟩
 | nil =>
   exfalso;obtain ⟨A,k1 | k1,k2 | k2⟩:=k
   . rw [(yV h1).mpr ⟨A,k1,k2⟩] at c1;cases c1
   . have:=(zN h2).mpr ⟨k1,k2⟩;rw [c3] at this;cases this
   . have:=(zN h1).mpr ⟨k1,k2⟩;rw [e] at this;cases this
   . rw [(yV h2).mpr ⟨A,k1,k2⟩] at c2;cases c2
def ix0 {a:D} {l:List D}:ixD (.lst (a::l)) (.int 0) = some a:=atI_nat (j:=0) rfl
def Ej (n:Nat) (ones others:List It) (h1:low ones) (h2:low others) (l1:ones.length<=1000) (l2:others.length<=1000) (k:clo (un ones others)):PP.run Gs gls (n+2) 22 [.tup (ones.map itD),.tup (others.map itD)] = some (pcl ones others).d:=by
 have w1:=qy n ones h1 l1;have w2:=qy n others h2 l2;have w3:=wo n ones others h1 h2 l1;have w4:=wo n others ones h2 h1 l2;apply bR;refine bx gJ rfl rfl rfl ?_;simp only [gJ,init,SI,Nat.reduceAdd,Nat.reduceSub];unfold pcl;refine bN (cl ones) (kg [.tup (ones.map itD)] ⋯ w1) (λz=>?_) λz=>?_
 . rw [if_pos z];exact jF (d:=.tup [leaf "no",CL,CL]) ⋯ rfl
 rw [if_neg (by rw [z];exact aj)];refine bN (cl others) (kg [.tup (others.map itD)] ⋯ w2) (λz2=>?_) λz2=>?_
 . rw [if_pos z2];exact jF (d:=.tup [leaf "yes",CL,CL]) ⋯ rfl
 rw [if_neg (by rw [z2];exact aj)];refine cM [.tup (ones.map itD),.tup (others.map itD)] ⋯ ((bG w3).mpr ⟨_,rfl,?_⟩)
 cases c3:shr ones others with
 | cons A r =>
   refine bN true ⋯ (λ_=>?_) λz=>by cases z
   exact lz (.tup [enc A,CL,CL]) (nA (bB (mF (x:=.lst (enc A::r.map enc)) ⋯ ⋯ ix0) ⋯) (show 3<=sizeLine by decide)) rfl
 | nil =>
   obtain ⟨A,r,c4⟩:=wz h1 h2 k z z2 c3;rw [c4] at w4 |-;refine bN false ⋯ (λz=>by cases z) λ_=>?_;refine cM [.tup (others.map itD),.tup (ones.map itD)] ⋯ ((bG w4).mpr ⟨_,rfl,?_⟩);have w5:PP.run Gs gls (n+1) 20 [enc (.neg A),.str "",.lst [CL],.lst [CL]] = some (R.d ⟨enc (.neg A),rk (.neg false A) CL,rk (.neg true A) CL⟩):=by kernel_rfl
   exact gX [enc (.neg A),.str "",.lst [CL],.lst [CL]] (bB (nA (bB (d:=.str "not") ⋯ (bB (mF (x:=.lst (enc A::r.map enc)) ⋯ ⋯ ix0) rfl)) (show 2<=sizeLine by decide)) ⋯) ((bG w5).mpr rfl)
def rp (A:F):Prop:=sz A<=36/\wok A
def fq (row:List It):Prop:=∀ p∈row,rp p.2
def okP (ks:List K):Prop:=∀ k∈ks,rp k.A
def fq.low {row:List It} (h:fq row):low row:=λp hp=>by have:=(h p hp).1;omega
def okP.T {ks:List K} (h:okP ks):okT ks:=λk hk=>by have:=(h k hk).1;omega
def okP.tl {k:K} {ks:List K} (h:okP (k::ks)):okP ks:=λq hq=>h q (ak _ hq)
def okP.hd {k:K} {ks:List K} (h:okP (k::ks)):rp k.A:=h k au
def uf {l:List It} (h:fq l):fq (mo l):=λp hp=>h p (qI.mp hp)
def qw {a b:List It} (h:fq a) (h2:fq b):fq (a++b):=λp hp=>(bC.mp hp).elim (h p) (h2 p)
def wg {p:It} (h:rp p.2):fq [p]:=λq hq=>by rw [aP.mp hq];exact h
def HX {k:K} (h:rp k.A):fq k.br:=λp hp=>by
 obtain ⟨h1,h2⟩:=h
 cases k with
 | neg L a =>
   rw [aP.mp hp];simp only [K.A,sz] at h1
   exact ⟨by show sz a<=36;omega,h2⟩
 | bi b x y =>
   simp only [K.A,sz] at h1;rcases aQ.mp hp with e | e
   . rw [e];exact ⟨by show sz x<=36;omega,λq hq=>h2 q (dU _ hq)⟩
   . rw [aP.mp e];exact ⟨by show sz y<=36;omega,λq hq=>h2 q (bo _ hq)⟩
def eS {ps:List It} {k:K} (h:fq ps) (hk:rp k.A):fq (mo (ps++k.br)):=uf (qw h (HX hk))
def yv {ones others:List It} (h:fq ones):∀ A∈shr ones others,rp A:=λA hA=>by
 unfold shr at hA;obtain ⟨p,hp,rfl⟩:=cL.mp hA;exact h p (dS.mp hp).1
def ED {ones others:List It} (h1:fq ones) (h2:fq others):nice (pcl ones others).I:=by
 unfold pcl;split
 . exact .inl rfl
 split
 . exact .inr (.inl rfl)
 split
 . rename_i A r e;have:=yv (others:=others) h1 A (by rw [e];exact au);exact .inr (.inr ⟨A,rfl,by have:=this.1;omega,this.2⟩)
 split
 . rename_i A r e;have:=yv (others:=ones) h2 A (by rw [e];exact au);exact .inr (.inr ⟨.neg A,rfl,by have:=this.1;simp only [sz];omega,this.2⟩)
 . exact .inl rfl
def KH (k:K) (b:Bool) (r:R):(step k b r).I = r.I:=by cases b<;>rfl
def kP:∀ {ks:List K} {ones others:List It},fq ones->fq others->okP ks->nice (prt ones others ks).I
 | [],ones,others,h1,h2,_=>ED h1 h2
 | k::ks,ones,others,h1,h2,o=>by
   rw [prt,KH];split
   . exact kP (eS h1 o.hd) h2 o.tl
   . exact kP h1 (eS h2 o.hd) o.tl
def zV (n:Nat) (k:K) (ks:List K) (o:okT (k::ks)) (hl:ks.length<=500) (d:D):PP.run Gs gls (n+1) 12 [bS (k::ks),.lst [d]] = some (rk k d):=by
 apply bR;refine bx jw rfl rfl rfl ?_;simp only [jw,init,SI,Nat.reduceAdd,Nat.reduceSub];exact lz (rk k d) (AF (x:=bS (k::ks)) (y:=rk k d) (cw ⋯ ⋯ (isC _ o (by rw [aB];omega))) ⋯ ⋯) rfl
def FQ (ha:evT cx a δ = some (false,δ)):evT cx (.and a b) δ = some (false,δ):=by
 simp only [evT,ha,af,aV];rfl
def JJ (n:Nat) (row:List It) (k:K) (ks:List K) (o:okT (k::ks)) (hl:ks.length<=500) (hn:40<=n) (b:Bool) (r:R) (hr:nice r.I):PP.run Gs gls (n+1) 23 [.tup (row.map itD),bS (k::ks),.bl b,r.d] = some (step k b r).d:=by
 obtain ⟨I,f,s⟩:=r;obtain ⟨m,rfl⟩:∃ m,n = m+1:=⟨n - 1,by omega⟩;obtain ⟨xs,hx,w⟩:=Ic hr m (by omega);have w1:=zV m k ks o hl f;have w2:=zV m k ks o hl s
 have fin:∀ d f s:D,wSs ⟨PP.run Gs gls (m+1),gls,hfs Gs⟩ (kx 2 gK.body) [.val (.tup (row.map itD)),.val (bS (k::ks)),.val (.bl b),.val d,.val I,.val f,.val s,.no,.no] (retS λd=>d = .tup [I,f,s]):=λd f s=>by
  refine fg 1 [.val (.tup (row.map itD)),.val (bS (k::ks)),.val (.bl b),.val d,.val I,.val f,.val s,.val (.str ""),.no] ⋯ ?_;refine bN false (FQ (cw ⋯ (cG [I] ⋯ w) (EY hx))) (λz=>by cases z) λ_=>?_;exact jF (d:=.tup [I,f,s]) ⋯ rfl
 apply bR;refine bx gK rfl rfl rfl ?_;simp only [gK,init,SI,Nat.reduceAdd,Nat.reduceSub];refine fg 1 [.val (.tup (row.map itD)),.val (bS (k::ks)),.val (.bl b),.val (.tup [I,f,s]),.val I,.val f,.val s,.no,.no] ⋯ ?_
 cases b with
 | true =>
   refine bN true ⋯ (λ_=>?_) λz=>by cases z
   exact cM [bS (k::ks),.lst [f]] ⋯ ((bG w1).mpr ⟨_,rfl,fin _ (rk k f) s⟩)
 | false =>
   refine bN false ⋯ (λz=>by cases z) λ_=>?_;exact cM [bS (k::ks),.lst [s]] ⋯ ((bG w2).mpr ⟨_,rfl,fin _ f (rk k s)⟩)
def Nq {ones others:List It} {ks:List K} {l:List It} (k:prf (λp=>un ones others p\/p∈l) ks):prf (un (mo (ones++l)) others) ks:=je (λp z=>by
 rcases z with (z | z) | z
 . exact .inl (ka.mpr (.inl z))
 . exact .inr z
 . exact .inl (ka.mpr (.inr z))) k
def Np {ones others:List It} {ks:List K} {l:List It} (k:prf (λp=>un ones others p\/p∈l) ks):prf (un ones (mo (others++l))) ks:=je (λp z=>by
 rcases z with (z | z) | z
 . exact .inl z
 . exact .inr (ka.mpr (.inl z))
 . exact .inr (ka.mpr (.inr z))) k
def uh:∀ (ks:List K) (ones others:List It) (n:Nat),fq ones->fq others->okP ks->ks.length+42<=n->ones.length+2 * ks.length<=800->others.length+2 * ks.length<=800->prf (un ones others) ks->PP.run Gs gls n 24 [.tup (ones.map itD),.tup (others.map itD),bS ks] = some (prt ones others ks).d
 | [],ones,others,n+1,h1,h2,o,hn,l1,l2,k=>by
   rw [aM] at hn l1 l2;obtain ⟨m,rfl⟩:∃ m,n = m+2:=⟨n - 2,by omega⟩;have w:=Ej m ones others h1.low h2.low (by omega) (by omega) k;apply bR;refine bx eU rfl rfl rfl ?_;simp only [eU,init,SI,Nat.reduceAdd,Nat.reduceSub];refine bN true (cw ⋯ ⋯ (isC [] o.T ⇑0)) (λ_=>?_) λz=>by cases z
   exact gX [.tup (ones.map itD),.tup (others.map itD)] ⋯ ((bG w).mpr rfl)
 | k::ks,ones,others,n+1,h1,h2,o,hn,l1,l2,w=>by
   rw [aB] at hn l1 l2;obtain ⟨m,rfl⟩:∃ m,n = m+4:=⟨n - 4,by omega⟩;have bl:=vf k;have q1:=gh ones k.br;have q2:=gh others k.br;have w1:=zX m k;have m1:=ui (m+2) ones k.br _ (.inl rfl) (h1.low.app (oH o.T.hd)) (by omega);have m2:=ui (m+2) others k.br _ (.inl rfl) (h2.low.app (oH o.T.hd)) (by omega);have g1:=uh ks (mo (ones++k.br)) others (m+4) (eS h1 o.hd) h2 o.tl (by omega) (by omega) (by omega) (Nq w.2);have g2:=uh ks ones (mo (others++k.br)) (m+4) h1 (eS h2 o.hd) o.tl (by omega) (by omega) (by omega) (Np w.2);have e1:=JJ (m+3) ones k ks o.T (by omega) (by omega) true _ (kP (ks:=ks) (eS h1 o.hd) h2 o.tl);have e2:=JJ (m+3) others k ks o.T (by omega) (by omega) false _ (kP (ks:=ks) h1 (eS h2 o.hd) o.tl);rw [prt];apply bR;refine bx eU rfl rfl rfl ?_;simp only [eU,init,SI,Nat.reduceAdd,Nat.reduceSub];refine bN false (cw ⋯ ⋯ (isC (k::ks) o.T (by rw [aB];omega))) (λz=>by cases z) λ_=>?_;refine fg 1 [.val (.tup (ones.map itD)),.val (.tup (others.map itD)),.val (bS (k::ks)),.val (.str (sd k.L)),.val (enc k.A),.val (.str ""),.val (.tup [bS ks]),.no,.no,.no,.no] ⋯ ?_;refine fZ (.bl (has ones k.it)) (uJ (x:=itD k.it) ⋯ ⋯ (qZ h1.low o.T.hd)) ⟨_,rfl,?_⟩;refine fg 1 [.val (.tup (ones.map itD)),.val (.tup (others.map itD)),.val (bS (k::ks)),.val (.str (sd k.L)),.val (enc k.A),.val (.str ""),.val (.tup [bS ks]),.val (.bl (has ones k.it)),.own [],.no,.no] ⋯ ?_;refine lA [D.tup [.lst (k.br.map itD),bS ks]] (Mx (ds:=[.lst [.lst (k.br.map itD)],.tup [bS ks]]) (bB (cG [.str (sd k.L),enc k.A,.str ""] ⋯ w1) ⋯) ⋯) ?_;refine gZ.mpr ⟨[.val (.tup (ones.map itD)),.val (.tup (others.map itD)),.val (bS (k::ks)),.val (.str (sd k.L)),.val (enc k.A),.val (.str ""),.val (.tup [bS ks]),.val (.bl (has ones k.it)),.own [],.val (.lst (k.br.map itD)),.val (bS ks)],rfl,?_⟩
   cases z:has ones k.it with
   | true =>
     rw [if_pos rfl];refine bN true ⋯ (λ_=>?_) λz=>by cases z
     refine ja _ (ds:=[]) (cG [.tup ((mo (ones++k.br)).map itD),.tup (others.map itD),bS ks] (bB (cG [.tup (ones.map itD),.lst (k.br.map itD)] ⋯ m1) ⋯) g1) (by rfl) (show 0 < sizeLine by decide) ?_;refine fw.mpr (fV.mpr (iC.mpr (jJ.mpr ?_)));refine bN false ⋯ (λz=>by cases z) λ_=>?_
     exact gX [.tup (ones.map itD),bS (k::ks),.bl true,(prt (mo (ones++k.br)) others ks).d] ⋯ ((bG e1).mpr rfl)
   | false =>
     rw [if_neg aj];refine bN false ⋯ (λz=>by cases z) λ_=>?_;refine ja _ (ds:=[]) (cG [.tup (ones.map itD),.tup ((mo (others++k.br)).map itD),bS ks] (bB ⋯ (bB (cG [.tup (others.map itD),.lst (k.br.map itD)] ⋯ m2) ⋯)) g2) (by rfl) (show 0 < sizeLine by decide) ?_;refine fw.mpr (fV.mpr (iC.mpr (jJ.mpr ?_)));refine bN false ⋯ (λz=>by cases z) λ_=>?_
     exact gX [.tup (others.map itD),bS (k::ks),.bl false,(prt ones (mo (others++k.br)) ks).d] ⋯ ((bG e2).mpr rfl)
 | ks,_,_,0,_,_,_,hn,_,_,_=>by omega
def Ek (ks:List K) (ones others:List It) (h1:fq ones) (h2:fq others) (o:okP ks) (hd:ks.length<=31) (l1:ones.length<=100) (l2:others.length<=100) (k:prf (un ones others) ks):PP.run Gs gls 199 25 [.tup (ones.map itD),.tup (others.map itD),bS ks] = some (prt ones others ks).d:=by
 have ll:=gh ones others;have w1:=ui 196 ones others _ (.inr rfl) (h1.low.app h2.low) (by omega);have w2:=Em ks (mo (ones++others)) 198 (Fc (h1.low.app h2.low)) o.T (by omega) (by omega) (je (λp z=>ka.mpr z) k);have w3:=Lc ks 196 o.T (by omega) (by omega);have w4:=uh ks ones others 198 h1 h2 o (by omega) (by omega) (by omega) k;apply bR;refine bx nC rfl rfl rfl ?_;simp only [nC,init,SI,Nat.reduceAdd,Nat.reduceSub];refine bN (!true) (uI (kg [.tup ((mo (ones++others)).map itD),bS ks] (bB (cG [.tup (ones.map itD),.tup (others.map itD)] ⋯ w1) ⋯) w2)) (λz=>by cases z) λ_=>?_;refine bN false (cw (y:=.int 0) (cG [bS ks] ⋯ w3) ⋯ ⋯) (λz=>by cases z) λ_=>?_;exact gX [.tup (ones.map itD),.tup (others.map itD),bS ks] ⋯ ((bG w4).mpr rfl)
def wc (p:It) (ps qs:List It):shr (p::ps) qs = if (p.1 && has qs (false,p.2)) = true then p.2::shr ps qs else shr ps qs:=by
 unfold shr;rw [qb];split<;>rfl
def NU {ones others:List It} {A:F} {r:List F} (c1:cl ones = false) (c2:cl others = false) (c3:shr ones others = A::r):pcl ones others = ⟨enc A,CL,CL⟩:=by
 unfold pcl;rw [c1,c2,c3];rfl
def NS {ones others:List It} {A:F} {r:List F} (c1:cl ones = false) (c2:cl others = false) (c3:shr ones others = []) (c4:shr others ones = A::r):pcl ones others = ⟨enc (.neg A),rk (.neg false A) CL,rk (.neg true A) CL⟩:=by
 unfold pcl;rw [c1,c2,c3,c4];rfl
def Ie (n:Nat) (ones others:List It) (h1:low ones) (h2:low others) (k:clo (un ones others)):PP.run Gs gls (n+2) 38 [.tup (ones.map itD),.tup (others.map itD)] = some (pcl ones others).d:=by
 have w1:=sE n ones h1;have w2:=sE n others h2;apply bR;refine bx fE rfl rfl rfl ?_;simp only [fE,init,SI,Nat.reduceAdd,Nat.reduceSub];refine bN (cl ones) (kg [.tup (ones.map itD)] ⋯ w1) (λz=>?_) λc1=>?_
 . unfold pcl;rw [if_pos z];exact jF (d:=.tup [leaf "no",CL,CL]) ⋯ rfl
 refine bN (cl others) (kg [.tup (others.map itD)] ⋯ w2) (λz2=>?_) λc2=>?_
 . unfold pcl;rw [c1,if_neg aj,if_pos z2];exact jF (d:=.tup [leaf "yes",CL,CL]) ⋯ rfl
 refine lA (ones.map itD) ⋯ ?_;refine jb (g:=itD) (λrest δ=>∃ s2 s3:Sl,δ = [.val (.tup (ones.map itD)),.val (.tup (others.map itD)),s2,s3,.no,.no]/\(∀ p∈rest,p∈ones)/\shr rest others = shr ones others) ?_ ?_ _ _ ⟨_,_,rfl,λp hp=>hp,rfl⟩
 . rintro ⟨b,A⟩ rest δ ⟨s2,s3,rfl,hm,e⟩;have hA:sz A<=61:=h1 (b,A) (hm _ au);rw [wc] at e;refine ⟨[.val (.tup (ones.map itD)),.val (.tup (others.map itD)),.val (.str (sd b)),.val (enc A),.no,.no],rfl,?_⟩;refine bN (b && has others (false,A)) (nz (cw ⋯ ⋯ (Gk b)) (cw (x:=itD (false,A)) ⋯ ⋯ (qZ h2 hA))) (λz=>?_) λz=>?_
   . rw [if_pos z] at e;rw [NU c1 c2 e.symm];exact ⟨.rt (.tup [enc A,CL,CL]) [.val (.tup (ones.map itD)),.val (.tup (others.map itD)),.val (.str (sd b)),.val (enc A),.no,.no],⋯,rfl⟩
   . rw [if_neg (by rw [z];exact aj)] at e;exact fw.mpr (fV.mpr ⟨_,_,rfl,λp hp=>hm p (ak _ hp),e⟩)
 . rintro δ ⟨s2,s3,rfl,_,e⟩;have c3:shr ones others = []:=e.symm;obtain ⟨A0,r,c4⟩:=wz h1 h2 k c1 c2 c3;refine lA (others.map itD) ⋯ ?_;refine jb (g:=itD) (λrest δ=>∃ s2 s3:Sl,δ = [.val (.tup (ones.map itD)),.val (.tup (others.map itD)),s2,s3,.no,.no]/\(∀ p∈rest,p∈others)/\shr rest ones = shr others ones) ?_ ?_ _ _ ⟨_,_,rfl,λp hp=>hp,rfl⟩
   . rintro ⟨b,A⟩ rest δ ⟨s2,s3,rfl,hm,e⟩;have hA:sz A<=61:=h2 (b,A) (hm _ au);rw [wc] at e;refine ⟨[.val (.tup (ones.map itD)),.val (.tup (others.map itD)),.val (.str (sd b)),.val (enc A),.no,.no],rfl,?_⟩;refine bN (b && has ones (false,A)) (nz (cw ⋯ ⋯ (Gk b)) (cw (x:=itD (false,A)) ⋯ ⋯ (qZ h1 hA))) (λz=>?_) λz=>?_
     . rw [if_pos z] at e;rw [NS c1 c2 c3 e.symm];exact ⟨.rt (R.d ⟨enc (.neg A),rk (.neg false A) CL,rk (.neg true A) CL⟩) [.val (.tup (ones.map itD)),.val (.tup (others.map itD)),.val (.str (sd b)),.val (enc A),.val (enc (.neg A)),.val (rk (.neg false A) CL)],⋯,rfl⟩
     . rw [if_neg (by rw [z];exact aj)] at e;exact fw.mpr (fV.mpr ⟨_,_,rfl,λp hp=>hm p (ak _ hp),e⟩)
   . rintro δ ⟨s2,s3,rfl,_,e⟩;rw [c4] at e;cases e
structure Wk where
 b:Bool
 k:K
 ks:List K
def Wk.d (w:Wk):D:=.tup [.bl w.b,bS (w.k::w.ks)]
def bk (ws:List Wk) (r:R):R:=ws.foldr (λw r=>step w.k w.b r) r
def whC:Ss->E
 | .cons _ (.cons (.while_ c _) _)=>c
 | _=>.non
def whB:Ss->Ss
 | .cons _ (.cons (.while_ _ b) _)=>b
 | _=>.nil
def yz (n:Nat) (Q:Out->Prop):∀ (f:Nat) (ks:List K) (ones others:List It) (ws:List Wk) (s4 s5:Sl),ks.length < f->fq ones->fq others->okP ks->ones.length+2 * ks.length<=800->others.length+2 * ks.length<=800->ws.length+ks.length<=900->prf (un ones others) ks ->
 (∀ (ones' others':List It) (ws':List Wk) (s4 s5:Sl),fq ones'->fq others'->clo (un ones' others')->bk ws' (pcl ones' others') = bk ws (prt ones others ks)->Q (.nx [.val (.tup (ones'.map itD)),.val (.tup (others'.map itD)),.val CL,.own (ws'.map Wk.d),s4,s5,.no,.no,.no,.no])) ->
 qf ⟨PP.run Gs gls (n+4),gls,hfs Gs⟩ (whC ig.body) (whB ig.body) f [.val (.tup (ones.map itD)),.val (.tup (others.map itD)),.val (bS ks),.own (ws.map Wk.d),s4,s5,.no,.no,.no,.no] Q
 | 0,ks,ones,others,ws,s4,s5,h,_,_,_,_,_,_,_,_=>by omega
 | f+1,[],ones,others,ws,s4,s5,h,h1,h2,o,l1,l2,l3,w,q=>by
   rw [oU];refine ⟨false,[.val (.tup (ones.map itD)),.val (.tup (others.map itD)),.val CL,.own (ws.map Wk.d),s4,s5,.no,.no,.no,.no],⋯,?_⟩;dsimp only;rw [if_neg aj]
   exact q ones others ws s4 s5 h1 h2 w rfl
 | f+1,k::ks,ones,others,ws,s4,s5,h,h1,h2,o,l1,l2,l3,w,q=>by
   rw [aB] at h l1 l2 l3;have ss:=s64;have bl:=vf k;have q1:=gh ones k.br;have q2:=gh others k.br;have m1:=pL (n+2) ones k.br _ _ (.inr rfl) rfl (h1.low.app (oH o.T.hd)) (by omega);have m2:=pL (n+2) others k.br _ _ (.inr rfl) rfl (h2.low.app (oH o.T.hd)) (by omega);rw [oU];refine ⟨true,[.val (.tup (ones.map itD)),.val (.tup (others.map itD)),.val (bS (k::ks)),.own (ws.map Wk.d),s4,s5,.no,.no,.no,.no],⋯,?_⟩;dsimp only;rw [if_pos rfl];refine fZ (.bl (has ones k.it)) (uJ (x:=itD k.it) ⋯ ⋯ (qZ h1.low o.T.hd)) ⟨_,rfl,?_⟩;refine fZ (.lst (k.br.map itD)) (mF (x:=.lst [.lst (k.br.map itD)]) (y:=.int 0) (cG [.str (sd k.L),enc k.A,.str ""] ⋯ (yA (n+3) k)) ⋯ ⋯) ⟨_,rfl,?_⟩
   have fin:∀ b:Bool,bk (ws++[⟨b,k,ks⟩]) = λr=>bk ws (step k b r):=λb=>by
    funext r
    unfold bk;rw [GW];rfl
   cases z:has ones k.it with
   | true =>
     rw [prt,z,if_pos rfl] at q;refine bN true ⋯ (λ_=>?_) λz=>by cases z
     refine cM [.tup (ones.map itD),.lst (k.br.map itD)] ⋯ ((bG m1).mpr ⟨_,rfl,?_⟩);refine ja (Wk.d ⟨true,k,ks⟩) ⋯ (by rfl) (by rw [ay];omega) ?_;refine fZ (bS ks) ⋯ ⟨_,rfl,fw.mpr (fV.mpr ?_)⟩;have r:=yz n Q f ks (mo (ones++k.br)) others (ws++[⟨true,k,ks⟩]) (.val (.bl true)) (.val (.lst (k.br.map itD))) (by omega) (eS h1 o.hd) h2 o.tl (by omega) (by omega) (by rw [ax,bZ];omega) (Nq w.2) (by rw [fin];exact q);rw [bT] at r
     exact r
   | false =>
     rw [prt,z,if_neg aj] at q;refine bN false ⋯ (λz=>by cases z) λ_=>?_;refine cM [.tup (others.map itD),.lst (k.br.map itD)] ⋯ ((bG m2).mpr ⟨_,rfl,?_⟩);refine ja (Wk.d ⟨false,k,ks⟩) ⋯ (by rfl) (by rw [ay];omega) ?_;refine fZ (bS ks) ⋯ ⟨_,rfl,fw.mpr (fV.mpr ?_)⟩;have r:=yz n Q f ks ones (mo (others++k.br)) (ws++[⟨false,k,ks⟩]) (.val (.bl false)) (.val (.lst (k.br.map itD))) (by omega) h1 (eS h2 o.hd) o.tl (by omega) (by omega) (by rw [ax,bZ];omega) (Np w.2) (by rw [fin];exact q);rw [bT] at r;exact r
def NF (n:Nat) (ks:List K) (ones others:List It) (h1:fq ones) (h2:fq others) (o:okP ks) (l1:ones.length+2 * ks.length<=800) (l2:others.length+2 * ks.length<=800) (l3:ks.length<=900) (w:prf (un ones others) ks):PP.run Gs gls (n+5) 41 [.tup (ones.map itD),.tup (others.map itD),bS ks] = some (prt ones others ks).d:=by
 apply bR;refine bx ig rfl rfl rfl ?_;simp only [ig,init,SI,Nat.reduceAdd,Nat.reduceSub];refine fg 1 [.val (.tup (ones.map itD)),.val (.tup (others.map itD)),.val (bS ks),.own [],.no,.no,.no,.no,.no,.no] ⋯ ?_;refine dC.mpr (Dc.mpr ?_);refine yz n _ 1000 ks ones others [] .no .no (by omega) h1 h2 o l1 l2 (by rw [aM];omega) w ?_;intro ones' others' ws s4 s5 g1 g2 c e;refine jJ.mpr ?_;refine cM [.tup (ones'.map itD),.tup (others'.map itD)] ⋯ ((bG (Ie (n+2) ones' others' g1.low g2.low c)).mpr ⟨_,rfl,?_⟩);refine dC.mpr (tM.mpr ⟨(ws.map Wk.d).reverse,[.val (.tup (ones'.map itD)),.val (.tup (others'.map itD)),.val CL,.val (.lst (ws.map Wk.d)),s4,s5,.val (pcl ones' others').I,.val (pcl ones' others').f,.val (pcl ones' others').s,.no],⋯,?_⟩);rw [<- List.map_reverse];refine jb (g:=Wk.d) (λrest δ=>∃ (r:R) (s4 s9:Sl),δ = [.val (.tup (ones'.map itD)),.val (.tup (others'.map itD)),.val CL,.val (.lst (ws.map Wk.d)),s4,s5,.val r.I,.val r.f,.val r.s,s9]/\bk rest.reverse r = prt ones others ks) ?_ ?_ _ _ ⟨_,_,_,rfl,by rw [List.reverse_reverse];exact e⟩
 . rintro ⟨b,k,us⟩ rest δ ⟨r,s4,s9,rfl,e⟩;rw [ph] at e;unfold bk at e;rw [GW] at e;refine ⟨[.val (.tup (ones'.map itD)),.val (.tup (others'.map itD)),.val CL,.val (.lst (ws.map Wk.d)),.val (.bl b),s5,.val r.I,.val r.f,.val r.s,.val (bS (k::us))],rfl,?_⟩
   cases b with
   | true=>exact ⟨.nx [.val (.tup (ones'.map itD)),.val (.tup (others'.map itD)),.val CL,.val (.lst (ws.map Wk.d)),.val (.bl true),s5,.val r.I,.val (rk k r.f),.val r.s,.val (bS (k::us))],⋯,_,_,_,rfl,e⟩
   | false=>exact ⟨.nx [.val (.tup (ones'.map itD)),.val (.tup (others'.map itD)),.val CL,.val (.lst (ws.map Wk.d)),.val (.bl false),s5,.val r.I,.val r.f,.val (rk k r.s),.val (bS (k::us))],⋯,_,_,_,rfl,e⟩
 . rintro δ ⟨r,s4,s9,rfl,e⟩;rw [<- show r = prt ones others ks from e];exact jF (d:=r.d) ⋯ rfl
def qi {a b:Int} {Q:D->Prop}:pA .dvm [.int a,.int b] Q↔(0 < b/\b < 1073741824)/\Q (.tup [.int (a / b),.int (a % b)]):=yi
def qz (n:Nat) (ns:List Int) (k:Int) (h0:0<=k) (h1:k<=1000):jk Gs gls (n+1) 27 [.lst (ns.map .int),.int k] λd=>∃ c:Int,d = .int c:=by
 refine bx jB rfl rfl rfl ?_;simp only [jB,init,SI,Nat.reduceAdd,Nat.reduceSub];simp only [↓WS,WI,↓reduceIte];rw [ay];split
 . rename_i h;obtain ⟨d,hm,e⟩:=AQ (ds:=ns.map D.int) h0 (by rw [ay];exact h);obtain ⟨c,_,rfl⟩:=cL.mp hm;exact ⟨_,e,c,rfl⟩
 . exact ⟨mul_r (by omega) (by omega),mul_r ⇑0 ⇑0,⇑0,_,rfl⟩
def e30:(10:Int) ^ gO 30 = 1000000000000000000000000000000:=by decide
def e31:(10:Int) ^ gO 31 = 10000000000000000000000000000000:=by decide
def Jm:(2:Nat) ^ 200 = 1606938044258990275541962092341162602522202993782792835301376:=by decide
def wq (n:Nat) (c:Int):jk Gs gls (n+1) 28 [.int c] λd=>∃ m:Int,d = .int m/\0<=m:=by
 refine bx km rfl rfl rfl ?_;simp only [km,init,SI,Nat.reduceAdd,Nat.reduceSub];simp only [↓WS,WI,↓reduceIte];rw [e30,e31];have a1:=cN c (show (1000000000000000000000000000000:Int)≠0 by decide);have a2:=cC c (show (0:Int) < 1000000000000000000000000000000 by decide);generalize c % 1000000000000000000000000000000 = x at a1 a2;have b1:=cN ((x+7) * 618970019642690137449562111) (show (1000000000000000000000000000000+57:Int)≠0 by decide);have b2:=cC ((x+7) * 618970019642690137449562111) (show (0:Int) < 1000000000000000000000000000000+57 by decide);generalize (x+7) * 618970019642690137449562111 % (1000000000000000000000000000000+57) = y at b1 b2 |-;have c1:=cN (y * y) (show (10000000000000000000000000000000+33:Int)≠0 by decide);exact ⟨⟨⇑0,⇑0,⇑0⟩,⇑0,JM (by rw [Jm];omega) (by rw [Jm];decide),⟨⇑0,⇑0,⇑0⟩,⇑0,JM (by rw [Jm];omega) (by rw [Jm];omega),⟨⇑0,⇑0,⇑0⟩,⇑0,c1⟩
def rL (n:Nat) (c k m:Int) (k0:0<=k) (k8:k<=8) (hm:0 < m):jk Gs gls (n+1) 29 [.int c,.int k,.int m] λd=>∃ r:Int,d = .int r/\0<=r/\r < m:=by
 refine bx lK rfl rfl rfl ?_;simp only [lK,init,SI,Nat.reduceAdd,Nat.reduceSub];simp only [↓WS,WI,↓reduceIte]
 have hv:∃ v:Int,(0 < v/\v < 1000000000000000000000000000000000000000000000000000000000000)/\atI [D.int 1,D.int (10 ^ gO 3),D.int (10 ^ gO 6),D.int (10 ^ gO 9),D.int (10 ^ gO 12),D.int (10 ^ gO 15),D.int (10 ^ gO 18),D.int (10 ^ gO 21),D.int (10 ^ gO 24)] k = some (.int v):=by
  rcases (show k = 0\/k = 1\/k = 2\/k = 3\/k = 4\/k = 5\/k = 6\/k = 7\/k = 8 by omega) with h | h | h | h | h | h | h | h | h<;>rw [h]<;>exact ⟨_,⇑0,rfl⟩
 obtain ⟨v,v1,ev⟩:=hv;have p:∀ k:Int,0<=k->k<=100->0<=k/\k<=1000000/\Int.natAbs 10 < 2 ^ 64:=λk a b=>⟨a,by omega,⇑0⟩;refine ⟨p _ ⇑0 ⇑0,p _ ⇑0 ⇑0,p _ ⇑0 ⇑0,p _ ⇑0 ⇑0,p _ ⇑0 ⇑0,p _ ⇑0 ⇑0,p _ ⇑0 ⇑0,p _ ⇑0 ⇑0,(show 9<=sizeLine by decide),_,ev,nY.mpr ⟨v1,mS.mpr ⟨⇑0,mS.mpr ⟨hm,_,rfl,cN _ (by omega),cC _ hm⟩⟩⟩⟩
def zW (n:Nat) (c:Int) (l:Str) (f:Int) (m:Nat) (f0:0 < f) (f1:f<=l.length) (hl:l.length<=100) (hm:m<=10):jk Gs gls (n+2) 30 [.int c,.str l,.int f,.int m] λd=>∃ ts:List Str,d = .lst (ts.map .str)/\ts.length = m/\("":Str)∉ts:=by
 refine bx iT rfl rfl rfl ?_;simp only [iT,init,SI,Nat.reduceAdd,Nat.reduceSub];simp only [↓WS,WI,↓reduceIte];refine gY (rL n c 0 8 ⇑0 ⇑0 ⇑0) ?_;rintro _ ⟨z,rfl,z0,z8⟩;simp only [↓WS,WI,↓reduceIte];refine gY (rL n c 1 (1+z) ⇑0 ⇑0 (by omega)) ?_;rintro _ ⟨a,rfl,a0,a1⟩;simp only [aM,↓WS,WI,↓reduceIte];have ss:=s64;refine ⟨⇑0,⟨by omega,by omega⟩,?_⟩;rw [iq];refine jI (λxs δ=>∃ (ts:List Str) (s7 s8 s9 s10:Sl),δ = [.val (.int c),.val (.str l),.val (.int f),.val (.int m),.val (.int (1+z)),.val (.int a),.own (ts.map .str),s7,s8,s9,s10]/\ts.length+xs.length = m/\("":Str)∉ts/\∀ x∈xs,∃ i:Int,x = .int i/\0<=i/\i < 10) ?_ ?_ _ _ ⟨[],_,_,_,_,rfl,by rw [jY];simp,↥0,λx hx=>?_⟩
 . rintro x xs δ ⟨ts,s7,s8,s9,s10,rfl,hlen,hne,hx⟩;obtain ⟨i,rfl,i0,i1⟩:=hx x au;rw [aB] at hlen;simp only [↓WS,WI,↓reduceIte];refine ⟨⟨by omega,by omega⟩,?_⟩;refine jI (λxs' δ=>∃ (t:Str) (s9 s10:Sl),δ = [.val (.int c),.val (.str l),.val (.int f),.val (.int m),.val (.int (1+z)),.val (.int a),.own (ts.map .str),.val (.int i),.val (.str t),s9,s10]/\t.length+xs'.length<=8/\0 < t.length+xs'.length/\∀ x∈xs',∃ j:Int,x = .int j/\0<=j/\j < 8) ?_ ?_ _ _ ⟨"",_,_,rfl,by rw [jY];show 0+(1+z).toNat<=8;omega,by rw [jY];show 0 < 0+(1+z).toNat;omega,λx hx=>?_⟩
   . rintro x xs' δ ⟨t,s9,s10,rfl,ht,_,hx'⟩;obtain ⟨j,rfl,j0,j1⟩:=hx' x au;rw [aB] at ht;have q1:=cN j (show (6:Int)≠0 by decide);have q2:=cC j (show (0:Int) < 6 by decide)
     have go:∀ w:Int,0 < w->w<=l.length->jk Gs gls (n+1) 29 [.int c,.int (2+j % 6),.int w] λd=>kS i (if j = a then 1 else 0) = true/\wOp .add d (.int (i * if j = a then 1 else 0)) λd=>wOp .mod d (.int w) λd=>wIx (.str l) d λd=>wOp .add (.str t) d λd=>∃ (t:Str) (s9 s10:Sl),([.val (.int c),.val (.str l),.val (.int f),.val (.int m),.val (.int (1+z)),.val (.int a),.own (ts.map .str),.val (.int i),.val d,.val (.int j),.val (.int w)]:PP.Loc) = [.val (.int c),.val (.str l),.val (.int f),.val (.int m),.val (.int (1+z)),.val (.int a),.own (ts.map .str),.val (.int i),.val (.str t),s9,s10]/\t.length+xs'.length<=8/\0 < t.length+xs'.length/\∀ x∈xs',∃ j:Int,x = .int j/\0<=j/\j < 8:=λw w0 w1=>by
      refine gY (rL n c _ w (by omega) (by omega) w0) ?_;rintro _ ⟨r,rfl,r0,r1⟩;have v1:=cN (r+i * if j = a then 1 else 0) (show w≠0 by omega);have v2:=cC (r+i * if j = a then 1 else 0) w0;obtain ⟨u,_,e⟩:=AQ (ds:=l.cps.toList) v1 (by rw [str_len];omega);have e1:(⟨#[u]⟩:Str).length = 1:=rfl;refine ⟨Oc (by omega) (by omega),mT.mpr (mS.mpr ⟨w0,Hq.mpr ⟨small (by omega),u,e,Dl.mpr ⟨small (by omega),_,_,_,rfl,by rw [zF,e1];omega,by rw [zF,e1];omega,λx hx=>hx' x (ak _ hx)⟩⟩⟩)⟩
     simp only [↓WS,WI,↓reduceIte];exact ⟨small (by omega),Fy (λ_=>⟨⇑0,go f f0 f1⟩) λ_=>⟨⇑0,go l.length (by omega) (Int.le_refl _)⟩⟩
   . rintro δ ⟨t,s9,s10,rfl,ht,ht0,_⟩;simp only [↓WS,WI,↓reduceIte]
     exact ⟨by rw [ay];omega,ts++[t],_,_,_,_,by rw [bT];rfl,by rw [ax,bZ];omega,(λz=>by
      rcases bC.mp z with z | z
      . exact hne z
      . rw [<- aP.mp z] at ht0;exact absurd ht0 ⇑0),λx h=>hx x (ak _ h)⟩
   . obtain ⟨j,hj,rfl⟩:=pK hx;exact ⟨_,rfl,by omega,by omega⟩
 . rintro δ ⟨ts,s7,s8,s9,s10,rfl,hlen,hne,_⟩;simp only [↓WS,WI,↓reduceIte];exact ⟨ts,rfl,by simpa using hlen,hne⟩
 . obtain ⟨j,hj,rfl⟩:=pK hx;exact ⟨_,rfl,by omega,by omega⟩
def Ib (n:Nat) (ns:List Int):jk Gs gls (n+3) 31 [.lst (ns.map .int)] λd=>∃ ts:List Str,d = .lst (ts.map .str)/\ts.length = 3/\("":Str)∉ts:=by
 refine bx iS rfl rfl rfl ?_;simp only [iS,init,SI,Nat.reduceAdd,Nat.reduceSub];simp only [↓WS,WI,↓reduceIte];refine gY (qz (n+1) ns 0 ⇑0 ⇑0) ?_;rintro _ ⟨c,rfl⟩;refine gY (wq (n+1) c) ?_;rintro _ ⟨m,rfl,_⟩;exact zW n m "bcdfghjklmpqrtvwxz" 18 3 ⇑0 ⇑0 ⇑0 ⇑0
def Ih (n:Nat) (ns:List Int):jk Gs gls (n+3) 32 [.lst (ns.map .int)] λd=>∃ ts:List Str,d = .lst (ts.map .str)/\ts.length = 4/\("":Str)∉ts:=by
 refine bx eO rfl rfl rfl ?_;simp only [eO,init,SI,Nat.reduceAdd,Nat.reduceSub];simp only [↓WS,WI,↓reduceIte];refine gY (qz (n+1) ns 1 ⇑0 ⇑0) ?_;rintro _ ⟨c,rfl⟩
 (try simp only [↓WS,WI,↓reduceIte])
 refine gY (wq (n+1) c) ?_;rintro _ ⟨m,rfl,_⟩;simp only [aB,aM,↓WS,WI,↓reduceIte];refine ⟨⟨⇑0,⇑0,⇑0⟩,⇑0,⇑0,Fy (λ_=>⟨⇑0,["n0","n1","n2","n3"],rfl,rfl,⇑0⟩) λ_=>zW n m "abcdefghijklmnopqrstuvwxyz123456789" 26 4 ⇑0 ⇑0 ⇑0 ⇑0⟩
def AO {ts:List Str} {j:Int} (h0:0<=j) (h1:j < ts.length):∃ t:Str,t∈ts/\atI (ts.map D.str) j = some (.str t):=by
 obtain ⟨d,hm,e⟩:=AQ (ds:=ts.map D.str) h0 (by rw [ay];exact h1);obtain ⟨t,ht,rfl⟩:=cL.mp hm;exact ⟨t,ht,e⟩
def yy (n:Nat) (c:Int) (ws nms:List Str) (hw:ws.length = 3) (hm:nms.length = 4) (hn:("":Str)∉nms):jk Gs gls (n+1) 33 [.int c,.lst (ws.map .str),.lst (nms.map .str)] λd=>∃ A,d = enc A/\rp A/\sz A = 1:=by
 refine bx jy rfl rfl rfl ?_;simp only [jy,init,SI,Nat.reduceAdd,Nat.reduceSub];simp only [ay,aM,↓qi,↓WS,WI,↓reduceIte];rw [hw];have a1:=cN c (show (4:Int)≠0 by decide);have a2:=cC c (show (0:Int) < 4 by decide);have b1:=cN (c / 4) (show ((3:Nat):Int)≠0 by decide);have b2:=cC (c / 4) (show (0:Int) < ((3:Nat):Int) by decide);obtain ⟨w,_,ew⟩:=AO (ts:=ws) (j:=c / 4 % ((3:Nat):Int)) b1 (by rw [hw];exact b2);refine ⟨⟨⇑0,⇑0⟩,⟨⇑0,⇑0⟩,⇑0,⟨by omega,by omega⟩,?_⟩;have ss:=s64;refine jI (λxs δ=>∃ (c':Int) (ts:List Str) (s6 s7:Sl),δ = [.val (.int c'),.val (.lst (ws.map .str)),.val (.lst (nms.map .str)),.val (.int (c % 4)),.val (.int (c / 4 % ((3:Nat):Int))),.own (ts.map .str),s6,s7]/\ts.length+xs.length<=3/\("":Str)∉ts) ?_ ?_ _ _ ⟨_,[],_,_,rfl,by rw [jY,aM];omega,↥0⟩
 . rintro x xs δ ⟨c',ts,s6,s7,rfl,hl,ht⟩;rw [aB] at hl;simp only [ay,↓qi,↓WS,WI,↓reduceIte];rw [hm];obtain ⟨t,tm,et⟩:=AO (ts:=nms) (j:=c' % ((4:Nat):Int)) (cN _ ⇑0) (by rw [hm];exact cC _ ⇑0);exact ⟨⟨⇑0,⇑0⟩,_,et,by omega,_,ts++[t],_,_,by rw [bT];rfl,by rw [ax,bZ];omega,λz=>(bC.mp z).elim ht λz=>hn (by rw [aP.mp z];exact tm)⟩
 . rintro δ ⟨c',ts,s6,s7,rfl,hl,ht⟩;simp only [aB,aM,↓WS,WI,↓reduceIte];have hl:ts.length<=3:=by simpa using hl
   exact ⟨_,ew,⇑0,.word w ts,rfl,⟨by simp [sz],λp hp=>by rw [aP.mp hp];exact ⟨hl,ht⟩⟩,rfl⟩
def CY {a:D} {ds:List D} {Q:D->Prop}:wSl (.tup (a::ds)) (some 1) none Q↔Q (.tup ds):=by
 have e1:HT.sIx (a::ds).length 0 (some 1) = 1:=by
  rw [show (1:Int) = ((1:Nat):Int) from rfl,HT.sIx_nat];simp
 have e2:HT.sIx (a::ds).length (a::ds).length none = (a::ds).length:=rfl;unfold wSl slD;dsimp only;rw [e1,e2,if_neg ↥0];unfold cutD;rw [e1,e2];simp
def ug:∀ (A:F) (n:Nat),hF A<=n->PP.run Gs gls n 39 [enc A] = some (.int (sz A))
 | .word w ts,n+1,_=>by kernel_rfl
 | .neg a,n+1,h=>by
   have ih:=ug a n (by simp only [hF] at h;omega);apply bR;rw [show enc (.neg a) = .tup [.str "not",enc a] from rfl];refine bx gq rfl rfl rfl ?_;simp only [gq,init,SI,Nat.reduceAdd,Nat.reduceSub];refine bN false ⋯ (λz=>by cases z) λ_=>?_
   . simp only [yZ];simp only [↓CY,↓nZ,↓mf,SI,List.take,Nat.reduceAdd,↓bG ih,↓WS,WI,↓reduceIte];refine ⟨⇑0,(vE (ns:=[(sz a:Int)]) rfl).mpr (mT.mpr ?_)⟩;simp only [sz,List.sum_cons,List.sum_nil];congr 1
     omega
 | .bi b x y,n+1,h=>by
   have ih1:=ug x n (by simp only [hF] at h;omega);have ih2:=ug y n (by simp only [hF] at h;omega);apply bR;rw [show enc (.bi b x y) = .tup [.str b.s,enc x,enc y] from rfl];refine bx gq rfl rfl rfl ?_;simp only [gq,init,SI,Nat.reduceAdd,Nat.reduceSub];refine bN false (by cases b<;>kernel_rfl) (λz=>by cases z) λ_=>?_
   . simp only [yZ];simp only [↓CY,↓nZ,↓mf,SI,List.take,Nat.reduceAdd,↓bG ih1,↓bG ih2,↓WS,WI,↓reduceIte];refine ⟨⇑0,(vE (ns:=[(sz x:Int),(sz y:Int)]) rfl).mpr (mT.mpr ?_)⟩;simp only [sz,List.sum_cons,List.sum_nil];congr 1
     omega
 | A,0,h=>by cases A<;>simp only [hF] at h<;>omega
def FR {α:Type} (g h:α->D) (p:α->Bool) (xs:List α) (hi:evI cx src δ = some (xs.map g,δ)) (hd:i = δ.length) (hg:∀ x∈xs,evG cx ifs (δ++[.val (g x)]) = some (p x,δ++[.val (g x)])) (he:∀ x∈xs,p x = true->evE cx elt (δ++[.val (g x)]) = some (h x,δ++[.val (g x)])) (hl:xs.length<=sizeLine):evE cx (.comp 1 (.nm i) src ifs elt) δ = some (.lst ((xs.filter p).map h),δ):=by
 subst hd
 have:wE cx (.comp 1 (.nm δ.length) src ifs elt) δ λd δ'=>d = .lst ((xs.filter p).map h)/\δ' = δ:=by
  refine tQ.mpr ⟨_,_,hi,hJ g p h xs (λx hx=>?_) ?_⟩
  . refine ⟨δ++[.val (g x)],?_,p x,_,hg x hx,rfl,?_⟩
    . show (if δ.length < (δ++aZ 1 Sl.no).length then _ else _) = _;rw [if_pos ↥0];simp [zv]
    . cases e:p x with
      | true=>rw [if_pos rfl];exact ⟨_,_,he x hx e,rfl,↥0⟩
      | false=>rw [if_neg ↥0];simp
  . rw [ay];exact ⟨bj (iG _ _) hl,rfl,rfl⟩
 obtain ⟨_,_,e,rfl,rfl⟩:=this;exact e
def pW (a b:Int):jl .eq (.int a) (.int b) = some (a == b):=rfl
def MA (b c:Bool):jl .eq (.str (sd b)) (.str (sd c)) = some (b == c):=by cases b<;>cases c<;>decide
def Jr {p q:It} (hp:sz p.2<=61) (hq:sz q.2<=61):jl .eq (itD p) (itD q) = some (eqD (itD p) (itD q)):=by
 have:=jh p hp;have:=jh q hq;unfold itD dep at *;exact nH (by omega) (by omega)
def yT {ps:List It} {q:It} (h:low ps) (hq:sz q.2<=61):jl .notin (itD q) (.lst (ps.map itD)) = some (!has ps q):=by
 show ((if dep (itD q)<=150/\cJ (ps.map itD) < 99999 then some (has ps q) else none).map (!·)) = _;rw [if_pos (wX h hq)];rfl
structure Good (row:List It) (ks:List K):Prop where
 rs:fq row
 os:okP ks
 pf:prf (·∈row) ks
 ne:row≠[]
def upQ (row:List It) (ks:List K) (d:D):Prop:=∃ (row':List It) (ks':List K),d = .tup [.tup (row'.map itD),bS ks']/\Good row' ks'/\row'.length<=row.length+1/\ks'.length<=ks.length+1
section
variable {n:Nat} {row:List It} {ks:List K} {c:Int} {E:D}
def HA (g:Good row ks) (hl:row.length<=800) (k:K) (gn:List It) (hk:sz k.A<=90) (ho:wok k.A) (hg:∀ x∈gn,x∈k.br) (hlo:low gn) (s4 s5 s6 s8:Sl):wSs ⟨PP.run Gs gls (n+100),gls,hfs Gs⟩ (kx 7 ie.body) [.val (.tup (row.map itD)),.val (bS ks),.val (.int c),.val E,s4,s5,s6,.val (.lst (gn.map itD)),s8,.val (itD k.it),.no] (retS (upQ row ks)):=by
 have ss:=s64;obtain ⟨_,e6,r6,rfl,_,_⟩:=rL (n+99) c 6 5 ⇑0 ⇑0 ⇑0;have w:=ug k.A (n+100) (by have:=sU k.A;omega);refine bN (decide ((sz k.A:Int) > 36)) (cw (x:=.int (sz k.A)) (y:=.int 36) (cG [enc k.A] ⋯ w) ⋯ rfl) (λz=>?_) λz=>?_
 . exact jF (d:=.tup [.tup (row.map itD),bS ks]) ⋯ ⟨row,ks,rfl,g,by omega,by omega⟩
 have hA:rp k.A:=⟨by have:=of_decide_eq_false z;omega,ho⟩;have lo:=g.rs.low;refine CW ((row.filter λx=>!has gn x || r6 == 0).map itD) (FR itD itD (λx=>!has gn x || r6 == 0) row ⋯ rfl (λx hx=>uH (cw (x:=itD x) ⋯ ⋯ (yT hlo (lo x hx))) (cw (y:=.int 0) (cG [.int c,.int 6,.int 5] ⋯ e6) ⋯ (pW _ _))) (λx _ _=>by kernel_rfl) (by omega)) (show 10 < 11 by decide) ?_;have fl:=iG (λx=>!has gn x || r6 == 0) row;have fm:∀ x∈row.filter (λx=>!has gn x || r6 == 0),x∈row:=λx hx=>(dS.mp hx).1
 have fb:∀ x∈row,x∈row.filter (λx=>!has gn x || r6 == 0)\/x∈k.br:=λx hx=>by
  cases e:has gn x with
  | true=>exact .inr (hg x ((lG hlo).mp e))
  | false=>exact .inl (dS.mpr ⟨hx,by rw [e];rfl⟩)
 generalize row.filter (λx=>!has gn x || r6 == 0) = kept at fl fm fb |-;have rk':fq (kept++[k.it]):=qw (λx hx=>g.rs x (fm x hx)) (wg hA);have m:=pL (n+98) kept [k.it] _ _ (.inl rfl) rfl rk'.low (by simp only [aB,aM];omega);have ml:=gh kept [k.it];refine lz (.tup [.tup ((mo (kept++[k.it])).map itD),rk k (bS ks)]) (nA (bB (cG [.lst (kept.map itD),.lst [itD k.it]] ⋯ m) ⋯) (show 2<=sizeLine by decide)) ⟨_,k::ks,rfl,⟨uf rk',λq hq=>?_,⟨ka.mpr (.inr (eK _)),je (λx hx=>?_) g.pf⟩,λe=>?_⟩,?_,ao (ks.length+1)⟩
 . rcases aQ.mp hq with e | e
   . rw [e];exact hA
   . exact g.os q e
 . rcases fb x hx with e | e
   . exact .inl (ka.mpr (.inl e))
   . exact .inr e
 . have:k.it∈mo (kept++[k.it]):=ka.mpr (.inr (eK _));rw [e] at this;cases this
 . rw [bZ] at ml;omega
def Nl (g:Good row ks) (hl:row.length<=800) (L:Bool) (A:F) (hA:rp A) (q:It) (hq:rp q.2) (x y:F) (hxy:x = A/\y = q.2\/x = q.2/\y = A):wSs ⟨PP.run Gs gls (n+100),gls,hfs Gs⟩ (kx 6 ie.body) [.val (.tup (row.map itD)),.val (bS ks),.val (.int c),.val E,.val (.str (sd L)),.val (enc A),.val (itD q),.val (.lst [itD (L,A),itD q]),.val (.tup [enc x,enc y]),.no,.no] (retS (upQ row ks)):=by
 obtain ⟨_,e5,r5,rfl,_,_⟩:=rL (n+99) c 5 3 ⇑0 ⇑0 ⇑0;have a1:=hA.1;have q1:=hq.1;obtain ⟨M,C⟩:=q;have wx:wok x:=by rcases hxy with ⟨rfl,_⟩ | ⟨rfl,_⟩;exact hA.2;exact hq.2
 have wy:wok y:=by rcases hxy with ⟨_,rfl⟩ | ⟨_,rfl⟩;exact hq.2;exact hA.2
 have sx:sz x<=36:=by rcases hxy with ⟨rfl,_⟩ | ⟨rfl,_⟩;exact a1;exact q1
 have sy:sz y<=36:=by rcases hxy with ⟨_,rfl⟩ | ⟨_,rfl⟩;exact q1;exact a1
 have C1:sz C<=36:=q1
 have two:low [(L,A),(M,C)]:=λp hp=>by
  rcases aQ.mp hp with e | e
  . rw [e];show sz A<=61;omega
  . rw [aP.mp e];show sz C<=61;omega
 refine bN (r5 == 0) (cw (y:=.int 0) (cG [.int c,.int 5,.int 3] ⋯ e5) ⋯ (pW _ _)) (λ_=>?_) λ_=>?_
 . refine fg 2 [.val (.tup (row.map itD)),.val (bS ks),.val (.int c),.val E,.val (.str (sd L)),.val (enc A),.val (itD (M,C)),.val (.lst [itD (L,A)]),.val (.tup [enc x,enc y]),.val (itD (K.it (.neg (!L) A))),.no] (by cases L<;>kernel_rfl) ?_;exact HA g hl (.neg (!L) A) [(L,A)] (by show sz A+1<=90;omega) hA.2 (λp hp=>by rw [aP.mp hp];show (L,A)∈[(!!L,A)];rw [xW];exact eK _) (.one (by show sz A<=61;omega)) _ _ _ _
 refine bN (L == M) (cw ⋯ ⋯ (MA L M)) (λz=>?_) λz=>?_
 . have z:L = M:=by simpa using z
   subst z
   have hb:∃ b:B,sB b = L/\fB b = L/\evE ⟨PP.run Gs gls (n+100),gls,hfs Gs⟩ (.tup (.cons (.var 4) (.cons (.bin .add (.tup (.cons (.ix (.lst (.cons (.str "or") (.cons (.str "and") .nil))) (.blt .toInt (.cons (.cmp .eq (.var 4) (.str "left")) .nil))) .nil)) (.var 8)) .nil))) [.val (.tup (row.map itD)),.val (bS ks),.val (.int c),.val E,.val (.str (sd L)),.val (enc A),.val (itD (L,C)),.val (.lst [itD (L,A),itD (L,C)]),.val (.tup [enc x,enc y]),.no,.no] = some (itD (L,.bi b x y),[.val (.tup (row.map itD)),.val (bS ks),.val (.int c),.val E,.val (.str (sd L)),.val (enc A),.val (itD (L,C)),.val (.lst [itD (L,A),itD (L,C)]),.val (.tup [enc x,enc y]),.no,.no]):=by
    cases L with
    | true=>exact ⟨.and,rfl,rfl,⋯⟩
    | false=>exact ⟨.or,rfl,rfl,⋯⟩
   obtain ⟨b,b1,b2,b3⟩:=hb;refine fZ _ b3 ⟨_,rfl,?_⟩
   have k:=HA (n:=n) (c:=c) (E:=E) g hl (.bi b x y) [(L,A),(L,C)] (by show sz x+sz y+1<=90;omega) (xX wx wy) (λp hp=>by
    show p∈[(fB b,x),(sB b,y)];rw [b1,b2];rcases hxy with ⟨rfl,rfl⟩ | ⟨rfl,rfl⟩
    . exact hp
    . rcases aQ.mp hp with e | e
      . rw [e];exact ak _ (eK _)
      . rw [aP.mp e];exact au) two (.val (.str (sd L))) (.val (enc A)) (.val (itD (L,C))) (.val (.tup [enc x,enc y]))
   rw [show itD (K.it (.bi b x y)) = itD (L,.bi b x y) by show itD (sB b,.bi b x y) = _;rw [b1]] at k;exact k
 . cases L with
   | true =>
     cases M with
     | true=>cases z
     | false =>
       refine bN true ⋯ (λ_=>?_) λz=>by cases z
       refine fZ (itD (K.it (.bi .imp A C))) ⋯ ⟨_,rfl,?_⟩
       exact HA g hl (.bi .imp A C) [(true,A),(false,C)] (by show sz A+sz C+1<=90;omega) (xX hA.2 hq.2) (λp hp=>hp) two _ _ _ _
   | false =>
     cases M with
     | false=>cases z
     | true =>
       refine bN false ⋯ (λz=>by cases z) λ_=>?_;refine fZ (itD (K.it (.bi .imp C A))) ⋯ ⟨_,rfl,?_⟩
       exact HA g hl (.bi .imp C A) [(false,A),(true,C)] (by show sz C+sz A+1<=90;omega) (xX hq.2 hA.2) (λp hp=>by
        rcases aQ.mp hp with e | e
        . rw [e];exact ak _ (eK _)
        . rw [aP.mp e];exact au) two _ _ _ _
def Nm (g:Good row ks) (hl:row.length<=800) (L:Bool) (A:F) (hA:rp A) (q:It) (hq:rp q.2):wSs ⟨PP.run Gs gls (n+100),gls,hfs Gs⟩ (kx 3 ie.body) [.val (.tup (row.map itD)),.val (bS ks),.val (.int c),.val E,.val (.str (sd L)),.val (enc A),.val (itD q),.no,.no,.no,.no] (retS (upQ row ks)):=by
 obtain ⟨_,e4,r4,rfl,_,_⟩:=rL (n+99) c 4 2 ⇑0 ⇑0 ⇑0;refine fg 2 [.val (.tup (row.map itD)),.val (bS ks),.val (.int c),.val E,.val (.str (sd L)),.val (enc A),.val (itD q),.val (.lst [itD (L,A),itD q]),.val (.tup [enc A,enc q.2]),.no,.no] ⋯ ?_;refine bN (r4 == 1) (cw (y:=.int 1) (cG [.int c,.int 4,.int 2] ⋯ e4) ⋯ (pW _ _)) (λ_=>?_) λ_=>?_
 . exact fZ (.tup [enc q.2,enc A]) ⋯ ⟨_,rfl,Nl g hl L A hA q hq q.2 A (.inr ⟨rfl,rfl⟩)⟩
 . exact Nl g hl L A hA q hq A q.2 (.inl ⟨rfl,rfl⟩)
end
def OY (n:Nat) (row:List It) (ks:List K) (c:Int) (X:F) (g:Good row ks) (hl:row.length<=800) (hX:rp X):jk Gs gls (n+101) 40 [.tup (row.map itD),bS ks,.int c,enc X] (upQ row ks):=by
 have ne:0 < row.length:=mQ.mpr g.ne;have lo:=g.rs.low;obtain ⟨_,e0,r0,rfl,a0,b0⟩:=rL (n+99) c 0 row.length ⇑0 ⇑0 (by omega);obtain ⟨_,e1,r1,rfl,a1,b1⟩:=rL (n+99) c 1 row.length ⇑0 ⇑0 (by omega);obtain ⟨_,e2,r2,rfl,_,_⟩:=rL (n+99) c 2 3 ⇑0 ⇑0 ⇑0;obtain ⟨_,e3,r3,rfl,a3,b3⟩:=rL (n+99) c 3 2 ⇑0 ⇑0 ⇑0
 have pick:∀ r:Int,0<=r->r < row.length->∃ p∈row,ixD (.tup (row.map itD)) (.int r) = some (itD p):=λr r0 r1=>by
  obtain ⟨d,hd,e⟩:=AQ (ds:=row.map itD) r0 (by rw [ay];exact r1);obtain ⟨p,hp,rfl⟩:=cL.mp hd;exact ⟨p,hp,e⟩
 obtain ⟨⟨L,A⟩,hp,p1⟩:=pick r0 a0 b0;obtain ⟨q,hq,p2⟩:=pick r1 a1 b1;have len:∀ (s4 s5:Sl),evE ⟨PP.run Gs gls (n+100),gls,hfs Gs⟩ (.blt .len (.cons (.var 0) .nil)) [.val (.tup (row.map itD)),.val (bS ks),.val (.int c),.val (enc X),s4,s5,.no,.no,.no,.no,.no] = some (.int row.length,[.val (.tup (row.map itD)),.val (bS ks),.val (.int c),.val (enc X),s4,s5,.no,.no,.no,.no,.no]):=λs4 s5=>pP (ds:=[.tup (row.map itD)]) ⋯ (by show some (D.int _) = _;rw [ay]);refine bx ie rfl rfl rfl ?_;simp only [ie,init,SI,Nat.reduceAdd,Nat.reduceSub];refine fZ (itD (L,A)) (mF ⋯ (cG [.int c,.int 0,.int row.length] (bB ⋯ (bB ⋯ (bB (len _ _) rfl))) e0) p1) ⟨_,rfl,?_⟩;refine fZ (itD q) (mF ⋯ (cG [.int c,.int 1,.int row.length] (bB ⋯ (bB ⋯ (bB (len (.val (.str (sd L))) (.val (enc A))) rfl))) e1) p2) ⟨_,rfl,?_⟩;refine bN (r2 == 0 || eqD (itD q) (itD (L,A))) (uH (cw (y:=.int 0) (cG [.int c,.int 2,.int 3] ⋯ e2) ⋯ (pW _ _)) (cw (y:=itD (L,A)) ⋯ ⋯ (Jr (lo q hq) (lo _ hp)))) (λ_=>?_) λ_=>?_
 . obtain ⟨M,em⟩:∃ M,atI [D.str "left",D.str "right"] r3 = some (.str (sd M)):=by
    rcases (show r3 = 0\/r3 = 1 by omega) with h | h<;>rw [h]
    . exact ⟨true,rfl⟩
    . exact ⟨false,rfl⟩
   refine fZ (itD (M,X)) (nA (bB (mF (x:=.lst [.str "left",.str "right"]) ⋯ (cG [.int c,.int 3,.int 2] ⋯ e3) em) ⋯) (show 2<=sizeLine by decide)) ⟨_,rfl,?_⟩;exact Nm g hl L A (g.rs _ hp) (M,X) hX
 . exact Nm g hl L A (g.rs _ hp) q (g.rs _ hq)
def Ii (n:Nat) (row:List It) (c:Int) (hl:row.length<=100):jk Gs gls (n+1) 37 [.tup (row.map itD),.int c] λd=>∃ ones others:List It,d = .tup [.tup (ones.map itD),.tup (others.map itD)]/\(∀ p,p∈row↔un ones others p)/\ones.length<=100/\others.length<=100:=by
 have ss:=s64;refine bx iU rfl rfl rfl ?_;simp only [iU,init,SI,Nat.reduceAdd,Nat.reduceSub];simp only [aM,↓WS,WI,↓reduceIte];refine ⟨⇑0,⇑0,?_⟩;refine jb (g:=itD) (λrest δ=>∃ (c':Int) (ones others:List It) (s4 s5:Sl),δ = [.val (.tup (row.map itD)),.val (.int c'),.own (ones.map itD),.own (others.map itD),s4,s5]/\(∀ p,p∈row↔un ones others p\/p∈rest)/\ones.length+rest.length<=100/\others.length+rest.length<=100) ?_ ?_ _ _ ⟨c,[],[],_,_,rfl,λp=>by simp [un],by simpa using hl,by simpa using hl⟩
 . rintro q rest δ ⟨c',ones,others,s4,s5,rfl,hm,h1,h2⟩;rw [aB] at h1 h2;have a1:=cN c' (show (5:Int)≠0 by decide);have a2:=cC c' (show (0:Int) < 5 by decide);simp only [ay,↓qi,↓WS,WI,↓reduceIte];refine ⟨⟨⇑0,⇑0⟩,?_⟩;have fin:∀ (o1 o2:List It),(∀ p,un o1 o2 p↔un ones others p\/p = q)->o1.length<=ones.length+1->o2.length<=others.length+1->∃ (c'':Int) (ones others:List It) (s4 s5:Sl),([.val (.tup (row.map itD)),.val (.int (c' / 5)),.own (o1.map itD),.own (o2.map itD),.val (itD q),.val (.int (c' % 5))]:PP.Loc) = [.val (.tup (row.map itD)),.val (.int c''),.own (ones.map itD),.own (others.map itD),s4,s5]/\(∀ p,p∈row↔un ones others p\/p∈rest)/\ones.length+rest.length<=100/\others.length+rest.length<=100:=λo1 o2 hu b1 b2=>⟨_,o1,o2,_,_,rfl,λp=>by rw [hm p,hu p,aQ,or_assoc],by omega,by omega⟩;have l1:(ones++[q]).map itD = ones.map itD++[itD q]:=by rw [bT];rfl
   have l2:(others++[q]).map itD = others.map itD++[itD q]:=by rw [bT];rfl
   have fA:=fin (ones++[q]) others (λp=>by simp only [un,bC,aP];exact or_right_comm) ↥0 (by omega);have fB:=fin ones (others++[q]) (λp=>by simp only [un,bC,aP];exact or_assoc.symm) (by omega) ↥0;have fC:=fin (ones++[q]) (others++[q]) (λp=>by simp only [un,bC,aP];rw [or_or_or_comm,or_self]) ↥0 ↥0;rw [l1] at fA fC;rw [l2] at fB fC;refine Fy (λz1=>⟨by omega,?_⟩) λz1=>Fy (λz2=>⟨by omega,?_⟩) λz2=>?_
   . rw [if_neg (by omega)];exact fA
   . rw [if_pos (by omega)];exact ⟨by omega,fC⟩
   . rw [if_pos (by omega)];exact ⟨by omega,fB⟩
 . rintro δ ⟨c',ones,others,s4,s5,rfl,hm,h1,h2⟩;simp only [aB,aM,↓WS,WI,↓reduceIte];exact ⟨⇑0,ones,others,rfl,λp=>by rw [hm p];simp,by simpa using h1,by simpa using h2⟩
def dpt (r:R) (h:Nat):Prop:=dep r.f<=2 * h+42/\dep r.s<=2 * h+42
def Ga {I:D} (h:nice I):dep I<=38:=by
 rcases h with rfl | rfl | ⟨A,rfl,h,_⟩
 . decide
 . decide
 . have:=lI A;omega
def FY {ones others:List It} (h1:fq ones) (h2:fq others):dpt (pcl ones others) 0:=by
 have c:=Gb;have k:dpt ⟨CL,CL,CL⟩ 0:=⟨by show dep CL<=_;omega,by show dep CL<=_;omega⟩;unfold pcl;split
 . exact k
 split
 . exact k
 split
 . exact k
 split
 . rename_i A r e;have:=(yv (others:=ones) h2 A (by rw [e];exact au)).1;have d:dep (enc (.neg A))<=sz A+2:=lI (.neg A);exact ⟨by rw [qV,c];show max (dep (enc (.neg A))) _+1<=_;omega,by rw [qV,c];show max (dep (enc (.neg A))) _+1<=_;omega⟩
 . exact k
def yP:∀ {ks:List K} {ones others:List It},fq ones->fq others->okP ks->dpt (prt ones others ks) ks.length
 | [],ones,others,h1,h2,_=>FY h1 h2
 | k::ks,ones,others,h1,h2,o=>by
   have dk:=lI k.A;have hk:=o.hd.1;rw [prt,aB]
   have st:∀ (b:Bool) (r:R),dpt r ks.length->dpt (step k b r) (ks.length+1):=λb r ⟨x,y⟩=>by
    cases b with
    | true=>exact ⟨by show dep (rk k r.f)<=_;rw [qV];omega,by show dep r.s<=_;omega⟩
    | false=>exact ⟨by show dep r.f<=_;omega,by show dep (rk k r.s)<=_;rw [qV];omega⟩
   refine st _ _ ?_;split
   . exact yP (eS h1 o.hd) h2 o.tl
   . exact yP h1 (eS h2 o.hd) o.tl
def Pl (r:R) (hI:nice r.I) (d:dpt r 31):jl .eq r.d r.d = some true:=by
 have e:dep r.d<=140:=by
  have:=Ga hI;obtain ⟨a,b⟩:=d;unfold R.d;simp only [dep,cJ];omega
 rw [<- kX r.d (by omega)];unfold R.d at e |-;unfold dep at e;exact nH (by omega) (by omega)
def FU (ha:evE cx a δ = some (.bl p,δ)) (hb:evE cx b δ = some (.bl q,δ)):evE cx (.and a b) δ = some (.bl (p && q),δ):=by
 have:wE cx (.and a b) δ λd δ'=>d = .bl (p && q)/\δ' = δ:=Dt.mpr ⟨_,_,ha,p,rfl,by
  cases p
  . exact ⟨rfl,rfl⟩
  . exact ⟨_,_,hb,rfl,rfl⟩⟩
 obtain ⟨_,_,e,rfl,rfl⟩:=this;exact e
def fdv {a b:Int} (h:0 < b) (h2:b < 1000):opD .fdiv (.int a) (.int b) = some (.int (a / b)):=by
 obtain ⟨z,e,q⟩:=(nY (a:=a) (b:=b) (Q:=λz=>z = .int (a / b))).mpr ⟨⟨h,by omega⟩,rfl⟩;rw [e,q]
def main (ns:List Int) (hns:ns.length<=63):PP.run Gs gls 200 42 [.lst (ns.map .int)] = some (.bl true):=by
 have ss:=s64;obtain ⟨_,e1,ws,rfl,hw,_⟩:=Ib 196 ns;obtain ⟨_,e2,nms,rfl,hm,hn⟩:=Ih 196 ns;obtain ⟨_,e3,c2,rfl⟩:=qz 198 ns 2 ⇑0 ⇑0;obtain ⟨_,e4,m2,rfl,m20⟩:=wq 198 c2;obtain ⟨_,e5,c3,rfl⟩:=qz 198 ns 3 ⇑0 ⇑0;obtain ⟨_,e6,m3,rfl,m30⟩:=wq 198 c3;apply bR;refine bx d_law rfl rfl rfl ?_;simp only [d_law,init,SI,Nat.reduceAdd,Nat.reduceSub];refine cM [.lst (ns.map .int)] ⋯ ((bG e1).mpr ⟨_,rfl,?_⟩);refine cM [.lst (ns.map .int)] ⋯ ((bG e2).mpr ⟨_,rfl,?_⟩);refine cM [.int c2] (bB (cG [.lst (ns.map .int),.int 2] ⋯ e3) rfl) ((bG e4).mpr ⟨_,rfl,?_⟩);obtain ⟨_,e7,A,rfl,rA,_⟩:=yy 198 (m2 / 100000000) ws nms hw hm hn;refine cM [.int (m2 / 100000000),.lst (ws.map .str),.lst (nms.map .str)] ⋯ ((bG e7).mpr ⟨_,rfl,?_⟩);refine fg 1 [.val (.lst (ns.map .int)),.val (.lst (ws.map .str)),.val (.lst (nms.map .str)),.val (.int m2),.val (enc A),.own [itD (true,A),itD (false,A)],.no,.no,.no,.no,.no,.no] ⋯ ?_;have h4:=cN m2 (show (4:Int)≠0 by decide);have h5:=cC m2 (show (0:Int) < 4 by decide);refine lA (pB 0 (1+m2 % 4).toNat) (Jk (j:=1+m2 % 4) ⋯ (by omega) (by omega)) ?_;refine jI (λxs δ=>∃ (row:List It) (s6:Sl),δ = [.val (.lst (ns.map .int)),.val (.lst (ws.map .str)),.val (.lst (nms.map .str)),.val (.int m2),.val (enc A),.own (row.map itD),s6,.no,.no,.no,.no,.no]/\fq row/\row.length+xs.length<=6/\clo (·∈row)/\∀ x∈xs,∃ j:Int,x = .int j/\0<=j/\j < 10) ?_ ?_ _ _ ⟨[(true,A),(false,A)],_,rfl,λp hp=>?_,by rw [jY];simp only [aB,aM];omega,⟨A,↥0,↥0⟩,λx hx=>?_⟩
 . rintro x xs δ ⟨row,s6,rfl,hr,hl,hc,hx⟩;obtain ⟨j,rfl,j0,j1⟩:=hx x au;rw [aB] at hl
   obtain ⟨M,eM⟩:∃ M,atI [D.str "left",D.str "right"] (m2 / 1000 / (j+1) % 2) = some (.str (sd M)):=by
    rcases (show m2 / 1000 / (j+1) % 2 = 0\/m2 / 1000 / (j+1) % 2 = 1 by omega) with h | h<;>rw [h]
    . exact ⟨true,rfl⟩
    . exact ⟨false,rfl⟩
   obtain ⟨_,f1,B,rfl,rB,_⟩:=yy 198 (m2 / 1000000000000 / (j+3)) ws nms hw hm hn;refine ⟨[.val (.lst (ns.map .int)),.val (.lst (ws.map .str)),.val (.lst (nms.map .str)),.val (.int m2),.val (enc A),.own (row.map itD),.val (.int j),.no,.no,.no,.no,.no],rfl,?_⟩;refine ja (itD (M,B)) (nA (bB (mF (x:=.lst [.str "left",.str "right"]) (y:=.int (m2 / 1000 / (j+1) % 2)) ⋯ (uK (x:=.int (m2 / 1000 / (j+1))) (y:=.int 2) (uK (x:=.int (m2 / 1000)) (y:=.int (j+1)) ⋯ ⋯ (fdv (by omega) (by omega))) ⋯ ⋯) eM) (bB (cG [.int (m2 / 1000000000000 / (j+3)),.lst (ws.map .str),.lst (nms.map .str)] (bB (uK (x:=.int (m2 / 1000000000000)) (y:=.int (j+3)) ⋯ ⋯ (fdv (by omega) (by omega))) ⋯) f1) rfl)) (show 2<=sizeLine by decide)) (by rfl) (by rw [ay];omega) ?_;refine fw.mpr (fV.mpr ⟨row++[(M,B)],_,by rw [bT];rfl,qw hr (wg rB),by rw [ax,bZ];omega,?_,λx h=>hx x (ak _ h)⟩);obtain ⟨C,q1,q2⟩:=hc;exact ⟨C,dU _ q1,dU _ q2⟩
 . rintro δ ⟨row,s6,rfl,hr,hl,hc,_⟩;rw [aM] at hl;have w:=pL 197 row [] _ _ (.inl rfl) rfl (by rw [cB];exact hr.low) (by rw [aM];omega);rw [cB] at w;refine vA [.lst (row.map itD),.lst []] [.val (.lst (ns.map .int)),.val (.lst (ws.map .str)),.val (.lst (nms.map .str)),.val (.int m2),.val (enc A),.val (.lst (row.map itD)),s6,.no,.no,.no,.no,.no] ⋯ ((bG w).mpr ⟨_,rfl,?_⟩);have hr:=uf hr;have hl:=bj (Fe row) hl
   have hc:clo (·∈mo row):=by
    obtain ⟨C,q1,q2⟩:=hc;exact ⟨C,qI.mpr q1,qI.mpr q2⟩
   generalize mo row = row at hr hl hc;refine fg 1 [.val (.lst (ns.map .int)),.val (.lst (ws.map .str)),.val (.lst (nms.map .str)),.val (.int m2),.val (enc A),.val (.tup (row.map itD)),s6,.val (bS []),.no,.no,.no,.no] ⋯ ?_;have lenE:evE ⟨PP.run Gs gls 199,gls,hfs Gs⟩ (.blt .len (.cons (.var 0) .nil)) [.val (.lst (ns.map .int)),.val (.lst (ws.map .str)),.val (.lst (nms.map .str)),.val (.int m2),.val (enc A),.val (.tup (row.map itD)),s6,.val (bS []),.no,.no,.no,.no] = some (.int ns.length,[.val (.lst (ns.map .int)),.val (.lst (ws.map .str)),.val (.lst (nms.map .str)),.val (.int m2),.val (enc A),.val (.tup (row.map itD)),s6,.val (bS []),.no,.no,.no,.no]):=pP (ds:=[.lst (ns.map .int)]) ⋯ (by show some (D.int _) = _;rw [ay]);have em:=pP (b:=.max) (ds:=[.int 7,.int (if (34:Int) < ns.length then 34 else ns.length)]) (z:=.int (if (if (34:Int) < ns.length then 34 else (ns.length:Int)) > 7 then (if (34:Int) < ns.length then 34 else (ns.length:Int)) else 7)) (bB (e:=.int 7) ⋯ (bB (pP (b:=.min) (ds:=[.int ns.length,.int 34]) (bB lenE (es:=.cons (.int 34) .nil) ⋯) rfl) (es:=.nil) rfl)) rfl;generalize hv:(if (if (34:Int) < ns.length then 34 else (ns.length:Int)) > 7 then (if (34:Int) < ns.length then 34 else (ns.length:Int)) else 7) = v at em
   have hb:7<=v/\v<=34:=by
    rw [<- hv];split<;>split at *<;>omega
   refine dC.mpr (tM.mpr (Hs.mpr ⟨.int 4,_,⋯,.int v,_,em,4,v,rfl,rfl,⟨⇑0,⇑0,by omega,by omega⟩,?_⟩));refine jI (λxs δ=>∃ (row:List It) (ks:List K) (s6 s8:Sl),δ = [.val (.lst (ns.map .int)),.val (.lst (ws.map .str)),.val (.lst (nms.map .str)),.val (.int m2),.val (enc A),.val (.tup (row.map itD)),s6,.val (bS ks),s8,.no,.no,.no]/\Good row ks/\row.length+xs.length<=36/\ks.length+xs.length<=30/\∀ x∈xs,∃ j:Int,x = .int j/\0<=j/\j<=1000) ?_ ?_ _ _ ⟨row,[],_,_,rfl,⟨hr,(λq hq=>by cases hq),hc,λe=>?_⟩,by rw [jY];omega,by rw [jY,aM];omega,λx hx=>?_⟩
   . rintro x xs δ ⟨row,ks,s6,s8,rfl,g,hl,hk,hx⟩;obtain ⟨j,rfl,j0,j1⟩:=hx x au;rw [aB] at hl hk;obtain ⟨_,f1,d1,rfl⟩:=qz 198 ns j j0 j1;obtain ⟨_,f2,d2,rfl,_⟩:=wq 198 d1;obtain ⟨_,f3,X,rfl,rX,_⟩:=yy 198 (d2 / 1000000000000000000000) ws nms hw hm hn;obtain ⟨_,f4,row',ks',rfl,g',l1,l2⟩:=OY 98 row ks d2 X g (by omega) rX;refine ⟨[.val (.lst (ns.map .int)),.val (.lst (ws.map .str)),.val (.lst (nms.map .str)),.val (.int m2),.val (enc A),.val (.tup (row.map itD)),.val (.int j),.val (bS ks),s8,.no,.no,.no],rfl,?_⟩;refine cM [.int d1] (bB (cG [.lst (ns.map .int),.int j] ⋯ f1) rfl) ((bG f2).mpr ⟨_,rfl,?_⟩);refine cM [.tup (row.map itD),bS ks,.int d2,enc X] (bB ⋯ (bB ⋯ (bB ⋯ (bB (cG [.int (d2 / 1000000000000000000000),.lst (ws.map .str),.lst (nms.map .str)] ⋯ f3) rfl)))) ((bG f4).mpr ⟨_,rfl,?_⟩);exact fw.mpr (fV.mpr ⟨row',ks',_,_,rfl,g',by omega,by omega,λx h=>hx x (ak _ h)⟩)
   . rintro δ ⟨row,ks,s6,s8,rfl,g,hl,hk,_⟩;rw [aM] at hl hk;obtain ⟨_,e8,ones,others,rfl,hu,l1,l2⟩:=Ii 198 row m3 (by omega);have r1:fq ones:=λp hp=>g.rs p ((hu p).mpr (.inl hp));have r2:fq others:=λp hp=>g.rs p ((hu p).mpr (.inr hp));have pk:prf (un ones others) ks:=je (λp hp=>(hu p).mp hp) g.pf;have w1:=Ek ks ones others r1 r2 g.os (by omega) (by omega) (by omega) pk;have w2:=NF 194 ks ones others r1 r2 g.os (by omega) (by omega) (by omega) pk;have dp:=yP r1 r2 g.os;refine cM [.tup (row.map itD),.int m3] (bB ⋯ (bB (cG [.int c3] (bB (cG [.lst (ns.map .int),.int 3] ⋯ e5) rfl) e6) rfl)) ((bG e8).mpr ⟨_,rfl,?_⟩);refine cM [.tup (ones.map itD),.tup (others.map itD),bS ks] ⋯ ((bG w1).mpr ⟨_,rfl,?_⟩);exact lz (.bl (true && true)) (FU ⋯ (uJ (x:=(prt ones others ks).d) ⋯ (cG [.tup (ones.map itD),.tup (others.map itD),bS ks] ⋯ w2) (Pl _ (kP r1 r2 g.os) ⟨by have:=dp.1;omega,by have:=dp.2;omega⟩))) rfl
   . obtain ⟨C,q,_⟩:=hc;rw [e] at q;cases q
   . obtain ⟨i,hi,rfl⟩:=pK hx;exact ⟨_,rfl,by omega,by omega⟩
 . rcases aQ.mp hp with e | e
   . rw [e];exact rA
   . rw [aP.mp e];exact rA
 . obtain ⟨i,hi,rfl⟩:=pK hx;exact ⟨_,rfl,by omega,by omega⟩
end P1
end
section
namespace PySem.W.Fast
def tw13984768485792663547:=0
def tw70915849284348889:=0
def tw2265764757006659565:=0
def tw17148722510718595594:=0
def tw14424112059886266940:=0
def tw17253756675178539351:=0
def tw7633397101526886815:=0
def tw16501898308228908876:=0
def tw4359041082633048288:=0
def tw3473235610432591675:=0
def tw9456646272693156759:=0
def tw5052590470439093386:=0
def tw13343821419613683243:=0
def tw14239124452152937913:=0
def tw9038614878689242567:=0
def tw6733244471150533335:=0
def tw7493956667775561484:=0
def tw332360780202954972:=0
def tw2902357178603255637:=0
def tw4630652329589938862:=0
def tw3636152832721922360:=0
def tw6238201497270267227:=0
def tw14340945068553109925:=0
def tw13813178829287508440:=0
def tw7196396348860604225:=0
def tw4484365214670338509:=0
def tw5746034849523289774:=0
def tw11267579948723860638:=0
def tw12495262853800777278:=0
def tw8955416699501377337:=0
def tw1901404334582823756:=0
def tw11040927290507989523:=0
def tw12543876343809323362:=0
def tw1490472988663955118:=0
def tw3691623848969298067:=0
def tw242123202215369446:=0
def tw13485925525174892719:=0
def tw16762028114511830269:=0
def tw6115345111046536107:=0
def tw2145305733024204055:=0
def tw6082628383791946442:=0
def tw3218957479109511266:=0
def tw10654289858702699857:=0
def tw5825203918241652721:=0
def tw10964337405339645766:=0
def tw17027222047095065615:=0
def tw14005265375447541485:=0
def tw5162059018199323004:=0
def tw6161248645159242577:=0
def tw9042293295178385246:=0
def tw17408696143686342741:=0
def tw7713339620272350206:=0
def tw7138900563162802162:=0
def tw5064055709354763945:=0
def tw6981514774513345618:=0
def tw6640329197828358893:=0
def tw7080384387735981825:=0
def tw7679948389677273194:=0
def tw14135775159212590624:=0
def tw3229280730808573853:=0
def tw10252738626043299597:=0
def tw6691770973171713844:=0
def tw15467332749913670080:=0
def tw17623994219278720319:=0
def tw11057147326074026312:=0
def tw14069710537273539854:=0
def tw14143674284036051613:=0
def tw8376095884960281979:=0
def tw15772706031328677330:=0
def tw10803933982077864035:=0
def tw15838198176107311768:=0
def tw18193728826782298110:=0
def tw15611407331125066131:=0
def tw5777071698630338735:=0
def tw1380674342420797931:=0
def tw7382665681266486898:=0
def tw14728230739594729172:=0
def tw11978647844802052889:=0
def tw12880900762426330836:=0
def tw15714603052571000019:=0
def tw5913760763527342359:=0
def tw15220677473575689528:=0
def tw128272661019609128:=0
def tw1077601331217881783:=0
def tw10838433558233950130:=0
def tw5288074075212466824:=0
def tw4405689690393116935:=0
def tw1989267107979612464:=0
def tw15937806798742606551:=0
def tw15118933495647060120:=0
def tw12828190498616982981:=0
def tw7698164484560683378:=0
def tw15095788209215702654:=0
def tw3241038085069067641:=0
def tw18128519604886655458:=0
def tw13087517402639526678:=0
def tw12297117979302713460:=0
def tw8118841633199979726:=0
def tw8597514343315455573:=0
def tw16121476893631969536:=0
def tw5304105795106243874:=0
def tw4570701264814815465:=0
def tw14268613664356336223:=0
def tw17863339504865022588:=0
def tw18415474641492328368:=0
def tw6873374095918684863:=0
def tw1512559613314438322:=0
def tw17530978964375104004:=0
def tw10200493163323653431:=0
def tw33036912677333125:=0
def tw7418905252373848668:=0
def tw13739450530411397108:=0
def tw11681543767988852766:=0
def tw12706293182591604652:=0
def tw6531984807380097133:=0
def tw8482718275906413309:=0
def tw52281501635561162:=0
def tw15583022783264110164:=0
def tw678032854349941796:=0
def tw14802460259158837062:=0
def tw10858671281753661080:=0
def tw11569788447378565902:=0
def tw1940181851986256154:=0
def tw14525182306351311699:=0
def tw17498809936941731860:=0
def tw17222322556988082849:=0
def tw9686089727346925139:=0
def tw17532400661611931346:=0
def tw3435956940478077319:=0
def tw14824501445684934700:=0
def tw16731923462018555413:=0
def tw7479279702804220988:=0
def tw5813057715876956123:=0
def tw5874452176061838493:=0
def tw14720109419148589854:=0
def tw6062550940818224461:=0
def tw18334817185919735586:=0
def tw6590689562525616517:=0
def tw10276881640418770726:=0
def tw16908472212814465377:=0
def tw2381356402395058671:=0
def tw7893720417216102853:=0
def tw2346070710520734933:=0
def tw14515335168426807019:=0
def tw13670305503782631157:=0
def tw3872014651682348808:=0
def tw7462061076961364975:=0
def tw4166081663403365895:=0
def tw15383698810751640505:=0
def tw16393423746372640188:=0
def tw13456081712231271233:=0
def tw15419959638094390788:=0
def tw4036357216200087054:=0
def tw8869602869927990306:=0
def tw15295395669005983537:=0
def tw17957729628985401821:=0
def tw13937737947612390477:=0
def tw617752013131157647:=0
def tw7917594370984634398:=0
def tw8929149311737761612:=0
def tw9329803099053207355:=0
def tw4580638574433734700:=0
def tw8297526618561957801:=0
def tw15470721497411648337:=0
def tw9670012823400845467:=0
def tw11653291494814919121:=0
def tw13610253311714900805:=0
def tw12670207874751246369:=0
def tw467962101135080152:=0
def tw3199652341774717853:=0
def tw16906540521409328408:=0
def tw14545030600706732290:=0
def tw14767507971634799971:=0
def tw2778315009263818438:=0
def tw10902199181238574904:=0
def tw5334920150511206069:=0
def tw2331715730963551293:=0
def tw337071042957696904:=0
def tw4460357479490529112:=0
def tw3674100499157611057:=0
def tw2015289163377188949:=0
def tw15652375180653289607:=0
def tw13361145850085342885:=0
def tw7653790040077845005:=0
def tw2707899190524781200:=0
def tw2641189530428989441:=0
def tw9854891504422450808:=0
def tw14673510068706328444:=0
def tw9560679676688087786:=0
def tw4692931192123324580:=0
def tw1450446951837549557:=0
def tw4371833699539208128:=0
def tw11079006667245200282:=0
def tw5712941392165392759:=0
def tw2073656733211362526:=0
def tw3944419905402890871:=0
def tw7231583356588956151:=0
def tw896702331097325618:=0
def tw9285524380971406924:=0
def tw18106912258530236494:=0
def tw15361438310116501248:=0
def tw18432497205376029131:=0
def tw7997679143629029600:=0
def tw15369627633757609843:=0
def tw2695747002419618569:=0
def tw8886800591676451644:=0
def tw8343883644099990099:=0
def tw9592590366317342868:=0
def tw2543654794308923209:=0
def tw10456134597795526352:=0
def tw6620883997943753059:=0
def tw15257789411200190252:=0
def tw13402159595146552589:=0
def tw9328540304557037948:=0
def tw17776017034504497593:=0
def tw12518393710411130520:=0
def tw895505890622809093:=0
def tw6972416557954966360:=0
def tw6011773424047347829:=0
def tw15119090345087580277:=0
def tw5584782137674431575:=0
def tw1148254006820013945:=0
def tw13316889692522595815:=0
def tw2664322785925200122:=0
def tw18088949929929516603:=0
def tw8449020068701531152:=0
def tw2687811995326470757:=0
def tw1827087156940709174:=0
def tw8441785183983302925:=0
def tw11150235970941092197:=0
def tw12964785863872984353:=0
def tw4767069242506760314:=0
def tw14806476111256237232:=0
def tw1004809109069792172:=0
def tw6511795853264251418:=0
def tw15883805127226699969:=0
def tw8125921713796788735:=0
def tw7549469118947492874:=0
def tw8356846952932070465:=0
def tw7665346589228440628:=0
def tw4670796794181631695:=0
def tw900520719885210634:=0
def tw18213260954057244366:=0
def tw11977504063033973479:=0
def tw3875190428831981836:=0
def tw13106787622905687826:=0
def tw4624768308764186632:=0
def tw10850371917801646220:=0
def tw4501318064184095500:=0
def tw9604869328059082835:=0
def tw1056079442696846578:=0
def tw6612790383184206715:=0
def tw9544071207706685189:=0
def tw4845266786227058980:=0
def tw6092361286760774188:=0
def tw16736384435436140712:=0
def tw11683484550553422577:=0
def tw1677596394775238977:=0
def tw15406059589210529701:=0
def tw14920411023861439346:=0
def tw4232217521031991576:=0
def tw8725548370303522729:=0
def tw15597343600262894807:=0
def tw14230244402138846605:=0
def tw14185090184158380606:=0
def tw4630013706591143719:=0
def tw8747339032155582477:=0
def tw10676380933386617617:=0
def tw15599975299009698064:=0
def tw5307043715605619285:=0
def tw1783877699122680318:=0
def tw12446969235943796198:=0
def tw2520947360439313688:=0
def tw16855620017233076556:=0
def tw7391440444316779235:=0
def tw1991547465820828173:=0
def tw4966703276677378698:=0
def tw11415355695522071093:=0
def tw5904017363222752576:=0
def tw1961534803330983320:=0
def tw5001949150173549356:=0
def tw8295173475772771192:=0
def tw11016269486428129583:=0
def tw9025326972542511129:=0
def tw10859975321016725624:=0
def tw4113538253819823316:=0
def tw15572590492472950963:=0
def tw8205797642518613933:=0
def tw12655106140837983225:=0
def tw11230915550658155382:=0
def tw4908271404903118246:=0
def tw8942818041327983953:=0
def tw14131349451073384858:=0
def tw2586174235942235438:=0
def tw8958456085084461764:=0
def tw8137682363479621261:=0
def tw16846112508372256861:=0
def tw375387173371919507:=0
def tw916770301561598440:=0
def tw4481061470603559828:=0
def tw3816723897658401764:=0
def tw1827917955820847471:=0
def tw1339331100741115328:=0
def tw3162830246986272480:=0
def tw7006137141341351385:=0
def tw18198546097747276012:=0
def tw2919989812177229534:=0
def tw13525938922008450434:=0
def tw15649531345035674070:=0
def tw15301505547518186525:=0
def tw5030780763674211122:=0
def tw1035856946368354931:=0
def tw12647923039904770403:=0
def tw8315344199350663849:=0
def tw2910097410873365736:=0
def tw2319430252291897712:=0
def tw8461233056519407756:=0
def tw17301005723308098394:=0
def tw16147680775474712524:=0
def tw16077927735388925828:=0
def tw1582084268767200234:=0
def tw5093276435324596978:=0
def tw18016894688795797787:=0
def tw2966180847115957849:=0
def tw18318983261301778308:=0
def tw13805238773075844164:=0
def tw14610843681566532614:=0
def tw10691469441601620773:=0
def tw6372876361630895741:=0
def tw17415496665704770399:=0
def tw17636379515312187506:=0
def tw14267072096115979424:=0
def tw3596940431077965411:=0
def tw7520615876535314068:=0
def tw6041746609642736050:=0
def tw13395698247400673650:=0
def tw4233235990836178246:=0
def tw10577818331431515932:=0
def tw7099972024356179887:=0
def tw2587272028034730167:=0
def tw16065160308698759618:=0
def tw9791361958643162019:=0
def tw1330151859464540225:=0
def tw2801558125561563543:=0
def tw2889540365572236853:=0
def tw13144512787416415072:=0
def tw9752652287221401393:=0
def tw10637667721443448694:=0
def tw9199714466760132836:=0
def tw16224023062004532436:=0
end PySem.W.Fast
open PySem PySem.W PyProof.Rows
set_option maxRecDepth 100000 in
set_option maxHeartbeats 0 in
theorem PySem.Challenge.cw_cutless_k32_one_branch_parted_holds : PySem.Challenge.rw_cutless_k32_one_branch_parted.Holds := by
 w_on
 refine PySem.W.holds_law ⇑0 λsaid=>?_
 k_head;(case hw=>w_witness2)
 k_fill
 refine PP.walk_run (l:=PySem.Challenge.rw_cutless_k32_one_branch_parted) (G:=P1.Gs) (Gd:=P1.Gd) (gl:=P1.gls) (gn:=P1.gns) (i:=42) (fd:=P1.d_law) (x:="_law_script") P1.main rfl rfl rfl rfl (λw h Y=>⟨PySem.W.km_in_of Y,λt ht=>by cases ht⟩) rfl λw mg h KX G=>?_;refine ⟨PP.top_mk (tp:=P1.top) (is:=P1.pls) KX G ?H (PP.sub_app (b:=[])) ⇑0 ?B ?GL (λn l h=>by cases h) (λf h=>by cases h),λt ht=>by cases ht⟩
 case H =>
  iterate 43 (apply PP.Hds.cons;k_is;k_is;k_is;k_is;decide)
  exact .nil
 case B=>kernel_rfl
 case GL=>repeat' first | exact .nil | exact .str | exact .int | exact Nat.le_of_ble_eq_true rfl | (apply PP.InK.tup;k_is) | (apply PP.Gls.cons;k_is) | apply PP.InKs.cons
end
