import PyProof.Rows.All
import Wide.All
import OpenK.AllK
import Wide.FinOn
import Lean
import PyProof.EqAt
import PyProof.EqKinds
import PyProof.TupleCall
import KE.KSortAsk
import KE.KIntText
import KE.KMinBuiltin
import PyProof.MeetsStr2
import KE.KTabLook
import PySem.Challenge.RW_cutless_k16_fitted
local macro_rules|`(∅)=>`(by lia)
local macro_rules|`(⋯)=>`(by kernel_rfl)
local macro_rules|`(⇑$_)=>`(by decide)
local macro_rules|`(↥$_)=>`(by simp)
local macro_rules|`(command|def $n:declId $s:optDeclSig $v:declVal)=>`(command|noncomputable def $n:declId $s:optDeclSig $v:declVal)
local macro_rules|`(tactic|decide)=>`(tactic|decide +kernel)
open And renaming intro->av
open Array renaming length_toList->bK,toList_append->cO,getElem?_eq_getElem->dR,getElem?_eq_none->wW,toList_push->Cn,size_append->Co,all_toList->GF
open Array.Perm renaming refl->cI
open Bool renaming and_eq_true->aa,false_ne_true->aq,false_eq_true->bq,or_eq_true->dv,eq_iff_iff->gi,true_and->jQ,not_true->jR,and_self->jS,or_eq_false_iff->lW,and_true->nQ,false_and->sV,or_eq_true_iff->BZ,not_eq_true'->GD
open Classical renaming byContradiction->pX,choose_spec->sS
open False renaming elim->cE
open ForInStep renaming yield->jP
open Iff renaming rfl->bL
open Int renaming emod_lt_of_pos->cF,emod_nonneg->dy,toNat_natCast->jO,eq_ofNat_of_zero_le->wY
open List renaming length_append->ag,length_map->ai,mem_cons_of_mem->ao,mem_cons_self->ar,length_cons->aw,mem_cons->az,mem_append->aA,getElem?_eq_getElem->aB,length_nil->aD,getElem?_eq_some_iff->aF,size_toArray->aG,map_append->aI,mem_singleton->aK,mem_append_right->aM,replicate->aO,length_singleton->aU,map_cons->aW,append_nil->aY,not_mem_nil->bc,getElem?_append_left->bh,mem_map->bj,getElem?_map->br,getElem?_append_right->bB,mem_append_left->bD,range->bE,getElem?_set_ne->bG,flatMap_cons->bO,mem_filter->bV,lookup_cons->bW,length_filter_le->bX,nodup_cons->cj,length_set->cm,append_assoc->cz,nil_append->cD,getElem?_set_self->cN,filterMap_cons->cQ,zip_cons_cons->cY,mem_flatMap->cZ,length_take->da,getElem?_replicate->du,filter_eq_self->dz,length_replicate->dI,getElem?_take_of_lt->dX,length_eq_zero_iff->eC,cons_append->eE,all_eq_true->eF,getElem?_eq_none->eX,toArray->fL,map_map->fM,mem_range->gG,all_cons->iy,length->iA,of_mem_zip->iL,getD_eq_getElem?_getD->jr,nodup_append->jL,length_range->jM,length_drop->kG,isEmpty_nil->kH,map_nil->kN,foldl_cons->lq,mem_of_getElem?->lT,mem_iff_getElem->lU,forall_mem_cons->lV,take->mC,map_congr_left->mG,getElem?_range->mH,eraseDups_cons->mI,sum_cons->nL,any_cons->nM,zip_nil_right->nU,getElem_mem->pU,flatMap_nil->pV,forIn_cons->rh,length_eraseIdx_of_lt->sR,drop_eq_getElem_cons->uR,dropLast->uU,getElem?_cons_succ->wN,getD->wQ,filter_cons_of_pos->wR,filter_cons_of_neg->wU,all_nil->wX,take_append_drop->yy,set_append_right->yz,mem_of_mem_take->Aj,mem_of_mem_drop->Ak,dropLast_concat->Al,take_succ_cons->BV,replicate_succ->BW,drop_succ_cons->BX,mem_filterMap->Cf,findIdx?_cons->Cg,filter_append->Ci,filterMap_nil->Cj,zipIdx_cons->GH,map_flatMap->GI,getElem_inj->GJ,drop_length->GK,Perm->GN,zipIdx_nil->Jr,take_left'->Js,length_zip->Jt
open Nat renaming le_refl->ax,ne_of_lt->aR,le_trans->aS,lt_of_lt_of_le->ba,lt_succ_of_lt->bP,lt_of_le_of_lt->bS,pow_succ->cu,lt_irrefl->cC,zero_le->cT,pow_le_pow_right->fJ,ne_of_gt->fR,add_le_add_left->fW,le_succ->gC,lt_succ_self->iw,le_of_lt->jd,pow_pos->mB,add_zero->pA,min_le_right->qZ,min_self->yx,log2_lt->BS,add_le_add_right->BU,le_succ_of_le->GG,le_max_right->Jp,le_add_right->Jq,not_lt_zero->JX,min_le_left->JY,le_max_left->JZ
open Nat.succ renaming inj->sQ
open Option renaming bind_eq_bind->ae,bind_eq_some_iff->af,map_eq_some_iff->aJ,bind_some->aP,map_some->dq,isNone_iff_eq_none->dJ,pure_def->dQ,isSome_iff_exists->sP,getD_some->Cd,getD_none->Ce
open Option.some renaming inj->bI
open PyProof.Rows renaming callWith_type1->hV,listUpdate_at->lj,slot_tuple_getitem->lO,AllBare->mE,SortKind->oK,assignInOrder_cons->qY,get?_update_seq->wM,subscriptTail_builtinR->Gw,IntsAre->GC,seqEpoch_at->Jm,bubble_perm->Jn,IsTup->Ju,assignInOrder_nil->ND
open PyProof.Rows.IsTup renaming new->pB
open PySem renaming wpAny_bind->ab,Value->ah,Shared->ak,Addr->au,wpAny_pure->ay,Expr->aE,Program->aQ,Around->bt,wpAny_newObj_type->bu,World->bw,Heap->bJ,wpAny_call_entry->bY,sizeLine_eq->cq,wpAny_field->cL,wpAny_callSpecial?_slot->cM,Stmt->cR,wpAny_holding->cS,wpAny_seqItems->dU,Scope->eA,wpAny_setField->eO,wpAny_askSetting->eP,FuncData->eQ,wpAny_passesOwn->fD,wpAny_standAt->fE,wpAny_setState_of->fK,Builtin->gh,wpAny_setField_rec->gO,wpAny_Call_Name_kw->gQ,wpAny_truthy_bool->ir,Operator->iu,wpAny_rule->iX,wpAny_mono->iY,wpAny_newFunctionEnv->jb,SetTable->jc,Keyword->jN,NameKind->kE,wpAny_comprehension_free->lg,noFill_tuple_add->lN,codeAny_mono->mz,wpAny_loadPart'->mF,builtinLookup_eq_fast->nK,wpAny_updateSeq_pair->oI,wpAny_of_eq->oJ,Arguments->oX,wpAny_setEntries_of->pb,wpAny_onRaise->pR,wpAny_attempt->pS,seq_tuple_add->pT,Comprehension->pW,IsPart->rg,wpAny_setEpoch_of->rK,wpAny_isInstance->uP,IsPair->uS,wpAny_execs_nil->wK,typeLookup_type->wL,typeIs_str->yq,isSubtype_type->yt,call_meets->yu,Result->yw,wpAny_newList->BQ,PassesOwn->Cb,IsZip->Cm,wpAny_typeOf->Gv,seqIndex_neg->Gx,concat_meets->Gy,codeAny_compStart_list->Gz,wpAny_loadName_local->Jj,wpAny_letGo->Jk,seqIndex_of->Jl,GenState->Jv,wpAny_loadName_cell->JW,wpAny_pyIter_tuple->Nu,wpAny_call->Nv,wpAny_Name->Nw,wpAny_storeSet_of->Nx,wpAny_pyIter_slot->Ny,wpAny_pyIter_list->Nz,wpAny_assign_Name->NA,wpAny_Return_some->NB,fits_of_scanBound->NC
open PySem.Around renaming frames_deeper->wZ
open PySem.Builtin.Frozenset renaming addrOf->mD
open PySem.Builtin.Int renaming intBits->sU
open PySem.Builtin.List renaming listExtendWith->nO,listTooLong->oV,listSameRef->oW
open PySem.Builtin.Slice renaming slicePlaces->eW,sliceAdjust->iz,sliceApplied->nN
open PySem.Builtin.SmallTypes renaming ownedTupleIsFree->cW,ownedTupleHandOut->js
open PySem.Builtin.Str renaming occurrences->pY,subAt->uV
open PySem.Builtin.Tuple renaming tupleExact->fu
open PySem.Calls renaming Name_function_global->rN,call_function_entry->sT,callWith_builtin->wV,Constant_str->BY
open PySem.Heap renaming get?_push_of_some->aj,lt_size->aC,get?_push_size->aH,size_push->bH,get?_update_other->eN,get?_update_self->eY,SameBut->fN,get?_none_of_le->Am,ExtBut->An
open PySem.Heap.SameBut renaming update->bQ,refl->uT
open PySem.NameKind renaming free->bT,cell->lP
open PySem.Obj renaming mapSeq->cg,mapFields->kC,putSet->GA,data_mapFields->GB
open PySem.PassesOwn renaming never->Ai
open PySem.SeqAt.EqAt renaming same->GO
open PySem.SetTable renaming below->cX,grown->dW,relaid->BR
open PySem.SetTable.below renaming go->kL
open PySem.Str renaming ofString->fQ,empty->Jo
open PySem.Unicode renaming isDigit->dn
open PySem.Value renaming none->cw,ref->iZ,bool->rM,isStrOf->uQ,notImplemented->yv
open PySem.W.Looks renaming of_pure->jK
open PySem.pickOrder renaming go->rL
open Sum renaming inr->ph,inl->pq
open True renaming intro->nR
set_option Elab.async false
set_option linter.all false
set_option genInjectivity false
set_option genSizeOf false
set_option maxRecDepth 100000
set_option maxHeartbeats 4000000
section
-- CHANGE: your row's module here,as the last of these rows
namespace L2
open PySem PySem.Spec PyProof.Rows
abbrev Key:=Sum Int Str
def JL:Key->ah->Bool
 | .inl k,v=>Value.isInt k v
 | .inr x,v=>uQ x v
def Qr (w:bw):Key->Int
 | .inl k=>hashInt k
 | .inr x=>hashStr w x
def dM:∀ {k:Key} {v:ah},JL k v = true->(∃ i t,k = pq i/\v = Value.int i t)\/(∃ x t,k = ph x/\v = Value.str x t)
 | .inl i,v,h=>by
   obtain ⟨t,e⟩:=Value.isInt_shape (k:=i) (v:=v) h
   exact .inl ⟨i,t,rfl,e⟩
 | .inr x,v,h=>by
   obtain ⟨t,e⟩:=Value.isStrOf_shape (x:=x) (v:=v) h;exact .inr ⟨x,t,rfl,e⟩
def MN (a b:Int):decide ((pq a:Key) = pq b) = (a == b):=by
 by_cases e:a = b
 . subst e;simp
 . have h:¬ (pq a:Key) = pq b:=λq=>e (Sum.inl.inj q);rw [decide_eq_false h];exact (beq_eq_false_iff_ne.mpr e).symm
def MK (a b:Str):decide ((ph a:Key) = ph b) = decide (a = b):=by
 by_cases e:a = b
 . subst e;simp
 . have h:¬ (ph a:Key) = ph b:=λq=>e (Sum.inr.inj q);rw [decide_eq_false h,decide_eq_false e]
def MM (a:Int) (b:Str):decide ((pq a:Key) = ph b) = false:=decide_eq_false (λq=>nomatch q)
def ML (a:Str) (b:Int):decide ((ph a:Key) = pq b) = false:=decide_eq_false (λq=>nomatch q)
def ui (prog:aQ) (w:bw):PySem.KeyKind prog w Key where
 is:=JL
 hash:=Qr w
 inj:=λv a b ha hb=>by
  rcases dM ha with ⟨i,t,rfl,rfl⟩ | ⟨x,t,rfl,rfl⟩
  . rcases dM hb with ⟨j,u,rfl,e⟩ | ⟨y,u,rfl,e⟩
    . injection e with e1 _;rw [e1]
    . exact nomatch e
  . rcases dM hb with ⟨j,u,rfl,e⟩ | ⟨y,u,rfl,e⟩
    . exact nomatch e
    . injection e with e1 _;rw [e1]
 byValue:=λk v h=>by
  rcases dM h with ⟨i,t,rfl,rfl⟩ | ⟨x,t,rfl,rfl⟩<;>rfl
 pyHash:=λhv h=>by
  rcases dM hv with ⟨i,t,rfl,rfl⟩ | ⟨x,t,rfl,rfl⟩
  . exact wpAny_pyHash_int h
  . exact wpAny_pyHash_str h
 eqBool:=λhu hv h=>by
  rcases dM hu with ⟨i,t,rfl,rfl⟩ | ⟨x,t,rfl,rfl⟩
  . rcases dM hv with ⟨j,u,rfl,rfl⟩ | ⟨y,u,rfl,rfl⟩
    . rw [MN] at h;exact wpAny_eqBool_int h
    . rw [MM] at h;exact SeqAt.EqAt.int_str i t y u _ _ _ _ h
  . rcases dM hv with ⟨j,u,rfl,rfl⟩ | ⟨y,u,rfl,rfl⟩
    . rw [ML] at h;exact SeqAt.EqAt.str_int x t j u _ _ _ _ h
    . rw [MK] at h;exact wpAny_eqBool_str h
 «strs»:=λk x t v h=>by
  rcases dM h with ⟨i,u,rfl,e⟩ | ⟨y,u,rfl,e⟩
  . exact nomatch e
  . injection e with e1 _;subst e1;cases v<;>rfl
end L2
namespace L2
open PySem PySem.Spec PyProof.Rows
set_option genInjectivity true in
inductive V where
 | non | bl (b:Bool) | int (i:Int) | str (x:Str) | byt (b:Array UInt8) | flt (b:UInt64) | ref (a:au) | ty (n:String)
 deriving DecidableEq
def RelV:V->ah->Prop
 | .non,u=>u = cw
 | .bl b,u=>u = rM b
 | .int i,u=>∃ t,u = Value.int i t
 | .str x,u=>∃ t,u = Value.str x t
 | .byt b,u=>∃ t,u = Value.bytes b t
 | .flt b,u=>∃ t,u = Value.float b t
 | .ref a,u=>u = iZ a
 | .ty n,u=>u = Value.type n
abbrev Vals:List V->List ah->Prop:=Paired RelV
def Vals.length {xs:List V} {us:List ah} (r:Vals xs us):xs.length = us.length:=Paired.length r
def Vals.get:∀ {xs:List V} {us:List ah} {i:Nat} {x:V},Vals xs us->xs[i]? = some x->∃ u,us[i]? = some u/\RelV x u
 | _,_,_,_,.nil,e=>by simp at e
 | _,_,0,_,.cons r _,e=>by simp at e;subst e;exact ⟨_,rfl,r⟩
 | _,_,i+1,x,.cons _ t,e=>by
   obtain ⟨u,h1,h2⟩:=Vals.get (i:=i) (x:=x) t (by simpa using e);exact ⟨u,by simpa using h1,h2⟩
def Vals.set {x:V} {u:ah} (r:RelV x u):∀ {xs:List V} {us:List ah} (i:Nat),Vals xs us->Vals (xs.set i x) (us.set i u)
 | _,_,_,.nil=>.nil
 | _,_,0,.cons _ t=>.cons r t
 | _,_,i+1,.cons q t=>.cons q (Vals.set r i t)
def Vals.append:∀ {xs ys:List V} {us ws:List ah},Vals xs us->Vals ys ws->Vals (xs++ys) (us++ws)
 | _,_,_,_,.nil,s=>s
 | _,_,_,_,.cons r t,s=>.cons r (Vals.append t s)
def Vals.take:∀ {xs:List V} {us:List ah} (n:Nat),Vals xs us->Vals (xs.take n) (us.take n)
 | _,_,0,_=>.nil
 | _,_,_+1,.nil=>.nil
 | _,_,n+1,.cons r t=>.cons r (Vals.take n t)
def Vals.drop:∀ {xs:List V} {us:List ah} (n:Nat),Vals xs us->Vals (xs.drop n) (us.drop n)
 | _,_,0,r=>r
 | _,_,_+1,.nil=>.nil
 | _,_,n+1,.cons _ t=>Vals.drop n t
def iq:Option V->Option ah->Prop
 | some v,some u=>RelV v u
 | none,none=>True
 | _,_=>False
def KV {κ:Type}:List (κ × V)->List (κ × ah)->Prop:=Paired λ(p:κ × V) (q:κ × ah)=>p.1 = q.1/\RelV p.2 q.2
def kV:Key->V
 | .inl i=>.int i
 | .inr x=>.str x
inductive HO where
 | lst (xs:List V)
 | tup (xs:List V)
 | dK (kvs:List (Key × V)) | dT (kvs:List (List Key × V))
 | set (S:Int->Bool) (n:Nat)
 | ins (C dx:au) (fs:List (Str × V))
 | own (x:au)
 | xd (fs:List (Str × V))
 | met (f x:au)
 | rng (lo hi:Int)
 | frz (o:Obj) (u:HO)
 | tbl (ps:Array ah)
 | ext (φ:bJ->Prop)
abbrev Hp:=au->Option HO
def upd (H:Hp) (a:au) (o:HO):Hp:=λb=>if b = a then some o else H b
def bN {H:Hp} {a:au} {o:HO}:upd H a o a = some o:=by unfold upd;rw [if_pos rfl]
def bx {H:Hp} {a b:au} {o:HO} (h:b≠a):upd H a o b = H b:=by unfold upd;rw [if_neg h]
def gL {H:Hp} {a b:au} {o:HO} (h:H a = some o) (h':H b = none):a≠b:=by
 intro e;subst e;rw [h] at h';cases h'
section
variable (P:aQ) (w:bw)
def ft (H:Hp) (h:bJ) (a:au):HO->Prop
 | .lst xs=>xs.length<=sizeLine/\∃ (its:List ah) (n:Nat),Vals xs its/\h.get? a = some { cls:=.type "list",data:=.seq its.toArray n }
 | .tup xs=>xs.length<=sizeLine/\∃ its:List ah,Vals xs its/\Ju h a its.toArray
 | .dK kvs=>kvs.length<=sizeLine/\(a == sysModules) = false/\∃ vs,KV kvs vs/\h.DictOf (ui P w) a vs
 | .dT kvs=>kvs.length<=sizeLine/\(a == sysModules) = false/\∃ xs:List (List Key × au × ah),
    Paired (λ(p:List Key × V) (q:List Key × au × ah)=>p.1 = q.1/\H q.2.1 = some (.tup (p.1.map kV))/\RelV p.2 q.2.2) kvs xs /\
    ∃ o es ep,h.get? a = some o/\o.ExactDict/\o.data = .dict es ep/\es.toList = xs.map (entryOfKey (tupleKind (ui P w)))/\(xs.map (·.1)).Nodup
 | .set S n=>h.SetOf (intKind P w) a S n
 | .ins C dx fs=>H dx = some (.own a)/\fs.length<=1000/\dx≠a/\h.get? a = some (PySem.W.instObj C dx) /\
    ∃ mA,h.Ns1 dx mA/\(∀ f,iq (fs.lookup f) (mA f))/\PySem.Within mA (fs.map (·.1))
 | .own _=>∃ o,h.get? a = some o
 | .xd fs=>∃ mA,h.Ns1 a mA/\∀ f,iq (fs.lookup f) (mA f)
 | .rng lo hi=>∃ t u v,h.get? a = some { cls:=.type "range",data:=.fields #[.int lo t,.int hi u,.int 1 v] }
 | .frz o u=>h.get? a = some o/\ft H h a u
 | .tbl ps=>h.get? a = some { cls:=.none,data:=.fields ps }
 | .met f x=>h.get? a = some (PySem.W.methodObj (.ref f) (.ref x))
 | .ext φ=>φ h/\(∃ o,h.get? a = some o)/\∀ h1 h2:bJ,φ h1->(∀ o,h1.get? a = some o->h2.get? a = some o)->φ h2
def HOk (H:Hp) (h:bJ):Prop:=∀ a o,H a = some o->ft P w H h a o
end
section
variable {P:aQ} {w:bw} {H H':Hp} {h h':bJ} {a:au} {o:HO}
def ft.lt (x:ft P w H h a o):a < h.objs.size:=by
 cases o with
 | lst xs=>obtain ⟨_,_,_,_,e⟩:=x;exact aC e
 | tup xs=>obtain ⟨_,_,_,p⟩:=x;exact p.lt
 | dK kvs=>obtain ⟨_,_,_,_,o,_,_,e,_⟩:=x;exact aC e
 | dT kvs=>obtain ⟨_,_,_,_,o,_,_,e,_⟩:=x;exact aC e
 | set S n=>obtain ⟨o,_,_,_,e,_⟩:=x;exact aC e
 | ins C dx fs=>obtain ⟨_,_,_,e,_⟩:=x;exact aC e
 | own y=>obtain ⟨_,e⟩:=x;exact aC e
 | xd fs=>obtain ⟨_,⟨_,_,_,e,_⟩,_⟩:=x;exact aC e
 | rng lo hi=>obtain ⟨_,_,_,e⟩:=x;exact aC e
 | frz ob u=>obtain ⟨e,_⟩:=x;exact aC e
 | tbl ps=>exact aC (show h.get? a = some _ from x)
 | met f y=>exact aC (show h.get? a = some _ from x)
 | ext φ=>obtain ⟨_,⟨_,e⟩,_⟩:=x;exact aC e
def Paired.mapP {α β:Type} {F G:α->β->Prop}:∀ {l₁:List α} {l₂:List β},Paired F l₁ l₂->(∀ a b,F a b->G a b)->Paired G l₁ l₂
 | _,_,.nil,_=>.nil
 | _,_,.cons r t,f=>.cons (f _ _ r) (Paired.mapP t f)
def ft.stay (x:ft P w H h a o) (k:∀ b u,(b = a\/H b = some (.own a))->h.get? b = some u->h'.get? b = some u)
 (ho:∀ b,H b = some (.own a)->H' b = some (.own a)) (ht:∀ b xs,H b = some (.tup xs)->H' b = some (.tup xs)):ft P w H' h' a o:=by
 induction o with
 | lst xs=>obtain ⟨z,its,n,r,e⟩:=x;exact ⟨z,its,n,r,k _ _ (.inl rfl) e⟩
 | tup xs=>obtain ⟨z,its,r,ob,e,c⟩:=x;exact ⟨z,its,r,ob,k _ _ (.inl rfl) e,c⟩
 | dK kvs=>obtain ⟨z,y,vs,r,ob,es,ep,e,c⟩:=x;exact ⟨z,y,vs,r,ob,es,ep,k _ _ (.inl rfl) e,c⟩
 | dT kvs =>
   obtain ⟨z,y,xs,r,ob,es,ep,e,c⟩:=x
   exact ⟨z,y,xs,Paired.mapP r λp q z=>⟨z.1,ht _ _ z.2.1,z.2.2⟩,ob,es,ep,k _ _ (.inl rfl) e,c⟩
 | set S n=>obtain ⟨ob,es,ep,t,e,c⟩:=x;exact ⟨ob,es,ep,t,k _ _ (.inl rfl) e,c⟩
 | ins C dx fs =>
   obtain ⟨d,z,ne,e,mA,⟨od,es,ep,e2,c⟩,r⟩:=x
   exact ⟨ho _ d,z,ne,k _ _ (.inl rfl) e,mA,⟨od,es,ep,k _ _ (.inr d) e2,c⟩,r⟩
 | own y=>obtain ⟨ob,e⟩:=x;exact ⟨ob,k _ _ (.inl rfl) e⟩
 | xd fs=>obtain ⟨mA,⟨od,es,ep,e,c⟩,r⟩:=x;exact ⟨mA,⟨od,es,ep,k _ _ (.inl rfl) e,c⟩,r⟩
 | rng lo hi=>obtain ⟨t,u,v,e⟩:=x;exact ⟨t,u,v,k _ _ (.inl rfl) e⟩
 | frz ob u ih=>obtain ⟨e,q⟩:=x;exact ⟨k _ _ (.inl rfl) e,ih q⟩
 | tbl ps =>
   have e:h.get? a = some { cls:=.none,data:=.fields ps }:=x;show h'.get? a = some { cls:=.none,data:=.fields ps }
   exact k a _ (.inl rfl) e
 | met f y =>
   have e:h.get? a = some (PySem.W.methodObj (.ref f) (.ref y)):=x;show h'.get? a = some (PySem.W.methodObj (.ref f) (.ref y))
   exact k a _ (.inl rfl) e
 | ext φ=>obtain ⟨p,⟨o,e⟩,st⟩:=x;exact ⟨st _ _ p λo q=>k _ _ (.inl rfl) q,⟨o,k _ _ (.inl rfl) e⟩,st⟩
def HOk.lt (x:HOk P w H h) (e:H a = some o):a < h.objs.size:=(x a o e).lt
def HOk.fresh (x:HOk P w H h) (e:h.objs.size<=a):H a = none:=by
 cases q:H a with
 | none=>rfl
 | some u=>exact absurd (ba (x.lt q) e) (cC _)
def HOk.kept (x:HOk P w H h) (k:∀ b u,h.get? b = some u->h'.get? b = some u):HOk P w H h':=λa o e =>
 (x a o e).stay (λb u _ q=>k b u q) (λ_ q=>q) λ_ _ q=>q
def HOk.laid (x:HOk P w H h) (k:∀ b u,h.get? b = some u->h'.get? b = some u) (hp:h.objs.size<=a) (new:ft P w (upd H a o) h' a o):HOk P w (upd H a o) h':=λb u e=>by
 have hn:=x.fresh hp;by_cases hb:b = a
 . subst hb;rw [bN] at e;cases e;exact new
 . rw [bx hb] at e;exact (x b u e).stay (λc v _ q=>k c v q) (λc q=>by rw [bx (gL q hn)];exact q) λc xs q=>by rw [bx (gL q hn)];exact q
end
def Rd (H:Hp) (a:au) (u:HO):Prop:=H a = some u\/∃ o,H a = some (.frz o u)
def Rd.ok {P:aQ} {w:bw} {H:Hp} {h:bJ} {a:au} {u:HO} (r:Rd H a u) (x:HOk P w H h):ft P w H h a u:=by
 rcases r with r | ⟨o,r⟩
 . exact x a u r
 . obtain ⟨_,q⟩:=x a _ r;exact q
def Mut:Option HO->Prop
 | some (.lst _)=>True
 | some (.dK _)=>True
 | some (.dT _)=>True
 | some (.set _ _)=>True
 | some (.ins _ _ _)=>True
 | some (.ext _)=>True
 | _=>False
section
variable {P:aQ} {w:bw} {H:Hp} {h h':bJ} {x e:au} {o':HO}
def HOk.write (ok:HOk P w H h) (mu:Mut (H x)) (he:e = x\/H e = some (.own x)) (k:∀ b u,b≠e->h.get? b = some u->h'.get? b = some u) (heo:∃ u,h'.get? e = some u)
 (new:ft P w (upd H x o') h' x o'):HOk P w (upd H x o') h':=λb u q=>by
 have nown:∀ c y,H c = some (.own y)->c≠x:=λc y r z=>by subst z;rw [r] at mu;exact mu
 have ntup:∀ c xs,H c = some (.tup xs)->c≠x:=λc xs r z=>by subst z;rw [r] at mu;exact mu
 by_cases hb:b = x
 . subst hb;rw [bN] at q;cases q;exact new
 . rw [bx hb] at q;by_cases hbe:b = e
   . have q':H b = some (.own x):=by
      rcases he with z | z
      . exact absurd (hbe.trans z) hb
      . rw [hbe];exact z
     rw [q] at q';cases q';obtain ⟨v,hv⟩:=heo;exact ⟨v,by rw [hbe];exact hv⟩
   . refine (ok b u q).stay (λc v hc r=>k c v ?_ r) (λc r=>by rw [bx (nown c b r)];exact r) λc xs r=>by rw [bx (ntup c xs r)];exact r
     rcases hc with rfl | hc
     . exact hbe
     . rintro rfl;rcases he with z | z
       . exact nown c b hc z
       . rw [hc] at z;cases z;exact hb rfl
end
structure Un (fs ex:List au) (H H':Hp) (h h':bJ):Prop where
 keep:∀ b o,h.get? b = some o->H b = none->b∉fs->b∉ex->h'.get? b = some o
 slot:∀ b o,h.get? b = some o->H b = none->b∈fs->b∉ex->∃ sl,h'.get? b = some { o with slots:=sl }
 free:∀ b o,h.get? b = some o->H b = none->b∉ex->H' b = none
 there:∀ b o,h.get? b = some o->b∉ex->∃ o',h'.get? b = some o'
 tups:∀ b xs,H b = some (.tup xs)->H' b = some (.tup xs)
 frzs:∀ b o u,H b = some (.frz o u)->H' b = some (.frz o u)
 tbls:∀ b ps,H b = some (.tbl ps)->∃ more,H' b = some (.tbl (ps++more))
section
variable {fs fs' ex ex':List au} {H H1 H2:Hp} {h h1 h2 h':bJ} {a x e:au} {o:HO}
def Un.any (u:Un fs ex H H1 h h1) (q:h.get? b = some ob) (n:H b = none) (hx:b∉ex):∃ sl,h1.get? b = some { ob with slots:=sl }:=by
 by_cases hb:b∈fs
 . exact u.slot b ob q n hb hx
 . exact ⟨ob.slots,u.keep b ob q n hb hx⟩
def Un.kept (k:∀ b u,h.get? b = some u->h'.get? b = some u):Un fs ex H H h h' :=
 ⟨λb ob q _ _ _=>k b ob q,λb ob q _ _ _=>⟨ob.slots,k b ob q⟩,λ_ _ _ n _=>n,λb ob q _=>⟨ob,k b ob q⟩,λ_ _ q=>q,λ_ _ _ q=>q,λ_ ps q=>⟨#[],by rw [q];simp⟩⟩
def Un.refl:Un fs ex H H h h:=Un.kept λ_ _ q=>q
def Un.laid (k:∀ b u,h.get? b = some u->h'.get? b = some u) (hp:h.objs.size<=a) (hn:H a = none):Un fs ex H (upd H a o) h h' where
 keep:=λb u q _ _ _=>k b u q
 slot:=λb u q _ _ _=>⟨u.slots,k b u q⟩
 free:=λb u q n _=>by rw [bx (aR (ba (aC q) hp))];exact n
 there:=λb u q _=>⟨u,k b u q⟩
 tups:=λb xs q=>by rw [bx (gL q hn)];exact q
 frzs:=λb u xs q=>by rw [bx (gL q hn)];exact q
 tbls:=λb ps q=>⟨#[],by rw [bx (gL q hn),q];simp⟩
def Un.write (mu:Mut (H x)) (he:e = x\/H e = some (.own x)) (k:∀ b u,b≠e->h.get? b = some u->h'.get? b = some u) (heo:∃ u,h'.get? e = some u):Un fs ex H (upd H x o) h h':=by
 have hx:∀ b,H b = none->b≠x:=λb n z=>by subst z;rw [n] at mu;exact mu
 have hb:∀ b,H b = none->b≠e:=λb n z=>by
  subst z;rcases he with r | r
  . exact hx b n r
  . rw [n] at r;cases r
 have hm:∀ b u,H b = some u->¬ Mut (some u)->b≠x:=λb u q nm z=>by subst z;rw [q] at mu;exact nm mu
 refine ⟨λb u q n _ _=>k b u (hb b n) q,λb u q n _ _=>⟨u.slots,k b u (hb b n) q⟩,λb u q n _=>by rw [bx (hx b n)];exact n,λb u q _=>?_,
  λb xs q=>by rw [bx (hm b _ q λz=>z)];exact q,λb u xs q=>by rw [bx (hm b _ q λz=>z)];exact q,λb ps q=>⟨#[],by rw [bx (hm b _ q λz=>z),q];simp⟩⟩
 by_cases hbe:b = e
 . subst hbe;exact heo
 . exact ⟨u,k b u hbe q⟩
end
def trk (h:bJ) (H:Hp):List au:=(bE h.objs.size).filter λa=>(H a).isSome
def rF (h:bJ) (H:Hp):bJ:=PySem.W.hideAll h (trk h H)
def BC (h:bJ) (H:Hp):(rF h H).objs.size = h.objs.size:=PySem.W.hideAll_size _ _
def Fy (e:h.get? b = some o) (n:H b = none):(rF h H).get? b = some o :=
 PySem.W.hideAll_get _ e λhm=>by
  have q:(H b).isSome = true:=(bV.mp hm).2;rw [n] at q;simp at q
def Iu (e:(rF h H).get? b = some o):h.get? b = some o/\H b = none:=by
 have e':h.get? b = some o:=PySem.W.of_hideAll (trk h H) e;refine ⟨e',?_⟩
 cases q:H b with
 | none=>rfl
 | some x =>
   have hm:b∈trk h H:=bV.mpr ⟨gG.mpr (aC e'),by simp [q]⟩;have z:(rF h H).get? b = none:=PySem.W.hideAll_none (trk h H) hm;rw [z] at e;cases e
end L2
namespace L2
open PySem PySem.Spec PyProof.Rows
structure Mod (K:PySem.W.Frag) (mg:Str->Option ah) (base:bJ):Prop where
 kin:K.In base
 glob:base.Ns mainGlobals mg
 blt:∃ mb,base.Ns builtinsNs mb/\∀ x:Str,x≠"__name__"->mb x = bootBuiltins x
 nolimit:base.NoLimit
structure Cx where
 prog:aQ
 w:bw
 K:PySem.W.Frag
 mg:Str->Option ah
 base:bJ
 A:bt
 N:List Str
 s₀:ak
 H₀:Hp
 env:Env
 outer:List Env
 stack:List Env
 ex:List au
 fn:Str->Bool
 calm:Bool
 pn:List (au × Obj)
 xe:ah->ak->Prop
def frs (l:List Env):List au:=l.filterMap (·.frame)
noncomputable abbrev Cx.fs (X:Cx):List au:=frs X.outer
def Vis (sc:eA) (x:Str):Prop:=sc.names.lookup x = some .local\/sc.names.lookup x = some .cell\/sc.names.lookup x = some .free
def Loc (sc:eA) (x:Str):Prop:=sc.names.lookup x = some .local\/sc.names.lookup x = some .cell
def Look (env:Env) (h:bJ) (m:Str->Option ah) (x:Str) (u:ah):Prop :=
 (env.kindOf x = some .local/\m x = some u)\/((env.kindOf x = some .cell\/env.kindOf x = some .free)/\∃ c,env.cells.lookup x = some c/\h.IsCell c (some u))
structure Cx.Ok (X:Cx):Prop where
 mod:Mod X.K X.mg X.base
 kind:X.env.scope.kind = .function
 glob:X.env.globals = mainGlobals
 blt:X.env.builtins = builtinsNs
 above:X.s₀.heap.objs.size<=X.env.locals
 inj:∀ x y c,X.env.cells.lookup x = some c->X.env.cells.lookup y = some c->x = y
 has:∀ x,(X.env.kindOf x = some .cell\/X.env.kindOf x = some .free)->∃ c,X.env.cells.lookup x = some c
 cab:∀ x c,X.fn x = true->X.env.cells.lookup x = some c->X.s₀.heap.objs.size<=c
 hd:X.calm = true->X.A.handled = none
 frames:X.A.frames = some X.stack
 stk:X.stack = X.outer\/(X.stack = X.env::X.outer/\X.env.frame = some X.env.locals)
 exf:∀ b∈X.ex,b≠X.env.locals/\∀ x c,X.env.cells.lookup x = some c->c≠b
 bs:∀ b o,X.base.get? b = some o->X.s₀.heap.get? b = some o/\X.H₀ b = none
 bsz:X.base.objs.size<=X.s₀.heap.objs.size
 noex:∀ b o,X.base.get? b = some o->b∉X.ex
 exfs:∀ b∈X.ex,b∉X.fs
 funs:X.s₀.heap.FunFrames X.base X.outer
 frf:∀ b∈X.fs,X.H₀ b = none
structure Inv (X:Cx) (pins:List (au × Obj)) (σ:List (Option V)) (H:Hp) (s:ak):Prop where
 ok:X.Ok
 os:s.os = X.s₀.os
 bare:mE s.gens
 base:Un X.fs X.ex X.H₀ H X.s₀.heap s.heap
 loc:∃ m,s.heap.Ns X.env.locals m/\∀ (i:Nat) (x:Str) (v:V),X.N[i]? = some x->σ[i]? = some (some v)->Vis X.env.scope x->∃ u,RelV v u/\Look X.env s.heap m x u
 cell:∀ x c,X.env.cells.lookup x = some c->∃ v,s.heap.IsCell c v
 free:H X.env.locals = none
 freeC:∀ x c,X.env.cells.lookup x = some c->H c = none
 pin:∀ p∈X.pn++pins,s.heap.get? p.1 = some p.2/\H p.1 = none/\p.1≠X.env.locals/\p.1∉X.fs/\∀ v,p.2.data≠.cell v
 hok:HOk X.prog X.w H s.heap
 len:σ.length = X.N.length
section
variable {X:Cx} {pins:List (au × Obj)} {σ:List (Option V)} {H H':Hp} {s:ak} {h':bJ}
def Cx.Ok.nofr (ok:X.Ok) (e:X.base.get? b = some o):b∉X.fs:=λhb=>by
 have:=(ok.funs.mem hb).1;rw [e] at this;cases this
def Inv.bs (I:Inv X pins σ H s):∀ b o,X.base.get? b = some o->s.heap.get? b = some o/\H b = none:=λb o e =>
 ⟨I.base.keep b o (I.ok.bs b o e).1 (I.ok.bs b o e).2 (I.ok.nofr e) (I.ok.noex b o e),I.base.free b o (I.ok.bs b o e).1 (I.ok.bs b o e).2 (I.ok.noex b o e)⟩
def Inv.bk (I:Inv X pins σ H s):∀ b o,X.base.get? b = some o->s.heap.get? b = some o:=λb o e=>(I.bs b o e).1
def Inv.mod (I:Inv X pins σ H s):Mod X.K X.mg X.base:=I.ok.mod
def Inv.kIn (I:Inv X pins σ H s):X.K.In s.heap:=I.ok.mod.kin.keeps I.bk
def Inv.lt (I:Inv X pins σ H s):X.env.locals < s.heap.objs.size:=let ⟨_,hn,_⟩:=I.loc;hn.lt
def Inv.sz (I:Inv X pins σ H s):X.s₀.heap.objs.size<=s.heap.objs.size:=aS I.ok.above (jd I.lt)
def Inv.nofs (I:Inv X pins σ H s) (h:s.heap.objs.size<=a):a∉X.fs:=λhb=>by
 obtain ⟨_,o,ho,_⟩:=I.ok.funs.mem hb;exact absurd (ba (aC ho) (aS I.sz h)) (cC _)
def Inv.cne (I:Inv X pins σ H s):∀ x c,X.env.cells.lookup x = some c->c≠X.env.locals:=λx c e z=>by
 obtain ⟨v,o,ho,hd⟩:=I.cell x c e;obtain ⟨m,⟨o',es,ep,ho',hd',_⟩,_⟩:=I.loc;rw [z,ho'] at ho;cases ho;rw [hd'] at hd;cases hd
def Inv.funs (I:Inv X pins σ H s):s.heap.FunFrames X.base X.outer:=by
 have all:∀ (l:List Env),(∀ b∈frs l,b∈X.fs)->X.s₀.heap.FunFrames X.base l->s.heap.FunFrames X.base l:=by
  intro l
  induction l with
  | nil=>intro _ _;trivial
  | cons env r ih =>
    intro hs hl;obtain ⟨hk,⟨L,o,hf,hn,ho,hd⟩,hr⟩:=hl;have hL:L∈X.fs:=hs L (by unfold frs;rw [cQ,hf];exact ar);obtain ⟨sl,e⟩:=I.base.slot L o ho (I.ok.frf L hL) hL λz=>I.ok.exfs L z hL;exact ⟨hk,⟨L,_,hf,hn,e,hd⟩,ih (λb hb=>hs b (by unfold frs;rw [cQ,hf];exact ao _ hb)) hr⟩
 exact all X.outer (λ_ hb=>hb) I.ok.funs
def Inv.stack (I:Inv X pins σ H s):s.heap.FunFrames X.base X.stack:=by
 rcases I.ok.stk with e | ⟨e,hf⟩
 . rw [e];exact I.funs
 . rw [e];obtain ⟨m,hn,_⟩:=I.loc;refine .cons (by rw [I.ok.kind];decide) hf hn ?_ I.funs;exact Am (aS I.ok.bsz I.ok.above)
def Inv.stkSub (I:Inv X pins σ H s):∀ b∈frs X.stack,b∈X.env.locals::X.fs:=λb hb=>by
 rcases I.ok.stk with e | ⟨e,hf⟩
 . rw [e] at hb;exact ao _ hb
 . rw [e] at hb;unfold frs at hb;rw [cQ,hf] at hb;exact hb
def Inv.stkFree (I:Inv X pins σ H s):∀ b∈frs X.stack,H b = none:=λb hb=>by
 rcases az.mp (I.stkSub b hb) with e | hb
 . rw [e];exact I.free
 . obtain ⟨_,o,ho,_⟩:=I.ok.funs.mem hb;exact I.base.free b o ho (I.ok.frf b hb) λz=>I.ok.exfs b z hb
def Inv.step {g':Array Jv} {t':Nat} {d':Drawn} {ch:List au} (I:Inv X pins σ H s)
 (hch:∀ b∈ch,(b∈X.ex\/X.s₀.heap.objs.size<=b)/\b≠X.env.locals/\(∀ x c,X.env.cells.lookup x = some c->c≠b)/\∀ p∈X.pn++pins,p.1≠b)
 (keep:∀ b o,b≠X.env.locals->b∉X.fs->b∉ch->s.heap.get? b = some o->H b = none->h'.get? b = some o)
 (slot:∀ b o,b≠X.env.locals->b∈X.fs->b∉ch->s.heap.get? b = some o->H b = none->∃ sl,h'.get? b = some { o with slots:=sl }) (free:∀ b o,b∉ch->s.heap.get? b = some o->H b = none->H' b = none)
 (there:∀ b o,b∉ch->s.heap.get? b = some o->∃ o',h'.get? b = some o')
 (tups:∀ b xs,H b = some (.tup xs)->H' b = some (.tup xs)) (frzs:∀ b o u,H b = some (.frz o u)->H' b = some (.frz o u)) (tbls:∀ b ps,H b = some (.tbl ps)->∃ more,H' b = some (.tbl (ps++more)))
 (ns:∀ m,s.heap.Ns X.env.locals m->h'.Ns X.env.locals m) (hok:HOk X.prog X.w H' h') (hg:mE g') :
 Inv X pins σ H' { s with heap:=h',gens:=g',drawn:=d',toks:=t' }:=by
 have neL:∀ b o,X.s₀.heap.get? b = some o->b≠X.env.locals:=λb o e=>aR (ba (aC e) I.ok.above)
 have neC:∀ b o,X.s₀.heap.get? b = some o->b∉X.ex->b∉ch:=λb o e hx hb=>by
  rcases (hch b hb).1 with z | z
  . exact hx z
  . exact absurd (ba (aC e) z) (cC _)
 have cellK:∀ x c,X.env.cells.lookup x = some c->∀ v,s.heap.IsCell c v->h'.IsCell c v:=λx c e v zz=>by
  obtain ⟨o,ho,hd⟩:=zz;have nch:c∉ch:=λz=>(hch c z).2.2.1 x c e rfl;by_cases hc:c∈X.fs
  . obtain ⟨sl,q⟩:=slot c o (I.cne x c e) hc nch ho (I.freeC x c e);exact ⟨_,q,hd⟩
  . exact ⟨o,keep c o (I.cne x c e) hc nch ho (I.freeC x c e),hd⟩
 refine ⟨I.ok,I.os,hg,⟨λb o e n hb hx=>?_,λb o e n hb hx=>?_,λb o e n hx=>?_,λb o e hx=>?_,λb xs e=>tups b xs (I.base.tups b xs e),λb o xs e=>frzs b o xs (I.base.frzs b o xs e),λb ps e=>?_⟩,?_,λx c e=>?_,?_,λx c e=>?_,λp hp=>?_,hok,I.len⟩
 . exact keep b o (neL b o e) hb (neC b o e hx) (I.base.keep b o e n hb hx) (I.base.free b o e n hx)
 . obtain ⟨sl,e1⟩:=I.base.slot b o e n hb hx;obtain ⟨sl',e2⟩:=slot b _ (neL b o e) hb (neC b o e hx) e1 (I.base.free b o e n hx);exact ⟨sl',e2⟩
 . obtain ⟨o',e1⟩:=I.base.there b o e hx;exact free b o' (neC b o e hx) e1 (I.base.free b o e n hx)
 . obtain ⟨o',e1⟩:=I.base.there b o e hx;exact there b o' (neC b o e hx) e1
 . obtain ⟨m1,e1⟩:=I.base.tbls b ps e;obtain ⟨m2,e2⟩:=tbls b _ e1;exact ⟨m1++m2,by rw [e2,Array.append_assoc]⟩
 . obtain ⟨m,hn,hl⟩:=I.loc;refine ⟨m,ns m hn,λi x v e1 e2 e3=>?_⟩;obtain ⟨u,r,l⟩:=hl i x v e1 e2 e3;refine ⟨u,r,?_⟩;rcases l with l | ⟨k,c,e,z⟩
   . exact .inl l
   . exact .inr ⟨k,c,e,cellK x c e _ z⟩
 . obtain ⟨v,z⟩:=I.cell x c e;exact ⟨v,cellK x c e v z⟩
 . obtain ⟨m,⟨o,_,_,ho,_⟩,_⟩:=I.loc;exact free _ o (λz=>(hch _ z).2.1 rfl) ho I.free
 . obtain ⟨v,o,ho,hd⟩:=I.cell x c e;exact free c o (λz=>(hch c z).2.2.1 x c e rfl) ho (I.freeC x c e)
 . obtain ⟨e,n,ne,nf,d⟩:=I.pin p hp;have nch:p.1∉ch:=λz=>(hch p.1 z).2.2.2 p hp rfl;exact ⟨keep p.1 p.2 ne nf nch e n,free p.1 p.2 nch e n,ne,nf,d⟩
def Inv.un {t':Nat} (I:Inv X pins σ H s) (u:Un X.fs [] H H' s.heap h') (hok:HOk X.prog X.w H' h'):Inv X pins σ H' { s with heap:=h',toks:=t' }:=by
 obtain ⟨m,⟨o,es,ep,ho,r⟩,_⟩:=id I.loc;obtain ⟨sl,hL⟩:=u.any ho I.free ↥0
 exact I.step (g':=s.gens) (d':=s.drawn) (ch:=[]) (λ_ z=>nomatch z) (λb o _ hb _ e n=>u.keep b o e n hb ↥0) (λb o _ hb _ e n=>u.slot b o e n hb ↥0) (λb o _ e n=>u.free b o e n ↥0) (λb o _ e=>u.there b o e ↥0) u.tups u.frzs u.tbls (λm' hm=>by
  obtain ⟨o',es',ep',ho',r'⟩:=hm;rw [ho] at ho';cases ho';exact ⟨_,es',ep',hL,r'⟩) hok I.bare
def Inv.call {g':Array Jv} {t':Nat} {d':Drawn} {ch:List au} (I:Inv X pins σ H s) (u:Un (frs X.stack) ch H H' s.heap h') (hok:HOk X.prog X.w H' h') (hg:mE g')
 (hch:∀ b∈ch,(b∈X.ex\/X.s₀.heap.objs.size<=b)/\b≠X.env.locals/\(∀ x c,X.env.cells.lookup x = some c->c≠b)/\∀ p∈X.pn++pins,p.1≠b) :
 Inv X pins σ H' { s with heap:=h',gens:=g',drawn:=d',toks:=t' }:=by
 obtain ⟨m,⟨o,es,ep,ho,r⟩,_⟩:=id I.loc;obtain ⟨sl,hL⟩:=u.any ho I.free λz=>(hch _ z).2.1 rfl
 exact I.step (ch:=ch) hch (λb o hL hb hc e n=>u.keep b o e n (λz=>(az.mp (I.stkSub b z)).elim hL hb) hc) (λb o _ _ hc e n=>u.any e n hc) (λb o hc e n=>u.free b o e n hc) (λb o hc e=>u.there b o e hc) u.tups u.frzs u.tbls (λm' hm=>by
  obtain ⟨o',es',ep',ho',r'⟩:=hm;rw [ho] at ho';cases ho';exact ⟨_,es',ep',hL,r'⟩) hok hg
def Inv.turned {t':Nat} {it:au} (I:Inv X pins σ H s) (k:∀ b o,b≠it->s.heap.get? b = some o->h'.get? b = some o) (hn:H it = none) (hL:it≠X.env.locals)
 (h1:it∈X.ex\/X.s₀.heap.objs.size<=it) (h2:∀ x c,X.env.cells.lookup x = some c->c≠it) (h3:∀ p∈X.pn++pins,p.1≠it):Inv X pins σ H { s with heap:=h',toks:=t' }:=by
 have nit:∀ b u,H b = some u->b≠it:=λb u e z=>by rw [z,hn] at e;cases e
 refine I.step (g':=s.gens) (d':=s.drawn) (ch:=[it]) (λb hb=>?_) (λb o _ _ hc e _=>k b o (λz=>hc (by simp [z])) e) (λb o _ _ hc e _=>⟨o.slots,k b o (λz=>hc (by simp [z])) e⟩) (λ_ _ _ _ n=>n)
  (λb o hc e=>⟨o,k b o (λz=>hc (by simp [z])) e⟩) (λ_ _ e=>e) (λ_ _ _ e=>e) (λb ps e=>⟨#[],by rw [e];simp⟩) (λm hm=>?_) (λb u e=>?_) I.bare
 . have e:b = it:=by simpa using hb
   subst e;exact ⟨h1,hL,h2,h3⟩
 . obtain ⟨o,es,ep,ho,r⟩:=hm;exact ⟨o,es,ep,k _ o (Ne.symm hL) ho,r⟩
 . refine (I.hok b u e).stay (λc v hc q=>k c v ?_ q) (λ_ q=>q) λ_ _ q=>q;rcases hc with z | z
   . rw [z];exact nit b u e
   . exact nit c _ z
def Inv.tok (I:Inv X pins σ H s) (t:Nat):Inv X pins σ H { s with toks:=t }:=I.un (h':=s.heap) (t':=t) Un.refl I.hok
def Inv.kept {t':Nat} (I:Inv X pins σ H s) (k:∀ b u,s.heap.get? b = some u->h'.get? b = some u):Inv X pins σ H { s with heap:=h',toks:=t' }:=I.un (Un.kept k) (I.hok.kept k)
def Inv.laid {a:au} {o:HO} {t':Nat} (I:Inv X pins σ H s) (k:∀ b u,s.heap.get? b = some u->h'.get? b = some u) (hp:s.heap.objs.size<=a) (new:ft X.prog X.w (upd H a o) h' a o) :
 Inv X pins σ (upd H a o) { s with heap:=h',toks:=t' }:=I.un (Un.laid k hp (I.hok.fresh hp)) (I.hok.laid k hp new)
def Inv.write (I:Inv X pins σ H s) (mu:Mut (H x)) (he:e = x\/H e = some (.own x)) (k:∀ b u,b≠e->s.heap.get? b = some u->h'.get? b = some u) (heo:∃ u,h'.get? e = some u)
 (new:ft X.prog X.w (upd H x o) h' x o):Inv X pins σ (upd H x o) { s with heap:=h',toks:=t' }:=I.un (Un.write mu he k heo) (I.hok.write mu he k heo new)
def Inv.pins_of (I:Inv X pins σ H s) (h:∀ p∈pins',s.heap.get? p.1 = some p.2/\H p.1 = none/\p.1≠X.env.locals/\p.1∉X.fs/\∀ v,p.2.data≠.cell v):Inv X pins' σ H s :=
 ⟨I.ok,I.os,I.bare,I.base,I.loc,I.cell,I.free,I.freeC,λp hp=>(aA.mp hp).elim (λz=>I.pin p (bD _ z)) (h p),I.hok,I.len⟩
def vM {N:List Str} (hN:N.Nodup) {i j:Nat} {x:Str} (a:N[i]? = some x) (b:N[j]? = some x):i = j:=by
 obtain ⟨h1,e1⟩:=aF.mp a;obtain ⟨h2,e2⟩:=aF.mp b;exact (GJ hN).mp (e1.trans e2.symm)
def AS {M:Model} {A:bt} {E:ah->ak->Prop} {i:Nat} {x:Str} {v:V} {u:ah} {Q:Unit->ak->Prop} (I:Inv X pins σ H s) (hN:X.N.Nodup) (hi:X.N[i]? = some x) (hx:Loc X.env.scope x) (r:RelV v u)
 (h:∀ s',Inv X pins (σ.set i (some v)) H s'->(∃ a,fN a s.heap s'.heap/\(a = X.env.locals\/X.env.cells.lookup x = some a))->Q () s') (hf:X.fn x = true\/X.env.scope.names.lookup x = some .local:=by first | exact .inl rfl | exact .inr rfl | assumption):wpAny M A (storeName X.env x u) Q E s:=by
 obtain ⟨m,hn,hl⟩:=id I.loc;have hcls:(X.env.scope.kind == .class || (X.env.scope.kind == .module && X.env.locals != X.env.globals)) = false:=by rw [I.ok.kind];rfl
 have hiσ:i < σ.length:=by rw [I.len];exact (aF.mp hi).1
 have cne:=I.cne
 have tracked:∀ {a:au} {h':bJ},(∃ o,s.heap.get? a = some o/\H a = none)->fN a s.heap h'->HOk X.prog X.w H h':=λ{a h'} ha hs b ob e=>by
  obtain ⟨_,_,hfree⟩:=ha;refine (I.hok b ob e).stay (λc w' hc q=>(hs.2 c ?_).trans q) (λ_ q=>q) λ_ _ q=>q;rintro rfl;rcases hc with rfl | hc
  . rw [hfree] at e;cases e
  . rw [hfree] at hc;cases hc
 rcases hx with hk | hk
 . refine wpAny_storeName_local hk hn (λh' hn' hs=>?_) hcls;obtain ⟨oL,_,_,hoL,_⟩:=id hn;refine h _ ⟨I.ok,I.os,I.bare,⟨λb o e n hb hx=>?_,λb o e n hb hx=>?_,I.base.free,λb o e hx=>?_,I.base.tups,I.base.frzs,I.base.tbls⟩,⟨_,hn',λj y v' e1 e2 e3=>?_⟩,λy c e=>?_,I.free,I.freeC,λp hp=>?_,tracked ⟨oL,hoL,I.free⟩ hs,by simpa using I.len⟩ ⟨_,hs,.inl rfl⟩
   . exact (hs.2 b (aR (ba (aC e) I.ok.above))).trans (I.base.keep b o e n hb hx)
   . obtain ⟨sl,e1⟩:=I.base.slot b o e n hb hx;exact ⟨sl,(hs.2 b (aR (ba (aC e) I.ok.above))).trans e1⟩
   . obtain ⟨o',e1⟩:=I.base.there b o e hx;exact ⟨o',(hs.2 b (aR (ba (aC e) I.ok.above))).trans e1⟩
   . by_cases hj:j = i
     . subst hj;rw [hi] at e1;cases e1;rw [cN hiσ] at e2;cases e2;exact ⟨u,r,.inl ⟨hk,↥0⟩⟩
     . rw [bG (Ne.symm hj)] at e2;obtain ⟨u',r',q⟩:=hl j y v' e1 e2 e3;refine ⟨u',r',?_⟩;rcases q with ⟨k,e⟩ | ⟨k,c,e,z⟩
       . refine .inl ⟨k,?_⟩;have:y≠x:=λe=>hj (vM hN e1 (e▸hi));simp [this,e]
       . exact .inr ⟨k,c,e,z.sameBut hs (cne y c e)⟩
   . obtain ⟨w',z⟩:=I.cell y c e;exact ⟨w',z.sameBut hs (cne y c e)⟩
   . obtain ⟨e,n,ne,nf,d⟩:=I.pin p hp;exact ⟨(hs.2 p.1 ne).trans e,n,ne,nf,d⟩
 . have hfn:X.fn x = true:=by
    rcases hf with z | z
    . exact z
    . rw [z] at hk;cases hk
   obtain ⟨c,hc⟩:=I.ok.has x (.inl hk);obtain ⟨w',z⟩:=I.cell x c hc;refine wpAny_storeName_cell I.ok.kind hk hc z (λh' hc' hs=>?_);obtain ⟨oc,hoc,hocd⟩:=id z;refine h { s with heap:=h' } ⟨I.ok,I.os,I.bare,⟨λb o e n hb hx=>?_,λb o e n hb hx=>?_,I.base.free,λb o e hx=>?_,I.base.tups,I.base.frzs,I.base.tbls⟩,⟨m,hn.sameBut hs (Ne.symm (cne x c hc)),λj y v' e1 e2 e3=>?_⟩,λy c' e=>?_,I.free,I.freeC,λp hp=>?_,tracked ⟨oc,hoc,I.freeC x c hc⟩ hs,by simpa using I.len⟩ ⟨c,hs,.inr hc⟩
   . exact (hs.2 b (aR (ba (aC e) (I.ok.cab x c hfn hc)))).trans (I.base.keep b o e n hb hx)
   . obtain ⟨sl,e1⟩:=I.base.slot b o e n hb hx;exact ⟨sl,(hs.2 b (aR (ba (aC e) (I.ok.cab x c hfn hc)))).trans e1⟩
   . obtain ⟨o',e1⟩:=I.base.there b o e hx;exact ⟨o',(hs.2 b (aR (ba (aC e) (I.ok.cab x c hfn hc)))).trans e1⟩
   . by_cases hj:j = i
     . subst hj;rw [hi] at e1;cases e1;rw [cN hiσ] at e2;cases e2;exact ⟨u,r,.inr ⟨.inl hk,c,hc,hc'⟩⟩
     . rw [bG (Ne.symm hj)] at e2;obtain ⟨u',r',q⟩:=hl j y v' e1 e2 e3;refine ⟨u',r',?_⟩;rcases q with q | ⟨k,c',e,z'⟩
       . exact .inl q
       . refine .inr ⟨k,c',e,z'.sameBut hs ?_⟩;rintro rfl;exact hj (vM hN e1 (I.ok.inj _ _ _ e hc▸hi))
   . by_cases hcc:c' = c
     . subst hcc;exact ⟨_,hc'⟩
     . obtain ⟨w2,z2⟩:=I.cell y c' e;exact ⟨w2,z2.sameBut hs hcc⟩
   . obtain ⟨e,n,ne,nf,d⟩:=I.pin p hp;refine ⟨(hs.2 p.1 ?_).trans e,n,ne,nf,d⟩;intro q;rw [q,hoc] at e;have q':oc = p.2:=bI e;exact d w' (by rw [<- q'];exact hocd)
def jy (I:Inv X pins σ H s) (hN:X.N.Nodup) (hi:X.N[i]? = some x) (hx:Loc X.env.scope x) (r:RelV v u)
 (h:∀ s',Inv X pins (σ.set i (some v)) H s'->Q () s') (hf:X.fn x = true\/X.env.scope.names.lookup x = some .local:=by first | exact .inl rfl | exact .inr rfl | assumption):wpAny M A (storeName X.env x u) Q E s :=
 AS I hN hi hx r (λs' I' _=>h s' I') hf
def Inv.call' (I:Inv X pins σ H s) (ho:s'.os = s.os) (u:Un (frs X.stack) ch H H' s.heap s'.heap) (hok:HOk X.prog X.w H' s'.heap) (hg:mE s'.gens)
 (hch:∀ b∈ch,(b∈X.ex\/X.s₀.heap.objs.size<=b)/\b≠X.env.locals/\(∀ x c,X.env.cells.lookup x = some c->c≠b)/\∀ p∈X.pn++pins,p.1≠b):Inv X pins σ H' s':=by
 obtain ⟨h',g',d',t',o'⟩:=s';have e:o' = s.os:=ho;subst e;exact I.call (g':=g') (t':=t') (d':=d') u hok hg hch
end
abbrev XK:=ah->Option au->Hp->Prop
abbrev St:=List (Option V)
abbrev VK:=V->Hp->Prop
abbrev TE:=St->Hp->VK->Prop
abbrev TT:=St->Hp->(Bool->Hp->Prop)->Prop
abbrev TA:=St->Hp->(List V->Hp->Prop)->Prop
structure Ends where
 nx:St->Hp->Prop
 rt:VK
 bk:St->Hp->Prop:=λ_ _=>False
 ct:St->Hp->Prop:=λ_ _=>False
abbrev TS:=Ends->St->Hp->Prop
def EP (X:Cx) (pins:List (au × Obj)) (σ:St) (Q:VK) (u:ah) (s':ak):Prop:=∃ v H',Inv X pins σ H' s'/\RelV v u/\Q v H'
def TP (X:Cx) (pins:List (au × Obj)) (σ:St) (Q:Bool->Hp->Prop) (b:Bool) (s':ak):Prop:=∃ H',Inv X pins σ H' s'/\Q b H'
def AP (X:Cx) (pins:List (au × Obj)) (σ:St) (Q:List V->Hp->Prop) (us:List ah) (s':ak):Prop:=∃ vs H',Inv X pins σ H' s'/\Vals vs us/\Q vs H'
def SP (X:Cx) (pins:List (au × Obj)) (D:Ends) (f:Flow) (s':ak):Prop :=
 match f with
 | .next=>∃ σ' H',Inv X pins σ' H' s'/\D.nx σ' H'
 | .brk=>∃ σ' H',Inv X pins σ' H' s'/\D.bk σ' H'
 | .cont=>∃ σ' H',Inv X pins σ' H' s'/\D.ct σ' H'
 | .ret u=>∃ v σ' H',Inv X pins σ' H' s'/\RelV v u/\D.rt v H'
def PE (X:Cx) (e:aE) (t:TE):Prop :=
 ∀ (pins:List (au × Obj)) (s:ak) (σ:St) (H:Hp) (Q:VK),Inv X pins σ H s->t σ H Q->wpAny (model X.prog X.w) X.A (eval e X.env) (EP X pins σ Q) X.xe s
def PT (X:Cx) (e:aE) (t:TT):Prop :=
 ∀ (pins:List (au × Obj)) (s:ak) (σ:St) (H:Hp) (Q:Bool->Hp->Prop),Inv X pins σ H s->t σ H Q->wpAny (model X.prog X.w) X.A (isTrue e X.env (eval e X.env)) (TP X pins σ Q) X.xe s
def PW (X:Cx) (e:aE) (t:TT):Prop :=
 ∀ (whole:Sem ah) (pins:List (au × Obj)) (s:ak) (σ:St) (H:Hp) (Q:Bool->Hp->Prop),Inv X pins σ H s->t σ H Q->wpAny (model X.prog X.w) X.A (isTrue e X.env whole) (TP X pins σ Q) X.xe s
def PW.pt {X:Cx} {e:aE} {t:TT} (h:PW X e t):PT X e t:=h _
def PA (X:Cx) (es:List aE) (t:TA):Prop :=
 ∀ (pos:Pos) (pins:List (au × Obj)) (s:ak) (σ:St) (H:Hp) (Q:List V->Hp->Prop),Inv X pins σ H s->t σ H Q->wpAny (model X.prog X.w) X.A (spliced (backTo pos (starEach es X.env))) (AP X pins σ Q) X.xe s
def PS (X:Cx) (st:cR) (t:TS):Prop :=
 ∀ (pins:List (au × Obj)) (s:ak) (σ:St) (H:Hp) (D:Ends),Inv X pins σ H s->t D σ H->wpAny (model X.prog X.w) X.A (exec st X.env) (SP X pins D) X.xe s
def PSs (X:Cx) (st:List cR) (t:TS):Prop :=
 ∀ (pins:List (au × Obj)) (s:ak) (σ:St) (H:Hp) (D:Ends),Inv X pins σ H s->t D σ H->wpAny (model X.prog X.w) X.A (execs st X.env) (SP X pins D) X.xe s
def thn {α:Type} {t:Sem α} {Q Q':α->ak->Prop} {M:Model} {A:bt} {E:ah->ak->Prop} {s:ak} (h:wpAny M A t Q E s) (hQ:∀ a s,Q a s->Q' a s):wpAny M A t Q' E s:=iY h hQ λ_ _ x=>x
end L2
namespace L2
open PySem PySem.Spec PyProof.Rows
section
variable {X:Cx}
def KQ (i:Nat):TE:=λσ H Q=>∃ v,σ[i]? = some (some v)/\Q v H
def tC (v:V):TE:=λ_ H Q=>Q v H
def jY (hN:X.N[i]? = some x) (hv:Vis X.env.scope x) (hd:(x == ("__debug__":Str)) = false:=by decide) (hcd:(x == ("__classdict__":Str)) = false:=by decide):PE X (.Name x pos) (KQ i):=by
 intro pins s σ H Q I h;obtain ⟨v,e,h⟩:=h;obtain ⟨m,hn,hl⟩:=I.loc;obtain ⟨u,r,l⟩:=hl i x v hN e hv;have fin:EP X pins σ Q u s:=⟨v,H,I,r,h⟩;rcases l with ⟨hk,hm⟩ | ⟨hk,c,hc,hcell⟩
 . exact Nw (Jj I.ok.kind hk hn hm fin) hd
 . rcases hk with hk | hk
   . exact Nw (JW I.ok.kind hk hc hcell fin) hd
   . exact Nw (wpAny_loadName_free I.ok.kind hk hc hcell fin hcd) hd
def LM:PE X (.Constant (.int i) j pos) (tC (.int i)):=λ_ _ _ H _ I h=>wpAny_Constant_int ⟨.int i,H,I.tok _,⟨_,rfl⟩,h⟩
def Oy:PE X (.Constant (.bool b) j pos) (tC (.bl b)):=λ_ _ _ H _ I h=>Constant_bool ⟨.bl b,H,I,rfl,h⟩
def LL:PE X (.Constant .none j pos) (tC .non):=λ_ _ _ H _ I h=>Constant_none ⟨.non,H,I,rfl,h⟩
def LJ:PE X (.Constant (.str x) j pos) (tC (.str x)):=λ_ _ _ H _ I h=>BY ⟨.str x,H,I.tok _,⟨_,rfl⟩,h⟩
def Gl (X:Cx) (x:Str):Prop:=X.env.kindOf x = some .globalImplicit
def um (I:Inv X pins σ H s) (hg:Gl X x) (hm:X.mg x = some u) (h:Q u s)
 (hd:(x == ("__debug__":Str)) = false:=by decide):wpAny (model X.prog X.w) X.A (eval (.Name x pos) X.env) Q E s :=
 rN I.ok.kind hg (Calls.loadGlobal_global (by rw [I.ok.glob];exact I.mod.glob.keeps I.bk) hm h) hd
def qI {E:ah->ak->Prop} {pins:List (au × Obj)} {s:ak} {σ:St} {H:Hp} {x:Str} {u:ah} {pos:Pos} {Q:ah->ak->Prop} (I:Inv X pins σ H s) (hg:Gl X x) (hm:X.mg x = none) (hv:bootBuiltins x = some u) (h:Q u s)
 (hn:x≠"__name__":=by decide) (hd:(x == ("__debug__":Str)) = false:=by decide):wpAny (model X.prog X.w) X.A (eval (.Name x pos) X.env) Q E s:=by
 obtain ⟨mb,h1,h2⟩:=I.mod.blt;exact rN I.ok.kind hg (Calls.loadGlobal_builtin (by rw [I.ok.glob];exact I.mod.glob.keeps I.bk) hm (by rw [I.ok.blt];exact h1.keeps I.bk) ((h2 x hn).trans hv) h) hd
def HX (hg:Gl X x) (hm:X.mg x = some u) (r:RelV v u) (hd:(x == ("__debug__":Str)) = false:=by decide):PE X (.Name x pos) (tC v) :=
 λ_ _ _ H _ I h=>um I hg hm ⟨v,H,I,r,h⟩ hd
def HZ (hg:Gl X x) (hm:X.mg x = none) (hv:bootBuiltins x = some u) (r:RelV v u) (hn:x≠"__name__":=by decide) (hd:(x == ("__debug__":Str)) = false:=by decide):PE X (.Name x pos) (tC v) :=
 λ_ _ _ H _ I h=>qI I hg hm hv ⟨v,H,I,r,h⟩ hn hd
variable {a b:aE} {ta tb:TE} {pos:Pos}
variable {tA tB':TT} {rest:List aE}
def PZ (t u:TT):TT:=λσ H Q=>t σ H λc H1=>if c = true then u σ H1 Q else Q false H1
def tOr (t u:TT):TT:=λσ H Q=>t σ H λc H1=>if c = true then Q true H1 else u σ H1 Q
def PM (t:TT):TT:=λσ H Q=>t σ H λc H1=>Q (!c) H1
def HP (ha:PT X a tA):PW X (.BoolOp .And [a] pos) tA:=by
 intro wh pins s σ H Q I h;refine isTrue_and (thn (ha pins s σ H Q I h) λc s1 e=>?_)
 cases c with
 | true=>exact isTrue_and_nil e
 | false=>exact e
def Lr (ha:PT X a tA):PW X (.BoolOp .Or [a] pos) tA:=by
 intro wh pins s σ H Q I h;refine isTrue_or (thn (ha pins s σ H Q I h) λc s1 e=>?_)
 cases c with
 | false=>exact isTrue_or_nil e
 | true=>exact e
def Lu (ha:PT X a tA) (hb:PW X (.BoolOp .And (b::rest) pos) tB'):PW X (.BoolOp .And (a::b::rest) pos) (PZ tA tB'):=by
 intro wh pins s σ H Q I h;refine isTrue_and (thn (ha pins s σ H _ I h) λc s1 ⟨H1,I1,q1⟩=>?_)
 cases c with
 | true=>exact hb wh pins s1 σ H1 Q I1 q1
 | false=>exact ⟨H1,I1,q1⟩
def Om (ha:PT X a tA) (hb:PW X (.BoolOp .Or (b::rest) pos) tB'):PW X (.BoolOp .Or (a::b::rest) pos) (tOr tA tB'):=by
 intro wh pins s σ H Q I h;refine isTrue_or (thn (ha pins s σ H _ I h) λc s1 ⟨H1,I1,q1⟩=>?_)
 cases c with
 | true=>exact ⟨H1,I1,q1⟩
 | false=>exact hb wh pins s1 σ H1 Q I1 q1
def Lv (ha:PT X a tA):PT X (.UnaryOp .Not a pos) (PM tA):=by
 intro pins s σ H Q I h;exact isTrue_not (ha pins s σ H (λc H1=>Q (!c) H1) I h)
def NX (ta tb:TE):TE:=λσ H Q=>ta σ H λx H1=>∃ c,x = .bl c/\if c = true then tb σ H1 Q else Q (.bl false) H1
def PL (ta tb:TE):TE:=λσ H Q=>ta σ H λx H1=>∃ c,x = .bl c/\if c = true then Q (.bl true) H1 else tb σ H1 Q
def NS (ta:TE):TE:=λσ H Q=>ta σ H λx H1=>∃ c,x = .bl c/\Q (.bl (!c)) H1
def Ep (h:PE X a t):PE X (.BoolOp op [a] pos) t:=λpins s σ H Q I hw=>BoolOp_one (h pins s σ H Q I hw)
def LO (ha:PE X a ta) (hb:PE X (.BoolOp .And (b::rest) pos) tb):PE X (.BoolOp .And (a::b::rest) pos) (NX ta tb):=by
 intro pins s σ H Q I h;refine BoolOp_and (thn (ha pins s σ H _ I h) λv s1 ⟨x,H1,I1,r1,q1⟩=>?_);obtain ⟨c,rfl,q1⟩:=q1;cases r1;refine ir ?_
 cases c with
 | true=>exact hb pins s1 σ H1 Q I1 q1
 | false=>exact ⟨.bl false,H1,I1,rfl,q1⟩
def Ov (ha:PE X a ta) (hb:PE X (.BoolOp .Or (b::rest) pos) tb):PE X (.BoolOp .Or (a::b::rest) pos) (PL ta tb):=by
 intro pins s σ H Q I h;refine BoolOp_or (thn (ha pins s σ H _ I h) λv s1 ⟨x,H1,I1,r1,q1⟩=>?_);obtain ⟨c,rfl,q1⟩:=q1;cases r1;refine ir ?_
 cases c with
 | false=>exact hb pins s1 σ H1 Q I1 q1
 | true=>exact ⟨.bl true,H1,I1,rfl,q1⟩
def LK (ha:PE X a ta):PE X (.UnaryOp .Not a pos) (NS ta):=by
 intro pins s σ H Q I h;refine UnaryOp_ (thn (ha pins s σ H _ I h) λv s1 ⟨x,H1,I1,r1,q1⟩=>?_);obtain ⟨c,rfl,q1⟩:=q1;cases r1;exact not_of (ir ⟨.bl (!c),H1,I1,rfl,q1⟩)
def tIf (t:TT) (ta tb:TE):TE:=λσ H Q=>t σ H λc H1=>if c = true then ta σ H1 Q else tb σ H1 Q
def Eu {c:aE} (hc:PT X c tA) (ha:PE X a ta) (hb:PE X b tb):PE X (.IfExp c a b pos) (tIf tA ta tb):=by
 intro pins s σ H Q I h;refine wpAny_IfExp (thn (hc pins s σ H _ I h) λd s1 ⟨H1,I1,q1⟩=>?_)
 cases d with
 | true=>exact ha pins s1 σ H1 Q I1 q1
 | false=>exact hb pins s1 σ H1 Q I1 q1
end
end L2
namespace L2
open PySem PySem.Spec PyProof.Rows
def SqL (K:PySem.W.Frag) (H:Hp) (a:au) (xs:List V):Prop :=
 Rd H a (.lst xs) \/
  ∃ (o:Obj) (its:Array ah) (n:Nat),K.lookup a = some o/\o.cls = .type "list"/\o.dict = none/\o.data = .seq its n/\its.size<=sizeLine/\Vals xs its.toList
def SqT (K:PySem.W.Frag) (H:Hp) (a:au) (xs:List V):Prop :=
 Rd H a (.tup xs) \/
  ∃ (o:Obj) (its:Array ah) (n:Nat),K.lookup a = some o/\o.cls = .type "tuple"/\o.data = .seq its n/\its.size<=sizeLine/\Vals xs its.toList
def QD:ah->Option V
 | .none=>some .non
 | .bool b=>some (.bl b)
 | .int i _=>some (.int i)
 | .str x _=>some (.str x)
 | .bytes b _=>some (.byt b)
 | .float b _=>some (.flt b)
 | .ref a=>some (.ref a)
 | .type n=>some (.ty n)
 | _=>none
def RelV.abs (r:RelV x u):QD u = some x:=by
 cases x with
 | non=>cases r;rfl
 | bl _=>cases r;rfl
 | int _=>obtain ⟨t,rfl⟩:=r;rfl
 | str _=>obtain ⟨t,rfl⟩:=r;rfl
 | byt _=>obtain ⟨t,rfl⟩:=r;rfl
 | flt _=>obtain ⟨t,rfl⟩:=r;rfl
 | ref _=>cases r;rfl
 | ty _=>cases r;rfl
def RelV.inj {x y:V} {u:ah} (r:RelV x u) (q:RelV y u):x = y:=bI (r.abs.symm.trans q.abs)
def Vals.inj:∀ {xs ys:List V} {us:List ah},Vals xs us->Vals ys us->xs = ys
 | _,_,_,.nil,.nil=>rfl
 | _,_,_,.cons r t,.cons r' t'=>by rw [r.inj r',Vals.inj t t']
section
variable {X:Cx} {pins:List (au × Obj)} {σ:St} {H:Hp} {s:ak} {a:au} {xs ys:List V}
def SqT.of {K:PySem.W.Frag} (h:H a = some (.tup xs)):SqT K H a xs:=.inl (.inl h)
def Inv.list (I:Inv X pins σ H s) (h:SqL X.K H a xs):∃ its:List ah,Vals xs its/\PlainL s.heap a its.toArray/\xs.length<=sizeLine:=by
 rcases h with h | ⟨o,its,n,hk,hc,hd,hs,hz,r⟩
 . obtain ⟨z,its,n,r,e⟩:=h.ok I.hok;exact ⟨its,r,⟨_,n,e,rfl,rfl,rfl⟩,z⟩
 . refine ⟨its.toList,r,⟨o,n,I.kIn a o hk,hc,hd,by simpa using hs⟩,?_⟩;have e:=r.length;simp only [bK] at e
   lia
def Inv.tuple (I:Inv X pins σ H s) (h:SqT X.K H a xs):∃ its:List ah,Vals xs its/\Ju s.heap a its.toArray/\xs.length<=sizeLine:=by
 rcases h with h | ⟨o,its,n,hk,hc,hs,hz,r⟩
 . obtain ⟨z,its,r,p⟩:=h.ok I.hok;exact ⟨its,r,p,z⟩
 . refine ⟨its.toList,r,⟨o,I.kIn a o hk,hc,n,by simpa using hs⟩,?_⟩;have e:=r.length;simp only [bK] at e
   lia
def Inv.list_inj (I:Inv X pins σ H s) (h:SqL X.K H a xs) (h':SqL X.K H a ys):xs = ys:=by
 obtain ⟨its,r,⟨o,n,e,_,_,d⟩,_⟩:=I.list h;obtain ⟨its',r',⟨o',n',e',_,_,d'⟩,_⟩:=I.list h';rw [e] at e';cases e';rw [d] at d';injection d' with d1 _;have:its = its':=by simpa using congrArg Array.toList d1
 subst this;exact r.inj r'
def Inv.tuple_inj (I:Inv X pins σ H s) (h:SqT X.K H a xs) (h':SqT X.K H a ys):xs = ys:=by
 obtain ⟨its,r,⟨o,e,_,n,d⟩,_⟩:=I.tuple h;obtain ⟨its',r',⟨o',e',_,n',d'⟩,_⟩:=I.tuple h';rw [e] at e';cases e';rw [d] at d';injection d' with d1 _;have:its = its':=by simpa using congrArg Array.toList d1
 subst this;exact r.inj r'
end
abbrev Cx.wish (X:Cx) (E:ah->ak->Prop):Cx:={ X with xe:=E }
abbrev Cx.nox (X:Cx):Cx:=X.wish λ_ _=>False
def Cx.Ok.wish {X:Cx} (ok:X.Ok) (E:ah->ak->Prop):(X.wish E).Ok :=
 ⟨ok.mod,ok.kind,ok.glob,ok.blt,ok.above,ok.inj,ok.has,ok.cab,ok.hd,ok.frames,ok.stk,ok.exf,ok.bs,ok.bsz,ok.noex,ok.exfs,ok.funs,ok.frf⟩
def Cx.Ok.unwish {X:Cx} {E:ah->ak->Prop} (ok:(X.wish E).Ok):X.Ok :=
 ⟨ok.mod,ok.kind,ok.glob,ok.blt,ok.above,ok.inj,ok.has,ok.cab,ok.hd,ok.frames,ok.stk,ok.exf,ok.bs,ok.bsz,ok.noex,ok.exfs,ok.funs,ok.frf⟩
section
variable {X:Cx} {pins:List (au × Obj)} {σ:St} {H:Hp} {s:ak} {E:ah->ak->Prop}
def Inv.wish (I:Inv X pins σ H s) (E:ah->ak->Prop):Inv (X.wish E) pins σ H s:=⟨I.ok.wish E,I.os,I.bare,I.base,I.loc,I.cell,I.free,I.freeC,I.pin,I.hok,I.len⟩
def Inv.unwish (I:Inv (X.wish E) pins σ H s):Inv X pins σ H s:=⟨I.ok.unwish,I.os,I.bare,I.base,I.loc,I.cell,I.free,I.freeC,I.pin,I.hok,I.len⟩
def SP.unwish {D:Ends} {f:Flow} {s':ak} (h:SP (X.wish E) pins D f s'):SP X pins D f s':=by
 cases f with
 | next=>obtain ⟨σ',H',I,q⟩:=h;exact ⟨σ',H',I.unwish,q⟩
 | brk=>obtain ⟨σ',H',I,q⟩:=h;exact ⟨σ',H',I.unwish,q⟩
 | cont=>obtain ⟨σ',H',I,q⟩:=h;exact ⟨σ',H',I.unwish,q⟩
 | ret u=>obtain ⟨v,σ',H',I,r,q⟩:=h;exact ⟨v,σ',H',I.unwish,r,q⟩
def PSs.nox {st:List cR} {t:TS} (h:PSs X.nox st t):PSs X st t:=λpins s σ H D I hw =>
 iY (h pins s σ H D (I.wish _) hw) (λ_ _ q=>q.unwish) λ_ _ z=>cE z
end
section
variable {X:Cx} {st:cR} {rest:List cR} {t u:TS} {e:aE} {te:TE} {pos:Pos}
def NU:TS:=λD σ H=>D.nx σ H
def PH (t u:TS):TS:=λD σ H=>t { D with nx:=u D } σ H
def HS:PSs X [] NU:=λ_ _ σ H _ I h=>wK ⟨σ,H,I,h⟩
def Ef (h1:PS X st t) (h2:PSs X rest u):PSs X (st::rest) (PH t u):=by
 intro pins s σ H D I h;refine wpAny_execs_cons (thn (h1 pins s σ H { D with nx:=u D } I h) λf s1 q=>?_)
 cases f with
 | next =>
   obtain ⟨σ',H',I',q⟩:=q
   exact h2 pins s1 σ' H' D I' q
 | ret v=>exact q
 | brk=>exact q
 | cont=>exact q
def Inv.quiet {pins:List (au × Obj)} {σ:St} {H:Hp} {s:ak} (I:Inv X pins σ H s):interactive X.env = false:=by simp [interactive,I.ok.kind]
def NV (te:TE):TS:=λD σ H=>te σ H λ_ H1=>D.nx σ H1
def yZ (he:PE X e te) (hs:swapsWith e none pos.line X.env = pure false:=by rfl):PS X (.Expr e pos) (NV te):=by
 intro pins s σ H D I h;exact wpAny_Expr_any (thn (he pins s σ H _ I h) λv s1 ⟨x,H1,I1,r1,q1⟩=>⟨σ,H1,I1,q1⟩) I.quiet hs
def PJ (te:TE):TS:=λD σ H=>te σ H D.rt
def Lx (he:PE X e te):PS X (.Return (some e) pos) (PJ te):=by
 intro pins s σ H D I h;exact NB (thn (he pins s σ H _ I h) λv s1 ⟨x,H1,I1,r1,q1⟩=>⟨x,σ,H1,I1,r1,q1⟩)
def PQ (c:TT) (t u:TS):TS:=λD σ H=>c σ H λb H1=>if b = true then t D σ H1 else u D σ H1
def Oo {c:aE} {a b:List cR} {tc:TT} (hc:PT X c tc) (ha:PSs X a t) (hb:PSs X b u):PS X (.If c a b pos) (PQ tc t u):=by
 intro pins s σ H D I h;refine wpAny_If (thn (hc pins s σ H _ I h) λd s1 ⟨H1,I1,q1⟩=>?_)
 cases d with
 | true=>exact ha pins s1 σ H1 D I1 q1
 | false=>exact hb pins s1 σ H1 D I1 q1
def KS:TS:=λ_ _ _=>False
def Eh:PS X st KS:=λ_ _ _ _ _ _ h=>h.elim
end
abbrev TG:=V->St->Hp->(St->Hp->Prop)->Prop
abbrev TGs:=List V->St->Hp->(St->Hp->Prop)->Prop
def PG (X:Cx) (target:aE) (t:TG):Prop :=
 ∀ (pins:List (au × Obj)) (s:ak) (σ:St) (H:Hp) (v:V) (u:ah) (Q:St->Hp->Prop),Inv X pins σ H s->RelV v u->t v σ H Q ->
  wpAny (model X.prog X.w) X.A (assign target X.env u) (λ_ s'=>∃ σ' H',Inv X pins σ' H' s'/\Q σ' H') X.xe s
def PGs (X:Cx) (ts:List aE) (t:TGs):Prop :=
 ∀ (pins:List (au × Obj)) (s:ak) (σ:St) (H:Hp) (vs:List V) (us:List ah) (Q:St->Hp->Prop),Inv X pins σ H s->Vals vs us->t vs σ H Q ->
  wpAny (model X.prog X.w) X.A (assignInOrder ((assignEach ts X.env).map (·.2)) us) (λ_ s'=>∃ σ' H',Inv X pins σ' H' s'/\Q σ' H') X.xe s
abbrev Nr:=V->V->V->Hp->(Hp->Prop)->Prop
def Pz (X:Cx) (t:Nr):Prop :=
 ∀ (pins:List (au × Obj)) (s:ak) (σ:St) (H:Hp) (o i v:V) (ov iv u:ah) (Q:Hp->Prop),Inv X pins σ H s->RelV o ov->RelV i iv->RelV v u->t o i v H Q ->
  wpAny (model X.prog X.w) X.A (setItem ov iv u) (λ_ s'=>∃ H',Inv X pins σ H' s'/\Q H') X.xe s
abbrev TIp:=V->V->Hp->VK->Prop
def PIp (X:Cx) (op:iu) (t:TIp):Prop :=
 ∀ (pins:List (au × Obj)) (s:ak) (σ:St) (H:Hp) (x y:V) (v u:ah) (Q:VK),Inv X pins σ H s->RelV x v->RelV y u->t x y H Q ->
  wpAny (model X.prog X.w) X.A (inplaceOp op v u) (EP X pins σ Q) X.xe s
section
variable {X:Cx} {pos:Pos}
def vW (i:Nat):TG:=λv σ H Q=>Q (σ.set i (some v)) H
def zd (hN:X.N.Nodup) (hi:X.N[i]? = some x) (hx:Loc X.env.scope x) (hf:X.fn x = true\/X.env.scope.names.lookup x = some .local:=by first | exact .inl rfl | exact .inr rfl | assumption):PG X (.Name x pos) (vW i):=by
 intro pins s σ H v u Q I r h;exact NA (jy I hN hi hx r (λs' I'=>⟨_,H,I',h⟩) hf)
def Ph:TGs:=λvs σ H Q=>vs = []/\Q σ H
def JQ (t:TG) (u:TGs):TGs:=λvs σ H Q=>∃ v r,vs = v::r/\t v σ H λσ' H'=>u r σ' H' Q
def HW:PGs X [] Ph:=by
 intro pins s σ H vs us Q I r h;obtain ⟨e,h⟩:=h;subst e;cases r;exact ND ⟨σ,H,I,h⟩
def En {e:aE} {es:List aE} {t:TG} {u:TGs} (h1:PG X e t) (h2:PGs X es u)
 (hs:(assignEach (e::es) X.env).map (·.2) = assign e X.env::(assignEach es X.env).map (·.2):=by rfl):PGs X (e::es) (JQ t u):=by
 intro pins s σ H vs us Q I r h;obtain ⟨v,vr,e1,h⟩:=h;subst e1
 cases r with
 | cons r rr =>
   rw [hs];refine qY (thn (h1 pins s σ H _ _ _ I r h) λ_ s1 ⟨σ1,H1,I1,q1⟩=>?_);exact h2 pins s1 σ1 H1 _ _ Q I1 rr q1
def Qv (K:PySem.W.Frag) (n:Nat) (t:TGs):TG:=λv σ H Q=>∃ a xs,v = .ref a/\SqT K H a xs/\xs.length = n/\t xs σ H Q
def LF (hc:X.calm = true) (h:PGs X es t)
 (hn:(assignEach es X.env).length = n:=by rfl) (hst:(assignEach es X.env).findIdx? (·.1) = none:=by rfl):PG X (.Tuple es k pos) (Qv X.K n t):=by
 intro pins s σ H v u Q I r hw;obtain ⟨a,xs,e1,hq,hl,hw⟩:=hw;subst e1;cases r;obtain ⟨its,rv,ht,hz⟩:=I.tuple hq;refine assign_Tuple_tuple (I.ok.hd hc) ht (by simp [hn,<- hl,rv.length]) hst λh' hx=>?_;have I1:Inv X pins σ H { s with heap:=h' }:=I.kept (t':=s.toks) λb o e=>hx b o (aR (aC e)) e;exact h pins _ σ H xs _ Q I1 (by simpa using rv) hw
def Qw (to ti:TE) (t:Nr):TG:=λv σ H Q=>to σ H λo H1=>ti σ H1 λi H2=>t o i v H2 λH3=>Q σ H3
def LG {o i:aE} {to ti:TE} {t:Nr} (ho:PE X o to) (hi:PE X i ti) (hs:Pz X t)
 (ha:∀ v,assign (.Subscript o i pos) X.env v = (do
   let ov <- holding [v] (eval o X.env)
   let iv <- holding [v,ov] (eval i X.env)
   standAt pos
   holding [v,ov,iv] (setItem ov iv v)
   release [v,ov,iv] []):=by intro _;rfl):PG X (.Subscript o i pos) (Qw to ti t):=by
 intro pins s σ H v u Q I r h;rw [ha];refine ab (cS (thn (ho pins s σ H _ I h) λov s1 ⟨x,H1,I1,r1,q1⟩=>?_));refine ab (cS (thn (hi pins s1 σ H1 _ I1 q1) λiv s2 ⟨y,H2,I2,r2,q2⟩=>?_));refine ab (fE (ab (cS (thn (hs pins s2 σ H2 x y v ov iv u _ I2 r1 r2 r q2) λ_ s3 ⟨H3,I3,q3⟩=>?_))));exact wpAny_release ⟨σ,H3,I3,q3⟩
def Hh (te:TE) (g:TG):TS:=λD σ H=>te σ H λx H1=>g x σ H1 D.nx
def Ek {tg e:aE} {te:TE} {g:TG} (he:PE X e te) (hg:PG X tg g) (hs:swapsWithSole [tg] e pos.line X.env = pure false:=by rfl) (hw:swappedStores [tg] e X.env = pure none:=by rfl)
 (h1:(assignEach [tg] X.env).map (·.2) = [assign tg X.env]:=by rfl):PS X (.Assign [tg] e pos) (Hh te g):=by
 intro pins s σ H D I h;refine wpAny_Assign_stores (thn (he pins s σ H _ I h) λv s1 ⟨x,H1,I1,r1,q1⟩=>?_) hs hw;rw [h1];exact thn (hg pins s1 σ H1 x v _ I1 r1 q1) λ_ s2 q=>q
def Lw {i:Nat} {x:Str} {e:aE} {te:TE} {pos':Pos} (hN:X.N.Nodup) (hi:X.N[i]? = some x) (hx:Loc X.env.scope x) (he:PE X e te) (hs:swapsWith e (some (.Name x pos')) pos.line X.env = pure false:=by rfl) (hf:X.fn x = true\/X.env.scope.names.lookup x = some .local:=by first | exact .inl rfl | exact .inr rfl | assumption) :
 PS X (.Assign [.Name x pos'] e pos) (Hh te (vW i)):=by
 intro pins s σ H D I h;refine wpAny_Assign_Name (thn (he pins s σ H _ I h) λv s1 ⟨y,H1,I1,r1,q1⟩=>?_) hs;exact jy I1 hN hi hx r1 (λs2 I2=>⟨_,H1,I2,q1⟩) hf
def PK (i j:Nat) (ta:TA):TS:=λD σ H=>ta σ H λvs H1=>∃ v w,vs = [v,w]/\D.nx ((σ.set i (some v)).set j (some w)) H1
def Ly {i j:Nat} {x y:Str} {a b:aE} {ta:TA} {px py pt:Pos} {kt k2 pt2} (hc:X.calm = true) (hN:X.N.Nodup) (hi:X.N[i]? = some x) (hj:X.N[j]? = some y) (hij:i≠j)
 (hx:X.env.scope.names.lookup x = some .local) (hy:X.env.scope.names.lookup y = some .local) (ha:PA X [a,b] ta)
 (hw:swappedStores [.Tuple [.Name x px,.Name y py] kt pt] (.Tuple [a,b] k2 pt2) X.env = pure (some [x,y]))
 (hs:swapsWithSole [.Tuple [.Name x px,.Name y py] kt pt] (.Tuple [a,b] k2 pt2) pos.line X.env = pure false:=by rfl) :
 PS X (.Assign [.Tuple [.Name x px,.Name y py] kt pt] (.Tuple [a,b] k2 pt2) pos) (PK i j ta):=by
 intro pins s σ H D I h;rw [exec_Assign_arm];refine ab (fE ?_);rw [hs];refine ab (ay ?_);rw [if_neg ⇑0];refine ab (Tuple_ (thn (ha _ pins s σ H _ I h) λus s1 ⟨vs,H1,I1,r1,q1⟩=>?_));obtain ⟨v,w,e1,q1⟩:=q1;subst e1
 obtain ⟨u1,u2,rfl,rv,rw'⟩:∃ u1 u2,us = [u1,u2]/\RelV v u1/\RelV w u2:=by
  cases r1 with
  | cons p q =>
    cases q with
    | cons p' q' =>
      cases q';exact ⟨_,_,rfl,p,p'⟩
 refine bu ?_ (by show 2<=sizeLine;decide);have I2:Inv X pins σ H1 { s1 with heap:=s1.heap.push { cls:=.type "tuple",data:=.seq [u1,u2].toArray } }:=I1.kept (t':=s1.toks) λb o e=>aj _ e;rw [hw];refine ab (ay ?_);show wpAny (model X.prog X.w) X.A (do rule "assign.swapped-stores";let items <- unpackItems (.ref s1.heap.objs.size) 2 none;assignInOrder [λv=>bindName X.env y v,λv=>bindName X.env x v] items.reverse;pure Flow.next) _ _ _;refine ab (iX (ab (unpackItems_tuple (items := #[u1,u2]) (I.ok.hd hc) (pB s1.heap _) λh' hx'=>?_)));have I3:=I2.kept (h':=h') (t':=s1.toks) λb o e=>hx' b o (aR (aC e)) e;show wpAny _ _ (assignInOrder [λv=>bindName X.env y v,λv=>bindName X.env x v] [u2,u1] >>= λ_=>pure Flow.next) _ _ _;refine ab (qY (wpAny_bindName (jy I3 hN hj (.inl hy) rw' (λs2 I4=>?_) (.inr hy))));refine qY (wpAny_bindName (jy I4 hN hi (.inl hx) rv (λs3 I5=>ND (ay ?_)) (.inr hx)));rw [List.set_comm _ _ (Ne.symm hij)] at I5;exact ⟨_,H1,I5,q1⟩
def PY (i:Nat) (te:TE) (ti:TIp):TS:=λD σ H=>∃ x,σ[i]? = some (some x)/\te σ H λy H1=>ti x y H1 λz H2=>D.nx (σ.set i (some z)) H2
def Ej {i:Nat} {x:Str} {e:aE} {te:TE} {op:iu} {ti:TIp} {pos':Pos} (hN:X.N.Nodup) (hi:X.N[i]? = some x) (hx:Loc X.env.scope x) (he:PE X e te) (ho:PIp X op ti) (hf:X.fn x = true\/X.env.scope.names.lookup x = some .local:=by first | exact .inl rfl | exact .inr rfl | assumption) :
 PS X (.AugAssign (.Name x pos') op e pos) (PY i te ti):=by
 intro pins s σ H D I h;obtain ⟨v,e1,h⟩:=h;obtain ⟨m,hn,hl⟩:=I.loc;have vis:Vis X.env.scope x:=by rcases hx with k | k;exact .inl k;exact .inr (.inl k)
 obtain ⟨u,r,l⟩:=hl i x v hi e1 vis;refine wpAny_AugAssign_Name ?_
 have go:wpAny (model X.prog X.w) X.A (eval e X.env) (λw s₂=>wpAny (model X.prog X.w) X.A (inplaceOp op u w) (λr s₃=>wpAny (model X.prog X.w) X.A (storeName X.env x r) (λ_=>SP X pins D .next) X.xe s₃) X.xe s₂) X.xe s:=by
  refine thn (he pins s σ H _ I h) λw s1 zz=>?_;obtain ⟨y,H1,I1,r1,q1⟩:=zz;refine thn (ho pins s1 σ H1 v y u w _ I1 r r1 q1) λz s2 zz=>?_;obtain ⟨zv,H2,I2,r2,q2⟩:=zz;exact jy I2 hN hi hx r2 (λs3 I3=>⟨_,H2,I3,q2⟩) hf
 rcases l with ⟨hk,hm⟩ | ⟨hk,c,hc,hcell⟩
 . exact Jj I.ok.kind hk hn hm go
 . rcases hk with hk | hk
   . exact JW I.ok.kind hk hc hcell go
   . rcases hx with k | k
     . have:X.env.scope.names.lookup x = some .free:=hk;rw [k] at this;cases this
     . have:X.env.scope.names.lookup x = some .free:=hk;rw [k] at this;cases this
def ipI (f:Int->Int->Int):TIp:=λx y H Q=>∃ i j,x = .int i/\y = .int j/\Q (.int (f i j)) H
def MV:PIp X .Add (ipI λi j=>i+j):=by
 intro pins s σ H x y v u Q I r1 r2 h;obtain ⟨i,j,e1,e2,q⟩:=h;subst e1;subst e2;obtain ⟨t,rfl⟩:=r1;obtain ⟨t',rfl⟩:=r2;exact iadd_int ⟨.int _,H,I.tok _,⟨_,rfl⟩,q⟩
def MU:PIp X .Sub (ipI λi j=>i - j):=by
 intro pins s σ H x y v u Q I r1 r2 h;obtain ⟨i,j,e1,e2,q⟩:=h;subst e1;subst e2;obtain ⟨t,rfl⟩:=r1;obtain ⟨t',rfl⟩:=r2;exact isub_int ⟨.int _,H,I.tok _,⟨_,rfl⟩,q⟩
end
section
variable {X:Cx} {pos:Pos}
def KP (c:TT) (tb:TS):TS:=λD σ H=>∃ W:Nat->St->Hp->Prop,(∃ m,W m σ H)/\∀ m σ H,W m σ H ->
 c σ H λb H1=>if b = true then ∃ N:St->Hp->Prop,(∀ σ' H',N σ' H'->∃ m',m' < m/\W m' σ' H')/\tb { D with nx:=N,ct:=N,bk:=D.nx } σ H1 else D.nx σ H1
def Eg {c:aE} {body:List cR} {tc:TT} {tb:TS} (hp:Cb (model X.prog X.w) X.A X.env X.xe) (hc:PT X c tc) (hb:PSs X body tb):PS X (.While c body [] pos) (KP tc tb):=by
 intro pins s σ H D I h;obtain ⟨W,⟨m0,w0⟩,turn⟩:=h;refine wpAny_While (codeAny_whileLoop (λn s'=>∃ σ' H',Inv X pins σ' H' s'/\W n σ' H') ?_ m0 ⟨σ,H,I,w0⟩);rintro n s1 ⟨σ1,H1,I1,w1⟩;refine fD hp (thn (hc pins s1 σ1 H1 _ I1 (turn n σ1 H1 w1)) λb s2 ⟨H2,I2,q2⟩=>?_)
 cases b with
 | true =>
   obtain ⟨N,hN,q2⟩:=q2;rw [if_pos rfl];refine fD hp (thn (hb pins s2 σ1 H2 _ I2 q2) λf s3 q3=>?_)
   cases f with
   | next =>
     obtain ⟨σ3,H3,I3,n3⟩:=q3;obtain ⟨m',hm,w3⟩:=hN σ3 H3 n3
     exact ⟨m',hm,σ3,H3,I3,w3⟩
   | cont =>
     obtain ⟨σ3,H3,I3,n3⟩:=q3;obtain ⟨m',hm,w3⟩:=hN σ3 H3 n3
     exact ⟨m',hm,σ3,H3,I3,w3⟩
   | brk=>exact q3
   | ret v=>exact q3
 | false =>
   rw [if_neg aq];exact wK ⟨σ1,H2,I2,q2⟩
end
structure It where
 go:Nat->Hp->Prop
 yld:Nat->Hp->V->Hp->Prop
 stop:Nat->Hp->Prop
def kB (X:Cx) (pins:List (au × Obj)) (H:Hp) (b:au):Prop :=
 H b = none/\b≠X.env.locals/\b∉X.fs/\(b∈X.ex\/X.s₀.heap.objs.size<=b)/\(∀ x c,X.env.cells.lookup x = some c->c≠b)/\∀ p∈X.pn++pins,p.1≠b
def Inv.fpOk (I:Inv X pins σ H s) (hb:s.heap.objs.size<=b) (hn:H' b = none):kB X pins H' b:=by
 refine ⟨hn,fR (ba I.lt hb),I.nofs hb,.inr (aS I.sz hb),λx c e z=>?_,λp hp z=>?_⟩
 . obtain ⟨v,q⟩:=I.cell x c e;exact absurd (ba q.lt (by rw [z];exact hb)) (cC _)
 . exact absurd (ba (aC (I.pin p hp).1) (by rw [z];exact hb)) (cC _)
structure Turn (P:aQ) (w:bw) (K:PySem.W.Frag) (tg:aE) (J:It) (fp:List au) (it:au) (tn:Nat->bJ->Prop):Prop where
 mem:it∈fp
 obj:∀ i h,tn i h->∀ b∈fp,∃ o,h.get? b = some o/\∀ v,o.data≠.cell v
 keep:∀ i h h',tn i h->(∀ b∈fp,∀ o,h.get? b = some o->h'.get? b = some o)->tn i h'
 item:∀ (X:Cx),X.prog = P->X.w = w->X.K = K->X.calm = true->∀ (i:Nat) (pins:List (au × Obj)) (s:ak) (σ:St) (H:Hp) (E:ah->ak->Prop),Inv X pins σ H s->(∀ b∈fp,kB X pins H b)->tn i s.heap->J.go i H ->
  wpAny (model P w) X.A (pyNext (.ref it)) (λr s1=>∃ u,r = some u /\
   wpAny (model P w) X.A (letOwnedTupleGo tg (.ref it) u) (λ_ s2=>∃ x H',Inv X pins σ H' s2/\RelV x u/\J.yld i H x H'/\tn (i+1) s2.heap/\∀ b∈fp,H' b = none) E s1) E s
 done:∀ (X:Cx),X.prog = P->X.w = w->X.K = K->X.calm = true->∀ (i:Nat) (pins:List (au × Obj)) (s:ak) (σ:St) (H:Hp) (E:ah->ak->Prop),Inv X pins σ H s->(∀ b∈fp,kB X pins H b)->tn i s.heap->J.stop i H ->
  wpAny (model P w) X.A (pyNext (.ref it)) (λr s1=>r = none/\Inv X pins σ H s1) E s
 self:∀ (A:bt) (i:Nat) (s:ak) (Q:ah->ak->Prop) (E:ah->ak->Prop),tn i s.heap->Q (.ref it) s->wpAny (model P w) A (pyIter (.ref it)) Q E s
abbrev TI:=St->Hp->(It->Hp->Prop)->Prop
def PIE (X:Cx) (pins:List (au × Obj)) (σ:St) (tg:aE) (R:It->Hp->Prop) (itv:ah) (s2:ak):Prop :=
 ∃ (it:au) (fp:List au) (tn:Nat->bJ->Prop) (J:It) (H':Hp),itv = .ref it/\Inv X pins σ H' s2/\Turn X.prog X.w X.K tg J fp it tn/\tn 0 s2.heap/\(∀ b∈fp,kB X pins H' b)/\R J H'
def PI (X:Cx) (tg iter:aE) (wi:TI):Prop :=
 ∀ (pins:List (au × Obj)) (s:ak) (σ:St) (H:Hp) (R:It->Hp->Prop),Inv X pins σ H s->wi σ H R ->
  wpAny (model X.prog X.w) X.A (eval iter X.env) (λv s1=>wpAny (model X.prog X.w) X.A (pyIter v) (PIE X pins σ tg R) X.xe s1) X.xe s
def zE (ho:s.heap.get? it = some o) (hc:o.cls = .type n) (hd:o.data = .fields vs)
 (hn:["enumerate","zip","dict_itemiterator","dict_reverseitemiterator","odict_iterator","itertools.zip_longest","itertools.pairwise"].contains n = false) (hQ:Q () s):wpAny M A (letOwnedTupleGo tg (.ref it) u) Q E s:=by
 unfold letOwnedTupleGo
 cases tg<;>first
  | exact ay hQ
  | (cases u<;>first
      | exact ay hQ
      | (refine ab (wpAny_load ho ?_)
         rw [hc,hd];show wpAny M A (if (["enumerate","zip","dict_itemiterator","dict_reverseitemiterator","odict_iterator","itertools.zip_longest","itertools.pairwise"].contains n && vs[0]? == some (rawInt _)) = true then _ else _) Q E s;rw [if_neg (by intro h;rw [hn,sV] at h;cases h)];exact ay hQ))
def Itl (K:PySem.W.Frag) (a:au):It :=
 ⟨λi H=>∃ xs x,SqL K H a xs/\xs[i]? = some x,λi H x H'=>H' = H/\∀ xs,SqL K H a xs->xs[i]? = some x,λi H=>∃ xs,SqL K H a xs/\xs.length<=i⟩
def Itt (K:PySem.W.Frag) (a:au):It :=
 ⟨λi H=>∃ xs x,SqT K H a xs/\xs[i]? = some x,λi H x H'=>H' = H/\∀ xs,SqT K H a xs->xs[i]? = some x,λi H=>∃ xs,SqT K H a xs/\xs.length<=i⟩
def Itr (lo:Int) (n:Nat):It:=⟨λi _=>i < n,λi H x H'=>H' = H/\x = .int (lo+i),λi _=>n<=i⟩
def AO {P:aQ} {w:bw} {K:PySem.W.Frag} {tg:aE} (a it:au):Turn P w K tg (Itl K a) [it] it (λi h=>h.IsListIter it a i) where
 mem:=by simp
 obj:=λi h st b hb=>by
  have e:b = it:=by simpa using hb
  subst e;obtain ⟨o,e,c,d⟩:=st;exact ⟨o,e,λv z=>by rw [d] at z;cases z⟩
 keep:=λi h h' st k=>st.at λo e=>k it ↥0 o e
 item:=by
  intro X hP hw hK hc i pins s σ H E I hf st hg;subst hP hw hK;obtain ⟨xs,x,hq,hx⟩:=hg;obtain ⟨its,rv,p,hz⟩:=I.list hq;obtain ⟨u,hu,ru⟩:=rv.get hx;obtain ⟨f0,f1,f2,f3,f4,f5⟩:=hf it ↥0;refine wpAny_pyNext_list_item st p.isList (x:=u) (by simpa using hu) λh' st' sb=>?_;have I1:Inv X pins σ H { s with heap:=h' }:=I.turned (t':=s.toks) (λb o hb e=>(sb.2 b hb).trans e) f0 f1 f3 f4 f5;obtain ⟨o,e,c,d⟩:=id st';exact ⟨u,rfl,zE (s:={ s with heap:=h' }) e c d ⇑0 ⟨x,H,I1,ru,⟨rfl,λys hy=>by rw [I.list_inj hy hq];exact hx⟩,st',λb hb=>(hf b hb).1⟩⟩
 done:=by
  intro X hP hw hK hc i pins s σ H E I hf st hg;subst hP hw hK;obtain ⟨xs,hq,hx⟩:=hg;obtain ⟨its,rv,p,hz⟩:=I.list hq;obtain ⟨f0,f1,f2,f3,f4,f5⟩:=hf it ↥0;have hl:=rv.length;exact wpAny_pyNext_list_end (I.ok.hd hc) st p.isList (by simp;lia) λh' eb=>⟨rfl,I.turned (t':=s.toks) (λb o hb e=>eb b o hb e) f0 f1 f3 f4 f5⟩
 self:=λ_ _ _ _ _ st h=>wpAny_pyIter_listiter st h
def xv {P:aQ} {w:bw} {K:PySem.W.Frag} {tg:aE} (a it:au):Turn P w K tg (Itt K a) [it] it (λi h=>h.IsTupleIter it a i) where
 mem:=by simp
 obj:=λi h st b hb=>by
  have e:b = it:=by simpa using hb
  subst e;obtain ⟨o,e,c,d⟩:=st;exact ⟨o,e,λv z=>by rw [d] at z;cases z⟩
 keep:=λi h h' st k=>st.at λo e=>k it ↥0 o e
 item:=by
  intro X hP hw hK hc i pins s σ H E I hf st hg;subst hP hw hK;obtain ⟨xs,x,hq,hx⟩:=hg;obtain ⟨its,rv,p,hz⟩:=I.tuple hq;obtain ⟨u,hu,ru⟩:=rv.get hx;obtain ⟨f0,f1,f2,f3,f4,f5⟩:=hf it ↥0;refine wpAny_pyNext_tuple_item st (show s.heap.IsTuple a its.toArray from p) (x:=u) (by simpa using hu) λh' st' sb=>?_;have I1:Inv X pins σ H { s with heap:=h' }:=I.turned (t':=s.toks) (λb o hb e=>(sb.2 b hb).trans e) f0 f1 f3 f4 f5;obtain ⟨o,e,c,d⟩:=id st';exact ⟨u,rfl,zE (s:={ s with heap:=h' }) e c d ⇑0 ⟨x,H,I1,ru,⟨rfl,λys hy=>by rw [I.tuple_inj hy hq];exact hx⟩,st',λb hb=>(hf b hb).1⟩⟩
 done:=by
  intro X hP hw hK hc i pins s σ H E I hf st hg;subst hP hw hK;obtain ⟨xs,hq,hx⟩:=hg;obtain ⟨its,rv,p,hz⟩:=I.tuple hq;obtain ⟨f0,f1,f2,f3,f4,f5⟩:=hf it ↥0;have hl:=rv.length;exact wpAny_pyNext_tuple_end (I.ok.hd hc) st (show s.heap.IsTuple a its.toArray from p) (by simp;lia) λh' eb=>⟨rfl,I.turned (t':=s.toks) (λb o hb e=>eb b o hb e) f0 f1 f3 f4 f5⟩
 self:=λ_ _ _ _ _ st h=>wpAny_pyIter_tupleiter st h
def xw {P:aQ} {w:bw} {K:PySem.W.Frag} {tg:aE} (it:au) (lo:Int) (n:Nat):Turn P w K tg (Itr lo n) [it] it (λi h=>IsRangeIter h it (lo+(i:Nat) * 1) ((n:Int) - (i:Nat)) 1) where
 mem:=by simp
 obj:=λi h st b hb=>by
  have e:b = it:=by simpa using hb
  subst e
  exact ⟨_,st,λv z=>by
   have z':Data.fields _ = Data.cell v:=z;cases z'⟩
 keep:=λi h h' st k=>k it ↥0 _ st
 item:=by
  intro X hP hw hK hc i pins s σ H E I hf st hg;subst hP hw hK;obtain ⟨f0,f1,f2,f3,f4,f5⟩:=hf it ↥0;have W:=Walks.range (prog:=X.prog) (w:=X.w) (I.ok.hd hc) it lo 1 n;refine W.item i s _ _ hg st λv h' tk hv st' kk=>?_;obtain ⟨t,rfl⟩:=hv;have I1:Inv X pins σ H { s with heap:=h',toks:=tk }:=I.turned (λb o hb e=>kk b o (by simpa using hb) e) f0 f1 f3 f4 f5;refine ⟨_,rfl,zE (s:={ s with heap:=h',toks:=tk }) (n:="range_iterator") st' rfl rfl ⇑0 ⟨.int (lo+i),H,I1,⟨t,?_⟩,⟨rfl,rfl⟩,st',λb hb=>(hf b hb).1⟩⟩;rw [Int.mul_one]
 done:=by
  intro X hP hw hK hc i pins s σ H E I hf st hg;subst hP hw hK;obtain ⟨f0,f1,f2,f3,f4,f5⟩:=hf it ↥0;exact wpAny_pyNext_range_end (I.ok.hd hc) st (by have:n<=i:=hg;lia) λh' eb=>⟨rfl,I.turned (t':=s.toks) (λb o hb e=>eb b o hb e) f0 f1 f3 f4 f5⟩
 self:=λ_ _ _ _ _ st h=>wpAny_pyIter_rangeiter st h
end L2
namespace L2
open PySem PySem.Spec PyProof.Rows
section
variable {X:Cx} {tg:aE}
def DV {pins:List (au × Obj)} {σ:St} {H:Hp} {s:ak} {R:It->Hp->Prop} {E:ah->ak->Prop} {lo hi:Int} {t u v:Tok} {tk:Nat} (I:Inv X pins σ H s) (h1:-(2 ^ 62)<=lo) (h2:lo < 2 ^ 62) (h3:-(2 ^ 62)<=hi) (h4:hi < 2 ^ 62)
 (q:R (Itr lo (hi - lo).toNat) H):wpAny (model X.prog X.w) X.A (pyIter (.ref s.heap.objs.size)) (PIE X pins σ tg R) E { s with heap:=s.heap.push { cls:=.type "range",data:=.fields #[.int lo t,.int hi u,.int 1 v] },toks:=tk }:=by
 refine wpAny_pyIter_range (IsRange.new ..) (small_one h1 h2 h3 h4) ?_;have I1:Inv X pins σ H { s with heap:=s.heap.push { cls:=.type "range",data:=.fields #[.int lo t,.int hi u,.int 1 v] },toks:=tk }:=I.kept λb o e=>aj _ e
 refine ⟨(s.heap.push { cls:=.type "range",data:=.fields #[.int lo t,.int hi u,.int 1 v] }).objs.size,[(s.heap.push { cls:=.type "range",data:=.fields #[.int lo t,.int hi u,.int 1 v] }).objs.size],_,_,H,rfl,
  I1.kept (t':=tk) λb o e=>aj _ e,xw _ lo (hi - lo).toNat,?_,λb hb=>?_,q⟩
 . have e1:lo+((0:Nat):Int) * 1 = lo:=by simp
   have e2:(((hi - lo).toNat:Nat):Int) - ((0:Nat):Int) = Builtin.Range.rangeSize lo hi 1:=by rw [rangeSize_one];split<;>lia
   show IsRangeIter _ _ (lo+((0:Nat):Int) * 1) ((((hi - lo).toNat:Nat):Int) - ((0:Nat):Int)) 1;rw [e1,e2];exact aH _ rfl
 . have e:b = (s.heap.push { cls:=.type "range",data:=.fields #[.int lo t,.int hi u,.int 1 v] }).objs.size:=by simpa using hb
   subst e;exact I1.fpOk (ax _) (I1.hok.fresh (ax _))
def Pf (ta:TA):TI:=λσ H R=>ta σ H λvs H1=>∃ j:Int,vs = [.int j]/\-(2 ^ 62)<=j/\j < 2 ^ 62/\R (Itr 0 j.toNat) H1
def Bk {a:aE} {ta:TA} {p pos:Pos} (hg:Gl X "range") (hm:X.mg "range" = none) (ha:PA X [a] ta) (hs:starEach [a] X.env = [(false,eval a X.env)]:=by rfl):PI X tg (.Call (.Name "range" p) [a] [] pos) (Pf ta):=by
 intro pins s σ H R I h;refine Call_ (qI I hg hm boot_range (hV (thn (ha pos pins s σ H _ I h) λus s1 ⟨vs,H1,I1,r1,q1⟩=>?_) hs rfl));obtain ⟨j,e,q1,q2,q⟩:=q1;subst e
 cases r1 with
 | cons r rr =>
   cases rr;obtain ⟨t,rfl⟩:=r;exact call_range_1 (DV I1 ∅ ∅ q1 q2 (by simpa using q))
def PR (wi:TI) (g:TG) (tb:TS):TS:=λD σ H=>wi σ H λJ H1=>∃ W:Nat->Nat->St->Hp->Prop,(∃ m,W 0 m σ H1)/\∀ i m σ H,W i m σ H ->
 (J.stop i H/\D.nx σ H)\/(J.go i H/\∃ N:St->Hp->Prop,(∀ σ' H',N σ' H'->∃ m',m' < m/\W (i+1) m' σ' H')/\∀ x H',J.yld i H x H'->g x σ H' λσ2 H2=>tb { D with nx:=N,ct:=N,bk:=D.nx } σ2 H2)
def qB (fp:List au) (h:bJ):List (au × Obj):=fp.filterMap λb=>(h.get? b).map λo=>(b,o)
def ka (hb:b∈fp) (e:h.get? b = some o):(b,o)∈qB fp h:=Cf.mpr ⟨b,hb,by rw [e];rfl⟩
def Br (hp:p∈qB fp h):p.1∈fp/\h.get? p.1 = some p.2:=by
 obtain ⟨b,hb,e⟩:=Cf.mp hp
 cases q:h.get? b with
 | none=>rw [q] at e;cases e
 | some o =>
   rw [q] at e;have e':(b,o) = p:=bI e;subst e';exact ⟨hb,q⟩
def Inv.pinned (I:Inv X pins σ H s) (hf:∀ b∈fp,kB X pins H b) (ho:∀ b∈fp,∃ o,s.heap.get? b = some o/\∀ v,o.data≠.cell v):Inv X (pins++qB fp s.heap) σ H s :=
 I.pins_of λp hp=>(aA.mp hp).elim (λz=>I.pin p (aM _ z)) λz=>by
  obtain ⟨hb,e⟩:=Br z;obtain ⟨f0,f1,f2,_⟩:=hf p.1 hb;obtain ⟨o,e',d⟩:=ho p.1 hb;rw [e] at e';cases e';exact ⟨e,f0,f1,f2,d⟩
def Inv.unpinned (I:Inv X (pins++pl) σ H s):Inv X pins σ H s:=I.pins_of λp hp=>I.pin p (aM _ (bD _ hp))
def Lz (hp:Cb (model X.prog X.w) X.A X.env X.xe) (hc:X.calm = true) (hi:PI X tg iter wi) (hg:PG X tg g) (hb:PSs X body tb)
 (hs:∀ x,foldedSetIterable iter X.env x = pure x:=by intro _;rfl):PS X (.For tg iter body [] pos) (PR wi g tb):=by
 intro pins s σ H D I h;refine wpAny_For (thn (hi pins s σ H _ I h) λv s1 h1=>thn h1 λitv s2 h2=>?_) hs;obtain ⟨it,fp,tn,J,H2,e,I2,T,st2,f2,W,⟨m0,w0⟩,turn⟩:=h2;subst e
 -- what stays true of the iterator's objects through the loop
 have stat:∀ {H':Hp},(∀ b∈fp,H' b = none)->∀ b∈fp,kB X pins H' b:=λhn b hb=>⟨hn b hb,(f2 b hb).2⟩;refine codeAny_forLoop_any (λn s'=>∃ i σ' H',Inv X pins σ' H' s'/\tn i s'.heap/\(∀ b∈fp,H' b = none)/\W i n σ' H') ?_ m0 ⟨0,σ,H2,I2,st2,λb hb=>(f2 b hb).1,w0⟩;rintro n s3 ⟨i,σ3,H3,I3,st3,fr3,w3⟩;rcases turn i n σ3 H3 w3 with ⟨stop,qn⟩ | ⟨go,N,hN,step⟩
 . refine fD hp (thn (T.done X rfl rfl rfl hc i pins s3 σ3 H3 X.xe I3 (stat fr3) st3 stop) λr s4 ⟨hr,I4⟩=>?_);subst hr;exact wK ⟨σ3,H3,I4,qn⟩
 . refine fD hp (thn (T.item X rfl rfl rfl hc i pins s3 σ3 H3 X.xe I3 (stat fr3) st3 go) λr s4 ⟨u,hr,h4⟩=>?_);subst hr;refine fD hp (thn h4 λ_ s5 ⟨x,H5,I5,r5,y5,st5,fr5⟩=>?_);have I5':=I5.pinned (stat fr5) (T.obj _ _ st5);refine fD hp (thn (hg _ s5 σ3 H5 x u _ I5' r5 (step x H5 y5)) λ_ s6 ⟨σ6,H6,I6,q6⟩=>?_);refine fD hp (thn (hb _ s6 σ6 H6 _ I6 q6) λf s7 q7=>?_)
   have again:∀ {σ7:St} {H7:Hp},Inv X (pins++qB fp s5.heap) σ7 H7 s7->N σ7 H7->∃ m,m < n/\∃ i σ' H',Inv X pins σ' H' s7/\tn i s7.heap/\(∀ b∈fp,H' b = none)/\W i m σ' H':=λ{σ7 H7} I7 n7=>by
    obtain ⟨m',hm,w7⟩:=hN σ7 H7 n7;refine ⟨m',hm,i+1,σ7,H7,I7.unpinned,T.keep _ _ _ st5 λb hb o e=>(I7.pin (b,o) (aM _ (aM _ (ka hb e)))).1,λb hb=>?_,w7⟩;obtain ⟨o,e,d⟩:=T.obj _ _ st5 b hb;exact (I7.pin (b,o) (aM _ (aM _ (ka hb e)))).2.1
   cases f with
   | next=>obtain ⟨σ7,H7,I7,n7⟩:=q7;exact again I7 n7
   | cont=>obtain ⟨σ7,H7,I7,n7⟩:=q7;exact again I7 n7
   | brk=>obtain ⟨σ7,H7,I7,q7⟩:=q7;exact ⟨σ7,H7,I7.unpinned,q7⟩
   | ret v=>obtain ⟨x7,σ7,H7,I7,r7,q7⟩:=q7;exact ⟨x7,σ7,H7,I7.unpinned,r7,q7⟩
end
end L2
namespace L2
open PySem PySem.Spec PyProof.Rows
abbrev R2:=V->V->Hp->VK->Prop
def OpR (X:Cx) (f:ah->ah->Sem ah) (r:R2):Prop :=
 ∀ (pins:List (au × Obj)) (s:ak) (σ:St) (H:Hp) (x y:V) (v u:ah) (Q:VK),Inv X pins σ H s->RelV x v->RelV y u->r x y H Q ->
  wpAny (model X.prog X.w) X.A (f v u) (EP X pins σ Q) X.xe s
def UnR (X:Cx) (f:ah->Sem ah) (r:V->Hp->VK->Prop):Prop :=
 ∀ (pins:List (au × Obj)) (s:ak) (σ:St) (H:Hp) (x:V) (v:ah) (Q:VK),Inv X pins σ H s->RelV x v->r x H Q ->
  wpAny (model X.prog X.w) X.A (f v) (EP X pins σ Q) X.xe s
def dD (X:Cx) (f:ah) (r:List V->Hp->VK->Prop):Prop :=
 ∀ (pins:List (au × Obj)) (s:ak) (σ:St) (H:Hp) (xs:List V) (us:List ah) (Q:VK),Inv X pins σ H s->Vals xs us->r xs H Q ->
  wpAny (model X.prog X.w) X.A (call f us) (EP X pins σ Q) X.xe s
def QE (X:Cx) (r:V->Hp->(Bool->Hp->Prop)->Prop):Prop :=
 ∀ (pins:List (au × Obj)) (s:ak) (σ:St) (H:Hp) (x:V) (v:ah) (Q:Bool->Hp->Prop),Inv X pins σ H s->RelV x v->r x H Q ->
  wpAny (model X.prog X.w) X.A (truthy v) (TP X pins σ Q) X.xe s
def tOp (r:R2) (ta tb:TE):TE:=λσ H Q=>ta σ H λx H1=>tb σ H1 λy H2=>r x y H2 Q
def tUn (r:V->Hp->VK->Prop) (ta:TE):TE:=λσ H Q=>ta σ H λx H1=>r x H1 Q
def rI (C:Int->Int->Prop) (g:Int->Int->V):R2:=λx y H Q=>∃ i j,x = .int i/\y = .int j/\C i j/\Q (g i j) H
def rI0 (g:Int->Int->V):R2:=λx y H Q=>∃ i j,x = .int i/\y = .int j/\Q (g i j) H
def rU (g:Int->V):V->Hp->VK->Prop:=λx H Q=>∃ i,x = .int i/\Q (g i) H
section
variable {X:Cx} {a b c:aE} {ta tb tc:TE} {pos:Pos}
def Nm (ha:PE X a ta) (hb:PE X b tb) {pins:List (au × Obj)} {s:ak} {σ:St} {H:Hp} {R:V->V->Hp->Prop} (I:Inv X pins σ H s)
 (h:ta σ H λx H1=>tb σ H1 λy H2=>R x y H2) {Q:ah->ak->Prop} {f:ah->ah->Sem ah}
 (hf:∀ v u s2 x y H2,Inv X pins σ H2 s2->RelV x v->RelV y u->R x y H2->wpAny (model X.prog X.w) X.A (f v u) Q X.xe s2) :
 wpAny (model X.prog X.w) X.A (eval a X.env) (λv s₁=>wpAny (model X.prog X.w) X.A (eval b X.env) (λu s₂=>wpAny (model X.prog X.w) X.A (f v u) Q X.xe s₂) X.xe s₁) X.xe s:=by
 refine thn (ha pins s σ H _ I h) λv s1 zz=>?_;obtain ⟨x,H1,I1,r1,q1⟩:=zz;refine thn (hb pins s1 σ H1 _ I1 q1) λu s2 zz=>?_;obtain ⟨y,H2,I2,r2,q2⟩:=zz;exact hf v u s2 x y H2 I2 r1 r2 q2
def vI {op:iu} {r:R2} (ho:OpR X (binaryOp op) r) (ha:PE X a ta) (hb:PE X b tb):PE X (.BinOp a op b pos) (tOp r ta tb):=by
 intro pins s σ H Q I h;exact wpAny_BinOp (Nm ha hb I h λv u s2 x y H2 I2 rx ry q=>ho pins s2 σ H2 x y v u Q I2 rx ry q)
def Ou (ho:UnR X (unaryOp op) r) (ha:PE X a ta):PE X (.UnaryOp op a pos) (tUn r ta):=by
 intro pins s σ H Q I h;exact UnaryOp_ (thn (ha pins s σ H _ I h) λv s1 ⟨x,H1,I1,r1,q1⟩=>ho pins s1 σ H1 x v Q I1 r1 q1)
def opI {f:ah->ah->Sem ah} {C:Int->Int->Prop} {g:Int->Int->Int}
 (rule:∀ (i j:Int) (t u:Tok) (s:ak) (Q:ah->ak->Prop) (E:ah->ak->Prop),C i j->Q (.int (g i j) s.toks) { s with toks:=s.toks+1 }->wpAny (model X.prog X.w) X.A (f (.int i t) (.int j u)) Q E s) :
 OpR X f (rI C λi j=>.int (g i j)):=by
 intro pins s σ H x y v u Q I rx ry h;obtain ⟨i,j,rfl,rfl,hc,q⟩:=h;obtain ⟨t,rfl⟩:=rx;obtain ⟨t',rfl⟩:=ry;exact rule i j t t' s _ _ hc ⟨.int (g i j),H,I.tok _,⟨_,rfl⟩,q⟩
def OE {f:ah->ah->Sem ah} {g:Int->Int->Int}
 (rule:∀ (i j:Int) (t u:Tok) (s:ak) (Q:ah->ak->Prop) (E:ah->ak->Prop),Q (.int (g i j) s.toks) { s with toks:=s.toks+1 }->wpAny (model X.prog X.w) X.A (f (.int i t) (.int j u)) Q E s) :
 OpR X f (rI0 λi j=>.int (g i j)):=by
 intro pins s σ H x y v u Q I rx ry h;obtain ⟨i,j,rfl,rfl,q⟩:=h;obtain ⟨t,rfl⟩:=rx;obtain ⟨t',rfl⟩:=ry;exact rule i j t t' s _ _ ⟨.int (g i j),H,I.tok _,⟨_,rfl⟩,q⟩
def OF {f:ah->ah->Sem ah} {g:Int->Int->Bool}
 (rule:∀ (i j:Int) (t u:Tok) (s:ak) (Q:ah->ak->Prop) (E:ah->ak->Prop),Q (.bool (g i j)) s->wpAny (model X.prog X.w) X.A (f (.int i t) (.int j u)) Q E s) :
 OpR X f (rI0 λi j=>.bl (g i j)):=by
 intro pins s σ H x y v u Q I rx ry h;obtain ⟨i,j,rfl,rfl,q⟩:=h;obtain ⟨t,rfl⟩:=rx;obtain ⟨t',rfl⟩:=ry;exact rule i j t t' s _ _ ⟨.bl (g i j),H,I,rfl,q⟩
def Mc:OpR X (binaryOp .Add) (rI0 λi j=>.int (i+j)):=OE λ_ _ _ _ _ _ _ q=>add_int q
def LU:OpR X (binaryOp .Sub) (rI0 λi j=>.int (i - j)):=OE λ_ _ _ _ _ _ _ q=>sub_int q
def LW:OpR X (binaryOp .Mod) (rI (λ_ j=>0 < j) λi j=>.int (i % j)):=opI λi j _ _ _ _ _ hc q=>by
 have h1:(0:Int) < j:=hc;exact mod_int' ∅ (by rw [Int.fmod_eq_emod_of_nonneg i ∅];exact q)
def unI {f:ah->Sem ah} {g:Int->Int}
 (rule:∀ (i:Int) (t:Tok) (s:ak) (Q:ah->ak->Prop) (E:ah->ak->Prop),Q (.int (g i) s.toks) { s with toks:=s.toks+1 }->wpAny (model X.prog X.w) X.A (f (.int i t)) Q E s) :
 UnR X f (rU λi=>.int (g i)):=by
 intro pins s σ H x v Q I rx h;obtain ⟨i,rfl,q⟩:=h;obtain ⟨t,rfl⟩:=rx;exact rule i t s _ _ ⟨.int (g i),H,I.tok _,⟨_,rfl⟩,q⟩
def KL:UnR X (unaryOp .USub) (rU λi=>.int (-i)):=unI λ_ _ _ _ _ q=>neg_int q
end
def Qe:V->V->Bool
 | .non,.non=>true | .non,.int _=>true | .int _,.non=>true | .non,.bl _=>true | .bl _,.non=>true | .non,.str _=>true | .str _,.non=>true
 | .int _,.int _=>true | .bl _,.bl _=>true | .str _,.str _=>true | .byt _,.byt _=>true
 | .int _,.str _=>true | .str _,.int _=>true | .bl _,.str _=>true | .str _,.bl _=>true
 | _,_=>false
def rEq:R2:=λx y H Q=>Qe x y = true/\Q (.bl (decide (x = y))) H
def Ja:decide (V.int i = V.int j) = (i == j):=by
 rw [gi];simp
def MZ:decide (V.bl i = V.bl j) = (i == j):=by
 rw [gi];simp
def IZ:decide (V.str i = V.str j) = (i == j):=by
 rw [gi];simp
def Jb:decide (V.byt i = V.byt j) = (i.toList == j.toList):=by
 rw [gi];cases i;cases j;simp
section
variable {X:Cx} {a b c:aE} {ta tb tc:TE} {pos:Pos}
def fg (I:Inv X pins σ H s) (q:Q (.bl k) H) (e:k = k'):EP X pins σ Q (.bool k') s:=by
 subst e;exact ⟨.bl k,H,I,rfl,q⟩
def OD:OpR X (compareOp .Eq) rEq:=by
 intro pins s σ H x y v u Q I rx ry h;obtain ⟨hs,q⟩:=h
 cases x with
 | non =>
   cases rx
   cases y with
   | non=>cases ry;exact PySem.EqNone.eq_none_none (fg I q ↥0)
   | bl j=>cases ry;exact PySem.EqNone.eq_none_bool (fg I q ↥0)
   | int j=>obtain ⟨t',rfl⟩:=ry;exact PySem.EqNone.eq_none_int (fg I q ↥0)
   | str j=>obtain ⟨t',rfl⟩:=ry;exact PySem.EqNone.eq_none_str (fg I q ↥0)
   | _=>exact absurd (show false = true from hs) aq
 | bl i =>
   cases rx
   cases y with
   | non=>cases ry;exact PySem.EqNone.eq_bool_none (fg I q ↥0)
   | bl j=>cases ry;exact eq_bool (fg I q MZ)
   | str j=>obtain ⟨t',rfl⟩:=ry;exact PySem.EqMixed.eq_bool_str (fg I q ↥0)
   | _=>exact absurd (show false = true from hs) aq
 | int i =>
   obtain ⟨t,rfl⟩:=rx
   cases y with
   | non=>cases ry;exact PySem.EqNone.eq_int_none (fg I q ↥0)
   | int j=>obtain ⟨t',rfl⟩:=ry;exact eq_int (fg I q Ja)
   | str j=>obtain ⟨t',rfl⟩:=ry;exact PySem.EqMixed.eq_int_str (fg I q ↥0)
   | _=>exact absurd (show false = true from hs) aq
 | str i =>
   obtain ⟨t,rfl⟩:=rx
   cases y with
   | non=>cases ry;exact PySem.EqNone.eq_str_none (fg I q ↥0)
   | bl j=>cases ry;exact PySem.EqMixed.eq_str_bool (fg I q ↥0)
   | int j=>obtain ⟨t',rfl⟩:=ry;exact PySem.EqMixed.eq_str_int (fg I q ↥0)
   | str j=>obtain ⟨t',rfl⟩:=ry;exact eq_str (fg I q IZ)
   | _=>exact absurd (show false = true from hs) aq
 | byt i =>
   obtain ⟨t,rfl⟩:=rx
   cases y with
   | byt j=>obtain ⟨t',rfl⟩:=ry;exact PySem.W.eq_bytes (fg I q Jb)
   | _=>exact absurd (show false = true from hs) aq
 | _=>cases y<;>exact absurd (show false = true from hs) aq
def OB:OpR X (compareOp .LtE) (rI0 λi j=>.bl (decide (i<=j))):=OF λ_ _ _ _ _ _ _ q=>le_int q
def OC:OpR X (compareOp .Gt) (rI0 λi j=>.bl (decide (j < i))):=OF λ_ _ _ _ _ _ _ q=>gt_int q
def Bq:OpR X (compareOp .In) (λx y H Q=>∃ i j,x = .str i/\y = .str j/\Q (.bl (!(pY j i 0 j.length 1).isEmpty)) H):=by
 intro pins s σ H x y v u Q I rx ry h;obtain ⟨i,j,rfl,rfl,q⟩:=h;obtain ⟨t,rfl⟩:=rx;obtain ⟨t',rfl⟩:=ry;exact in_str (fg I q rfl)
def LY:OpR X (compareOp .Is) (λx y H Q=>y = .non/\Q (.bl (decide (x = .non))) H):=by
 intro pins s σ H x y v u Q I rx ry h;obtain ⟨rfl,q⟩:=h;cases ry;refine is_none_gen (fg I q ?_)
 cases x<;>first
  | (cases rx;rfl)
  | (obtain ⟨t,rfl⟩:=rx;rfl)
def OpR.or {f:ah->ah->Sem ah} {r r':R2} (h:OpR X f r) (h':OpR X f r'):OpR X f (λx y H Q=>r x y H Q\/r' x y H Q):=by
 intro pins s σ H x y v u Q I rx ry q;rcases q with q | q
 . exact h pins s σ H x y v u Q I rx ry q
 . exact h' pins s σ H x y v u Q I rx ry q
def HY {op:CmpOp} {r:R2} (ho:OpR X (compareOp op) r) (ha:PE X a ta) (hb:PE X b tb) (hm:behindInMarks op b = false):PE X (.Compare a [op] [b] pos) (tOp r ta tb):=by
 intro pins s σ H Q I h;exact wpAny_Compare1 (Nm ha hb I h λv u s2 x y H2 I2 rx ry q=>ho pins s2 σ H2 x y v u Q I2 rx ry q) hm
def NQ (t:TE):TT:=λσ H Q=>t σ H λx H'=>∃ k,x = .bl k/\Q k H'
def HR (ho:OpR X (compareOp op) r) (ha:PE X a ta) (hb:PE X b tb) (hm:behindInMarks op b = false):PT X (.Compare a [op] [b] pos) (NQ (tOp r ta tb)):=by
 intro pins s σ H Q I h
 refine wpAny_isTrue_Compare1 (thn (ha pins s σ H _ I h) λv s1 ⟨x,H1,I1,r1,q1⟩=>thn (hb pins s1 σ H1 _ I1 q1) λu s2 ⟨y,H2,I2,r2,q2⟩ =>
  thn (ho pins s2 σ H2 x y v u _ I2 r1 r2 q2) λc s3 ⟨z,H3,I3,r3,k,e,q3⟩=>?_) hm
 subst e;cases r3;exact ir ⟨H3,I3,q3⟩
def Nq (K:PySem.W.Frag) (x:V) (H:Hp) (k:Bool):Prop :=
 match x with
 | .non=>k = false
 | .bl b=>k = b
 | .int i=>k = (i != 0)
 | .str y=>y.length<=sizeLine/\k = ((y.length:Int) != 0)
 | .byt y=>y.size<=sizeLine/\k = ((y.size:Int) != 0)
 | .ref p=>(∃ xs,SqL K H p xs/\k = !xs.isEmpty)\/(∃ xs,SqT K H p xs/\k = !xs.isEmpty)\/∃ kvs,H p = some (.dK kvs)/\k = !kvs.isEmpty
 | _=>False
def xY {κ:Type} {kvs:List (κ × V)} {vs:List (κ × ah)} (r:KV kvs vs):(!vs.isEmpty) = !kvs.isEmpty:=by
 cases r<;>rfl
def qL {xs:List V} {its:List ah} (r:Vals xs its):(!its.toArray.isEmpty) = !xs.isEmpty:=by
 cases r<;>simp
def mi:(sizeLine:Nat) < 2 ^ 63:=by rw [cq];decide
def KO:QE X (λx H Q=>∃ k,Nq X.K x H k/\Q k H):=by
 intro pins s σ H x v Q I rx h;obtain ⟨k,e,q⟩:=h;have hl:=mi;have hs:sizeLine = 16777216:=cq
 cases x with
 | non =>
   cases rx;have e':k = false:=e;subst e'
   exact truthy_none ⟨H,I,q⟩
 | bl b =>
   cases rx;have e':k = b:=e;subst e'
   exact ir ⟨H,I,q⟩
 | int i =>
   obtain ⟨t,rfl⟩:=rx;have e':k = (i != 0):=e;subst e'
   exact PySem.P.truthy_int ⟨H,I,q⟩
 | str y =>
   obtain ⟨t,rfl⟩:=rx;obtain ⟨hy,e'⟩:y.length<=sizeLine/\k = ((y.length:Int) != 0):=e;subst e'
   exact PySem.P.truthy_str ∅ ⟨H,I.tok _,q⟩
 | byt y =>
   obtain ⟨t,rfl⟩:=rx;obtain ⟨hy,e'⟩:y.size<=sizeLine/\k = ((y.size:Int) != 0):=e;subst e'
   exact PySem.W.truthy_bytes ∅ ⟨H,I.tok _,q⟩
 | ref p =>
   cases rx;have e':(∃ xs,SqL X.K H p xs/\k = !xs.isEmpty)\/(∃ xs,SqT X.K H p xs/\k = !xs.isEmpty)\/∃ kvs,H p = some (.dK kvs)/\k = !kvs.isEmpty:=e;rcases e' with ⟨xs,hx,e'⟩ | ⟨xs,hx,e'⟩ | ⟨kvs,hx,e'⟩
   . subst e';obtain ⟨its,r,pl,hz⟩:=I.list hx;have hlen:=r.length;exact wpAny_truthy_list pl.isList (by simp only [aG];lia) ⟨H,I.tok _,by rw [qL r];exact q⟩
   . subst e';obtain ⟨its,r,pl,hz⟩:=I.tuple hx;have hlen:=r.length;exact truthy_tuple pl (by simp only [aG];lia) ⟨H,I.tok _,by rw [qL r];exact q⟩
   . subst e';obtain ⟨hz,hS,vs,r,m⟩:kvs.length<=sizeLine/\(p == sysModules) = false/\∃ vs,KV kvs vs/\s.heap.DictOf (ui X.prog X.w) p vs:=I.hok p _ hx;have hlen:kvs.length = vs.length:=Paired.length r
     exact wpAny_truthy_dict hS m ∅ ⟨H,I.tok _,by rw [xY r];exact q⟩
 | _=>exact (show False from e).elim
def qy (ha:PE X a ta) (he:∀ whole,isTrue a X.env whole = (do let v <- whole;standAt a.pos;holding [v] (truthy v))) :
 PT X a (λσ H Q=>ta σ H λx H'=>∃ k,Nq X.K x H' k/\Q k H'):=by
 intro pins s σ H Q I h;exact isTrue_plain (thn (ha pins s σ H _ I h) λv s1 ⟨x,H1,I1,r1,q1⟩=>KO pins s1 σ H1 x v Q I1 r1 q1) (he _)
def xM:OpR X (binaryOp .Add) (λx y H Q=>∃ i j,x = .str i/\y = .str j/\i.length+j.length<=sizeLine/\Q (.str (i++j)) H):=by
 intro pins s σ H x y v u Q I rx ry h;obtain ⟨i,j,rfl,rfl,hz,q⟩:=h;obtain ⟨t,rfl⟩:=rx;obtain ⟨t',rfl⟩:=ry;exact add_str (λt' tk=>⟨.str (i++j),H,I.tok _,⟨_,rfl⟩,q⟩) hz
def vals1 (r:Vals [x] us):∃ u,us = [u]/\RelV x u:=by
 cases r with
 | cons r1 r2=>cases r2;exact ⟨_,rfl,r1⟩
def vals2 (r:Vals [x,y] us):∃ u w',us = [u,w']/\RelV x u/\RelV y w':=by
 cases r with
 | cons r1 r2 =>
   cases r2 with
   | cons r3 r4=>cases r4;exact ⟨_,_,rfl,r1,r3⟩
def BO:dD X (.type "int") (λxs H Q=>(∃ i,xs = [.int i]/\Q (.int i) H)\/∃ k,xs = [.bl k]/\Q (.int (if k then 1 else 0)) H):=by
 intro pins s σ H xs us Q I r h;rcases h with ⟨i,rfl,q⟩ | ⟨k,rfl,q⟩
 . obtain ⟨u,rfl,t,rfl⟩:=vals1 r;exact call_int_int ⟨.int i,H,I,⟨_,rfl⟩,q⟩
 . obtain ⟨u,rfl,r1⟩:=vals1 r;cases r1;exact call_int_bool ⟨.int (if k then 1 else 0),H,I.tok _,⟨_,rfl⟩,q⟩
def uI:dD X (.type "str") (λxs H Q=>∃ i,xs = [.int i]/\i.natAbs.log2 < 1920/\Q (.str (toString i)) H):=by
 intro pins s σ H xs us Q I r h;obtain ⟨i,rfl,hz,q⟩:=h;obtain ⟨u,rfl,t,rfl⟩:=vals1 r;exact PySem.P.str_of_int hz ⟨.str _,H,I.tok _,⟨_,rfl⟩,q⟩
end
end L2
namespace L2
open PySem PySem.Spec PyProof.Rows
structure QG (h:bJ) (x dx C:au) (mA:Str->Option ah):Prop where
 obj:h.get? x = some (PySem.W.instObj C dx)
 ns:h.Ns1 dx mA
 ne:dx≠x
section
variable {prog:aQ} {w:bw} {A:bt} {E:ah->ak->Prop} {s:ak} {K:PySem.W.Frag} {x dx C f:au} {mA:Str->Option ah} {name:Str} {v:ah}
end
section
variable {P:aQ} {w:bw} {H H':Hp} {h h':bJ} {a C dx:au} {fs fs':List (Str × V)}
end
structure Cls (K:PySem.W.Frag) (C:au):Prop where
 pg:PySem.W.plainGet K C Jo = true
 hd:PySem.W.hasDictIn K C = true
 po:PySem.W.plainOver K C = true
 sa:PySem.W.findIn K (.ref C) "__setattr__" = some (some (.builtin "object.__setattr__"))
structure Con (K:PySem.W.Frag) (C:au) (f:Str) (v:V) (u:ah):Prop where
 at_:PySem.W.findIn K (.ref C) f = some (some u)
 rel:RelV v u
 get:PySem.W.specialIn K u "__get__" = some none
 cp:PySem.W.copiedNames.contains f = false
structure Meth (K:PySem.W.Frag) (C:au) (m:Str) (f:au):Prop where
 at_:PySem.W.findIn K (.ref C) m = some (some (.ref f))
 fn:PySem.W.isFn K (.ref f) = true
 kp:PySem.W.keepIn K (.ref f) = true
section
variable {X:Cx} {pins:List (au × Obj)} {σ:St} {H:Hp} {s:ak} {a C dx:au} {fs:List (Str × V)} {f:Str} {v:V} {A:bt} {E:ah->ak->Prop}
end
section
variable {X:Cx} {o e value:aE} {f:Str} {pos pos' tpos:Pos} {ta tv:TE}
end
section
variable {X:Cx} {pins:List (au × Obj)} {σ:St} {H:Hp} {s:ak} {A:bt} {E:ah->ak->Prop} {Q:ah->ak->Prop} {c:ah} {b:Bool}
inductive qW (K:PySem.W.Frag) (H:Hp):V->ah->Prop where
 | non:qW K H .non (.type "NoneType")
 | bl (x:Bool):qW K H (.bl x) (.type "bool")
 | int (i:Int):qW K H (.int i) (.type "int")
 | str (x:Str):qW K H (.str x) (.type "str")
 | flt (x:UInt64):qW K H (.flt x) (.type "float")
 | lst {a:au} {xs:List V} (e:H a = some (.lst xs)):qW K H (.ref a) (.type "list")
 | frz {a:au} {o:Obj} {xs:List V} (e:H a = some (.frz o (.lst xs))):qW K H (.ref a) (.type "list")
 | tup {a:au} {xs:List V} (e:H a = some (.tup xs)):qW K H (.ref a) (.type "tuple")
 | dK {a:au} {kvs:List (Key × V)} (e:H a = some (.dK kvs)):qW K H (.ref a) (.type "dict")
 | dT {a:au} {kvs:List (List Key × V)} (e:H a = some (.dT kvs)):qW K H (.ref a) (.type "dict")
 | ins {a C dx:au} {fs:List (Str × V)} (e:H a = some (.ins C dx fs)) (cl:Cls K C) (ha:PySem.W.findIn K (.ref C) "__class__" = some (some (.builtin "object.__class__")))
    (hn:PySem.W.specialIn K (.builtin "object.__class__") "__get__" = some (some (.builtin "getset_descriptor.__get__"))) (htk:PySem.W.takesIn K (.builtin "object.__class__") = some true)
    (hm:PySem.W.mroIn K C (.type "object") = some true):qW K H (.ref a) (.ref C)
end
end L2
namespace L2
open PySem PySem.Spec PyProof.Rows
structure kK (k:Nat) (A:bt):Prop where
 hd:A.handled = none
 dp:A.depth+3 * k+5 < recursionLimit
 un:A.units+16 * k+200 < cLine
def kK.deeper {k:Nat} {A:bt} (r:kK (k+1) A) (env:Env):kK k (A.deeper env) :=
 ⟨r.hd,by have:=r.dp;show A.depth+1+3 * k+5 < _;lia,by have:=r.un;show A.units+3+16 * k+200 < _;lia⟩
def kK.depth {k:Nat} {A:bt} (r:kK k A):A.depth < recursionLimit:=by have:=r.dp;lia
def KR:TA:=λ_ H Q=>Q [] H
def yD (ta:TE) (tr:TA):TA:=λσ H Q=>ta σ H λx H1=>tr σ H1 λxs H2=>Q (x::xs) H2
section
variable {X:Cx} {e:aE} {es:List aE} {te:TE} {t:TA} {pos:Pos}
def qC:PA X [] KR:=λ_ _ _ _ H Q I h=>Calls.spliced_nil ⟨[],H,I,.nil,h⟩
def jZ (ha:PE X e te) (hr:PA X es t) (hs:starEach (e::es) X.env = (false,eval e X.env)::starEach es X.env:=by rfl):PA X (e::es) (yD te t):=by
 intro pos pins s σ H Q I h;rw [hs];show wpAny _ _ (spliced ((false,eval e X.env)::backTo pos (starEach es X.env))) _ _ s;refine Calls.spliced_cons (thn (ha pins s σ H _ I h) λu s1 ⟨x,H1,I1,r1,q1⟩=>?_);exact thn (hr pos pins s1 σ H1 _ I1 q1) λus s2 ⟨xs,H2,I2,r2,q2⟩=>⟨x::xs,H2,I2,.cons r1 r2,q2⟩
def PF (t:TA):TE:=λσ H Q=>t σ H λxs H1=>xs.length<=sizeLine/\∀ p,H1 p = none->Q (.ref p) (upd H1 p (.tup xs))
def PN (t:TA):TE:=λσ H Q=>t σ H λxs H1=>xs.length<=sizeLine/\∀ p,H1 p = none->Q (.ref p) (upd H1 p (.lst xs))
def LI (h:PA X es t):PE X (.Tuple es x1 pos) (PF t):=by
 intro pins s σ H Q I hq;refine wpAny_Tuple_spliced (thn (h pos pins s σ H _ I hq) λus s1 ⟨xs,H1,I1,r,z,q⟩=>⟨by rw [<- r.length];exact z,?_⟩);have hf:H1 s1.heap.objs.size = none:=I1.hok.fresh (ax _);refine ⟨.ref s1.heap.objs.size,upd H1 s1.heap.objs.size (.tup xs),I1.laid (t':=s1.toks) (λb u e=>aj _ e) (ax _) ?_,rfl,q _ hf⟩;exact ⟨z,us,r,⟨_,aH _ rfl,rfl,_,rfl⟩⟩
def Er (h:PA X es t):PE X (.List es pos) (PN t):=by
 intro pins s σ H Q I hq;refine wpAny_List_spliced (thn (h pos pins s σ H _ I hq) λus s1 ⟨xs,H1,I1,r,z,q⟩=>⟨by rw [<- r.length];exact z,?_⟩);have hf:H1 s1.heap.objs.size = none:=I1.hok.fresh (ax _);refine ⟨.ref s1.heap.objs.size,upd H1 s1.heap.objs.size (.lst xs),I1.laid (t':=s1.toks) (λb u e=>aj _ e) (ax _) ?_,rfl,q _ hf⟩;exact ⟨z,us,0,r,aH _ rfl⟩
end
abbrev Sp:=List V->Hp->VK->XK->Prop
abbrev CXT:=List Env->Hp->ak->XK->ah->ak->Prop
structure uO (P:aQ) (w:bw) (K:PySem.W.Frag) (mg:Str->Option ah) (base:bJ) (A:bt) (outer:List Env) (s:ak) (H:Hp):Prop where
 frames:A.frames = some outer
 mod:Mod K mg base
 bs:∀ b o,base.get? b = some o->s.heap.get? b = some o/\H b = none
 bsz:base.objs.size<=s.heap.objs.size
 funs:s.heap.FunFrames base outer
 frf:∀ b∈frs outer,H b = none
 hok:HOk P w H s.heap
 bare:mE s.gens
def CE (outer:List Env) (P:aQ) (w:bw) (H:Hp) (s:ak) (Q:VK) (u:ah) (s':ak):Prop :=
 ∃ v H',s'.os = s.os/\mE s'.gens/\Un (frs outer) [] H H' s.heap s'.heap/\HOk P w H' s'.heap/\RelV v u/\Q v H'
def CR (CX:CXT) (outer:List Env) (P:aQ) (w:bw) (H:Hp) (s:ak) (Q:VK) (E:XK) (r:yw) (s':ak):Prop :=
 match r with
 | .ok (.ret u)=>CE outer P w H s Q u s'
 | .ok _=>False
 | .error e=>CX outer H s E e s'
structure lM (P:aQ) (w:bw) (K:PySem.W.Frag) (mg:Str->Option ah) (base:bJ) (CX:CXT) (k:Nat) (f:au) (fd:eQ) (ps:List Str) (sp:Sp):Prop where
 len:∀ vs H Q E,sp vs H Q E->vs.length = ps.length
 run:∀ (A:bt) (outer:List Env) (s:ak) (H:Hp) (args:Args) (us:List ah) (vs:List V) (Q:VK) (E:XK),kK k A->uO P w K mg base A outer s H->BindsTo s fd args (ps.zip us)->Vals vs us->sp vs H Q E ->
  codeAny (model P w) A (.call (.ref f) args) (CR CX outer P w H s Q E) s
section
variable {X:Cx} {pins:List (au × Obj)} {σ:St} {H:Hp} {s s':ak}
def Inv.env0 (I:Inv X pins σ H s):uO X.prog X.w X.K X.mg X.base X.A X.stack s H :=
 ⟨I.ok.frames,I.ok.mod,I.bs,aS I.ok.bsz I.sz,I.stack,I.stkFree,I.hok,I.bare⟩
def Inv.after (I:Inv X pins σ H s) (h:CE X.stack X.prog X.w H s Q u s'):EP X pins σ Q u s':=by
 obtain ⟨v,H',os,bare,un,hok,r,q⟩:=h;obtain ⟨hh,g,d,t,os'⟩:=s';obtain rfl:os' = s.os:=os;exact ⟨v,H',I.call (h':=hh) (g':=g) (d':=d) (t':=t) (ch:=[]) un hok bare (λb z=>absurd z ↥0),r,q⟩
end
def NW (sp:Sp) (dvs:List V) (E:XK) (t:TA):TE:=λσ H Q=>t σ H λvs H1=>sp (vs++dvs) H1 Q E
def Binds (K:PySem.W.Frag) (fd:eQ) (ps:List Str) (ds:List ah):Prop :=
 ∀ (s:ak) (us:List ah),K.In s.heap->(us++ds).length = ps.length->BindsTo s fd ⟨us,[]⟩ (ps.zip (us++ds))
def Binds.all {K:PySem.W.Frag} {fd:eQ} {ps:List Str} (h:∀ us:List ah,us.length = ps.length->bindArgs fd ⟨us,[]⟩ = pure (ps.zip us)):Binds K fd ps []:=λs us _ hl=>by
 rw [aY] at hl |-;exact .of_eq (h us hl)
def Passes (CX:CXT) (X:Cx) (E:XK):Prop:=∀ (pins:List (au × Obj)) (σ:St) (H:Hp) (s:ak) (e:ah) (s':ak),Inv X pins σ H s->CX X.stack H s E e s'->X.xe e s'
section
variable {X:Cx} {CX:CXT} {k:Nat} {f C:au} {fd:eQ} {ps:List Str} {sp:Sp} {dvs:List V} {ds:List ah} {E:XK} {x m:Str} {p pos apos:Pos} {e o:aE} {es:List aE} {ta:TE} {t:TA}
def Li (F:lM X.prog X.w X.K X.mg X.base CX k f fd ps sp) (hr:kK k X.A) (hb:Binds X.K fd ps ds) (hd:Vals dvs ds) (hx:Passes CX X E)
 (I:Inv X pins σ H s) (r:Vals vs us) (h:sp (vs++dvs) H Q E):wpAny (model X.prog X.w) X.A (call (.ref f) us) (EP X pins σ Q) X.xe s:=by
 have r2:Vals (vs++dvs) (us++ds):=r.append hd;have hl:(us++ds).length = ps.length:=by rw [<- r2.length];exact F.len _ _ _ _ h
 refine Nv (mz (F.run X.A X.stack s H ⟨us,[]⟩ (us++ds) (vs++dvs) Q E hr I.env0 (hb s us I.kIn hl) r2 h) λr s' hq=>?_)
 cases r with
 | error e=>exact hx pins σ H s e s' I hq
 | ok fl =>
   cases fl with
   | ret u=>exact I.after hq
   | next=>exact cE hq
   | brk=>exact cE hq
   | cont=>exact cE hq
def ze (F:lM X.prog X.w X.K X.mg X.base CX k f fd ps sp) (hr:kK k X.A) (hg:Gl X x) (hm:X.mg x = some (.ref f)) (hk:PySem.W.keepIn X.K (.ref f) = true) (hb:Binds X.K fd ps ds) (hd:Vals dvs ds) (hx:Passes CX X E)
 (ha:PA X (e::es) t) (hdb:(x == ("__debug__":Str)) = false:=by decide) (he:starEach (e::es) X.env = (false,eval e X.env)::starEach es X.env:=by rfl) (hpl:(backTo pos (starEach es X.env)).any (·.1) = false:=by rfl) :
 PE X (.Call (.Name x p) (e::es) [] pos) (NW sp dvs E t):=by
 intro pins s σ H Q I h;refine gQ (um I hg hm ?_ hdb);refine PySem.W.callWith_K (h₀:=X.base) I.ok.mod.kin hk (thn (ha pos pins s σ H _ I h) λus s1 ⟨vs,H1,I1,r,q⟩=>⟨I1.kIn,?_⟩) he hpl;exact Li F hr hb hd hx I1 r q
structure Mk (K:PySem.W.Frag) (C f:au):Prop where
 makes:PySem.W.makesIn K C = true
 init:PySem.W.findIn K (.ref C) "__init__" = some (some (.ref f))
 fn:PySem.W.isFn K (.ref f) = true
 kp:PySem.W.keepIn K (.ref C) = true
end
section
variable {X:Cx} {CX:CXT} {k:Nat} {f C:au} {fd:eQ} {ps ks:List Str} {sp:Sp} {E:XK} {x m:Str} {p pos apos kpos:Pos} {e o:aE} {es:List aE} {kws:List jN} {te ta:TE} {t tk:TA} {nm:Option Str}
structure QF (K:PySem.W.Frag) (fd:eQ) (ps ks:List Str) (g:List ah->List ah->List ah) (gV:List V->List V->List V):Prop where
 to:∀ (s:ak) (us ws:List ah),K.In s.heap->(g us ws).length = ps.length->BindsTo s fd ⟨us,ks.zip ws⟩ (ps.zip (g us ws))
 rel:∀ {vs:List V} {us:List ah} {zs:List V} {ws:List ah},Vals vs us->Vals zs ws->Vals (gV vs zs) (g us ws)
variable {g:List ah->List ah->List ah} {gV:List V->List V->List V}
end
structure nJ (N P:List Str) (sc:eA):Prop where
 kind:sc.kind = .function
 co:sc.isCoroutine = false
 gen:sc.isGenerator = false
 nd:N.Nodup
 pre:N.take P.length = P
 par:∀ x∈P,sc.names.lookup x = some .local\/sc.names.lookup x = some .cell
 nofree:∀ y∈sc.names,y.2≠.free
def sJ {kindOf:Str->Option kE} {x:Str}:∀ {binds:List (Str × ah)} {m:Str->Option ah},(∀ v,(x,v)∉binds)->bindL kindOf binds m x = m x
 | [],_,_=>rfl
 | (n,v)::r,m,h=>by
   unfold bindL;rw [sJ λw hw=>h w (ao _ hw)];split
   . have:x≠n:=by rintro rfl;exact h v ar
     simp [this]
   . rfl
def sM {kindOf:Str->Option kE} {x:Str}:∀ {binds:List (Str × ah)} {m:Str->Option ah},(∀ v,(x,v)∉binds)->bindC kindOf binds m x = m x
 | [],_,_=>rfl
 | (n,v)::r,m,h=>by
   unfold bindC;rw [sM λw hw=>h w (ao _ hw)];split
   . rfl
   . have:x≠n:=by rintro rfl;exact h v ar
     simp [this]
def sL {kindOf:Str->Option kE} {x:Str} {v:ah}:∀ {P:List Str} {vs:List ah} {i:Nat} {m:Str->Option ah},P.Nodup->P[i]? = some x->vs[i]? = some v->kindOf x = some .local ->
 bindL kindOf (P.zip vs) m x = some v
 | [],_,_,_,_,h,_,_=>by simp at h
 | _::_,[],_,_,_,_,h,_=>by simp at h
 | p::P,w::vs,0,m,nd,h1,h2,hk=>by
   simp at h1 h2;subst h1;subst h2;show bindL kindOf ((p,w)::P.zip vs) m p = _;unfold bindL;rw [sJ λv hv=>(cj.mp nd).1 (iL hv).1,if_pos hk]
   simp
 | p::P,w::vs,i+1,m,nd,h1,h2,hk=>by
   show bindL kindOf ((p,w)::P.zip vs) m x = _;unfold bindL;exact sL (i:=i) (cj.mp nd).2 (by simpa using h1) (by simpa using h2) hk
def sN {kindOf:Str->Option kE} {x:Str} {v:ah}:∀ {P:List Str} {vs:List ah} {i:Nat} {m:Str->Option ah},P.Nodup->P[i]? = some x->vs[i]? = some v->kindOf x≠some .local ->
 bindC kindOf (P.zip vs) m x = some v
 | [],_,_,_,_,h,_,_=>by simp at h
 | _::_,[],_,_,_,_,h,_=>by simp at h
 | p::P,w::vs,0,m,nd,h1,h2,hk=>by
   simp at h1 h2;subst h1;subst h2;show bindC kindOf ((p,w)::P.zip vs) m p = _;unfold bindC;rw [sM λv hv=>(cj.mp nd).1 (iL hv).1,if_neg hk]
   simp
 | p::P,w::vs,i+1,m,nd,h1,h2,hk=>by
   show bindC kindOf ((p,w)::P.zip vs) m x = _;unfold bindC;exact sN (i:=i) (cj.mp nd).2 (by simpa using h1) (by simpa using h2) hk
def start (N:List Str) (vs:List V):St:=vs.map some++aO (N.length - vs.length) none
def uD (CX:CXT) (P:aQ) (w:bw) (K:PySem.W.Frag) (mg:Str->Option ah) (base:bJ) (N:List Str) (qual:Str) (scope:eA) (f:au) (cd:ah) (A:bt) (outer:List Env) (s:ak) (H:Hp) (E:XK):Cx where
 prog:=P
 w:=w
 K:=K
 mg:=mg
 base:=base
 A:=A.deeper (envOfC qual scope s.heap.objs.size f cd)
 N:=N
 s₀:=s
 H₀:=H
 env:=envOfC qual scope s.heap.objs.size f cd
 outer:=outer
 stack:=envOfC qual scope s.heap.objs.size f cd::outer
 ex:=[]
 calm:=true
 fn:=λ_=>true
 pn:=[]
 xe:=λe s'=>wpAny (model P w) (A.deeper (envOfC qual scope s.heap.objs.size f cd)) (leaving (envOfC qual scope s.heap.objs.size f cd) e) (λ_ s''=>CX outer H s E e s'') (λe' s''=>CX outer H s E e' s'') s'
def wx {sc:eA} {n:Nat} {x:Str} (h:sc.names.lookup x = some .cell):∃ c,(cellsFrom n sc.names []).lookup x = some c:=by
 have q:=PySem.W.cellsFrom_some sc.names n [] (.inl h);exact sP.mp q
def BB {CX:CXT} {P:aQ} {w:bw} {K:PySem.W.Frag} {mg:Str->Option ah} {base:bJ} {N ps:List Str} {qual:Str} {scope:eA} {f:au} {cd:ah} {A:bt} {outer:List Env} {s s1:ak} {H:Hp} {E:XK} {us:List ah} {vs:List V}
 (S:nJ N ps scope) (hd:A.handled = none) (e0:uO P w K mg base A outer s H) (hl:vs.length = ps.length) (r:Vals vs us)
 (x:InCallC s s.heap.objs.size (bindL (envOfC qual scope s.heap.objs.size f cd).kindOf (ps.zip us) λ_=>none) (cellsFrom (s.heap.objs.size+1) scope.names []) (bindC (envOfC qual scope s.heap.objs.size f cd).kindOf (ps.zip us) λ_=>none) s1) :
 Inv (uD CX P w K mg base N qual scope f cd A outer s H E) [] (start N vs) H s1:=by
 have hpl:ps.length<=N.length:=by have:=congrArg iA S.pre;rw [da] at this;lia
 obtain ⟨h1,tk,rfl,hk⟩:=x.done;have noA:∀ b:au,b∉(uD CX P w K mg base N qual scope f cd A outer s H E).ex:=λb z=>absurd (show b∈([]:List au) from z) ↥0
 refine ⟨⟨e0.mod,S.kind,rfl,rfl,ax _,λy z c h1 h2=>?_,λy hy=>?_,λy c _ h=>?_,λ_=>hd,wZ e0.frames,.inr ⟨rfl,rfl⟩,λb z=>absurd z (noA b),e0.bs,e0.bsz,λb _ _=>noA b,λb z=>absurd z (noA b),e0.funs,e0.frf⟩,
  rfl,e0.bare,Un.kept hk,⟨_,x.toInCall.ns,λi y v h1 h2 h3=>?_⟩,λy c h=>⟨_,x.cell y c h⟩,e0.hok.fresh (ax _),λy c h=>?_,λp hp=>absurd (show p∈([]:List (au × Obj)) from hp) ↥0,e0.hok.kept hk,?_⟩
 . exact name_of_addr x.apart (PySem.mem_of_lookup h1) (PySem.mem_of_lookup h2)
 . have hy:scope.names.lookup y = some .cell\/scope.names.lookup y = some .free:=hy;rcases hy with hy | hy
   . exact wx hy
   . exact absurd rfl (S.nofree _ (PySem.mem_of_lookup hy))
 . exact jd (x.above y c (PySem.mem_of_lookup h))
 . have hi:i < vs.length:=by
    unfold start at h2;by_cases hi:i < vs.length
    . exact hi
    . rw [bB (by simpa using hi)] at h2;rw [du] at h2;split at h2<;>cases h2
   have ha:vs[i]? = some v:=by
    unfold start at h2;rw [bh (by simpa using hi),br] at h2
    cases e:vs[i]? with
    | none=>rw [e] at h2;cases h2
    | some a=>rw [e] at h2;cases h2;rfl
   obtain ⟨u,hu,rv⟩:=r.get ha
   have hp:ps[i]? = some y:=by
    rw [<- S.pre,dX ∅];exact h1
   have ndP:ps.Nodup:=by rw [<- S.pre];exact S.nd.sublist (List.take_sublist _ _)
   refine ⟨u,rv,?_⟩;rcases S.par y (lT hp) with k | k
   . exact .inl ⟨k,sL ndP hp hu k⟩
   . obtain ⟨c,e⟩:=wx (n:=s.heap.objs.size+1) k;refine .inr ⟨.inl k,c,e,?_⟩;have q:=x.cell y c e;rw [sN ndP hp hu (by show scope.names.lookup y≠_;rw [k];decide)] at q;exact q
 . exact e0.hok.fresh (jd (x.above y c (PySem.mem_of_lookup h)))
 . unfold start;show _ = N.length;rw [ag,ai,dI]
   lia
def Pl {CX:CXT} {P:aQ} {w:bw} {K:PySem.W.Frag} {mg:Str->Option ah} {base:bJ} {k:Nat} {f:au} {name qual:Str} {params:oX} {body:List cR} {scope:eA} {dV kV doc pm cdv ct oc:ah} {an od:Option au}
 {osl:Array (Option ah)} {N ps:List Str} {sp:Sp} (lk:K.lookup f = some ⟨oc,od,.func (PySem.W.fnOf name qual params body scope dV kV doc pm an cdv ct),osl⟩) (hcd:PySem.W.codeIn K cdv qual = true) (S:nJ N ps scope)
 (len:∀ vs H Q E,sp vs H Q E->vs.length = ps.length)
 (hbody:∀ (A:bt) (outer:List Env) (s:ak) (H:Hp) (vs:List V) (Q:VK) (E:XK),kK k (A.deeper (envOfC qual scope s.heap.objs.size f cdv))->sp vs H Q E ->
   ∃ t,PSs (uD CX P w K mg base N qual scope f cdv A outer s H E) body t/\t { nx:=λ_ H'=>Q .non H',rt:=Q } (start N vs) H) :
 lM P w K mg base CX (k+1) f (PySem.W.fnOf name qual params body scope dV kV doc pm an cdv ct) ps sp:=by
 refine ⟨len,λA outer s H args us vs Q E hr e0 hb r hsp=>?_⟩;have hl:=len _ _ _ _ hsp;have KX:K.In s.heap:=e0.mod.kin.keeps λb o e=>(e0.bs b o e).1;have lim:s.heap.NoLimit:=e0.mod.nolimit.keeps λb o e=>(e0.bs b o e).1
 have hkind:∀ y∈ps.zip us,scope.names.lookup y.1 = some .local\/(scope.names.lookup y.1 = some .cell/\((cellsFrom (s.heap.objs.size+1) scope.names []).lookup y.1).isSome = true):=λ⟨n,v⟩ hy=>by
  rcases S.par n (iL hy).1 with q | q
  . exact .inl q
  . exact .inr ⟨q,PySem.W.cellsFrom_some _ _ _ (.inl q)⟩
 refine codeAny_call_function hr.depth (KX _ _ lk) rfl S.co S.gen rfl (PySem.W.codeRec_of KX hcd) (hb _ _ _ _ ?_);refine wpAny_newFunctionEnv_cells S.kind hkind λenv he s1 x=>?_;subst he;refine ⟨lim.keeps x.toInCall.keep,codeAny_func ?_⟩;obtain ⟨t,ht,hq⟩:=hbody A outer s H vs Q E (hr.deeper _) hsp;have I:Inv (uD CX P w K mg base N qual scope f cdv A outer s H E) [] (start N vs) H s1:=BB S hr.hd e0 hl r x;refine iY (ht [] s1 (start N vs) H _ I hq) (λfl s' hs=>?_) λe s' hs=>hs
 have fin:∀ {σ':St} {H':Hp} {v:V} {u:ah},Inv (uD CX P w K mg base N qual scope f cdv A outer s H E) [] σ' H' s'->RelV v u->Q v H'->CE outer P w H s Q u s' :=
  λ{σ' H' v u} J rv q=>⟨v,H',J.os,J.bare,J.base,J.hok,rv,q⟩
 cases fl with
 | ret u =>
   obtain ⟨v,σ',H',J,rv,q⟩:=hs
   exact fin J rv q
 | next =>
   obtain ⟨σ',H',J,q⟩:=hs
   exact fin (v:=V.non) (u:=cw) J rfl q
 | brk =>
   obtain ⟨_,_,_,q⟩:=hs
   exact cE q
 | cont =>
   obtain ⟨_,_,_,q⟩:=hs;exact cE q
end L2
namespace L2
open PySem PySem.Spec PyProof.Rows
section
variable {X:Cx} {x:Str} {p pos:Pos} {e:aE} {es:List aE} {t:TA} {id T:String} {r:List V->Hp->VK->Prop}
def tCB (r:List V->Hp->VK->Prop) (t:TA):TE:=λσ H Q=>t σ H λvs H1=>r vs H1 Q
def mV (hc:dD X (.builtin id) r) (hg:Gl X x) (hm:X.mg x = none) (hv:bootBuiltins x = some (.builtin id)) (ha:PA X (e::es) t) (hn:x≠"__name__":=by decide) (hdb:(x == ("__debug__":Str)) = false:=by decide)
 (he:starEach (e::es) X.env = (false,eval e X.env)::starEach es X.env:=by rfl) (hpl:(backTo pos (starEach es X.env)).any (·.1) = false:=by rfl):PE X (.Call (.Name x p) (e::es) [] pos) (tCB r t):=by
 intro pins s σ H Q I h;refine gQ (qI I hg hm hv ?_ hn hdb);exact PyProof.Rows.callWith_builtin1 (thn (ha pos pins s σ H _ I h) λus s1 ⟨vs,H1,I1,r1,q1⟩=>hc pins s1 σ H1 vs us Q I1 r1 q1) he hpl
def jB (hc:dD X (.type T) r) (hg:Gl X x) (hm:X.mg x = none) (hv:bootBuiltins x = some (.type T)) (ha:PA X (e::es) t) (hn:x≠"__name__":=by decide) (hdb:(x == ("__debug__":Str)) = false:=by decide)
 (he:starEach (e::es) X.env = (false,eval e X.env)::starEach es X.env:=by rfl) (hpl:(backTo pos (starEach es X.env)).any (·.1) = false:=by rfl):PE X (.Call (.Name x p) (e::es) [] pos) (tCB r t):=by
 intro pins s σ H Q I h;refine gQ (qI I hg hm hv ?_ hn hdb);exact hV (thn (ha pos pins s σ H _ I h) λus s1 ⟨vs,H1,I1,r1,q1⟩=>hc pins s1 σ H1 vs us Q I1 r1 q1) he hpl
end
end L2
namespace HT
open PySem PyProof.Rows
section
open PySem.SeqAt
open PySem.AutoSeq1 (wpAny_loadPart')
open PySem.MeetsSeq PySem.MeetsSeq2 PySem.MeetsSeq3
end
section
variable {prog:aQ} {w:bw} {A:bt} {E:ah->ak->Prop} {s:ak}
def cat_tup (ht:Ju s.heap t vs.toArray) (hb:Ju s.heap b ws.toArray) (hv:vs≠[])
 (h1:ws = []->Q (.ref t) s) (h2:ws≠[]->Q (.ref s.heap.objs.size) { s with heap:=s.heap.push { cls:=.type "tuple",data:=.seq (vs++ws).toArray } })
 (hsz:vs.length+ws.length<=sizeLine):wpAny (model prog w) A (binaryOp .Add (.ref t) (.ref b)) Q E s:=by
 obtain ⟨⟨cls,dd,data,sl⟩,ho,hc,n,hd⟩:=id ht;obtain ⟨⟨cls2,dd2,data2,sl2⟩,ho2,hc2,n2,hd2⟩:=id hb;simp only at hc hd hc2 hd2;subst hc hd hc2 hd2;have e:vs.toArray++ws.toArray = (vs++ws).toArray:=by simp
 by_cases hw:ws = []
 . exact Gy ⟨_,ho,rfl⟩ ⟨_,ho2,rfl⟩ lN pT PySem.F.slot_tuple_add PySem.F.entry_tuple_add (PySem.F.args_tuple_add_2 _ _)
    (tuple_addW1 t b vs.toArray ws.toArray n n2 dd dd2 sl sl2 (by simpa using hv) (by simp [hw])) ⟨ho,ho2,h1 hw⟩
 . refine Gy ⟨_,ho,rfl⟩ ⟨_,ho2,rfl⟩ lN pT PySem.F.slot_tuple_add PySem.F.entry_tuple_add (PySem.F.args_tuple_add_2 _ _)
    (tuple_addW2 t b vs.toArray ws.toArray n n2 dd dd2 sl sl2 (by simpa using hv) (by simpa using hw) (by rw [aG,aG];exact hsz)) ⟨ho,ho2,?_⟩
   rw [e];exact h2 hw
def sIx (n d:Nat):Option Int->Nat
 | none=>d
 | some v=>if v < 0 then (v+(n:Int)).toNat else min v.toNat n
def sIx_nat (n d k:Nat):sIx n d (some (k:Int)) = min k n:=by
 show (if (k:Int) < 0 then ((k:Int)+(n:Int)).toNat else min (k:Int).toNat n) = min k n;rw [if_neg ∅,jO]
def Lh (n d:Nat) (hd:d<=n) (o:Option Int):sIx n d o<=n:=by
 cases o with
 | none=>exact hd
 | some v =>
   show (if v < 0 then (v+(n:Int)).toNat else min v.toNat n)<=n;by_cases hv:v < 0
   . rw [if_pos hv];lia
   . rw [if_neg hv];exact qZ _ _
def zV (v:Int) (n d:Nat):(if v < 0 then max (v+(n:Int)) 0 else min v (n:Int)) = ((sIx n d (some v):Nat):Int):=by
 show (if v < 0 then max (v+(n:Int)) 0 else min v (n:Int)) = (((if v < 0 then (v+(n:Int)).toNat else min v.toNat n):Nat):Int);by_cases hv:v < 0
 . simp only [if_pos hv];lia
 . simp only [if_neg hv];lia
def ym (lo hi:Option Int) (n:Nat):iz lo hi 1 (n:Int) = (((sIx n 0 lo:Nat):Int),((sIx n n hi:Nat):Int)):=by
 have h1:¬ ((1:Int) < 0):=by lia
 unfold iz;simp only [h1,if_false];refine Prod.ext ?_ ?_
 . cases lo with
   | none=>rfl
   | some v=>exact zV v n 0
 . cases hi with
   | none=>rfl
   | some v=>exact zV v n n
def xK (i j:Nat):eW (i:Int) (j:Int) 1 = j - i:=by
 unfold eW;have h1:(1:Int) > 0:=by lia
 simp only [h1,if_true,Int.ediv_one];split<;>lia
def qr {v:ah} {o:Option Int} {Q:Option Int->ak->Prop} (p:rg v o) (h:Q o s):wpAny (model prog w) A (Builtin.Slice.slicePartIndex v) Q E s:=by
 cases p with
 | none=>exact slicePart_none h
 | int i t=>exact slicePart_int h
def oi {sl:au} {vl vu:ah} {lo hi:Option Int} {n:Nat} {Q:Int × Int × Nat->ak->Prop} (hs:s.heap.IsSliceOf sl vl vu .none) (pl:rg vl lo) (pu:rg vu hi)
 (h:Q (((sIx n 0 lo:Nat):Int),1,sIx n n hi - sIx n 0 lo) s):wpAny (model prog w) A (nN (.ref sl) (pure (n:Int))) Q E s:=by
 obtain ⟨os,hos,hcs,hds⟩:=id hs;unfold nN Builtin.Slice.sliceFields;refine ab (ab (cL hos hds (x:=vl) rfl (ab (cL hos hds (x:=vu) rfl (ab (cL hos hds (x:=.none) rfl (ay ?_)))))));refine ab (slicePart_none ?_);show wpAny _ _ (if ((1:Int) == 0) = true then _ else _) _ _ s;rw [if_neg ⇑0];refine ab (qr pl (ab (qr pu (ab (ay ?_)))));show wpAny _ _ (match iz lo hi 1 (n:Int) with | (lo,hi)=>pure (lo,(1:Int),eW lo hi 1)) _ _ s;rw [ym lo hi n];show wpAny _ _ (pure (((sIx n 0 lo:Nat):Int),(1:Int),eW ((sIx n 0 lo:Nat):Int) ((sIx n n hi:Nat):Int) 1)) _ _ s;rw [xK];exact ay h
def Em (xs:Array ah) (i k:Nat):((bE k).filterMap λ(m:Nat)=>xs[((i:Int)+(m:Int) * 1).toNat]?).toArray = ((xs.toList.drop i).take k).toArray:=by
 have e:(λ(m:Nat)=>xs[((i:Int)+(m:Int) * 1).toNat]?) = λm=>xs[i+m]? := by
  funext m
  have:((i:Int)+(m:Int) * 1).toNat = i+m:=by lia
  rw [this]
 rw [e];have:=pick_run xs i k;rw [List.filterMap_map] at this;have e2:((λx=>xs[x]?) ∘ λx=>i+x) = λm=>xs[i+m]? := rfl;rw [e2] at this;rw [this]
def getItem_tuple_cut {t sl:au} {items:Array ah} {vl vu:ah} {lo hi:Option Int} {Q:ah->ak->Prop} (ht:Ju s.heap t items) (hs:s.heap.IsSliceOf sl vl vu .none) (pl:rg vl lo) (pu:rg vu hi)
 (hw:¬ (sIx items.size 0 lo = 0/\sIx items.size items.size hi = items.size))
 (h:Q (.ref s.heap.objs.size) { s with heap:=s.heap.push { cls:=.type "tuple",data:=.seq ((items.toList.drop (sIx items.size 0 lo)).take (sIx items.size items.size hi - sIx items.size 0 lo)).toArray } })
 (hsz:items.size<=sizeLine):wpAny (model prog w) A (getItem (.ref t) (.ref sl)) Q E s:=by
 have htake:sizeOk (.seq ((items.toList.drop (sIx items.size 0 lo)).take (sIx items.size items.size hi - sIx items.size 0 lo)).toArray):=by
  show ((items.toList.drop (sIx items.size 0 lo)).take (sIx items.size items.size hi - sIx items.size 0 lo)).toArray.size<=sizeLine;rw [aG,da,kG,bK];omega
 have hj:sIx items.size items.size hi<=items.size:=Lh _ _ (ax _) hi;obtain ⟨os,hos,hcs,hds⟩:=id hs;have hTs:s.TypeIs (.ref sl) "slice":=⟨os,hos,hcs⟩;unfold getItem
 try with_reducible refine cS ?_
 first | refine ab (ay ?_) | skip
 refine ab (wpAny_sequenceKey ht.typeIs ⇑0 ?_)
 refine ab (cM (name:=fQ "__getitem__") ht.typeIs lO
  (bY lO ht.typeIs entry_tuple_getitem ?_ (args_tuple_getitem _ _)))
 show wpAny _ _ (Builtin.Tuple.tupleItemsOf (.ref t) >>= _) _ _ s;refine ab (tupleItemsOf_ ht ?_);refine ab (Gv hTs ?_);rw [if_pos ⇑0];refine ab (oi hs pl pu ?_)
 have hno:¬ ((((sIx items.size 0 lo:Nat):Int) == 0 && (1:Int) == 1 && (sIx items.size items.size hi - sIx items.size 0 lo) == items.size) = true):=by
  intro q;rw [aa,aa] at q;have q1:((sIx items.size 0 lo:Nat):Int) = 0:=eq_of_beq q.1.1;have q2:sIx items.size items.size hi - sIx items.size 0 lo = items.size:=eq_of_beq q.2;exact hw ⟨by omega,by omega⟩
 show wpAny _ _ (if (((sIx items.size 0 lo:Nat):Int) == 0 && (1:Int) == 1 && (sIx items.size items.size hi - sIx items.size 0 lo) == items.size) = true then _ else _) _ _ s;rw [if_neg hno,Em]
 first
  | exact ab (m:=fu _) (bu (ay ⟨_,rfl,ay h⟩) htake)
  | exact ab (m:=fu _) (bu (ab (ay (ay ⟨_,rfl,ay h⟩))) htake)
  | exact ab (ab (m:=fu _) (bu (ay (ay ⟨_,rfl,ay h⟩)) htake))
  | exact ab (ab (m:=fu _) (bu (ay ⟨_,rfl,ay h⟩) htake))
end
end HT
namespace L2
open PySem PySem.Spec PyProof.Rows
abbrev TO:=St->Hp->(Option Int->Hp->Prop)->Prop
def PO (X:Cx) (e:Option aE) (t:TO):Prop :=
 ∀ (pins:List (au × Obj)) (s:ak) (σ:St) (H:Hp) (Q:Option Int->Hp->Prop),Inv X pins σ H s->t σ H Q ->
  wpAny (model X.prog X.w) X.A (evalPart e X.env) (λu s'=>∃ o H',Inv X pins σ H' s'/\rg u o/\Q o H') X.xe s
def Hg:TO:=λ_ H Q=>Q none H
def NR (t:TE):TO:=λσ H Q=>t σ H λx H1=>∃ i,x = .int i/\Q (some i) H1
section
variable {X:Cx} {e:aE} {te:TE} {lo hi:Option aE} {tl th:TO} {pos p2:Pos}
def HV:PO X none Hg:=by
 intro pins s σ H Q I h;rw [evalPart_none];exact ay ⟨none,H,I,.none,h⟩
def HU (h:PE X e te):PO X (some e) (NR te):=by
 intro pins s σ H Q I hw;rw [evalPart_some];refine thn (h pins s σ H _ I hw) λu s1 zz=>?_;obtain ⟨x,H1,I1,r1,q1⟩:=zz;obtain ⟨i,rfl,q⟩:=q1;obtain ⟨t,rfl⟩:=r1;exact ⟨some i,H1,I1,.int i t,q⟩
def SlR (X:Cx) (r:V->Option Int->Option Int->Hp->VK->Prop):Prop :=
 ∀ (pins:List (au × Obj)) (s:ak) (σ:St) (H:Hp) (x:V) (v vl vu:ah) (lo hi:Option Int) (sl:au) (Q:VK),Inv X pins σ H s->RelV x v->s.heap.IsSliceOf sl vl vu .none->rg vl lo->rg vu hi->r x lo hi H Q ->
  ∃ T id,typeLookup (.type T) "__getitem__" = pure (some (.builtin id))/\s.TypeIs v T/\wpAny (model X.prog X.w) X.A (getItem v (.ref sl)) (EP X pins σ Q) X.xe s
def SlR.or {r r':V->Option Int->Option Int->Hp->VK->Prop} (h:SlR X r) (h':SlR X r'):SlR X (λx lo hi H Q=>r x lo hi H Q\/r' x lo hi H Q):=by
 intro pins s σ H x v vl vu lo hi sl Q I rx hs pl pu q;rcases q with q | q
 . exact h pins s σ H x v vl vu lo hi sl Q I rx hs pl pu q
 . exact h' pins s σ H x v vl vu lo hi sl Q I rx hs pl pu q
def tSl (r:V->Option Int->Option Int->Hp->VK->Prop) (te:TE) (tl th:TO):TE:=λσ H Q=>te σ H λx H1=>tl σ H1 λl H2=>th σ H2 λu H3=>r x l u H3 Q
def vH (hr:SlR X r) (he:PE X e te) (hl:PO X lo tl) (hu:PO X hi th):PE X (.Subscript e (.Slice lo hi none p2) pos) (tSl r te tl th):=by
 intro pins s σ H Q I h;refine Subscript_ (thn (he pins s σ H _ I h) λv s1 ⟨x,H1,I1,r1,q1⟩=>?_);refine wpAny_Slice (thn (hl pins s1 σ H1 _ I1 q1) λvl s2 ⟨l,H2,I2,pl,q2⟩=>thn (hu pins s2 σ H2 _ I2 q2) λvu s3 ⟨u,H3,I3,pu,q3⟩=>?_);rw [evalPart_none];refine ay ?_;have I4:Inv X pins σ H3 { s3 with heap:=s3.heap.push { cls:=.type "slice",data:=.fields #[vl,vu,.none] } }:=I3.kept (t':=s3.toks) λb ob q=>aj _ q;obtain ⟨T,id,hT,ht,hg⟩:=hr pins { s3 with heap:=s3.heap.push { cls:=.type "slice",data:=.fields #[vl,vu,.none] } } σ H3 x v vl vu l u s3.heap.objs.size Q I4 r1 (Heap.IsSliceOf.new ..) pl pu q3;show wpAny (model X.prog X.w) X.A (subscriptTail e (.Slice lo hi none p2) v (.ref s3.heap.objs.size)) (EP X pins σ Q) X.xe { s3 with heap:=s3.heap.push { cls:=.type "slice",data:=.fields #[vl,vu,.none] } };exact tail_any (ops:=[.ref s3.heap.objs.size,v]) ht hT hg (by with_unfolding_all rfl)
def rG (xs:List V) (lo hi:Option Int):List V:=(xs.drop (HT.sIx xs.length 0 lo)).take (HT.sIx xs.length xs.length hi - HT.sIx xs.length 0 lo)
def oU (xs:List V) (lo hi:Option Int):(rG xs lo hi).length<=xs.length:=by
 unfold rG;rw [da,kG]
 lia
def Qi (K:PySem.W.Frag):V->Option Int->Option Int->Hp->VK->Prop:=λx lo hi H Q=>∃ a xs,x = .ref a/\SqT K H a xs /\
 ¬ (HT.sIx xs.length 0 lo = 0/\HT.sIx xs.length xs.length hi = xs.length)/\∀ p,H p = none->Q (.ref p) (upd H p (.tup (rG xs lo hi)))
def Le:SlR X (Qi X.K):=by
 intro pins s σ H x v vl vu lo hi sl Q I rx hs pl pu h;obtain ⟨a,xs,rfl,hx,hw,q⟩:=h;cases rx;obtain ⟨its,r,ht,hz⟩:=I.tuple hx;have hlen:its.toArray.size = xs.length:=by rw [aG];exact r.length.symm
 refine ⟨"tuple",_,PyProof.Rows.slot_tuple_getitem.lookup,ht.typeIs,?_⟩;refine HT.getItem_tuple_cut ht hs pl pu (by rw [hlen];exact hw) ?_ (by rw [hlen];exact hz);rw [hlen];refine ⟨.ref s.heap.objs.size,_,I.laid (t':=s.toks) (o:=.tup (rG xs lo hi)) (λb ob q=>aj _ q) (ax _) ?_,rfl,q _ (I.hok.fresh (ax _))⟩;exact ⟨aS (oU xs lo hi) hz,_,(r.drop (HT.sIx xs.length 0 lo)).take (HT.sIx xs.length xs.length hi - HT.sIx xs.length 0 lo),pB _ _⟩
def JA (K:PySem.W.Frag):R2:=λx y H Q=>∃ a b xs ys,x = .ref a/\y = .ref b/\SqT K H a xs/\SqT K H b ys/\xs≠[]/\xs.length+ys.length<=sizeLine /\
 (ys = []->Q (.ref a) H)/\(ys≠[]->∀ p,H p = none->Q (.ref p) (upd H p (.tup (xs++ys))))
def Vals.nil_iff (r:Vals xs us):us = []↔xs = []:=by
 cases r with
 | nil=>simp
 | cons _ _=>simp
def Ih:OpR X (binaryOp .Add) (JA X.K):=by
 intro pins s σ H x y v u Q I rx ry h;obtain ⟨a,b,xs,ys,rfl,rfl,ha,hb,hx,hz,q1,q2⟩:=h;cases rx;cases ry;obtain ⟨its,r1,p1,_⟩:=I.tuple ha;obtain ⟨its2,r2,p2,_⟩:=I.tuple hb;refine HT.cat_tup p1 p2 (λz=>hx (r1.nil_iff.mp z)) (λz=>⟨.ref a,H,I,rfl,q1 (r2.nil_iff.mp z)⟩) (λz=>?_) (by rw [<- r1.length,<- r2.length];exact hz);refine ⟨.ref s.heap.objs.size,_,I.laid (t':=s.toks) (o:=.tup (xs++ys)) (λb ob q=>aj _ q) (ax _) ?_,rfl,q2 (λw=>z (r2.nil_iff.mpr w)) _ (I.hok.fresh (ax _))⟩;exact ⟨by rw [ag];exact hz,_,r1.append r2,pB _ _⟩
end
end L2
namespace L2
open PySem PySem.Spec PyProof.Rows
def ixN (n:Nat) (i:Int):Option Nat:=if 0<=i then (if i < n then some i.toNat else none) else if -(n:Int)<=i then some (i+n).toNat else none
def atI {α:Type} (xs:List α) (i:Int):Option α:=(ixN xs.length i).bind λj=>xs[j]?
def zA (h:ixN n i = some j):seqIndex? i n = some j/\j < n/\-(n:Int)<=i/\i < n:=by
 unfold ixN at h;by_cases h0:0<=i
 . rw [if_pos h0] at h;by_cases h1:i < n
   . rw [if_pos h1] at h;have e:i.toNat = j:=bI h;exact ⟨by rw [Jl h0 h1,e],∅,∅,h1⟩
   . rw [if_neg h1] at h;cases h
 . rw [if_neg h0] at h;by_cases h1:-(n:Int)<=i
   . rw [if_pos h1] at h;have e:(i+n).toNat = j:=bI h;exact ⟨by rw [Gx ∅ h1,e],∅,h1,∅⟩
   . rw [if_neg h1] at h;cases h
def uN {α:Type} {xs:List α} {i:Int} {v:α} (h:atI xs i = some v):∃ j,seqIndex? i xs.length = some j/\xs[j]? = some v/\j < xs.length/\-(xs.length:Int)<=i/\i < xs.length:=by
 unfold atI at h
 cases e:ixN xs.length i with
 | none=>rw [e] at h;cases h
 | some j =>
   rw [e] at h;obtain ⟨h1,h2,h3,h4⟩:=zA e;exact ⟨j,h1,h,h2,h3,h4⟩
def atI_nat {α:Type} {xs:List α} {j:Nat} {v:α} (h:xs[j]? = some v):atI xs (j:Int) = some v:=by
 have hj:j < xs.length:=(aF.mp h).1
 have e:ixN xs.length (j:Int) = some j:=by
  unfold ixN;rw [if_pos ∅,if_pos ∅];simp
 unfold atI;rw [e];exact h
def PlainIx (b:aE):Prop:=∀ o i,subscripted b false o i = operate [o,i] (getItem o i)
def IxR (X:Cx) (r:R2):Prop :=
 ∀ (value slice:aE) (pins:List (au × Obj)) (s:ak) (σ:St) (H:Hp) (x y:V) (v u:ah) (Q:VK),Inv X pins σ H s->RelV x v->RelV y u->r x y H Q ->
  subscripted slice false v u = operate [v,u] (getItem v u)->wpAny (model X.prog X.w) X.A (subscriptTail value slice v u) (EP X pins σ Q) X.xe s
def MtR (X:Cx) (id:String) (r:V->List V->Hp->VK->Prop):Prop :=
 ∀ (pins:List (au × Obj)) (s:ak) (σ:St) (H:Hp) (x:V) (xs:List V) (v:ah) (us:List ah) (Q:VK),Inv X pins σ H s->RelV x v->Vals xs us->r x xs H Q ->
  wpAny (model X.prog X.w) X.A (call (.builtin id) (v::us)) (EP X pins σ Q) X.xe s
section
variable {X:Cx} {a b:aE} {ta tb:TE} {pos:Pos}
def IxR.or {r r':R2} (h:IxR X r) (h':IxR X r'):IxR X (λx y H Q=>r x y H Q\/r' x y H Q):=by
 intro value slice pins s σ H x y v u Q I rx ry q hs;rcases q with q | q
 . exact h value slice pins s σ H x y v u Q I rx ry q hs
 . exact h' value slice pins s σ H x y v u Q I rx ry q hs
def Ox (hr:IxR X r) (ha:PE X a ta) (hb:PE X b tb) (hs:PlainIx b):PE X (.Subscript a b pos) (tOp r ta tb):=by
 intro pins s σ H Q I h;exact Subscript_ (Nm ha hb I h λv u s2 x y H2 I2 rx ry q=>hr a b pins s2 σ H2 x y v u Q I2 rx ry q (hs _ _))
def Oj (K:PySem.W.Frag):R2:=λx y H Q=>∃ p xs i v,x = .ref p/\y = .int i/\SqL K H p xs/\atI xs i = some v/\Q v H
def Oh (K:PySem.W.Frag):R2:=λx y H Q=>∃ p xs i v,x = .ref p/\y = .int i/\SqT K H p xs/\atI xs i = some v/\Q v H
def Oi:R2:=λx y H Q=>∃ z i c,x = .str z/\y = .int i/\z.length<=sizeLine/\atI z.cps.toList i = some c/\Q (.str ⟨#[c]⟩) H
def IK:IxR X (Oj X.K):=by
 intro value slice pins s σ H x y v u Q I rx ry h hs;obtain ⟨p,xs,i,z,rfl,rfl,hq,he,q⟩:=h;cases rx;obtain ⟨t,rfl⟩:=ry;obtain ⟨its,r,pl,hz⟩:=I.list hq;obtain ⟨j,h1,h2,h3,h4,h5⟩:=uN he;obtain ⟨w,ew,rw'⟩:=r.get h2;have hl:=r.length;have hn:=mi;have fin:EP X pins σ Q w s:=⟨z,H,I,rw',q⟩;by_cases h0:0<=i
 . have hj:i.toNat = j:=by
    rw [Jl h0 h5] at h1;exact bI h1
   exact item_listR pl.isList h0 ∅ (by rw [hj];simpa using ew) fin hs
 . have hj:(i+(its.toArray.size:Int)).toNat = j:=by
    rw [Gx ∅ h4] at h1;rw [aG,<- hl];exact bI h1
   exact Gw (x:=w) pl.isList.typeIs slot_list_getitem.lookup
    (wpAny_getItem_list_neg (Q:=λr s'=>r = w/\EP X pins σ Q r s') pl.isList ∅ (by rw [aG]<;>lia) ∅ (by rw [hj];simpa using ew) ⟨rfl,fin⟩) hs
def MO:IxR X (Oh X.K):=by
 intro value slice pins s σ H x y v u Q I rx ry h hs;obtain ⟨p,xs,i,z,rfl,rfl,hq,he,q⟩:=h;cases rx;obtain ⟨t,rfl⟩:=ry;obtain ⟨its,r,pl,hz⟩:=I.tuple hq;obtain ⟨j,h1,h2,h3,h4,h5⟩:=uN he;obtain ⟨w,ew,rw'⟩:=r.get h2;have hl:=r.length;have hn:=mi;have fin:EP X pins σ Q w s:=⟨z,H,I,rw',q⟩
 exact Gw (x:=w) pl.typeIs slot_tuple_getitem.lookup
  (getItem_tuple (j:=j) (Q:=λr s'=>r = w/\EP X pins σ Q r s') pl ∅ ∅ (by rw [aG,<- hl];exact h1) (by simpa using ew) ⟨rfl,fin⟩) hs
def MP:IxR X Oi:=by
 intro value slice pins s σ H x y v u Q I rx ry h hs;obtain ⟨z,i,c,rfl,rfl,hz,he,q⟩:=h;obtain ⟨t,rfl⟩:=rx;obtain ⟨t',rfl⟩:=ry;obtain ⟨j,h1,h2,h3,h4,h5⟩:=uN he;have hl:z.cps.toList.length = z.length:=by simp [Str.length]
 rw [hl] at h1 h4 h5;have hn:=mi
 exact tail_any (yq s z t) slot_str_getitem.lookup (getItem_str (c:=c) (by
  have e1:decide (i < -(2 ^ 63:Int)) = false:=decide_eq_false ∅;have e2:decide (i ≥ 2 ^ 63) = false:=decide_eq_false ∅;rw [e1,e2,Bool.or_false]) (by rw [h1];simpa using h2) ⟨.str ⟨#[c]⟩,H,I.tok _,⟨_,rfl⟩,q⟩) hs
def rIx (K:PySem.W.Frag):R2:=λx y H Q=>Oj K x y H Q\/Oh K x y H Q\/Oi x y H Q
def MQ:IxR X (rIx X.K):=IK.or (MO.or MP)
def xV (its:List ah) (n j:Nat) (u:ah):cg (·.setIfInBounds j u) { cls:=.type "list",data:=.seq its.toArray n } = { cls:=.type "list",data:=.seq (its.set j u).toArray n }:=by
 simp [cg]
def Inv.lst {pins:List (au × Obj)} {σ:St} {H:Hp} {s:ak} {p:au} {xs:List V} (I:Inv X pins σ H s) (h:H p = some (.lst xs)) :
 ∃ (its:List ah) (n:Nat),Vals xs its/\s.heap.get? p = some { cls:=.type "list",data:=.seq its.toArray n }/\xs.length<=sizeLine:=by
 obtain ⟨z,its,n,r,e⟩:=I.hok p _ h;exact ⟨its,n,r,e,z⟩
def Inv.lstUpd {pins:List (au × Obj)} {σ:St} {H:Hp} {s:ak} {p:au} {xs ys:List V} {its its':List ah} {n n':Nat} {f:Obj->Obj} (I:Inv X pins σ H s) (h:H p = some (.lst xs))
 (ho:s.heap.get? p = some { cls:=.type "list",data:=.seq its.toArray n }) (hf:f { cls:=.type "list",data:=.seq its.toArray n } = { cls:=.type "list",data:=.seq its'.toArray n' }) (r:Vals ys its') (hz:ys.length<=sizeLine) (t:Nat) :
 Inv X pins σ (upd H p (.lst ys)) { s with heap:=s.heap.update p f,toks:=t }:=by
 have e:(s.heap.update p f).get? p = some { cls:=.type "list",data:=.seq its'.toArray n' }:=by
  rw [eY f ho (by rw [hf]<;>rfl),hf]
 refine I.write (x:=p) (e:=p) (by rw [h];trivial) (.inl rfl) (λb u hb q=>(eN _ _ (Ne.symm hb)).trans q) ⟨_,e⟩ ?_;exact ⟨hz,its',n',r,e⟩
def Og:V->V->V->Hp->(Hp->Prop)->Prop:=λo i v H Q=>∃ p xs k j,o = .ref p/\i = .int k/\H p = some (.lst xs)/\ixN xs.length k = some j/\Q (upd H p (.lst (xs.set j v)))
def set_list:Pz X Og:=by
 intro pins s σ H o i v ov iv u Q I ro ri rv h;obtain ⟨p,xs,k,j,rfl,rfl,hp,hj,q⟩:=h;cases ro;obtain ⟨t,rfl⟩:=ri;obtain ⟨its,n,r,ho,hz⟩:=I.lst hp;obtain ⟨h1,h2,h3,h4⟩:=zA hj;have hl:=r.length;have hn:=mi
 have I':Inv X pins σ (upd H p (.lst (xs.set j v))) { s with heap:=s.heap.update p (cg (·.setIfInBounds j u)) } :=
  I.lstUpd hp ho (xV its n j u) (r.set rv j) (by rw [cm];exact hz) s.toks
 by_cases h0:0<=k
 . have hk:k.toNat = j:=by
    rw [Jl h0 h4] at h1;exact bI h1
   exact PySem.W.ki_setAt ho h0 ∅ (by rw [aG,<- hl];exact h4) (by rw [hk];exact ⟨_,I',q⟩)
 . have hk:(k+(its.toArray.size:Int)).toNat = j:=by
    rw [Gx ∅ h3] at h1;rw [aG,<- hl];exact bI h1
   exact PySem.W.ki_setBack ho ∅ (by rw [aG,<- hl];exact h3) ∅ (by rw [hk];exact ⟨_,I',q⟩)
def tL (lo hi:Option Int) (n:Nat):(sliceBounds lo hi none n).1 = ((HT.sIx n 0 lo:Nat):Int)/\(sliceBounds lo hi none n).2.1 = ((HT.sIx n n hi:Nat):Int)/\(sliceBounds lo hi none n).2.2 = 1:=by
 refine ⟨?_,?_,rfl⟩
 . cases lo with
   | none=>simp [sliceBounds,HT.sIx]
   | some i =>
     simp only [sliceBounds,HT.sIx,Ce,show (1:Int) > 0 by decide,if_true];by_cases h:i < 0
     . simp only [h,if_true]<;>lia
     . simp only [h,if_false]<;>lia
 . cases hi with
   | none=>simp [sliceBounds,HT.sIx]
   | some i =>
     simp only [sliceBounds,HT.sIx,Ce,show (1:Int) > 0 by decide,if_true];by_cases h:i < 0
     . simp only [h,if_true]<;>lia
     . simp only [h,if_false]<;>lia
def rA (its:List ah) (lo hi:Option Int):slicePick its.toArray lo hi none = ((its.drop (HT.sIx its.length 0 lo)).take (HT.sIx its.length its.length hi - HT.sIx its.length 0 lo)).toArray:=by
 obtain ⟨h1,h2,h3⟩:=tL lo hi its.toArray.size;unfold slicePick;rw [h1,h2,h3];simp only [sliceRange_one,pick_run,aG]<;>rfl
def Qk (K:PySem.W.Frag):V->Option Int->Option Int->Hp->VK->Prop:=λx lo hi H Q=>∃ a xs,x = .ref a/\SqL K H a xs/\∀ p,H p = none->Q (.ref p) (upd H p (.lst (rG xs lo hi)))
def yJ:SlR X (Qk X.K):=by
 intro pins s σ H x v vl vu lo hi sl Q I rx hs pl pu h;obtain ⟨a,xs,rfl,hx,q⟩:=h;cases rx;obtain ⟨its,r,ht,hz⟩:=I.list hx;have hlen:=r.length;refine ⟨"list",_,slot_list_getitem.lookup,ht.isList.typeIs,?_⟩;refine wpAny_getItem_list_slice ht.isList hs pl pu .none ↥0 ?_ (by rw [aG]<;>lia);rw [rA,<- hlen];refine ⟨.ref s.heap.objs.size,_,I.laid (t':=s.toks) (o:=.lst (rG xs lo hi)) (λb ob q=>aj _ q) (ax _) ?_,rfl,q _ (I.hok.fresh (ax _))⟩;exact ⟨aS (oU xs lo hi) hz,_,0,(r.drop (HT.sIx xs.length 0 lo)).take (HT.sIx xs.length xs.length hi - HT.sIx xs.length 0 lo),aH _ rfl⟩
def uM:dD X (.builtin "len") (λxs H Q=>∃ p ys,xs = [.ref p]/\(SqL X.K H p ys\/SqT X.K H p ys)/\Q (.int ys.length) H):=by
 intro pins s σ H xs us Q I r h;obtain ⟨p,ys,rfl,hq,q⟩:=h;obtain ⟨u,rfl,rx⟩:=vals1 r;cases rx;have hn:=mi;rcases hq with hq | hq
 . obtain ⟨its,r',pl,hz⟩:=I.list hq;have hlen:=r'.length;exact Calls.call_len_list pl.isList (by simp only [aG]<;>lia) ⟨.int ys.length,H,I.tok _,⟨s.toks+1,by rw [aG,hlen]⟩,q⟩
 . obtain ⟨its,r',pl,hz⟩:=I.tuple hq;have hlen:=r'.length;exact len_tuple pl (by simp only [aG]<;>lia) ⟨.int ys.length,H,I.tok _,⟨s.toks+1,by rw [aG,hlen]⟩,q⟩
def uL:dD X (.builtin "len") (λxs H Q=>∃ z,xs = [.str z]/\z.length<=sizeLine/\Q (.int z.length) H):=by
 intro pins s σ H xs us Q I r h;obtain ⟨z,rfl,hz,q⟩:=h;obtain ⟨u,rfl,t,rfl⟩:=vals1 r;have hn:=mi;exact len_str ∅ ⟨.int z.length,H,I.tok _,⟨_,rfl⟩,q⟩
def dD.or {f:ah} {r r':List V->Hp->VK->Prop} (h:dD X f r) (h':dD X f r'):dD X f (λxs H Q=>r xs H Q\/r' xs H Q):=by
 intro pins s σ H xs us Q I rs q;rcases q with q | q
 . exact h pins s σ H xs us Q I rs q
 . exact h' pins s σ H xs us Q I rs q
def nD:dD X (.type "list") (λxs H Q=>∃ p ys,xs = [.ref p]/\(SqL X.K H p ys\/SqT X.K H p ys)/\∀ l,H l = none->Q (.ref l) (upd H l (.lst ys))):=by
 intro pins s σ H xs us Q I r h;obtain ⟨p,ys,rfl,hq,q⟩:=h;obtain ⟨u,rfl,rx⟩:=vals1 r;cases rx
 have fin:∀ (its:List ah),Vals ys its->ys.length<=sizeLine->∀ (h':bJ) (c':Nat),(∀ b o',s.heap.get? b = some o'->h'.get? b = some o') ->
  h'.get? s.heap.objs.size = some { cls:=.type "list",dict:=none,data:=.seq its.toArray c',slots := #[] }->EP X pins σ Q (.ref s.heap.objs.size) { s with heap:=h' }:=λits r' hz h' c' kp e =>
  ⟨.ref s.heap.objs.size,_,I.laid (t':=s.toks) kp (ax _) (show ft X.prog X.w _ h' _ (.lst ys) from ⟨hz,its,c',r',e⟩),rfl,q _ (I.hok.fresh (ax _))⟩
 rcases hq with hq | hq
 . obtain ⟨its,r',pl,hz⟩:=I.list hq;have hlen:=r'.length;obtain ⟨o,ho,hc,n,hd⟩:=pl.isList;exact call_list_seq p (.inl rfl) ho hc hd (λh' c' kp e=>fin its r' hz h' c' kp e) (by simp only [aG]<;>lia)
 . obtain ⟨its,r',pl,hz⟩:=I.tuple hq;have hlen:=r'.length;obtain ⟨o,ho,hc,n,hd⟩:=pl;exact call_list_seq p (.inr rfl) ho hc hd (λh' c' kp e=>fin its r' hz h' c' kp e) (by simp only [aG]<;>lia)
def rJ:dD X (.type "tuple") (λxs H Q=>∃ p ys,xs = [.ref p]/\((SqL X.K H p ys/\∀ l,H l = none->Q (.ref l) (upd H l (.tup ys)))\/(SqT X.K H p ys/\Q (.ref p) H))):=by
 intro pins s σ H xs us Q I r h;obtain ⟨p,ys,rfl,h⟩:=h;obtain ⟨u,rfl,rx⟩:=vals1 r;cases rx;rcases h with ⟨hq,q⟩ | ⟨hq,q⟩
 . obtain ⟨its,r',pl,hz⟩:=I.list hq;have hlen:=r'.length;refine call_tuple_list pl.isList (λh' kp=>?_) (by simp only [aG]<;>lia);have I1:Inv X pins σ H { s with heap:=h' }:=I.kept (t':=s.toks) kp
   have I2:Inv X pins σ (upd H h'.objs.size (.tup ys)) { s with heap:=h'.push { cls:=.type "tuple",data:=.seq its.toArray } } :=
    I1.laid (t':=s.toks) (λb o e=>aj _ e) (ax _) (show ft X.prog X.w _ _ _ (.tup ys) from ⟨hz,its,r',pB _ _⟩)
   exact ⟨.ref h'.objs.size,_,I2,rfl,q _ (I1.hok.fresh (ax _))⟩
 . obtain ⟨its,r',pl,hz⟩:=I.tuple hq;exact call_tuple_same pl ⟨.ref p,H,I,rfl,q⟩
def tyV (K:PySem.W.Frag) (T:String) (x:V) (H:Hp):Prop:=match x with
 | .str _=>T = "str"
 | .int _=>T = "int"
 | .ref p=>(T = "list"/\∃ xs,SqL K H p xs)\/(T = "tuple"/\∃ o,K.lookup p = some o/\o.cls = .type "tuple"/\o.dict = none) \/
    (T = "dict"/\((∃ kvs,H p = some (.dK kvs))\/∃ kvs,H p = some (.dT kvs)))\/(T = "set"/\∃ S n,H p = some (.set S n))
 | _=>False
def Dl (I:Inv X pins σ H s) (r:RelV x v) (ty:tyV X.K T x H) :
 s.TypeIs v T/\∀ a,v = .ref a->∃ ob,s.heap.get? a = some ob/\ob.dict = none:=by
 cases x with
 | str z =>
   obtain ⟨t,rfl⟩:=r;cases (show T = "str" from ty)
   exact ⟨yq s z t,λ_ e=>nomatch e⟩
 | int i =>
   obtain ⟨t,rfl⟩:=r;cases (show T = "int" from ty)
   exact ⟨typeIs_int s i t,λ_ e=>nomatch e⟩
 | ref p =>
   cases r;rcases ty with ⟨rfl,xs,hq⟩ | ⟨rfl,o,hk,hc,hd⟩ | ⟨rfl,hk⟩ | ⟨rfl,S,n,hk⟩
   . obtain ⟨its,_,pl,_⟩:=I.list hq;refine ⟨pl.isList.typeIs,λa e=>?_⟩;cases e;obtain ⟨o,n,e,c,hd,_⟩:=pl;exact ⟨o,e,hd⟩
   . refine ⟨⟨o,I.kIn p o hk,hc⟩,λa e=>?_⟩;cases e;exact ⟨o,I.kIn _ o hk,hd⟩
   . have z:∃ o,s.heap.get? p = some o/\o.ExactDict:=by
      rcases hk with ⟨kvs,hk⟩ | ⟨kvs,hk⟩
      . obtain ⟨_,_,_,_,o,_,_,e,ex,_⟩:=I.hok p _ hk;exact ⟨o,e,ex⟩
      . obtain ⟨_,_,_,_,o,_,_,e,ex,_⟩:=I.hok p _ hk;exact ⟨o,e,ex⟩
     obtain ⟨o,e,ex⟩:=z;refine ⟨⟨o,e,ex.1⟩,λa e2=>?_⟩;cases e2;exact ⟨o,e,ex.2.1⟩
   . obtain ⟨o,_,_,_,e,ex,_⟩:=I.hok p _ hk;refine ⟨⟨o,e,ex.1⟩,λa e2=>?_⟩;cases e2
     exact ⟨o,e,ex.2.1⟩
 | _=>exact cE ty
def PX (K:PySem.W.Frag) (T:String) (r:V->List V->Hp->VK->Prop) (to:TE):TE:=λσ H Q=>to σ H λx H1=>tyV K T x H1/\r x [] H1 Q
def tBM (K:PySem.W.Frag) (T:String) (r:V->List V->Hp->VK->Prop) (to:TE) (t:TA):TE:=λσ H Q=>to σ H λx H1=>tyV K T x H1/\t σ H1 λxs H2=>r x xs H2 Q
variable {o e:aE} {es:List aE} {to:TE} {t:TA} {name:Str} {apos cpos:Pos} {T id:String} {r:V->List V->Hp->VK->Prop}
def LN (pa:PlainAttrs T) (slot:Slot T name id) (hty:typeOf (.builtin id) = pure (.type "method_descriptor")) (hm:MtR X id r) (ho:PE X o to)
 (hbase:attributeBase o name X.env (eval o X.env) = eval o X.env:=by rfl) (hline:(apos.endLine == cpos.line) = true:=by rfl):PE X (.Call (.Attribute o name apos) [] [] cpos) (PX X.K T r to):=by
 intro pins s σ H Q I h;refine wpAny_Call_method0_late hbase hline (thn (ho pins s σ H _ I h) λv s1 ⟨x,H1,I1,r1,ty,q1⟩=>?_);obtain ⟨h1,h2⟩:=Dl I1 r1 ty;exact ⟨T,id,pa,slot,hty,h1,h2,wV rfl (PySem.evalArgs_none (hm pins s1 σ H1 x [] v [] Q I1 r1 .nil q1))⟩
def JB (pa:PlainAttrs T) (slot:Slot T name id) (hty:typeOf (.builtin id) = pure (.type "method_descriptor")) (hm:MtR X id r) (ho:PE X o to) (ha:PA X (e::es) t)
 (hbase:attributeBase o name X.env (eval o X.env) = eval o X.env:=by rfl)
 (hfew:((backTo cpos (starEach (e::es) X.env)).all (λx=>!x.1) && (backToKw cpos (keywordEach [] X.env)).all (λx=>x.1.isSome)
   && decide ((e::es).length+([]:List jN).length+(if ([]:List jN).isEmpty then 0 else 1) < 30)) = true:=by rfl)
 (hline:(apos.endLine == cpos.line) = true:=by rfl) (hs:starEach (e::es) X.env = (false,eval e X.env)::starEach es X.env:=by rfl) (hplain:(backTo cpos (starEach es X.env)).any (·.1) = false:=by rfl) :
 PE X (.Call (.Attribute o name apos) (e::es) [] cpos) (tBM X.K T r to t):=by
 intro pins s σ H Q I h;refine wpAny_Call_method_late hbase hfew hline rfl (thn (ho pins s σ H _ I h) λv s1 ⟨x,H1,I1,r1,ty,q1⟩=>?_);obtain ⟨h1,h2⟩:=Dl I1 r1 ty;refine ⟨T,id,pa,slot,hty,h1,h2,?_⟩;have hA:=ha cpos pins s1 σ H1 _ I1 q1;rw [hs] at hA |-;refine wV (by show (false || (backTo cpos (starEach es X.env)).any (·.1)) = false;rw [hplain]<;>rfl) (Calls.evalArgs_plain ?_);exact thn hA λus s2 ⟨vs,H2,I2,r2,q2⟩=>hm pins s2 σ H2 x vs v us Q I2 r1 r2 q2
end
end L2
namespace L2
open PySem PySem.Spec PyProof.Rows
def MtM (X:Cx) (id:String) (r:V->List V->Hp->VK->Prop):Prop :=
 ∀ (pins:List (au × Obj)) (s:ak) (σ:St) (H:Hp) (x:V) (xs:List V) (v:ah) (us:List ah) (Q:VK),Inv X pins σ H s->RelV x v->Vals xs us->r x xs H Q ->
  wpAny (model X.prog X.w) X.A (call (.builtin id) (v::us)) (EP X pins σ Q) X.xe s
def Vals.one:∀ {x:V} {us:List ah},Vals [x] us->∃ u,us = [u]/\RelV x u
 | _,_,.cons r .nil=>⟨_,rfl,r⟩
section
variable {X:Cx} {pins:List (au × Obj)} {σ:St} {H:Hp} {s:ak} {l b:au} {xs ys zs:List V}
def Inv.lset {its its':List ah} {n:Nat} {f:Array ah->Array ah} {t':Nat} (I:Inv X pins σ H s) (hH:H l = some (.lst xs))
 (e:s.heap.get? l = some { cls:=.type "list",data:=.seq its.toArray n }) (hf:f its.toArray = its'.toArray) (hv:Vals ys its') (hz:ys.length<=sizeLine) :
 Inv X pins σ (upd H l (.lst ys)) { s with heap:=s.heap.update l (cg f),toks:=t' }:=by
 have q:=PySem.IsL.update e f;rw [hf] at q;refine I.write (x:=l) (e:=l) (by rw [hH];exact trivial) (.inl rfl) (λb' u hb hu=>(eN s.heap (cg f) (Ne.symm hb)).trans hu) ⟨_,q⟩ ?_;exact ⟨hz,its',_,hv,q⟩
def Inv.lnew (I:Inv X pins σ H s) (hv:Vals ys its) (hz:ys.length<=sizeLine) :
 Inv X pins σ (upd H s.heap.objs.size (.lst ys)) { s with heap:=s.heap.push { cls:=.type "list",data:=.seq its.toArray },toks:=t' } :=
 I.laid (λ_ _ q=>aj _ q) (ax _) ⟨hz,its,0,hv,aH _ rfl⟩
def Inv.fresh (I:Inv X pins σ H s):H s.heap.objs.size = none:=I.hok.fresh (ax _)
def Inv.lstM (I:Inv X pins σ H s) (hH:H l = some (.lst xs)):xs.length<=sizeLine/\∃ (its:List ah) (n:Nat),Vals xs its/\xs.length = its.length/\s.heap.get? l = some { cls:=.type "list",data:=.seq its.toArray n }:=by
 obtain ⟨z,its,n,r,e⟩:=I.hok l _ hH;exact ⟨z,its,n,r,r.length,e⟩
def ET {n:Nat} (h:n<=sizeLine):oV n = false:=by
 unfold oV;exact decide_eq_false ∅
end
section
variable {X:Cx}
def HN:V->List V->Hp->VK->Prop:=λx vs H Q=>∃ l xs y,x = .ref l/\vs = [y]/\H l = some (.lst xs)/\xs.length < sizeLine/\Q .non (upd H l (.lst (xs++[y])))
def sv:MtM X "list.append" HN:=by
 intro pins s σ H x vs v us Q I rx rv h;obtain ⟨l,xs,y,rfl,rfl,hH,hz,q⟩:=h;cases rx;obtain ⟨u,rfl,ru⟩:=rv.one;obtain ⟨z,its,n,r,hl,e⟩:=I.lstM hH;refine yu F.slot_list_append ⟨_,e,rfl⟩ F.entry_list_append (F.args_list_append_2 _ _) (PySem.list_append l its.toArray n u (by rw [aG];lia)) ⟨e,?_⟩;refine ⟨.non,_,I.lset (its':=its++[u]) hH e ↥0 (r.append (.cons ru .nil)) ?_,rfl,q⟩;rw [ag,aU]
 lia
end
section
variable {prog:aQ} {w:bw} {A:bt} {E:ah->ak->Prop} {s:ak}
end
section
variable {X:Cx}
end
end L2
namespace Att
open PySem PySem.W PySem.Calls PyProof.Rows
def oZ:∀ (ns:List Int) (vs:List ah),WellAll P h vs (ns.map WData.int)->GC vs ns:=by
 intro ns
 induction ns with
 | nil =>
   intro vs w;rw [kN] at w;cases w
   exact .nil
 | cons n ns ih =>
   intro vs w;rw [aW] at w
   cases w with
   | cons a b =>
     cases a;exact .cons _ _ (ih _ b)
def Bg {l:OpenLaw} {n:Nat} (hn:l.most = some n) {P:Params} {h:bJ} {args:List WData} {vals:List ah}
 (hpre:l.row.toRowW.claim.pre args = true) (hwl:WellAll P h vals args) :
 ∃ a vs ns,vals = [iZ a]/\args = [WData.list (ns.map WData.int)]/\h.get? a = some { cls:=.type "list",data:=.seq vs.toArray }/\GC vs ns/\ns.length<=n:=by
 have hsh:WShape.hasAll [] args [.list .int] = true:=(pre_splitW hpre).1;have hc:l.pre.holds [] { args:=args } = true:=(pre_splitW hpre).2;obtain ⟨d,r,rfl,h1,h2⟩:=hasAllW_cons hsh;obtain rfl:=hasAllW_nil h2;obtain ⟨xs,rfl,h3⟩:=hasW_list h1;obtain ⟨ns,rfl⟩:=items_int h3
 have hlen:ns.length<=n:=by
  unfold OpenLaw.pre at hc
  have h4:(WTm.not (.lt (.lit (.int (n:Int))) (.len (.arg 0)))).holds [] { args:=[.list (ns.map .int)] } = true:=by
   have h4:=(holds_andW hc).1;rw [hn] at h4;exact h4
  have h5:=condW_of h4 (w_not (w_lt w_lit (w_len_list (w_arg rfl))));rw [ai] at h5;refine Nat.le_of_not_lt λq=>?_;have q':(n:Int) < ((ns.length:Nat):Int):=by lia
  first
   | (rw [decide_eq_true q'] at h5;exact absurd h5 ⇑0)
   | (simp at h5;lia)
 cases hwl with
 | cons w1 w2 =>
   cases w2
   cases w1 with
   | list ho hall=>exact ⟨_,_,ns,rfl,rfl,ho,oZ ns _ hall,hlen⟩
def Bi (l:OpenLaw) (args:List WData):l.row.toRowW.claim.post args (.bool true) args = true :=
 postW_of (r:=l.row.toRowW) (X:=(true == true))
  (show WShape.has [] (.bool true) .bool = true by first | rfl | decide | simp [WShape.has,WShape.arms,WShape.armsAll])
  (show (WTm.eq .res (.lit (.bool true))).value [] { args:=args,res:=some (.bool true),after:=args } = some (.bool (true == true)) from w_eq_bool (w_res rfl) w_lit) rfl
def attach_call {l:OpenLaw} {n:Nat} {q:aQ} {loose:List Str} {XP:(Str->Option ah)->bJ->Prop} {YP:bw->bJ->Prop} {d:DefRec}
 (hn:l.most = some n) (hdf:d.params.defaults = [])
 (call:∀ (w:bw) (s₀ s₁:ak) (mg mb:Str->Option ah) (fa:au) (o:Obj) (pm cd doc:ah) (a:au) (vs:List ah) (ns:List Int),
   Ground q loose [] XP w s₀ mg mb s₁.heap->YP w s₁.heap ->
   s₁.heap.get? fa = some o->o.data = .func (docDef d.name d.params d.body d.scope pm cd doc)->s₁.heap.CodeRec cd d.name->mg d.name = some (.ref fa) ->
   s₁.heap.get? a = some { cls:=.type "list",data:=.seq vs.toArray }->GC vs ns->ns.length<=n->s₁.gens = #[] ->
   codeAny (model l.prog w) callerA (.call (.ref fa) ⟨[.ref a],[]⟩) (λr s'=>r = .ok (.ret (.bool true))/\OldK s₁.heap s'.heap/\s'.os = s₁.os/\mE s'.gens) s₁) :
 WalkO q loose XP YP l.row.toRowW d [] (λf vs=>PySem.call f vs):=by
 intro w s₀ s₁ mg mb G Y fa o pm cd doc dV kV ho hd hcd hD hmg hg args vals as hpre hlay hrd hwl hlo;obtain rfl:dV = .none:=Dflts.none hD hdf;obtain rfl:kV = .none:=Dflts.noKw hD;obtain ⟨a,vs,ns,rfl,rfl,hobj,hints,hlen⟩:=Bg hn hpre hwl;refine enter_call (mz (call w s₀ s₁ mg mb fa o pm cd doc a vs ns G Y ho (fd_plain hd) hcd hmg hobj hints hlen hg) λr s' hq=>?_);obtain ⟨rfl,h2,h3,h4⟩:=hq;exact ⟨.inl ⟨.bool true,.bool true,[],rfl,λ_=>rfl,.bool true,Bi l _,λ_=>⟨List.Pairwise.nil,λ_ hm=>(nomatch hm)⟩⟩,h2,h3,h4⟩
section
variable {prog:aQ} {w:bw} {A:bt} {E:ah->ak->Prop} {s:ak} {K:Frag}
end
end Att
namespace L2
open PySem PySem.Spec PyProof.Rows
def rQ:∀ {vs:List ah} {ns:List Int},GC vs ns->Vals (ns.map V.int) vs
 | _,_,.nil=>.nil
 | _,_,.cons n t h=>.cons ⟨t,rfl⟩ (rQ h)
end L2
namespace L2
open PySem PySem.Spec PyProof.Rows
end L2
namespace L2
open PySem PySem.Spec PyProof.Rows
def eU (s:cR):oX:=match s with
 | .FunctionDef _ a _ _ _ _ _ _ _ _=>a
 | _=>{ posonlyargs:=[],args:=[],vararg:=none,kwonlyargs:=[],kw_defaults:=[],kwarg:=none,defaults:=[] }
def dN (s:cR):List cR:=match s with
 | .FunctionDef _ _ b _ _ _ _ _ _ _=>b
 | _=>[]
def bA (s:cR):eA:=match s with
 | .FunctionDef _ _ _ _ _ _ sc _ _ _=>sc
 | _=>{ kind:=.function,names:=[],isGenerator:=false,isCoroutine:=false }
abbrev CX0:CXT:=λ_ _ _ _ _ _=>False
abbrev E0:XK:=λ_ _ _=>False
def Ew:Passes CX0 X E0:=λ_ _ _ _ _ _ _ h=>h.elim
structure Fun (K:PySem.W.Frag) (x qual:Str) (st:cR) (f:au) (fd:eQ):Prop where
 ex:∃ (oc:ah) (od:Option au) (dV kV doc pm:ah) (an:Option au) (cdv ct:ah) (osl:Array (Option ah)),
  fd = PySem.W.fnOf x qual (eU st) (dN st) (bA st) dV kV doc pm an cdv ct/\K.lookup f = some ⟨oc,od,.func fd,osl⟩/\PySem.W.codeIn K cdv qual = true
 kp:PySem.W.keepIn K (.ref f) = true
section
variable {P:aQ} {w:bw} {K:PySem.W.Frag} {mg:Str->Option ah} {base:bJ}
def ux {x qual:Str} {st:cR} {f:au} {oc:ah} {od an:Option au} {osl:Array (Option ah)} {dV kV doc pm cdv ct:ah} (l:K.lookup f = some ⟨oc,od,.func (PySem.W.fnOf x qual (eU st) (dN st) (bA st) dV kV doc pm an cdv ct),osl⟩)
 (c:PySem.W.codeIn K cdv qual = true) (k:PySem.W.keepIn K (.ref f) = true):Fun K x qual st f (PySem.W.fnOf x qual (eU st) (dN st) (bA st) dV kV doc pm an cdv ct):=⟨⟨oc,od,dV,kV,doc,pm,an,cdv,ct,osl,rfl,l,c⟩,k⟩
end
section
variable {X:Cx}
end
def xX {A B:Prop} (h:B):if false = true then A else B:=by
 rw [if_neg aq];exact h
def By {A B:Prop} (h:A):if true = true then A else B:=by
 rw [if_pos rfl];exact h
def iW (H H':Hp):Prop:=∀ b o,H b = some o->H' b = some o
def iW.refl (H:Hp):iW H H:=λ_ _ h=>h
end L2
end
section
namespace L2
open PySem PySem.Spec PyProof.Rows
section
variable {κ:Type} [DecidableEq κ]
end
section
variable {P:aQ} {w:bw} {H:Hp} {h:bJ} {a:au}
end
section
variable {X:Cx} {pins:List (au × Obj)} {σ:St} {H:Hp} {s:ak} {a:au} {y v:V} {u r:ah} {o:Option V} {A:bt} {E:ah->ak->Prop}
end
section
variable {X:Cx} {pins:List (au × Obj)} {σ:St} {H:Hp} {s:ak} {a:au} {kvs:List (Key × V)} {k:Key} {u:ah} {A:bt} {E:ah->ak->Prop}
end
section
variable {X:Cx} {o i e value:aE} {pos pos' tpos:Pos} {td ty tv:TE}
end
section
variable {X:Cx} {pos:Pos}
end
structure M1 (X:Cx) (o:aE) (m:Str) (apos:Pos) (e:aE) (cpos:Pos):Prop where
 base:attributeBase o m X.env (eval o X.env) = eval o X.env
 few:((backTo cpos (starEach [e] X.env)).all (λx=>!x.1) && (backToKw cpos (keywordEach [] X.env)).all (λx=>x.1.isSome)
  && decide (([e]:List aE).length+([]:List jN).length+(if ([]:List jN).isEmpty then 0 else 1) < 30)) = true
 line:(apos.endLine == cpos.line) = true
 trees:backTo cpos (starEach [e] X.env) = [(false,eval e X.env)]
structure M2 (X:Cx) (o:aE) (m:Str) (apos:Pos) (e f:aE) (cpos:Pos):Prop where
 base:attributeBase o m X.env (eval o X.env) = eval o X.env
 few:((backTo cpos (starEach [e,f] X.env)).all (λx=>!x.1) && (backToKw cpos (keywordEach [] X.env)).all (λx=>x.1.isSome)
  && decide (([e,f]:List aE).length+([]:List jN).length+(if ([]:List jN).isEmpty then 0 else 1) < 30)) = true
 line:(apos.endLine == cpos.line) = true
 trees:backTo cpos (starEach [e,f] X.env) = [(false,eval e X.env),(false,eval f X.env)]
section
variable {X:Cx} {pins:List (au × Obj)} {σ:St} {H:Hp} {s:ak} {a:au} {y d:V} {u r:ah} {o:Option V} {A:bt} {E:ah->ak->Prop}
end
section
variable {X:Cx} {o e f:aE} {apos cpos:Pos} {td ty tx:TE}
end
section
variable {X:Cx} {pins:List (au × Obj)} {σ:St} {H:Hp} {s:ak} {a:au} {kvs:List (Key × V)} {A:bt} {E:ah->ak->Prop}
end
section
variable {X:Cx} {pins:List (au × Obj)} {σ:St} {H:Hp} {s:ak} {a:au} {y:V} {u:ah} {A:bt} {E:ah->ak->Prop}
end
abbrev TU:=St->Hp->(St->Hp->Prop)->Prop
def PU (X:Cx) (m:Sem Unit) (t:TU):Prop :=
 ∀ (pins:List (au × Obj)) (s:ak) (σ:St) (H:Hp) (Q:St->Hp->Prop),Inv X pins σ H s->t σ H Q ->
  wpAny (model X.prog X.w) X.A m (λ_ s'=>∃ σ' H',Inv X pins σ' H' s'/\Q σ' H') X.xe s
def PTs (X:Cx) (ifs:List aE) (t:TT):Prop :=
 ∀ (pins:List (au × Obj)) (s:ak) (σ:St) (H:Hp) (Q:Bool->Hp->Prop),Inv X pins σ H s->t σ H Q ->
  wpAny (model X.prog X.w) X.A (forIn ifs true λc r=>if r = true then do let ok <- isTrue c X.env (eval c X.env);pure (jP ok) else pure (jP r)) (TP X pins σ Q) X.xe s
section
variable {X:Cx}
def yY:PTs X [] (λ_ H Q=>Q true H):=λpins s σ H Q I h=>wpAny_tests_nil ⟨H,I,h⟩
def HQ (hc:PT X c t):PTs X [c] t:=λpins s σ H Q I h=>wpAny_tests_one (hc pins s σ H Q I h)
def tLp (J:It) (g:TG) (tt:TT) (tb:TU):TU:=λσ H Q=>∃ W:Nat->Nat->St->Hp->Prop,(∃ m,W 0 m σ H)/\∀ i m σ H,W i m σ H ->
 (J.stop i H/\Q σ H)\/(J.go i H/\∀ x H',J.yld i H x H'->g x σ H' λσ2 H2=>tt σ2 H2 λb H3 =>
   if b = true then tb σ2 H3 λσ4 H4=>∃ m',m' < m/\W (i+1) m' σ4 H4 else ∃ m',m' < m/\W (i+1) m' σ2 H3)
def zT
 (hx:X.xe = λ_ _=>False) (hc:X.calm = true)
 (hq:(Code.compLoop e d (.ref it) acc X.env).quiet = true)
 (hden:(model X.prog X.w).den (.compLoop e d (.ref it) acc X.env) = (compTurn e d (.ref it) acc X.env).onRaise (λx=>do noteFrame x X.env;theTreesLotGoes x))
 (hund:X.A.under (.compLoop e d (.ref it) acc X.env) = X.A)
 (hturn:compTurn e d (.ref it) acc X.env = (do
   standAt ip
   match <- pyNext (.ref it) with
   | none=>pure (.done .next)
   | some v =>
     letOwnedTupleGo tg (.ref it) v
     assign tg X.env v
     let mut ok:=true
     for c in ifs do
      if ok then ok <- isTrue c X.env (eval c X.env)
     if ok then body
     again (.compLoop e d (.ref it) acc X.env)))
 (T:Turn X.prog X.w X.K tg J fp it tn) (hg:PG X tg g) (ht:PTs X ifs tt) (hb:PU X body tb) {R:yw->ak->Prop}
 {pins:List (au × Obj)} {s:ak} {σ:St} {H:Hp} {Q:St->Hp->Prop} (I:Inv X pins σ H s) (st:tn 0 s.heap) (f:∀ b∈fp,kB X pins H b) (h:tLp J g tt tb σ H Q)
 (hR:∀ s' σ' H',Inv X pins σ' H' s'->Q σ' H'->R (.ok .next) s'):codeAny (model X.prog X.w) X.A (.compLoop e d (.ref it) acc X.env) R s:=by
 obtain ⟨W,⟨m0,w0⟩,turn⟩:=h;have stat:∀ {H':Hp},(∀ b∈fp,H' b = none)->∀ b∈fp,kB X pins H' b:=λhn b hb=>⟨hn b hb,(f b hb).2⟩;refine codeAny_loop hq (λn s'=>∃ i σ' H',Inv X pins σ' H' s'/\tn i s'.heap/\(∀ b∈fp,H' b = none)/\W i n σ' H') ?_ m0 ⟨0,σ,H,I,st,λb hb=>(f b hb).1,w0⟩;rintro n s3 ⟨i,σ3,H3,I3,st3,fr3,w3⟩;rw [hden,hund,hturn];refine wpAny_noted ?_
 have cut:∀ {α:Type} {m:Sem α} {Q:α->ak->Prop} {s:ak} {E':ah->ak->Prop},wpAny (model X.prog X.w) X.A m Q X.xe s->wpAny (model X.prog X.w) X.A m Q E' s:=λz=>by
  rw [hx] at z;exact wpAny_noRaise z
 refine ab (fE (ab ?_));rcases turn i n σ3 H3 w3 with ⟨stop,qn⟩ | ⟨go,step⟩
 . refine cut (thn (T.done X rfl rfl rfl hc i pins s3 σ3 H3 X.xe I3 (stat fr3) st3 stop) λr s4 ⟨hr,I4⟩=>?_);subst hr;exact ay (hR s4 σ3 H3 I4 qn)
 . refine cut (thn (T.item X rfl rfl rfl hc i pins s3 σ3 H3 X.xe I3 (stat fr3) st3 go) λr s4 ⟨u,hr,h4⟩=>?_);subst hr;refine ab (cut (thn h4 λ_ s5 ⟨x,H5,I5,r5,y5,st5,fr5⟩=>?_));have I5':=I5.pinned (stat fr5) (T.obj _ _ st5);refine ab (cut (thn (hg _ s5 σ3 H5 x u _ I5' r5 (step x H5 y5)) λ_ s6 ⟨σ6,H6,I6,q6⟩=>?_))
   have again:∀ {σ7:St} {H7:Hp} {s7:ak},Inv X (pins++qB fp s5.heap) σ7 H7 s7->(∃ m',m' < n/\W (i+1) m' σ7 H7)->∃ m,m < n/\∃ i σ' H',Inv X pins σ' H' s7/\tn i s7.heap/\(∀ b∈fp,H' b = none)/\W i m σ' H':=λ{σ7 H7 s7} I7 n7=>by
    obtain ⟨m',hm,w7⟩:=n7;refine ⟨m',hm,i+1,σ7,H7,I7.unpinned,T.keep _ _ _ st5 λb hb o e=>(I7.pin (b,o) (aM _ (aM _ (ka hb e)))).1,λb hb=>?_,w7⟩;obtain ⟨o,e,d⟩:=T.obj _ _ st5 b hb;exact (I7.pin (b,o) (aM _ (aM _ (ka hb e)))).2.1
   refine ab (cut (thn (ht _ s6 σ6 H6 _ I6 q6) λok s7 ⟨H7,I7,q7⟩=>?_))
   cases ok with
   | false =>
     rw [if_neg aq] at q7
     exact ay ⟨rfl,again I7 q7⟩
   | true =>
     rw [if_pos rfl] at q7;refine ab (cut (thn (hb _ s7 σ6 H7 _ I7 q7) λ_ s8 ⟨σ8,H8,I8,q8⟩=>?_));exact ay ⟨rfl,again I8 q8⟩
end
def ij (env:Env):List (Str × kE)->List (Str × au)->List (Str × au)
 | [],cs=>cs
 | (n,k)::r,cs=>ij env r (if k == .free then (n,(env.cells.lookup n).getD 0)::cs else cs)
def zU:∀ (names:List (Str × kE)) (cs:List (Str × au)),(∀ x,(x,bT)∈names->∃ c,env.cells.lookup x = some c) ->
 (forIn names cs λx r=>match x with | (name,kind)=>(do
   if (kind == bT) = true then do
    let y <- cellOf env name
    pure (jP ((name,y)::r))
   else pure (jP r):Sem (ForInStep (List (Str × au))))) = (pure (ij env names cs):Sem (List (Str × au)))
 | [],cs,_=>rfl
 | (n,k)::r,cs,h=>by
   have ih:=λcs=>zU (env:=env) r cs λx hx=>h x (ao _ hx);rw [rh];by_cases hk:k = .free
   . subst hk;obtain ⟨c,e⟩:=h n ar;have e2:cellOf env n = pure c:=by unfold cellOf;rw [e]
     simp only [beq_self_eq_true,if_true,e2,pure_bind,ij,e,Cd];exact ih _
   . have hb:(k == bT) = false:=by simpa using hk
     simp only [hb,bq,if_false,pure_bind,ij];exact ih _
def ye (h:∀ x,(x,bT)∈scope.names->∃ c,env.cells.lookup x = some c):closureFor scope env = pure (ij env scope.names []):=by
 have q:=zU (env:=env) scope.names [] h;unfold closureFor;rw [<- bind_pure (pure (ij env scope.names []):Sem _),<- q]
def uE:∀ (names:List (Str × kE)) (cs:List (Str × au)),(∀ x,(x,bT)∈names->∃ c,env.cells.lookup x = some c)->∀ p∈ij env names cs,p∈cs\/env.cells.lookup p.1 = some p.2
 | [],cs,_,p,hp=>.inl hp
 | (n,k)::r,cs,h,p,hp=>by
   unfold ij at hp;have ih:=uE (env:=env) r _ (λx hx=>h x (ao _ hx)) p hp;rcases ih with ih | ih
   . by_cases hk:k = .free
     . subst hk;rw [if_pos ↥0] at ih;rcases az.mp ih with rfl | ih
       . obtain ⟨c,e⟩:=h n ar;right;rw [e];rfl
       . exact .inl ih
     . rw [if_neg (by simpa using hk)] at ih;exact .inl ih
   . exact .inr ih
def uF:∀ (names:List (Str × kE)) (cs:List (Str × au)) (x:Str),((x,bT)∈names\/∃ c,(x,c)∈cs)->∃ c,(x,c)∈ij env names cs
 | [],cs,x,h=>by
   rcases h with h | h
   . cases h
   . exact h
 | (n,k)::r,cs,x,h=>by
   unfold ij;refine uF (env:=env) r _ x ?_;rcases h with h | ⟨c,h⟩
   . rcases az.mp h with e | h
     . cases e;right;rw [if_pos ↥0];exact ⟨_,ar⟩
     . exact .inl h
   . right;split
     . exact ⟨c,ao _ h⟩
     . exact ⟨c,h⟩
def ju {α:Type}:∀ {l:List (Str × α)} {x:Str} {c:α},(x,c)∈l->∃ d,l.lookup x = some d
 | [],_,_,h=>by cases h
 | (y,d)::r,x,c,h=>by
   rw [bW]
   cases e:x == y with
   | true=>exact ⟨d,rfl⟩
   | false =>
     rcases az.mp h with q | q
     . cases q;simp at e
     . exact ju q
structure oH (X:Cx) (scope:eA):Prop where
 kind:scope.kind = .function
 nocell:∀ y∈scope.names,y.2≠.cell
 names:∀ y∈scope.names,y.2 = .local->scope.names.lookup y.1 = some .local
 free:∀ x,(x,bT)∈scope.names->X.env.kindOf x = some .cell\/X.env.kindOf x = some .free
def cxC (X:Cx) (scope:eA) (cl:List (Str × au)) (C:au) (Nc:List Str) (s:ak) (H:Hp) (fp:List au):Cx :=
 { X with N:=Nc,s₀:=s,H₀:=H,env:=compEnvC scope cl C X.env,outer:=X.stack,ex:=fp,fn:=λ_=>false,pn:=[],xe:=λ_ _=>False }
def iP {scope:eA} {env:Env}:∀ (names:List (Str × kE)) (x:Str),
 (names.map λ(n,k)=>if (k == bT && env.scope.kind == .function && env.kindOf n == some .cell) then (n,lP) else (n,k)).lookup x =
   (names.lookup x).map λk=>if (k == bT && env.scope.kind == .function && env.kindOf x == some .cell) then lP else k
 | [],x=>rfl
 | (n,k)::r,x=>by
   have ih:=iP (scope:=scope) (env:=env) r x;rw [aW]
   cases hx:x == n with
   | true =>
     have e:x = n:=by simpa using hx
     subst e;by_cases hc:(k == bT && env.scope.kind == .function && env.kindOf x == some .cell) = true
     . simp only [hc,if_true,bW,beq_self_eq_true,dq]
     . simp only [hc,if_false,bW,beq_self_eq_true,dq,bq]
   | false =>
     by_cases hc:(k == bT && env.scope.kind == .function && env.kindOf n == some .cell) = true
     . simp only [hc,if_true,bW,hx];exact ih
     . simp only [hc,if_false,bW,hx,bq];exact ih
def oC {scope:eA} {env:Env} {cl:List (Str × au)} {C:au} (x:Str):(compEnvC scope cl C env).kindOf x =
 (scope.names.lookup x).map λk=>if (k == bT && env.scope.kind == .function && env.kindOf x == some .cell) then lP else k:=iP (scope:=scope) (env:=env) scope.names x
def rH (nc:∀ y∈scope.names,y.2≠.cell) (h:(compEnvC scope cl C env).kindOf x = some .cell\/(compEnvC scope cl C env).kindOf x = some .free) :
 scope.names.lookup x = some .free:=by
 rw [oC] at h
 cases e:scope.names.lookup x with
 | none=>rw [e] at h;simp at h
 | some k =>
   rw [e] at h;have hm:=PySem.mem_of_lookup e;have:=nc _ hm;simp only [dq] at h;cases k<;>simp_all
def oy {X:Cx} {scope:eA} {C:au} {Nc:List Str} {s:ak} {h1:bJ} {t1:Nat} {H:Hp} {fp:List au} {pins:List (au × Obj)} {σ:St}
 (S:oH X scope) (I:Inv X pins σ H s) (hf:∀ b∈fp,kB X pins H b) (hfl:∀ b∈fp,b < s.heap.objs.size) (hC:C = s.heap.objs.size) (hns:h1.Ns C λ_=>none) (hk:∀ b o,s.heap.get? b = some o->h1.get? b = some o)
 (hN:∀ i x,i < X.N.length->Nc[i]? = some x->Vis scope x->X.N[i]? = some x/\scope.names.lookup x = some .free) (hl:X.N.length<=Nc.length) :
 Inv (cxC X scope (ij X.env scope.names []) C Nc s H fp) [] (σ++aO (Nc.length - X.N.length) none) H { s with heap:=h1,toks:=t1 }:=by
 have hcl:∀ x,(x,bT)∈scope.names->∃ c,X.env.cells.lookup x = some c:=λx hx=>I.ok.has x (S.free x hx)
 have hlk:∀ x c,(ij X.env scope.names []).lookup x = some c->X.env.cells.lookup x = some c:=λx c e=>by
  have:=uE scope.names [] hcl _ (PySem.mem_of_lookup e);rcases this with z | z
  . cases z
  . exact z
 subst hC
 have neC:∀ x c,(ij X.env scope.names []).lookup x = some c->c < s.heap.objs.size:=λx c e=>by
  obtain ⟨v,z⟩:=I.cell x c (hlk x c e);exact z.lt
 refine ⟨⟨I.ok.mod,S.kind,I.ok.glob,I.ok.blt,ax _,λx y c e1 e2=>I.ok.inj x y c (hlk x c e1) (hlk y c e2),λx hx=>?_,λx c z _=>absurd z aq,I.ok.hd,I.ok.frames,.inl rfl,λb hb=>⟨aR (hfl b hb),λx c e=>(hf b hb).2.2.2.2.1 x c (hlk x c e)⟩,
  I.bs,aS I.ok.bsz I.sz,λb o e hb=>?_,λb hb hz=>?_,I.stack,I.stkFree⟩,rfl,I.bare,Un.kept hk,⟨_,hns,λi x v e1 e2 e3=>?_⟩,λx c e=>?_,I.hok.fresh (ax _),λx c e=>I.freeC x c (hlk x c e),λp hp=>absurd (show p∈([]:List (au × Obj)) from hp) ↥0,I.hok.kept hk,?_⟩
 . have q:=rH (cl:=ij X.env scope.names []) (C:=s.heap.objs.size) S.nocell hx;obtain ⟨c,hm⟩:=uF (env:=X.env) scope.names [] x (.inl (PySem.mem_of_lookup q));exact ju hm
 . obtain ⟨_,_,_,f3,_⟩:=hf b hb;rcases f3 with z | z
   . exact I.ok.noex b o e z
   . exact absurd (ba (aC e) (aS I.ok.bsz z)) (cC _)
 . obtain ⟨_,f1,f2,_⟩:=hf b hb;rcases az.mp (I.stkSub b hz) with q | q
   . exact f1 q
   . exact f2 q
 . have e1:Nc[i]? = some x:=e1
   have hi:i < X.N.length:=by
    by_cases hi:i < X.N.length
    . exact hi
    . rw [bB (by rw [I.len];omega),du] at e2;split at e2<;>cases e2
   rw [bh (by rw [I.len];exact hi)] at e2
   have vis:Vis scope x:=by
    have e3:Vis (relabel scope X.env) x:=e3;unfold Vis relabel at e3;rw [iP (scope:=scope)] at e3;unfold Vis
    cases q:scope.names.lookup x with
    | none=>rw [q] at e3;simp at e3
    | some k =>
      rw [q] at e3;simp only [dq] at e3;have:=S.nocell _ (PySem.mem_of_lookup q);cases k<;>simp_all
   obtain ⟨n1,n2⟩:=hN i x hi e1 vis;obtain ⟨m,hn,hl'⟩:=I.loc;have kd:=S.free x (PySem.mem_of_lookup n2)
   have visX:Vis X.env.scope x:=by
    rcases kd with z | z
    . exact .inr (.inl z)
    . exact .inr (.inr z)
   obtain ⟨u,r,l⟩:=hl' i x v n1 e2 visX;refine ⟨u,r,.inr ?_⟩;rcases l with ⟨k,_⟩ | ⟨k,c,ec,z⟩
   . rcases kd with z | z
     . rw [z] at k;cases k
     . rw [z] at k;cases k
   . obtain ⟨c',hm⟩:=uF (env:=X.env) scope.names [] x (.inl (PySem.mem_of_lookup n2));obtain ⟨c2,hc2⟩:=ju hm;have:=hlk x c2 hc2;rw [ec] at this;cases this;refine ⟨?_,c,hc2,?_⟩
     . show (compEnvC scope (ij X.env scope.names []) s.heap.objs.size X.env).kindOf x = some .cell\/(compEnvC scope (ij X.env scope.names []) s.heap.objs.size X.env).kindOf x = some .free;rw [oC,n2];simp only [dq];split
       . exact .inl rfl
       . exact .inr rfl
     . obtain ⟨o,ho,hd⟩:=z;exact ⟨o,hk _ _ ho,hd⟩
 . obtain ⟨v,o,ho,hd⟩:=I.cell x c (hlk x c e);exact ⟨v,o,hk _ _ ho,hd⟩
 . show _ = Nc.length;rw [ag,dI,I.len];omega
def Ds (D:au) (te:TE):TU:=λσ H Q=>te σ H λy H'=>∃ xs,H' D = some (.lst xs)/\xs.length < sizeLine/\Q σ (upd H' D (.lst (xs++[y])))
def yX (he:PE X elt te):PU X (do let _ <- call (.builtin "list.append") [.ref D,<- eval elt X.env]) (Ds D te):=by
 intro pins s σ H Q I h;refine ab (thn (he pins s σ H _ I h) λu s1 ⟨y,H1,I1,r1,xs,hD,hz,q⟩=>?_);refine ab (thn (sv pins s1 σ H1 (.ref D) [y] (.ref D) [u] (λ_ H'=>Q σ H') I1 rfl (.cons r1 .nil) ⟨D,xs,y,rfl,rfl,hD,hz,q⟩) λ_ s2 ⟨_,H2,I2,_,q2⟩=>?_);exact ay ⟨σ,H2,I2,q2⟩
def tLC (k:Nat) (wi:TI) (g:TG) (tt:TT) (te:TE):TE:=λσ H Q=>wi σ H λJ H1=>∀ D,H1 D = none ->
 tLp J g tt (Ds D te) (σ++aO k none) (upd H1 D (.lst [])) λ_ H2=>Q (.ref D) H2
def mn
 (I:Inv X pins σ H s) (hf:∀ b∈fp,kB X pins H b) (hC:C = s.heap.objs.size) (J:Inv (cxC X scope cl C Nc s H fp) [] σ' H' s') (hs:fN C s'.heap h2):Inv X pins σ H' { s' with heap:=h2 }:=by
 have hok:HOk X.prog X.w H' h2:=λb ob e=>by
  refine (J.hok b ob e).stay (λc w' hc q=>(hs.2 c ?_).trans q) (λ_ q=>q) λ_ _ q=>q;rintro rfl;have fr:H' c = none:=J.free;rcases hc with rfl | hc
  . rw [fr] at e;cases e
  . rw [fr] at hc;cases hc
 have neC:∀ b o,s.heap.get? b = some o->b≠C:=λb o e=>by rw [hC];exact aR (aC e)
 refine I.call' (s':={ s' with heap:=h2 }) (ch:=fp) J.os ⟨λb o e n hb hx=>?_,λb o e n hb hx=>?_,λb o e n hx=>J.base.free b o e n hx,λb o e hx=>?_,J.base.tups,J.base.frzs,J.base.tbls⟩ hok J.bare λb hb=>?_
 . exact (hs.2 b (neC b o e)).trans (J.base.keep b o e n hb hx)
 . obtain ⟨sl,z⟩:=J.base.slot b o e n hb hx;exact ⟨sl,(hs.2 b (neC b o e)).trans z⟩
 . obtain ⟨o',z⟩:=J.base.there b o e hx;exact ⟨o',(hs.2 b (neC b o e)).trans z⟩
 . obtain ⟨f0,f1,f2,f3,f4,f5⟩:=hf b hb;exact ⟨f3,f1,f4,f5⟩
def mq
 (S:oH X scope) (I:Inv X pins σ H s) (hf:∀ b∈fp,kB X pins H b) (hfl:∀ b∈fp,b < s.heap.objs.size) (hC:C = s.heap.objs.size) (hn:∀ b∈fp,H' b = none) :
 ∀ b∈fp,kB (cxC X scope (ij X.env scope.names []) C Nc s H fp) [] H' b:=λb hb=>by
 have hcl:∀ x,(x,bT)∈scope.names->∃ c,X.env.cells.lookup x = some c:=λx hx=>I.ok.has x (S.free x hx);obtain ⟨f0,f1,f2,f3,f4,f5⟩:=hf b hb;refine ⟨hn b hb,?_,λz=>?_,.inl hb,λx c e=>?_,λp hp=>absurd (show p∈([]:List (au × Obj)) from hp) ↥0⟩
 . show b≠C;rw [hC];exact aR (hfl b hb)
 . rcases az.mp (I.stkSub b z) with q | q
   . exact f1 q
   . exact f2 q
 . have:=uE scope.names [] hcl _ (PySem.mem_of_lookup e);rcases this with z | z
   . cases z
   . exact f4 x c z
def Et
 (hx:X.xe = λ_ _=>False) (hc:X.calm = true) (S:oH X scope) (hN:∀ i x,i < X.N.length->Nc[i]? = some x->Vis scope x->X.N[i]? = some x/\scope.names.lookup x = some .free) (hl:X.N.length<=Nc.length)
 (hi:PI X tg iter wi) (hg:∀ cl C s H fp,PG (cxC X scope cl C Nc s H fp) tg g) (ht:∀ cl C s H fp,PTs (cxC X scope cl C Nc s H fp) ifs tt) (he:∀ cl C s H fp,PE (cxC X scope cl C Nc s H fp) elt te)
 (hs:∀ x,foldedSetIterable iter X.env x = pure x):PE X (.ListComp elt [⟨tg,iter,ifs,0⟩] scope pos) (tLC (Nc.length - X.N.length) wi g tt te):=by
 intro pins s σ H Q I h;rw [eval_ListComp]
 have cutE:∀ {α:Type} {m:Sem α} {Q:α->ak->Prop} {s:ak} {E':ah->ak->Prop},wpAny (model X.prog X.w) X.A m Q X.xe s->wpAny (model X.prog X.w) X.A m Q E' s:=λz=>by
  rw [hx] at z;exact wpAny_noRaise z
 refine lg (use:=none) rfl hs (ye λx hz=>I.ok.has x (S.free x hz)) S.kind S.names (thn (hi pins s σ H _ I h) λv s1 h1=>thn h1 λitv s2 h2=>?_);obtain ⟨it,fp,tn,J,H2,e,I2,T,st2,f2,q⟩:=h2;subst e;refine bu (hd:=by size_fits) ?_;have hfr:=I2.fresh;have I3:Inv X pins σ (upd H2 s2.heap.objs.size (.lst [])) { s2 with heap:=s2.heap.push { cls:=.type "list",data:=.seq ([]:List ah).toArray } }:=I2.lnew (t':=s2.toks) (its:=[]) .nil (cT _);have st3:tn 0 (s2.heap.push { cls:=.type "list",data:=.seq ([]:List ah).toArray }):=T.keep _ _ _ st2 λb _ o e=>aj _ e
 have fl3:∀ b∈fp,b < s2.heap.objs.size:=λb hb=>by
  obtain ⟨o,e,_⟩:=T.obj _ _ st2 b hb;exact aC e
 have ne3:∀ b∈fp,upd H2 s2.heap.objs.size (.lst []) b = none:=λb hb=>by rw [bx (aR (fl3 b hb))];exact (f2 b hb).1
 have f3:∀ b∈fp,kB X pins (upd H2 s2.heap.objs.size (.lst [])) b:=λb hb=>⟨ne3 b hb,(f2 b hb).2⟩;have q3:=q s2.heap.objs.size hfr;generalize hH3:upd H2 s2.heap.objs.size (.lst []) = H3 at I3 ne3 f3 q3;generalize hs3:({ s2 with heap:=s2.heap.push { cls:=.type "list",data:=.seq ([]:List ah).toArray } }:ak) = s3 at I3;have hs3h:s3.heap = s2.heap.push { cls:=.type "list",data:=.seq ([]:List ah).toArray }:=by rw [<- hs3]
 rw [<- hs3h] at st3;have fl4:∀ b∈fp,b < s3.heap.objs.size:=λb hb=>by rw [hs3h,bH];exact bP (fl3 b hb)
 refine jb S.nocell (by intro y hy;simp at hy) (λh1 hns hsb=>?_) S.kind;have keep1:∀ b o,s3.heap.get? b = some o->h1.get? b = some o:=λb o e=>hsb.extBut b o (aR (aC e)) (aj _ e);have J0:=oy (h1:=h1) (t1:=s3.toks+([]:List (Str × ah)).length) S I3 f3 fl4 rfl (by simpa using hns) keep1 hN hl;have st4:tn 0 h1:=T.keep _ _ _ st3 λb _ o e=>keep1 b o e
 have loop:∀ s4:ak,s4 = { s3 with heap:=h1,toks:=s3.toks+([]:List (Str × ah)).length } ->
  codeAny (model X.prog X.w) X.A (.compLoop (.ListComp elt [⟨tg,iter,ifs,0⟩] scope pos) 0 (.ref it) (.ref s2.heap.objs.size) (compEnvC scope (ij X.env scope.names []) s3.heap.objs.size X.env))
   (compPost (model X.prog X.w) X.A X.xe none (EP X pins σ Q) (.ref s2.heap.objs.size) s3.heap.objs.size) s4:=by
  rintro s4 rfl
  refine zT (X:=cxC X scope (ij X.env scope.names []) s3.heap.objs.size Nc s3 H3 fp) (ip:=iter.pos) (body:=(do let _ <- call (.builtin "list.append") [.ref s2.heap.objs.size,<- eval elt (compEnvC scope (ij X.env scope.names []) s3.heap.objs.size X.env)]))
   rfl hc rfl rfl rfl (by rw [compTurn_list]<;>rfl) T (hg _ _ _ _ _) (ht _ _ _ _ _) (yX (he _ _ _ _ _)) J0 st4 (mq S I3 f3 fl4 rfl ne3) q3 ?_
  intro s' σ' H' J' q';obtain ⟨m,hn,_⟩:=J'.loc;exact ⟨m,hn,λh2 hs2=>⟨.ref s2.heap.objs.size,H',mn I3 f3 rfl J' hs2,rfl,q'⟩⟩
 exact Gz (loop _ rfl) (T.self _ _ _ _ _ st4 (loop _ rfl))
def Ei
 (hx:X.xe = λ_ _=>False) (hc:X.calm = true) (S:oH X scope) (hN:∀ i x,i < X.N.length->Nc[i]? = some x->Vis scope x->X.N[i]? = some x/\scope.names.lookup x = some .free) (hl:X.N.length<=Nc.length)
 (hi:PI X tg iter wi) (hg:∀ cl C s H fp,PG (cxC X scope cl C Nc s H fp) tg g) (ht:∀ cl C s H fp,PTs (cxC X scope cl C Nc s H fp) ifs tt) (he:∀ cl C s H fp,PE (cxC X scope cl C Nc s H fp) elt te)
 (hs:∀ x,foldedSetIterable iter X.env x = pure x)
 (hNd:X.N.Nodup) (hy:X.N[i]? = some y) (hv:Loc X.env.scope y) (hf:X.fn y = true\/X.env.scope.names.lookup y = some .local)
 (hsw:swapsWith (.ListComp elt [⟨tg,iter,ifs,0⟩] scope pos) (some (.Name y py)) spos.line X.env = pure true) :
 PS X (.Assign [.Name y py] (.ListComp elt [⟨tg,iter,ifs,0⟩] scope pos) spos) (Hh (tLC (Nc.length - X.N.length) wi g tt te) (vW i)):=by
 intro pins s σ H Q I h;rw [exec_Assign_Name_used _ _ _ _ hsw];refine ab (fE (ab ?_));show wpAny _ X.A (do let _ <- comprehension (.ListComp elt [⟨tg,iter,ifs,0⟩] scope pos) scope X.env _ (newList []) false (eval iter X.env) (some (assign (.Name y py) X.env))) _ _ s
 refine ab (iY (lg (use:=some (assign (.Name y py) X.env)) (Q:=λ_ s'=>SP X pins Q .next s') rfl hs (ye λx hz=>I.ok.has x (S.free x hz)) S.kind S.names
  (thn (hi pins s σ H _ I h) λv s1 h1=>thn h1 λitv s2 h2=>?_)) (λ_ s' hq=>ay (ay hq)) λ_ _ e=>e)
 obtain ⟨it,fp,tn,J,H2,e,I2,T,st2,f2,q⟩:=h2;subst e;refine bu (hd:=by size_fits) ?_;have hfr:=I2.fresh;have I3:Inv X pins σ (upd H2 s2.heap.objs.size (.lst [])) { s2 with heap:=s2.heap.push { cls:=.type "list",data:=.seq ([]:List ah).toArray } }:=I2.lnew (t':=s2.toks) (its:=[]) .nil (cT _);have st3:tn 0 (s2.heap.push { cls:=.type "list",data:=.seq ([]:List ah).toArray }):=T.keep _ _ _ st2 λb _ o e=>aj _ e
 have fl3:∀ b∈fp,b < s2.heap.objs.size:=λb hb=>by
  obtain ⟨o,e,_⟩:=T.obj _ _ st2 b hb;exact aC e
 have ne3:∀ b∈fp,upd H2 s2.heap.objs.size (.lst []) b = none:=λb hb=>by rw [bx (aR (fl3 b hb))];exact (f2 b hb).1
 have f3:∀ b∈fp,kB X pins (upd H2 s2.heap.objs.size (.lst [])) b:=λb hb=>⟨ne3 b hb,(f2 b hb).2⟩;have q3:=q s2.heap.objs.size hfr;generalize hH3:upd H2 s2.heap.objs.size (.lst []) = H3 at I3 ne3 f3 q3;generalize hs3:({ s2 with heap:=s2.heap.push { cls:=.type "list",data:=.seq ([]:List ah).toArray } }:ak) = s3 at I3;have hs3h:s3.heap = s2.heap.push { cls:=.type "list",data:=.seq ([]:List ah).toArray }:=by rw [<- hs3]
 rw [<- hs3h] at st3;have fl4:∀ b∈fp,b < s3.heap.objs.size:=λb hb=>by rw [hs3h,bH];exact bP (fl3 b hb)
 refine jb S.nocell (by intro y hy;simp at hy) (λh1 hns hsb=>?_) S.kind;have keep1:∀ b o,s3.heap.get? b = some o->h1.get? b = some o:=λb o e=>hsb.extBut b o (aR (aC e)) (aj _ e);have J0:=oy (h1:=h1) (t1:=s3.toks+([]:List (Str × ah)).length) S I3 f3 fl4 rfl (by simpa using hns) keep1 hN hl;have st4:tn 0 h1:=T.keep _ _ _ st3 λb _ o e=>keep1 b o e
 have loop:∀ s4:ak,s4 = { s3 with heap:=h1,toks:=s3.toks+([]:List (Str × ah)).length } ->
  codeAny (model X.prog X.w) X.A (.compLoop (.ListComp elt [⟨tg,iter,ifs,0⟩] scope pos) 0 (.ref it) (.ref s2.heap.objs.size) (compEnvC scope (ij X.env scope.names []) s3.heap.objs.size X.env))
   (compPost (model X.prog X.w) X.A X.xe (some (assign (.Name y py) X.env)) (λ_ s'=>SP X pins Q .next s') (.ref s2.heap.objs.size) s3.heap.objs.size) s4:=by
  rintro s4 rfl
  refine zT (X:=cxC X scope (ij X.env scope.names []) s3.heap.objs.size Nc s3 H3 fp) (ip:=iter.pos) (body:=(do let _ <- call (.builtin "list.append") [.ref s2.heap.objs.size,<- eval elt (compEnvC scope (ij X.env scope.names []) s3.heap.objs.size X.env)]))
   rfl hc rfl rfl rfl (by rw [compTurn_list]<;>rfl) T (hg _ _ _ _ _) (ht _ _ _ _ _) (yX (he _ _ _ _ _)) J0 st4 (mq S I3 f3 fl4 rfl ne3) q3 ?_
  intro s' σ' H' J' q';have hC:H' s3.heap.objs.size = none:=J'.free;obtain ⟨m,hn,_⟩:=J'.loc;have hn:s'.heap.Ns s3.heap.objs.size m:=hn
  -- the frame's state,the block's own names still there
  have I4:Inv X pins σ H' s':=mn I3 f3 rfl J' (uT _ _);obtain ⟨oc,es,ep,ho,hd,hr⟩:=id hn;have above:X.s₀.heap.objs.size<=s3.heap.objs.size:=I3.sz;have hL:s3.heap.objs.size≠X.env.locals:=fR I3.lt;have hfs:s3.heap.objs.size∉X.fs:=I3.nofs (ax _)
  have I5:Inv X (pins++[(s3.heap.objs.size,oc)]) σ H' s':=I4.pins_of λp hp=>by
   rcases aA.mp hp with hp | hp
   . exact I4.pin p (aM _ hp)
   . have:p = (s3.heap.objs.size,oc):=by simpa using hp
     subst this;exact ⟨ho,hC,hL,hfs,λv z=>by rw [hd] at z;cases z⟩
  show wpAny _ _ (assign (.Name y py) X.env (.ref s2.heap.objs.size)) _ _ _;refine NA (jy (v:=.ref s2.heap.objs.size) I5 hNd hy hv rfl (λs5 I6=>?_) hf);have hp6:=I6.pin (s3.heap.objs.size,oc) (aM _ (aM _ ↥0));refine ⟨m,⟨oc,es,ep,hp6.1,hd,hr⟩,λh' hsb'=>?_⟩;have I7:Inv X pins (σ.set i (some (.ref s2.heap.objs.size))) H' s5:=I6.unpinned;refine ⟨_,H',I7.turned (h':=h') (t':=s5.toks) (it:=s3.heap.objs.size) (λb o hb e=>(hsb'.2 b hb).trans e) hC hL (.inr above) (λx c e z=>?_) (λp hp z=>?_),q'⟩
  . obtain ⟨v,o,hoc,hdc⟩:=I3.cell x c e;have:=aC hoc;rw [z] at this;exact absurd this (cC _)
  . have hq:=(I3.pin p hp).1;have:=aC hq;rw [z] at this;exact absurd this (cC _)
 exact Gz (loop _ rfl) (T.self _ _ _ _ _ st4 (loop _ rfl))
section
variable {X:Cx}
def Qj:V->Option Int->Option Int->Hp->VK->Prop:=λx lo hi H Q=>∃ t,x = .str t/\t.length<=sizeLine/\Q (.str (Txt.slice t lo hi)) H
def part_of {v:ah} {lo:Option Int} (h:rg v lo):∃ l:Option (Int × Tok),v = partValue l/\l.map (·.1) = lo:=by
 cases h with
 | none=>exact ⟨none,rfl,rfl⟩
 | int i t=>exact ⟨some (i,t),rfl,rfl⟩
def Lf:SlR X Qj:=by
 intro pins s σ H x v vl vu lo hi sl Q I rx hs pl pu h;obtain ⟨t,rfl,hz,q⟩:=h;obtain ⟨k,rfl⟩:=rx;obtain ⟨l,rfl,rfl⟩:=part_of pl;obtain ⟨u,rfl,rfl⟩:=part_of pu;refine ⟨"str",_,PySem.F.slot_str_getitem.lookup,yq _ _ _,wpAny_getItem_str_slice (l:=l) (u:=u) (st:=none) hs rfl ?_⟩;exact post_val_or_str ⟨aS (Txt.slice_le t _ _) hz,λt' k=>⟨.str _,H,I.tok _,⟨_,rfl⟩,q⟩⟩
def rE:typeLookup (.type "tuple") (dunderI "add") = pure none:=by rw [wL,nK];kernel_rfl
def IP:PIp X .Add (JA X.K):=by
 intro pins s σ H x y v u Q I rx ry h;obtain ⟨a,b,xs,ys,rfl,rfl,ha,hb,hx,hz,q1,q2⟩:=h;cases rx;cases ry;obtain ⟨its,r1,p1,_⟩:=I.tuple ha;obtain ⟨its2,r2,p2,_⟩:=I.tuple hb;obtain ⟨⟨cls,dd,data,sl⟩,ho,hc,n,hd⟩:=id p1;obtain ⟨⟨cls2,dd2,data2,sl2⟩,ho2,hc2,n2,hd2⟩:=id p2;simp only at hc hd hc2 hd2;subst hc hd hc2 hd2;have e:its.toArray++its2.toArray = (its++its2).toArray:=by simp
 have hv:its≠[]:=λz=>hx (r1.nil_iff.mp z);refine wpAny_inplaceOp_concat ⟨_,ho,rfl⟩ ⟨_,ho2,rfl⟩ rE lN pT ?_;by_cases hw:its2 = []
 . exact yu PySem.F.slot_tuple_add ⟨_,ho,rfl⟩ PySem.F.entry_tuple_add (PySem.F.args_tuple_add_2 _ _)
    (tuple_addW1 a b its.toArray its2.toArray n n2 dd dd2 sl sl2 (by simpa using hv) (by simp [hw])) ⟨ho,ho2,⟨.ref a,H,I,rfl,q1 (r2.nil_iff.mp hw)⟩⟩
 . refine yu PySem.F.slot_tuple_add ⟨_,ho,rfl⟩ PySem.F.entry_tuple_add (PySem.F.args_tuple_add_2 _ _)
    (tuple_addW2 a b its.toArray its2.toArray n n2 dd dd2 sl sl2 (by simpa using hv) (by simpa using hw) (by rw [aG,aG,<- r1.length,<- r2.length];exact hz)) ⟨ho,ho2,?_⟩
   rw [e];refine ⟨.ref s.heap.objs.size,_,I.laid (t':=s.toks) (o:=.tup (xs++ys)) (λb ob q=>aj _ q) (ax _) ?_,rfl,q2 (λw=>hw (r2.nil_iff.mpr w)) _ (I.hok.fresh (ax _))⟩;exact ⟨by rw [ag];exact hz,_,r1.append r2,pB _ _⟩
end
end L2
end
section
namespace PP
open PySem PySem.W PyProof.Rows
def ans {α:Type} (lt:Nat->Nat->Bool):KasT α->α
 | .ret a=>a
 | .ask i j k=>ans lt (k (lt i j))
def dP {α β:Type} (lt:Nat->Nat->Bool) (f:α->KasT β):∀ t:KasT α,ans lt (t.bind f) = ans lt (f (ans lt t))
 | .ret a=>rfl
 | .ask i j k=>by
   show ans lt ((k (lt i j)).bind f) = _;rw [dP lt f (k (lt i j))];rfl
def fB {α:Type} (lt:Nat->Nat->Bool) (i j:Nat) (k:Bool->KasT α):ans lt (.ask i j k) = ans lt (k (lt i j)):=rfl
def iH {α:Type} (lt:Nat->Nat->Bool) (a:α):ans lt (.ret a) = a:=rfl
structure Ord (lt:Nat->Nat->Bool):Prop where
 as:∀ a b,lt a b = true->lt b a = false
 tr:∀ a b c,lt b a = false->lt c b = false->lt c a = false
section
variable {lt:Nat->Nat->Bool} (O:Ord lt)
def Up (lt:Nat->Nat->Bool) (p:Array Nat) (m:Nat):Prop:=∀ i j,i<=j->j < m->lt (p.getD j 0) (p.getD i 0) = false
def Dn' (lt:Nat->Nat->Bool) (p:Array Nat) (m:Nat):Prop:=∀ i j,i<=j->j < m->lt (p.getD i 0) (p.getD j 0) = false
include O
theorem Ord.refl (a:Nat):lt a a = false:=by
 cases h:lt a a with
 | false=>rfl
 | true=>have:=O.as a a h;rw [h] at this;cases this
theorem Up.one (p:Array Nat):Up lt p 1:=λi j h1 h2=>by
 have e1:j = 0:=by lia
 have e2:i = 0:=by lia
 subst e1;subst e2;exact O.refl _
theorem Up.more {p:Array Nat} {n:Nat} (h:Up lt p n) (hn:1<=n) (h2:lt (p.getD n 0) (p.getD (n - 1) 0) = false):Up lt p (n+1):=λi j h3 h4=>by
 by_cases e:j = n
 . subst e;by_cases e':i = j
   . subst e';exact O.refl _
   . exact O.tr _ _ _ (h i (j - 1) ∅ ∅) h2
 . exact h i j h3 ∅
theorem Dn'.more {p:Array Nat} {n:Nat} (h:Dn' lt p n) (hn:1<=n) (h2:lt (p.getD (n - 1) 0) (p.getD n 0) = false):Dn' lt p (n+1):=λi j h3 h4=>by
 by_cases e:j = n
 . subst e;by_cases e':i = j
   . subst e';exact O.refl _
   . exact O.tr _ _ _ h2 (h i (j - 1) ∅ ∅)
 . exact h i j h3 ∅
theorem yh (p:Array Nat):∀ (f n:Nat),1<=n->Up lt p n->n<=ans lt (kas_asc p f n)/\ans lt (kas_asc p f n)<=n+f/\Up lt p (ans lt (kas_asc p f n))/\(ans lt (kas_asc p f n) < n+f->lt (p.getD (ans lt (kas_asc p f n)) 0) (p.getD (ans lt (kas_asc p f n) - 1) 0) = true)
 | 0,n,_,h=>⟨ax _,ax _,h,λz=>absurd z (cC _)⟩
 | f+1,n,hn,h=>by
   unfold kas_asc;rw [fB]
   cases c:lt (p.getD n 0) (p.getD (n - 1) 0) with
   | true =>
     rw [if_pos rfl,iH]
     exact ⟨ax _,∅,h,λ_=>c⟩
   | false =>
     rw [if_neg aq];obtain ⟨a1,a2,a3,a4⟩:=yh p f (n+1) ∅ (h.more O hn c);exact ⟨∅,∅,a3,λz=>a4 ∅⟩
omit O in
theorem getD_eq (p:Array Nat) (k:Nat):p.getD k 0 = (p[k]?).getD 0:=by
 simp [Array.getD_eq_getD_getElem?]
omit O in
theorem jh (hj:j<=p.size) (k:Nat):(kas_rev p i j).getD k 0 = if i<=k/\k < j then p.getD (i+j - 1 - k) 0 else p.getD k 0:=by
 rw [getD_eq,kas_rev,getElem?_mirror hj ((j - i) / 2) ∅ k];by_cases h:i<=k/\k < j
 . rw [if_pos h];by_cases h2:(i<=k/\k < i+(j - i) / 2)\/(j - (j - i) / 2<=k/\k < j)
   . rw [if_pos h2,getD_eq]
   . rw [if_neg h2,getD_eq];have:i+j - 1 - k = k:=by lia
     rw [this]
 . rw [if_neg h];by_cases h2:(i<=k/\k < i+(j - i) / 2)\/(j - (j - i) / 2<=k/\k < j)
   . exfalso;lia
   . rw [if_neg h2,getD_eq]
omit O in
theorem iO (p:Array Nat) (i j:Nat):(kas_rev p i j).size = p.size:=mirror_size _ _ _ _
omit O in
theorem eK (p:Array Nat) (i j:Nat):(kas_rev p i j).Perm p:=mirror_perm _ _ _ _
theorem Dn'.rev (h:Dn' lt p n) (hn:n<=p.size):Up lt (kas_rev p 0 n) n:=λi j h1 h2=>by
 rw [jh hn,jh hn,if_pos ⟨∅,h2⟩,if_pos ⟨∅,∅⟩];exact h _ _ ∅ ∅
def Eqv (lt:Nat->Nat->Bool) (p:Array Nat) (a b:Nat):Prop:=∀ i j,a<=i->i < b->a<=j->j < b->lt (p.getD i 0) (p.getD j 0) = false
theorem Dn'.turn (h:Dn' lt p n) (hn:n<=p.size) (e:Eqv lt p a n):Dn' lt (kas_rev p a n) n:=λi j h1 h2=>by
 rw [jh hn,jh hn];by_cases hi:a<=i
 . rw [if_pos ⟨hi,∅⟩,if_pos ⟨∅,h2⟩];exact e _ _ ∅ ∅ ∅ ∅
 . rw [if_neg ∅];by_cases hj:a<=j
   . rw [if_pos ⟨hj,h2⟩];exact h _ _ ∅ ∅
   . rw [if_neg ∅];exact h _ _ h1 h2
theorem pK:∀ (f:Nat) (p:Array Nat) (n q:Nat),1<=n->q < n->n+f<=p.size->Dn' lt p n->Eqv lt p (n - (q+1)) n ->
 let r:=ans lt (kas_desc f p n q)
 r.1.size = p.size/\r.1.Perm p/\n<=r.2.1/\r.2.1<=n+f/\r.2.2 < r.2.1/\Dn' lt r.1 r.2.1/\Eqv lt r.1 (r.2.1 - (r.2.2+1)) r.2.1
 | 0,p,n,q,hn,hq,hz,h,e=>⟨rfl,cI _,ax _,ax _,hq,h,e⟩
 | f+1,p,n,q,hn,hq,hz,h,e=>by
   unfold kas_desc;rw [fB]
   cases c:lt (p.getD n 0) (p.getD (n - 1) 0) with
   | true =>
     rw [if_pos rfl];have c':=O.as _ _ c
     have one:∀ p':Array Nat,Eqv lt p' (n+1 - (0+1)) (n+1):=λp' i j h1 h2 h3 h4=>by
      have e1:i = j:=by lia
      rw [e1];exact O.refl _
     by_cases hq0:q > 0
     . rw [if_pos hq0]
       have hT:Dn' lt (kas_rev p (n - (q+1)) n) (n+1):=by
        refine (h.turn O ∅ e).more O hn ?_;rw [jh ∅,jh ∅,if_pos ⟨∅,∅⟩,if_neg ∅];exact O.tr _ _ _ c' (e _ _ ∅ ∅ ∅ ∅)
       obtain ⟨a1,a2,a3,a4,a5,a6,a7⟩:=pK f (kas_rev p (n - (q+1)) n) (n+1) 0 ∅ ∅ (by rw [iO];lia) hT (one _);exact ⟨by rw [a1,iO],a2.trans (eK _ _ _),∅,∅,a5,a6,a7⟩
     . rw [if_neg hq0];obtain ⟨a1,a2,a3,a4,a5,a6,a7⟩:=pK f p (n+1) 0 ∅ ∅ ∅ (h.more O hn c') (one _)
       exact ⟨a1,a2,∅,∅,a5,a6,a7⟩
   | false =>
     rw [if_neg aq,fB]
     cases d:lt (p.getD (n - 1) 0) (p.getD n 0) with
     | true =>
       rw [if_pos rfl,iH]
       exact ⟨rfl,cI _,ax _,Jq _ _,hq,h,e⟩
     | false =>
       rw [if_neg aq]
       have hE:Eqv lt p (n+1 - (q+1+1)) (n+1):=λi j h1 h2 h3 h4=>by
        by_cases ei:i = n
        . subst ei;by_cases ej:j = i
          . subst ej;exact O.refl _
          . exact O.tr _ _ _ (e _ _ ∅ ∅ ∅ ∅) c
        . by_cases ej:j = n
          . subst ej;exact O.tr _ _ _ d (e _ _ ∅ ∅ ∅ ∅)
          . exact e _ _ ∅ ∅ ∅ ∅
       obtain ⟨a1,a2,a3,a4,a5,a6,a7⟩:=pK f p (n+1) (q+1) ∅ ∅ ∅ (h.more O hn d) hE;exact ⟨a1,a2,∅,∅,a5,a6,a7⟩
theorem vj (p:Array Nat) (n m:Nat) (hn:1<=n) (hm:n<=m) (hz:m<=p.size) (h:Dn' lt p n) :
 let r:=ans lt (kas_tail3 n m p)
 r.2.size = p.size/\r.2.Perm p/\1<=r.1/\r.1<=m/\Up lt r.2 r.1:=by
 unfold kas_tail3;rw [dP,iH];obtain ⟨a1,a2,a3,_⟩:=yh O (kas_rev p 0 n) (m - n) n hn (h.rev O ∅);exact ⟨iO _ _ _,eK _ _ _,∅,∅,a3⟩
theorem oR (p:Array Nat) (n m:Nat) (hn:1<=n) (hm:n < m) (hz:m<=p.size) (h:Dn' lt p (n+1)) :
 let r:=ans lt (kas_descPart n m p)
 r.2.size = p.size/\r.2.Perm p/\1<=r.1/\r.1<=m/\Up lt r.2 r.1:=by
 unfold kas_descPart;rw [dP]
 have one:Eqv lt p (n+1 - (0+1)) (n+1):=λi j h1 h2 h3 h4=>by
  have e1:i = j:=by lia
  rw [e1];exact O.refl _
 obtain ⟨a1,a2,a3,a4,a5,a6,a7⟩:=pK O (m - (n+1)) p (n+1) 0 ∅ ∅ ∅ h one;generalize ans lt (kas_desc (m - (n+1)) p (n+1) 0) = r at a1 a2 a3 a4 a5 a6 a7;by_cases hq:r.2.2 > 0
 . rw [if_pos hq];obtain ⟨b1,b2,b3,b4,b5⟩:=vj O (kas_rev r.1 (r.2.1 - (r.2.2+1)) r.2.1) r.2.1 m ∅ ∅ (by rw [iO];lia) (a6.turn O ∅ a7);exact ⟨by rw [b1,iO,a1],(b2.trans (eK _ _ _)).trans a2,b3,b4,b5⟩
 . rw [if_neg hq];obtain ⟨b1,b2,b3,b4,b5⟩:=vj O r.1 r.2.1 m ∅ ∅ ∅ a6;exact ⟨by rw [b1,a1],b2.trans a2,b3,b4,b5⟩
theorem FR (p:Array Nat) (m:Nat) (hm:1<=m) (hz:m<=p.size) :
 let r:=ans lt (kas_count m p)
 r.2.size = p.size/\r.2.Perm p/\1<=r.1/\r.1<=m/\Up lt r.2 r.1:=by
 unfold kas_count;rw [dP];obtain ⟨a1,a2,a3,a4⟩:=yh O p (m - 1) 1 (ax _) (Up.one O p);generalize ans lt (kas_asc p (m - 1) 1) = n at a1 a2 a3 a4;by_cases e:(n == m) = true
 . rw [if_pos e,iH];exact ⟨rfl,cI _,a1,∅,a3⟩
 . rw [if_neg e];have ne:n≠m:=λz=>e (by rw [z];simp);have c:=a4 ∅;by_cases h1:n > 1
   . rw [if_pos h1,fB]
     cases d:lt (p.getD 0 0) (p.getD (n - 1) 0) with
     | true =>
       rw [if_pos rfl,iH]
       exact ⟨rfl,cI _,a1,∅,a3⟩
     | false =>
       rw [if_neg aq]
       have hE:Eqv lt p 0 n:=λi j _ hi _ hj=>by
        have x1:lt (p.getD 0 0) (p.getD j 0) = false:=O.tr _ _ _ (a3 j (n - 1) ∅ ∅) d;exact O.tr _ _ _ x1 (a3 0 i ∅ hi)
       have hD:Dn' lt (kas_rev p 0 n) (n+1):=by
        refine (Dn'.turn O (p:=p) (n:=n) (a:=0) (λi j hi hj=>hE i j ∅ ∅ ∅ (by omega)) ∅ hE).more O a1 ?_;rw [jh ∅,jh ∅,if_pos ⟨∅,∅⟩,if_neg ∅];exact O.tr _ _ _ (O.as _ _ c) (hE _ _ ∅ ∅ ∅ ∅)
       obtain ⟨b1,b2,b3,b4,b5⟩:=oR O (kas_rev p 0 n) n m a1 ∅ (by rw [iO];omega) hD;exact ⟨by rw [b1,iO],b2.trans (eK _ _ _),b3,b4,b5⟩
   . rw [if_neg h1];have e1:n = 1:=by lia
     subst e1
     have hD:Dn' lt p (1+1):=by
      refine Dn'.more O (n:=1) (λi j h1 h2=>?_) (ax _) (O.as _ _ c);have e1:i = j:=by lia
      rw [e1];exact O.refl _
     exact oR O p 1 m (ax _) ∅ hz hD
theorem qz (p:Array Nat) (k:Nat) (h:Up lt p k):∀ (f l r:Nat),l<=r->r<=k->r - l<=f->(∀ i,i < l->lt (p.getD k 0) (p.getD i 0) = false)->(∀ i,r<=i->i < k->lt (p.getD i 0) (p.getD k 0) = false) ->
 let x:=ans lt (kas_place p k f l r)
 x<=k/\(∀ i,i < x->lt (p.getD k 0) (p.getD i 0) = false)/\∀ i,x<=i->i < k->lt (p.getD i 0) (p.getD k 0) = false
 | 0,l,r,h1,h2,h3,h4,h5=>by
   have e:l = r:=by lia
   subst e
   exact ⟨h2,h4,h5⟩
 | f+1,l,r,h1,h2,h3,h4,h5=>by
   unfold kas_place;by_cases hlr:l ≥ r
   . rw [if_pos hlr,iH];have e:l = r:=by lia
     subst e;exact ⟨h2,h4,h5⟩
   . rw [if_neg hlr,fB]
     cases c:lt (p.getD k 0) (p.getD ((l+r) / 2) 0) with
     | true =>
       rw [if_pos rfl];refine qz p k h f l ((l+r) / 2) ∅ ∅ ∅ h4 λi hi hk=>?_
       exact O.tr _ _ _ (O.as _ _ c) (h _ i (by omega) hk)
     | false =>
       rw [if_neg aq];refine qz p k h f ((l+r) / 2+1) r ∅ h2 ∅ (λi hi=>?_) h5;exact O.tr _ _ _ (h i ((l+r) / 2) ∅ ∅) c
theorem Gg:∀ (f:Nat) (p:Array Nat) (k:Nat),k+f<=p.size->Up lt p k ->
 let r:=ans lt (kas_bin f p k)
 r.size = p.size/\r.Perm p/\Up lt r (k+f)
 | 0,p,k,_,h=>⟨rfl,cI _,h⟩
 | f+1,p,k,hz,h=>by
   unfold kas_bin;rw [dP];obtain ⟨a1,a2,a3⟩:=qz O p k h k 0 k ∅ ∅ ∅ (λi hi=>by lia) (λi h1 h2=>by lia);generalize ans lt (kas_place p k k 0 k) = l at a1 a2 a3
   have bg:∀ t,(bubble p k (k - l)).getD t 0 = if t = l then p.getD k 0 else if l < t/\t<=k then p.getD (t - 1) 0 else p.getD t 0:=λt=>by
    rw [getD_eq,getElem?_bubble ∅ (k - l) ∅ t];have e1:k - (k - l) = l:=by lia
    rw [e1];by_cases h1:t = l
    . rw [if_pos h1,if_pos h1,getD_eq]
    . rw [if_neg h1,if_neg h1];by_cases h2:l < t/\t<=k
      . rw [if_pos h2,if_pos h2,getD_eq]
      . rw [if_neg h2,if_neg h2,getD_eq]
   have hU:Up lt (bubble p k (k - l)) (k+1):=λi j h1 h2=>by
    rw [bg i,bg j];by_cases i1:i = l
    . rw [if_pos i1];by_cases j1:j = l
      . rw [if_pos j1];exact O.refl _
      . rw [if_neg j1,if_pos ⟨∅,∅⟩];exact a3 _ ∅ ∅
    . rw [if_neg i1];by_cases i2:l < i/\i<=k
      . rw [if_pos i2,if_neg ∅,if_pos ⟨∅,∅⟩];exact h _ _ ∅ ∅
      . rw [if_neg i2];by_cases j1:j = l
        . rw [if_pos j1];exact a2 i ∅
        . rw [if_neg j1];by_cases j2:l < j/\j<=k
          . rw [if_pos j2];exact h _ _ ∅ ∅
          . rw [if_neg j2];exact h _ _ h1 ∅
   obtain ⟨b1,b2,b3⟩:=Gg f (bubble p k (k - l)) (k+1) (by rw [bubble_size];lia) hU;exact ⟨by rw [b1,bubble_size],b2.trans (Jn _ _ _),by rw [show k+(f+1) = k+1+f by lia];exact b3⟩
theorem Hk (n:Nat) (hn:1<=n) :
 let r:=ans lt (kas_sort n)
 r.size = n/\r.Perm (fL (bE n))/\Up lt r n:=by
 unfold kas_sort;rw [dP];have hs:(fL (bE n)).size = n:=by simp
 obtain ⟨a1,a2,a3,a4,a5⟩:=FR O (fL (bE n)) n hn ∅;generalize ans lt (kas_count n (fL (bE n))) = r at a1 a2 a3 a4 a5;by_cases h:r.1 < n
 . rw [if_pos h];have e:max r.1 1 = r.1:=by lia
   rw [e];obtain ⟨b1,b2,b3⟩:=Gg O (n - r.1) r.2 r.1 ∅ a5;have e2:r.1+(n - r.1) = n:=by lia
   rw [e2] at b3;exact ⟨∅,b2.trans a2,b3⟩
 . rw [if_neg h,iH];have e:r.1 = n:=by lia
   exact ⟨∅,a2,by rw [<- e];exact a5⟩
end
end PP
end
section
namespace PP
open PySem
set_option genInjectivity true in
inductive D where
 | non | bl (b:Bool) | int (i:Int) | str (x:Str) | lst (ds:List D) | tup (ds:List D) | fn (k:Nat) (ds:List D)
 deriving Inhabited
mutual
noncomputable def eqD:D->D->Bool
 | .non,.non=>true
 | .bl a,.bl b=>a == b
 | .bl a,.int b=>(if a then 1 else 0) == b
 | .int a,.bl b=>a == (if b then 1 else 0)
 | .int a,.int b=>a == b
 | .str a,.str b=>a == b
 | .lst a,.lst b=>iC a b
 | .tup a,.tup b=>iC a b
 | _,_=>false
noncomputable def iC:List D->List D->Bool
 | [],[]=>true
 | x::xs,y::ys=>eqD x y && iC xs ys
 | _,_=>false
end
mutual
noncomputable def ltD:D->D->Option Bool
 | .int a,.int b=>some (decide (a < b))
 | .str a,.str b=>some (decide (a.cps.toList < b.cps.toList))
 | .tup a,.tup b=>iB a b
 | _,_=>none
noncomputable def iB:List D->List D->Option Bool
 | [],[]=>some false
 | [],_::_=>some true
 | _::_,[]=>some false
 | x::xs,y::ys=>if eqD x y = true then iB xs ys else ltD x y
end
mutual
noncomputable def dep:D->Nat
 | .lst ds | .tup ds=>dh ds+1
 | .fn _ _=>100000
 | _=>0
noncomputable def dh:List D->Nat
 | []=>0
 | x::xs=>max (dep x) (dh xs)
end
mutual
noncomputable def lf:D->Bool
 | .lst _=>false
 | .fn _ _=>false
 | .tup ds=>lfL ds
 | _=>true
noncomputable def lfL:List D->Bool
 | []=>true
 | x::xs=>lf x && lfL xs
end
def flat:D->Bool
 | .non | .bl _ | .int _ | .str _=>true
 | _=>false
def tv:D->Option Bool
 | .non=>some false
 | .bl b=>some b
 | .int i=>some (i != 0)
 | .str x=>if x.length<=sizeLine then some ((x.length:Int) != 0) else none
 | .lst ds | .tup ds=>some (!ds.isEmpty)
 | .fn _ _=>none
inductive Op where
 | add | sub | mul | mod | fdiv
 deriving DecidableEq
inductive Cop where
 | lt | le | gt | eq | ne | isin | notin | is
 deriving DecidableEq
inductive Blt where
 | len | toInt | toStr | toTup | toLst | sorted | isTup
 deriving DecidableEq
def qG (i j:Int):Bool:=(decide (-(2 ^ 64) < i) && decide (i < 2 ^ 64)) || (decide (-(2 ^ 64) < j) && decide (j < 2 ^ 64)) || (decide (i.natAbs < 2 ^ 200) && decide (j.natAbs < 2 ^ 200))
def xI (x:Str) (n:Nat):Str:=⟨(aO n x.cps.toList).flatten.toArray⟩
def Np:D->D->Option D
 | .int a,.int b=>some (.int (a+b))
 | .str a,.str b=>if a.length+b.length<=sizeLine then some (.str (a++b)) else none
 | .tup [],.tup b=>some (.tup b)
 | .tup (x::a),.tup b=>if (x::a).length+b.length<=sizeLine then some (.tup (x::a++b)) else none
 | .lst a,.lst b=>if a.length+b.length<=sizeLine then some (.lst (a++b)) else none
 | _,_=>none
def BP:D->D->Option D
 | .int a,.int b=>some (.int (a+b))
 | .tup (x::a),.tup b=>if (x::a).length+b.length<=sizeLine then some (.tup (x::a++b)) else none
 | _,_=>none
def AR:D->D->Option D
 | .int a,.int b=>some (.int (a - b))
 | _,_=>none
def My:D->D->Option D
 | .int a,.int b=>if qG a b then some (.int (a * b)) else none
 | .str a,.int b=>if 0<=b/\b<=1000/\a.length<=1000 then some (.str (xI a b.toNat)) else none
 | _,_=>none
def Mz:D->D->Option D
 | .int a,.int b=>if 0 < b then some (.int (a % b)) else none
 | _,_=>none
def FI:D->D->Option D
 | .int a,.int b=>if 0 < b/\b < 1000000000000000000000000000000000000000000000000000000000000 then some (.int (a / b)) else none
 | _,_=>none
def opD:Op->D->D->Option D
 | .add=>Np | .sub=>AR | .mul=>My | .mod=>Mz | .fdiv=>FI
def kin:D->D->Bool
 | .bl _,.bl _ | .int _,.int _ | .str _,.str _ | .lst _,.lst _ | .tup _,.tup _=>true
 | _,_=>false
def gy (a b:D):Bool:=kin a b && decide (min (dep a) (dep b)<=150) && decide (max (dep a) (dep b) < 100000)
def OQ:D->D->Bool
 | .int _,.str _=>true
 | .str _,.int _=>true
 | _,_=>false
def LS (p:Int->Int->Bool):D->D->Option Bool
 | .int a,.int b=>some (p a b)
 | _,_=>none
def ue (y x:Str):Bool:=!(pY y x 0 y.length 1).isEmpty
def inD (a:D):D->Option Bool
 | .lst ds=>if dep a<=150/\dh ds < 99999 then some (ds.any λy=>eqD y a) else none
 | .tup ds=>if dep a<=150/\dh ds < 99999 then some (ds.any λy=>eqD y a) else none
 | .str y=>match a with
   | .str x=>some (ue y x)
   | _=>none
 | _=>none
def oY (a b:D):Option Bool:=if min (dep a) (dep b)<=150/\max (dep a) (dep b) < 100000 then ltD a b else none
def iS (ds:List D) (i j:Nat):Bool:=(oY (ds.getD i .non) (ds.getD j .non)).getD false
def eR (ds:List D):List D:=if ds.length < 2 then ds else (ans (iS ds) (PySem.W.kas_sort ds.length)).toList.map λi=>ds.getD i .non
def bF:D->Nat
 | .str _=>1
 | .int _=>2
 | .tup (.str _::_)=>3
 | .tup (.int _::_)=>4
 | _=>0
def sortable (ds:List D):Bool:=decide (ds.length < 64) && (ds.all λx=>bF x != 0 && bF x == bF (ds.getD 0 .non)) && ds.all λx=>ds.all λy=>(oY x y).isSome
mutual
noncomputable def hb:D->Bool
 | .str _ | .int _=>true
 | .tup ds=>hbL ds
 | _=>false
noncomputable def hbL:List D->Bool
 | []=>true
 | d::ds=>hb d && hbL ds
end
def MT:D->Bool
 | .non=>true
 | _=>false
def isD (a:D):D->Option Bool
 | .non=>some (MT a)
 | _=>none
def leD:D->D->Option Bool
 | .int a,.int b=>some (decide (a<=b))
 | .str a,.str b=>some (!decide (b.cps.toList < a.cps.toList))
 | _,_=>none
def kX:Cop->D->D->Option Bool
 | .lt,x,y=>oY x y
 | .le,x,y=>leD x y
 | .gt,x,y=>LS (λa b=>decide (b < a)) x y
 | .eq,a,b=>if gy a b then some (eqD a b) else if OQ a b = true then some false else none
 | .ne,a,b=>if gy a b then some (!eqD a b) else none
 | .isin,a,y=>inD a y
 | .notin,a,y=>(inD a y).map (!·)
 | .is,a,y=>isD a y
def ixD:D->D->Option D
 | .lst ds,.int i=>L2.atI ds i
 | .tup ds,.int i=>L2.atI ds i
 | .str x,.int i=>if x.length<=sizeLine then (L2.atI x.cps.toList i).map λc=>.str ⟨#[c]⟩ else none
 | _,_=>none
def cutD (ds:List D) (lo hi:Option Int):List D:=(ds.drop (HT.sIx ds.length 0 lo)).take (HT.sIx ds.length ds.length hi - HT.sIx ds.length 0 lo)
def slD:D->Option Int->Option Int->Option D
 | .lst ds,lo,hi=>some (.lst (cutD ds lo hi))
 | .tup ds,lo,hi=>if HT.sIx ds.length 0 lo = 0/\HT.sIx ds.length ds.length hi = ds.length then none else some (.tup (cutD ds lo hi))
 | .str x,lo,hi=>if x.length<=sizeLine then some (.str (Txt.slice x lo hi)) else none
 | _,_,_=>none
def IF:List D->Option D
 | [.str x]=>if x.length<=sizeLine then some (.int x.length) else none
 | [.lst ds]=>some (.int ds.length)
 | [.tup ds]=>some (.int ds.length)
 | _=>none
def qi:List D->Option D
 | [.int i]=>some (.int i)
 | [.bl b]=>some (.int (if b then 1 else 0))
 | [.str x]=>if x.length<=640 then (PySem.intText? x).map .int else none
 | _=>none
def tB:List D->Option D
 | [.int i]=>if i.natAbs.log2 < 1920 then some (.str (toString i)) else none
 | _=>none
def tu:List D->Option D
 | [.lst ds]=>some (.tup ds)
 | [.tup ds]=>some (.tup ds)
 | _=>none
def nZ:List D->Option D
 | [.lst ds]=>some (.lst ds)
 | [.tup ds]=>some (.lst ds)
 | _=>none
def pD:List D->Option D
 | [.lst ds]=>if sortable ds = true then some (.lst (eR ds)) else none
 | _=>none
def ke:List D->Option D
 | [.tup _]=>some (.bl true)
 | [.fn _ _]=>none
 | [_]=>some (.bl false)
 | _=>none
def ky:Blt->List D->Option D
 | .len=>IF | .toInt=>qi | .toStr=>tB | .toTup=>tu | .toLst=>nZ | .sorted=>pD
 | .isTup=>ke
inductive Sl where
 | no | val (d:D) | own (ds:List D) | fnc (k:Nat) (cs:List D)
 deriving Inhabited
abbrev Loc:=List Sl
inductive Tg where
 | nm (i:Nat)
 | tp (is:List Nat)
def fO:List D->Option (List Str)
 | []=>some []
 | .str x::r=>(fO r).map (x::·)
 | _=>none
inductive Mt | split | part | ends | join | index
mutual
inductive E where
 | var (i:Nat)
 | pk (i:Nat)
 | glob (g:Nat)
 | int (i:Int) | bl (b:Bool) | non | str (x:Str)
 | bin (op:Op) (a b:E)
 | cmp (op:Cop) (a b:E)
 | and (a b:E) | or (a b:E) | not (a:E) | neg (a:E)
 | ite (c a b:E)
 | tup (es:Es) | lst (es:Es)
 | ix (a b:E)
 | sl (a:E) (lo hi:Eo)
 | call (f:Nat) (es:Es)
 | blt (f:Blt) (es:Es)
 | bad
 | callv (i:Nat) (es:Es)
 | callF (f:Nat) (es:Es) (i:Nat)
 | isdig (i:Nat)
 | fstr (t:Str) (a:E)
 | comp (k:Nat) (tg:Tg) (src:It) (ifs:Eo) (elt:E)
 | sset (k:Nat) (tg1:Tg) (src1:It) (tg2:Tg) (src2:It) (ifs:Eo) (elt:E)
inductive Es where
 | nil | cons (e:E) (es:Es)
inductive Eo where
 | no | yes (e:E)
inductive It where
 | rng (e:E) | sq (e:E) | zp (es:Es)
end
def get (δ:Loc) (i:Nat):Option D:=match δ[i]? with
 | some (.val d)=>some d
 | some (.own ds)=>some (.lst ds)
 | _=>none
def FC (δ:Loc) (i:Nat):Option D:=match δ[i]? with
 | _=>get δ i
def demote (δ:Loc) (i:Nat):Loc:=match δ[i]? with
 | some (.own ds)=>δ.set i (.val (.lst ds))
 | _=>δ
def eB (δ:Loc):Tg->D->Option Loc
 | .nm i,d=>if i < δ.length then some (δ.set i (.val d)) else none
 | .tp is,.tup ds=>if is.length = ds.length/\is.all (· < δ.length) = true then some ((is.zip ds).foldl (λδ p=>δ.set p.1 (.val p.2)) δ) else none
 | .tp is,.lst ds=>if is.length = ds.length/\is.all (· < δ.length) = true then some ((is.zip ds).foldl (λδ p=>δ.set p.1 (.val p.2)) δ) else none
 | _,_=>none
def DT:D->Option (List D)
 | .lst ds=>some ds
 | .tup ds=>some ds
 | _=>none
def Ao (xs ys:List D):List D:=(xs.zip ys).map λp=>.tup [p.1,p.2]
def zpD:List D->Option (List D)
 | [x,y]=>(DT x).bind λxs=>(DT y).map λys=>Ao xs ys
 | _=>none
def items:D->Option (List D)
 | .lst ds=>some ds
 | .tup ds=>some ds
 | .str x=>if x.length<=sizeLine then some (x.cps.toList.map λc=>.str ⟨#[c]⟩) else none
 | _=>none
def om (lo:Int) (n:Nat):List D:=(bE n).map λ(i:Nat)=>D.int (lo+i)
def nB (f:D->Loc->Option (Option D × Loc)):List D->Loc->Option (List D × Loc)
 | [],δ=>some ([],δ)
 | x::xs,δ=>do
   let (o,δ1) <- f x δ
   let (ys,δ2) <- nB f xs δ1
   return (match o with | some y=>y::ys | none=>ys,δ2)
def gF (f:D->Loc->Option (List D × Loc)):List D->Loc->Option (List D × Loc)
 | [],δ=>some ([],δ)
 | x::xs,δ=>do
   let (o,δ1) <- f x δ
   let (ys,δ2) <- gF f xs δ1
   return (o++ys,δ2)
def kA (ts:List Str) (x:Str):List Str:=if x∈ts then ts else ts++[x]
def ia (xs:List Str):List Str:=xs.foldl kA []
def lfO:Option D->Option D
 | some r=>if lf r = true then some r else none
 | none=>none
def lS (δ:Loc):List Nat->Option (List D)
 | []=>some []
 | i::r=>match get δ i with
   | some d=>if flat d = true then (lS δ r).map (d::·) else none
   | none=>none
structure Cl where
 call:Nat->List D->Option D
 gl:List D
 hf:Nat->Bool
section
variable (cx:Cl)
mutual
noncomputable def evE:E->Loc->Option (D × Loc)
 | .var i,δ=>do return (<- FC δ i,demote δ i)
 | .pk i,δ=>do return (<- get δ i,δ)
 | .glob g,δ=>do return (<- cx.gl[g]?,δ)
 | .int i,δ=>some (.int i,δ)
 | .bl b,δ=>some (.bl b,δ)
 | .non,δ=>some (.non,δ)
 | .str x,δ=>some (.str x,δ)
 | .bin op a b,δ=>do
   let (x,δ1) <- evE a δ
   let (y,δ2) <- evE b δ1
   return (<- opD op x y,δ2)
 | .cmp op a b,δ=>do
   let (x,δ1) <- evE a δ
   let (y,δ2) <- evE b δ1
   return (.bl (<- kX op x y),δ2)
 | .and a b,δ=>do
   match <- evE a δ with
   | (.bl true,δ1)=>evE b δ1
   | (.bl false,δ1)=>some (.bl false,δ1)
   | _=>none
 | .or a b,δ=>do
   match <- evE a δ with
   | (.bl true,δ1)=>some (.bl true,δ1)
   | (.bl false,δ1)=>evE b δ1
   | _=>none
 | .not a,δ=>do
   match <- evE a δ with
   | (.bl b,δ1)=>some (.bl (!b),δ1)
   | _=>none
 | .neg a,δ=>do
   match <- evE a δ with
   | (.int i,δ1)=>some (.int (-i),δ1)
   | _=>none
 | .fstr t a,δ=>do
   match <- evE a δ with
   | (.int i,δ1)=>if i.natAbs.log2 < 1920/\t.length+(toString i:Str).length<=sizeLine then some (.str (t++toString i),δ1) else none
   | _=>none
 | .ite c a b,δ=>do
   let (k,δ1) <- evT c δ
   if k then evE a δ1 else evE b δ1
 | .tup es,δ=>do
   let (ds,δ1) <- dH es δ
   if ds.length<=sizeLine then return (.tup ds,δ1) else none
 | .lst es,δ=>do
   let (ds,δ1) <- dH es δ
   if ds.length<=sizeLine then return (.lst ds,δ1) else none
 | .ix a b,δ=>do
   let (x,δ1) <- evE a δ
   let (y,δ2) <- evE b δ1
   return (<- ixD x y,δ2)
 | .sl a lo hi,δ=>do
   let (x,δ1) <- evE a δ
   let (l,δ2) <- evO lo δ1
   let (h,δ3) <- evO hi δ2
   return (<- slD x l h,δ3)
 | .call f es,δ=>do
   let (ds,δ1) <- dH es δ
   return (<- cx.call f ds,δ1)
 | .blt f es,δ=>do
   let (ds,δ1) <- dH es δ
   return (<- ky f ds,δ1)
 | .callv i es,δ=>do
   let (ds,δ1) <- dH es δ
   match δ[i]? with
   | some (.fnc k cs)=>if lfL ds = true then (lfO (cx.call k (ds++cs))).map λr=>(r,δ1) else none
   | _=>none
 | .callF f es i,δ=>do
   let (ds,δ1) <- dH es δ
   match δ1[i]? with
   | some (.fnc k cs)=>if cx.hf f = true then (cx.call f (ds++[.fn k cs])).map λr=>(r,δ1) else none
   | _=>none
 | .bad,_=>none
 | .isdig i,δ=>do
   match <- get δ i with
   | .str x=>some (.bl (decide (x.length > 0) && x.cps.all dn),δ)
   | _=>none
 | .comp k tg src ifs elt,δ=>do
   let (ds,δ1) <- evI src δ
   let (ys,δ2) <- nB (λx δ0=>do
    let δ2 <- eB (δ0++aO k .no) tg x
    let (b,δ3) <- evG ifs δ2
    if b then do
     let (y,δ4) <- evE elt δ3
     return (some y,δ4.take δ0.length)
    else return (none,δ3.take δ0.length)) ds δ1
   if ys.length<=sizeLine then return (.lst ys,δ2) else none
 | .sset k tg1 src1 tg2 src2 ifs elt,δ=>do
   let (ds,δ1) <- evI src1 δ
   let (ys,δ2) <- gF (λx δ0=>do
    let δa <- eB (δ0++aO k .no) tg1 x
    let (es,δb) <- evI src2 δa
    let (zs,δc) <- gF (λy δi=>do
     let δd <- eB δi tg2 y
     let (b,δe) <- evG ifs δd
     if b then do
      let (z,δf) <- evE elt δe
      return ([z],δf)
     else return ([],δe)) es δb
    return (zs,δc.take δ0.length)) ds δ1
   match fO ys with
   | some xs=>if xs.length < 4000/\(ia xs).length < 64 then some (.lst (eR ((ia xs).map .str)),δ2) else none
   | none=>none
noncomputable def evT:E->Loc->Option (Bool × Loc)
 | .and a b,δ=>do
   let (k,δ1) <- evT a δ
   if k then evT b δ1 else some (false,δ1)
 | .or a b,δ=>do
   let (k,δ1) <- evT a δ
   if k then some (true,δ1) else evT b δ1
 | .not a,δ=>do
   let (k,δ1) <- evT a δ
   return (!k,δ1)
 | .cmp op a b,δ=>do
   let (x,δ1) <- evE a δ
   let (y,δ2) <- evE b δ1
   return (<- kX op x y,δ2)
 | .ix a b,δ=>do
   let (x,δ1) <- evE a δ
   let (y,δ2) <- evE b δ1
   let d <- ixD x y
   return (<- tv d,δ2)
 | .var i,δ=>do
   let d <- get δ i
   return (<- tv d,δ)
 | .pk i,δ=>do
   let d <- get δ i
   return (<- tv d,δ)
 | .call f es,δ=>do
   let (ds,δ1) <- dH es δ
   let d <- cx.call f ds
   return (<- tv d,δ1)
 | .blt f es,δ=>do
   let (ds,δ1) <- dH es δ
   let d <- ky f ds
   return (<- tv d,δ1)
 | _,_=>none
noncomputable def dH:Es->Loc->Option (List D × Loc)
 | .nil,δ=>some ([],δ)
 | .cons e es,δ=>do
   let (d,δ1) <- evE e δ
   let (ds,δ2) <- dH es δ1
   return (d::ds,δ2)
noncomputable def evO:Eo->Loc->Option (Option Int × Loc)
 | .no,δ=>some (none,δ)
 | .yes e,δ=>do
   match <- evE e δ with
   | (.int i,δ1)=>some (some i,δ1)
   | _=>none
noncomputable def evG:Eo->Loc->Option (Bool × Loc)
 | .no,δ=>some (true,δ)
 | .yes e,δ=>evT e δ
noncomputable def evI:It->Loc->Option (List D × Loc)
 | .rng e,δ=>do
   match <- evE e δ with
   | (.int j,δ1)=>if -(2 ^ 62)<=j/\j < 2 ^ 62 then some (om 0 j.toNat,δ1) else none
   | _=>none
 | .sq e,δ=>do
   let (d,δ1) <- evE e δ
   return (<- items d,δ1)
 | .zp es,δ=>do
   let (ds,δ1) <- dH es δ
   return (<- zpD ds,δ1)
end
end
inductive Out where
 | nx (δ:Loc) | rt (d:D) (δ:Loc) | ro (d:D) (δ:Loc)
mutual
inductive S where
 | asg (tg:Tg) (e:E)
 | new (i:Nat) (e:E)
 | cmp (own:Bool) (i:Nat) (e:E)
 | aug (i:Nat) (op:Op) (e:E)
 | ret (e:E)
 | retL (f:Nat) (es:Es) (k:Nat) (caps:List Nat)
 | ifs (c:E) (a b:Ss)
 | for_ (tg:Tg) (src:It) (body:Ss)
 | while_ (c:E) (body:Ss)
 | append (i:Nat) (e:E)
 | extend (i:Nat) (e:E)
 | setix (i:Nat) (j e:E)
 | bad
inductive Ss where
 | nil | cons (s:S) (ss:Ss)
end
def forL (f:D->Loc->Option Out):List D->Loc->Option Out
 | [],δ=>some (.nx δ)
 | x::xs,δ=>match f x δ with
   | some (.nx δ1)=>forL f xs δ1
   | some (.rt d δ1)=>some (.rt d δ1)
   | some (.ro ds δ1)=>some (.ro ds δ1)
   | none=>none
def lY (c:Loc->Option (Bool × Loc)) (f:Loc->Option Out):Nat->Loc->Option Out
 | 0,_=>none
 | n+1,δ=>match c δ with
   | some (true,δ1)=>match f δ1 with
     | some (.nx δ2)=>lY c f n δ2
     | some (.rt d δ2)=>some (.rt d δ2)
     | some (.ro ds δ2)=>some (.ro ds δ2)
     | none=>none
   | some (false,δ1)=>some (.nx δ1)
   | none=>none
def tX:Nat:=1000000
section
variable (cx:Cl)
mutual
noncomputable def evS:S->Loc->Option Out
 | .asg tg e,δ=>do
   let (d,δ1) <- evE cx e δ
   return .nx (<- eB δ1 tg d)
 | .new i e,δ=>do
   match <- evE cx e δ with
   | (.lst ds,δ1)=>if i < δ1.length then some (.nx (δ1.set i (.own ds))) else none
   | _=>none
 | .cmp own i e,δ=>do
   match <- evE cx e δ with
   | (.lst ds,δ1)=>if i < δ1.length then some (.nx (δ1.set i (if own then .own ds else .val (.lst ds)))) else none
   | _=>none
 | .aug i op e,δ=>do
   match δ[i]? with
   | some (.val x)=>do
     let (y,δ1) <- evE cx e δ
     match op with
     | .add=>(BP x y).map λz=>.nx (δ1.set i (.val z))
     | .sub=>(AR x y).map λz=>.nx (δ1.set i (.val z))
     | _=>none
   | _=>none
 | .ret e,δ=>do
   let (d,δ1) <- evE cx e δ
   return .rt d δ1
 | .retL f es k caps,δ=>do
   let (ds,δ1) <- dH cx es δ
   let cs <- lS δ1 caps
   if cx.hf f = true then (lfO (cx.call f (ds++[.fn k cs]))).map λr=>.rt r δ1 else none
 | .ifs c a b,δ=>do
   let (k,δ1) <- evT cx c δ
   if k then dG a δ1 else dG b δ1
 | .for_ tg src body,δ=>do
   let (ds,δ1) <- evI cx src δ
   forL (λx δ0=>match eB δ0 tg x with
    | some δ2=>dG body δ2
    | none=>none) ds δ1
 | .while_ c body,δ=>lY (λδ0=>evT cx c δ0) (λδ0=>dG body δ0) 1000 δ
 | .append i e,δ=>match δ[i]? with
   | some (.own _)=>do
     let (d,δ1) <- evE cx e δ
     match δ1[i]? with
     | some (.own ds)=>if ds.length < sizeLine then some (.nx (δ1.set i (.own (ds++[d])))) else none
     | _=>none
   | _=>none
 | .extend i e,δ=>match δ[i]? with
   | some (.own _)=>do
     match <- evE cx e δ with
     | (.lst ys,δ1)=>match δ1[i]? with
       | some (.own ds)=>if ds.length+ys.length<=sizeLine then some (.nx (δ1.set i (.own (ds++ys)))) else none
       | _=>none
     | _=>none
   | _=>none
 | .setix i j e,δ=>do
   let (d,δ1) <- evE cx e δ
   match δ1[i]? with
   | some (.own _)=>do
     match <- evE cx j δ1 with
     | (.int k,δ2)=>match δ2[i]? with
       | some (.own ds)=>match L2.ixN ds.length k with
         | some m=>some (.nx (δ2.set i (.own (ds.set m d))))
         | none=>none
       | _=>none
     | _=>none
   | _=>none
 | .bad,_=>none
noncomputable def dG:Ss->Loc->Option Out
 | .nil,δ=>some (.nx δ)
 | .cons s ss,δ=>match evS s δ with
   | some (.nx δ1)=>dG ss δ1
   | o=>o
end
end
structure Fd where
 name:Str
 ps:List Str
 loc:List Str
 body:Ss
 hf:Bool:=false
def outD:Option Out->Option D
 | some (.rt d _)=>some d
 | some (.ro d _)=>some d
 | some (.nx _)=>some .non
 | _=>none
def LQ:Option Out->Option D
 | some (.ro d _)=>some d
 | _=>none
def init (n:Nat) (ds:List D):Loc:=ds.map .val++aO (n - ds.length) .no
def hfs (G:List Fd) (f:Nat):Bool:=match G[f]? with
 | some fd=>fd.hf
 | none=>false
def oP (n:Nat) (ds:List D) (k:Nat) (cs:List D):Loc:=ds.map .val++Sl.fnc k cs::aO (n - (ds.length+1)) .no
def entry (hf:Bool) (n:Nat) (ds:List D):Option Loc:=match hf with
 | false=>some (init n ds)
 | true=>match ds.getLast? with
   | some (.fn k cs)=>some (oP n ds.dropLast k cs)
   | _=>none
def run (G:List Fd) (gl:List D):Nat->Nat->List D->Option D
 | 0,_,_=>none
 | n+1,f,ds=>match G[f]? with
   | some fd=>if ds.length = fd.ps.length then (match entry fd.hf (fd.ps++fd.loc).length ds with
     | some δ=>outD (dG ⟨run G gl n,gl,hfs G⟩ fd.body δ)
     | none=>none) else none
   | none=>match G[f - tX]? with
     | some fd=>if tX<=f/\ds.length = fd.ps.length then (match entry fd.hf (fd.ps++fd.loc).length ds with
       | some δ=>LQ (dG ⟨run G gl n,gl,hfs G⟩ fd.body δ)
       | none=>none) else none
     | none=>none
def bM:E->Bool
 | .pk _=>true
 | _=>false
mutual
noncomputable def np:E->Bool
 | .bin _ a b | .cmp _ a b | .and a b | .or a b | .ix a b=>np a && np b
 | .not a=>np a
 | .neg a=>np a
 | .fstr _ a=>np a
 | .ite c a b=>np c && np a && np b
 | .tup es | .lst es | .call _ es | .blt _ es | .callv _ es | .callF _ es _=>npS es
 | .sl a lo hi=>np a && npO lo && npO hi
 | .comp _ _ src ifs elt=>npI src && npO ifs && np elt
 | .sset _ _ src1 _ src2 ifs elt=>npI src1 && npI src2 && npO ifs && np elt
 | _=>true
noncomputable def npS:Es->Bool
 | .nil=>true
 | .cons e es=>np e && npS es
noncomputable def npO:Eo->Bool
 | .no=>true
 | .yes e=>np e
noncomputable def npI:It->Bool
 | .rng e=>np e
 | .sq e=>np e
 | .zp es=>npS es
end
end PP
example:PP.evE ⟨λ_ _=>none,[],λ_=>false⟩ (.bin .add (.int 1) (.int 2)) [] = some (.int 3,[]):=rfl
end
section
namespace PP
open PySem L2
def KLs (K:PySem.W.Frag) (a:au) (xs:List V):Prop:=∃ (its:Array ah) (n:Nat),K.lookup a = some ⟨.type "list",none,.seq its n,#[]⟩/\its.size<=sizeLine/\Vals xs its.toList
def Ls (K:PySem.W.Frag) (H:Hp) (F:au->Prop) (a:au) (xs:List V):Prop:=(Rd H a (.lst xs)/\¬ F a)\/KLs K a xs
def LsB (K:PySem.W.Frag) (H:Hp) (a:au) (xs:List V):Prop:=Rd H a (.lst xs)\/KLs K a xs
def Ls.b {K:PySem.W.Frag} {H:Hp} {F:au->Prop} {a:au} {xs:List V} (h:Ls K H F a xs):LsB K H a xs:=h.imp (·.1) id
def LsB.sq (h:LsB K H a xs):SqL K H a xs:=by
 rcases h with h | ⟨its,n,h1,h2,h3⟩
 . exact .inl h
 . exact .inr ⟨_,its,n,h1,rfl,rfl,rfl,h2,h3⟩
def Ls.sq (h:Ls K H F a xs):SqL K H a xs:=h.b.sq
def LsB.obj (I:Inv X pins σ H s) (h:LsB X.K H a xs) :
 ∃ (its:List ah) (n:Nat),Vals xs its/\s.heap.get? a = some { cls:=.type "list",data:=.seq its.toArray n }/\xs.length<=sizeLine:=by
 rcases h with h | ⟨its,n,h1,h2,h3⟩
 . obtain ⟨z,its,n,r,e⟩:=h.ok I.hok;exact ⟨its,n,r,e,z⟩
 . refine ⟨its.toList,n,h3,?_,?_⟩
   . have:=I.kIn a _ h1;simpa using this
   . have:=h3.length;rw [this];simpa using h2
mutual
noncomputable def Rel (K:PySem.W.Frag) (H:Hp) (F:au->Prop):D->V->Prop
 | .non,v=>v = .non
 | .bl b,v=>v = .bl b
 | .int i,v=>v = .int i
 | .str x,v=>v = .str x
 | .lst ds,v=>∃ a xs,v = .ref a/\Ls K H F a xs/\aN K H F ds xs
 | .tup ds,v=>∃ a xs,v = .ref a/\SqT K H a xs/\aN K H F ds xs
 | .fn _ _,_=>False
noncomputable def aN (K:PySem.W.Frag) (H:Hp) (F:au->Prop):List D->List V->Prop
 | [],xs=>xs = []
 | d::ds,xs=>∃ y ys,xs = y::ys/\Rel K H F d y/\aN K H F ds ys
end
def NT:HO->Prop
 | .tbl _=>False
 | _=>True
structure Sim (H H':Hp):Prop where
 nt:∀ b o,NT o->H b = some o->H' b = some o
 tb:∀ b ps,H b = some (.tbl ps)->∃ qs,H' b = some (.tbl qs)
def Sim.of (h:iW H H'):Sim H H':=⟨λb o _ e=>h b o e,λb ps e=>⟨ps,h b _ e⟩⟩
def Sim.refl (H:Hp):Sim H H:=⟨λb o _ e=>e,λb ps e=>⟨ps,e⟩⟩
def Sim.trans (a:Sim H H1) (b:Sim H1 H2):Sim H H2:=⟨λx o n e=>b.nt x o n (a.nt x o n e),λx ps e=>by
 obtain ⟨qs,e⟩:=a.tb x ps e;exact b.tb x qs e⟩
def Fz (H:Hp) (a:au) (o:Obj):Prop:=H a = some (.frz o (.ext λh=>h.get? a = some o))
structure Lam where
 qual:Str
 params:oX
 body:aE
 scope:eA
 ps:List Str
 caps:List Str
class Tbs where
 ts:List (au × Str)
 lams:List (Nat × Lam)
 gds:List (Str × List (Str × Int))
variable [Tbs]
def Mo:HO->Prop
 | .lst _=>True
 | .ext _=>True
 | .dK _=>True
 | _=>False
def flV:D->V
 | .bl b=>.bl b
 | .int i=>.int i
 | .str x=>.str x
 | _=>.non
def kZ (H:Hp):List au->List D->Prop
 | [],ds=>ds = []
 | c::r,ds=>∃ d ds' o u,ds = d::ds'/\flat d = true/\Fz H c o/\o.data = .cell (some u)/\RelV (flV d) u/\kZ H r ds'
def FnV (H:Hp) (k:Nat) (cs:List D) (a:au):Prop:=∃ (L:Lam) (pm ctv:ah) (c':au) (oc:Obj) (vs:Array ah) (tk:Tok) (cells:List au),
 Tbs.lams.lookup k = some L/\Fz H a (PySem.W.kla_obj "<lambda>" L.qual L.params L.body L.scope (L.caps.zip cells) pm c' ctv)/\Fz H c' oc/\oc.data = .fields vs/\vs[1]? = some (.str L.qual tk)/\cells.Nodup/\cells.length = L.caps.length/\kZ H cells cs
def kZ.keep {H H':Hp} (k:∀ a o,Fz H a o->Fz H' a o):∀ {cells:List au} {cs:List D},kZ H cells cs->kZ H' cells cs
 | [],_,h=>h
 | c::r,cs,h=>by
   obtain ⟨d,ds',o,u,e,h1,h2,h3,h4,h5⟩:=h;exact ⟨d,ds',o,u,e,h1,k _ _ h2,h3,h4,kZ.keep k h5⟩
def FnV.keep {H H':Hp} (k:∀ a o,Fz H a o->Fz H' a o) {n:Nat} {cs:List D} {a:au} (h:FnV H n cs a):FnV H' n cs a:=by
 obtain ⟨L,pm,ctv,c',oc,vs,tk,cells,h1,h2,h3,h4,h5,h6,h7,h8⟩:=h;exact ⟨L,pm,ctv,c',oc,vs,tk,cells,h1,k _ _ h2,k _ _ h3,h4,h5,h6,h7,h8.keep k⟩
def ik (H:Hp):Prop:=∀ t∈Tbs.ts,∃ ps,H t.1 = some (.tbl ps)/\TriplesOk ps.toList/\∀ pos cv,codeAmong pos ps.toList = some cv->∃ c o vs tk,cv = .ref c/\Fz H c o/\o.data = .fields vs/\vs[1]? = some (.str t.2 tk)
def ik.keep {H H':Hp} (h:ik H) (k:∀ b o,¬ Mo o->H b = some o->H' b = some o):ik H':=λt ht=>by
 obtain ⟨ps,h1,h2,h3⟩:=h t ht;refine ⟨ps,k _ _ (λz=>z) h1,h2,λpos cv e=>?_⟩;obtain ⟨c,o,vs,tk,e1,e2,e3⟩:=h3 pos cv e;exact ⟨c,o,vs,tk,e1,k _ _ (λz=>z) e2,e3⟩
def FD (F:au->Prop) (H:Hp):Prop:=∀ b,F b->∃ o,H b = some o/\(Mo o\/(∃ ps,o = .tbl ps)/\∃ t∈Tbs.ts,t.1 = b)
def FD.not (fd:FD F H) (e:H a = some o) (n:¬ Mo o) (t:NT o):¬ F a:=λz=>by
 obtain ⟨u,e2,h⟩:=fd a z;rw [e] at e2;cases e2;rcases h with h | ⟨⟨ps,rfl⟩,_⟩
 . exact n h
 . exact t
def FD.none (fd:FD F H) (e:H a = Option.none):¬ F a:=λz=>by
 obtain ⟨u,e2,_⟩:=fd a z;rw [e] at e2;cases e2
def TF (F:au->Prop):Prop:=∀ t∈Tbs.ts,F t.1
structure Gh where
 h:Hp
 R:au->Prop
def Gh.free (G:Gh) (a:au):Prop:=G.h a = none/\¬ G.R a
def g0:Gh:=⟨λ_=>none,λ_=>False⟩
structure Step (G:Gh) (F:au->Prop) (H:Hp) (F':au->Prop) (H':Hp):Prop where
 keep:∀ b o,NT o->H b = some o->¬ F b->H' b = some o
 grow:∀ b,F' b->F b\/H b = none
 res:∀ b o,G.R b->F b->H b = some o->F' b/\H' b = some o
 tb:∀ b ps,H b = some (.tbl ps)->∃ qs,H' b = some (.tbl qs)
def Step.refl:Step G F H F H:=⟨λ_ _ _ h _=>h,λ_ h=>.inl h,λ_ _ _ h e=>⟨h,e⟩,λ_ ps e=>⟨ps,e⟩⟩
def Step.trans (a:Step G F H F1 H1) (b:Step G F1 H1 F2 H2):Step G F H F2 H2 where
 keep:=λx o t h n=>b.keep x o t (a.keep x o t h n) λz=>by
  rcases a.grow x z with q | q
  . exact n q
  . rw [h] at q;cases q
 grow:=λx h=>by
  rcases b.grow x h with q | q
  . exact a.grow x q
  . by_cases f:F x
    . exact .inl f
    . right
      cases e:H x with
      | none=>rfl
      | some o =>
        by_cases t:NT o
        . rw [a.keep x o t e f] at q;cases q
        . cases o<;>first | (exact absurd trivial t) | skip
          obtain ⟨qs,z⟩:=a.tb x _ e;rw [z] at q;cases q
 res:=λx o r h e=>by
  obtain ⟨h1,e1⟩:=a.res x o r h e;exact b.res x o r h1 e1
 tb:=λx ps e=>by
  obtain ⟨qs,e⟩:=a.tb x ps e;exact b.tb x qs e
def Step.of_same (h:iW H H'):Step G F H F H':=⟨λb o _ e _=>h b o e,λ_ h=>.inl h,λb o _ f e=>⟨f,h b o e⟩,λb ps e=>⟨ps,h b _ e⟩⟩
section
variable {K:PySem.W.Frag} {G:Gh} {H H':Hp} {F F':au->Prop}
def yR (t:NT u) (k:∀ b o,NT o->H b = some o->¬ F b->H' b = some o) (n:¬ F a) (h:Rd H a u):Rd H' a u:=by
 rcases h with h | ⟨o,h⟩
 . exact .inl (k a _ t h n)
 . exact .inr ⟨o,k a _ trivial h n⟩
def vo (fd:FD F H) (k:∀ b o,NT o->H b = some o->¬ F b->H' b = some o) (h:SqT K H a xs):SqT K H' a xs:=by
 rcases h with h | h
 . refine .inl (yR trivial k (λz=>?_) h);rcases h with h | ⟨o,h⟩
   . exact fd.not h (λz=>z) trivial z
   . exact fd.not h (λz=>z) trivial z
 . exact .inr h
def Ls.step {a:au} {xs:List V} (s:Step G F H F' H') (h:Ls K H F a xs):Ls K H' F' a xs:=by
 rcases h with ⟨h1,h2⟩ | h
 . refine .inl ⟨yR trivial s.keep h2 h1,λz=>?_⟩;rcases s.grow a z with q | q
   . exact h2 q
   . rcases h1 with h | ⟨o,h⟩
     . rw [h] at q;cases q
     . rw [h] at q;cases q
 . exact .inr h
def pI (fd:FD F H) (k:∀ b o,NT o->H b = some o->¬ F b->H' b = some o):∀ a o,Fz H a o->Fz H' a o:=λa o h=>by
 exact k a _ trivial h (fd.not h (λz=>z) trivial)
mutual
theorem Rel.step (fd:FD F H) (s:Step G F H F' H'):∀ (d:D) (v:V),Rel K H F d v->Rel K H' F' d v
 | .non,v,h=>by unfold Rel at h |-;exact h
 | .bl b,v,h=>by unfold Rel at h |-;exact h
 | .int i,v,h=>by unfold Rel at h |-;exact h
 | .str x,v,h=>by unfold Rel at h |-;exact h
 | .lst ds,v,h=>by
   unfold Rel at h |-;obtain ⟨a,xs,e,h1,h3⟩:=h
   exact ⟨a,xs,e,h1.step s,aN.step fd s ds xs h3⟩
 | .tup ds,v,h=>by
   unfold Rel at h |-;obtain ⟨a,xs,e,h1,h3⟩:=h
   exact ⟨a,xs,e,vo fd s.keep h1,aN.step fd s ds xs h3⟩
 | .fn _ _,v,h=>by unfold Rel at h;exact h.elim
theorem aN.step (fd:FD F H) (s:Step G F H F' H'):∀ (ds:List D) (xs:List V),aN K H F ds xs->aN K H' F' ds xs
 | [],xs,h=>by unfold aN at h |-;exact h
 | d::ds,xs,h=>by
   unfold aN at h |-;obtain ⟨y,ys,e,h1,h2⟩:=h;exact ⟨y,ys,e,Rel.step fd s d y h1,aN.step fd s ds ys h2⟩
end
def Rel.less (fd:FD F H) (hs:∀ b,F' b->F b) {d:D} {v:V} (h:Rel K H F d v):Rel K H F' d v :=
 Rel.step (G:=g0) fd ⟨λ_ _ _ h _=>h,λb z=>.inl (hs b z),λ_ _ r _ _=>r.elim,λ_ ps e=>⟨ps,e⟩⟩ d v h
def aN.less (fd:FD F H) (hs:∀ b,F' b->F b) {ds:List D} {xs:List V} (h:aN K H F ds xs):aN K H F' ds xs :=
 aN.step (G:=g0) fd ⟨λ_ _ _ h _=>h,λb z=>.inl (hs b z),λ_ _ r _ _=>r.elim,λ_ ps e=>⟨ps,e⟩⟩ ds xs h
mutual
theorem Rel.free (fd:FD F' H):∀ (d:D) (v:V),lf d = true->Rel K H F d v->Rel K H F' d v
 | .non,v,_,h=>by unfold Rel at h |-;exact h
 | .bl b,v,_,h=>by unfold Rel at h |-;exact h
 | .int i,v,_,h=>by unfold Rel at h |-;exact h
 | .str x,v,_,h=>by unfold Rel at h |-;exact h
 | .lst ds,v,l,h=>by unfold lf at l;cases l
 | .tup ds,v,l,h=>by
   unfold lf at l;unfold Rel at h |-;obtain ⟨a,xs,e,h1,h3⟩:=h
   exact ⟨a,xs,e,h1,aN.free fd ds xs l h3⟩
 | .fn _ _,v,l,h=>by unfold lf at l;cases l
theorem aN.free (fd:FD F' H):∀ (ds:List D) (xs:List V),lfL ds = true->aN K H F ds xs->aN K H F' ds xs
 | [],xs,_,h=>by unfold aN at h |-;exact h
 | d::ds,xs,l,h=>by
   unfold lfL at l;rw [aa] at l;unfold aN at h |-;obtain ⟨y,ys,e,h1,h2⟩:=h;exact ⟨y,ys,e,Rel.free fd d y l.1 h1,aN.free fd ds ys l.2 h2⟩
end
def aN.length:∀ {ds:List D} {xs:List V},aN K H F ds xs->xs.length = ds.length
 | [],xs,h=>by unfold aN at h;subst h;rfl
 | d::ds,xs,h=>by
   unfold aN at h;obtain ⟨y,ys,e,_,h2⟩:=h;subst e;rw [aw,aw,aN.length h2]
def aN.get:∀ {ds:List D} {xs:List V} {i:Nat} {d:D},aN K H F ds xs->ds[i]? = some d->∃ v,xs[i]? = some v/\Rel K H F d v
 | [],_,_,_,_,e=>by simp at e
 | d::ds,xs,i,d',h,e=>by
   unfold aN at h;obtain ⟨y,ys,q,h1,h2⟩:=h;subst q
   cases i with
   | zero=>simp at e;subst e;exact ⟨y,rfl,h1⟩
   | succ i =>
     obtain ⟨v,h3,h4⟩:=aN.get (i:=i) h2 (by simpa using e);exact ⟨v,by simpa using h3,h4⟩
def aN.append:∀ {ds es:List D} {xs ys:List V},aN K H F ds xs->aN K H F es ys->aN K H F (ds++es) (xs++ys)
 | [],es,xs,ys,h,h'=>by unfold aN at h;subst h;exact h'
 | d::ds,es,xs,ys,h,h'=>by
   unfold aN at h;obtain ⟨y,zs,q,h1,h2⟩:=h;subst q;show aN K H F (d::(ds++es)) (y::(zs++ys));unfold aN;exact ⟨y,zs++ys,rfl,h1,aN.append h2 h'⟩
def aN.one (h:Rel K H F d v):aN K H F [d] [v]:=by
 unfold aN;exact ⟨v,[],rfl,h,by unfold aN;rfl⟩
def aN.nil:aN K H F [] []:=by unfold aN;rfl
def aN.cons {d:D} {v:V} {ds:List D} {xs:List V} (h:Rel K H F d v) (t:aN K H F ds xs):aN K H F (d::ds) (v::xs):=by
 unfold aN;exact ⟨v,xs,rfl,h,t⟩
def aN.take:∀ {ds:List D} {xs:List V} (n:Nat),aN K H F ds xs->aN K H F (ds.take n) (xs.take n)
 | [],xs,n,h=>by unfold aN at h;subst h;simp;exact aN.nil
 | d::ds,xs,0,h=>by simp;exact aN.nil
 | d::ds,xs,n+1,h=>by
   unfold aN at h;obtain ⟨y,ys,q,h1,h2⟩:=h;subst q;rw [BV,BV];exact aN.cons h1 (aN.take n h2)
def aN.drop:∀ {ds:List D} {xs:List V} (n:Nat),aN K H F ds xs->aN K H F (ds.drop n) (xs.drop n)
 | [],xs,n,h=>by unfold aN at h;subst h;simp;exact aN.nil
 | d::ds,xs,0,h=>h
 | d::ds,xs,n+1,h=>by
   unfold aN at h;obtain ⟨y,ys,q,h1,h2⟩:=h;subst q;rw [BX,BX];exact aN.drop n h2
def aN.set {d:D} {v:V} (r:Rel K H F d v):∀ {ds:List D} {xs:List V} (n:Nat),aN K H F ds xs->aN K H F (ds.set n d) (xs.set n v)
 | [],xs,n,h=>by unfold aN at h;subst h;simp;exact aN.nil
 | e::ds,xs,0,h=>by
   unfold aN at h;obtain ⟨y,ys,q,h1,h2⟩:=h;subst q
   exact aN.cons r h2
 | e::ds,xs,n+1,h=>by
   unfold aN at h;obtain ⟨y,ys,q,h1,h2⟩:=h;subst q;exact aN.cons h1 (aN.set r n h2)
def aN.cut (lo hi:Option Int) (h:aN K H F ds xs):aN K H F (cutD ds lo hi) (rG xs lo hi):=by
 unfold cutD rG;rw [h.length];exact (h.drop _).take _
end
def dC (K:PySem.W.Frag) (H:Hp) (F:au->Prop) (d:D) (v:V):Prop:=Rel K H F d v\/∃ a xs ds,d = .lst ds/\v = .ref a/\H a = some (.lst xs)/\aN K H F ds xs
def RelM (m:Bool) (K:PySem.W.Frag) (H:Hp) (F:au->Prop) (d:D) (v:V):Prop:=if m = true then dC K H F d v else Rel K H F d v
def RelM.b {m:Bool} {K:PySem.W.Frag} {H:Hp} {F:au->Prop} {d:D} {v:V} (h:RelM m K H F d v):dC K H F d v:=by
 unfold RelM at h;split at h
 . exact h
 . exact .inl h
def dC.same {K:PySem.W.Frag} {G:Gh} {H H':Hp} {F F':au->Prop} {d:D} {v:V} (fd:FD F H) (s:Step G F H F' H') (k:Sim H H') (h:dC K H F d v):dC K H' F' d v:=by
 rcases h with h | ⟨a,xs,ds,e1,e2,h1,h2⟩
 . exact .inl (Rel.step fd s d v h)
 . exact .inr ⟨a,xs,ds,e1,e2,k.nt _ _ trivial h1,aN.step fd s ds xs h2⟩
def RelM.step {m:Bool} {K:PySem.W.Frag} {G:Gh} {H H':Hp} {F F':au->Prop} {d:D} {v:V} (fd:FD F H) (s:Step G F H F' H') (k:m = true->Sim H H') (h:RelM m K H F d v):RelM m K H' F' d v:=by
 cases m with
 | true=>exact dC.same fd s (k rfl) h
 | false=>exact Rel.step fd s d v h
def fC (K:PySem.W.Frag) (G:Gh) (F:au->Prop) (H:Hp) (o:Option (Option V)):Sl->Prop
 | .no=>True
 | .val d=>∃ v,o = some (some v)/\Rel K H F d v
 | .own ds=>∃ a xs,o = some (some (.ref a))/\F a/\G.free a/\H a = some (.lst xs)/\aN K H F ds xs
 | .fnc k cs=>∃ a,o = some (some (.ref a))/\FnV H k cs a
def ow:Sl->Bool
 | .own _=>true
 | _=>false
structure Ok (K:PySem.W.Frag) (G:Gh) (F:au->Prop) (σ:St) (H:Hp) (δ:Loc):Prop where
 same:Sim G.h H
 fd:FD F H
 rf:∀ b,G.R b->F b
 rl:∀ b,G.R b->∃ o,H b = some o/\Mo o
 tf:TF F
 tabs:ik H
 len:δ.length = σ.length
 sl:∀ (i:Nat) (s:Sl),δ[i]? = some s->fC K G F H σ[i]? s
 apart:∀ (i j:Nat) (s t:Sl) (a:au),δ[i]? = some s->δ[j]? = some t->ow s = true->ow t = true->σ[i]? = some (some (.ref a))->σ[j]? = some (some (.ref a))->i = j
section
variable {K:PySem.W.Frag} {G:Gh} {H H':Hp} {F F':au->Prop} {σ:St} {δ:Loc}
def fC.same {o:Option (Option V)} (fd:FD F H) (k:iW H H'):∀ {s:Sl},fC K G F H o s->fC K G F H' o s
 | .no,_=>trivial
 | .val d,h=>by
   obtain ⟨v,e,h⟩:=h
   exact ⟨v,e,Rel.step (G:=G) fd (Step.of_same k) d v h⟩
 | .own ds,h=>by
   obtain ⟨a,xs,e,h1,h2,h3,h4⟩:=h
   exact ⟨a,xs,e,h1,h2,k _ _ h3,aN.step (G:=G) fd (Step.of_same k) ds xs h4⟩
 | .fnc n cs,h=>by
   obtain ⟨a,e,h⟩:=h;exact ⟨a,e,h.keep λa o z=>k _ _ z⟩
def FD.same (fd:FD F H) (k:iW H H'):FD F H':=λb h=>by
 obtain ⟨o,e,q⟩:=fd b h;exact ⟨o,k _ _ e,q⟩
def yN {P:au->Prop} (h:∀ b,P b->∃ o,H b = some o/\Mo o) (k:iW H H'):∀ b,P b->∃ o,H' b = some o/\Mo o:=λb z=>by
 obtain ⟨o,e,q⟩:=h b z;exact ⟨o,k _ _ e,q⟩
def Ok.same' (h:Ok K G F σ H δ) (k:iW H H'):Ok K G F σ H' δ :=
 ⟨h.same.trans (.of k),h.fd.same k,h.rf,yN h.rl k,h.tf,h.tabs.keep λb o _ e=>k b o e,h.len,λi s e=>(h.sl i s e).same h.fd k,h.apart⟩
def cn (h:H p = none) (o:HO):iW H (upd H p o):=λb u q=>by rw [bx (gL q h)];exact q
def fC.less {o:Option (Option V)} (fd:FD F H) (hs:∀ b,F' b->F b):∀ {s:Sl},(∀ a,ow s = true->o = some (some (.ref a))->F' a)->fC K G F H o s->fC K G F' H o s
 | .no,_,_=>trivial
 | .val d,_,h=>by
   obtain ⟨v,e,h⟩:=h
   exact ⟨v,e,Rel.less fd hs h⟩
 | .own ds,q,h=>by
   obtain ⟨a,xs,e,h1,h2,h3,h4⟩:=h
   exact ⟨a,xs,e,q a rfl e,h2,h3,aN.less fd hs h4⟩
 | .fnc n cs,_,h=>h
inductive iq (K:PySem.W.Frag) (H:Hp) (F:au->Prop):D->HO->Prop
 | lst {ds:List D} {xs:List V}:aN K H F ds xs->iq K H F (.lst ds) (.lst xs)
def owS:D->Sl
 | .lst ds=>.own ds
 | _=>.no
def Ib {d d':D} (h:ow (owS d) = true) (e:owS d = owS d'):d = d':=by
 cases d<;>first | (cases h;done) | skip
 . cases d'<;>first | (cases e;rfl) | cases e
def iq.mo {d:D} {o:HO} (h:iq K H F d o):Mo o/\ow (owS d) = true:=by
 cases h<;>exact ⟨trivial,rfl⟩
def iq.step (fd:FD F H) (s:Step G F H F' H') {d:D} {o:HO} (h:iq K H F d o):iq K H' F' d o:=by
 cases h with
 | lst h=>exact .lst (aN.step fd s _ _ h)
def iq.sl {o:Option (Option V)} {a:au} {d:D} {u:HO} (e:o = some (some (.ref a))) (hF:F a) (hg:G.free a) (h:H a = some u) (r:iq K H F d u):fC K G F H o (owS d):=by
 cases r with
 | lst r=>exact ⟨a,_,e,hF,hg,h,r⟩
def fC.ow {o:Option (Option V)} {s:Sl} (h:fC K G F H o s) (q:ow s = true):∃ a u d,o = some (some (.ref a))/\F a/\G.free a/\H a = some u/\iq K H F d u/\s = owS d:=by
 cases s with
 | own ds =>
   obtain ⟨a,xs,e,h1,h2,h3,h4⟩:=h
   exact ⟨a,_,.lst ds,e,h1,h2,h3,.lst h4,rfl⟩
 | _=>cases q
def fC.stay0 (fd:FD F H) (st:Step G' F H F' H') (k:∀ a u,o = some (some (.ref a))->F a->G.free a->H a = some u->F' a/\H' a = some u):∀ {s:Sl},fC K G F H o s->fC K G F' H' o s
 | .no,_=>trivial
 | .fnc n cs,h=>by
   obtain ⟨v,e,z⟩:=h
   exact ⟨v,e,z.keep (pI fd st.keep)⟩
 | .val d,h=>by
   obtain ⟨v,e,z⟩:=h
   exact ⟨v,e,Rel.step fd st d v z⟩
 | .own ds,h=>by
   obtain ⟨a,u,d,e,h1,h2,h3,h4,e5⟩:=fC.ow h rfl;rw [e5];obtain ⟨k1,k2⟩:=k a u e h1 h2 h3;exact iq.sl e k1 h2 k2 (h4.step fd st)
def fC.stay {o:Option (Option V)} (fd:FD F H) (st:Step G F H F' H') (k:∀ a u,o = some (some (.ref a))->F a->G.free a->H a = some u->F' a/\H' a = some u) {s:Sl} (h:fC K G F H o s):fC K G F' H' o s:=fC.stay0 fd st k h
def fC.free {G':Gh} {o:Option (Option V)} (k:∀ a,F a->G.free a->G'.free a):∀ {s:Sl},fC K G F H o s->fC K G' F H o s
 | .no,_=>trivial
 | .fnc n cs,h=>h
 | .val d,h=>h
 | .own ds,h=>by
   obtain ⟨a,xs,e,h1,h2,h3⟩:=h;exact ⟨a,xs,e,h1,k a h1 h2,h3⟩
def iq.rel (fd:FD F H) (hs:∀ b,F' b->F b) {a:au} (n:¬ F' a) {d:D} {u:HO} (h:H a = some u) (r:iq K H F d u):Rel K H F' d (.ref a):=by
 cases r with
 | lst r =>
   unfold Rel;exact ⟨a,_,rfl,.inl ⟨.inl h,n⟩,aN.less fd hs r⟩
def fU {α:Type} {l:List α} {i j:Nat} {x y:α} (hi:i < l.length) (q:(l.set i x)[j]? = some y):(j = i/\y = x)\/(j≠i/\l[j]? = some y):=by
 by_cases hj:j = i
 . subst hj;rw [cN hi] at q;cases q;exact .inl ⟨rfl,rfl⟩
 . rw [bG (Ne.symm hj)] at q;exact .inr ⟨hj,q⟩
def Ok.demote (h:Ok K G F σ H δ) {i:Nat} {d:D} {a:au} (e:δ[i]? = some (owS d)) (eo:ow (owS d) = true) (ea:σ[i]? = some (some (.ref a))) :
 Ok K G (λb=>F b/\b≠a) σ H (δ.set i (.val d))/\Rel K H (λb=>F b/\b≠a) d (.ref a):=by
 have hi:i < δ.length:=(aF.mp e).1;obtain ⟨a',u,d',e1,h1,h2,h3,h4,ed⟩:=fC.ow (h.sl i _ e) eo;rw [ea] at e1;cases e1;have ed:=Ib eo ed;subst ed;have hs:∀ b,(F b/\b≠a)->F b:=λb z=>z.1;have r:Rel K H (λb=>F b/\b≠a) d (.ref a):=iq.rel h.fd hs (λz=>z.2 rfl) h3 h4
 have tf':TF λb=>F b/\b≠a:=λt ht=>⟨h.tf t ht,λw=>by
  obtain ⟨ps,e2,_⟩:=h.tabs t ht;rw [w,h3] at e2;cases e2;exact h4.mo.1⟩
 refine ⟨⟨h.same,λb z=>h.fd b z.1,λb z=>⟨h.rf b z,λw=>h2.2 (by rw [<- w];exact z)⟩,h.rl,tf',h.tabs,by rw [cm];exact h.len,λj s q=>?_,λj k s t b q1 q2 o1 o2 p1 p2=>?_⟩,r⟩
 . rcases fU hi q with ⟨rfl,rfl⟩ | ⟨hj,q⟩
   . exact ⟨.ref a,ea,r⟩
   . refine (h.sl j s q).less h.fd hs λb z zb=>?_;obtain ⟨b',u',d',e1,f1,_⟩:=fC.ow (h.sl j _ q) z;rw [zb] at e1;cases e1;exact ⟨f1,λw=>hj (h.apart j i _ _ a q e z eo (by rw [zb,w]) ea)⟩
 . rcases fU hi q1 with ⟨rfl,rfl⟩ | ⟨hj,q1⟩
   . cases o1
   . rcases fU hi q2 with ⟨rfl,rfl⟩ | ⟨hk,q2⟩
     . cases o2
     . exact h.apart j k s t b q1 q2 o1 o2 p1 p2
def Ok.set (h:Ok K G F σ H δ) {i:Nat} {d:D} {v:V} (hi:i < δ.length) (r:Rel K H F d v):Ok K G F (σ.set i (some v)) H (δ.set i (.val d)):=by
 have hi':i < σ.length:=by rw [<- h.len];exact hi
 refine ⟨h.same,h.fd,h.rf,h.rl,h.tf,h.tabs,by rw [cm,cm];exact h.len,λj s q=>?_,λj k s t b q1 q2 o1 o2 p1 p2=>?_⟩
 . rcases fU hi q with ⟨rfl,rfl⟩ | ⟨hj,q⟩
   . exact ⟨v,by rw [cN hi'],r⟩
   . rw [bG (Ne.symm hj)];exact h.sl j s q
 . rcases fU hi q1 with ⟨rfl,rfl⟩ | ⟨hj,q1⟩
   . cases o1
   . rcases fU hi q2 with ⟨rfl,rfl⟩ | ⟨hk,q2⟩
     . cases o2
     . rw [bG (Ne.symm hj)] at p1;rw [bG (Ne.symm hk)] at p2;exact h.apart j k s t b q1 q2 o1 o2 p1 p2
def Ok.ownO (h:Ok K G F σ H δ) {i:Nat} {d:D} {u:HO} {p:au} (hi:i < δ.length) (hp:F p) (hg:G.free p) (e:H p = some u) (r:iq K H F d u)
 (hn:∀ (j:Nat) s,δ[j]? = some s->ow s = true->σ[j]?≠some (some (.ref p))):Ok K G F (σ.set i (some (.ref p))) H (δ.set i (owS d)):=by
 have hi':i < σ.length:=by rw [<- h.len];exact hi
 refine ⟨h.same,h.fd,h.rf,h.rl,h.tf,h.tabs,by rw [cm,cm];exact h.len,λj s q=>?_,λj k s t b q1 q2 o1 o2 p1 p2=>?_⟩
 . rcases fU hi q with ⟨rfl,rfl⟩ | ⟨hj,q⟩
   . exact iq.sl (by rw [cN hi']) hp hg e r
   . rw [bG (Ne.symm hj)];exact h.sl j s q
 . rcases fU hi q1 with ⟨rfl,rfl⟩ | ⟨hj,q3⟩
   . rcases fU hi q2 with ⟨rfl,rfl⟩ | ⟨hk,q2⟩
     . rfl
     . rw [cN hi'] at p1;rw [bG (Ne.symm hk)] at p2;cases p1;exact (hn k t q2 o2 p2).elim
   . rw [bG (Ne.symm hj)] at p1;rcases fU hi q2 with ⟨rfl,rfl⟩ | ⟨hk,q2⟩
     . rw [cN hi'] at p2;cases p2;exact (hn j s q3 o1 p1).elim
     . rw [bG (Ne.symm hk)] at p2;exact h.apart j k s t b q3 q2 o1 o2 p1 p2
def Ok.own (h:Ok K G F σ H δ) {i:Nat} {ds:List D} {xs:List V} {p:au} (hi:i < δ.length) (hp:F p) (hg:G.free p) (e:H p = some (.lst xs)) (r:aN K H F ds xs)
 (hn:∀ (j:Nat) s,δ[j]? = some s->ow s = true->σ[j]?≠some (some (.ref p))):Ok K G F (σ.set i (some (.ref p))) H (δ.set i (.own ds)):=h.ownO (d:=.lst ds) hi hp hg e (.lst r) hn
def Ok.writeO (h:Ok K G F σ H δ) {i:Nat} {d d':D} {a:au} {u:HO} (e:δ[i]? = some (owS d)) (eo:ow (owS d) = true) (ea:σ[i]? = some (some (.ref a))) (r:iq K H F d' u) :
 Ok K G F σ (upd H a u) (δ.set i (owS d'))/\Step G F H F (upd H a u):=by
 have hi:i < δ.length:=(aF.mp e).1;have e':=e;obtain ⟨a',x,d0,e1,h1,h2,h3,h4,_⟩:=fC.ow (h.sl i _ e) eo;rw [ea] at e1;cases e1
 have nt:NT x:=by
  have m:=h4.mo.1;cases x<;>first | trivial | exact m
 have st:Step G F H F (upd H a u):=⟨λb o _ q n=>by
  rw [bx (λz:b = a=>n (by rw [z];exact h1))];exact q,λb z=>.inl z,λb o r z e=>⟨z,by rw [bx (λw:b = a=>h2.2 (by rw [<- w];exact r))];exact e⟩,λb ps e=>⟨ps,by rw [bx (λw:b = a=>by rw [w,h3] at e;cases e;exact nt)];exact e⟩⟩
 have tb':ik (upd H a u):=h.tabs.keep λb o n e=>by rw [bx (λw:b = a=>by rw [w,h3] at e;cases e;exact n h4.mo.1)];exact e
 refine ⟨⟨⟨λb o t q=>?_,λb ps q=>?_⟩,λb z=>?_,h.rf,λb z=>?_,h.tf,tb',by rw [cm];exact h.len,λj s q=>?_,λj k s t b q1 q2 o1 o2 p1 p2=>?_⟩,st⟩
 . have:=h.same.nt b o t q;rw [bx (λz:b = a=>by rw [z,h2.1] at q;cases q)];exact this
 . rw [bx (λz:b = a=>by rw [z,h2.1] at q;cases q)];exact h.same.tb b ps q
 . by_cases hb:b = a
   . subst hb;exact ⟨u,bN,.inl r.mo.1⟩
   . rw [bx hb];exact h.fd b z
 . by_cases hb:b = a
   . subst hb;exact ⟨u,bN,r.mo.1⟩
   . rw [bx hb];exact h.rl b z
 . rcases fU hi q with ⟨rfl,rfl⟩ | ⟨hj,q⟩
   . exact iq.sl ea h1 h2 bN (r.step h.fd st)
   . cases eq:ow s with
     | true =>
       refine fC.stay h.fd st (λb v e f1 f2 f3=>⟨f1,?_⟩) (h.sl j s q);rw [bx (λw:b = a=>hj (h.apart j i _ _ a q e' eq eo (by rw [e,w]) ea))]
       exact f3
     | false =>
       have z:=h.sl j s q
       cases s with
       | no=>trivial
       | fnc n cs =>
         obtain ⟨v,e,z⟩:=z
         exact ⟨v,e,z.keep (pI h.fd st.keep)⟩
       | val d =>
         obtain ⟨v,e,z⟩:=z
         exact ⟨v,e,Rel.step h.fd st d v z⟩
       | own _=>cases eq
 . have un:∀ (m:Nat) (g:Sl),(δ.set i (owS d'))[m]? = some g->ow g = true->∃ g',δ[m]? = some g'/\ow g' = true:=λm g q o=>by
    rcases fU hi q with ⟨rfl,rfl⟩ | ⟨hj,q⟩
    . exact ⟨_,e,eo⟩
    . exact ⟨g,q,o⟩
   obtain ⟨g1,q1,o1⟩:=un j _ q1 o1;obtain ⟨g2,q2,o2⟩:=un k _ q2 o2;exact h.apart j k g1 g2 b q1 q2 o1 o2 p1 p2
def Ok.write (h:Ok K G F σ H δ) (e:δ[i]? = some (.own ds)) (ea:σ[i]? = some (some (.ref a))) (r:aN K H F es ys) :
 Ok K G F σ (upd H a (.lst ys)) (δ.set i (.own es))/\Step G F H F (upd H a (.lst ys)):=h.writeO (d:=.lst ds) (d':=.lst es) e rfl ea (.lst r)
def Mo.nt {o:HO} (m:Mo o):NT o:=by
 cases o<;>first | trivial | exact m
def Step.of_sim (rl:∀ b,G.R b->∃ o,H b = some o/\Mo o) (k:Sim H H'):Step G F H F H':=⟨λb o t e _=>k.nt b o t e,λb z=>.inl z,λb o r f e=>⟨f,by
 obtain ⟨u,e2,m⟩:=rl b r;rw [e] at e2;cases e2;exact k.nt b _ m.nt e⟩,k.tb⟩
def Ok.call (h:Ok K G F σ H δ) (k:Sim H H') (t:ik H'):Ok K G F σ H' δ/\Step G F H F H':=by
 have st:Step G F H F H':=Step.of_sim h.rl k;refine ⟨⟨h.same.trans k,λb z=>?_,h.rf,λb z=>?_,h.tf,t,h.len,λi s e=>?_,h.apart⟩,st⟩
 . obtain ⟨o,e,m⟩:=h.fd b z;rcases m with m | ⟨⟨ps,rfl⟩,t⟩
   . exact ⟨o,k.nt _ _ m.nt e,.inl m⟩
   . obtain ⟨qs,e⟩:=k.tb b ps e;exact ⟨_,e,.inr ⟨⟨qs,rfl⟩,t⟩⟩
 . obtain ⟨o,e,m⟩:=h.rl b z;exact ⟨o,k.nt _ _ m.nt e,m⟩
 . cases eq:ow s with
   | true =>
     obtain ⟨_,_,_,_,_,_,h3,h4,_⟩:=fC.ow (h.sl i s e) eq;refine fC.stay h.fd st (λb v e2 f1 f2 f3=>⟨f1,?_⟩) (h.sl i s e);obtain ⟨o,e3,m⟩:=h.fd b f1;rw [f3] at e3;cases e3;rcases m with m | ⟨⟨ps,rfl⟩,t,ht,eb⟩
     . exact k.nt _ _ m.nt f3
     . exfalso;obtain ⟨c,w,d,e5,_,_,e7,r7,_⟩:=fC.ow (h.sl i s e) eq;rw [e2] at e5;cases e5;rw [f3] at e7;cases e7
       exact r7.mo.1
   | false =>
     have q:=h.sl i s e
     cases s with
     | no=>trivial
     | fnc n cs =>
       obtain ⟨v,e,r⟩:=q
       exact ⟨v,e,r.keep (pI h.fd st.keep)⟩
     | val d =>
       obtain ⟨v,e,r⟩:=q
       exact ⟨v,e,Rel.step h.fd st d v r⟩
     | own _=>cases eq
end
end PP
end
section
namespace PP
open PySem L2 PyProof.Rows PySem.SeqAt
variable [Tbs]
def BD (xs:List (Array Nat)):∀ a:Array Nat,(xs.foldl (·++·) a).toList = a.toList++(xs.map (·.toList)).flatten:=by
 induction xs with
 | nil=>intro a;simp
 | cons x r ih=>intro a;rw [lq,ih];simp
def IB (x:Str) (n:Int) (h:0<=n):Txt.mul x n = xI x n.toNat:=by
 unfold Txt.mul xI;by_cases h1:n < 1
 . have:n = 0:=by lia
   subst this;rfl
 . rw [if_neg h1];by_cases h2:(n == 1 || x.length == 0) = true
   . rw [if_pos h2];rw [dv] at h2;rcases h2 with h2 | h2
     . have:n = 1:=by simpa using h2
       subst this;simp
     . have e:x.cps = #[]:=by
        have:x.cps.size = 0:=by simpa [Str.length] using h2
        exact Array.eq_empty_of_size_eq_zero this
       cases x;simp at e;subst e;simp
   . rw [if_neg h2];congr 1;apply Array.ext';rw [BD];simp
def Ic:OpR X (binaryOp .Mult) (λx y H Q=>∃ i n,x = .str i/\y = .int n/\(0<=n/\n<=1000/\i.length<=1000)/\Q (.str (xI i n.toNat)) H):=by
 intro pins s σ H x y v u Q I rx ry h;obtain ⟨i,n,rfl,rfl,⟨h1,h2,h3⟩,q⟩:=h;obtain ⟨t,rfl⟩:=rx;obtain ⟨t',rfl⟩:=ry;refine SB.mul ⟨?_,λa _ b=>?_,λa _=>?_⟩ λt' k=>?_
 . simp;lia
 . have:(1000:Int)<=(2 ^ 63 - 1) / n:=by rw [Int.le_ediv_iff_mul_le ∅];lia
   lia
 . have:i.length * n.toNat<=1000 * 1000:=Nat.mul_le_mul h3 ∅;have z:=cq;unfold Builtin.Str.tooLong;simp
   lia
 . rw [IB i n h1];exact ⟨.str _,H,I.tok _,⟨_,rfl⟩,q⟩
mutual
noncomputable def RdV (h:bJ):D->ah->Prop
 | .non,u=>u = .none
 | .bl b,u=>u = .bool b
 | .int i,u=>∃ t,u = .int i t
 | .str x,u=>∃ t,u = .str x t
 | .lst ds,u=>∃ a its,u = .ref a/\h.IsList a its/\RdL h ds its.toList
 | .tup ds,u=>∃ a its,u = .ref a/\h.IsTuple a its/\RdL h ds its.toList
 | .fn _ _,_=>False
noncomputable def RdL (h:bJ):List D->List ah->Prop
 | [],us=>us = []
 | d::ds,us=>∃ w ws,us = w::ws/\RdV h d w/\RdL h ds ws
end
mutual
theorem DU (I:Inv X pins σ H s):∀ (d:D) (v:V) (u:ah),Rel X.K H F d v->RelV v u->dep d < 100000->RdV s.heap d u
 | .non,v,u,h,r,_=>by unfold Rel at h;subst h;unfold RdV;exact r
 | .bl b,v,u,h,r,_=>by unfold Rel at h;subst h;unfold RdV;exact r
 | .int b,v,u,h,r,_=>by unfold Rel at h;subst h;unfold RdV;exact r
 | .str b,v,u,h,r,_=>by unfold Rel at h;subst h;unfold RdV;exact r
 | .lst ds,v,u,h,r,hd=>by
   unfold dep at hd;unfold Rel at h;obtain ⟨a,xs,e,h1,h3⟩:=h;subst e;cases (show u = iZ a from r);obtain ⟨its,rv,p,hz⟩:=I.list h1.sq;unfold RdV
   exact ⟨a,its.toArray,rfl,p.isList,qu I ds xs its h3 rv ∅⟩
 | .tup ds,v,u,h,r,hd=>by
   unfold dep at hd;unfold Rel at h;obtain ⟨a,xs,e,h1,h3⟩:=h;subst e;cases (show u = iZ a from r);obtain ⟨its,rv,p,hz⟩:=I.tuple h1;unfold RdV
   exact ⟨a,its.toArray,rfl,p,qu I ds xs its h3 rv ∅⟩
 | .fn _ _,v,u,h,r,_=>by unfold Rel at h;exact h.elim
theorem qu (I:Inv X pins σ H s):∀ (ds:List D) (xs:List V) (us:List ah),aN X.K H F ds xs->Vals xs us->dh ds < 100000->RdL s.heap ds us
 | [],xs,us,h,r,_=>by unfold aN at h;subst h;cases r;unfold RdL;rfl
 | d::ds,xs,us,h,r,hd=>by
   unfold dh at hd;unfold aN at h;obtain ⟨y,ys,e,h1,h2⟩:=h;subst e
   cases r with
   | cons r1 r2 =>
     unfold RdL;exact ⟨_,_,rfl,DU I d y _ h1 r1 ∅,qu I ds ys _ h2 r2 ∅⟩
end
def fF (I:Inv X pins σ H s) (h:dC X.K H F d v) (r:RelV v u) (hd:dep d < 100000):RdV s.heap d u:=by
 rcases h with h | ⟨a,xs,ds,rfl,rfl,h1,h2⟩
 . exact DU I d v u h r hd
 . cases (show u = iZ a from r);obtain ⟨its,rv,p,hz⟩:=I.list (.inl (.inl h1));unfold RdV;unfold dep at hd;exact ⟨a,its.toArray,rfl,p.isList,qu I ds xs its h2 rv ∅⟩
mutual
theorem RdV.inj:∀ (d e:D) (u:ah),RdV h d u->RdV h e u->d = e
 | .non,e,u,a,b=>by
   unfold RdV at a;subst a
   cases e<;>unfold RdV at b<;>first | rfl | (obtain ⟨_,_,b,_⟩:=b;cases b;done) | (obtain ⟨_,b⟩:=b;cases b;done) | (cases b;done)
 | .bl x,e,u,a,b=>by
   unfold RdV at a;subst a
   cases e<;>unfold RdV at b<;>first | (cases b;rfl) | (obtain ⟨_,_,b,_⟩:=b;cases b;done) | (obtain ⟨_,b⟩:=b;cases b;done) | (cases b;done)
 | .int x,e,u,a,b=>by
   unfold RdV at a;obtain ⟨t,a⟩:=a;subst a
   cases e<;>unfold RdV at b<;>first | (obtain ⟨_,_,b,_⟩:=b;cases b;done) | (obtain ⟨_,b⟩:=b;cases b;rfl) | (obtain ⟨_,b⟩:=b;cases b;done) | (cases b;done)
 | .str x,e,u,a,b=>by
   unfold RdV at a;obtain ⟨t,a⟩:=a;subst a
   cases e<;>unfold RdV at b<;>first | (obtain ⟨_,_,b,_⟩:=b;cases b;done) | (obtain ⟨_,b⟩:=b;cases b;rfl) | (obtain ⟨_,b⟩:=b;cases b;done) | (cases b;done)
 | .lst ds,e,u,a,b=>by
   unfold RdV at a;obtain ⟨l,its,a,h1,h2⟩:=a;subst a
   cases e with
   | lst es =>
     unfold RdV at b;obtain ⟨l',its',b,k1,k2⟩:=b;cases b;obtain ⟨o,g1,g2,n,g3⟩:=h1;obtain ⟨o',f1,f2,n',f3⟩:=k1;rw [g1] at f1;cases f1;rw [g3] at f3;cases f3
     rw [RdL.inj ds es _ h2 k2]
   | tup es =>
     unfold RdV at b;obtain ⟨l',its',b,k1,k2⟩:=b;cases b;obtain ⟨o,g1,g2,_⟩:=h1;obtain ⟨o',f1,f2,_⟩:=k1;rw [g1] at f1;cases f1
     rw [g2] at f2;injection f2 with f2;exact absurd f2 ⇑0
   | _=>unfold RdV at b;first | (obtain ⟨_,b⟩:=b;cases b) | cases b
 | .tup ds,e,u,a,b=>by
   unfold RdV at a;obtain ⟨l,its,a,h1,h2⟩:=a;subst a
   cases e with
   | tup es =>
     unfold RdV at b;obtain ⟨l',its',b,k1,k2⟩:=b;cases b;obtain ⟨o,g1,g2,n,g3⟩:=h1;obtain ⟨o',f1,f2,n',f3⟩:=k1;rw [g1] at f1;cases f1;rw [g3] at f3;cases f3
     rw [RdL.inj ds es _ h2 k2]
   | lst es =>
     unfold RdV at b;obtain ⟨l',its',b,k1,k2⟩:=b;cases b;obtain ⟨o,g1,g2,_⟩:=h1;obtain ⟨o',f1,f2,_⟩:=k1;rw [g1] at f1;cases f1
     rw [g2] at f2;injection f2 with f2;exact absurd f2 ⇑0
   | _=>unfold RdV at b;first | (obtain ⟨_,b⟩:=b;cases b) | cases b
 | .fn _ _,e,u,a,b=>by unfold RdV at a;exact a.elim
theorem RdL.inj:∀ (ds es:List D) (us:List ah),RdL h ds us->RdL h es us->ds = es
 | [],es,us,a,b=>by
   unfold RdL at a;subst a
   cases es with
   | nil=>rfl
   | cons e es=>unfold RdL at b;obtain ⟨_,_,b,_⟩:=b;cases b
 | d::ds,es,us,a,b=>by
   unfold RdL at a;obtain ⟨w,ws,a,h1,h2⟩:=a;subst a
   cases es with
   | nil=>unfold RdL at b;cases b
   | cons e es =>
     unfold RdL at b;obtain ⟨_,_,b,k1,k2⟩:=b;cases b;rw [RdV.inj d e w h1 k1,RdL.inj ds es ws h2 k2]
end
mutual
theorem iV:∀ d:D,dep d < 100000->eqD d d = true
 | .non,_=>by unfold eqD;rfl
 | .bl b,_=>by unfold eqD;simp
 | .int b,_=>by unfold eqD;simp
 | .str b,_=>by unfold eqD;simp
 | .lst ds,h=>by unfold eqD;exact oA ds (by unfold dep at h;lia)
 | .tup ds,h=>by unfold eqD;exact oA ds (by unfold dep at h;lia)
 | .fn _ _,h=>by unfold dep at h;lia
theorem oA:∀ ds:List D,dh ds < 100000->iC ds ds = true
 | [],_=>by unfold iC;rfl
 | d::ds,h=>by
   unfold dh at h;unfold iC;rw [iV d ∅,oA ds ∅];rfl
end
def pairD (ds es:List D) (j:Nat):Bool:=match ds[j]?,es[j]? with
 | some x,some y=>eqD x y
 | _,_=>false
def lA:∀ (ds es:List D),(bE (min ds.length es.length)).all (pairD ds es) = true/\ds.length = es.length↔iC ds es = true
 | [],[]=>by unfold iC;simp
 | [],_::_=>by unfold iC;simp
 | _::_,[]=>by unfold iC;simp
 | d::ds,e::es=>by
   have ih:=lA ds es;have e1:min (d::ds).length (e::es).length = min ds.length es.length+1:=by simp only [aw];lia
   rw [e1,List.range_succ_eq_map,iy,List.all_map];have e2:(pairD (d::ds) (e::es) ∘ Nat.succ) = pairD ds es:=by funext j;simp [pairD]
   rw [e2];unfold iC;rw [aa,aa,<- ih];have e3:pairD (d::ds) (e::es) 0 = eqD d e:=rfl;rw [e3];simp only [aw];constructor
   . rintro ⟨⟨a,b⟩,c⟩;exact ⟨a,b,∅⟩
   . rintro ⟨a,b,c⟩;exact ⟨⟨a,b⟩,∅⟩
def qO (h:ds.length = es.length):(bE ds.length).all (pairD ds es) = iC ds es:=by
 have q:=lA ds es;rw [<- h,yx] at q;rw [gi];rw [<- q];simp
def uA (h:ds.length≠es.length):iC ds es = false:=by
 have q:=lA ds es;rw [Bool.eq_false_iff];intro z;exact h (q.mpr z).2
def oB (ds es:List D):((bE (min ds.length es.length)).all (pairD ds es) && ds.length == es.length) = iC ds es:=by
 have q:=lA ds es;rw [gi,aa,<- q];simp
def RdL.length:∀ {ds:List D} {us:List ah},RdL h ds us->us.length = ds.length
 | [],us,a=>by unfold RdL at a;subst a;rfl
 | d::ds,us,a=>by
   unfold RdL at a;obtain ⟨w,ws,a,_,h2⟩:=a;subst a;rw [aw,aw,RdL.length h2]
def mm1 (a b c d:Nat):min a c<=min (max a b) (max c d):=Nat.le_min.mpr ⟨aS (JY _ _) (JZ _ _),aS (qZ _ _) (JZ _ _)⟩
def mm2 (a b c d:Nat):min b d<=min (max a b) (max c d):=Nat.le_min.mpr ⟨aS (JY _ _) (Jp _ _),aS (qZ _ _) (Jp _ _)⟩
mutual
theorem uB:∀ (a b:D) (A:bt) (s:ak) (u v:ah),RdV s.heap a u->RdV s.heap b v->A.units+min (dep a) (dep b) < cLine->EqAt A s u v (eqD a b)
 | .non,b,A,s,u,v,ra,rb,hu=>by
   unfold RdV at ra;subst ra
   cases b with
   | non=>unfold RdV at rb;subst rb;unfold eqD;exact GO _
   | bl b=>unfold RdV at rb;subst rb;unfold eqD;exact EqAt.none_bool b
   | int b=>unfold RdV at rb;obtain ⟨t,rfl⟩:=rb;unfold eqD;exact EqAt.none_int b t
   | str b=>unfold RdV at rb;obtain ⟨t,rfl⟩:=rb;unfold eqD;exact EqAt.none_str b t
   | lst ds=>unfold RdV at rb;obtain ⟨l,its,rfl,h1,h2⟩:=rb;unfold eqD;exact EqAt.none_list h1 ∅
   | tup ds=>unfold RdV at rb;obtain ⟨l,its,rfl,h1,h2⟩:=rb;unfold eqD;exact EqAt.none_tuple h1 ∅
   | fn _ _=>unfold RdV at rb;exact rb.elim
 | .bl a,b,A,s,u,v,ra,rb,hu=>by
   unfold RdV at ra;subst ra
   cases b with
   | non=>unfold RdV at rb;subst rb;unfold eqD;exact EqAt.bool_none a
   | bl b=>unfold RdV at rb;subst rb;unfold eqD;exact EqAt.bool_bool a b
   | int b=>unfold RdV at rb;obtain ⟨t,rfl⟩:=rb;unfold eqD;exact EqAt.bool_int a b t
   | str b=>unfold RdV at rb;obtain ⟨t,rfl⟩:=rb;unfold eqD;exact EqAt.bool_str a b t
   | lst ds=>unfold RdV at rb;obtain ⟨l,its,rfl,h1,h2⟩:=rb;unfold eqD;exact EqAt.bool_list a h1 ∅
   | tup ds=>unfold RdV at rb;obtain ⟨l,its,rfl,h1,h2⟩:=rb;unfold eqD;exact EqAt.bool_tuple a h1 ∅
   | fn _ _=>unfold RdV at rb;exact rb.elim
 | .int a,b,A,s,u,v,ra,rb,hu=>by
   unfold RdV at ra;obtain ⟨t',rfl⟩:=ra
   cases b with
   | non=>unfold RdV at rb;subst rb;unfold eqD;exact EqAt.int_none a t'
   | bl b=>unfold RdV at rb;subst rb;unfold eqD;exact EqAt.int_bool a t' b
   | int b=>unfold RdV at rb;obtain ⟨t,rfl⟩:=rb;unfold eqD;exact EqAt.int_int a t' b t
   | str b=>unfold RdV at rb;obtain ⟨t,rfl⟩:=rb;unfold eqD;exact EqAt.int_str a t' b t
   | lst ds=>unfold RdV at rb;obtain ⟨l,its,rfl,h1,h2⟩:=rb;unfold eqD;exact EqAt.int_list a t' h1 ∅
   | tup ds=>unfold RdV at rb;obtain ⟨l,its,rfl,h1,h2⟩:=rb;unfold eqD;exact EqAt.int_tuple a t' h1 ∅
   | fn _ _=>unfold RdV at rb;exact rb.elim
 | .str a,b,A,s,u,v,ra,rb,hu=>by
   unfold RdV at ra;obtain ⟨t',rfl⟩:=ra
   cases b with
   | non=>unfold RdV at rb;subst rb;unfold eqD;exact EqAt.str_none a t'
   | bl b=>unfold RdV at rb;subst rb;unfold eqD;exact EqAt.str_bool a t' b
   | int b=>unfold RdV at rb;obtain ⟨t,rfl⟩:=rb;unfold eqD;exact EqAt.str_int a t' b t
   | str b=>unfold RdV at rb;obtain ⟨t,rfl⟩:=rb;unfold eqD;exact EqAt.str_str a t' b t
   | lst ds=>unfold RdV at rb;obtain ⟨l,its,rfl,h1,h2⟩:=rb;unfold eqD;exact EqAt.str_list a t' h1 ∅
   | tup ds=>unfold RdV at rb;obtain ⟨l,its,rfl,h1,h2⟩:=rb;unfold eqD;exact EqAt.str_tuple a t' h1 ∅
   | fn _ _=>unfold RdV at rb;exact rb.elim
 | .lst ds,b,A,s,u,v,ra,rb,hu=>by
   have ra':=ra;unfold RdV at ra;obtain ⟨l,its,rfl,h1,h2⟩:=ra
   cases b with
   | non=>unfold RdV at rb;subst rb;unfold eqD;exact EqAt.list_none h1 ∅
   | bl b=>unfold RdV at rb;subst rb;unfold eqD;exact EqAt.list_bool b h1 ∅
   | int b=>unfold RdV at rb;obtain ⟨t,rfl⟩:=rb;unfold eqD;exact EqAt.list_int b t h1 ∅
   | str b=>unfold RdV at rb;obtain ⟨t,rfl⟩:=rb;unfold eqD;exact EqAt.list_str b t h1 ∅
   | tup es=>unfold RdV at rb;obtain ⟨l',its',rfl,k1,k2⟩:=rb;unfold eqD;exact EqAt.list_tuple h1 k1 ∅
   | lst es =>
     have rb':=rb;unfold RdV at rb;obtain ⟨l',its',rfl,k1,k2⟩:=rb;by_cases hl:l = l'
     . subst hl;have e:=RdV.inj _ _ _ ra' rb';cases e;have hd:dep (.lst ds) < 100000:=by rw [yx] at hu;have:cLine = 9900:=rfl;lia
       rw [iV _ hd];exact GO _
     . unfold eqD;have n1:its.size = ds.length:=by simpa using h2.length
       have n2:its'.size = es.length:=by simpa using k2.length
       have he:∀ j (j1:j < its.size) (j2:j < its'.size),EqAt A.in1 s its[j] its'[j] (pairD ds es j):=λj j1 j2=>by
        have q:=kn ds es A.in1 s its.toList its'.toList h2 k2 (by show A.units+1+_ < _;unfold dep at hu;lia) j (by simpa using j1) (by simpa using j2);simpa using q
       refine EqAt.of_refs hl ?_;by_cases hsz:its.size = its'.size
       . rw [<- qO (by lia:ds.length = es.length),<- n1];exact RcAt.lists h1 k1 hsz ∅ he
       . rw [uA (by lia:ds.length≠es.length)]
         exact RcAt.lists_lengths h1 k1 (by simpa using hsz) ∅
   | fn _ _=>unfold RdV at rb;exact rb.elim
 | .tup ds,b,A,s,u,v,ra,rb,hu=>by
   have ra':=ra;unfold RdV at ra;obtain ⟨l,its,rfl,h1,h2⟩:=ra
   cases b with
   | non=>unfold RdV at rb;subst rb;unfold eqD;exact EqAt.tuple_none h1 ∅
   | bl b=>unfold RdV at rb;subst rb;unfold eqD;exact EqAt.tuple_bool b h1 ∅
   | int b=>unfold RdV at rb;obtain ⟨t,rfl⟩:=rb;unfold eqD;exact EqAt.tuple_int b t h1 ∅
   | str b=>unfold RdV at rb;obtain ⟨t,rfl⟩:=rb;unfold eqD;exact EqAt.tuple_str b t h1 ∅
   | lst es=>unfold RdV at rb;obtain ⟨l',its',rfl,k1,k2⟩:=rb;unfold eqD;exact EqAt.tuple_list h1 k1 ∅
   | tup es =>
     have rb':=rb;unfold RdV at rb;obtain ⟨l',its',rfl,k1,k2⟩:=rb;by_cases hl:l = l'
     . subst hl;have e:=RdV.inj _ _ _ ra' rb';cases e;have hd:dep (.tup ds) < 100000:=by rw [yx] at hu;have:cLine = 9900:=rfl;lia
       rw [iV _ hd];exact GO _
     . unfold eqD;have n1:its.size = ds.length:=by simpa using h2.length
       have n2:its'.size = es.length:=by simpa using k2.length
       have he:∀ j (j1:j < its.size) (j2:j < its'.size),EqAt A.in1 s its[j] its'[j] (pairD ds es j):=λj j1 j2=>by
        have q:=kn ds es A.in1 s its.toList its'.toList h2 k2 (by show A.units+1+_ < _;unfold dep at hu;lia) j (by simpa using j1) (by simpa using j2);simpa using q
       refine EqAt.of_refs hl ?_;rw [<- oB,<- n1,<- n2]
       exact RcAt.tuples h1 k1 ∅ he
   | fn _ _=>unfold RdV at rb;exact rb.elim
 | .fn _ _,b,A,s,u,v,ra,rb,hu=>by unfold RdV at ra;exact ra.elim
theorem kn:∀ (ds es:List D) (A:bt) (s:ak) (us vs:List ah),RdL s.heap ds us->RdL s.heap es vs->A.units+min (dh ds) (dh es) < cLine->∀ j (h1:j < us.length) (h2:j < vs.length),EqAt A s us[j] vs[j] (pairD ds es j)
 | [],_,_,_,us,_,ra,_,_,j,h1,_=>by unfold RdL at ra;subst ra;exact absurd h1 (JX _)
 | _::_,[],_,_,_,vs,_,rb,_,j,_,h2=>by unfold RdL at rb;subst rb;exact absurd h2 (JX _)
 | d::ds,e::es,A,s,us,vs,ra,rb,hu,j,h1,h2=>by
   unfold RdL at ra rb;obtain ⟨w,ws,rfl,a1,a2⟩:=ra;obtain ⟨w',ws',rfl,b1,b2⟩:=rb;unfold dh at hu
   cases j with
   | zero=>exact uB d e A s w w' a1 b1 (bS (fW (mm1 _ _ _ _) _) hu)
   | succ j =>
     have q:=kn ds es A s ws ws' a2 b2 (bS (fW (mm2 _ _ _ _) _) hu) j (by simpa using h1) (by simpa using h2);simpa [pairD] using q
end
def Aa (h:i.natAbs < 2 ^ 200):sU i<=2 ^ 20:=by
 unfold sU;split
 . exact cT _
 . rename_i h0;have:i.natAbs.log2 < 200:=(BS (by simpa using h0)).mpr h;have:(200:Nat)<=2 ^ 20:=by decide
   lia
def IC (h:qG i j = true):IntMulOk i j:=by
 unfold qG at h;simp only [dv,aa,decide_eq_true_eq] at h;rcases h with (h | h) | h
 . exact .of_left (intBits_le_64 h.1 h.2)
 . exact .of_right (intBits_le_64 h.1 h.2)
 . exact .of_bits (Aa h.1) (Aa h.2)
def Ie:OpR X (binaryOp .Mult) (rI IntMulOk λi j=>.int (i * j)):=opI λ_ _ _ _ _ _ _ hc q=>PyProof.Rows.mul_int q hc
def Ez:OpR X (binaryOp .FloorDiv) (rI (λ_ j=>0 < j/\j < 1000000000000000000000000000000000000000000000000000000000000) λi j=>.int (i / j)):=opI λi j _ _ _ _ _ hc q=>by
 have h1:(0:Int) < j:=hc.1;have h2:j < 1000000000000000000000000000000000000000000000000000000000000:=hc.2;refine PyProof.Rows.floordiv_int ∅ (by rw [Int.fdiv_eq_ediv_of_nonneg i ∅];exact q) (.inl (PyProof.noPylong_of_log2 ?_));exact Nat.lt_trans ((BS (k:=200) ∅).mpr (ba (show j.natAbs < 1000000000000000000000000000000000000000000000000000000000000 by lia) ⇑0)) ⇑0
section
variable {X:Cx}
def Ma (hu:X.A.units+200 < cLine):OpR X (compareOp .Eq) (λx y H Q=>∃ F a b,dC X.K H F a x/\dC X.K H F b y/\gy a b = true/\Q (.bl (eqD a b)) H):=by
 intro pins s σ H x y v u Q I rx ry h;obtain ⟨F,a,b,ha,hb,hk,q⟩:=h;unfold gy at hk;rw [aa,aa] at hk;obtain ⟨⟨hk,hd⟩,hm⟩:=hk;replace hd:=of_decide_eq_true hd;replace hm:=of_decide_eq_true hm;have ra:=fF I ha rx ∅;have rb:=fF I hb ry ∅;have fin:∀ k:Bool,k = eqD a b->EP X pins σ Q (.bool k) s:=λk e=>⟨.bl k,H,I,rfl,by rw [e];exact q⟩
 cases a<;>cases b<;>first
  | (exact absurd (show false = true from hk) aq)
  | skip
 . unfold RdV at ra rb;subst ra;subst rb;exact RcAt.bool_bool _ _ _ _ _ _ (fin _ (by unfold eqD;rfl))
 . unfold RdV at ra rb;obtain ⟨t,rfl⟩:=ra;obtain ⟨t',rfl⟩:=rb;exact RcAt.int_int _ _ _ _ _ _ _ _ (fin _ (by unfold eqD;rfl))
 . unfold RdV at ra rb;obtain ⟨t,rfl⟩:=ra;obtain ⟨t',rfl⟩:=rb;exact RcAt.str_str _ _ _ _ _ _ _ _ (fin _ (by unfold eqD;rfl))
 . rename_i ds es;unfold RdV at ra rb;obtain ⟨l,its,rfl,h1,h2⟩:=ra;obtain ⟨l',its',rfl,k1,k2⟩:=rb;have n1:its.size = ds.length:=by simpa using h2.length
   have n2:its'.size = es.length:=by simpa using k2.length
   have he:∀ j (j1:j < its.size) (j2:j < its'.size),EqAt X.A.in1 s its[j] its'[j] (pairD ds es j):=λj j1 j2=>by
    have q:=kn ds es X.A.in1 s its.toList its'.toList h2 k2 (by show X.A.units+1+_ < _;unfold dep at hd;lia) j (by simpa using j1) (by simpa using j2);simpa using q
   by_cases hsz:its.size = its'.size
   . refine eq_listAt h1 k1 hsz ∅ he (fin _ ?_);unfold eqD;rw [n1];exact qO ∅
   . refine eq_list_lengthsAt h1 k1 (by simpa using hsz) ∅ (fin _ ?_);unfold eqD;exact (uA ∅).symm
 . rename_i ds es;unfold RdV at ra rb;obtain ⟨l,its,rfl,h1,h2⟩:=ra;obtain ⟨l',its',rfl,k1,k2⟩:=rb;have n1:its.size = ds.length:=by simpa using h2.length
   have n2:its'.size = es.length:=by simpa using k2.length
   have he:∀ j (j1:j < its.size) (j2:j < its'.size),EqAt X.A.in1 s its[j] its'[j] (pairD ds es j):=λj j1 j2=>by
    have q:=kn ds es X.A.in1 s its.toList its'.toList h2 k2 (by show X.A.units+1+_ < _;unfold dep at hd;lia) j (by simpa using j1) (by simpa using j2);simpa using q
   refine eq_tupleAt h1 k1 ∅ he (fin _ ?_);unfold eqD;rw [n1,n2];exact oB ds es
def LV (hu:X.A.units+200 < cLine):OpR X (compareOp .NotEq) (λx y H Q=>∃ F a b,dC X.K H F a x/\dC X.K H F b y/\gy a b = true/\Q (.bl (!eqD a b)) H):=by
 intro pins s σ H x y v u Q I rx ry h;obtain ⟨F,a,b,ha,hb,hk,q⟩:=h;unfold gy at hk;rw [aa,aa] at hk;obtain ⟨⟨hk,hd⟩,hm⟩:=hk;replace hd:=of_decide_eq_true hd;replace hm:=of_decide_eq_true hm;have ra:=fF I ha rx ∅;have rb:=fF I hb ry ∅;have fin:∀ k:Bool,k = (!eqD a b)->EP X pins σ Q (.bool k) s:=λk e=>⟨.bl k,H,I,rfl,by rw [e];exact q⟩
 cases a<;>cases b<;>first
  | (exact absurd (show false = true from hk) aq)
  | skip
 . unfold RdV at ra rb;subst ra;subst rb;exact RcNeAt.bool_bool _ _ _ _ _ _ (fin _ (by unfold eqD;rfl))
 . unfold RdV at ra rb;obtain ⟨t,rfl⟩:=ra;obtain ⟨t',rfl⟩:=rb;exact RcNeAt.int_int _ _ _ _ _ _ _ _ (fin _ (by unfold eqD;rfl))
 . unfold RdV at ra rb;obtain ⟨t,rfl⟩:=ra;obtain ⟨t',rfl⟩:=rb;exact RcNeAt.str_str _ _ _ _ _ _ _ _ (fin _ (by unfold eqD;rfl))
 . rename_i ds es;unfold RdV at ra rb;obtain ⟨l,its,rfl,h1,h2⟩:=ra;obtain ⟨l',its',rfl,k1,k2⟩:=rb;have n1:its.size = ds.length:=by simpa using h2.length
   have n2:its'.size = es.length:=by simpa using k2.length
   have he:∀ j (j1:j < its.size) (j2:j < its'.size),EqAt X.A.in1 s its[j] its'[j] (pairD ds es j):=λj j1 j2=>by
    have q:=kn ds es X.A.in1 s its.toList its'.toList h2 k2 (by show X.A.units+1+_ < _;unfold dep at hd;lia) j (by simpa using j1) (by simpa using j2);simpa using q
   by_cases hsz:its.size = its'.size
   . refine RcNeAt.lists h1 k1 hsz ∅ he _ _ _ _ (fin _ ?_);unfold eqD;rw [n1,qO ∅]
   . refine RcNeAt.lists_lengths h1 k1 (by simpa using hsz) ∅ _ _ _ _ (fin _ ?_);unfold eqD;rw [uA ∅];rfl
 . rename_i ds es;unfold RdV at ra rb;obtain ⟨l,its,rfl,h1,h2⟩:=ra;obtain ⟨l',its',rfl,k1,k2⟩:=rb;have n1:its.size = ds.length:=by simpa using h2.length
   have n2:its'.size = es.length:=by simpa using k2.length
   have he:∀ j (j1:j < its.size) (j2:j < its'.size),EqAt X.A.in1 s its[j] its'[j] (pairD ds es j):=λj j1 j2=>by
    have q:=kn ds es X.A.in1 s its.toList its'.toList h2 k2 (by show X.A.units+1+_ < _;unfold dep at hd;lia) j (by simpa using j1) (by simpa using j2);simpa using q
   refine RcNeAt.tuples h1 k1 ∅ he _ _ _ _ (fin _ ?_);unfold eqD;rw [n1,n2,oB ds es]
open Classical in
def isEq (h:bJ) (a:D) (u:ah):Bool:=if ∃ d,RdV h d u/\eqD d a = true then true else false
def zC (r:RdV h d u):isEq h a u = eqD d a:=by
 unfold isEq
 cases e:eqD d a with
 | true=>rw [if_pos ⟨d,r,e⟩]
 | false =>
   rw [if_neg];rintro ⟨d',r',e'⟩;rw [RdV.inj d d' u r r',e'] at e;cases e
def kY:∀ {ds:List D} {us:List ah},RdL h ds us->us.any (isEq h a) = ds.any λd=>eqD d a
 | [],us,r=>by unfold RdL at r;subst r;rfl
 | d::ds,us,r=>by
   unfold RdL at r;obtain ⟨w,ws,rfl,h1,h2⟩:=r;rw [nM,nM,zC h1,kY h2]
def kS (rv:RdV s.heap a v) (hu:A.units+dep a < cLine):∀ {ds:List D} {us:List ah},RdL s.heap ds us->∀ u∈us,EqAt A s u v (isEq s.heap a u)
 | [],us,r=>λu hm=>by unfold RdL at r;subst r;cases hm
 | d::ds,us,r=>λu hm=>by
   unfold RdL at r;obtain ⟨w,ws,rfl,h1,h2⟩:=r;rcases az.mp hm with rfl | hm
   . rw [zC h1];exact uB d a A s u v h1 rv ∅
   . exact kS rv hu h2 u hm
def LZ (hu:X.A.units+200 < cLine):OpR X (compareOp .In) (λx y H Q=>∃ F a ds,dC X.K H F a x/\(dC X.K H F (.lst ds) y\/dC X.K H F (.tup ds) y)/\(dep a<=150/\dh ds < 99999)/\Q (.bl (ds.any λd=>eqD d a)) H):=by
 intro pins s σ H x y v u Q I rx ry h;obtain ⟨F,a,ds,ha,hb,⟨hd,hm⟩,q⟩:=h;have ra:=fF I ha rx ∅;have fin:∀ k:Bool,k = (ds.any λd=>eqD d a)->EP X pins σ Q (.bool k) s:=λk e=>⟨.bl k,H,I,rfl,by rw [e];exact q⟩;rcases hb with hb | hb
 . have rb:=fF I hb ry (by unfold dep;lia);unfold RdV at rb;obtain ⟨l',its',rfl,k1,k2⟩:=rb;refine in_listAt (isEq s.heap a) k1 (λw hw=>kS ra (by show X.A.units+1+_ < _;lia) k2 w (by simpa using hw)) (fin _ ?_);rw [show its'.any (isEq s.heap a) = its'.toList.any (isEq s.heap a) by simp,kY k2]
 . have rb:=fF I hb ry (by unfold dep;lia);unfold RdV at rb;obtain ⟨l',its',rfl,k1,k2⟩:=rb;refine in_tupleAt (isEq s.heap a) k1 (λw hw=>kS ra (by show X.A.units+1+_ < _;lia) k2 w (by simpa using hw)) (fin _ ?_);rw [show its'.any (isEq s.heap a) = its'.toList.any (isEq s.heap a) by simp,kY k2]
def Bo (hu:X.A.units+200 < cLine):OpR X (compareOp .NotIn) (λx y H Q=>∃ F a ds,dC X.K H F a x/\(dC X.K H F (.lst ds) y\/dC X.K H F (.tup ds) y)/\(dep a<=150/\dh ds < 99999)/\Q (.bl (!ds.any λd=>eqD d a)) H):=by
 intro pins s σ H x y v u Q I rx ry h;obtain ⟨F,a,ds,ha,hb,⟨hd,hm⟩,q⟩:=h;have ra:=fF I ha rx ∅;have fin:∀ k:Bool,k = (!ds.any λd=>eqD d a)->EP X pins σ Q (.bool k) s:=λk e=>⟨.bl k,H,I,rfl,by rw [e];exact q⟩;rcases hb with hb | hb
 . have rb:=fF I hb ry (by unfold dep;lia);unfold RdV at rb;obtain ⟨l',its',rfl,k1,k2⟩:=rb;refine notIn_listAt (isEq s.heap a) k1 (λw hw=>kS ra (by show X.A.units+1+_ < _;lia) k2 w (by simpa using hw)) (fin _ ?_);rw [show its'.any (isEq s.heap a) = its'.toList.any (isEq s.heap a) by simp,kY k2]
 . have rb:=fF I hb ry (by unfold dep;lia);unfold RdV at rb;obtain ⟨l',its',rfl,k1,k2⟩:=rb;refine notIn_tupleAt (isEq s.heap a) k1 (λw hw=>kS ra (by show X.A.units+1+_ < _;lia) k2 w (by simpa using hw)) (fin _ ?_);rw [show its'.any (isEq s.heap a) = its'.toList.any (isEq s.heap a) by simp,kY k2]
def FY {prog:aQ} {w:bw} {A:bt} {E:ah->ak->Prop} {s:ak} {t b:au} {ws:List ah} {Q:ah->ak->Prop} (ht:Ju s.heap t ([]:List ah).toArray) (hb:Ju s.heap b ws.toArray) (h:Q (.ref b) s):wpAny (model prog w) A (binaryOp .Add (.ref t) (.ref b)) Q E s:=by
 obtain ⟨⟨cls,dd,data,sl⟩,ho,hc,n,hd⟩:=id ht;obtain ⟨⟨cls2,dd2,data2,sl2⟩,ho2,hc2,n2,hd2⟩:=id hb;simp only at hc hd hc2 hd2;subst hc hd hc2 hd2;exact Gy ⟨_,ho,rfl⟩ ⟨_,ho2,rfl⟩ lN pT PySem.F.slot_tuple_add PySem.F.entry_tuple_add (PySem.F.args_tuple_add_2 _ _) (tuple_addW0 t b _ ws.toArray n n2 dd dd2 sl sl2 rfl) ⟨ho,ho2,h⟩
def Ij:OpR X (binaryOp .Add) (λx y H Q=>∃ a b ys,x = .ref a/\y = .ref b/\SqT X.K H a []/\SqT X.K H b ys/\Q (.ref b) H):=by
 intro pins s σ H x y v u Q I rx ry h;obtain ⟨a,b,ys,rfl,rfl,ha,hb,q⟩:=h;cases rx;cases ry;obtain ⟨its,r1,p1,_⟩:=I.tuple ha;obtain ⟨its2,r2,p2,_⟩:=I.tuple hb;cases r1;exact FY p1 p2 ⟨.ref b,H,I,rfl,q⟩
def tyName:Blt->Option String
 | .isTup=>some "tuple"
 | _=>none
def MS (I:Inv X pins σ H s) (h:dC X.K H F (.lst ds) v) (r:RelV v u):∃ l its,u = .ref l/\s.heap.IsList l its:=by
 rcases h with h | ⟨a,xs,_,_,rfl,h1,_⟩
 . unfold Rel at h;obtain ⟨a,xs,rfl,h1,_⟩:=h;obtain ⟨its,_,p,_⟩:=I.list h1.sq;exact ⟨a,_,r,p.isList⟩
 . obtain ⟨its,_,p,_⟩:=I.list (.inl (.inl h1));exact ⟨a,_,r,p.isList⟩
def MR (I:Inv X pins σ H s) (h:dC X.K H F (.tup ds) v) (r:RelV v u):∃ l its,u = .ref l/\s.heap.IsTuple l its:=by
 rcases h with h | ⟨a,xs,_,e,_⟩
 . unfold Rel at h;obtain ⟨a,xs,rfl,h1,_⟩:=h;obtain ⟨its,_,p,_⟩:=I.tuple h1;exact ⟨a,_,r,p⟩
 . cases e
def Ga (hT:tyName f = some T):dD X (.builtin "isinstance") (λxs H Q=>∃ F d x b,dC X.K H F d x/\xs = [x,.ty T]/\ky f [d] = some (.bl b)/\Q (.bl b) H):=by
 intro pins s σ H xs us Q I r h;obtain ⟨F,d,x,b,hr,rfl,hb,q⟩:=h;obtain ⟨u,w',rfl,ru,rw'⟩:=vals2 r;cases (show w' = Value.type T from rw');have fin:∀ tk,EP X pins σ Q (.bool b) { s with toks:=tk }:=λtk=>⟨.bl b,H,I.tok tk,rfl,q⟩
 cases d with
 | non=>have rd:=fF I hr ru (by unfold dep;lia);unfold RdV at rd;subst rd;cases f<;>simp [tyName] at hT<;>subst hT<;>simp [ky,ke] at hb<;>subst hb<;>exact PySem.W.kia_one PySem.W.kitx_none I.kIn nR rfl (λz=>nomatch z) fin
 | bl y=>have rd:=fF I hr ru (by unfold dep;lia);unfold RdV at rd;subst rd;cases f<;>simp [tyName] at hT<;>subst hT<;>simp [ky,ke] at hb<;>subst hb<;>exact PySem.W.kia_one PySem.W.kitx_bool I.kIn nR rfl (λz=>nomatch z) fin
 | int y=>have rd:=fF I hr ru (by unfold dep;lia);unfold RdV at rd;obtain ⟨t,rfl⟩:=rd;cases f<;>simp [tyName] at hT<;>subst hT<;>simp [ky,ke] at hb<;>subst hb<;>exact PySem.W.kia_one PySem.W.kitx_int I.kIn nR rfl (λz=>nomatch z) fin
 | str y=>have rd:=fF I hr ru (by unfold dep;lia);unfold RdV at rd;obtain ⟨t,rfl⟩:=rd;cases f<;>simp [tyName] at hT<;>subst hT<;>simp [ky,ke] at hb<;>subst hb<;>exact PySem.W.kia_one PySem.W.kitx_str I.kIn nR rfl (λz=>nomatch z) fin
 | lst y =>
   obtain ⟨l,its,rfl,⟨o,h1,h2,_⟩⟩:=MS I hr ru
   cases f<;>simp [tyName] at hT<;>subst hT<;>simp [ky,ke] at hb<;>subst hb<;>exact PySem.W.kia_one PySem.W.kitx_list I.kIn ⟨o,h1,h2⟩ rfl (λz=>nomatch z) fin
 | tup y =>
   obtain ⟨l,its,rfl,⟨o,h1,h2,_⟩⟩:=MR I hr ru
   cases f<;>simp [tyName] at hT<;>subst hT<;>simp [ky,ke] at hb<;>subst hb<;>exact PySem.W.kia_one PySem.W.kitx_tuple I.kIn ⟨o,h1,h2⟩ rfl (λz=>nomatch z) fin
 | fn _ _=>cases f<;>simp [tyName] at hT<;>simp [ky,ke] at hb
def Its (x:Str):L2.It:=⟨λi _=>i < x.cps.size,λi H v H'=>H' = H/\∃ c,x.cps[i]? = some c/\v = .str ⟨#[c]⟩,λi _=>i = x.cps.size⟩
def qh {P:aQ} {w:bw} {K:PySem.W.Frag} {tg:aE} {it:au} {n:Nat} {PV:Nat->ah->Prop} {St:Nat->bJ->Prop} {J:L2.It} {ty:String}
 (W:∀ A:bt,A.handled = none->Walks P w A it [it] [it] n PV St) (hst:∀ i h,St i h->∃ (o:Obj) (vs:Array ah),h.get? it = some o/\o.cls = .type ty/\o.data = .fields vs)
 (hn:["enumerate","zip","dict_itemiterator","dict_reverseitemiterator","odict_iterator","itertools.zip_longest","itertools.pairwise"].contains ty = false)
 (go:∀ i H,J.go i H->i < n) (stop:∀ i H,J.stop i H->i = n) (yld:∀ i v H,PV i v->∃ x,RelV x v/\J.yld i H x H)
 (self:∀ (A:bt) (i:Nat) (s:ak) (Q:ah->ak->Prop) (E:ah->ak->Prop),St i s.heap->Q (.ref it) s->wpAny (model P w) A (pyIter (.ref it)) Q E s) :
 Turn P w K tg J [it] it St where
 mem:=by simp
 obj:=λi h st b hb=>by
  have e:b = it:=by simpa using hb
  subst e;obtain ⟨o,vs,e,c,d⟩:=hst i h st;exact ⟨o,e,λv z=>by rw [d] at z;cases z⟩
 keep:=λi h h' st k=>(W { } rfl).frame i h h' st k
 item:=by
  intro X hP hw hK hc i pins s σ H E I hf st hg;subst hP hw hK;obtain ⟨f0,f1,f2,f3,f4,f5⟩:=hf it ↥0;refine (W X.A (I.ok.hd hc)).item i s _ _ (go i H hg) st λv h' tk hv st' kk=>?_;have I1:Inv X pins σ H { s with heap:=h',toks:=tk }:=I.turned (λb o hb e=>kk b o (by simpa using hb) e) f0 f1 f3 f4 f5;obtain ⟨o,vs,e,c,d⟩:=hst _ _ st';obtain ⟨x,r,y⟩:=yld i v H hv;exact ⟨v,rfl,zE (s:={ s with heap:=h',toks:=tk }) e c d hn ⟨x,H,I1,r,y,st',λb hb=>(hf b hb).1⟩⟩
 done:=by
  intro X hP hw hK hc i pins s σ H E I hf st hg;subst hP hw hK;obtain ⟨f0,f1,f2,f3,f4,f5⟩:=hf it ↥0;have e:=stop i H hg;subst e;exact (W X.A (I.ok.hd hc)).done s _ _ st λh' tk kk=>⟨rfl,I.turned (λb o hb e=>kk b o (by simpa using hb) e) f0 f1 f3 f4 f5⟩
 self:=self
def Dq {P:aQ} {w:bw} {K:PySem.W.Frag} {tg:aE} (it:au) (x:Str) (t:Tok):Turn P w K tg (Its x) [it] it (λi h=>h.IsStrIter it (strIterType x) x t i):=by
 unfold strIterType;split
 . exact qh (ty:="str_ascii_iterator") (λA hA=>Walks.strAscii hA it x t) (λi h ⟨o,e,c,d⟩=>⟨o,_,e,c,d⟩) ⇑0 (λi H z=>z) (λi H z=>z) (λi v H ⟨c,u,h1,h2⟩=>⟨.str ⟨#[c]⟩,⟨u,h2⟩,rfl,c,h1,rfl⟩) λ_ _ _ _ _ st h=>wpAny_pyIter_striter_ascii st h
 . exact qh (ty:="str_iterator") (λA hA=>Walks.strWide hA it x t) (λi h ⟨o,e,c,d⟩=>⟨o,_,e,c,d⟩) ⇑0 (λi H z=>z) (λi H z=>z) (λi v H ⟨c,u,h1,h2⟩=>⟨.str ⟨#[c]⟩,⟨u,h2⟩,rfl,c,h1,rfl⟩) λ_ _ _ _ _ st h=>wpAny_pyIter_striter_wide st h
end
end PP
end
section
namespace PP
open PySem L2 PyProof.Rows PySem.SeqAt PySem.Calls
section
variable {prog:aQ} {w:bw} {A:bt} {R:yw->ak->Prop} {I:au} {fp wr:List au} {n:Nat} {P:Nat->ah->Prop} {St:Nat->bJ->Prop}
end
variable {X:Cx} [Tbs]
end PP
end
section
namespace PP
open PySem L2 PySem.SeqAt PyProof.Rows PySem.W
open AutoSeq1 (wpAny_loadPart')
open MeetsSeq MeetsSeq2 MeetsSeq3 SeqRoads2
variable [Tbs]
def Gr (A:bt) (s:ak) (u v:ah) (b:Bool):Prop:=∀ (prog:aQ) (w:bw) (E:ah->ak->Prop) (Q:ah->ak->Prop),Q (.bool b) s->wpAny (model prog w) A (richCompare .Lt u v) Q E s
def wH (A:bt) (s:ak) (last:Bool):List (ah × ah)->Bool->Prop
 | [],b=>b = last
 | (p,q)::r,b=>∃ e,EqAt A s p q e/\if e = true then wH A s last r b else Gr A s p q b
def xx (l m:au) (xs ys:Array ah) (n n2:Nat) (dd dd2:Option au) (sl sl2:Array (Option ah)) (b:Bool) :
 Meets (gh.«tuple.__lt__» ⟨[.ref l,.ref m],[]⟩)
  (λA R s=>s.heap.get? l = some ⟨.type "tuple",dd,.seq xs n,sl⟩/\s.heap.get? m = some ⟨.type "tuple",dd2,.seq ys n2,sl2⟩ /\
    wH A.in1 s (decide (xs.size < ys.size)) (xs.toList.zip ys.toList) b/\R (.ok (.ret (.bool b))) s) :=
 .of_wp λprog w A R s h=>by
  obtain ⟨h0,g0,d0,t0,o0⟩:=s;obtain ⟨hx,hy,hlex,hR⟩:=h;have sub:=AutoSeq1.sub_tuple_tuple
  wp_walk using mF hx,mF hy,wpAny_forIn_list _ (λrest st s'=>st.1 = none/\s' = ⟨h0,g0,d0,t0,o0⟩/\wH A.in1 ⟨h0,g0,d0,t0,o0⟩ (decide (xs.size < ys.size)) rest b) _
  case turn =>
   rintro ⟨y,x⟩ rest st s' ⟨hst,rfl,e,he,hr⟩;refine ab (he prog w _ _ ?_)
   cases e with
   | true =>
     rw [if_pos rfl] at hr
     wp_walk
     exact ⟨rfl,rfl,hr⟩
   | false =>
     rw [if_neg aq] at hr;have hr':∀ {Q:ah->ak->Prop} {E:ah->ak->Prop},Q (.bool b) ⟨h0,g0,d0,t0,o0⟩->wpAny (model prog w) A.in1 (richCompare .Lt y x) Q E ⟨h0,g0,d0,t0,o0⟩:=λ{Q E} h=>hr prog w E Q h
     wp_walk using hr'
     exact ⟨_,rfl,hR⟩
  case fin =>
   rintro ⟨b1,b2⟩ s' ⟨hst,rfl,hl⟩;simp only at hst;subst hst;have hl:b = decide (xs.size < ys.size):=hl
   wp_walk
   refine ⟨_,rfl,?_⟩;have:Builtin.Tuple.tupleCompareSizes .Lt xs.size ys.size = .bool b:=by rw [hl];rfl
   rw [this];exact hR
  case h=>exact ⟨rfl,rfl,hlex⟩
def Gr.tuples (hx:s.heap.IsTuple l xs) (hy:s.heap.IsTuple m ys) (hu:A.units < cLine) (h:wH A.in1 s (decide (xs.size < ys.size)) (xs.toList.zip ys.toList) b):Gr A s (.ref l) (.ref m) b:=by
 intro prog w E Q q;obtain ⟨⟨c1,d1,t1,s1⟩,e1,k1,n1,f1⟩:=hx;obtain ⟨⟨c2,d2,t2,s2⟩,e2,k2,n2,f2⟩:=hy;have k1:c1 = _:=k1;have f1:t1 = _:=f1;have k2:c2 = _:=k2;have f2:t2 = _:=f2;subst k1 f1 k2 f2;have nn:rM b≠yv:=λz=>nomatch z;exact richCompare_meets_room (op:=.Lt) ⟨_,e1,rfl⟩ ⟨_,e2,rfl⟩ F.slot_tuple_lt F.entry_tuple_lt (F.args_tuple_lt_2 _ _) (xx l m xs ys n1 n2 d1 d2 s1 s2 b) ⟨e1,e2,h,(show rM b≠yv/\Q (.bool b) s from ⟨nn,q⟩)⟩ hu
mutual
theorem xW:∀ (a b:D) (A:bt) (s:ak) (u v:ah) (k:Bool),RdV s.heap a u->RdV s.heap b v->A.units+min (dep a) (dep b)+1 < cLine->ltD a b = some k->Gr A s u v k
 | .int a,b,A,s,u,v,k,ra,rb,hu,h=>by
   cases b with
   | int b =>
     unfold ltD at h;cases h;unfold RdV at ra rb;obtain ⟨t,rfl⟩:=ra;obtain ⟨t',rfl⟩:=rb;intro prog w E Q q
     exact lt_int q
   | _=>unfold ltD at h;cases h
 | .str a,b,A,s,u,v,k,ra,rb,hu,h=>by
   cases b with
   | str b =>
     unfold ltD at h;cases h;unfold RdV at ra rb;obtain ⟨t,rfl⟩:=ra;obtain ⟨t',rfl⟩:=rb;intro prog w E Q q
     exact lt_str q
   | _=>unfold ltD at h;cases h
 | .tup a,b,A,s,u,v,k,ra,rb,hu,h=>by
   cases b with
   | tup b =>
     unfold ltD at h;unfold RdV at ra rb;obtain ⟨l,xs,rfl,h1,h2⟩:=ra;obtain ⟨m,ys,rfl,k1,k2⟩:=rb;have n1:xs.size = a.length:=by simpa using h2.length
     have n2:ys.size = b.length:=by simpa using k2.length
     refine Gr.tuples h1 k1 (by omega) ?_;rw [n1,n2];unfold dep at hu
     exact vQ a b A.in1 s xs.toList ys.toList k h2 k2 (by show A.units+1+_+1 < _;omega) h
   | _=>unfold ltD at h;cases h
 | .non,b,A,s,u,v,k,ra,rb,hu,h=>by cases b<;>(unfold ltD at h;cases h)
 | .bl x,b,A,s,u,v,k,ra,rb,hu,h=>by cases b<;>(unfold ltD at h;cases h)
 | .lst x,b,A,s,u,v,k,ra,rb,hu,h=>by cases b<;>(unfold ltD at h;cases h)
 | .fn x y,b,A,s,u,v,k,ra,rb,hu,h=>by cases b<;>(unfold ltD at h;cases h)
theorem vQ:∀ (as bs:List D) (A:bt) (s:ak) (us vs:List ah) (k:Bool),RdL s.heap as us->RdL s.heap bs vs->A.units+min (dh as) (dh bs)+1 < cLine->iB as bs = some k->wH A s (decide (as.length < bs.length)) (us.zip vs) k
 | [],[],A,s,us,vs,k,ra,rb,hu,h=>by
   unfold RdL at ra rb;subst ra;subst rb;unfold iB at h;cases h
   rfl
 | [],y::ys,A,s,us,vs,k,ra,rb,hu,h=>by
   unfold RdL at ra;subst ra;unfold iB at h;cases h;show true = decide _
   simp
 | x::xs,[],A,s,us,vs,k,ra,rb,hu,h=>by
   unfold RdL at rb;subst rb;unfold iB at h;cases h;rw [nU];show false = decide _
   simp
 | x::xs,y::ys,A,s,us,vs,k,ra,rb,hu,h=>by
   unfold RdL at ra rb;obtain ⟨u,us',rfl,ra1,ra2⟩:=ra;obtain ⟨v,vs',rfl,rb1,rb2⟩:=rb;unfold iB at h;unfold dh at hu;refine ⟨eqD x y,uB x y A s u v ra1 rb1 (bS (aS (fW (mm1 _ _ _ _) _) (Jq _ 1)) hu),?_⟩
   cases e:eqD x y with
   | true =>
     rw [e,if_pos rfl] at h;rw [if_pos rfl];have:=vQ xs ys A s us' vs' k ra2 rb2 (bS (BU (fW (mm2 _ _ _ _) _) 1) hu) h;have e1:decide ((x::xs).length < (y::ys).length) = decide (xs.length < ys.length):=by simp
     rw [e1]
     exact this
   | false =>
     rw [e,if_neg aq] at h;rw [if_neg aq];exact xW x y A s u v k ra1 rb1 (bS (BU (fW (mm1 _ _ _ _) _) 1) hu) h
end
def LX (hu:X.A.units+200 < cLine):OpR X (compareOp .Lt) (λx y H Q=>∃ F a b k,dC X.K H F a x/\dC X.K H F b y/\oY a b = some k/\Q (.bl k) H):=by
 intro pins s σ H x y v u Q I rx ry h;obtain ⟨F,a,b,k,ha,hb,e,q⟩:=h;unfold oY at e;split at e
 . exact xW a b X.A s v u k (fF I ha rx (by omega)) (fF I hb ry (by omega)) (by omega) e X.prog X.w X.xe _ ⟨.bl k,H,I,rfl,q⟩
 . cases e
def Ii:OpR X (binaryOp .Add) (λx y H Q=>∃ l b xs zs,x = .ref l/\y = .ref b/\LsB X.K H l xs/\LsB X.K H b zs/\xs.length+zs.length<=sizeLine/\∀ p,H p = none->Q (.ref p) (upd H p (.lst (xs++zs)))):=by
 intro pins s σ H x y v u Q I rx ry h;obtain ⟨l,b,xs,zs,rfl,rfl,h1,h2,hz,q⟩:=h;cases rx;cases ry;obtain ⟨i1,n1,r1,e1,z1⟩:=h1.obj I;obtain ⟨i2,n2,r2,e2,z2⟩:=h2.obj I;have l1:=r1.length;have l2:=r2.length;refine PySem.P.add_list e1 e2 ?_ (by simp only [aG];omega);rw [show i1.toArray++i2.toArray = (i1++i2).toArray by simp];exact ⟨.ref _,_,I.lnew (t':=s.toks) (r1.append r2) (by rw [ag];omega),rfl,q _ I.fresh⟩
end PP
end
section
namespace PP
open PySem PySem.W PyProof.Rows
def inR {α:Type} (lt:Nat->Nat->Bool) (n:Nat):KasT α->Prop
 | .ret _=>True
 | .ask i j k=>i < n/\j < n/\inR lt n (k (lt i j))
def jE {α β:Type} {lt:Nat->Nat->Bool} {n:Nat} {f:α->KasT β}:∀ {t:KasT α},inR lt n t->inR lt n (f (ans lt t))->inR lt n (t.bind f)
 | .ret a,_,h=>h
 | .ask i j k,⟨h1,h2,h3⟩,h=>⟨h1,h2,jE h3 h⟩
def iU {α:Type} {lt:Nat->Nat->Bool} {n:Nat} {c:Prop} [Decidable c] {a b:KasT α} (h1:inR lt n a) (h2:inR lt n b):inR lt n (if c then a else b):=by
 by_cases h:c
 . rw [if_pos h];exact h1
 . rw [if_neg h];exact h2
def All (p:Array Nat) (n:Nat):Prop:=0 < n/\∀ x∈p,x < n
def All.at {p:Array Nat} {n:Nat} (h:All p n) (k:Nat):p.getD k 0 < n:=by
 rw [getD_eq]
 cases e:p[k]? with
 | none=>exact h.1
 | some x=>exact h.2 x (Array.mem_of_getElem? e)
def All.perm {p q:Array Nat} {n:Nat} (h:All p n) (e:q.Perm p):All q n:=⟨h.1,λx hx=>h.2 x (e.mem_iff.mp hx)⟩
section
variable {lt:Nat->Nat->Bool} {n:Nat}
def yj {p:Array Nat} (h:All p n):∀ f k,inR lt n (kas_asc p f k)
 | 0,k=>trivial
 | f+1,k=>⟨h.at _,h.at _,iU trivial (yj h f (k+1))⟩
def pL:∀ (f:Nat) (p:Array Nat) (k q:Nat),All p n->inR lt n (kas_desc f p k q)/\All (ans lt (kas_desc f p k q)).1 n
 | 0,p,k,q,h=>⟨trivial,h⟩
 | f+1,p,k,q,h=>by
   unfold kas_desc;have r1:=pL f (kas_rev p (k - (q+1)) k) (k+1) 0 (h.perm (eK _ _ _));have r2:=pL f p (k+1) 0 h;have r3:=pL f p (k+1) (q+1) h;refine ⟨⟨h.at _,h.at _,iU (iU r1.1 r2.1) ⟨h.at _,h.at _,iU trivial r3.1⟩⟩,?_⟩;rw [fB]
   cases lt (p.getD k 0) (p.getD (k - 1) 0) with
   | true =>
     rw [if_pos rfl];by_cases hq:q > 0
     . rw [if_pos hq];exact r1.2
     . rw [if_neg hq];exact r2.2
   | false =>
     rw [if_neg aq,fB]
     cases lt (p.getD (k - 1) 0) (p.getD k 0) with
     | true=>rw [if_pos rfl];exact h
     | false=>rw [if_neg aq];exact r3.2
def vk {p:Array Nat} (h:All p n) (a m:Nat):inR lt n (kas_tail3 a m p)/\All (ans lt (kas_tail3 a m p)).2 n:=by
 unfold kas_tail3;have h':=h.perm (eK p 0 a);refine ⟨jE (yj h' _ _) trivial,?_⟩;rw [dP,iH];exact h'
def oT {p:Array Nat} (h:All p n) (a m:Nat):inR lt n (kas_descPart a m p)/\All (ans lt (kas_descPart a m p)).2 n:=by
 unfold kas_descPart;obtain ⟨d1,d2⟩:=pL (lt:=lt) (m - (a+1)) p (a+1) 0 h;rw [dP];generalize hr:ans lt (kas_desc (m - (a+1)) p (a+1) 0) = r at d2;have t1:=vk (lt:=lt) (d2.perm (eK r.1 (r.2.1 - (r.2.2+1)) r.2.1)) r.2.1 m;have t2:=vk (lt:=lt) d2 r.2.1 m;refine ⟨jE d1 (by rw [hr];exact iU t1.1 t2.1),?_⟩;by_cases hq:r.2.2 > 0
 . rw [if_pos hq];exact t1.2
 . rw [if_neg hq];exact t2.2
def FT {p:Array Nat} (h:All p n) (m:Nat):inR lt n (kas_count m p)/\All (ans lt (kas_count m p)).2 n:=by
 unfold kas_count;rw [dP];have a1:=yj (lt:=lt) h (m - 1) 1;generalize hk:ans lt (kas_asc p (m - 1) 1) = k;have t1:=oT (lt:=lt) (h.perm (eK p 0 k)) k m;have t2:=oT (lt:=lt) h k m;refine ⟨jE a1 (by rw [hk];exact iU trivial (iU ⟨h.at _,h.at _,iU trivial t1.1⟩ t2.1)),?_⟩;by_cases e:(k == m) = true
 . rw [if_pos e];exact h
 . rw [if_neg e];by_cases h1:k > 1
   . rw [if_pos h1,fB]
     cases lt (p.getD 0 0) (p.getD (k - 1) 0) with
     | true=>rw [if_pos rfl];exact h
     | false=>rw [if_neg aq];exact t1.2
   . rw [if_neg h1];exact t2.2
def qA {p:Array Nat} (h:All p n) (k:Nat):∀ f l r,inR lt n (kas_place p k f l r)
 | 0,l,r=>trivial
 | f+1,l,r=>by
   unfold kas_place;exact iU trivial ⟨h.at _,h.at _,iU (qA h k f _ _) (qA h k f _ _)⟩
def Gi:∀ (f:Nat) (p:Array Nat) (k:Nat),All p n->inR lt n (kas_bin f p k)
 | 0,p,k,h=>trivial
 | f+1,p,k,h=>by
   unfold kas_bin;exact jE (qA h k _ _ _) (Gi f _ _ (h.perm (Jn _ _ _)))
def yH (hn:0 < n):inR lt n (kas_sort n):=by
 unfold kas_sort;have h:All (fL (bE n)) n:=⟨hn,λx hx=>by simpa using hx⟩;obtain ⟨c1,c2⟩:=FT (lt:=lt) h n;exact jE c1 (iU (Gi _ _ _ c2) trivial)
end
def zy {α:Type} {prog:aQ} {w:bw} {A:bt} {κ:oK} {vs:List ah} {lt:Nat->Nat->Bool} {n:Nat} {s:ak} {Q:α->ak->Prop}
 (ha:∀ i j,i < n->j < n->∀ C:Bool->ak->Prop,C (lt i j) s->kas_ask prog w A κ vs i j C s):∀ t:KasT α,inR lt n t->Q (ans lt t) s->t.kasWp (kas_ask prog w A κ vs) Q s
 | .ret a,_,q=>q
 | .ask i j k,⟨h1,h2,h3⟩,q=>ha i j h1 h2 _ (zy ha (k (lt i j)) h3 q)
def fZ (lt:Nat->Nat->Bool) (vs:List ah):List ah:=if vs.length < 2 then vs else (ans lt (kas_sort vs.length)).toList.map λi=>vs.getD i cw
section
variable {prog:aQ} {w:bw} {A:bt} {E:ah->ak->Prop} {s:ak}
def ng {a:au} {vs:List ah} {n:Nat} {lt:Nat->Nat->Bool} {κ:oK} {P:PySem.Fin->ak->Prop} (ho:s.heap.get? a = some (seqObj "list" vs.toArray n)) (h64:vs.length < 64)
 (hlen:(fZ lt vs).length = vs.length)
 (hk:2<=vs.length->∀ h':bJ,(∀ b o,b≠a->s.heap.get? b = some o->h'.get? b = some o)->∀ C:oK->ak->Prop,C κ { s with heap:=h' }->wpAny (model prog w) A (keyKind' vs.toArray) C (λ_ _=>False) { s with heap:=h' })
 (ha:∀ h':bJ,(∀ b o,b≠a->s.heap.get? b = some o->h'.get? b = some o)->∀ i j,i < vs.length->j < vs.length->∀ C:Bool->ak->Prop,C (lt i j) { s with heap:=h' }->kas_ask prog w A κ vs i j C { s with heap:=h' })
 (q:P (.done (.ret .none)) { s with heap:=sortedHeap s.heap a vs (fZ lt vs).toArray }):wpAny (model prog w) A (gh.«list.sort» ⟨[.ref a],[]⟩) P E s:=by
 have la:a < s.heap.objs.size:=aC ho;obtain ⟨e1,o1⟩:∃ e1,(s.heap.update a (cg λ_=>(#[]:Array ah))).get? a = some (seqObj "list" #[] e1):=⟨_,wM ho λ_ => #[]⟩;have o3:(((s.heap.update a (cg λ_=>(#[]:Array ah))).push (seqObj "tuple" vs.toArray 0)).push (seqObj "list" #[] 0)).get? a = some (seqObj "list" #[] e1):=aj _ (aj _ o1)
 have keep:∀ b o,b≠a->s.heap.get? b = some o->(((s.heap.update a (cg λ_=>(#[]:Array ah))).push (seqObj "tuple" vs.toArray 0)).push (seqObj "list" #[] 0)).get? b = some o:=λb o hb e =>
  aj _ (aj _ ((eN _ _ (Ne.symm hb)).trans e))
 have sz:(fZ lt vs).toArray.size<=sizeLine:=by rw [aG,hlen,cq];lia
 rw [list_sort_plain];refine ab (listItems_at ho rfl (ab (lj ho rfl ?_ (by rw [aG,cq];lia) (cT _))));refine ab (Jm o1 rfl (ab (wpAny_newTuple ?_ (by show vs.length<=_;rw [cq];lia))));refine ab (BQ (cS ?_) (cT _));show wpAny (model prog w) A _ P E { s with heap:=((s.heap.update a (cg λ_=>(#[]:Array ah))).push (seqObj "tuple" vs.toArray 0)).push (seqObj "list" #[] 0) };dsimp only;by_cases h2:vs.toArray.size < 2
 . have hv:vs.length < 2:=by simpa using h2
   have eo:fZ lt vs = vs:=by unfold fZ;rw [if_pos hv]
   rw [if_pos h2,if_pos h2];refine ab (ay ?_);rw [StateT.run_pure];refine ab (ay ?_);dsimp only;refine ab (Jm o3 rfl ?_)
   have em:(arrOf (SortSt.mk' general' (vs.toArray.zip vs.toArray) #[] 7 none)).map (·.2) = (fZ lt vs).toArray:=by
    rw [eo];show (vs.toArray.zip vs.toArray).map (·.2) = vs.toArray;apply Array.ext
    . simp
    . intro i h1 h2;simp
   rw [em];refine ab (lj o3 rfl ?_ (cT _) (GG sz));simp only [bne_self_eq_false,bq,if_false];exact ay q
 . have hv:¬ vs.length < 2:=by simpa using h2
   have eo:fZ lt vs = (ans lt (kas_sort vs.length)).toList.map λi=>vs.getD i cw:=by unfold fZ;rw [if_neg hv]
   rw [if_neg h2,if_neg h2];refine ab (iY (hk ∅ _ keep (λκ' s'=>κ' = κ/\s' = { s with heap:=((s.heap.update a (cg λ_=>(#[]:Array ah))).push (seqObj "tuple" vs.toArray 0)).push (seqObj "list" #[] 0) }) ⟨rfl,rfl⟩) (λκ' s0 hk=>?_) λ_ _ x=>x.elim);obtain ⟨rfl,rfl⟩:=hk
   refine ab (iY (kat_run (Q:=λst' s'=>s' = { s with heap:=((s.heap.update a (cg λ_=>(#[]:Array ah))).push (seqObj "tuple" vs.toArray 0)).push (seqObj "list" #[] 0) }/\∃ p:Array Nat,arrOf st' = p.map (kas_item (vs.toArray.zip vs.toArray))/\failedOf st' = none/\p = ans lt (kas_sort vs.length))
    (G:=λp s'=>s' = { s with heap:=((s.heap.update a (cg λ_=>(#[]:Array ah))).push (seqObj "tuple" vs.toArray 0)).push (seqObj "list" #[] 0) }/\p = ans lt (kas_sort vs.length)) rfl ∅ h64 (λp st' s' a1 a2 a3 a4=>⟨a4.1,p,a2,a3,a4.2⟩)
    (zy (lt:=lt) (n:=vs.length) (λi j h1 h2 C hc=>ha _ keep i j h1 h2 C hc) _ (yH ∅) ⟨rfl,rfl⟩)) ?_ λ_ _ e=>e)
   rintro ⟨⟨⟩,st'⟩ s' ⟨rfl,p,har,hf,rfl⟩;dsimp only;rw [kat_snds rfl har,<- eo];refine ab (Jm o3 rfl (ab (lj o3 rfl ?_ (cT _) (GG sz))));rw [hf];simp only [bne_self_eq_false,bq,if_false];exact ay q
def AW {κ:oK} (hl:s.heap.IsList l vs.toArray) (h64:vs.length < 64) (hlen:(fZ lt vs).length = vs.length)
 (hk:2<=vs.length->∀ (A':bt) (h':bJ),A'.units<=A.units+2->(∀ b o,s.heap.get? b = some o->h'.get? b = some o)->∀ C:oK->ak->Prop,C κ { s with heap:=h' }->wpAny (model prog w) A' (keyKind' vs.toArray) C (λ_ _=>False) { s with heap:=h' })
 (ha:∀ (A':bt) (h':bJ),A'.units<=A.units+2->(∀ b o,s.heap.get? b = some o->h'.get? b = some o)->∀ i j,i < vs.length->j < vs.length->∀ C:Bool->ak->Prop,C (lt i j) { s with heap:=h' }->kas_ask prog w A' κ vs i j C { s with heap:=h' })
 (q:Q (.ref (s.heap.objs.size+1)) { s with heap:=sortedAll s.heap vs (fZ lt vs).toArray }):wpAny (model prog w) A (call (.builtin "sorted") [.ref l]) Q E s:=by
 refine sT kind_sorted plain_sorted entry_sorted (args_sorted1 _) ?_;unfold gh.«sorted»;refine ab (m:=checkCount "sorted" 1 1 _) (ay ?_);refine ab (collect_list hl (ab (BQ ?_ (by rw [cq];lia))) (by rw [cq];lia));have hs:((s.heap.push (seqObj "list" #[] 0)).update s.heap.objs.size (cg (·++vs.toArray))).objs.size = s.heap.objs.size+1:=by rw [Heap.size_update,size_push']
 have hL:(((s.heap.push (seqObj "list" #[] 0)).update s.heap.objs.size (cg (·++vs.toArray))).push (seqObj "list" vs.toArray 0)).get? (s.heap.objs.size+1) = some (seqObj "list" vs.toArray 0):=by
  rw [<- hs];exact aH _ rfl
 have keep:∀ b o,s.heap.get? b = some o->b≠s.heap.objs.size+1/\(((s.heap.push (seqObj "list" #[] 0)).update s.heap.objs.size (cg (·++vs.toArray))).push (seqObj "list" vs.toArray 0)).get? b = some o:=λb o e=>by
  have hlt:b < s.heap.objs.size:=aC e;exact ⟨aR (bP hlt),aj _ ((eN _ _ (fR hlt)).trans (aj _ e))⟩
 show wpAny _ _ _ _ _ { s with heap:=((s.heap.push (seqObj "list" #[] 0)).update s.heap.objs.size (cg (·++vs.toArray))).push (seqObj "list" vs.toArray 0) };rw [hs];refine ab (cS (bY slot_list_sort ⟨_,hL,rfl⟩ entry_list_sort ?body (args_list_sort _)))
 case body =>
  refine ng (lt:=lt) (κ:=κ) hL h64 hlen (λh2 h' kp=>hk h2 _ h' ?_ λb o e=>kp b o (keep b o e).1 (keep b o e).2) (λh' kp=>ha _ h' ?_ λb o e=>kp b o (keep b o e).1 (keep b o e).2) ?_
  . exact ax _
  . exact ax _
  . exact ⟨_,rfl,ay ⟨_,rfl,q⟩⟩
end
end PP
end
section
namespace PP
open PySem L2 PySem.SeqAt PyProof.Rows PySem.W
variable [Tbs]
section
variable {lt:Nat->Nat->Bool}
def lF:∀ (f:Nat) (p:Array Nat) (k q:Nat),(ans lt (kas_desc f p k q)).1.Perm p
 | 0,p,k,q=>cI _
 | f+1,p,k,q=>by
   unfold kas_desc;rw [fB]
   cases lt (p.getD k 0) (p.getD (k - 1) 0) with
   | true =>
     rw [if_pos rfl];by_cases hq:q > 0
     . rw [if_pos hq];exact (lF f _ _ _).trans (eK _ _ _)
     . rw [if_neg hq];exact lF f _ _ _
   | false =>
     rw [if_neg aq,fB]
     cases lt (p.getD (k - 1) 0) (p.getD k 0) with
     | true=>rw [if_pos rfl];exact cI _
     | false=>rw [if_neg aq];exact lF f _ _ _
def qk (a m:Nat) (p:Array Nat):(ans lt (kas_tail3 a m p)).2.Perm p:=by
 unfold kas_tail3;rw [dP,iH];exact eK _ _ _
def lR (a m:Nat) (p:Array Nat):(ans lt (kas_descPart a m p)).2.Perm p:=by
 unfold kas_descPart;rw [dP];have d:=lF (lt:=lt) (m - (a+1)) p (a+1) 0;generalize ans lt (kas_desc (m - (a+1)) p (a+1) 0) = r at d;by_cases hq:r.2.2 > 0
 . rw [if_pos hq];exact ((qk _ _ _).trans (eK _ _ _)).trans d
 . rw [if_neg hq];exact (qk _ _ _).trans d
def xZ (m:Nat) (p:Array Nat):(ans lt (kas_count m p)).2.Perm p:=by
 unfold kas_count;rw [dP];generalize ans lt (kas_asc p (m - 1) 1) = k;by_cases e:(k == m) = true
 . rw [if_pos e];exact cI _
 . rw [if_neg e];by_cases h1:k > 1
   . rw [if_pos h1,fB]
     cases lt (p.getD 0 0) (p.getD (k - 1) 0) with
     | true=>rw [if_pos rfl];exact cI _
     | false=>rw [if_neg aq];exact (lR _ _ _).trans (eK _ _ _)
   . rw [if_neg h1];exact lR _ _ _
def wA:∀ (f:Nat) (p:Array Nat) (k:Nat),(ans lt (kas_bin f p k)).Perm p
 | 0,p,k=>cI _
 | f+1,p,k=>by
   unfold kas_bin;rw [dP];exact (wA f _ _).trans (Jn _ _ _)
def AX (n:Nat):(ans lt (kas_sort n)).Perm (fL (bE n)):=by
 unfold kas_sort;rw [dP];have c:=xZ (lt:=lt) n (fL (bE n));generalize ans lt (kas_count n (fL (bE n))) = r at c;by_cases h:r.1 < n
 . rw [if_pos h];exact (wA _ _ _).trans c
 . rw [if_neg h];exact c
def gK (n:Nat):(ans lt (kas_sort n)).toList.Perm (bE n):=by
 have:=(AX (lt:=lt) n).toList;simpa using this
end
mutual
theorem RdV.keep (k:∀ b o,h.get? b = some o->h'.get? b = some o):∀ (d:D) (u:ah),RdV h d u->RdV h' d u
 | .non,u,r=>by unfold RdV at r |-;exact r
 | .bl _,u,r=>by unfold RdV at r |-;exact r
 | .int _,u,r=>by unfold RdV at r |-;exact r
 | .str _,u,r=>by unfold RdV at r |-;exact r
 | .lst ds,u,r=>by
   unfold RdV at r |-;obtain ⟨a,its,e,⟨o,h1,h2⟩,h3⟩:=r
   exact ⟨a,its,e,⟨o,k _ _ h1,h2⟩,RdL.keep k ds _ h3⟩
 | .tup ds,u,r=>by
   unfold RdV at r |-;obtain ⟨a,its,e,⟨o,h1,h2⟩,h3⟩:=r
   exact ⟨a,its,e,⟨o,k _ _ h1,h2⟩,RdL.keep k ds _ h3⟩
 | .fn _ _,u,r=>by unfold RdV at r;exact r.elim
theorem RdL.keep (k:∀ b o,h.get? b = some o->h'.get? b = some o):∀ (ds:List D) (us:List ah),RdL h ds us->RdL h' ds us
 | [],us,r=>by unfold RdL at r |-;exact r
 | d::ds,us,r=>by
   unfold RdL at r |-;obtain ⟨w,ws,e,r1,r2⟩:=r;exact ⟨w,ws,e,RdV.keep k d w r1,RdL.keep k ds ws r2⟩
end
def RdL.nth:∀ {ds:List D} {us:List ah} (i:Nat),RdL h ds us->i < ds.length->RdV h (ds.getD i .non) (us.getD i cw)
 | [],us,i,r,hi=>by simp at hi
 | d::ds,us,i,r,hi=>by
   unfold RdL at r;obtain ⟨w,ws,rfl,r1,r2⟩:=r
   cases i with
   | zero=>exact r1
   | succ i=>exact RdL.nth i r2 (by simpa using hi)
section
variable {prog:aQ} {w:bw} {s:ak}
def JE {A:bt} {E:ah->ak->Prop} {a b:D} {u v:ah} {k:Bool} {Q:Bool->ak->Prop} (ra:RdV s.heap a u) (rb:RdV s.heap b v) (hk:(bF a = 1/\bF b = 1)\/(bF a = 2/\bF b = 2)) (h:ltD a b = some k) (q:Q k s):wpAny (model prog w) A (oneLt' true u v) Q E s:=by
 rcases hk with ⟨h1,h2⟩ | ⟨h1,h2⟩
 . cases a<;>first | (simp [bF] at h1;done) | skip
   . cases b<;>first | (simp [bF] at h2;done) | skip
     . unfold RdV at ra rb;obtain ⟨t,rfl⟩:=ra;obtain ⟨t',rfl⟩:=rb;unfold ltD at h;cases h;exact oneLt_str q
     . rename_i l;cases l with
       | nil=>simp [bF] at h2
       | cons x r=>cases x<;>simp [bF] at h2
   . rename_i l;cases l with
     | nil=>simp [bF] at h1
     | cons x r=>cases x<;>simp [bF] at h1
 . cases a<;>first | (simp [bF] at h1;done) | skip
   . cases b<;>first | (simp [bF] at h2;done) | skip
     . unfold RdV at ra rb;obtain ⟨t,rfl⟩:=ra;obtain ⟨t',rfl⟩:=rb;unfold ltD at h;cases h;exact oneLt_int q
     . rename_i l;cases l with
       | nil=>simp [bF] at h2
       | cons x r=>cases x<;>simp [bF] at h2
   . rename_i l;cases l with
     | nil=>simp [bF] at h1
     | cons x r=>cases x<;>simp [bF] at h1
def vS:∀ (as bs:List D) (us vs:List ah) (i:Nat),RdL s.heap as us->RdL s.heap bs vs->A.units+min (dh as) (dh bs)+1 < cLine->iB as bs = some k->fin = decide (as.length < bs.length) ->
 (i = 0->∀ x y,as.head? = some x->bs.head? = some y->(bF x = 1/\bF y = 1)\/(bF x = 2/\bF y = 2))->Q k s->KatLex prog w A true fin Q (us.zip vs) i s
 | [],[],us,vs,i,ra,rb,hu,h,hf,hh,q=>by
   unfold RdL at ra rb;subst ra;subst rb;unfold iB at h;cases h;subst hf
   exact kat_nil q
 | [],y::ys,us,vs,i,ra,rb,hu,h,hf,hh,q=>by
   unfold RdL at ra;subst ra;unfold iB at h;cases h;have:fin = true:=by rw [hf];simp
   subst this
   exact kat_nil q
 | x::xs,[],us,vs,i,ra,rb,hu,h,hf,hh,q=>by
   unfold RdL at rb;subst rb;unfold iB at h;cases h;have:fin = false:=by rw [hf];simp
   subst this;rw [nU]
   exact kat_nil q
 | x::xs,y::ys,us,vs,i,ra,rb,hu,h,hf,hh,q=>by
   unfold RdL at ra rb;obtain ⟨u,us',rfl,ra1,ra2⟩:=ra;obtain ⟨v,vs',rfl,rb1,rb2⟩:=rb;unfold iB at h;unfold dh at hu;rw [cY];refine kat_cons (uB x y A s u v ra1 rb1 ∅ prog w _ _ ?_)
   cases e:eqD x y with
   | true =>
     rw [e,if_pos rfl] at h
     exact kat_yes (vS xs ys us' vs' (i+1) ra2 rb2 ∅ h (by rw [hf];simp) (λz=>by lia) q)
   | false =>
     rw [e,if_neg aq] at h;refine kat_no ?_;by_cases hi:i = 0
     . subst hi;exact JE ra1 rb1 (hh rfl x y rfl rfl) h q
     . have e0:(true && i == 0) = false:=by simp [hi]
       rw [e0];exact kat_one u v (xW x y A s u v k ra1 rb1 ∅ h prog w _ _ q)
end
end PP
end
section
namespace PP
open PySem
structure Ck where
 N:List Str
 sc:eA
 fns:List (Str × List Str)
 gn:List Str
def AL (sc:eA) (x:Str):Bool:=match sc.names.lookup x with
 | some .local=>true | some .cell=>true | some .free=>true | _=>false
def MG (sc:eA) (x:Str):Bool:=match sc.names.lookup x with
 | some .local=>true | some .cell=>true | _=>false
def glB (sc:eA) (x:Str):Bool:=match sc.names.lookup x with
 | some .globalImplicit=>true | _=>false
def EU (x:Str):Bool:=!(x == ("__debug__":Str)) && !(x == ("__classdict__":Str)) && !(x == ("__name__":Str))
def fe (c:Ck) (i:Nat) (x:Str):Bool:=decide (c.N[i]? = some x) && AL c.sc x && EU x
def iR (c:Ck) (i:Nat) (x:Str):Bool:=decide (c.N[i]? = some x) && MG c.sc x && EU x
def fI (c:Ck) (x:Str):Bool:=glB c.sc x && EU x
def Ik:Op->iu->Bool
 | .add,.Add=>true | .sub,.Sub=>true | .mul,.Mult=>true | .mod,.Mod=>true | .fdiv,.FloorDiv=>true
 | _,_=>false
def zS:Cop->CmpOp->Bool
 | .lt,.Lt=>true | .le,.LtE=>true | .gt,.Gt=>true | .eq,.Eq=>true | .ne,.NotEq=>true | .isin,.In=>true | .notin,.NotIn=>true | .is,.Is=>true
 | _,_=>false
def sI:Blt->Str
 | .len=>"len" | .toInt=>"int" | .toStr=>"str" | .toTup=>"tuple" | .toLst=>"list" | .sorted=>"sorted"
 | .isTup=>"isinstance"
def jJ:List Str:=["len","min","max","int","str","tuple","list","dict","sum","isinstance","bool","range","sorted","set","zip","any","divmod","reversed","all"]
def ie:Es->Bool
 | .nil=>true
 | .cons e es=>!bM e && ie es
def ox:Es->Bool
 | .nil=>true
 | .cons e es=>(!bM e || npS es) && ox es
def wb:Es->Nat
 | .nil=>0
 | .cons _ es=>wb es+1
def st (x:aE):Str:=match x with
 | .Name y _=>y
 | .Attribute _ m _=>m
 | _=>""
def cst (x:aE):Const:=match x with
 | .Constant v _ _=>v
 | _=>.none
def e1 (x:aE):aE:=match x with
 | .BinOp y _ _ _=>y
 | .Compare y _ _ _=>y
 | .UnaryOp _ y _=>y
 | .IfExp t _ _ _=>t
 | .Subscript y _ _=>y
 | .Call f _ _ _=>f
 | .Attribute y _ _=>y
 | .ListComp e _ _ _=>e
 | .SetComp e _ _ _=>e
 | _=>x
def bop (x:aE):iu:=match x with
 | .BinOp _ o _ _=>o
 | _=>.Add
def e2 (x:aE):aE:=match x with
 | .BinOp _ _ z _=>z
 | .IfExp _ y _ _=>y
 | .Subscript _ z _=>z
 | _=>x
def QB (x:aE):List CmpOp:=match x with
 | .Compare _ os _ _=>os
 | _=>[]
def ls (x:aE):List aE:=match x with
 | .Compare _ _ zs _=>zs
 | .BoolOp _ vs _=>vs
 | .Tuple es _ _=>es
 | .List es _=>es
 | .Call _ as _ _=>as
 | _=>[]
def QC (x:aE):PySem.BoolOp:=match x with
 | .BoolOp o _ _=>o
 | _=>.And
def po (x:aE):Pos:=match x with
 | .Name _ p=>p
 | .BoolOp _ _ p=>p
 | .Call _ _ _ p=>p
 | .Attribute _ _ p=>p
 | .ListComp _ _ _ p=>p
 | _=>⟨0,0,0,0⟩
def uop (x:aE):PySem.UnaryOp:=match x with
 | .UnaryOp o _ _=>o
 | _=>.Not
def e3 (x:aE):aE:=match x with
 | .IfExp _ _ z _=>z
 | _=>x
def o1 (x:aE):Option aE:=match x with
 | .Slice l _ _ _=>l
 | _=>none
def o2 (x:aE):Option aE:=match x with
 | .Slice _ h _ _=>h
 | _=>none
def o3 (x:aE):Option aE:=match x with
 | .Slice _ _ s _=>s
 | _=>none
def kws (x:aE):List jN:=match x with
 | .Call _ _ ks _=>ks
 | _=>[]
def gns (x:aE):List pW:=match x with
 | .ListComp _ gs _ _=>gs
 | .SetComp _ gs _ _=>gs
 | _=>[]
def scp (x:aE) (d:eA):eA:=match x with
 | .ListComp _ _ sc _=>sc
 | .SetComp _ _ sc _=>sc
 | _=>d
def jsV (x:aE):List aE:=match x with
 | .JoinedStr vs _=>vs
 | _=>[]
def fvC (x:aE):Int:=match x with
 | .FormattedValue _ cv _ _=>cv
 | _=>0
def fvX (x:aE):aE:=match x with
 | .FormattedValue y _ _ _=>y
 | _=>x
def fvS (x:aE):Option aE:=match x with
 | .FormattedValue _ _ sp _=>sp
 | _=>none
def ja:aE->Nat
 | .Name .. => 0
 | .Constant .. => 1
 | .BinOp .. => 2
 | .Compare .. => 3
 | .BoolOp .. => 4
 | .UnaryOp .. => 5
 | .IfExp .. => 6
 | .Tuple .. => 7
 | .List .. => 8
 | .Subscript .. => 9
 | .Slice .. => 10
 | .Call .. => 11
 | .Attribute .. => 12
 | .ListComp .. => 13
 | .SetComp .. => 14
 | .JoinedStr .. => 15
 | .FormattedValue .. => 16
 | _=>99
def Pc (x:aE):Nat->Prop
 | 0=>∃ y p,x = .Name y p
 | 1=>∃ v n p,x = .Constant v n p
 | 2=>∃ y o z p,x = .BinOp y o z p
 | 3=>∃ y os zs p,x = .Compare y os zs p
 | 4=>∃ o vs p,x = .BoolOp o vs p
 | 5=>∃ o y p,x = .UnaryOp o y p
 | 6=>∃ t y z p,x = .IfExp t y z p
 | 7=>∃ es n p,x = .Tuple es n p
 | 8=>∃ es p,x = .List es p
 | 9=>∃ y z p,x = .Subscript y z p
 | 10=>∃ l u s p,x = .Slice l u s p
 | 11=>∃ f as ks p,x = .Call f as ks p
 | 12=>∃ y m p,x = .Attribute y m p
 | 13=>∃ e gs sc p,x = .ListComp e gs sc p
 | 14=>∃ e gs sc p,x = .SetComp e gs sc p
 | 15=>∃ vs p,x = .JoinedStr vs p
 | 16=>∃ y cv sp p,x = .FormattedValue y cv sp p
 | _=>True
def Fv (x:aE):Pc x (ja x):=by
 cases x<;>first | trivial | exact ⟨_,_,rfl⟩ | exact ⟨_,_,_,rfl⟩ | exact ⟨_,_,_,_,rfl⟩ | exact ⟨_,_,_,_,_,rfl⟩
def dF (h:((ja x == n) && b) = true):Pc x n/\b = true:=by
 rw [aa] at h;exact ⟨eq_of_beq h.1▸Fv x,h.2⟩
@[irreducible] noncomputable def Mi (x:aE) (k:List aE->Bool):Bool:=(ja x == 15) && k (jsV x)
def zi (h:Mi x k = true):∃ vs p,x = .JoinedStr vs p/\k vs = true:=by
 unfold Mi at h;obtain ⟨⟨vs,p,rfl⟩,h⟩:=dF h;exact ⟨vs,p,rfl,h⟩
@[irreducible] noncomputable def Mm (x:aE) (k:aE->Int->Option aE->Bool):Bool:=(ja x == 16) && k (fvX x) (fvC x) (fvS x)
def Ip (h:Mm x k = true):∃ y cv sp p,x = .FormattedValue y cv sp p/\k y cv sp = true:=by
 unfold Mm at h;obtain ⟨⟨y,cv,sp,p,rfl⟩,h⟩:=dF h;exact ⟨y,cv,sp,p,rfl,h⟩
@[irreducible] noncomputable def eJ (x:aE) (k:Str->Bool):Bool:=(ja x == 0) && k (st x)
def cy (h:eJ x k = true):∃ y p,x = .Name y p/\k y = true:=by
 unfold eJ at h;obtain ⟨⟨y,p,rfl⟩,h⟩:=dF h;exact ⟨y,p,rfl,h⟩
@[irreducible] noncomputable def onC (x:aE) (k:Const->Bool):Bool:=(ja x == 1) && k (cst x)
def ou (h:onC x k = true):∃ v n p,x = .Constant v n p/\k v = true:=by
 unfold onC at h;obtain ⟨⟨v,n,p,rfl⟩,h⟩:=dF h;exact ⟨v,n,p,rfl,h⟩
@[irreducible] noncomputable def EM (x:aE) (k:aE->iu->aE->Bool):Bool:=(ja x == 2) && k (e1 x) (bop x) (e2 x)
def vL (h:EM x k = true):∃ y o z p,x = .BinOp y o z p/\k y o z = true:=by
 unfold EM at h;obtain ⟨⟨y,o,z,p,rfl⟩,h⟩:=dF h;exact ⟨y,o,z,p,rfl,h⟩
@[irreducible] noncomputable def EK (x:aE) (k:aE->List CmpOp->List aE->Bool):Bool:=(ja x == 3) && k (e1 x) (QB x) (ls x)
def qE (h:EK x k = true):∃ y os zs p,x = .Compare y os zs p/\k y os zs = true:=by
 unfold EK at h;obtain ⟨⟨y,os,zs,p,rfl⟩,h⟩:=dF h;exact ⟨y,os,zs,p,rfl,h⟩
@[irreducible] noncomputable def EL (x:aE) (k:PySem.BoolOp->List aE->Pos->Bool):Bool:=(ja x == 4) && k (QC x) (ls x) (po x)
def mX (h:EL x k = true):∃ o vs p,x = .BoolOp o vs p/\k o vs p = true:=by
 unfold EL at h;obtain ⟨⟨o,vs,p,rfl⟩,h⟩:=dF h;exact ⟨o,vs,p,rfl,h⟩
@[irreducible] noncomputable def EA (x:aE) (k:PySem.UnaryOp->aE->Bool):Bool:=(ja x == 5) && k (uop x) (e1 x)
def pG (h:EA x k = true):∃ o y p,x = .UnaryOp o y p/\k o y = true:=by
 unfold EA at h;obtain ⟨⟨o,y,p,rfl⟩,h⟩:=dF h;exact ⟨o,y,p,rfl,h⟩
@[irreducible] noncomputable def Mj (x:aE) (k:aE->aE->aE->Bool):Bool:=(ja x == 6) && k (e1 x) (e2 x) (e3 x)
def zj (h:Mj x k = true):∃ t y z p,x = .IfExp t y z p/\k t y z = true:=by
 unfold Mj at h;obtain ⟨⟨t,y,z,p,rfl⟩,h⟩:=dF h;exact ⟨t,y,z,p,rfl,h⟩
@[irreducible] noncomputable def oN (x:aE) (k:List aE->Bool):Bool:=(ja x == 7) && k (ls x)
def hW (h:oN x k = true):∃ es n p,x = .Tuple es n p/\k es = true:=by
 unfold oN at h;obtain ⟨⟨es,n,p,rfl⟩,h⟩:=dF h;exact ⟨es,n,p,rfl,h⟩
@[irreducible] noncomputable def EF (x:aE) (k:List aE->Bool):Bool:=(ja x == 8) && k (ls x)
def qD (h:EF x k = true):∃ es p,x = .List es p/\k es = true:=by
 unfold EF at h;obtain ⟨⟨es,p,rfl⟩,h⟩:=dF h;exact ⟨es,p,rfl,h⟩
@[irreducible] noncomputable def sf (x:aE) (k:aE->aE->Bool):Bool:=(ja x == 9) && k (e1 x) (e2 x)
def kQ (h:sf x k = true):∃ y z p,x = .Subscript y z p/\k y z = true:=by
 unfold sf at h;obtain ⟨⟨y,z,p,rfl⟩,h⟩:=dF h;exact ⟨y,z,p,rfl,h⟩
@[irreducible] noncomputable def Mf (x:aE) (k:Option aE->Option aE->Option aE->Bool):Bool:=(ja x == 10) && k (o1 x) (o2 x) (o3 x)
def zh (h:Mf x k = true):∃ l u s p,x = .Slice l u s p/\k l u s = true:=by
 unfold Mf at h;obtain ⟨⟨l,u,s,p,rfl⟩,h⟩:=dF h;exact ⟨l,u,s,p,rfl,h⟩
@[irreducible] noncomputable def ub (x:aE) (k:aE->List aE->List jN->Pos->Bool):Bool:=(ja x == 11) && k (e1 x) (ls x) (kws x) (po x)
def sj (h:ub x k = true):∃ f as ks p,x = .Call f as ks p/\k f as ks p = true:=by
 unfold ub at h;obtain ⟨⟨f,as,ks,p,rfl⟩,h⟩:=dF h;exact ⟨f,as,ks,p,rfl,h⟩
@[irreducible] noncomputable def Mq (x:aE) (k:aE->Str->Pos->Bool):Bool:=(ja x == 12) && k (e1 x) (st x) (po x)
def Ir (h:Mq x k = true):∃ y m p,x = .Attribute y m p/\k y m p = true:=by
 unfold Mq at h;obtain ⟨⟨y,m,p,rfl⟩,h⟩:=dF h;exact ⟨y,m,p,rfl,h⟩
@[irreducible] noncomputable def Io (x:aE) (k:aE->List pW->eA->Pos->Bool):Bool:=(ja x == 13) && k (e1 x) (gns x) (scp x default) (po x)
def pH (h:Io x k = true):∃ e gs sc p,x = .ListComp e gs sc p/\k e gs sc p = true:=by
 unfold Io at h;obtain ⟨⟨e,gs,sc,p,rfl⟩,h⟩:=dF h;exact ⟨e,gs,sc,p,rfl,h⟩
@[irreducible] noncomputable def Mh (x:aE) (k:aE->List pW->eA->Bool):Bool:=(ja x == 14) && k (e1 x) (gns x) (scp x default)
def Im (h:Mh x k = true):∃ e gs sc p,x = .SetComp e gs sc p/\k e gs sc = true:=by
 unfold Mh at h;obtain ⟨⟨e,gs,sc,p,rfl⟩,h⟩:=dF h;exact ⟨e,gs,sc,p,rfl,h⟩
def sls (x:cR):List aE:=match x with
 | .Assign ts _ _=>ts
 | _=>[]
def s1 (x:cR):aE:=match x with
 | .Assign _ y _=>y
 | .AugAssign t _ _ _=>t
 | .If t _ _ _=>t
 | .For t _ _ _ _=>t
 | .While t _ _ _=>t
 | .Expr y _=>y
 | _=>.Constant .none 0 ⟨0,0,0,0⟩
def sop (x:cR):iu:=match x with
 | .AugAssign _ o _ _=>o
 | _=>.Add
def s2 (x:cR):aE:=match x with
 | .AugAssign _ _ y _=>y
 | .For _ it _ _ _=>it
 | _=>.Constant .none 0 ⟨0,0,0,0⟩
def so (x:cR):Option aE:=match x with
 | .Return y _=>y
 | _=>none
def sb (x:cR):List cR:=match x with
 | .If _ y _ _=>y
 | .For _ _ y _ _=>y
 | .While _ y _ _=>y
 | _=>[]
def sc2 (x:cR):List cR:=match x with
 | .If _ _ z _=>z
 | .For _ _ _ z _=>z
 | .While _ _ z _=>z
 | _=>[]
def tF:cR->Nat
 | .Assign .. => 0
 | .AugAssign .. => 1
 | .Return .. => 2
 | .If .. => 3
 | .For .. => 4
 | .While .. => 5
 | .Expr .. => 6
 | _=>99
def Pb (x:cR):Nat->Prop
 | 0=>∃ ts y p,x = .Assign ts y p
 | 1=>∃ t o y p,x = .AugAssign t o y p
 | 2=>∃ y p,x = .Return y p
 | 3=>∃ t y z p,x = .If t y z p
 | 4=>∃ t it y z p,x = .For t it y z p
 | 5=>∃ t y z p,x = .While t y z p
 | 6=>∃ y p,x = .Expr y p
 | _=>True
def Fu (x:cR):Pb x (tF x):=by
 cases x<;>first | trivial | exact ⟨_,_,rfl⟩ | exact ⟨_,_,_,rfl⟩ | exact ⟨_,_,_,_,rfl⟩ | exact ⟨_,_,_,_,_,rfl⟩
def kf (h:((tF x == n) && b) = true):Pb x n/\b = true:=by
 rw [aa] at h;exact ⟨eq_of_beq h.1▸Fu x,h.2⟩
@[irreducible] noncomputable def sk (x:cR) (k:List aE->aE->Bool):Bool:=(tF x == 0) && k (sls x) (s1 x)
def mY (h:sk x k = true):∃ ts y p,x = .Assign ts y p/\k ts y = true:=by
 unfold sk at h;obtain ⟨⟨ts,y,p,rfl⟩,h⟩:=kf h;exact ⟨ts,y,p,rfl,h⟩
@[irreducible] noncomputable def EO (x:cR) (k:aE->iu->aE->Bool):Bool:=(tF x == 1) && k (s1 x) (sop x) (s2 x)
def EN (h:EO x k = true):∃ t o y p,x = .AugAssign t o y p/\k t o y = true:=by
 unfold EO at h;obtain ⟨⟨t,o,y,p,rfl⟩,h⟩:=kf h;exact ⟨t,o,y,p,rfl,h⟩
@[irreducible] noncomputable def ED (x:cR) (k:Option aE->Bool):Bool:=(tF x == 2) && k (so x)
def EC (h:ED x k = true):∃ y p,x = .Return y p/\k y = true:=by
 unfold ED at h;obtain ⟨⟨y,p,rfl⟩,h⟩:=kf h;exact ⟨y,p,rfl,h⟩
@[irreducible] noncomputable def EH (x:cR) (k:aE->List cR->List cR->Bool):Bool:=(tF x == 3) && k (s1 x) (sb x) (sc2 x)
def EG (h:EH x k = true):∃ t y z p,x = .If t y z p/\k t y z = true:=by
 unfold EH at h;obtain ⟨⟨t,y,z,p,rfl⟩,h⟩:=kf h;exact ⟨t,y,z,p,rfl,h⟩
@[irreducible] noncomputable def EJ (x:cR) (k:aE->aE->List cR->List cR->Bool):Bool:=(tF x == 4) && k (s1 x) (s2 x) (sb x) (sc2 x)
def EI (h:EJ x k = true):∃ t it y z p,x = .For t it y z p/\k t it y z = true:=by
 unfold EJ at h;obtain ⟨⟨t,it,y,z,p,rfl⟩,h⟩:=kf h;exact ⟨t,it,y,z,p,rfl,h⟩
@[irreducible] noncomputable def Me (x:cR) (k:aE->List cR->List cR->Bool):Bool:=(tF x == 5) && k (s1 x) (sb x) (sc2 x)
def Il (h:Me x k = true):∃ t y z p,x = .While t y z p/\k t y z = true:=by
 unfold Me at h;obtain ⟨⟨t,y,z,p,rfl⟩,h⟩:=kf h;exact ⟨t,y,z,p,rfl,h⟩
@[irreducible] noncomputable def Iq (x:cR) (k:aE->Bool):Bool:=(tF x == 6) && k (s1 x)
def zk (h:Iq x k = true):∃ y p,x = .Expr y p/\k y = true:=by
 unfold Iq at h;obtain ⟨⟨y,p,rfl⟩,h⟩:=kf h;exact ⟨y,p,rfl,h⟩
section
variable {α:Type} {xs:List α}
@[irreducible] noncomputable def on0 (xs:List α) (k:Bool):Bool:=match xs with
 | []=>k
 | _=>false
def fH (h:on0 xs k = true):xs = []/\k = true:=by
 unfold on0 at h;cases xs<;>first | exact ⟨rfl,h⟩ | cases h
@[irreducible] noncomputable def onS (xs:List α) (k:α->List α->Bool):Bool:=match xs with
 | y::ys=>k y ys
 | _=>false
def eI (h:onS xs k = true):∃ y ys,xs = y::ys/\k y ys = true:=by
 unfold onS at h;cases xs<;>first | exact ⟨_,_,rfl,h⟩ | cases h
@[irreducible] noncomputable def on1 (xs:List α) (k:α->Bool):Bool:=onS xs λy ys=>on0 ys (k y)
def fG (h:on1 xs k = true):∃ y,xs = [y]/\k y = true:=by
 unfold on1 at h;obtain ⟨y,ys,rfl,h1⟩:=eI h;obtain ⟨rfl,h2⟩:=fH h1;exact ⟨y,rfl,h2⟩
@[irreducible] noncomputable def on2 (xs:List α) (k:α->α->Bool):Bool:=onS xs λy ys=>on1 ys (k y)
def mf (h:on2 xs k = true):∃ y z,xs = [y,z]/\k y z = true:=by
 unfold on2 at h;obtain ⟨y,ys,rfl,h1⟩:=eI h;obtain ⟨z,rfl,h2⟩:=fG h1;exact ⟨y,z,rfl,h2⟩
end
@[irreducible] noncomputable def onI (v:Const) (k:Int->Bool):Bool:=match v with
 | .int i=>k i
 | _=>false
def Ml (h:onI v k = true):∃ i,v = .int i/\k i = true:=by
 unfold onI at h;cases v<;>first | exact ⟨_,rfl,h⟩ | cases h
@[irreducible] noncomputable def onB (v:Const) (k:Bool->Bool):Bool:=match v with
 | .bool i=>k i
 | _=>false
def Mp (h:onB v k = true):∃ i,v = .bool i/\k i = true:=by
 unfold onB at h;cases v<;>first | exact ⟨_,rfl,h⟩ | cases h
@[irreducible] noncomputable def onT (v:Const) (k:Str->Bool):Bool:=match v with
 | .str i=>k i
 | _=>false
def EB (h:onT v k = true):∃ i,v = .str i/\k i = true:=by
 unfold onT at h;cases v<;>first | exact ⟨_,rfl,h⟩ | cases h
def JO:Const->Bool
 | .none=>true
 | _=>false
def Fo (h:JO v = true):v = .none:=by
 cases v<;>first | rfl | cases h
@[irreducible] noncomputable def rD (x:aE) (k:Str->List aE->Bool):Bool:=ub x λf as ks _=>eJ f λn=>on0 ks (k n as)
def gj (h:rD x k = true):∃ n np as p,x = .Call (.Name n np) as [] p/\k n as = true:=by
 unfold rD at h;obtain ⟨f,as,ks,p,rfl,h1⟩:=sj h;obtain ⟨n,np,rfl,h2⟩:=cy h1;obtain ⟨rfl,h3⟩:=fH h2;exact ⟨n,np,as,p,rfl,h3⟩
@[irreducible] noncomputable def onM (x:aE) (k:aE->Str->List aE->Bool):Bool:=ub x λf as ks cp=>Mq f λy m ap=>on0 ks (decide (ap.endLine = cp.line) && k y m as)
def tZ (h:onM x k = true):∃ y m ap as cp,x = .Call (.Attribute y m ap) as [] cp/\ap.endLine = cp.line/\k y m as = true:=by
 unfold onM at h;obtain ⟨f,as,ks,cp,rfl,h1⟩:=sj h;obtain ⟨y,m,ap,rfl,h2⟩:=Ir h1;obtain ⟨rfl,h3⟩:=fH h2;rw [aa] at h3;exact ⟨y,m,ap,as,cp,rfl,of_decide_eq_true h3.1,h3.2⟩
@[irreducible] noncomputable def onG (g:pW) (k:aE->aE->List aE->Bool):Bool:=decide (g.is_async = 0) && k g.target g.iter g.ifs
def ua (h:onG g k = true):∃ t it il,g = ⟨t,it,il,0⟩/\k t it il = true:=by
 obtain ⟨t,it,il,a⟩:=g;unfold onG at h;rw [aa] at h;have e:a = 0:=of_decide_eq_true h.1;subst e;exact ⟨t,it,il,rfl,h.2⟩
def tD:aE->Option (List Str)
 | .Name x _=>some [x]
 | .Tuple es _ _=>es.mapM fun | .Name x _=>some x | _=>none
 | _=>none
def Nb (c:Ck):List Nat->List aE->Bool
 | [],es=>on0 es true
 | i::is,es=>onS es λe r=>eJ e (λx=>iR c i x) && Nb c is r
def qR (c:Ck):Tg->aE->Bool
 | .nm i,x=>eJ x λy=>iR c i y
 | .tp is,x=>oN x λes=>Nb c is es
def lZ (n:Nat):Tg->Bool
 | .nm i=>decide (n<=i)
 | .tp is=>is.all λi=>decide (n<=i)
def jD (ts:List Str) (N:List Str):List Str:=N.map λy=>if ts.contains y then y++(" ":Str) else y
def jW (c:Ck) (sc:eA):Bool :=
 decide (sc.kind = .function) && sc.names.all λp=>decide (p.2≠.cell) && (!decide (p.2 = .local) || decide (sc.names.lookup p.1 = some .local)) &&
  (!decide (p.2 = .free) || (match c.sc.names.lookup p.1 with | some .cell=>true | some .free=>true | _=>false))
def namesOk (c:Ck) (sc:eA) (Nc:List Str):Bool :=
 decide Nc.Nodup && (bE c.N.length).all λi=>match Nc[i]? with
  | some x=>!AL sc x || (decide (c.N[i]? = some x) && decide (sc.names.lookup x = some .free))
  | none=>false
def JN:PySem.UnaryOp->Bool
 | .Not=>true
 | _=>false
def isNeg:PySem.UnaryOp->Bool
 | .USub=>true
 | _=>false
def vU (h:JN o = true):o = .Not:=by cases o<;>first | rfl | cases h
def Fp (h:isNeg o = true):o = .USub:=by cases o<;>first | rfl | cases h
@[irreducible] noncomputable def onO (x:Option aE) (k:aE->Bool):Bool:=match x with
 | some y=>k y
 | none=>false
def EE (h:onO x k = true):∃ y,x = some y/\k y = true:=by
 unfold onO at h
 cases x with
 | none=>cases h
 | some y=>exact ⟨y,rfl,h⟩
def ff:aE->Bool
 | .Name .. | .Constant .. | .BinOp .. | .Compare .. | .BoolOp .. | .UnaryOp .. | .IfExp .. | .Tuple .. | .List .. | .Subscript .. | .Call .. | .ListComp .. => true
 | .JoinedStr .. => true
 | _=>false
variable [Tbs]
def IL (x:aE):Bool:=ja x == 7
mutual
noncomputable def ckE (c:Ck):E->aE->Bool
 | .var i,x=>eJ x λy=>fe c i y
 | .pk i,x=>eJ x λy=>fe c i y
 | .glob g,x=>eJ x λy=>decide (c.gn[g]? = some y) && fI c y
 | .int i,x=>onC x λv=>onI v λj=>decide (i = j)
 | .bl b,x=>onC x λv=>onB v λj=>decide (b = j)
 | .non,x=>onC x JO
 | .str t,x=>onC x λv=>onT v λu=>decide (t = u)
 | .bin op a b,x=>EM x λy o z=>Ik op o && ckE c a y && ckE c b z && (!bM a || np b)
 | .cmp op a b,x=>EK x λy os zs=>on1 os λo=>on1 zs λz=>zS op o && ckE c a y && ckE c b z && (!bM a || np b)
 | .and a b,x=>EL x λo vs p=>onS vs λy r=>onS r λz r2=>(match o with
   | .And=>true
   | .Or=>false) && ckE c a y && ckE c b (match r2 with
   | []=>z
   | _::_=>.BoolOp .And (z::r2) p) && !bM a && !bM b
 | .or a b,x=>EL x λo vs p=>onS vs λy r=>onS r λz r2=>(match o with
   | .And=>false
   | .Or=>true) && ckE c a y && ckE c b (match r2 with
   | []=>z
   | _::_=>.BoolOp .Or (z::r2) p) && !bM a && !bM b
 | .not a,x=>EA x λo y=>JN o && ckE c a y && !bM a
 | .neg a,x=>EA x λo y=>isNeg o && ckE c a y && !bM a
 | .fstr t a,x=>Mi x λvs=>on2 vs λu w=>onC u (λv=>onT v λs=>decide (t = s)) && Mm w λy cv sp=>decide (cv = -1) && sp.isNone && ckE c a y && !bM a
 | .ite k a b,x=>Mj x λt y z=>ckE c k t && ckE c a y && ckE c b z && !bM a && !bM b
 | .tup es,x=>oN x λxs=>gE c es xs && ie es
 | .lst es,x=>EF x λxs=>gE c es xs && ie es
 | .ix a b,x=>sf x λy z=>ckE c a y && ckE c b z && (!bM a || np b) && !bM b
 | .sl a lo hi,x=>sf x λy z=>Mf z λl h s=>s.isNone && (ckE c a y && ckO c lo l && ckO c hi h && (!bM a || (npO lo && npO hi)))
 | .call f es,x=>rD x λn xs=>(match c.fns[f]? with
    | some (m,ps)=>decide (m = n) && fI c n && decide (ps.length = wb es) && gE c es xs && ie es && !xs.isEmpty
    | none=>false)
 | .blt f es,x=>rD x λn xs=>decide (sI f = n) && fI c n && (match tyName f with
    | some T=>on2 xs λy w=>eJ w λt=>decide (t = (T:Str)) && fI c t && gE c es [y] && ox es
    | none=>!xs.isEmpty && gE c es xs && ox es)
 | .callv i es,x=>rD x λn xs=>fe c i n && gE c es xs && ie es && !xs.isEmpty
 | .callF f es i,x=>rD x λn xs=>(match c.fns[f]?,xs.getLast? with
    | some (m,ps),some y=>eJ y λy=>decide (m = n) && fI c n && decide (ps.length = wb es+1) && gE c es xs.dropLast && ie es && fe c i y && !xs.dropLast.isEmpty
    | _,_=>false)
 | .bad,x=>ff x
 | .isdig i,x=>onM x λy m as=>eJ y λy=>on0 as (decide (m = ("isdigit":Str)) && fe c i y)
 | .comp k tg src ifs elt,x=>Io x λex gs sc _=>on1 gs λg=>onG g λt it il=>(match tD t with
    | some ts=>decide (ts.length = k) && lZ c.N.length tg && jW c sc && namesOk c sc (jD ts c.N++ts) && qR ⟨jD ts c.N++ts,sc,c.fns,c.gn⟩ tg t && ckI c src t it &&
       ckG ⟨jD ts c.N++ts,sc,c.fns,c.gn⟩ ifs il && ckE ⟨jD ts c.N++ts,sc,c.fns,c.gn⟩ elt ex && !bM elt
    | none=>false)
 | .sset k tg1 src1 tg2 src2 ifs elt,x=>rD x λf as=>on1 as λw=>Mh w λex gs sc=>on2 gs λg1 g2=>onG g1 λt1 it1 il1=>onG g2 λt2 it2 il=>on0 il1 (decide (f = ("sorted":Str)) && fI c f && (match tD t1,tD t2 with
    | some n1,some n2=>decide ((n1++n2).length = k) && lZ c.N.length tg1 && lZ c.N.length tg2 && jW c sc && namesOk c sc (jD (n1++n2) c.N++(n1++n2)) && qR ⟨jD (n1++n2) c.N++(n1++n2),sc,c.fns,c.gn⟩ tg1 t1 && qR ⟨jD (n1++n2) c.N++(n1++n2),sc,c.fns,c.gn⟩ tg2 t2 && ckI c src1 t1 it1 &&
       ckI ⟨jD (n1++n2) c.N++(n1++n2),sc,c.fns,c.gn⟩ src2 t2 it2 && ckG ⟨jD (n1++n2) c.N++(n1++n2),sc,c.fns,c.gn⟩ ifs il && ckE ⟨jD (n1++n2) c.N++(n1++n2),sc,c.fns,c.gn⟩ elt ex && !bM elt
    | _,_=>false))
noncomputable def gE (c:Ck):Es->List aE->Bool
 | .nil,xs=>on0 xs true
 | .cons e es,xs=>onS xs λy ys=>ckE c e y && gE c es ys
noncomputable def ckO (c:Ck):Eo->Option aE->Bool
 | .no,x=>x.isNone
 | .yes e,x=>onO x λy=>ckE c e y && !bM e
noncomputable def ckG (c:Ck):Eo->List aE->Bool
 | .no,x=>on0 x true
 | .yes e,x=>on1 x λy=>ckE c e y
noncomputable def ckI (c:Ck):It->aE->aE->Bool
 | .rng e,_,x=>rD x λn xs=>on1 xs λy=>decide (n = ("range":Str)) && fI c n && ckE c e y && !bM e
 | .sq e,_,x=>ckE c e x && !bM e
 | .zp es,t,x=>rD x λn xs=>on2 xs λu v=>IL t && decide (n = ("zip":Str)) && fI c n && gE c es [u,v] && ie es
end
def eM (h:gE c es (y::ys) = true):∃ e es',es = .cons e es'/\ckE c e y = true/\gE c es' ys = true:=by
 cases es with
 | nil=>cases (fH h).1
 | cons e es =>
   obtain ⟨_,_,q,h'⟩:=eI h;cases q;rw [aa] at h';exact ⟨e,es,rfl,h'⟩
def vi (h:qR c tg t = true):(∃ x p,t = .Name x p)\/∃ es n p,t = .Tuple es n p:=by
 cases tg with
 | nm i=>obtain ⟨x,p,rfl,_⟩:=cy h;exact .inl ⟨x,p,rfl⟩
 | tp is=>obtain ⟨es,n,p,rfl,_⟩:=hW h;exact .inr ⟨es,n,p,rfl⟩
def hdN (h:eJ x k = true):ff x = true:=by obtain ⟨_,_,rfl,_⟩:=cy h;rfl
def hdC (h:onC x k = true):ff x = true:=by obtain ⟨_,_,_,rfl,_⟩:=ou h;rfl
def hdF (h:rD x k = true):ff x = true:=by obtain ⟨_,_,_,_,rfl,_⟩:=gj h;rfl
def hdM (h:onM x k = true):ff x = true:=by obtain ⟨_,_,_,_,_,rfl,_⟩:=tZ h;rfl
def hdB (h:EL x k = true):ff x = true:=by obtain ⟨_,_,_,rfl,_⟩:=mX h;rfl
def hdU (h:EA x k = true):ff x = true:=by obtain ⟨_,_,_,rfl,_⟩:=pG h;rfl
def hdS (h:sf x k = true):ff x = true:=by obtain ⟨_,_,_,rfl,_⟩:=kQ h;rfl
def cb (h:ckE c e x = true):ff x = true:=by
 cases e with
 | var i=>exact hdN h
 | pk i=>exact hdN h
 | glob g=>exact hdN h
 | int i=>exact hdC h
 | bl b=>exact hdC h
 | non=>exact hdC h
 | str t=>exact hdC h
 | bin op a b=>obtain ⟨_,_,_,_,rfl,_⟩:=vL h;rfl
 | cmp op a b=>obtain ⟨_,_,_,_,rfl,_⟩:=qE h;rfl
 | and a b=>exact hdB h
 | or a b=>exact hdB h
 | not a=>exact hdU h
 | neg a=>exact hdU h
 | fstr t a=>obtain ⟨_,_,rfl,_⟩:=zi h;rfl
 | ite k a b=>obtain ⟨_,_,_,_,rfl,_⟩:=zj h;rfl
 | tup es=>obtain ⟨_,_,_,rfl,_⟩:=hW h;rfl
 | lst es=>obtain ⟨_,_,rfl,_⟩:=qD h;rfl
 | ix a b=>exact hdS h
 | sl a lo hi=>exact hdS h
 | call f es=>exact hdF h
 | blt f es=>exact hdF h
 | callv i es=>exact hdF h
 | callF f es i=>exact hdF h
 | bad=>exact h
 | isdig i=>exact hdM h
 | comp k tg src ifs elt=>obtain ⟨_,_,_,_,rfl,_⟩:=pH h;rfl
 | sset k tg1 src1 tg2 src2 ifs elt=>exact hdF h
def cK (h:ff x = true) (xs:List aE) (env:Env):starEach (x::xs) env = (false,eval x env)::starEach xs env:=by
 cases x<;>first | rfl | (exact absurd h aq)
def FA (h:ff x = true) (env:Env) (v:ah):foldedSetIterable x env v = pure v:=by
 cases x<;>first | rfl | (exact absurd h aq)
def sD (h:ff x = true) (op:CmpOp):behindInMarks op x = false:=by
 cases x<;>first | rfl | (exact absurd h aq)
def IS (h:ff x = true):L2.PlainIx x:=by
 intro o i;cases x<;>first | rfl | (exact absurd h aq)
def kU:aE->Bool
 | .ListComp .. => true
 | _=>false
def qM (h:ff x = true) (hc:kU x = false) (t:Option aE) (n:Nat) (env:Env):swapsWith x t n env = pure false:=by
 cases x<;>first | rfl | (exact absurd h aq) | (exact absurd hc.symm aq)
def Ft:E->Bool
 | .comp .. => true
 | _=>false
@[irreducible] noncomputable def xN (x:aE) (k:Str->Pos->Bool):Bool:=(ja x == 0) && k (st x) (po x)
def mW (h:xN x k = true):∃ y p,x = .Name y p/\k y p = true:=by
 unfold xN at h;obtain ⟨⟨y,p,rfl⟩,h⟩:=dF h;exact ⟨y,p,rfl,h⟩
def newOk:E->Bool
 | .lst _=>true
 | .blt .toLst _=>true
 | .sl _ _ _=>true
 | _=>false
def isNm (x:aE):Bool:=ja x == 0
def OA (c:Ck) (i j:Nat) (es:Es) (t y:aE):Bool:=oN t λus=>on2 us λu v=>xN u λx px=>xN v λz pz=>oN y λvs=>on2 vs λa b =>
 decide (c.N[i]? = some x) && decide (c.N[j]? = some z) && decide (c.sc.names.lookup x = some .local) && decide (c.sc.names.lookup z = some .local) && decide (x≠z) && decide (px.line = pz.line) && gE c es [a,b] && ie es && !(foldedForSure 8 a && foldedForSure 8 b) && !(constantsAlone 8 a && constantsAlone 8 b)
def JC (c:Ck) (tg:Tg) (e:E) (t y:aE):Bool:=match tg,e with
 | .tp [i,j],.tup es=>OA c i j es t y
 | _,_=>false
def Oz (c:Ck) (t:aE):Bool:=oN t λus=>on2 us λu v=>xN u λx _=>xN v λ_ _=>decide (c.sc.names.lookup x≠some .local)
mutual
noncomputable def ckS (c:Ck):S->cR->Bool
 | .asg tg e,x=>sk x λts y=>on1 ts λt=>qR c tg t && ckE c e y && !bM e && !kU y && (isNm t || !IL y || Oz c t || JC c tg e t y)
 | .new i e,x=>sk x λts y=>on1 ts λt=>eJ t λt=>iR c i t && ckE c e y && !kU y && newOk e
 | .cmp own i e,x=>Ft e && sk x λts y=>on1 ts λt=>xN t λt tp=>Io y λex gs sc p=>iR c i t && ckE c e (.ListComp ex gs sc p) && ((decide (c.sc.names.lookup t = some .local) && decide (tp.line = p.line) && !(sc.names.any λ(n,k)=>n == t && (k == .local || k == .cell))) || (!own && decide (c.sc.names.lookup t = some .cell)))
 | .aug i op e,x=>EO x λt o y=>eJ t λt=>iR c i t && Ik op o && ckE c e y && !bM e
 | .ret e,x=>ED x λy=>onO y λy=>ckE c e y && !bM e
 | .retL _ _ _ _,_=>false
 | .ifs k a b,x=>EH x λt y z=>ckE c k t && uG c a y && uG c b z
 | .for_ tg src body,x=>EJ x λt it y z=>on0 z (qR c tg t && ckI c src t it && uG c body y)
 | .while_ k body,x=>Me x λt y z=>on0 z (ckE c k t && uG c body y)
 | .append i e,x=>Iq x λw=>onM w λy m as=>eJ y λy=>on1 as λz=>decide (m = ("append":Str)) && fe c i y && ckE c e z && !bM e
 | .extend i e,x=>Iq x λw=>onM w λy m as=>eJ y λy=>on1 as λz=>decide (m = ("extend":Str)) && fe c i y && ckE c e z && !bM e
 | .setix i j e,x=>sk x λts y=>on1 ts λt=>sf t λw z=>eJ w λt=>fe c i t && ckE c e y && !bM e && !kU y && ckE c j z && !bM j
 | .bad,_=>true
noncomputable def uG (c:Ck):Ss->List cR->Bool
 | .nil,xs=>on0 xs true
 | .cons s ss,xs=>onS xs λy ys=>ckS c s y && uG c ss ys
end
end PP
end
section
namespace PP
open PySem L2 PyProof.Rows
variable [Tbs]
def Py (K:PySem.W.Frag) (G:Gh) (F:au->Prop) (σ:L2.St) (H:Hp) (m nP:Bool) (d:D) (δ':Loc) (Q:VK):Prop :=
 ∀ v H' F',Step G F H F' H'->(nP = true->Sim H H')->Ok K G F' σ H' δ'->RelM m K H' F' d v->Q v H'
def tE (K:PySem.W.Frag) (cx:Cl) (e:E):TE:=λσ H Q=>∃ G F δ d δ',Ok K G F σ H δ/\evE cx e δ = some (d,δ')/\Py K G F σ H (bM e) (np e) d δ' Q
def tT (K:PySem.W.Frag) (cx:Cl) (e:E):TT:=λσ H Q=>∃ G F δ b δ',Ok K G F σ H δ/\evT cx e δ = some (b,δ') /\
 ∀ H' F',Step G F H F' H'->(np e = true->Sim H H')->Ok K G F' σ H' δ'->Q b H'
def nI (K:PySem.W.Frag) (H:Hp) (F:au->Prop):Es->List D->List V->Prop
 | .nil,ds,vs=>ds = []/\vs = []
 | .cons e es,ds,vs=>∃ d ds' v vs',ds = d::ds'/\vs = v::vs'/\RelM (bM e) K H F d v/\nI K H F es ds' vs'
def tEs (K:PySem.W.Frag) (cx:Cl) (es:Es):TA:=λσ H Q=>∃ G F δ ds δ',Ok K G F σ H δ/\dH cx es δ = some (ds,δ') /\
 ∀ vs H' F',Step G F H F' H'->(npS es = true->Sim H H')->Ok K G F' σ H' δ'->nI K H' F' es ds vs->Q vs H'
def tO (K:PySem.W.Frag) (cx:Cl) (o:Eo):TO:=λσ H Q=>∃ G F δ d δ',Ok K G F σ H δ/\evO cx o δ = some (d,δ') /\
 ∀ H' F',Step G F H F' H'->(npO o = true->Sim H H')->Ok K G F' σ H' δ'->Q d H'
def tG (K:PySem.W.Frag) (cx:Cl) (o:Eo):TT:=λσ H Q=>∃ G F δ b δ',Ok K G F σ H δ/\evG cx o δ = some (b,δ') /\
 ∀ H' F',Step G F H F' H'->(npO o = true->Sim H H')->Ok K G F' σ H' δ'->Q b H'
def Wk (K:PySem.W.Frag) (G:Gh) (F:au->Prop) (H:Hp) (J:L2.It) (ds:List D):Prop:=∀ F2 H2,Step G F H F2 H2->FD F2 H2->∀ i:Nat,
 (∀ d,ds[i]? = some d->J.go i H2/\∀ x H3,J.yld i H2 x H3->iW H2 H3/\Rel K H3 F2 d x)/\(i = ds.length->J.stop i H2)
def tI (K:PySem.W.Frag) (cx:Cl) (t:It):TI:=λσ H R=>∃ G F δ ds δ',Ok K G F σ H δ/\evI cx t δ = some (ds,δ') /\
 ∀ J H' F',Step G F H F' H'->(npI t = true->Sim H H')->Ok K G F' σ H' δ'->(∀ G',Wk K G' F' H' J ds)->R J H'
section
variable {K:PySem.W.Frag} {cx:Cl} {X:Cx}
def PE.imp (h:PE X e t) (w:∀ σ H Q,t' σ H Q->t σ H Q):PE X e t':=λpins s σ H Q I q=>h pins s σ H Q I (w σ H Q q)
def PT.imp (h:PT X e t) (w:∀ σ H Q,t' σ H Q->t σ H Q):PT X e t':=λpins s σ H Q I q=>h pins s σ H Q I (w σ H Q q)
def two {a b:E} {σ:L2.St} {G:Gh} {H:Hp} {F:au->Prop} {δ δ1 δ2:Loc} {x y:D} (ok:Ok K G F σ H δ) (ea:evE cx a δ = some (x,δ1)) (eb:evE cx b δ1 = some (y,δ2)) (pc:(!bM a || np b) = true) {R:V->V->Hp->Prop}
 (k:∀ v u H2 F2,Step G F H F2 H2->((np a && np b) = true->Sim H H2)->Ok K G F2 σ H2 δ2->RelM (bM a) K H2 F2 x v->RelM (bM b) K H2 F2 y u->R v u H2) :
 tE K cx a σ H λv H1=>tE K cx b σ H1 λu H2=>R v u H2:=by
 refine ⟨G,F,δ,x,δ1,ok,ea,λv H1 F1 st1 sm1 ok1 r1=>⟨G,F1,δ1,y,δ2,ok1,eb,λu H2 F2 st2 sm2 ok2 r2=>?_⟩⟩;refine k v u H2 F2 (st1.trans st2) (λz=>?_) ok2 (RelM.step ok1.fd st2 (λz=>sm2 (by rw [z] at pc;simpa using pc)) r1) r2;rw [aa] at z;exact (sm1 z.1).trans (sm2 z.2)
def dC.int {H:Hp} {F:au->Prop} {i:Int} {v:V} (h:dC K H F (.int i) v):v = .int i:=by
 rcases h with h | ⟨_,_,_,e,_⟩
 . unfold Rel at h;exact h
 . cases e
def dC.bl (h:dC K H F (.bl i) v):v = .bl i:=by
 rcases h with h | ⟨_,_,_,e,_⟩
 . unfold Rel at h;exact h
 . cases e
def dC.str {H:Hp} {F:au->Prop} {i:Str} {v:V} (h:dC K H F (.str i) v):v = .str i:=by
 rcases h with h | ⟨_,_,_,e,_⟩
 . unfold Rel at h;exact h
 . cases e
def dC.tup {H:Hp} {F:au->Prop} {ds:List D} {v:V} (h:dC K H F (.tup ds) v):∃ a xs,v = .ref a/\SqT K H a xs/\aN K H F ds xs:=by
 rcases h with h | ⟨_,_,_,e,_⟩
 . unfold Rel at h;exact h
 . cases e
def dC.lst {H:Hp} {F:au->Prop} {ds:List D} {v:V} (h:dC K H F (.lst ds) v):∃ a xs,v = .ref a/\LsB K H a xs/\aN K H F ds xs:=by
 rcases h with h | ⟨a,xs,_,e,e2,h1,h2⟩
 . unfold Rel at h;obtain ⟨a,xs,e,h1,h2⟩:=h;exact ⟨a,xs,e,h1.b,h2⟩
 . cases e;exact ⟨a,xs,e2,.inl (.inl h1),h2⟩
def dE {H:Hp} {F:au->Prop} (i:Int):Rel K H F (.int i) (.int i):=by unfold Rel;rfl
def md (i:Bool):Rel K H F (.bl i) (.bl i):=by unfold Rel;rfl
def gX {H:Hp} {F:au->Prop} (i:Str):Rel K H F (.str i) (.str i):=by unfold Rel;rfl
def yP:Rel K H F .non .non:=by unfold Rel;rfl
def Ok.laid {σ:L2.St} {G:Gh} {H:Hp} {F:au->Prop} {δ:Loc} {p:au} (ok:Ok K G F σ H δ) (hp:H p = none) (o:HO):Ok K G F σ (upd H p o) δ/\Step G F H F (upd H p o)/\Sim H (upd H p o)/\¬ F p :=
 ⟨ok.same' (cn hp o),Step.of_same (cn hp o),.of (cn hp o),ok.fd.none hp⟩
def jX {σ:L2.St} {G:Gh} {H:Hp} {F:au->Prop} {δ:Loc} {p:au} {ds:List D} {xs:List V} (ok:Ok K G F σ H δ) (hp:H p = none) (r:aN K H F ds xs):Rel K (upd H p (.tup xs)) F (.tup ds) (.ref p):=by
 unfold Rel;exact ⟨p,xs,rfl,SqT.of bN,aN.step (G:=G) ok.fd (Step.of_same (cn hp _)) ds xs r⟩
def ma {σ:L2.St} {G:Gh} {H:Hp} {F:au->Prop} {δ:Loc} {p:au} {ds:List D} {xs:List V} (ok:Ok K G F σ H δ) (hp:H p = none) (r:aN K H F ds xs):Rel K (upd H p (.lst xs)) F (.lst ds) (.ref p):=by
 unfold Rel;exact ⟨p,xs,rfl,.inl ⟨.inl bN,(ok.laid hp (.lst xs)).2.2.2⟩,aN.step (G:=G) ok.fd (Step.of_same (cn hp _)) ds xs r⟩
def Hx {a b:E} {y z:aE} {op:Op} {o:iu} {pos:Pos} (ho:Ik op o = true) (pc:(!bM a || np b) = true) (ha:PE X y (tE X.K cx a)) (hb:PE X z (tE X.K cx b)):PE X (.BinOp y o z pos) (tE X.K cx (.bin op a b)):=by
 intro pins s σ H Q I h;obtain ⟨G,F,δ,d,δ',ok,ev,post⟩:=h;simp only [evE,ae,af] at ev;obtain ⟨⟨x,δ1⟩,ea,⟨y',δ2⟩,eb,d',hd,e⟩:=ev;cases e;dsimp only at eb hd post;have fin:∀ v H2 F2,Step G F H F2 H2->((np a && np b) = true->Sim H H2)->Ok X.K G F2 σ H2 δ2->Rel X.K H2 F2 d v->Q v H2:=λv H2 F2 st sm ok2 r=>post v H2 F2 st sm ok2 r;cases op<;>cases o<;>first | (exact absurd ho aq) | skip
 . refine vI (Mc.or (xM.or (Ih.or (Ij.or Ii)))) ha hb pins s σ H Q I (two ok ea eb pc λv u H2 F2 st sm ok2 r1 r2=>?_);change Np x y' = some d at hd;unfold Np at hd;split at hd
   . cases hd;have e1:=r1.b.int;have e2:=r2.b.int;subst e1;subst e2;exact .inl ⟨_,_,rfl,rfl,fin _ _ _ st sm ok2 (dE _)⟩
   . split at hd
     . cases hd;have e1:=r1.b.str;have e2:=r2.b.str;subst e1;subst e2;exact .inr (.inl ⟨_,_,rfl,rfl,‹_›,fin _ _ _ st sm ok2 (gX _)⟩)
     . cases hd
   . cases hd;obtain ⟨p1,xs1,e1,s1,l1⟩:=r1.b.tup;obtain ⟨p2,xs2,e2,s2,l2⟩:=r2.b.tup;subst e1;subst e2;unfold aN at l1;subst l1;refine .inr (.inr (.inr (.inl ⟨p1,p2,xs2,rfl,rfl,s1,s2,fin _ _ _ st sm ok2 ?_⟩)));unfold Rel;exact ⟨p2,xs2,rfl,s2,l2⟩
   . split at hd
     . rename_i q;cases hd;obtain ⟨p1,xs1,e1,s1,l1⟩:=r1.b.tup;obtain ⟨p2,xs2,e2,s2,l2⟩:=r2.b.tup;subst e1;subst e2;refine .inr (.inr (.inl ⟨p1,p2,xs1,xs2,rfl,rfl,s1,s2,λz=>?_,by rw [l1.length,l2.length];exact q,λz=>?_,λ_ p hp=>?_⟩))
       . have:=l1.length;rw [z] at this;cases this
       . refine fin _ _ _ st sm ok2 ?_;have e:∀ {ys:List D},aN X.K H2 F2 ys xs2->ys = []:=λ{ys} r=>by have:=r.length;rw [z] at this;exact eC.mp this.symm
         have:=e l2;subst this;rw [aY];unfold Rel;exact ⟨p1,xs1,rfl,s1,l1⟩
       . obtain ⟨o1,o2,o3,o4⟩:=ok2.laid hp (.tup (xs1++xs2));exact fin _ _ _ (st.trans o2) (λz=>(sm z).trans o3) o1 (jX ok2 hp (l1.append l2))
     . cases hd
   . split at hd
     . rename_i q;cases hd;obtain ⟨p1,xs1,e1,s1,l1⟩:=r1.b.lst;obtain ⟨p2,xs2,e2,s2,l2⟩:=r2.b.lst;subst e1;subst e2;refine .inr (.inr (.inr (.inr ⟨p1,p2,xs1,xs2,rfl,rfl,s1,s2,by rw [l1.length,l2.length];exact q,λp hp=>?_⟩)));obtain ⟨o1,o2,o3,o4⟩:=ok2.laid hp (.lst (xs1++xs2));exact fin _ _ _ (st.trans o2) (λz=>(sm z).trans o3) o1 (ma ok2 hp (l1.append l2))
     . cases hd
   . cases hd
 . refine vI LU ha hb pins s σ H Q I (two ok ea eb pc λv u H2 F2 st sm ok2 r1 r2=>?_);change AR x y' = some d at hd;unfold AR at hd;split at hd<;>first | (cases hd;done) | skip
   cases hd;have e1:=r1.b.int;have e2:=r2.b.int;subst e1;subst e2;exact ⟨_,_,rfl,rfl,fin _ _ _ st sm ok2 (dE _)⟩
 . refine vI (Ie.or Ic) ha hb pins s σ H Q I (two ok ea eb pc λv u H2 F2 st sm ok2 r1 r2=>?_);change My x y' = some d at hd;unfold My at hd;split at hd<;>first | (cases hd;done) | skip
   . split at hd
     . rename_i q;cases hd;have e1:=r1.b.int;have e2:=r2.b.int;subst e1;subst e2;refine .inl ⟨_,_,rfl,rfl,?_,fin _ _ _ st sm ok2 (dE _)⟩;exact IC q
     . cases hd
   . split at hd
     . rename_i q;cases hd;have e1:=r1.b.str;have e2:=r2.b.int;subst e1;subst e2;exact .inr ⟨_,_,rfl,rfl,q,fin _ _ _ st sm ok2 (gX _)⟩
     . cases hd
 . refine vI LW ha hb pins s σ H Q I (two ok ea eb pc λv u H2 F2 st sm ok2 r1 r2=>?_);change Mz x y' = some d at hd;unfold Mz at hd;split at hd<;>first | (cases hd;done) | skip
   split at hd
   . rename_i q;cases hd;have e1:=r1.b.int;have e2:=r2.b.int;subst e1;subst e2;exact ⟨_,_,rfl,rfl,q,fin _ _ _ st sm ok2 (dE _)⟩
   . cases hd
 . refine vI Ez ha hb pins s σ H Q I (two ok ea eb pc λv u H2 F2 st sm ok2 r1 r2=>?_);change FI x y' = some d at hd;unfold FI at hd;split at hd<;>first | (cases hd;done) | skip
   split at hd
   . rename_i q;cases hd;have e1:=r1.b.int;have e2:=r2.b.int;subst e1;subst e2;exact ⟨_,_,rfl,rfl,q,fin _ _ _ st sm ok2 (dE _)⟩
   . cases hd
end
end PP
end
section
namespace PP
open PySem L2 PySem.SeqAt PyProof.Rows PySem.W
variable [Tbs]
def jV (h:sortable ds = true):ds.length < 64/\(∀ x∈ds,bF x≠0/\bF x = bF (ds.getD 0 .non))/\∀ x∈ds,∀ y∈ds,∃ k,oY x y = some k:=by
 unfold sortable at h;simp only [aa,eF,decide_eq_true_eq] at h;obtain ⟨⟨h1,h2⟩,h3⟩:=h;refine ⟨h1,λx hx=>?_,λx hx y hy=>sP.mp (h3 x hx y hy)⟩;have:=h2 x hx;exact ⟨by simpa using this.1,by simpa using this.2⟩
def rT (ds:List D):(eR ds).length = ds.length:=by
 unfold eR;by_cases h:ds.length < 2
 . rw [if_pos h]
 . rw [if_neg h,ai,(gK ds.length).length_eq,jM]
def qX {K:PySem.W.Frag} {H:Hp} {F:au->Prop} {ds:List D} {xs:List V} (r:aN K H F ds xs):∀ (is:List Nat),(∀ i∈is,i < ds.length)->aN K H F (is.map λi=>ds.getD i .non) (is.map λi=>xs.getD i .non)
 | [],_=>aN.nil
 | i::is,h=>by
   have hi:=h i ar;obtain ⟨v,hv,rv⟩:=r.get (i:=i) (d:=ds.getD i .non) (by simp [hi]);have e:xs.getD i .non = v:=by simp [hv]
   rw [aW,aW,e];exact aN.cons rv (qX r is λj hj=>h j (ao _ hj))
def qV (r:Vals xs us):∀ (is:List Nat),(∀ i∈is,i < xs.length)->Vals (is.map λi=>xs.getD i .non) (is.map λi=>us.getD i cw)
 | [],_=>.nil
 | i::is,h=>by
   have hi:=h i ar;obtain ⟨u,hu,ru⟩:=r.get (i:=i) (x:=xs.getD i .non) (by simp [hi]);have e:us.getD i cw = u:=by simp [hu]
   rw [aW,aW,e];exact .cons ru (qV r is λj hj=>h j (ao _ hj))
def MJ {M:Model} {A:bt} {E:ah->ak->Prop} {s:ak} {ds:List D} {us:List ah} (r:RdL s.heap ds us) (hk:∀ x∈ds,bF x≠0/\bF x = bF (ds.getD 0 .non)) (h2:2<=us.length) {Q:oK->ak->Prop}
 (q:Q (if bF (ds.getD 0 .non) < 3 then oneType' else tuples' true) s):wpAny M A (keyKind' us.toArray) Q E s:=by
 have hl:=r.length
 have all:∀ v∈us,∃ d∈ds,RdV s.heap d v:=by
  have:∀ (ds:List D) (us:List ah),RdL s.heap ds us->∀ v∈us,∃ d∈ds,RdV s.heap d v:=by
   intro ds
   induction ds with
   | nil=>intro us r v hv;unfold RdL at r;subst r;cases hv
   | cons d ds ih =>
     intro us r v hv;unfold RdL at r;obtain ⟨w,ws,rfl,r1,r2⟩:=r;rcases az.mp hv with rfl | hv
     . exact ⟨d,ar,r1⟩
     . obtain ⟨d',h1,h2⟩:=ih ws r2 v hv;exact ⟨d',ao _ h1,h2⟩
  exact this ds us r
 generalize hn:bF (ds.getD 0 .non) = n at hk q
 have tups:∀ (T:ah) (P:D->Prop),(∀ d,P d->∀ u,RdV s.heap d u->Looks M s.heap (typeOf u) T)->(∀ x∈ds,∃ y r,x = .tup (y::r)/\P y)->∃ fs,KatTups s.heap us fs/\fs.length = us.length/\∀ v∈fs,Looks M s.heap (typeOf v) T:=by
  intro T P hP hx
  have:∀ (ds:List D) (us:List ah),RdL s.heap ds us->(∀ x∈ds,∃ y r,x = .tup (y::r)/\P y)->∃ fs,KatTups s.heap us fs/\fs.length = us.length/\∀ v∈fs,Looks M s.heap (typeOf v) T:=by
   intro ds
   induction ds with
   | nil=>intro us r _;unfold RdL at r;subst r;exact ⟨[],KatTups.nil,rfl,λv hv=>by cases hv⟩
   | cons d ds ih =>
     intro us r hx;unfold RdL at r;obtain ⟨w,ws,rfl,r1,r2⟩:=r;obtain ⟨fs,f1,f2,f3⟩:=ih ws r2 λx h=>hx x (ao _ h);obtain ⟨y,rr,rfl,py⟩:=hx d ar;unfold RdV at r1;obtain ⟨a,its,rfl,⟨o,h1,hc,m,hd⟩,h3⟩:=r1;unfold RdL at h3;obtain ⟨f,fr,e,g1,g2⟩:=h3;refine ⟨f::fs,KatTups.cons h1 hc hd ?_ f1,by simp [f2],λv hv=>?_⟩
     . have:its.toList[0]? = some f:=by rw [e];rfl
       simpa using this
     . rcases az.mp hv with rfl | hv
       . exact hP y py _ g1
       . exact f3 v hv
  exact this ds us r hx
 match n,hk,q with
 | 0,hk,q =>
   obtain ⟨x,hx⟩:∃ x,x∈ds:=by
    cases ds with
    | nil=>rw [hl] at h2;simp at h2
    | cons x r=>exact ⟨x,ar⟩
   exact absurd (hk x hx).2 (hk x hx).1
 | 1,hk,q =>
   refine kas_kind (T:=.type "str") h2 (λv hv=>?_) ⇑0 ⇑0 q;obtain ⟨d,hd,rd⟩:=all v hv;have:=(hk d hd).2;cases d<;>first | (simp [bF] at this;done) | skip
   . unfold RdV at rd;obtain ⟨t,rfl⟩:=rd;exact jK rfl
   . rename_i l;cases l with
     | nil=>simp [bF] at this
     | cons x r=>cases x<;>simp [bF] at this
 | 2,hk,q =>
   refine kas_kind (T:=.type "int") h2 (λv hv=>?_) ⇑0 ⇑0 q;obtain ⟨d,hd,rd⟩:=all v hv;have:=(hk d hd).2;cases d<;>first | (simp [bF] at this;done) | skip
   . unfold RdV at rd;obtain ⟨t,rfl⟩:=rd;exact jK rfl
   . rename_i l;cases l with
     | nil=>simp [bF] at this
     | cons x r=>cases x<;>simp [bF] at this
 | 3,hk,q =>
   obtain ⟨fs,f1,f2,f3⟩:=tups (.type "str") (λy=>∃ x,y = .str x) (λd ⟨x,e⟩ u rd=>by subst e;unfold RdV at rd;obtain ⟨t,rfl⟩:=rd;exact jK rfl) λx hx=>by
    have:=(hk x hx).2;cases x<;>first | (simp [bF] at this;done) | skip
    rename_i l;cases l with
    | nil=>simp [bF] at this
    | cons x r=>cases x<;>first | (simp [bF] at this;done) | exact ⟨_,_,rfl,_,rfl⟩
   exact kat_kind f1 ∅ f3 ⇑0 q
 | 4,hk,q =>
   obtain ⟨fs,f1,f2,f3⟩:=tups (.type "int") (λy=>∃ x,y = .int x) (λd ⟨x,e⟩ u rd=>by subst e;unfold RdV at rd;obtain ⟨t,rfl⟩:=rd;exact jK rfl) λx hx=>by
    have:=(hk x hx).2;cases x<;>first | (simp [bF] at this;done) | skip
    rename_i l;cases l with
    | nil=>simp [bF] at this
    | cons x r=>cases x<;>first | (simp [bF] at this;done) | exact ⟨_,_,rfl,_,rfl⟩
   exact kat_kind f1 ∅ f3 ⇑0 q
 | m+5,hk,q =>
   obtain ⟨x,hx⟩:∃ x,x∈ds:=by
    cases ds with
    | nil=>rw [hl] at h2;simp at h2
    | cons x r=>exact ⟨x,ar⟩
   have:=(hk x hx).2;exfalso;cases x<;>first | (simp [bF] at this;done) | skip
   rename_i l;cases l with
   | nil=>simp [bF] at this
   | cons x r=>cases x<;>simp [bF] at this
def zQ:∀ {ds:List D},(∀ x∈ds,dep x < 100000)->dh ds < 100000
 | [],_=>by unfold dh;lia
 | d::ds,h=>by
   have h1:=h d ar;have h2:=zQ λx hx=>h x (ao _ hx);unfold dh
   lia
def tH (hs:sortable ds = true):dh ds < 100000:=by
 obtain ⟨_,_,hlt⟩:=jV hs;refine zQ λx hx=>?_;obtain ⟨b,hb⟩:=hlt x hx x hx;unfold oY at hb;split at hb
 . lia
 . cases hb
def Pw {prog:aQ} {w:bw} {A A':bt} {s:ak} {h':bJ} {ds:List D} {its:List ah} (hu:A.units+200 < cLine) (hA:A'.units<=A.units+2) (rd:RdL s.heap ds its) (l3:its.length = ds.length) (hs:sortable ds = true)
 (k:∀ b o,s.heap.get? b = some o->h'.get? b = some o) (i j:Nat) (hi:i < its.length) (hj:j < its.length) (C:Bool->ak->Prop) (c:C (iS ds i j) { s with heap:=h' }) :
 kas_ask prog w A' (if bF (ds.getD 0 .non) < 3 then oneType' else tuples' true) its i j C { s with heap:=h' }:=by
 obtain ⟨h64,hk,hlt⟩:=jV hs
 have mem:∀ i,i < its.length->ds.getD i .non∈ds:=λi hi=>by
  have:i < ds.length:=by lia
  rw [jr,aB this];exact pU this
 obtain ⟨b,hb⟩:=hlt _ (mem i hi) _ (mem j hj);have eb:iS ds i j = b:=by unfold iS;rw [hb];rfl
 rw [eb] at c;have ri:=RdV.keep k _ _ (RdL.nth i rd ∅);have rj:=RdV.keep k _ _ (RdL.nth j rd ∅);have ki:=hk _ (mem i hi);have kj:=hk _ (mem j hj);unfold oY at hb;split at hb
 . rename_i hd;unfold kas_ask;generalize ds.getD i .non = x at ri hb hd ki;generalize ds.getD j .non = y at rj hb hd kj;generalize its.getD i cw = u at ri;generalize its.getD j cw = v at rj;generalize bF (ds.getD 0 .non) = n0 at ki kj;by_cases h3:n0 < 3
   . rw [if_pos h3,keyLt'_oneType];refine JE (s:={ s with heap:=h' }) ri rj ?_ hb c;have:=ki.1;have k1:n0 = 1\/n0 = 2:=by lia
     rcases k1 with k1 | k1
     . exact .inl ⟨∅,∅⟩
     . exact .inr ⟨∅,∅⟩
   . rw [if_neg h3]
     have tx:∀ z:D,bF z = n0->∃ p r,z = .tup (p::r)/\((n0 = 3/\bF p = 1)\/(n0 = 4/\bF p = 2)):=λz hz=>by
      cases z<;>first | (simp [bF] at hz;lia) | skip
      rename_i l
      cases l with
      | nil=>simp [bF] at hz;lia
      | cons p r=>cases p<;>first | (simp [bF] at hz;lia) | exact ⟨_,_,rfl,by simp [bF] at hz |-;lia⟩
     obtain ⟨p1,r1,rfl,w1⟩:=tx x ki.2;obtain ⟨p2,r2,rfl,w2⟩:=tx y kj.2;unfold RdV at ri rj;obtain ⟨a1,i1,rfl,⟨o1,g1,c1,m1,d1⟩,t1⟩:=ri;obtain ⟨a2,i2,rfl,⟨o2,g2,c2,m2,d2⟩,t2⟩:=rj;have z1:i1.size = (p1::r1).length:=by simpa using t1.length
     have z2:i2.size = (p2::r2).length:=by simpa using t2.length
     unfold ltD at hb;unfold dep at hd;refine kat_lt (s:={ s with heap:=h' }) g1 d1 g2 d2 (vS (s:={ s with heap:=h' }) (p1::r1) (p2::r2) i1.toList i2.toList 0 t1 t2 ∅ hb (by rw [z1,z2]) (λ_ x y hx hy=>?_) c);cases hx;cases hy;rcases w1 with ⟨e,w1⟩ | ⟨e,w1⟩<;>rcases w2 with ⟨e',w2⟩ | ⟨e',w2⟩<;>first | (exact .inl ⟨w1,w2⟩) | (exact .inr ⟨w1,w2⟩) | lia
 . cases hb
def uK {X:Cx} (hu:X.A.units+200 < cLine):dD X (.builtin "sorted") (λxs H Q=>∃ F ds v,xs = [v]/\dC X.K H F (.lst ds) v/\sortable ds = true/\∀ p ys,H p = none->aN X.K H F (eR ds) ys->Q (.ref p) (upd H p (.lst ys))):=by
 intro pins s σ H xs us Q I r h;obtain ⟨F,ds,v,rfl,rb,hs,q⟩:=h;obtain ⟨a,ws,rfl,hl,rl⟩:=rb.lst;obtain ⟨u,rfl,rx⟩:=vals1 r;cases rx;obtain ⟨its,n,rv,ho,hz⟩:=hl.obj I;obtain ⟨h64,hk,hlt⟩:=jV hs;have rd:=qu I ds ws its rl rv (tH hs);have l1:=rl.length;have l2:=rv.length;have l3:its.length = ds.length:=by lia
 have isl:s.heap.IsList a its.toArray:=⟨_,ho,rfl,n,rfl⟩;have out:fZ (iS ds) its = (if its.length < 2 then its else (ans (iS ds) (kas_sort its.length)).toList.map λi=>its.getD i cw):=rfl
 have hlen:(fZ (iS ds) its).length = its.length:=by
  rw [out];by_cases h:its.length < 2
  . rw [if_pos h]
  . rw [if_neg h,ai,(gK its.length).length_eq,jM]
 have small:∀ i∈(ans (iS ds) (kas_sort its.length)).toList,i < its.length:=λi hi=>by simpa using (gK its.length).mem_iff.mp hi
 -- the values in their new places
 have hv:∃ ys,Vals ys (fZ (iS ds) its)/\aN X.K H F (eR ds) ys:=by
  rw [out];unfold eR;by_cases h:its.length < 2
  . rw [if_pos h,if_pos ∅];exact ⟨ws,rv,rl⟩
  . rw [if_neg h,if_neg ∅,<- l3];exact ⟨_,qV rv _ λi hi=>by rw [l2];exact small i hi,qX rl _ λi hi=>by rw [<- l3];exact small i hi⟩
 obtain ⟨ys,vy,ry⟩:=hv;refine AW (lt:=iS ds) (κ:=if bF (ds.getD 0 .non) < 3 then oneType' else tuples' true) isl ∅ hlen (λh2 A' h' hA k C c=>?_) (λA' h' hA k i j hi hj C c=>?_) ?_
 . exact MJ (s:={ s with heap:=h' }) (RdL.keep k ds its rd) hk h2 c
 . exact Pw hu hA rd l3 hs k i j hi hj C c
 . obtain ⟨e,he⟩:=sortedAll_at s.heap its (fZ (iS ds) its).toArray;refine ⟨.ref (s.heap.objs.size+1),upd H (s.heap.objs.size+1) (.lst ys),I.laid (t':=s.toks) (λb u hb=>sortedAll_old hb) (gC _) ⟨?_,_,e,vy,he⟩,rfl,q _ _ (I.hok.fresh (gC _)) ry⟩;rw [ry.length,rT,cq]
   lia
end PP
end
section
namespace PP
open PySem PySem.W PyProof.Rows
section
variable {prog:aQ} {w:bw} {A:bt} {E:ah->ak->Prop} {s:ak}
end
end PP
end
section
namespace PP
open PySem L2 PySem.SeqAt PyProof.Rows PySem.W
variable [Tbs]
end PP
end
section
namespace PP
open PySem L2 PyProof.Rows
variable [Tbs]
section
variable {K:PySem.W.Frag} {cx:Cl} {X:Cx}
def gf (r:Rel K H F d v):RelM false K H F d v:=r
def rC (K:PySem.W.Frag) (op:Cop):R2:=λx y H Q=>∃ F a b k,dC K H F a x/\dC K H F b y/\kX op a b = some k/\Q (.bl k) H
def LR (h:LS p a b = some k):∃ i j,a = .int i/\b = .int j/\k = p i j:=by
 unfold LS at h;split at h
 . cases h;exact ⟨_,_,rfl,rfl,rfl⟩
 . cases h
def JP (h:inD a b = some k):(∃ ds,(b = .lst ds\/b = .tup ds)/\(dep a<=150/\dh ds < 99999)/\k = ds.any λy=>eqD y a)\/∃ x y,a = .str x/\b = .str y/\k = ue y x:=by
 unfold inD at h;split at h
 . split at h
   . cases h;exact .inl ⟨_,.inl rfl,‹_›,rfl⟩
   . cases h
 . split at h
   . cases h;exact .inl ⟨_,.inr rfl,‹_›,rfl⟩
   . cases h
 . split at h
   . cases h;exact .inr ⟨_,_,rfl,rfl,rfl⟩
   . cases h
 . cases h
def tY:OpR X (compareOp .NotIn) (λx y H Q=>∃ i j,x = .str i/\y = .str j/\Q (.bl (!ue j i)) H):=by
 intro pins s σ H x y v u Q I rx ry h;obtain ⟨i,j,rfl,rfl,q⟩:=h;obtain ⟨t,rfl⟩:=rx;obtain ⟨t',rfl⟩:=ry;exact PySem.P.notIn_str ⟨.bl _,H,I,rfl,q⟩
def OpR.imp (h:OpR X f r) (w:∀ x y H Q,r' x y H Q->r x y H Q):OpR X f r':=λpins s σ H x y v u Q I rx ry q=>h pins s σ H x y v u Q I rx ry (w _ _ _ _ q)
def Pa (h:isD a b = some k) (ra:dC K H F a x) (rb:dC K H F b y):y = .non/\k = decide (x = .non):=by
 cases b<;>first | (cases h;done) | skip
 cases h;refine ⟨?_,?_⟩
 . rcases rb with r | ⟨_,_,_,e,_⟩
   . unfold Rel at r;exact r
   . cases e
 . rcases ra with r | ⟨_,_,_,rfl,rfl,_⟩
   . cases a<;>unfold Rel at r<;>first | (subst r;rfl) | (obtain ⟨_,_,rfl,_⟩:=r;rfl) | exact r.elim
   . rfl
def OV (h:leD a b = some k):(∃ i j,a = .int i/\b = .int j/\k = decide (i<=j))\/∃ i j,a = .str i/\b = .str j/\k = !decide (j.cps.toList < i.cps.toList):=by
 unfold leD at h;split at h
 . cases h;exact .inl ⟨_,_,rfl,rfl,rfl⟩
 . cases h;exact .inr ⟨_,_,rfl,rfl,rfl⟩
 . cases h
def Bp:OpR X (compareOp .LtE) (λx y H Q=>∃ i j,x = .str i/\y = .str j/\Q (.bl (!decide (j.cps.toList < i.cps.toList))) H):=by
 intro pins s σ H x y v u Q I rx ry h;obtain ⟨i,j,rfl,rfl,q⟩:=h;obtain ⟨t,rfl⟩:=rx;obtain ⟨t',rfl⟩:=ry;exact PySem.P.le_str ⟨.bl _,H,I,rfl,q⟩
def opC (hu:X.A.units+200 < cLine) (ho:zS op o = true):OpR X (compareOp o) (rC X.K op):=by
 cases op<;>cases o<;>first | (exact absurd ho aq) | skip
 . exact OpR.imp (LX hu) λx y H Q ⟨F,a,b,k,ra,rb,e,q⟩=>⟨F,a,b,k,ra,rb,e,q⟩
 . refine OpR.imp (OB.or Bp) λx y H Q zz=>?_;obtain ⟨F,a,b,k,ra,rb,e,q⟩:=zz;rcases OV e with ⟨i,j,rfl,rfl,rfl⟩ | ⟨i,j,rfl,rfl,rfl⟩
   . exact .inl ⟨i,j,ra.int,rb.int,q⟩
   . exact .inr ⟨i,j,ra.str,rb.str,q⟩
 . refine OpR.imp OC λx y H Q zz=>?_;obtain ⟨F,a,b,k,ra,rb,e,q⟩:=zz;obtain ⟨i,j,rfl,rfl,rfl⟩:=LR e;exact ⟨i,j,ra.int,rb.int,q⟩
 . refine OpR.imp ((Ma hu).or OD) λx y H Q zz=>?_;obtain ⟨F,a,b,k,ra,rb,e,q⟩:=zz;change (if gy a b = true then some (eqD a b) else if OQ a b = true then some false else none) = some k at e;split at e
   . cases e;exact .inl ⟨F,a,b,ra,rb,‹_›,q⟩
   . split at e
     . rename_i hm;cases e;cases a<;>cases b<;>first | (cases hm;done) | skip
       . rw [ra.int,rb.str];exact .inr ⟨rfl,q⟩
       . rw [ra.str,rb.int];exact .inr ⟨rfl,q⟩
     . cases e
 . refine OpR.imp (LV hu) λx y H Q zz=>?_;obtain ⟨F,a,b,k,ra,rb,e,q⟩:=zz;change (if gy a b = true then some (!eqD a b) else none) = some k at e;split at e
   . cases e;exact ⟨F,a,b,ra,rb,‹_›,q⟩
   . cases e
 . intro pins s σ H x y v u Q I rx ry h;obtain ⟨F,a,b,k,ra,rb,e,q⟩:=h;rcases JP e with ⟨ds,hb,hd,rfl⟩ | ⟨x',y',rfl,rfl,rfl⟩
   . refine LZ hu pins s σ H x y v u Q I rx ry ⟨F,a,ds,ra,?_,hd,q⟩;rcases hb with rfl | rfl
     . exact .inl rb
     . exact .inr rb
   . exact Bq pins s σ H x y v u Q I rx ry ⟨x',y',ra.str,rb.str,q⟩
 . intro pins s σ H x y v u Q I rx ry h;obtain ⟨F,a,b,k,ra,rb,e,q⟩:=h;change (inD a b).map (!·) = some k at e;rw [aJ] at e;obtain ⟨k',e,rfl⟩:=e;rcases JP e with ⟨ds,hb,hd,rfl⟩ | ⟨x',y',rfl,rfl,rfl⟩
   . refine Bo hu pins s σ H x y v u Q I rx ry ⟨F,a,ds,ra,?_,hd,q⟩;rcases hb with rfl | rfl
     . exact .inl rb
     . exact .inr rb
   . exact tY pins s σ H x y v u Q I rx ry ⟨x',y',ra.str,rb.str,q⟩
 . refine OpR.imp LY λx y H Q zz=>?_;obtain ⟨F,a,b,k,ra,rb,e,q⟩:=zz;obtain ⟨e1,e2⟩:=Pa e ra rb;exact ⟨e1,e2▸q⟩
def Na (ev:evE cx (.cmp op a b) δ = some (d,δ')):∃ x δ1 y k,evE cx a δ = some (x,δ1)/\evE cx b δ1 = some (y,δ')/\kX op x y = some k/\d = .bl k:=by
 simp only [evE,ae,af] at ev;obtain ⟨⟨x,δ1⟩,ea,⟨y',δ2⟩,eb,k,hd,e⟩:=ev;cases e;exact ⟨x,δ1,y',k,ea,eb,hd,rfl⟩
def Jd (ev:evT cx (.cmp op a b) δ = some (k,δ')):∃ x δ1 y,evE cx a δ = some (x,δ1)/\evE cx b δ1 = some (y,δ')/\kX op x y = some k:=by
 simp only [evT,ae,af] at ev;obtain ⟨⟨x,δ1⟩,ea,⟨y',δ2⟩,eb,k,hd,e⟩:=ev;cases e;exact ⟨x,δ1,y',ea,eb,hd⟩
def Hw (hu:X.A.units+200 < cLine) (ho:zS op o = true) (pc:(!bM a || np b) = true) (ha:PE X y (tE X.K cx a)) (hb:PE X z (tE X.K cx b)) (hm:behindInMarks o z = false) :
 PE X (.Compare y [o] [z] pos) (tE X.K cx (.cmp op a b)):=by
 refine PE.imp (HY (opC hu ho) ha hb hm) λσ H Q h=>?_;obtain ⟨G,F,δ,d,δ',ok,ev,post⟩:=h;obtain ⟨x,δ1,y',k,ea,eb,hd,rfl⟩:=Na ev;exact two ok ea eb pc λv u H2 F2 st sm ok2 r1 r2=>⟨F2,x,y',k,r1.b,r2.b,hd,post _ H2 F2 st sm ok2 (gf (md k))⟩
def DH (hu:X.A.units+200 < cLine) (ho:zS op o = true) (pc:(!bM a || np b) = true) (ha:PE X y (tE X.K cx a)) (hb:PE X z (tE X.K cx b)) (hm:behindInMarks o z = false) :
 PT X (.Compare y [o] [z] pos) (tT X.K cx (.cmp op a b)):=by
 refine PT.imp (HR (opC hu ho) ha hb hm) λσ H Q h=>?_;obtain ⟨G,F,δ,k,δ',ok,ev,post⟩:=h;obtain ⟨x,δ1,y',ea,eb,hd⟩:=Jd ev;exact two ok ea eb pc λv u H2 F2 st sm ok2 r1 r2=>⟨F2,x,y',k,r1.b,r2.b,hd,k,rfl,post H2 F2 st sm ok2⟩
def eH (n:(!bM e) = true) (h:RelM (bM e) K H F d v):Rel K H F d v:=by
 have e1:bM e = false:=by simpa using n
 rw [e1] at h;exact h
def snd_and (na:(!bM a) = true) (nb:(!bM b) = true) (ha:PE X y (tE X.K cx a)) (hb:PE X (.BoolOp .And (z::r) pos) (tE X.K cx b)):PE X (.BoolOp .And (y::z::r) pos) (tE X.K cx (.and a b)):=by
 refine PE.imp (LO ha hb) λσ H Q h=>?_;obtain ⟨G,F,δ,d,δ',ok,ev,post⟩:=h;simp only [evE,ae,af] at ev;obtain ⟨⟨x,δ1⟩,ea,ev⟩:=ev;refine ⟨G,F,δ,x,δ1,ok,ea,λv H1 F1 st1 sm1 ok1 r1=>?_⟩;replace r1:=eH na r1;have np1:np (.and a b) = (np a && np b):=rfl
 cases x with
 | bl k =>
   unfold Rel at r1;refine ⟨k,r1,?_⟩
   cases k with
   | true =>
     rw [if_pos rfl];refine ⟨G,F1,δ1,d,δ',ok1,ev,λu H2 F2 st2 sm2 ok2 r2=>post u H2 F2 (st1.trans st2) (λn=>?_) ok2 (gf (eH nb r2))⟩;rw [np1,aa] at n
     exact (sm1 n.1).trans (sm2 n.2)
   | false =>
     rw [if_neg aq];cases ev
     exact post _ H1 F1 st1 (λn=>by rw [np1,aa] at n;exact sm1 n.1) ok1 (gf (md false))
 | _=>cases ev
def Dz (na:(!bM a) = true) (nb:(!bM b) = true) (ha:PE X y (tE X.K cx a)) (hb:PE X (.BoolOp .Or (z::r) pos) (tE X.K cx b)):PE X (.BoolOp .Or (y::z::r) pos) (tE X.K cx (.or a b)):=by
 refine PE.imp (Ov ha hb) λσ H Q h=>?_;obtain ⟨G,F,δ,d,δ',ok,ev,post⟩:=h;simp only [evE,ae,af] at ev;obtain ⟨⟨x,δ1⟩,ea,ev⟩:=ev;refine ⟨G,F,δ,x,δ1,ok,ea,λv H1 F1 st1 sm1 ok1 r1=>?_⟩;replace r1:=eH na r1;have np1:np (.or a b) = (np a && np b):=rfl
 cases x with
 | bl k =>
   unfold Rel at r1;refine ⟨k,r1,?_⟩
   cases k with
   | false =>
     rw [if_neg aq];refine ⟨G,F1,δ1,d,δ',ok1,ev,λu H2 F2 st2 sm2 ok2 r2=>post u H2 F2 (st1.trans st2) (λn=>?_) ok2 (gf (eH nb r2))⟩;rw [np1,aa] at n
     exact (sm1 n.1).trans (sm2 n.2)
   | true =>
     rw [if_pos rfl];cases ev
     exact post _ H1 F1 st1 (λn=>by rw [np1,aa] at n;exact sm1 n.1) ok1 (gf (md true))
 | _=>cases ev
def Hq (na:(!bM a) = true) (ha:PE X y (tE X.K cx a)):PE X (.UnaryOp .Not y pos) (tE X.K cx (.not a)):=by
 refine PE.imp (LK ha) λσ H Q h=>?_;obtain ⟨G,F,δ,d,δ',ok,ev,post⟩:=h;simp only [evE,ae,af] at ev;obtain ⟨⟨x,δ1⟩,ea,ev⟩:=ev;refine ⟨G,F,δ,x,δ1,ok,ea,λv H1 F1 st1 sm1 ok1 r1=>?_⟩;replace r1:=eH na r1
 cases x with
 | bl k =>
   unfold Rel at r1;cases ev
   exact ⟨k,r1,post _ H1 F1 st1 sm1 ok1 (gf (md _))⟩
 | _=>cases ev
def PT.pw (h:PT X (.BoolOp op vs pos) t):PW X (.BoolOp op vs pos) t:=λ_ pins s σ H Q I q=>h pins s σ H Q I q
def vq (ha:PT X y (tT X.K cx a)) (hb:PW X (.BoolOp .And (z::r) pos) (tT X.K cx b)):PT X (.BoolOp .And (y::z::r) pos) (tT X.K cx (.and a b)):=by
 refine PT.imp (Lu ha hb).pt λσ H Q h=>?_;obtain ⟨G,F,δ,d,δ',ok,ev,post⟩:=h;simp only [evT,ae,af] at ev;obtain ⟨⟨k,δ1⟩,ea,ev⟩:=ev;have np1:np (.and a b) = (np a && np b):=rfl;refine ⟨G,F,δ,k,δ1,ok,ea,λH1 F1 st1 sm1 ok1=>?_⟩
 cases k with
 | true =>
   rw [if_pos rfl];refine ⟨G,F1,δ1,d,δ',ok1,ev,λH2 F2 st2 sm2 ok2=>post H2 F2 (st1.trans st2) (λn=>?_) ok2⟩;rw [np1,aa] at n
   exact (sm1 n.1).trans (sm2 n.2)
 | false =>
   rw [if_neg aq];cases ev;exact post H1 F1 st1 (λn=>by rw [np1,aa] at n;exact sm1 n.1) ok1
def yI (ha:PT X y (tT X.K cx a)) (hb:PW X (.BoolOp .Or (z::r) pos) (tT X.K cx b)):PT X (.BoolOp .Or (y::z::r) pos) (tT X.K cx (.or a b)):=by
 refine PT.imp (Om ha hb).pt λσ H Q h=>?_;obtain ⟨G,F,δ,d,δ',ok,ev,post⟩:=h;simp only [evT,ae,af] at ev;obtain ⟨⟨k,δ1⟩,ea,ev⟩:=ev;have np1:np (.or a b) = (np a && np b):=rfl;refine ⟨G,F,δ,k,δ1,ok,ea,λH1 F1 st1 sm1 ok1=>?_⟩
 cases k with
 | false =>
   rw [if_neg aq];refine ⟨G,F1,δ1,d,δ',ok1,ev,λH2 F2 st2 sm2 ok2=>post H2 F2 (st1.trans st2) (λn=>?_) ok2⟩;rw [np1,aa] at n
   exact (sm1 n.1).trans (sm2 n.2)
 | true =>
   rw [if_pos rfl];cases ev;exact post H1 F1 st1 (λn=>by rw [np1,aa] at n;exact sm1 n.1) ok1
def DG (ha:PT X y (tT X.K cx a)):PT X (.UnaryOp .Not y pos) (tT X.K cx (.not a)):=by
 refine PT.imp (Lv ha) λσ H Q h=>?_;obtain ⟨G,F,δ,d,δ',ok,ev,post⟩:=h;simp only [evT,ae,af] at ev;obtain ⟨⟨k,δ1⟩,ea,ev⟩:=ev;cases ev;exact ⟨G,F,δ,k,δ1,ok,ea,λH1 F1 st1 sm1 ok1=>post H1 F1 st1 sm1 ok1⟩
def Hu (na:(!bM a) = true) (nb:(!bM b) = true) (hc:PT X t (tT X.K cx c)) (ha:PE X y (tE X.K cx a)) (hb:PE X z (tE X.K cx b)):PE X (.IfExp t y z pos) (tE X.K cx (.ite c a b)):=by
 refine PE.imp (Eu hc ha hb) λσ H Q h=>?_;obtain ⟨G,F,δ,d,δ',ok,ev,post⟩:=h;simp only [evE,ae,af] at ev;obtain ⟨⟨k,δ1⟩,ea,ev⟩:=ev;have np1:np (.ite c a b) = (np c && np a && np b):=rfl;refine ⟨G,F,δ,k,δ1,ok,ea,λH1 F1 st1 sm1 ok1=>?_⟩
 cases k with
 | true =>
   rw [if_pos rfl];refine ⟨G,F1,δ1,d,δ',ok1,ev,λu H2 F2 st2 sm2 ok2 r2=>post u H2 F2 (st1.trans st2) (λn=>?_) ok2 (gf (eH na r2))⟩;rw [np1,aa,aa] at n
   exact (sm1 n.1.1).trans (sm2 n.1.2)
 | false =>
   rw [if_neg aq];refine ⟨G,F1,δ1,d,δ',ok1,ev,λu H2 F2 st2 sm2 ok2 r2=>post u H2 F2 (st1.trans st2) (λn=>?_) ok2 (gf (eH nb r2))⟩;rw [np1,aa,aa] at n;exact (sm1 n.1.1).trans (sm2 n.2)
def Ok.look (ok:Ok K G F σ H δ) (e:get δ i = some d):∃ v,σ[i]? = some (some v)/\dC K H F d v/\∃ F',Step G F H F' H/\Ok K G F' σ H (PP.demote δ i)/\Rel K H F' d v:=by
 unfold get at e
 cases q:δ[i]? with
 | none=>rw [q] at e;cases e
 | some s =>
   rw [q] at e
   cases s with
   | no=>cases e
   | fnc _ _=>cases e
   | val d' =>
     cases e;obtain ⟨v,e1,r⟩:=ok.sl i _ q;refine ⟨v,e1,.inl r,F,Step.refl,?_,r⟩
     unfold PP.demote;rw [q];exact ok
   | own ds =>
     cases e;obtain ⟨a,xs,e1,h1,h2,h3,h4⟩:=ok.sl i _ q;obtain ⟨o1,o2⟩:=ok.demote (d:=.lst ds) q rfl e1;refine ⟨.ref a,e1,.inr ⟨a,xs,ds,rfl,rfl,h3,h4⟩,λb=>F b/\b≠a,⟨λ_ _ _ z _=>z,λb z=>.inl z.1,λb o r z e=>⟨⟨z,λw=>h2.2 (by rw [<- w];exact r)⟩,e⟩,λ_ ps e=>⟨ps,e⟩⟩,?_,o2⟩;unfold PP.demote;rw [q];exact o1
def Ok.lookV (ok:Ok K G F σ H δ) (e:FC δ i = some d):∃ v,σ[i]? = some (some v)/\∃ F',Step G F H F' H/\Ok K G F' σ H (PP.demote δ i)/\Rel K H F' d v:=by
 obtain ⟨v,e1,_,h⟩:=ok.look (by unfold FC at e;exact e);exact ⟨v,e1,h⟩
def Hl (hN:X.N[i]? = some x) (hv:Vis X.env.scope x) (hd:(x == ("__debug__":Str)) = false) (hcd:(x == ("__classdict__":Str)) = false):PE X (.Name x pos) (tE X.K cx (.var i)):=by
 refine PE.imp (jY hN hv hd hcd) λσ H Q h=>?_;obtain ⟨G,F,δ,d,δ',ok,ev,post⟩:=h;simp only [evE,ae,af] at ev;obtain ⟨d',e1,e⟩:=ev;cases e;obtain ⟨v,ev,F',st,ok',r⟩:=ok.lookV e1;exact ⟨v,ev,post v H F' st (λ_=>Sim.refl H) ok' (gf r)⟩
def KZ (hN:X.N[i]? = some x) (hv:Vis X.env.scope x) (hd:(x == ("__debug__":Str)) = false) (hcd:(x == ("__classdict__":Str)) = false):PE X (.Name x pos) (tE X.K cx (.pk i)):=by
 refine PE.imp (jY hN hv hd hcd) λσ H Q h=>?_;obtain ⟨G,F,δ,d,δ',ok,ev,post⟩:=h;simp only [evE,ae,af] at ev;obtain ⟨d',e1,e⟩:=ev;cases e;obtain ⟨v,ev,rb,_⟩:=ok.look e1;exact ⟨v,ev,post v H F Step.refl (λ_=>Sim.refl H) ok rb⟩
def xy (r:dC K H F d v) (e:tv d = some k):Nq K v H k:=by
 cases d with
 | non=>cases e;rcases r with r | ⟨_,_,_,z,_⟩;(unfold Rel at r;subst r;rfl);cases z
 | bl b=>cases e;have:=r.bl;subst this;rfl
 | int i=>cases e;have:=r.int;subst this;rfl
 | str x =>
   change (if x.length<=sizeLine then some ((x.length:Int) != 0) else none) = some k at e;split at e
   . cases e;have:=r.str;subst this;exact ⟨‹_›,rfl⟩
   . cases e
 | lst ds =>
   cases e;obtain ⟨a,xs,rfl,h1,h2⟩:=r.lst;refine .inl ⟨xs,h1.sq,?_⟩;have:=h2.length
   cases ds<;>cases xs<;>first | rfl | (simp at this)
 | tup ds =>
   cases e;obtain ⟨a,xs,rfl,h1,h2⟩:=r.tup;refine .inr (.inl ⟨xs,h1,?_⟩);have:=h2.length
   cases ds<;>cases xs<;>first | rfl | (simp at this)
 | fn _ _=>cases e
def vp (he:e = .var i\/e = .pk i) (hN:X.N[i]? = some x) (hv:Vis X.env.scope x) (hd:(x == ("__debug__":Str)) = false) (hcd:(x == ("__classdict__":Str)) = false):PT X (.Name x pos) (tT X.K cx e):=by
 refine PT.imp (qy (jY hN hv hd hcd) λ_=>rfl) λσ H Q h=>?_;obtain ⟨G,F,δ,k,δ',ok,ev,post⟩:=h
 have ev':∃ d,get δ i = some d/\tv d = some k/\δ = δ':=by
  rcases he with rfl | rfl
  . simp only [evT,ae,af] at ev;obtain ⟨d,e1,k',e2,e⟩:=ev;cases e;exact ⟨d,e1,e2,rfl⟩
  . simp only [evT,ae,af] at ev;obtain ⟨d,e1,k',e2,e⟩:=ev;cases e;exact ⟨d,e1,e2,rfl⟩
 obtain ⟨d,e1,e2,rfl⟩:=ev';obtain ⟨v,ev,rb,_⟩:=ok.look e1;exact ⟨v,ev,k,xy rb e2,post H F Step.refl (λ_=>Sim.refl H) ok⟩
def Hv:PE X (.Constant (.int i) j pos) (tE X.K cx (.int i)) :=
 PE.imp LM λσ H Q ⟨G,F,δ,d,δ',ok,ev,post⟩=>by cases ev;exact post _ H F Step.refl (λ_=>Sim.refl H) ok (gf (dE i))
def Lc:PE X (.Constant (.bool i) j pos) (tE X.K cx (.bl i)) :=
 PE.imp Oy λσ H Q ⟨G,F,δ,d,δ',ok,ev,post⟩=>by cases ev;exact post _ H F Step.refl (λ_=>Sim.refl H) ok (gf (md i))
def Hn:PE X (.Constant (.str i) j pos) (tE X.K cx (.str i)) :=
 PE.imp LJ λσ H Q ⟨G,F,δ,d,δ',ok,ev,post⟩=>by cases ev;exact post _ H F Step.refl (λ_=>Sim.refl H) ok (gf (gX i))
def Hr:PE X (.Constant .none j pos) (tE X.K cx .non) :=
 PE.imp LL λσ H Q ⟨G,F,δ,d,δ',ok,ev,post⟩=>by cases ev;exact post _ H F Step.refl (λ_=>Sim.refl H) ok (gf yP)
def DB (hg:Gl X x) (hm:X.mg x = some u) (r:RelV v u) (hr:∀ d,cx.gl[g]? = some d->∀ H F,Rel X.K H F d v) (hd:(x == ("__debug__":Str)) = false):PE X (.Name x pos) (tE X.K cx (.glob g)):=by
 refine PE.imp (HX hg hm r hd) λσ H Q h=>?_;obtain ⟨G,F,δ,d,δ',ok,ev,post⟩:=h;simp only [evE,ae,af] at ev;obtain ⟨d',e1,e⟩:=ev;cases e;exact post v H F Step.refl (λ_=>Sim.refl H) ok (gf (hr d e1 H F))
def Hs (n:(!bM a) = true) (ha:PE X y (tE X.K cx a)):PE X (.UnaryOp .USub y pos) (tE X.K cx (.neg a)):=by
 refine PE.imp (Ou KL ha) λσ H Q h=>?_;obtain ⟨G,F,δ,d,δ',ok,ev,post⟩:=h;simp only [evE,ae,af] at ev;obtain ⟨⟨x,δ1⟩,ea,ev⟩:=ev
 cases x with
 | int i =>
   cases ev;refine ⟨G,F,δ,_,_,ok,ea,λv H1 F1 st sm ok1 r=>?_⟩;have:=r.b.int;subst this
   exact ⟨i,rfl,post _ H1 F1 st sm ok1 (gf (dE _))⟩
 | _=>cases ev
def DC (n:(!bM a) = true) (ha:PE X y (tE X.K cx a)):PE X (.JoinedStr [.Constant (.str t) k p1,.FormattedValue y (-1) none p2] pos) (tE X.K cx (.fstr t a)):=by
 intro pins s σ H Q I h;obtain ⟨G,F,δ,d,δ',ok,ev,post⟩:=h;simp only [evE,ae,af] at ev;obtain ⟨⟨x,δ1⟩,ea,ev⟩:=ev
 cases x with
 | int i =>
   dsimp only at ev;split at ev
   . rename_i hh;cases ev
     have e0:Jo++t = t:=by
      show (⟨#[]++t.cps⟩:Str) = t;simp
     have l0:t.length<=sizeLine:=by have:=hh.2;lia
     refine JoinedStr_many (joinParts_cons (BY ?_));show (Jo++t).length<=sizeLine/\_;rw [e0];refine ⟨l0,joinParts_cons (FormattedValue_plain (thn (ha pins _ σ H (λv H1=>v = .int i/\Q (.str (t++toString i)) H1) (I.tok _) ⟨G,F,δ,.int i,_,ok,ea,λv H1 F1 st sm ok1 r=>⟨r.b.int,post _ H1 F1 st sm ok1 (gf (gX _))⟩⟩) λu s1 z=>?_))⟩;obtain ⟨v,H1,I1,rv,rfl,q⟩:=z;obtain ⟨k1,rfl⟩:∃ k1,u = .int i k1:=rv;have l1:(t++(toString i:Str)).length<=sizeLine:=by rw [strLen_append];exact hh.2
     refine wpAny_formatField_int hh.1 ⟨l1,joinParts_nil ⟨_,H1,?_,?_,q⟩ l1⟩
     . exact (I1.tok _).tok _
     . exact ⟨_,rfl⟩
   . cases ev
 | _=>cases ev
end
section
variable {K:PySem.W.Frag} {cx:Cl} {X:Cx}
def tK:PA X [] (tEs X.K cx .nil):=by
 refine λpos pins s σ H Q I h=>qC pos pins s σ H Q I ?_;obtain ⟨G,F,δ,ds,δ',ok,ev,post⟩:=h;simp only [dH] at ev;cases ev;exact post [] H F Step.refl (λ_=>Sim.refl H) ok ⟨rfl,rfl⟩
def qp (pc:(!bM a || npS es) = true) (ha:PE X y (tE X.K cx a)) (hr:PA X ys (tEs X.K cx es)) (hs:starEach (y::ys) X.env = (false,eval y X.env)::starEach ys X.env):PA X (y::ys) (tEs X.K cx (.cons a es)):=by
 refine λpos pins s σ H Q I h=>jZ ha hr hs pos pins s σ H Q I ?_;obtain ⟨G,F,δ,ds,δ',ok,ev,post⟩:=h;simp only [dH,ae,af] at ev;obtain ⟨⟨x,δ1⟩,ea,⟨ds',δ2⟩,eb,e⟩:=ev;cases e;refine ⟨G,F,δ,x,δ1,ok,ea,λv H1 F1 st1 sm1 ok1 r1=>⟨G,F1,δ1,ds',δ2,ok1,eb,λvs H2 F2 st2 sm2 ok2 r2=>?_⟩⟩;refine post (v::vs) H2 F2 (st1.trans st2) (λz=>?_) ok2 ⟨x,ds',v,vs,rfl,rfl,RelM.step ok1.fd st2 (λz=>sm2 (by rw [z] at pc;simpa using pc)) r1,r2⟩;have z':(np a && npS es) = true:=z;rw [aa] at z';exact (sm1 z'.1).trans (sm2 z'.2)
def nI.rl:∀ {es:Es} {ds:List D} {vs:List V},ie es = true->nI K H F es ds vs->aN K H F ds vs
 | .nil,ds,vs,_,h=>by obtain ⟨rfl,rfl⟩:=h;exact aN.nil
 | .cons e es,ds,vs,n,h=>by
   obtain ⟨d,ds',v,vs',rfl,rfl,h1,h2⟩:=h;have n':(!bM e && ie es) = true:=n;rw [aa] at n';exact aN.cons (eH n'.1 h1) (nI.rl n'.2 h2)
def Af (K:PySem.W.Frag) (H:Hp) (F:au->Prop):List D->List V->Prop
 | [],vs=>vs = []
 | d::ds,vs=>∃ v vs',vs = v::vs'/\dC K H F d v/\Af K H F ds vs'
def nI.bl:∀ {es:Es} {ds:List D} {vs:List V},nI K H F es ds vs->Af K H F ds vs
 | .nil,ds,vs,h=>by obtain ⟨rfl,rfl⟩:=h;rfl
 | .cons e es,ds,vs,h=>by
   obtain ⟨d,ds',v,vs',rfl,rfl,h1,h2⟩:=h;exact ⟨v,vs',rfl,h1.b,nI.bl h2⟩
def zM {f:List D->Option D} {es:Es} {δ δ':Loc} {d:D} (ev:(do let (ds,δ1) <- dH cx es δ;return (<- f ds,δ1)) = some (d,δ')):∃ ds,dH cx es δ = some (ds,δ')/\f ds = some d:=by
 simp only [ae,af] at ev;obtain ⟨⟨ds,δ1⟩,ea,d',hd,e⟩:=ev;cases e;exact ⟨ds,ea,hd⟩
def Hm (n:ie es = true) (h:PA X xs (tEs X.K cx es)):PE X (.Tuple xs k pos) (tE X.K cx (.tup es)):=by
 refine PE.imp (LI h) λσ H Q h=>?_;obtain ⟨G,F,δ,d,δ',ok,ev,post⟩:=h;simp only [evE,ae,af] at ev;obtain ⟨⟨ds,δ1⟩,ea,ev⟩:=ev;split at ev
 . rename_i hz;cases ev;refine ⟨G,F,δ,ds,δ1,ok,ea,λvs H1 F1 st1 sm1 ok1 r1=>?_⟩;have r:=r1.rl n;refine ⟨by rw [r.length];exact hz,λp hp=>?_⟩;obtain ⟨o1,o2,o3,o4⟩:=ok1.laid hp (.tup vs);exact post _ _ _ (st1.trans o2) (λz=>(sm1 z).trans o3) o1 (gf (jX ok1 hp r))
 . cases ev
def Ht (n:ie es = true) (h:PA X xs (tEs X.K cx es)):PE X (.List xs pos) (tE X.K cx (.lst es)):=by
 refine PE.imp (Er h) λσ H Q h=>?_;obtain ⟨G,F,δ,d,δ',ok,ev,post⟩:=h;simp only [evE,ae,af] at ev;obtain ⟨⟨ds,δ1⟩,ea,ev⟩:=ev;split at ev
 . rename_i hz;cases ev;refine ⟨G,F,δ,ds,δ1,ok,ea,λvs H1 F1 st1 sm1 ok1 r1=>?_⟩;have r:=r1.rl n;refine ⟨by rw [r.length];exact hz,λp hp=>?_⟩;obtain ⟨o1,o2,o3,o4⟩:=ok1.laid hp (.lst vs);exact post _ _ _ (st1.trans o2) (λz=>(sm1 z).trans o3) o1 (gf (ma ok1 hp r))
 . cases ev
def aN.at {H:Hp} {F:au->Prop} {ds:List D} {xs:List V} {i:Int} {d:D} (h:aN K H F ds xs) (e:atI ds i = some d):∃ v,atI xs i = some v/\Rel K H F d v:=by
 unfold atI at e |-;rw [h.length]
 cases q:ixN ds.length i with
 | none=>rw [q] at e;cases e
 | some j =>
   rw [q] at e;exact h.get e
def La (pc:(!bM a || np b) = true) (ha:PE X y (tE X.K cx a)) (hb:PE X z (tE X.K cx b)) (hp:PlainIx z):PE X (.Subscript y z pos) (tE X.K cx (.ix a b)):=by
 refine PE.imp (Ox MQ ha hb hp) λσ H Q h=>?_;obtain ⟨G,F,δ,d,δ',ok,ev,post⟩:=h;simp only [evE,ae,af] at ev;obtain ⟨⟨x,δ1⟩,ea,⟨y',δ2⟩,eb,d',hd,e⟩:=ev;cases e;dsimp only at eb hd post;refine two ok ea eb pc λv u H2 F2 st sm ok2 r1 r2=>?_;unfold ixD at hd;split at hd
 . have e2:=r2.b.int;obtain ⟨p,xs,e1,h1,h2⟩:=r1.b.lst;obtain ⟨w,hw,rw'⟩:=h2.at hd;exact .inl ⟨p,xs,_,w,e1,e2,h1.sq,hw,post _ _ _ st sm ok2 (gf rw')⟩
 . have e2:=r2.b.int;obtain ⟨p,xs,e1,h1,h2⟩:=r1.b.tup;obtain ⟨w,hw,rw'⟩:=h2.at hd;exact .inr (.inl ⟨p,xs,_,w,e1,e2,h1,hw,post _ _ _ st sm ok2 (gf rw')⟩)
 . have e2:=r2.b.int;have e1:=r1.b.str;split at hd
   . rename_i hz;rw [aJ] at hd;obtain ⟨c,hc,rfl⟩:=hd;exact .inr (.inr ⟨_,_,c,e1,e2,hz,hc,post _ _ _ st sm ok2 (gf (gX _))⟩)
   . cases hd
 . cases hd
def Jw (h:∀ e,o = .yes e->∃ y,l = some y/\(!bM e) = true/\PE X y (tE X.K cx e)) (hn:o = .no->l = none):PO X l (tO X.K cx o):=by
 cases o with
 | no =>
   rw [hn rfl];intro pins s σ H Q I q;refine HV pins s σ H Q I ?_;obtain ⟨G,F,δ,d,δ',ok,ev,post⟩:=q;simp only [evO] at ev;cases ev
   exact post H F Step.refl (λ_=>Sim.refl H) ok
 | yes e =>
   obtain ⟨y,rfl,n,hy⟩:=h e rfl;intro pins s σ H Q I q;refine HU hy pins s σ H Q I ?_;obtain ⟨G,F,δ,d,δ',ok,ev,post⟩:=q;simp only [evO,ae,af] at ev;obtain ⟨⟨x,δ1⟩,ea,ev⟩:=ev
   cases x with
   | int i =>
     cases ev
     exact ⟨G,F,δ,.int i,δ',ok,ea,λv H1 F1 st1 sm1 ok1 r1=>⟨i,by have:=eH n r1;unfold Rel at this;exact this,post H1 F1 st1 sm1 ok1⟩⟩
   | _=>cases ev
def KY {a:E} {lo hi:Eo} {y:aE} {l h:Option aE} {pos p2:Pos} (pc:(!bM a || (npO lo && npO hi)) = true) (ha:PE X y (tE X.K cx a)) (hl:PO X l (tO X.K cx lo)) (hh:PO X h (tO X.K cx hi)):PE X (.Subscript y (.Slice l h none p2) pos) (tE X.K cx (.sl a lo hi)):=by
 refine PE.imp (vH (yJ.or (Le.or Lf)) ha hl hh) λσ H Q h=>?_;obtain ⟨G,F,δ,d,δ',ok,ev,post⟩:=h;simp only [evE,ae,af] at ev;obtain ⟨⟨x,δ1⟩,ea,⟨l',δ2⟩,eb,⟨h',δ3⟩,ec,d',hd,e⟩:=ev;cases e;dsimp only at eb ec hd post;refine ⟨G,F,δ,x,δ1,ok,ea,λv H1 F1 st1 sm1 ok1 r1=>⟨G,F1,δ1,l',δ2,ok1,eb,λH2 F2 st2 sm2 ok2=>⟨G,F2,δ2,h',δ3,ok2,ec,λH3 F3 st3 sm3 ok3=>?_⟩⟩⟩;have st:=st2.trans st3
 have rb:dC X.K H3 F3 x v:=by
  refine (RelM.step ok1.fd st (λz=>?_) r1).b;rw [z] at pc;have pc':(npO lo && npO hi) = true:=by simpa using pc
  rw [aa] at pc';exact (sm2 pc'.1).trans (sm3 pc'.2)
 have fin:∀ w H4,iW H3 H4->Ok X.K G F3 σ H4 δ3->Rel X.K H4 F3 d w->Q w H4:=λw H4 s4 o4 r4=>post w H4 F3 ((st1.trans st).trans (Step.of_same s4)) (λz=>by
  have z':(np a && npO lo && npO hi) = true:=z;rw [aa,aa] at z';exact (((sm1 z'.1.1).trans (sm2 z'.1.2)).trans (sm3 z'.2)).trans (.of s4)) o4 (gf r4)
 unfold slD at hd;split at hd
 . cases hd;obtain ⟨p,xs,e1,h1,h2⟩:=rb.lst;refine .inl ⟨p,xs,e1,h1.sq,λq hq=>?_⟩;obtain ⟨o1,o2,o3,o4⟩:=ok3.laid hq (.lst (rG xs l' h'));exact fin _ _ (cn hq _) o1 (ma ok3 hq (h2.cut l' h'))
 . split at hd
   . cases hd
   . rename_i hw;cases hd;obtain ⟨p,xs,e1,h1,h2⟩:=rb.tup;refine .inr (.inl ⟨p,xs,e1,h1,by rw [h2.length];exact hw,λq hq=>?_⟩);obtain ⟨o1,o2,o3,o4⟩:=ok3.laid hq (.tup (rG xs l' h'));exact fin _ _ (cn hq _) o1 (jX ok3 hq (h2.cut l' h'))
 . split at hd
   . cases hd;have e1:=rb.str;subst e1;exact .inr (.inr ⟨_,rfl,‹_›,fin _ _ (λb o e=>e) ok3 (gX _)⟩)
   . cases hd
 . cases hd
def spF (K:PySem.W.Frag) (f:List D->Option D):Sp:=λvs H Q _=>∃ F ds d,FD F H/\TF F/\ik H/\aN K H F ds vs/\f ds = some d/\∀ v H',Sim H H'->ik H'->Rel K H' F d v->Q v H'
def DE {f:Nat} {es:Es} {x:Str} {y:aE} {ys:List aE} {k:Nat} {a:au} {fd:eQ} {ps:List Str} {p pos:Pos} (n:ie es = true) (fn:lM X.prog X.w X.K X.mg X.base CX0 k a fd ps (spF X.K (cx.call f))) (hr:kK k X.A) (hg:Gl X x)
 (hm:X.mg x = some (.ref a)) (hk:PySem.W.keepIn X.K (.ref a) = true) (hb:Binds X.K fd ps []) (hA:PA X (y::ys) (tEs X.K cx es)) (hd:(x == ("__debug__":Str)) = false) (he:starEach (y::ys) X.env = (false,eval y X.env)::starEach ys X.env) (hpl:(backTo pos (starEach ys X.env)).any (·.1) = false) :
 PE X (.Call (.Name x p) (y::ys) [] pos) (tE X.K cx (.call f es)):=by
 refine PE.imp (ze fn hr hg hm hk hb .nil (Ew) hA hd he hpl) λσ H Q h=>?_;obtain ⟨G,F,δ,d,δ',ok,ev,post⟩:=h;simp only [evE] at ev;obtain ⟨ds,ea,hd⟩:=zM ev;refine ⟨G,F,δ,ds,δ',ok,ea,λvs H1 F1 st1 sm1 ok1 r1=>?_⟩;show spF X.K (cx.call f) (vs++[]) H1 Q E0;rw [aY];exact ⟨F1,ds,d,ok1.fd,ok1.tf,ok1.tabs,r1.rl n,hd,λv H2 s2 t2 r2=>post v H2 F1 (st1.trans (ok1.call s2 t2).2) (λz=>(sm1 z).trans s2) (ok1.call s2 t2).1 (gf r2)⟩
def pE {e:E} {x:aE} {es:Es} {f:List D->Option D} (hE:PE X x (tE X.K cx e)) (he:∀ whole,isTrue x X.env whole = (do let v <- whole;standAt x.pos;holding [v] (truthy v))) (n:bM e = false)
 (e1:∀ δ,evE cx e δ = (do let (ds,δ1) <- dH cx es δ;return (<- f ds,δ1))) (e2:∀ δ,evT cx e δ = (do let (ds,δ1) <- dH cx es δ;let d <- f ds;return (<- tv d,δ1))):PT X x (tT X.K cx e):=by
 refine PT.imp (qy hE he) λσ H Q h=>?_;obtain ⟨G,F,δ,k,δ',ok,ev,post⟩:=h;rw [e2] at ev;simp only [ae,af] at ev;obtain ⟨⟨ds,δ1⟩,ea,d,hd,k',hk,e⟩:=ev;cases e;refine ⟨G,F,δ,d,δ1,ok,?_,λv H1 F1 st1 sm1 ok1 r1=>⟨k,xy r1.b hk,post H1 F1 st1 sm1 ok1⟩⟩;rw [e1];simp only [ae,af];exact ⟨(ds,δ1),ea,d,hd,rfl⟩
def DF (hE:PE X x (tE X.K cx e)) (he:∀ whole,isTrue x X.env whole = (do let v <- whole;standAt x.pos;holding [v] (truthy v))) (e2:∀ δ k δ',evT cx e δ = some (k,δ')->∃ d,evE cx e δ = some (d,δ')/\tv d = some k):PT X x (tT X.K cx e) :=
 PT.imp (qy hE he) λσ H Q ⟨G,F,δ,k,δ',ok,ev,post⟩=>let ⟨d,e1,e3⟩:=e2 _ _ _ ev;⟨G,F,δ,d,δ',ok,e1,λv H1 F1 st1 sm1 ok1 r1=>⟨k,xy r1.b e3,post H1 F1 st1 sm1 ok1⟩⟩
def rB (K:PySem.W.Frag) (f:List D->Option D):List V->Hp->VK->Prop:=λxs H Q=>∃ F ds d,FD F H/\Af K H F ds xs/\f ds = some d/\∀ v H',iW H H'->Rel K H' F d v->Q v H'
def dD.imp {f:ah} {r r':List V->Hp->VK->Prop} (h:dD X f r) (w:∀ xs H Q,r' xs H Q->r xs H Q):dD X f r':=λpins s σ H xs us Q I rv q=>h pins s σ H xs us Q I rv (w _ _ _ q)
def b1 (h:Af K H F [d] xs):∃ v,xs = [v]/\dC K H F d v:=by
 obtain ⟨v,vs,rfl,h1,h2⟩:=h;cases h2;exact ⟨v,rfl,h1⟩
def sr (fd:FD F H) (hp:H p = none):¬ F p:=fd.none hp
def Ni:dD X (.builtin "len") (rB X.K IF):=by
 refine dD.imp (uM.or uL) λxs H Q zz=>?_;obtain ⟨F,ds,d,fd,r,e,q⟩:=zz;unfold IF at e;split at e
 . split at e
   . cases e;obtain ⟨v,rfl,rv⟩:=b1 r;exact .inr ⟨_,by rw [rv.str],‹_›,q _ _ (iW.refl H) (dE _)⟩
   . cases e
 . cases e;obtain ⟨v,rfl,rv⟩:=b1 r;obtain ⟨a,ys,rfl,h1,h2⟩:=rv.lst;exact .inl ⟨a,ys,rfl,.inl h1.sq,by rw [h2.length];exact q _ _ (iW.refl H) (dE _)⟩
 . cases e;obtain ⟨v,rfl,rv⟩:=b1 r;obtain ⟨a,ys,rfl,h1,h2⟩:=rv.tup;exact .inl ⟨a,ys,rfl,.inr h1,by rw [h2.length];exact q _ _ (iW.refl H) (dE _)⟩
 . cases e
def BN:dD X (.type "int") (λxs H Q=>∃ x n,xs = [.str x]/\PySem.intText? x = some n/\x.length<=640/\Q (.int n) H):=by
 intro pins s σ H xs us Q I rv h;obtain ⟨x,n,rfl,h1,h2,q⟩:=h;obtain ⟨u,rfl,ru⟩:=rv.one;obtain ⟨t,rfl⟩:=ru;exact PySem.W.KIN.call_text h1 h2 ⟨.int n,H,I.tok _,⟨_,rfl⟩,q⟩
def Nj:dD X (.type "int") (rB X.K qi):=by
 refine dD.imp (BO.or BN) λxs H Q zz=>?_;obtain ⟨F,ds,d,fd,r,e,q⟩:=zz;unfold qi at e;split at e
 . cases e;obtain ⟨v,rfl,r1⟩:=b1 r;exact .inl (.inl ⟨_,by rw [r1.int],q _ _ (iW.refl H) (dE _)⟩)
 . cases e;obtain ⟨v,rfl,r1⟩:=b1 r;exact .inl (.inr ⟨_,by rw [r1.bl],q _ _ (iW.refl H) (dE _)⟩)
 . split at e
   . rw [aJ] at e;obtain ⟨n,e1,rfl⟩:=e;obtain ⟨v,rfl,r1⟩:=b1 r;exact .inr ⟨_,n,by rw [r1.str],e1,‹_›,q _ _ (iW.refl H) (dE _)⟩
   . cases e
 . cases e
def Ng:dD X (.type "str") (rB X.K tB):=by
 refine dD.imp uI λxs H Q zz=>?_;obtain ⟨F,ds,d,fd,r,e,q⟩:=zz;unfold tB at e;split at e
 . split at e
   . cases e;obtain ⟨v,rfl,r1⟩:=b1 r;exact ⟨_,by rw [r1.int],‹_›,q _ _ (iW.refl H) (gX _)⟩
   . cases e
 . cases e
def vn (h:iW H H'):Step g0 F H F H':=Step.of_same h
def Nf:dD X (.type "tuple") (rB X.K tu):=by
 refine dD.imp rJ λxs H Q zz=>?_;obtain ⟨F,ds,d,fd,r,e,q⟩:=zz;unfold tu at e;split at e
 . cases e;obtain ⟨v,rfl,r1⟩:=b1 r;obtain ⟨a,ys,rfl,h1,h2⟩:=r1.lst;refine ⟨a,ys,rfl,.inl ⟨h1.sq,λl hl=>q _ _ (cn hl _) ?_⟩⟩;unfold Rel;exact ⟨l,ys,rfl,SqT.of bN,aN.step fd (vn (cn hl _)) _ _ h2⟩
 . cases e;obtain ⟨v,rfl,r1⟩:=b1 r;obtain ⟨a,ys,rfl,h1,h2⟩:=r1.tup;refine ⟨a,ys,rfl,.inr ⟨h1,q _ _ (iW.refl H) ?_⟩⟩;unfold Rel;exact ⟨a,ys,rfl,h1,h2⟩
 . cases e
def Nh:dD X (.type "list") (rB X.K nZ):=by
 refine dD.imp nD λxs H Q zz=>?_;obtain ⟨F,ds,d,fd,r,e,q⟩:=zz;unfold nZ at e;split at e
 . cases e;obtain ⟨v,rfl,r1⟩:=b1 r;obtain ⟨a,ys,rfl,h1,h2⟩:=r1.lst;refine ⟨a,ys,rfl,.inl h1.sq,λl hl=>q _ _ (cn hl _) ?_⟩;unfold Rel;exact ⟨l,ys,rfl,.inl ⟨.inl bN,sr fd hl⟩,aN.step fd (vn (cn hl _)) _ _ h2⟩
 . cases e;obtain ⟨v,rfl,r1⟩:=b1 r;obtain ⟨a,ys,rfl,h1,h2⟩:=r1.tup;refine ⟨a,ys,rfl,.inr h1,λl hl=>q _ _ (cn hl _) ?_⟩;unfold Rel;exact ⟨l,ys,rfl,.inl ⟨.inl bN,sr fd hl⟩,aN.step fd (vn (cn hl _)) _ _ h2⟩
 . cases e
def BK (hu:X.A.units+200 < cLine):dD X (.builtin "sorted") (rB X.K pD):=by
 refine dD.imp (uK hu) λxs H Q zz=>?_;obtain ⟨F,ds,d,fd,r,e,q⟩:=zz;unfold pD at e;split at e
 . split at e
   . rename_i zs hs;cases e;obtain ⟨v,rfl,r1⟩:=b1 r;refine ⟨F,zs,v,rfl,r1,hs,λp ys hp ry=>q _ _ (cn hp _) ?_⟩;unfold Rel;exact ⟨p,ys,rfl,.inl ⟨.inl bN,sr fd hp⟩,aN.step fd (vn (cn hp _)) _ _ ry⟩
   . cases e
 . cases e
def ly {f:Blt} {es:Es} {x:Str} {p pos:Pos} {xs:List aE} (g:List D->Option D) (hg:ky f = g) (h:PE X (.Call (.Name x p) xs [] pos) (tCB (rB X.K g) (tEs X.K cx es))):PE X (.Call (.Name x p) xs [] pos) (tE X.K cx (.blt f es)):=by
 subst hg;refine PE.imp h λσ H Q h=>?_;obtain ⟨G,F,δ,d,δ',ok,ev,post⟩:=h;simp only [evE] at ev;obtain ⟨ds,ea,hd⟩:=zM ev;refine ⟨G,F,δ,ds,δ',ok,ea,λvs H1 F1 st1 sm1 ok1 r1=>?_⟩;exact ⟨F1,ds,d,ok1.fd,r1.bl,hd,λv H2 s2 r2=>post v H2 F1 (st1.trans (Step.of_same s2)) (λz=>(sm1 z).trans (.of s2)) (ok1.same' s2) (gf r2)⟩
end
end PP
end
section
namespace HT
open PySem PySem.Spec PyProof.Rows
section
variable {prog:aQ} {w:bw} {A:bt} {E:ah->ak->Prop} {s:ak}
end
end HT
namespace L2
open PySem PySem.Spec PyProof.Rows
section
variable {X:Cx} {e:aE} {st:Option aE} {te:TE} {ts:TO} {pos p2:Pos}
end
end L2
namespace PP
open PySem L2 PyProof.Rows
variable [Tbs]
section
variable {K:PySem.W.Frag} {cx:Cl} {X:Cx}
end
end PP
end
section
namespace PP
open PySem L2 PyProof.Rows
variable [Tbs]
section
variable {K:PySem.W.Frag} {cx:Cl} {X:Cx}
def Lb (hT:tyName f = some T) (ht:t = (T:Str)) (hg:Gl X "isinstance") (hm:X.mg "isinstance" = none) (hgt:Gl X t) (hmt:X.mg t = none) (hy:PE X y (tE X.K cx e)) (hs:starEach [y,.Name t tp] X.env = [(false,eval y X.env),(false,eval (.Name t tp) X.env)]) :
 PE X (.Call (.Name "isinstance" p) [y,.Name t tp] [] pos) (tE X.K cx (.blt f (.cons e .nil))):=by
 have hb:bootBuiltins t = some (.type T):=by
  subst ht;cases f<;>simp [tyName] at hT<;>subst hT<;>rfl
 have hn:t≠"__name__":=by
  subst ht;cases f<;>simp [tyName] at hT<;>subst hT<;>decide
 have hdb:(t == ("__debug__":Str)) = false:=by
  subst ht;cases f<;>simp [tyName] at hT<;>subst hT<;>decide
 have hA:PA X [y,.Name t tp] (yD (tE X.K cx e) (yD (tC (.ty T)) KR)):=jZ hy (jZ (HZ hgt hmt hb rfl hn hdb) qC rfl) hs;refine PE.imp (mV (Ga hT) hg hm rfl hA ⇑0 ⇑0 hs rfl) λσ H Q h=>?_;obtain ⟨G,F,δ,d,δ',ok,ev,post⟩:=h;simp only [evE] at ev;obtain ⟨ds,ea,hd⟩:=zM ev;simp only [dH,ae,af] at ea;obtain ⟨⟨x,δ1⟩,ea,⟨ds',δ2⟩,eb,e2⟩:=ea;cases eb;cases e2
 obtain ⟨b,rfl⟩:∃ b,d = .bl b:=by
  cases f<;>simp [tyName] at hT<;>(cases x<;>simp [ky,ke] at hd<;>exact ⟨_,hd.symm⟩)
 refine ⟨G,F,δ,x,δ1,ok,ea,λv H1 F1 st1 sm1 ok1 r1=>?_⟩;exact ⟨F1,x,v,b,r1.b,rfl,hd,post _ H1 F1 st1 (λz=>sm1 (by have z':(np e && true) = true:=z;simpa using z')) ok1 (gf (md b))⟩
def Lq:V->List V->Hp->VK->Prop:=λx vs H Q=>∃ t:Str,x = .str t/\vs = []/\Q (.bl (decide (t.length > 0) && t.cps.all dn)) H
def Fb:MtR X "str.isdigit" Lq:=by
 intro pins s σ H x xs v us Q I rx rv h;obtain ⟨y,rfl,rfl,q⟩:=h;obtain ⟨t,rfl⟩:=rx;cases rv;exact call_gives F.slot_str_isdigit (yq s y t) F.entry_str_isdigit (F.args_str_isdigit_1 _) (gives_str_isdigit y t) ⟨.bl _,H,I,rfl,q⟩
def AY (hN:X.N[i]? = some x) (hv:Vis X.env.scope x) (hd:(x == ("__debug__":Str)) = false) (hcd:(x == ("__classdict__":Str)) = false) (hl:ap.endLine = cp.line) :
 PE X (.Call (.Attribute (.Name x pos) "isdigit" ap) [] [] cp) (tE X.K cx (.isdig i)):=by
 refine PE.imp (LN PySem.F.plainAttrs_str PySem.F.slot_str_isdigit PySem.F.type_str_isdigit Fb (jY hN hv hd hcd) rfl (by simpa using hl)) λσ H Q h=>?_;obtain ⟨G,F,δ,d,δ',ok,ev,post⟩:=h;simp only [evE,ae,af] at ev;obtain ⟨z,e1,ev⟩:=ev
 cases z with
 | str y =>
   cases ev;unfold PP.get at e1;split at e1
   . rename_i d0 q0;cases e1;obtain ⟨v,e2,r⟩:=ok.sl i _ q0;unfold Rel at r;subst r;exact ⟨_,e2,rfl,y,rfl,rfl,post _ H F Step.refl (λ_=>Sim.refl H) ok (gf (md _))⟩
   . cases e1
   . cases e1
 | _=>cases ev
def GP (fd:FD F H) (h1:Ls K H F a xs) (h3:aN K H F ds xs):Wk K G F H (Itl K a) ds:=by
 intro F2 H2 st fd2 i;have h4:=(h1.step st).sq;have h5:=aN.step fd st ds xs h3;refine ⟨λd e=>?_,λe=>⟨xs,h4,by rw [h5.length];lia⟩⟩;obtain ⟨v,hv,rv⟩:=h5.get e;refine ⟨⟨xs,v,h4,hv⟩,λx H3 y=>?_⟩;obtain ⟨rfl,y⟩:=y;refine ⟨λ_ _ e=>e,?_⟩;have:=y xs h4;rw [hv] at this;cases this;exact rv
def Kc (fd:FD F H) (h1:SqT K H a xs) (h3:aN K H F ds xs):Wk K G F H (Itt K a) ds:=by
 intro F2 H2 st fd2 i;have h4:=vo fd st.keep h1;have h5:=aN.step fd st ds xs h3;refine ⟨λd e=>?_,λe=>⟨xs,h4,by rw [h5.length];lia⟩⟩;obtain ⟨v,hv,rv⟩:=h5.get e;refine ⟨⟨xs,v,h4,hv⟩,λx H3 y=>?_⟩;obtain ⟨rfl,y⟩:=y;refine ⟨λ_ _ e=>e,?_⟩;have:=y xs h4;rw [hv] at this;cases this;exact rv
def Kd:Wk K G F H (Its x) (x.cps.toList.map λc=>D.str ⟨#[c]⟩):=by
 intro F2 H2 st fd2 i;refine ⟨λd e=>?_,λe=>by show i = x.cps.size;simpa using e⟩;rw [br,aJ] at e;obtain ⟨c,hc,rfl⟩:=e;have hc':x.cps[i]? = some c:=by simpa using hc
 refine ⟨(Array.getElem?_eq_some_iff.mp hc').1,λv H3 y=>?_⟩;obtain ⟨rfl,c',h1,h2⟩:=y;refine ⟨λ_ _ e=>e,?_⟩;rw [hc'] at h1;cases h1;rw [h2];exact gX _
def Ke {G:Gh} {H:Hp} {F:au->Prop} {lo:Int} {n:Nat}:Wk K G F H (Itr lo n) (om lo n):=by
 intro F2 H2 st fd2 i;unfold om;refine ⟨λd e=>?_,λe=>by rw [e];simp;exact ax n⟩;rw [br,aJ] at e;obtain ⟨c,hc,rfl⟩:=e;have hl:i < n:=by have:=(aF.mp hc).1;simpa using this
 rw [mH hl] at hc;cases hc;refine ⟨hl,λv H3 y=>?_⟩;obtain ⟨rfl,h2⟩:=y;exact ⟨λ_ _ e=>e,by rw [h2];exact dE _⟩
def Qu (K:PySem.W.Frag) (tl:TE):TI:=λσ H R=>tl σ H λv H1=>(∃ a,v = .ref a/\(∃ xs,SqL K H1 a xs)/\R (Itl K a) H1)\/(∃ a,v = .ref a/\(∃ xs,SqT K H1 a xs)/\R (Itt K a) H1)\/∃ x,v = .str x/\R (Its x) H1
def LD (hl:PE X l tl):PI X tg l (Qu X.K tl):=by
 intro pins s σ H R I h
 have key:∀ {v:ah} {s1:ak} {x:V} {H1:Hp},Inv X pins σ H1 s1->RelV x v->((∃ a,x = .ref a/\(∃ xs,SqL X.K H1 a xs)/\R (Itl X.K a) H1)\/(∃ a,x = .ref a/\(∃ xs,SqT X.K H1 a xs)/\R (Itt X.K a) H1)\/∃ y,x = .str y/\R (Its y) H1) ->
  wpAny (model X.prog X.w) X.A (pyIter v) (PIE X pins σ tg R) X.xe s1:=by
  intro v s1 x H1 I1 r1 q1;rcases q1 with ⟨a,rfl,⟨xs,hq⟩,q⟩ | ⟨a,rfl,⟨xs,hq⟩,q⟩ | ⟨z,rfl,q⟩
  . cases r1;obtain ⟨its,rv,p,hz⟩:=I1.list hq;refine Nz p.isList ?_;refine ⟨s1.heap.objs.size,[s1.heap.objs.size],_,_,H1,rfl,I1.kept (t':=s1.toks) λb o e=>aj _ e,AO a _,⟨_,aH _ rfl,rfl,rfl⟩,λb hb=>?_,q⟩;have e:b = s1.heap.objs.size:=by simpa using hb
    subst e;exact I1.fpOk (ax _) (I1.hok.fresh (ax _))
  . cases r1;obtain ⟨its,rv,p,hz⟩:=I1.tuple hq;refine Nu (show s1.heap.IsTuple a its.toArray from p) ?_;refine ⟨s1.heap.objs.size,[s1.heap.objs.size],_,_,H1,rfl,I1.kept (t':=s1.toks) λb o e=>aj _ e,xv a _,⟨_,aH _ rfl,rfl,rfl⟩,λb hb=>?_,q⟩;have e:b = s1.heap.objs.size:=by simpa using hb
    subst e;exact I1.fpOk (ax _) (I1.hok.fresh (ax _))
  . obtain ⟨t,rfl⟩:=r1;refine wpAny_pyIter_strU ?_;refine ⟨s1.heap.objs.size,[s1.heap.objs.size],_,_,H1,rfl,I1.kept (t':=s1.toks) λb o e=>aj _ e,Dq s1.heap.objs.size z t,⟨_,aH _ rfl,rfl,rfl⟩,λb hb=>?_,q⟩;have e:b = s1.heap.objs.size:=by simpa using hb
    subst e;exact I1.fpOk (ax _) (I1.hok.fresh (ax _))
 exact thn (hl pins s σ H _ I h) λv s1 ⟨x,H1,I1,r1,q1⟩=>key I1 r1 q1
def PI.imp (h:PI X tg l t) (w:∀ σ H R,t' σ H R->t σ H R):PI X tg l t':=λpins s σ H R I q=>h pins s σ H R I (w σ H R q)
def KW (n:(!bM e) = true) (hl:PE X l (tE X.K cx e)):PI X tg l (tI X.K cx (.sq e)):=by
 refine PI.imp (LD hl) λσ H R h=>?_;obtain ⟨G,F,δ,ds,δ',ok,ev,post⟩:=h;simp only [evI,ae,af] at ev;obtain ⟨⟨d,δ1⟩,ea,ds',hd,e2⟩:=ev;cases e2;dsimp only at hd post;refine ⟨G,F,δ,d,δ1,ok,ea,λv H1 F1 st1 sm1 ok1 r1=>?_⟩;have r:=eH n r1;unfold items at hd;split at hd
 . cases hd;unfold Rel at r;obtain ⟨a,xs,e1,h1,h3⟩:=r;exact .inl ⟨a,e1,⟨xs,h1.sq⟩,post _ _ _ st1 sm1 ok1 (λ_=>GP ok1.fd h1 h3)⟩
 . cases hd;unfold Rel at r;obtain ⟨a,xs,e1,h1,h3⟩:=r;exact .inr (.inl ⟨a,e1,⟨xs,h1⟩,post _ _ _ st1 sm1 ok1 (λ_=>Kc ok1.fd h1 h3)⟩)
 . split at hd
   . cases hd;unfold Rel at r;exact .inr (.inr ⟨_,r,post _ _ _ st1 sm1 ok1 λ_=>Kd⟩)
   . cases hd
 . cases hd
def Ho (n:(!bM e) = true) (hg:Gl X "range") (hm:X.mg "range" = none) (hy:PE X y (tE X.K cx e)) (hs:starEach [y] X.env = [(false,eval y X.env)]):PI X tg (.Call (.Name "range" p) [y] [] pos) (tI X.K cx (.rng e)):=by
 refine PI.imp (Bk hg hm (jZ hy qC hs) hs) λσ H R h=>?_;obtain ⟨G,F,δ,ds,δ',ok,ev,post⟩:=h;simp only [evI,ae,af] at ev;obtain ⟨⟨d,δ1⟩,ea,ev⟩:=ev
 cases d with
 | int j =>
   dsimp only at ev;split at ev
   . rename_i hj;cases ev;refine ⟨G,F,δ,.int j,_,ok,ea,λv H1 F1 st1 sm1 ok1 r1=>?_⟩;have r:=eH n r1;unfold Rel at r;subst r;exact ⟨j,rfl,hj.1,hj.2,post _ _ _ st1 sm1 ok1 λ_=>Ke⟩
   . cases ev
 | _=>cases ev
end
end PP
end
section
namespace PP
open PySem L2 PyProof.Rows Builtin.Str
variable [Tbs]
section
variable {X:Cx} {cx:Cl}
end
end PP
end
section
namespace PP
open PySem L2 PyProof.Rows
variable [Tbs]
section
variable {X:Cx} {cx:Cl}
def GdK (w:bw) (K:PySem.W.Frag) (a:au) (D:List (Str × Int)):Prop :=
 KTD.tabLook KTD.flatLooks (λb=>K.lookup b) a (D.map λp=>(p.1,PyData.int p.2)) = true/\(D.map (·.1)).Nodup/\KTD.hashesOf (λb=>K.lookup b) a = D.map λp=>hashStr w p.1
end
def AV (K:PySem.W.Frag) (f:List D->Option D):Sp:=λvs H Q _=>∃ F ds ws k cs a d,FD F H/\TF F/\ik H/\vs = ws++[.ref a]/\aN K H F ds ws/\FnV H k cs a/\f (ds++[.fn k cs]) = some d/\∀ v H',Sim H H'->ik H'->Rel K H' F d v->Q v H'
def spO (K:PySem.W.Frag) (f:List D->Option D):Sp:=λvs H Q _=>∃ F ds zs,FD F H/\TF F/\ik H/\aN K H F ds vs/\f ds = some zs/\∀ a u H',Sim H H'->ik H'->H a = none->H' a = some u->iq K H' (λb=>F b\/b = a) zs u->Q (.ref a) H'
def Ji (P:aQ) (w:bw) (K:PySem.W.Frag) (mg:Str->Option ah) (base:bJ) (n k:Nat) (f:List D->Option D):Prop :=
 ∀ (A:bt) (outer:List Env) (s:ak) (H:Hp) (a:au) (us:List ah) (vs:List V) (cs:List D) (Q:VK),kK n A->uO P w K mg base A outer s H->Vals vs us->FnV H k cs a ->
  (∃ F ds d,FD F H/\TF F/\ik H/\aN K H F ds vs/\lfL ds = true/\f (ds++cs) = some d/\lf d = true/\∀ v H',Sim H H'->ik H'->Rel K H' F d v->Q v H') ->
  codeAny (model P w) A (.call (.ref a) ⟨us,[]⟩) (CR CX0 outer P w H s Q E0) s
structure Cok (X:Cx) (c:Ck) (cx:Cl) (k:Nat):Prop where
 hN:X.N = c.N
 nd:c.N.Nodup
 vis:∀ x,Vis c.sc x->Vis X.env.scope x
 gl:∀ x,c.sc.names.lookup x = some .globalImplicit->Gl X x
 st:∀ x,L2.Loc c.sc x->L2.Loc X.env.scope x/\(X.fn x = true\/X.env.scope.names.lookup x = some .local)
 kc:∀ x,(c.sc.names.lookup x = some .cell\/c.sc.names.lookup x = some .free)->X.env.kindOf x = some .cell\/X.env.kindOf x = some .free
 calm:X.calm = true
 xe:X.xe = λ_ _=>False
 room:kK k X.A
 fns:∀ (f:Nat) (x:Str) (ps:List Str),c.fns[f]? = some (x,ps)->∃ a fd,X.mg x = some (.ref a)/\PySem.W.keepIn X.K (.ref a) = true/\Binds X.K fd ps []/\lM X.prog X.w X.K X.mg X.base CX0 k a fd ps (spF X.K (cx.call f))
 fnF:∀ (f:Nat) (x:Str) (ps:List Str),c.fns[f]? = some (x,ps)->cx.hf f = true->∃ a fd,X.mg x = some (.ref a)/\PySem.W.keepIn X.K (.ref a) = true/\Binds X.K fd ps []/\lM X.prog X.w X.K X.mg X.base CX0 k a fd ps (AV X.K (cx.call f))
 fnO:∀ (f:Nat) (x:Str) (ps:List Str),c.fns[f]? = some (x,ps)->∃ a fd,X.mg x = some (.ref a)/\PySem.W.keepIn X.K (.ref a) = true/\Binds X.K fd ps []/\lM X.prog X.w X.K X.mg X.base CX0 k a fd ps (spO X.K (cx.call (f+tX)))
 lam:∀ (n:Nat) (cs:List D) (H:Hp) (a:au),FnV H n cs a->Ji X.prog X.w X.K X.mg X.base k n (cx.call n)
 blt:∀ x,x∈jJ->X.mg x = none
 glob:∀ (g:Nat) (x:Str) (d:D),c.gn[g]? = some x->cx.gl[g]? = some d->∃ u v,X.mg x = some u/\RelV v u/\∀ H F,Rel X.K H F d v
 gsome:∀ (g:Nat) (x:Str),c.gn[g]? = some x->∃ d,cx.gl[g]? = some d
 gds:∀ (n:Str) (l:List (Str × Int)),Tbs.gds.lookup n = some l->∃ a,X.mg n = some (.ref a)/\GdK X.w X.K a l
 pos:k = 0->∀ f ds,cx.call f ds = none
def Dj (h:AL sc x = true):Vis sc x:=by
 unfold AL at h;split at h
 . exact .inl ‹_›
 . exact .inr (.inl ‹_›)
 . exact .inr (.inr ‹_›)
 . cases h
def Fi (h:MG sc x = true):L2.Loc sc x:=by
 unfold MG at h;split at h
 . exact .inl ‹_›
 . exact .inr ‹_›
 . cases h
def MW (h:glB sc x = true):sc.names.lookup x = some .globalImplicit:=by
 unfold glB at h;split at h
 . assumption
 . cases h
def zm (h:EU x = true):(x == ("__debug__":Str)) = false/\(x == ("__classdict__":Str)) = false/\x≠("__name__":Str):=by
 unfold EU at h;rw [aa,aa] at h;refine ⟨by simpa using h.1.1,by simpa using h.1.2,?_⟩;have:=h.2;intro z;subst z
 revert this
 decide
section
variable {X:Cx} {c:Ck} {cx:Cl} {k:Nat}
def Cok.name (C:Cok X c cx k) (h:fe c i x = true):X.N[i]? = some x/\Vis X.env.scope x/\(x == ("__debug__":Str)) = false/\(x == ("__classdict__":Str)) = false:=by
 unfold fe at h;rw [aa,aa] at h;obtain ⟨⟨h1,h2⟩,h3⟩:=h;obtain ⟨n1,n2,n3⟩:=zm h3;exact ⟨by rw [C.hN];exact of_decide_eq_true h1,C.vis x (Dj h2),n1,n2⟩
def Cok.to (C:Cok X c cx k) (h:iR c i x = true):X.N[i]? = some x/\L2.Loc X.env.scope x/\(X.fn x = true\/X.env.scope.names.lookup x = some .local):=by
 unfold iR at h;rw [aa,aa] at h;obtain ⟨⟨h1,h2⟩,h3⟩:=h;obtain ⟨s1,s2⟩:=C.st x (Fi h2);exact ⟨by rw [C.hN];exact of_decide_eq_true h1,s1,s2⟩
def Cok.global (C:Cok X c cx k) (h:fI c x = true):Gl X x/\(x == ("__debug__":Str)) = false/\x≠("__name__":Str):=by
 unfold fI at h;rw [aa] at h;obtain ⟨n1,n2,n3⟩:=zm h.2;exact ⟨C.gl x (MW h.1),n1,n3⟩
def Cok.units (C:Cok X c cx k):X.A.units+200 < cLine:=by have:=C.room.un;lia
def Cok.nd' (C:Cok X c cx k):X.N.Nodup:=by rw [C.hN];exact C.nd
def uw:List Nat->TGs
 | []=>Ph
 | i::is=>JQ (vW i) (uw is)
def Pg (K:PySem.W.Frag) (n:Nat) (t:TGs):TG:=λv σ H Q=>∃ a xs,v = .ref a/\(SqT K H a xs\/SqL K H a xs)/\xs.length = n/\t xs σ H Q
def nE {prog:aQ} {w:bw} {A:bt} {E:ah->ak->Prop} {s:ak} {env:Env} {elts:List aE} {x1} {pos:Pos} {t:au} {items:Array ah} {Q:Unit->ak->Prop} (hh:A.handled = none) (ht:s.heap.IsList t items)
 (hn:(assignEach elts env).length = items.size) (hstar:(assignEach elts env).findIdx? (·.1) = none)
 (h:∀ h',An s.heap.objs.size s.heap h'->wpAny (model prog w) A (assignInOrder ((assignEach elts env).map (·.2)) items.toList) Q E { s with heap:=h' }) :
 wpAny (model prog w) A (assign (.Tuple elts x1 pos) env (.ref t)) Q E s:=by
 rw [assign_Tuple];refine ab (fE ?_);unfold unpack;rw [hn,hstar];exact ab (cS (PySem.W.kun_itemsOf hh ht h))
def LH {X:Cx} {es:List aE} {k:Nat} {t:TGs} {n:Nat} {pos:Pos} (hc:X.calm = true) (h:PGs X es t)
 (hn:(assignEach es X.env).length = n:=by rfl) (hst:(assignEach es X.env).findIdx? (·.1) = none:=by rfl):PG X (.Tuple es k pos) (Pg X.K n t):=by
 intro pins s σ H v u Q I r hw;obtain ⟨a,xs,e1,hq,hl,hw⟩:=hw;rcases hq with hq | hq
 . exact LF hc h hn hst pins s σ H v u Q I r ⟨a,xs,e1,hq,hl,hw⟩
 . subst e1;cases r;obtain ⟨its,rv,pl,hz⟩:=I.list hq;refine nE (I.ok.hd hc) pl.isList (by simp [hn,<- hl,rv.length]) hst λh' hx=>?_;have I1:Inv X pins σ H { s with heap:=h' }:=I.kept (t':=s.toks) λb o e=>hx b o (aR (aC e)) e;exact h pins _ σ H xs _ Q I1 (by simpa using rv) hw
def gTg (K:PySem.W.Frag):Tg->TG
 | .nm i=>vW i
 | .tp is=>Pg K is.length (uw is)
def se (C:Cok X c cx k):∀ (is:List Nat) (es:List aE),Nb c is es = true->PGs X es (uw is)/\(assignEach es X.env).length = is.length/\(assignEach es X.env).findIdx? (·.1) = none
 | [],es,h=>by
   obtain ⟨rfl,_⟩:=fH h
   exact ⟨HW,rfl,rfl⟩
 | i::is,es,h=>by
   obtain ⟨e,r,rfl,hh⟩:=eI h;rw [aa] at hh;obtain ⟨x,p,rfl,h1⟩:=cy hh.1;obtain ⟨q1,q2,q3⟩:=se C is r hh.2;obtain ⟨n1,n2,n3⟩:=C.to h1;refine ⟨En (zd C.nd' n1 n2 n3) q1 rfl,?_,?_⟩
   . show (assignEach r X.env).length+1 = _;rw [q2];rfl
   . show List.findIdx? _ ((false,_)::assignEach r X.env) = none;rw [Cg,q3];rfl
def og (C:Cok X c cx k) (h:qR c tg t = true):PG X t (gTg X.K tg):=by
 cases tg with
 | nm i =>
   obtain ⟨_,_,rfl,h1⟩:=cy h;obtain ⟨n1,n2,n3⟩:=C.to h1
   exact zd C.nd' n1 n2 n3
 | tp is =>
   obtain ⟨_,_,_,rfl,h1⟩:=hW h;obtain ⟨q1,q2,q3⟩:=se C _ _ h1;exact LH C.calm q1 q2 q3
def take_set {α:Type} (l:List α) (i n:Nat) (x:α) (h:n<=i):(l.set i x).take n = l.take n:=by
 apply List.ext_getElem?;intro j;by_cases hj:j < n
 . rw [dX hj,dX hj,bG ∅]
 . rw [eX (by rw [da];lia),eX (by rw [da];lia)]
def qj {K:PySem.W.Frag} {G:Gh} {H:Hp} {F:au->Prop} {Q:L2.St->Hp->Prop}:∀ (is:List Nat) (ds:List D) (xs:List V) (σ:L2.St) (δ:Loc),Ok K G F σ H δ->aN K H F ds xs->is.length = ds.length->is.all (· < δ.length) = true ->
 (∀ σ',Ok K G F σ' H ((is.zip ds).foldl (λδ p=>δ.set p.1 (.val p.2)) δ)->(∀ n,(is.all λi=>decide (n<=i)) = true->σ'.take n = σ.take n)->Q σ' H)->uw is xs σ H Q
 | [],ds,xs,σ,δ,ok,r,hl,_,q=>by
   have:ds = []:=eC.mp hl.symm;subst this;unfold aN at r
   exact ⟨r,q σ ok λ_ _=>rfl⟩
 | i::is,[],xs,σ,δ,ok,r,hl,_,q=>by simp at hl
 | i::is,d::ds,xs,σ,δ,ok,r,hl,ha,q=>by
   unfold aN at r;obtain ⟨y,ys,rfl,r1,r2⟩:=r;rw [iy,aa] at ha;refine ⟨y,ys,rfl,?_⟩;refine qj is ds ys (σ.set i (some y)) (δ.set i (.val d)) (ok.set (of_decide_eq_true ha.1) r1) r2 (by simpa using hl) ?_ λσ' o t=>q σ' o λn hn=>?_
   . rw [cm];exact ha.2
   . rw [iy,aa] at hn;rw [t n hn.2,take_set _ _ _ _ (of_decide_eq_true hn.1)]
def mO {K:PySem.W.Frag} {G:Gh} {H:Hp} {F:au->Prop} {σ:L2.St} {δ δ':Loc} {tg:Tg} {d:D} {v:V} {Q:L2.St->Hp->Prop} (ok:Ok K G F σ H δ) (r:Rel K H F d v) (e:eB δ tg d = some δ') (q:∀ σ',Ok K G F σ' H δ'->(∀ n,lZ n tg = true->σ'.take n = σ.take n)->Q σ' H):gTg K tg v σ H Q:=by
 unfold eB at e;split at e
 . split at e
   . cases e;exact q _ (ok.set ‹_› r) λn hn=>take_set _ _ _ _ (of_decide_eq_true hn)
   . cases e
 . split at e
   . rename_i hh;cases e;unfold Rel at r;obtain ⟨a,xs,e1,h1,h2⟩:=r;exact ⟨a,xs,e1,.inl h1,by rw [h2.length];exact hh.1.symm,qj _ _ _ _ _ ok h2 hh.1 hh.2 q⟩
   . cases e
 . split at e
   . rename_i hh;cases e;unfold Rel at r;obtain ⟨a,xs,e1,h1,h2⟩:=r;exact ⟨a,xs,e1,.inr h1.b.sq,by rw [h2.length];exact hh.1.symm,qj _ _ _ _ _ ok h2 hh.1 hh.2 q⟩
   . cases e
 . cases e
def Ok.ext {K:PySem.W.Frag} {G:Gh} {H:Hp} {F:au->Prop} {σ:L2.St} {δ:Loc} (h:Ok K G F σ H δ) (tl:L2.St):Ok K G F (σ++tl) H (δ++aO tl.length .no):=by
 have low:∀ (j:Nat) (s:Sl),(δ++aO tl.length .no)[j]? = some s->s = .no\/(δ[j]? = some s/\(σ++tl)[j]? = σ[j]?):=λj s e=>by
  by_cases hj:j < δ.length
  . rw [bh hj] at e;exact .inr ⟨e,bh (by rw [<- h.len];exact hj)⟩
  . rw [bB ∅,du] at e;split at e
    . cases e;exact .inl rfl
    . cases e
 refine ⟨h.same,h.fd,h.rf,h.rl,h.tf,h.tabs,by rw [ag,ag,dI,h.len],λj s e=>?_,λi j s t a e1 e2 o1 o2 p1 p2=>?_⟩
 . rcases low j s e with rfl | ⟨e1,e2⟩
   . trivial
   . rw [e2];exact h.sl j s e1
 . rcases low i _ e1 with z | ⟨a1,a2⟩
   . subst z;cases o1
   . rcases low j _ e2 with z | ⟨b1,b2⟩
     . subst z;cases o2
     . rw [a2] at p1;rw [b2] at p2;exact h.apart i j s t a a1 b1 o1 o2 p1 p2
def Ok.cut {K:PySem.W.Frag} {G:Gh} {H:Hp} {F:au->Prop} {σ:L2.St} {δ:Loc} (h:Ok K G F σ H δ) (n:Nat):Ok K G F (σ.take n) H (δ.take n):=by
 have low:∀ (j:Nat) (s:Sl),(δ.take n)[j]? = some s->δ[j]? = some s/\(σ.take n)[j]? = σ[j]? := λj s e=>by
  by_cases hj:j < n
  . rw [dX hj] at e;exact ⟨e,dX hj⟩
  . rw [eX (by rw [da];lia)] at e;cases e
 refine ⟨h.same,h.fd,h.rf,h.rl,h.tf,h.tabs,by rw [da,da,h.len],λj s e=>?_,λi j s t a e1 e2 o1 o2 p1 p2=>?_⟩
 . obtain ⟨e1,e2⟩:=low j s e;rw [e2];exact h.sl j s e1
 . obtain ⟨a1,a2⟩:=low i _ e1;obtain ⟨b1,b2⟩:=low j _ e2;rw [a2] at p1;rw [b2] at p2;exact h.apart i j s t a a1 b1 o1 o2 p1 p2
def Gh.and (G:Gh) (D:au):Gh:=⟨G.h,λb=>G.R b\/b = D⟩
def Ok.free {K:PySem.W.Frag} {G:Gh} {H:Hp} {F:au->Prop} {σ:L2.St} {δ:Loc} {p:au} (h:Ok K G F σ H δ) (hp:H p = none):G.free p:=by
 refine ⟨?_,λz=>?_⟩
 . cases e:G.h p with
   | none=>rfl
   | some o =>
     by_cases t:NT o
     . rw [h.same.nt p o t e] at hp;cases hp
     . cases o<;>first | (exact absurd trivial t) | skip
       obtain ⟨qs,z⟩:=h.same.tb p _ e;rw [z] at hp;cases hp
 . obtain ⟨o,e,_⟩:=h.rl p z;rw [hp] at e;cases e
def Ok.enterO {K:PySem.W.Frag} {G:Gh} {H:Hp} {F:au->Prop} {σ:L2.St} {δ:Loc} {p:au} (h:Ok K G F σ H δ) (hp:H p = none) {u:HO} (hu:Mo u):Ok K (G.and p) (λb=>F b\/b = p) σ (upd H p u) δ/\Step G F H (λb=>F b\/b = p) (upd H p u):=by
 have nF:¬ F p:=sr h.fd hp;have sm:=cn hp u;have st:∀ G':Gh,Step G' F H (λb=>F b\/b = p) (upd H p u):=λG'=>⟨λb o _ e _=>sm b o e,λb z=>by rcases z with z | z;exact .inl z;exact .inr (by rw [z];exact hp),λb o _ f e=>⟨.inl f,sm b o e⟩,λb ps e=>⟨ps,sm b _ e⟩⟩;refine ⟨⟨h.same.trans (.of sm),λb z=>?_,λb z=>?_,λb z=>?_,λt ht=>.inl (h.tf t ht),h.tabs.keep λb o _ e=>sm b o e,h.len,λj s e=>?_,h.apart⟩,st G⟩
 . rcases z with z | z
   . exact h.fd.same sm b z
   . rw [z];exact ⟨u,bN,.inl hu⟩
 . rcases z with z | z
   . exact .inl (h.rf b z)
   . exact .inr z
 . rcases z with z | z
   . exact yN h.rl sm b z
   . rw [z];exact ⟨u,bN,hu⟩
 . exact fC.stay0 h.fd (st G) (λa v _ f1 _ f3=>⟨.inl f1,sm _ _ f3⟩) (fC.free (G:=G) (G':=G.and p) (λa f1 f2=>⟨f2.1,λz=>Or.elim z f2.2 λw=>nF (w▸f1)⟩) (h.sl j s e))
def Ok.enter {K:PySem.W.Frag} {G:Gh} {H:Hp} {F:au->Prop} {σ:L2.St} {δ:Loc} {p:au} (h:Ok K G F σ H δ) (hp:H p = none) (xs:List V):Ok K (G.and p) (λb=>F b\/b = p) σ (upd H p (.lst xs)) δ/\Step G F H (λb=>F b\/b = p) (upd H p (.lst xs)):=h.enterO hp trivial
def Ok.pokeO {K:PySem.W.Frag} {G:Gh} {H:Hp} {F:au->Prop} {σ:L2.St} {δ:Loc} {p:au} {x u:HO} (h:Ok K (G.and p) F σ H δ) (hg:G.free p) (hP:H p = some x) (hx:Mo x) (hu:Mo u):Ok K (G.and p) F σ (upd H p u) δ:=by
 have hF:F p:=h.rf p (.inr rfl);have nt:=hx.nt;have st0:Step g0 F H F (upd H p u):=⟨λb o _ e n=>by rw [bx (λz:b = p=>n (by rw [z];exact hF))];exact e,λb z=>.inl z,λ_ _ r _ _=>r.elim,λb ps e=>⟨ps,by rw [bx (λw:b = p=>by rw [w,hP] at e;cases e;exact nt)];exact e⟩⟩;refine ⟨⟨λb o t e=>?_,λb ps e=>?_⟩,λb z=>?_,h.rf,λb z=>?_,h.tf,h.tabs.keep λb o n e=>?_,h.len,λj s e=>?_,h.apart⟩
 . rw [bx (λz:b = p=>by have e':G.h b = some o:=e;rw [z,hg.1] at e';cases e')];exact h.same.nt b o t e
 . rw [bx (λz:b = p=>by have e':G.h b = some _:=e;rw [z,hg.1] at e';cases e')];exact h.same.tb b ps e
 . by_cases hb:b = p
   . rw [hb];exact ⟨u,bN,.inl hu⟩
   . rw [bx hb];exact h.fd b z
 . by_cases hb:b = p
   . rw [hb];exact ⟨u,bN,hu⟩
   . rw [bx hb];exact h.rl b z
 . rw [bx (λw:b = p=>by rw [w,hP] at e;cases e;exact n hx)];exact e
 . exact fC.stay0 h.fd st0 (λa v _ f1 f2 f3=>⟨f1,by rw [bx (λz:a = p=>f2.2 (.inr z))];exact f3⟩) (h.sl j s e)
def Ok.poke {K:PySem.W.Frag} {G:Gh} {H:Hp} {F:au->Prop} {σ:L2.St} {δ:Loc} {p:au} {zs:List V} (h:Ok K (G.and p) F σ H δ) (hg:G.free p) (hP:H p = some (.lst zs)) (xs:List V):Ok K (G.and p) F σ (upd H p (.lst xs)) δ:=h.pokeO hg hP trivial trivial
def Ok.leave {K:PySem.W.Frag} {G:Gh} {H:Hp} {F:au->Prop} {σ:L2.St} {δ:Loc} {p:au} (h:Ok K (G.and p) F σ H δ) (hg:G.free p):Ok K G (λb=>F b/\b≠p) σ H δ:=by
 have hs:∀ b,(F b/\b≠p)->F b:=λb z=>z.1
 have tf':TF λb=>F b/\b≠p:=λt ht=>⟨h.tf t ht,λw=>by
  obtain ⟨ps,e,_⟩:=h.tabs t ht;obtain ⟨o,hP,m⟩:=h.rl p (.inr rfl);rw [w,hP] at e;cases e;exact m⟩
 refine ⟨h.same,λb z=>h.fd b z.1,λb z=>⟨h.rf b (.inl z),λw=>hg.2 (by rw [<- w];exact z)⟩,λb z=>h.rl b (.inl z),tf',h.tabs,h.len,λj s e=>?_,h.apart⟩;refine ((h.sl j s e).less h.fd hs λa z za=>?_).free (G:=G.and p) (G':=G) λb _ z=>⟨z.1,λw=>z.2 (Or.inl w)⟩;obtain ⟨a',u,d,e1,f1,f2,_⟩:=fC.ow (h.sl j s e) z;rw [za] at e1;cases e1;exact ⟨f1,λw=>f2.2 (.inr w)⟩
def Ok.keep {K:PySem.W.Frag} {G:Gh} {H:Hp} {F:au->Prop} {σ:L2.St} {δ:Loc} {p:au} (h:Ok K (G.and p) F σ H δ):Ok K G F σ H δ :=
 ⟨h.same,h.fd,λb z=>h.rf b (.inl z),λb z=>h.rl b (.inl z),h.tf,h.tabs,h.len,λj s e=>(h.sl j s e).free (G:=G.and p) (G':=G) λb _ z=>⟨z.1,λw=>z.2 (Or.inl w)⟩,h.apart⟩
end
section
variable {K:PySem.W.Frag} {cx:Cl}
def wm (cx:Cl) (k:Nat) (tg:Tg) (ifs:Eo) (elt:E):D->Loc->Option (Option D × Loc):=λx δ0=>do
 let δ2 <- eB (δ0++aO k .no) tg x
 let (b,δ3) <- evG cx ifs δ2
 if b then do
  let (y,δ4) <- evE cx elt δ3
  return (some y,δ4.take δ0.length)
 else return (none,δ3.take δ0.length)
def Jc (ev:evE cx (.comp k tg src ifs elt) δ = some (d,δ')) :
 ∃ ds δ1 ys,evI cx src δ = some (ds,δ1)/\nB (wm cx k tg ifs elt) ds δ1 = some (ys,δ')/\ys.length<=sizeLine/\d = .lst ys:=by
 simp only [evE,ae,af] at ev;obtain ⟨⟨ds,δ1⟩,ea,⟨ys,δ2⟩,eb,ev⟩:=ev;split at ev
 . cases ev;exact ⟨ds,δ1,ys,ea,eb,‹_›,rfl⟩
 . cases ev
def BI (h:wm cx k tg ifs elt x δ0 = some (o,δ1)):∃ δ2 b δ3,eB (δ0++aO k .no) tg x = some δ2/\evG cx ifs δ2 = some (b,δ3) /\
 ((b = true/\∃ y δ4,evE cx elt δ3 = some (y,δ4)/\o = some y/\δ1 = δ4.take δ0.length)\/(b = false/\o = none/\δ1 = δ3.take δ0.length)):=by
 unfold wm at h;simp only [ae,af] at h;obtain ⟨δ2,e1,⟨b,δ3⟩,e2,h⟩:=h;refine ⟨δ2,b,δ3,e1,e2,?_⟩
 cases b with
 | true =>
   simp only [if_true,af] at h;obtain ⟨⟨y,δ4⟩,e3,h⟩:=h;cases h
   exact .inl ⟨rfl,y,δ4,e3,rfl,rfl⟩
 | false =>
   simp only [bq,if_false] at h;cases h;exact .inr ⟨rfl,rfl,rfl⟩
def yd (h:nB f (x::xs) δ = some (ys,δ')):∃ o δ1 zs,f x δ = some (o,δ1)/\nB f xs δ1 = some (zs,δ')/\ys = (match o with | some y=>y::zs | none=>zs):=by
 unfold nB at h;simp only [ae,af] at h;obtain ⟨⟨o,δ1⟩,e1,⟨zs,δ2⟩,e2,h⟩:=h;cases h;exact ⟨o,δ1,zs,e1,e2,rfl⟩
def Step.sub (h:Step G' F H F' H') (hs:∀ b,G.R b->G'.R b):Step G F H F' H':=⟨h.keep,h.grow,λb o r=>h.res b o (hs b r),h.tb⟩
def vY:∀ (ps:List (Nat × D)) (δ:Loc),(ps.foldl (λδ p=>δ.set p.1 (Sl.val p.2)) δ).length = δ.length:=by
 intro ps
 induction ps with
 | nil=>intro δ;rfl
 | cons a r ih=>intro δ;rw [lq,ih,cm]
def oj (es:eB δ tg d = some δ'):δ'.length = δ.length:=by
 unfold eB at es;split at es
 . split at es
   . cases es;rw [cm]
   . cases es
 . split at es
   . cases es;rw [vY]
   . cases es
 . split at es
   . cases es;rw [vY]
   . cases es
 . cases es
def uk {P:List D->(au->Prop)->L2.St->Hp->Prop} (wk:Wk K G F1 H1 J ds) (hs:∀ r F σ H,P r F σ H->Step G F1 H1 F H/\FD F H) (hm:∀ r F σ H H3,P r F σ H->iW H H3->P r F σ H3) (h0:P ds F0 σ0 H0)
 (turn:∀ d r F σ H x (N:L2.St->Hp->Prop),P (d::r) F σ H->Rel K H F d x->(∀ F4 σ4 H4,P r F4 σ4 H4->N σ4 H4)->g x σ H λσ2 H2=>tt σ2 H2 λb H3=>if b = true then tb σ2 H3 N else N σ2 H3)
 (fin:∀ F σ H,P [] F σ H->Q σ H):tLp J g tt tb σ0 H0 Q:=by
 refine ⟨λi m σc Hc=>m = ds.length - i/\i<=ds.length/\∃ F',P (ds.drop i) F' σc Hc,⟨ds.length,↥0,cT _,F0,h0⟩,?_⟩;rintro i m σc Hc ⟨rfl,hi,F',h⟩;obtain ⟨st,fd⟩:=hs _ _ _ _ h;by_cases hlt:i < ds.length
 . obtain ⟨go,yl⟩:=(wk F' Hc st fd i).1 ds[i] (aB hlt);refine .inr ⟨go,λx H3 hy=>?_⟩;obtain ⟨sm,rx⟩:=yl x H3 hy;rw [uR hlt] at h;exact turn _ _ _ _ _ x _ (hm _ _ _ _ _ h sm) rx λF4 σ4 H4 z=>⟨_,∅,rfl,hlt,F4,z⟩
 . obtain rfl:i = ds.length:=by lia
   rw [GK] at h;exact .inl ⟨(wk F' Hc st fd ds.length).2 rfl,fin _ _ _ h⟩
def Step.new {o:HO} (s:Step G F1 H1 F8 H8) (hp:H1 p = none):Step G F1 H1 F8 (upd H8 p o):=by
 refine ⟨λb o t e nf=>?_,s.grow,λb o r f e=>?_,λb ps e=>?_⟩
 . rw [bx (λw:b = p=>by rw [w,hp] at e;cases e)];exact s.keep b o t e nf
 . obtain ⟨a1,a2⟩:=s.res b o r f e;refine ⟨a1,?_⟩;rw [bx (λw:b = p=>by rw [w,hp] at e;cases e)];exact a2
 . rw [bx (λw:b = p=>by rw [w,hp] at e;cases e)];exact s.tb b ps e
def Sim.new {o:HO} (s:Sim H1 H8) (hp:H1 p = none):Sim H1 (upd H8 p o):=by
 refine ⟨λb o t e=>?_,λb ps e=>?_⟩
 . rw [bx (λw:b = p=>by rw [w,hp] at e;cases e)];exact s.nt b o t e
 . rw [bx (λw:b = p=>by rw [w,hp] at e;cases e)];exact s.tb b ps e
def yc (n:(!bM elt) = true) (hge:lZ σ.length tg = true)
 (ok1:Ok K G F1 σ H1 δ1) (wk:Wk K G F1 H1 J ds) (hp:H1 p = none) (ev:nB (wm cx k tg ifs elt) ds δ1 = some (ys,δ2)) (hz:ys.length<=sizeLine)
 (q:∀ σ' H2 F2 xs,Ok K (G.and p) F2 σ H2 δ2->H2 p = some (.lst xs)->aN K H2 F2 ys xs->Step G F1 H1 F2 H2->((npO ifs && np elt) = true->Sim H1 H2)->Q σ' H2) :
 tLp J (gTg K tg) (tG K cx ifs) (Ds p (tE K cx elt)) (σ++aO k none) (upd H1 p (.lst [])) Q:=by
 have hg:=ok1.free hp;obtain ⟨ok2,st2⟩:=ok1.enter hp [];have hFs:∀ b,G.R b->(G.and p).R b:=λb z=>.inl z
 refine uk (P:=λr F' σc Hc=>∃ δi zs xs yi,(∃ tl:L2.St,σc = σ++tl/\tl.length = k)/\Ok K (G.and p) F' σ Hc δi/\nB (wm cx k tg ifs elt) r δi = some (zs,δ2)/\yi++zs = ys/\Hc p = some (.lst xs)/\aN K Hc F' yi xs/\Step G F1 H1 F' Hc /\
  ((npO ifs && np elt) = true->Sim H1 Hc)) wk (λr F σ H z=>by obtain ⟨_,_,_,_,_,ok,_,_,_,_,st,_⟩:=z;exact ⟨st,ok.fd⟩) (λr F σ H H3 z sm=>by obtain ⟨a1,a2,a3,a4,a5,ok,a6,a7,a8,a9,st,s⟩:=z;exact ⟨a1,a2,a3,a4,a5,ok.same' sm,a6,a7,sm _ _ a8,aN.step ok.fd (Step.of_same (G:=G) sm) _ _ a9,st.trans (.of_same sm),λq=>(s q).trans (.of sm)⟩) (F0:=λb=>F1 b\/b = p) ⟨δ1,ys,[],[],⟨_,rfl,↥0⟩,ok2,ev,rfl,bN,aN.nil,st2,λ_=>.of (cn hp _)⟩ ?_ ?_
 . rintro d r F' _ H3 x N ⟨δi,zs,xs,yi,⟨tl,rfl,htl⟩,ok,el,ey,eD,rl,st,sm⟩ rx hN;have hF:F' p:=ok.rf p (.inr rfl);obtain ⟨o,δ5,zs',ef,el',ez⟩:=yd el;obtain ⟨δ6,b,δ7,es,eg,alt⟩:=BI ef;have okx:Ok K (G.and p) F' (σ++tl) H3 (δi++aO k .no):=by rw [<- htl];exact ok.ext tl
   refine mO okx rx es λσ2 ok6 htake=>?_;have t2:σ2.take σ.length = σ:=by rw [htake _ hge,Js];rfl
   have l2:σ2.length = σ.length+k:=by
    have a1:=okx.len;have a2:=ok6.len;have e1:=oj es;have e2:(σ++tl).length = σ.length+k:=by rw [ag,htl]
    lia
   have dl:δi.length = σ.length:=ok.len
   have tail:∃ tl':L2.St,σ2 = σ++tl'/\tl'.length = k:=by
    refine ⟨σ2.drop σ.length,?_,by rw [kG];lia⟩
    conv=>lhs;rw [<- yy σ.length σ2,t2]
   refine ⟨G.and p,F',δ6,b,δ7,ok6,eg,λH7 F7 st7 sm7 ok7=>?_⟩;have keepD:∀ {F8:au->Prop} {H8:Hp},Step (G.and p) F' H3 F8 H8->H8 p = some (.lst xs):=λs8=>(s8.res p _ (.inr rfl) hF eD).2;rcases alt with ⟨rfl,y,δ8,ee,rfl,rfl⟩ | ⟨rfl,rfl,rfl⟩
   . refine By ?_;refine ⟨G.and p,F7,δ7,y,δ8,ok7,ee,λu H8 F8 st8 sm8 ok8 r8=>?_⟩;have s78:=st7.trans st8;have eD8:=keepD s78;have ry:=eH n r8;have rl8:aN K H8 F8 yi xs:=aN.step ok.fd s78 yi xs rl;have hF8:F8 p:=ok8.rf p (.inr rfl);have pk:Step g0 F8 H8 F8 (upd H8 p (.lst (xs++[u]))):=⟨λb o _ e nf=>by rw [bx (λz:b = p=>nf (by rw [z];exact hF8))];exact e,λb z=>.inl z,λ_ _ r _ _=>r.elim,λb ps e=>⟨ps,by rw [bx (λw:b = p=>by rw [w,eD8] at e;cases e)];exact e⟩⟩;subst ez
     have hyl:yi.length < sizeLine:=by
      have:=congrArg iA ey;rw [ag] at this;simp only [aw] at this
      lia
     refine ⟨xs,eD8,by rw [rl8.length];exact hyl,hN F8 _ _ ⟨δ8.take δi.length,zs',xs++[u],yi++[y],tail,?_,el',by rw [cz];exact ey,bN,?_,?_,λz=>?_⟩⟩
     . have:=(ok8.poke hg eD8 (xs++[u])).cut δi.length;rw [dl,t2] at this;rw [dl];exact this
     . exact aN.step ok8.fd pk _ _ (rl8.append (aN.one ry))
     . exact (st.trans (s78.sub hFs)).new hp
     . have z':=z;rw [aa] at z';exact (((sm z).trans (sm7 z'.1)).trans (sm8 z'.2)).new hp
   . refine xX ?_;subst ez;refine hN F7 _ _ ⟨δ7.take δi.length,_,xs,yi,tail,?_,el',ey,keepD st7,aN.step ok.fd st7 yi xs rl,st.trans (st7.sub hFs),λz=>?_⟩
     . have:=ok7.cut δi.length;rw [dl,t2] at this;rw [dl];exact this
     . have z':=z;rw [aa] at z';exact (sm z).trans (sm7 z'.1)
 . rintro F' _ Hc ⟨δi,zs,xs,yi,_,ok,el,ey,eD,rl,st,sm⟩;cases el;rw [aY] at ey;subst ey;exact q _ Hc F' xs ok eD rl st sm
end
end PP
end
section
namespace PP
open PySem
section
variable (cx:Cl)
def wE (e:E) (δ:Loc) (Q:D->Loc->Prop):Prop:=∃ d δ',evE cx e δ = some (d,δ')/\Q d δ'
def wT (e:E) (δ:Loc) (Q:Bool->Loc->Prop):Prop:=∃ d δ',evT cx e δ = some (d,δ')/\Q d δ'
def wEs (e:Es) (δ:Loc) (Q:List D->Loc->Prop):Prop:=∃ d δ',dH cx e δ = some (d,δ')/\Q d δ'
def wO (e:Eo) (δ:Loc) (Q:Option Int->Loc->Prop):Prop:=∃ d δ',evO cx e δ = some (d,δ')/\Q d δ'
def wG (e:Eo) (δ:Loc) (Q:Bool->Loc->Prop):Prop:=∃ d δ',evG cx e δ = some (d,δ')/\Q d δ'
def wI (e:It) (δ:Loc) (Q:List D->Loc->Prop):Prop:=∃ d δ',evI cx e δ = some (d,δ')/\Q d δ'
def wS (s:S) (δ:Loc) (Q:Out->Prop):Prop:=∃ o,evS cx s δ = some o/\Q o
def wSs (s:Ss) (δ:Loc) (Q:Out->Prop):Prop:=∃ o,dG cx s δ = some o/\Q o
def wTg (δ:Loc) (tg:Tg) (d:D) (Q:Loc->Prop):Prop:=∃ δ',eB δ tg d = some δ'/\Q δ'
def wOp (op:Op) (x y:D) (Q:D->Prop):Prop:=∃ z,opD op x y = some z/\Q z
def nX (op:Cop) (x y:D) (Q:Bool->Prop):Prop:=∃ z,kX op x y = some z/\Q z
def rz (f:Blt) (ds:List D) (Q:D->Prop):Prop:=∃ z,ky f ds = some z/\Q z
def mN (f:Nat) (ds:List D) (Q:D->Prop):Prop:=∃ z,cx.call f ds = some z/\Q z
def sY (δ:Loc) (i:Nat) (Q:D->Prop):Prop:=∃ z,PP.get δ i = some z/\Q z
def wIx (x y:D) (Q:D->Prop):Prop:=∃ z,ixD x y = some z/\Q z
def wSl (x:D) (lo hi:Option Int) (Q:D->Prop):Prop:=∃ z,slD x lo hi = some z/\Q z
def wTv (x:D) (Q:Bool->Prop):Prop:=∃ z,tv x = some z/\Q z
def wItems (x:D) (Q:List D->Prop):Prop:=∃ z,items x = some z/\Q z
def NP (k:Nat) (tg:Tg) (ifs:Eo) (elt:E):D->Loc->Option (Option D × Loc):=λx δ0=>do
 let δ2 <- eB (δ0++aO k .no) tg x
 let (b,δ3) <- evG cx ifs δ2
 if b then do
  let (y,δ4) <- evE cx elt δ3
  return (some y,δ4.take δ0.length)
 else return (none,δ3.take δ0.length)
def lQ (k:Nat) (tg:Tg) (ifs:Eo) (elt:E) (ds:List D) (δ:Loc) (Q:List D->Loc->Prop):Prop:=∃ ys δ',nB (NP cx k tg ifs elt) ds δ = some (ys,δ')/\Q ys δ'
def Pj (tg:Tg) (body:Ss):D->Loc->Option Out:=λx δ0=>match eB δ0 tg x with
 | some δ2=>dG cx body δ2
 | none=>none
def vc (tg:Tg) (body:Ss) (ds:List D) (δ:Loc) (Q:Out->Prop):Prop:=∃ o,forL (Pj cx tg body) ds δ = some o/\Q o
def qa (c:E) (body:Ss) (n:Nat) (δ:Loc) (Q:Out->Prop):Prop:=∃ o,lY (λδ0=>evT cx c δ0) (λδ0=>dG cx body δ0) n δ = some o/\Q o
end
section
variable {α β γ:Type} {P P':α->Loc->Prop} {R R':α->Prop} {Q:β->Loc->Prop} {S:γ->Prop} {o:Option (α × Loc)} {u:Option α} {f:α × Loc->Option (β × Loc)} {g:α->Option (β × Loc)} {f':α × Loc->Option γ} {g':α->Option γ} {d:β} {r:γ} {δ:Loc} {c:Prop} [Decidable c]
def yb:(∃ r,o.bind f' = some r/\S r)↔∃ x δ1,o = some (x,δ1)/\∃ r,f' (x,δ1) = some r/\S r:=by
 cases o with
 | none=>exact ⟨λ⟨_,e,_⟩=>(by cases e),λ⟨_,_,e,_⟩=>(by cases e)⟩
 | some p=>exact ⟨λh=>⟨p.1,p.2,rfl,h⟩,λ⟨_,_,e,h⟩=>by cases e;exact h⟩
def yqs:(∃ r,u.bind g' = some r/\S r)↔∃ x,u = some x/\∃ r,g' x = some r/\S r:=by
 cases u with
 | none=>exact ⟨λ⟨_,e,_⟩=>(by cases e),λ⟨_,e,_⟩=>(by cases e)⟩
 | some p=>exact ⟨λh=>⟨p,rfl,h⟩,λ⟨_,e,h⟩=>by cases e;exact h⟩
def yr:(∃ r',some r = some r'/\S r')↔S r:=⟨λ⟨_,e,h⟩=>(by cases e;exact h),λh=>⟨_,rfl,h⟩⟩
def yi:(∃ r',(if c then some r else none) = some r'/\S r')↔c/\S r:=by
 by_cases h:c
 . rw [if_pos h];exact yr.trans ⟨λq=>⟨h,q⟩,λq=>q.2⟩
 . rw [if_neg h];exact ⟨λ⟨_,e,_⟩=>(by cases e),λq=>absurd q.1 h⟩
def yn {A:Prop} (h:¬ A):(∃ r',(none:Option γ) = some r'/\S r')↔A:=⟨λ⟨_,e,_⟩=>(by cases e),λq=>absurd q h⟩
def xq {o:Option (β × Loc)}:(∃ d δ',o = some (d,δ')/\Q d δ')↔∃ r,o = some r/\Q r.1 r.2:=⟨λ⟨_,_,e,q⟩=>⟨_,e,q⟩,λ⟨r,e,q⟩=>⟨r.1,r.2,e,q⟩⟩
def xb:(∃ d δ',o.bind f = some (d,δ')/\Q d δ')↔∃ x δ1,o = some (x,δ1)/\∃ d δ',f (x,δ1) = some (d,δ')/\Q d δ':=xq.trans (yb.trans ⟨λ⟨x,y,e,h⟩=>⟨x,y,e,xq.mpr h⟩,λ⟨x,y,e,h⟩=>⟨x,y,e,xq.mp h⟩⟩)
def x1:(∃ d δ',u.bind g = some (d,δ')/\Q d δ')↔∃ x,u = some x/\∃ d δ',g x = some (d,δ')/\Q d δ':=xq.trans (yqs.trans ⟨λ⟨x,e,h⟩=>⟨x,e,xq.mpr h⟩,λ⟨x,e,h⟩=>⟨x,e,xq.mp h⟩⟩)
def xr:(∃ d' δ',some (d,δ) = some (d',δ')/\Q d' δ')↔Q d δ:=xq.trans yr
def xi:(∃ d' δ',(if c then some (d,δ) else none) = some (d',δ')/\Q d' δ')↔c/\Q d δ:=xq.trans yi
def xn {A:Prop} (h:¬ A):(∃ d' δ',(none:Option (β × Loc)) = some (d',δ')/\Q d' δ')↔A:=xq.trans (yn h)
def xc (h:∀ x δ,P x δ↔P' x δ):(∃ x δ1,o = some (x,δ1)/\P x δ1)↔∃ x δ1,o = some (x,δ1)/\P' x δ1:=⟨λ⟨x,δ,e,p⟩=>⟨x,δ,e,(h x δ).mp p⟩,λ⟨x,δ,e,p⟩=>⟨x,δ,e,(h x δ).mpr p⟩⟩
def xd (h:∀ x,R x↔R' x):(∃ x,u = some x/\R x)↔∃ x,u = some x/\R' x:=⟨λ⟨x,e,p⟩=>⟨x,e,(h x).mp p⟩,λ⟨x,e,p⟩=>⟨x,e,(h x).mpr p⟩⟩
end
def zI {b:Int} {P:Int->Prop}:(∃ k,D.int b = D.int k/\P k)↔P b:=⟨λ⟨_,e,q⟩=>by cases e;exact q,λq=>⟨_,rfl,q⟩⟩
def Pn {b:Str} {P:Str->Prop}:(∃ k,D.str b = D.str k/\P k)↔P b:=⟨λ⟨_,e,q⟩=>by cases e;exact q,λq=>⟨_,rfl,q⟩⟩
def zG {b:List D} {P:List D->Prop}:(∃ k,D.lst b = D.lst k/\P k)↔P b:=⟨λ⟨_,e,q⟩=>by cases e;exact q,λq=>⟨_,rfl,q⟩⟩
section
variable {cx:Cl} {δ:Loc}
def Kt {i:Nat} {Q:D->Loc->Prop}:wE cx (.var i) δ Q↔∃ d,FC δ i = some d/\Q d (demote δ i):=x1.trans (xd λ_=>xr)
def NL {i:Nat} {Q:D->Loc->Prop}:wE cx (.pk i) δ Q↔sY δ i λd=>Q d δ:=x1.trans (xd λ_=>xr)
def Hb {i:Nat} {Q:D->Loc->Prop}:wE cx (.glob i) δ Q↔∃ d,cx.gl[i]? = some d/\Q d δ:=x1.trans (xd λ_=>xr)
def Kz {i:Int} {Q:D->Loc->Prop}:wE cx (.int i) δ Q↔Q (.int i) δ:=xr
def Kv {i:Str} {Q:D->Loc->Prop}:wE cx (.str i) δ Q↔Q (.str i) δ:=xr
def KD {op:Op} {a b:E} {Q:D->Loc->Prop}:wE cx (.bin op a b) δ Q↔wE cx a δ λx δ1=>wE cx b δ1 λy δ2=>wOp op x y λz=>Q z δ2:=xb.trans (xc λ_ _=>xb.trans (xc λ_ _=>x1.trans (xd λ_=>xr)))
def KA {op:Cop} {a b:E} {Q:D->Loc->Prop}:wE cx (.cmp op a b) δ Q↔wE cx a δ λx δ1=>wE cx b δ1 λy δ2=>nX op x y λz=>Q (.bl z) δ2:=xb.trans (xc λ_ _=>xb.trans (xc λ_ _=>x1.trans (xd λ_=>xr)))
def Kk {op:Cop} {a b:E} {Q:Bool->Loc->Prop}:wT cx (.cmp op a b) δ Q↔wE cx a δ λx δ1=>wE cx b δ1 λy δ2=>nX op x y λz=>Q z δ2:=xb.trans (xc λ_ _=>xb.trans (xc λ_ _=>x1.trans (xd λ_=>xr)))
def Kw {a:E} {Q:D->Loc->Prop}:wE cx (.neg a) δ Q↔wE cx a δ λx δ1=>∃ i,x = .int i/\Q (.int (-i)) δ1:=xb.trans (xc λx _=>by
 cases x with
 | int k=>refine Iff.trans ?_ zI.symm;exact xr
 | _=>exact xn λ⟨_,e,_⟩=>by cases e)
def Kl {a b:E} {Q:Bool->Loc->Prop}:wT cx (.and a b) δ Q↔wT cx a δ λk δ1=>if k = true then wT cx b δ1 Q else Q false δ1:=xb.trans (xc λk _=>by cases k;exact xr;exact bL)
def NG {a b:E} {Q:Bool->Loc->Prop}:wT cx (.or a b) δ Q↔wT cx a δ λk δ1=>if k = true then Q true δ1 else wT cx b δ1 Q:=xb.trans (xc λk _=>by cases k;exact bL;exact xr)
def Kj {a:E} {Q:Bool->Loc->Prop}:wT cx (.not a) δ Q↔wT cx a δ λk δ1=>Q (!k) δ1:=xb.trans (xc λ_ _=>xr)
def Ki {i:Nat} {Q:Bool->Loc->Prop}:wT cx (.var i) δ Q↔sY δ i λd=>wTv d λb=>Q b δ:=x1.trans (xd λ_=>x1.trans (xd λ_=>xr))
def GU {f:Nat} {es:Es} {Q:Bool->Loc->Prop}:wT cx (.call f es) δ Q↔wEs cx es δ λds δ1=>mN cx f ds λd=>wTv d λb=>Q b δ1:=xb.trans (xc λ_ _=>x1.trans (xd λ_=>x1.trans (xd λ_=>xr)))
def Ky {c a b:E} {Q:D->Loc->Prop}:wE cx (.ite c a b) δ Q↔wT cx c δ λk δ1=>if k = true then wE cx a δ1 Q else wE cx b δ1 Q:=xb.trans (xc λk _=>by cases k<;>exact bL)
def Ku {es:Es} {Q:D->Loc->Prop}:wE cx (.tup es) δ Q↔wEs cx es δ λds δ1=>ds.length<=sizeLine/\Q (.tup ds) δ1:=xb.trans (xc λ_ _=>xi)
def Kx {es:Es} {Q:D->Loc->Prop}:wE cx (.lst es) δ Q↔wEs cx es δ λds δ1=>ds.length<=sizeLine/\Q (.lst ds) δ1:=xb.trans (xc λ_ _=>xi)
def NM {a b:E} {Q:D->Loc->Prop}:wE cx (.ix a b) δ Q↔wE cx a δ λx δ1=>wE cx b δ1 λy δ2=>wIx x y λz=>Q z δ2:=xb.trans (xc λ_ _=>xb.trans (xc λ_ _=>x1.trans (xd λ_=>xr)))
def NK {a:E} {lo hi:Eo} {Q:D->Loc->Prop}:wE cx (.sl a lo hi) δ Q↔wE cx a δ λx δ1=>wO cx lo δ1 λl δ2=>wO cx hi δ2 λh δ3=>wSl x l h λz=>Q z δ3:=xb.trans (xc λ_ _=>xb.trans (xc λ_ _=>xb.trans (xc λ_ _=>x1.trans (xd λ_=>xr))))
def mM {f:Nat} {es:Es} {Q:D->Loc->Prop}:wE cx (.call f es) δ Q↔wEs cx es δ λds δ1=>mN cx f ds λz=>Q z δ1:=xb.trans (xc λ_ _=>x1.trans (xd λ_=>xr))
def KC {f:Blt} {es:Es} {Q:D->Loc->Prop}:wE cx (.blt f es) δ Q↔wEs cx es δ λds δ1=>rz f ds λz=>Q z δ1:=xb.trans (xc λ_ _=>x1.trans (xd λ_=>xr))
def vd {i:Nat} {Q:D->Loc->Prop}:wE cx (.isdig i) δ Q↔sY δ i λd=>∃ x,d = .str x/\Q (.bl (decide (x.length > 0) && x.cps.all dn)) δ:=x1.trans (xd λx=>by
 cases x with
 | str k=>refine Iff.trans ?_ Pn.symm;exact xr
 | _=>exact xn λ⟨_,e,_⟩=>by cases e)
def GZ {Q:List D->Loc->Prop}:wEs cx .nil δ Q↔Q [] δ:=xr
def CY {e:E} {es:Es} {Q:List D->Loc->Prop}:wEs cx (.cons e es) δ Q↔wE cx e δ λx δ1=>wEs cx es δ1 λxs δ2=>Q (x::xs) δ2:=xb.trans (xc λ_ _=>xb.trans (xc λ_ _=>xr))
def NH {Q:Option Int->Loc->Prop}:wO cx .no δ Q↔Q none δ:=xr
def Kq {e:E} {Q:Option Int->Loc->Prop}:wO cx (.yes e) δ Q↔wE cx e δ λx δ1=>∃ i,x = .int i/\Q (some i) δ1:=xb.trans (xc λx _=>by
 cases x with
 | int k=>refine Iff.trans ?_ zI.symm;exact xr
 | _=>exact xn λ⟨_,e,_⟩=>by cases e)
def NJ {Q:Bool->Loc->Prop}:wG cx .no δ Q↔Q true δ:=xr
def Ks {e:E} {Q:Bool->Loc->Prop}:wG cx (.yes e) δ Q↔wT cx e δ Q:=bL
def Kr {e:E} {Q:List D->Loc->Prop}:wI cx (.rng e) δ Q↔wE cx e δ λx δ1=>∃ j,x = .int j/\(-(2 ^ 62)<=j/\j < 2 ^ 62)/\Q (om 0 j.toNat) δ1:=xb.trans (xc λx _=>by
 cases x with
 | int k=>refine Iff.trans ?_ zI.symm;exact xi
 | _=>exact xn λ⟨_,e,_⟩=>by cases e)
def NI {e:E} {Q:List D->Loc->Prop}:wI cx (.sq e) δ Q↔wE cx e δ λx δ1=>wItems x λds=>Q ds δ1:=xb.trans (xc λ_ _=>x1.trans (xd λ_=>xr))
def tq {k:Nat} {tg:Tg} {src:It} {ifs:Eo} {elt:E} {Q:D->Loc->Prop}:wE cx (.comp k tg src ifs elt) δ Q↔wI cx src δ λds δ1=>lQ cx k tg ifs elt ds δ1 λys δ2=>ys.length<=sizeLine/\Q (.lst ys) δ2:=xb.trans (xc λ_ _=>xb.trans (xc λ_ _=>xi))
def fX {k:Nat} {tg:Tg} {ifs:Eo} {elt:E} {Q:List D->Loc->Prop}:lQ cx k tg ifs elt [] δ Q↔Q [] δ:=xr
def fb {k:Nat} {tg:Tg} {ifs:Eo} {elt:E} {x:D} {xs:List D} {Q:List D->Loc->Prop}:lQ cx k tg ifs elt (x::xs) δ Q↔wTg (δ++aO k .no) tg x λδ2=>wG cx ifs δ2 λb δ3 =>
 if b = true then wE cx elt δ3 λy δ4=>lQ cx k tg ifs elt xs (δ4.take δ.length) λys δ5=>Q (y::ys) δ5 else lQ cx k tg ifs elt xs (δ3.take δ.length) Q:=xb.trans (x1.trans (xd λ_=>xb.trans (xc λb _=>by cases b;exact xr.trans (xb.trans (xc λ_ _=>xr));exact xb.trans (xc λ_ _=>xr.trans (xb.trans (xc λ_ _=>xr))))))
end
section
variable (cx:Cl)
def vh (ss:Ss) (Q:Out->Prop):Out->Prop
 | .nx δ=>wSs cx ss δ Q
 | .rt d δ=>Q (.rt d δ)
 | .ro d δ=>Q (.ro d δ)
end
def sC (next:Loc->Prop) (Q:Out->Prop):Out->Prop
 | .nx δ=>next δ
 | .rt d δ=>Q (.rt d δ)
 | .ro d δ=>Q (.ro d δ)
def rm (δ:Loc) (i:Nat) (s:Sl) (Q:Loc->Prop):Prop:=i < δ.length/\Q (δ.set i s)
def As (pre δ:Loc) (i:Nat) (s:Sl) (Q:Loc->Prop):Prop:=i < δ.length/\Q (pre.reverse++δ.set i s)
def Kp (δ:Loc) (i:Nat) (s:Sl) (Q:Loc->Prop):Prop:=Q (δ.set i s)
def rP (pre δ:Loc) (i:Nat) (s:Sl) (Q:Loc->Prop):Prop:=Q (pre.reverse++δ.set i s)
def va (pre δ:Loc) (Q:Loc->Prop):Prop:=Q (pre.reverse++δ)
def Av (δ0:Loc) (j:Nat) (δ:Loc) (i:Nat) (Q:D->Loc->Prop):Prop:=match δ[i]? with
 | some (.val d)=>Q d δ0
 | some (.own ds)=>Q (.lst ds) (δ0.set j (.val (.lst ds)))
 | _=>False
def rq (δ:Loc) (i:Nat) (Q:List D->Prop):Prop:=match δ[i]? with
 | some (.own ds)=>Q ds
 | _=>False
def Cz (δ:Loc) (i:Nat) (Q:D->Prop):Prop:=match δ[i]? with
 | some (.val d)=>Q d
 | _=>False
section
variable {cx:Cl} {δ pre:Loc}
def vg {ss:Ss} {Q:Out->Prop}:vh cx ss Q (.nx δ)↔wSs cx ss δ Q:=bL
def Dr {ss:Ss} {Q:Out->Prop} {d:D}:vh cx ss Q (.rt d δ)↔Q (.rt d δ):=bL
def Fg {n:Loc->Prop} {Q:Out->Prop}:sC n Q (.nx δ)↔n δ:=bL
def Ff {n:Loc->Prop} {Q:Out->Prop} {d:D}:sC n Q (.rt d δ)↔Q (.rt d δ):=bL
def CB {i:Nat} {s:Sl} {Q:Loc->Prop}:rm δ i s Q↔As [] δ i s Q:=bL
def Ar {i:Nat} {s t:Sl} {Q:Loc->Prop}:As pre (t::δ) (i+1) s Q↔As (t::pre) δ i s Q:=by simp [As]
def Aq {s t:Sl} {Q:Loc->Prop}:As pre (t::δ) 0 s Q↔va pre (s::δ) Q:=by simp [As,va]
def CF {i:Nat} {s:Sl} {Q:Loc->Prop}:Kp δ i s Q↔rP [] δ i s Q:=bL
def xo {i:Nat} {s t:Sl} {Q:Loc->Prop}:rP pre (t::δ) (i+1) s Q↔rP (t::pre) δ i s Q:=by simp [rP]
def xm {s t:Sl} {Q:Loc->Prop}:rP pre (t::δ) 0 s Q↔va pre (s::δ) Q:=by simp [rP,va]
def Ay {t:Sl} {Q:Loc->Prop}:va (t::pre) δ Q↔va pre (t::δ) Q:=by simp [va]
def CD {Q:Loc->Prop}:va [] δ Q↔Q δ:=bL
def Au {δ0:Loc} {i j:Nat} {t:Sl} {Q:D->Loc->Prop}:Av δ0 j (t::δ) (i+1) Q↔Av δ0 j δ i Q:=bL
def Cv {δ0:Loc} {j:Nat} {d:D} {Q:D->Loc->Prop}:Av δ0 j (.val d::δ) 0 Q↔Q d δ0:=bL
def Cw {δ0:Loc} {j:Nat} {ds:List D} {Q:D->Loc->Prop}:Av δ0 j (.own ds::δ) 0 Q↔Kp δ0 j (.val (.lst ds)) λδ1=>Q (.lst ds) δ1:=bL
def AB {i:Nat} {t:Sl} {Q:D->Prop}:sY (t::δ) (i+1) Q↔sY δ i Q:=bL
def CU {d:D} {Q:D->Prop}:sY (.val d::δ) 0 Q↔Q d:=yr
def CV {ds:List D} {Q:D->Prop}:sY (.own ds::δ) 0 Q↔Q (.lst ds):=yr
def Az {i:Nat} {t:Sl} {Q:List D->Prop}:rq (t::δ) (i+1) Q↔rq δ i Q:=bL
def CG {ds:List D} {Q:List D->Prop}:rq (.own ds::δ) 0 Q↔Q ds:=bL
def Aw {i:Nat} {t:Sl} {Q:D->Prop}:Cz (t::δ) (i+1) Q↔Cz δ i Q:=bL
def Cy {d:D} {Q:D->Prop}:Cz (.val d::δ) 0 Q↔Q d:=bL
def Ha {i:Nat} {Q:D->Loc->Prop}:wE cx (.var i) δ Q↔Av δ i δ i Q:=by
 rw [Kt];unfold FC Av PP.get demote
 cases h:δ[i]? with
 | none=>simp
 | some s=>cases s<;>simp
def je {Q:Out->Prop}:wSs cx .nil δ Q↔Q (.nx δ):=yr
def bR {s:S} {ss:Ss} {Q:Out->Prop}:wSs cx (.cons s ss) δ Q↔wS cx s δ (vh cx ss Q):=by
 unfold wSs wS;simp only [dG]
 cases evS cx s δ with
 | none=>exact yn (λ⟨_,e,_⟩=>by cases e)
 | some o =>
   refine Iff.trans ?_ yr.symm
   cases o with
   | nx δ1=>exact bL
   | _=>exact yr
def xl {tg:Tg} {e:E} {Q:Out->Prop}:wS cx (.asg tg e) δ Q↔wE cx e δ λd δ1=>wTg δ1 tg d λδ2=>Q (.nx δ2):=yb.trans (xc λ_ _=>yqs.trans (xd λ_=>yr))
def Kh {i:Nat} {d:D} {Q:Loc->Prop}:wTg δ (.nm i) d Q↔rm δ i (.val d) Q:=yi
def Kg {is:List Nat} {ds:List D} {Q:Loc->Prop}:wTg δ (.tp is) (.tup ds) Q↔(is.length = ds.length/\is.all (· < δ.length) = true)/\Q ((is.zip ds).foldl (λδ p=>δ.set p.1 (.val p.2)) δ):=yi
def Km {i:Nat} {e:E} {Q:Out->Prop}:wS cx (.new i e) δ Q↔wE cx e δ λd δ1=>∃ ds,d = .lst ds/\rm δ1 i (.own ds) λδ2=>Q (.nx δ2):=yb.trans (xc λx _=>by
 cases x with
 | lst k=>refine Iff.trans ?_ zG.symm;exact yi
 | _=>exact yn λ⟨_,e,_⟩=>by cases e)
def Ko {own:Bool} {i:Nat} {e:E} {Q:Out->Prop}:wS cx (.cmp own i e) δ Q↔wE cx e δ λd δ1=>∃ ds,d = .lst ds/\rm δ1 i (bif own then .own ds else .val (.lst ds)) λδ2=>Q (.nx δ2):=yb.trans (xc λx _=>by
 cases x with
 | lst k=>refine Iff.trans ?_ zG.symm;cases own<;>exact yi
 | _=>exact yn λ⟨_,e,_⟩=>by cases e)
def yC {i:Nat} {e:E} {Q:Out->Prop}:wS cx (.cmp false i e) δ Q↔wE cx e δ λd δ1=>∃ ds,d = .lst ds/\rm δ1 i (.val (.lst ds)) λδ2=>Q (.nx δ2):=Ko
def KH (x y:D) (Q:D->Prop):Prop:=∃ z,BP x y = some z/\Q z
def KG {a b:Int} {Q:D->Prop}:KH (.int a) (.int b) Q↔Q (.int (a+b)):=yr
def GW {i:Nat} {e:E} {Q:Out->Prop}:wS cx (.aug i .add e) δ Q↔Cz δ i λx=>wE cx e δ λy δ1=>KH x y λz=>Kp δ1 i (.val z) λδ2=>Q (.nx δ2):=by
 unfold wS Cz;simp only [evS]
 cases δ[i]? with
 | none=>exact yn id
 | some s =>
   cases s with
   | val x =>
     refine yb.trans (xc λy δ1=>?_);show (∃ o,(BP x y).map _ = some o/\Q o)↔_;unfold KH
     cases BP x y with
     | none=>exact yn λ⟨_,e,_⟩=>by cases e
     | some z=>exact yr.trans ⟨λq=>⟨z,rfl,q⟩,λ⟨_,e,q⟩=>by cases e;exact q⟩
   | _=>exact yn id
def xh {e:E} {Q:Out->Prop}:wS cx (.ret e) δ Q↔wE cx e δ λd δ1=>Q (.rt d δ1):=yb.trans (xc λ_ _=>yr)
def xj {c:E} {a b:Ss} {Q:Out->Prop}:wS cx (.ifs c a b) δ Q↔wT cx c δ λk δ1=>if k = true then wSs cx a δ1 Q else wSs cx b δ1 Q:=yb.trans (xc λk _=>by cases k<;>exact bL)
def xk {tg:Tg} {src:It} {body:Ss} {Q:Out->Prop}:wS cx (.for_ tg src body) δ Q↔wI cx src δ λds δ1=>vc cx tg body ds δ1 Q:=yb.trans (xc λ_ _=>bL)
def CC {c:E} {body:Ss} {Q:Out->Prop}:wS cx (.while_ c body) δ Q↔qa cx c body 1000 δ Q:=bL
def rO {i:Nat} {e:E} {Q:Out->Prop}:wS cx (.append i e) δ Q↔rq δ i λ_=>wE cx e δ λd δ1=>rq δ1 i λds=>ds.length < sizeLine/\rm δ1 i (.own (ds++[d])) λδ2=>Q (.nx δ2):=by
 unfold wS rq;simp only [evS]
 cases δ[i]? with
 | none=>exact yn id
 | some s =>
   cases s with
   | own ds0 =>
     refine yb.trans (xc λd δ1=>?_);dsimp only
     cases h1:δ1[i]? with
     | none=>exact yn id
     | some s =>
       cases s with
       | own ds=>exact yi.trans ⟨λq=>⟨q.1,(aF.mp h1).1,q.2⟩,λq=>⟨q.1,q.2.2⟩⟩
       | _=>exact yn id
   | _=>exact yn id
def Ax {i:Nat} {e:E} {Q:Out->Prop}:wS cx (.extend i e) δ Q↔rq δ i λ_=>wE cx e δ λd δ1=>∃ ys,d = .lst ys/\rq δ1 i λds=>ds.length+ys.length<=sizeLine/\rm δ1 i (.own (ds++ys)) λδ2=>Q (.nx δ2):=by
 unfold wS rq;simp only [evS]
 cases δ[i]? with
 | none=>exact yn id
 | some s =>
   cases s with
   | own ds0 =>
     refine yb.trans (xc λd δ1=>?_)
     cases d with
     | lst ys =>
       refine Iff.trans ?_ zG.symm;dsimp only
       cases h1:δ1[i]? with
       | none=>exact yn id
       | some s =>
         cases s with
         | own ds=>exact yi.trans ⟨λq=>⟨q.1,(aF.mp h1).1,q.2⟩,λq=>⟨q.1,q.2.2⟩⟩
         | _=>exact yn id
     | _=>exact yn λ⟨_,e,_⟩=>by cases e
   | _=>exact yn id
def jw {tg:Tg} {body:Ss} {Q:Out->Prop}:vc cx tg body [] δ Q↔Q (.nx δ):=yr
def iI {tg:Tg} {body:Ss} {x:D} {xs:List D} {Q:Out->Prop}:vc cx tg body (x::xs) δ Q↔wTg δ tg x λδ2=>wSs cx body δ2 (sC (λδ3=>vc cx tg body xs δ3 Q) Q):=by
 unfold vc wTg wSs;simp only [forL,Pj]
 cases eB δ tg x with
 | none=>exact yn (λ⟨_,e,_⟩=>by cases e)
 | some δ2 =>
   refine Iff.trans ?_ yr.symm;dsimp only
   cases dG cx body δ2 with
   | none=>exact yn (λ⟨_,e,_⟩=>by cases e)
   | some o =>
     refine Iff.trans ?_ yr.symm
     cases o with
     | nx δ1=>exact bL
     | _=>exact yr
def uY {c:E} {body:Ss} {n:Nat} {Q:Out->Prop}:qa cx c body (n+1) δ Q↔wT cx c δ λk δ1=>if k = true then wSs cx body δ1 (sC (λδ3=>qa cx c body n δ3 Q) Q) else Q (.nx δ1):=by
 unfold qa wT wSs;simp only [lY]
 cases evT cx c δ with
 | none=>exact yn (λ⟨_,_,e,_⟩=>by cases e)
 | some p =>
   refine Iff.trans ?_ (xq.trans yr).symm;obtain ⟨k,δ1⟩:=p
   cases k with
   | false=>exact yr
   | true =>
     dsimp only
     cases dG cx body δ1 with
     | none=>exact yn (λ⟨_,e,_⟩=>by cases e)
     | some o =>
       refine Iff.trans ?_ yr.symm
       cases o with
       | nx δ1=>exact bL
       | _=>exact yr
def iM {tg:Tg} {body:Ss} {Q:Out->Prop} (P:List D->Loc->Prop) (step:∀ x xs δ,P (x::xs) δ->wTg δ tg x λδ2=>wSs cx body δ2 (sC (P xs) Q)) (fin:∀ δ,P [] δ->Q (.nx δ)):∀ (ds:List D) (δ:Loc),P ds δ->vc cx tg body ds δ Q
 | [],δ,h=>jw.mpr (fin δ h)
 | x::xs,δ,h=>by
   rw [iI];obtain ⟨δ2,e,o,e2,q⟩:=step x xs δ h;refine ⟨δ2,e,o,e2,?_⟩
   cases o with
   | nx δ1=>exact iM P step fin xs δ1 q
   | rt d δ1=>exact q
   | ro d δ1=>exact q
def qb {k:Nat} {tg:Tg} {ifs:Eo} {elt:E} {Q:List D->Loc->Prop} (P:D->D->Prop):∀ (ds:List D),(∀ x∈ds,wTg (δ++aO k .no) tg x λδ2=>wG cx ifs δ2 λb δ3=>b = true/\wE cx elt δ3 λy δ4=>P x y/\δ4.take δ.length = δ) ->
 (∀ ys,PySem.Paired P ds ys->Q ys δ)->lQ cx k tg ifs elt ds δ Q
 | [],h,q=>fX.mpr (q [] .nil)
 | x::xs,h,q=>by
   rw [fb];obtain ⟨δ2,e,b,δ3,e2,rfl,y,δ4,e3,p,t⟩:=h x ar;refine ⟨δ2,e,true,δ3,e2,?_⟩;show if true = true then _ else _
   rw [if_pos rfl];refine ⟨y,δ4,e3,?_⟩;show lQ cx k tg ifs elt xs (δ4.take δ.length) _;rw [t];exact qb P xs (λz hz=>h z (ao _ hz)) λys r=>q (y::ys) (.cons p r)
end
def CP {a b:Int} {Q:D->Prop}:wOp .add (.int a) (.int b) Q↔Q (.int (a+b)):=yr
def CI {a b:Int} {Q:D->Prop}:wOp .sub (.int a) (.int b) Q↔Q (.int (a - b)):=yr
def CK {a b:Int} {Q:D->Prop}:wOp .mul (.int a) (.int b) Q↔qG a b = true/\Q (.int (a * b)):=yi
def CL {a b:Int} {Q:D->Prop}:wOp .mod (.int a) (.int b) Q↔0 < b/\Q (.int (a % b)):=yi
def AA {a b:Int} {Q:D->Prop}:wOp .fdiv (.int a) (.int b) Q↔(0 < b/\b < 1000000000000000000000000000000000000000000000000000000000000)/\Q (.int (a / b)):=yi
def CN {a b:Str} {Q:D->Prop}:wOp .add (.str a) (.str b) Q↔a.length+b.length<=sizeLine/\Q (.str (a++b)):=yi
def CJ {a:Str} {b:Int} {Q:D->Prop}:wOp .mul (.str a) (.int b) Q↔(0<=b/\b<=1000/\a.length<=1000)/\Q (.str (xI a b.toNat)):=yi
def CM {x:D} {a b:List D} {Q:D->Prop}:wOp .add (.tup (x::a)) (.tup b) Q↔(x::a).length+b.length<=sizeLine/\Q (.tup (x::a++b)):=yi
def CO {a b:List D} {Q:D->Prop}:wOp .add (.lst a) (.lst b) Q↔a.length+b.length<=sizeLine/\Q (.lst (a++b)):=yi
def Hd {a b:Int} {Q:Bool->Prop}:nX .lt (.int a) (.int b) Q↔Q (decide (a < b)):=yr
def He {a b:Int} {Q:Bool->Prop}:nX .gt (.int a) (.int b) Q↔Q (decide (b < a)):=yr
def Dg {a b:Int} {Q:Bool->Prop}:nX .eq (.int a) (.int b) Q↔Q (decide (a = b)):=yr
def Df {a b:Str} {Q:Bool->Prop}:nX .eq (.str a) (.str b) Q↔Q (a == b):=yr
def De {a:D} {ds:List D} {Q:Bool->Prop}:nX .isin a (.tup ds) Q↔(dep a<=150/\dh ds < 99999)/\Q (ds.any λy=>eqD y a):=yi
def AI {ds:List D} {Q:D->Prop}:rz .len [.lst ds] Q↔Q (.int ds.length):=yr
def AK {b:Bool} {Q:D->Prop}:rz .toInt [.bl b] Q↔Q (.int (if b then 1 else 0)):=yr
def Dh {i:Int} {Q:D->Prop}:rz .toStr [.int i] Q↔i.natAbs.log2 < 1920/\Q (.str (toString i)):=yi
def AF {ds:List D} {Q:D->Prop}:rz .toTup [.lst ds] Q↔Q (.tup ds):=yr
def AH {ds:List D} {Q:D->Prop}:rz .toLst [.lst ds] Q↔Q (.lst ds):=yr
def AG {ds:List D} {Q:D->Prop}:rz .toLst [.tup ds] Q↔Q (.lst ds):=yr
def vf {ds:List D} {Q:D->Prop}:rz .sorted [.lst ds] Q↔sortable ds = true/\Q (.lst (eR ds)):=yi
def Kf {b:Bool} {Q:Bool->Prop}:wTv (.bl b) Q↔Q b:=yr
def GR {ds:List D} {Q:Bool->Prop}:wTv (.lst ds) Q↔Q (!ds.isEmpty):=yr
def GY {ds:List D} {i:Int} {Q:D->Prop}:wIx (.lst ds) (.int i) Q↔∃ d,L2.atI ds i = some d/\Q d:=bL
def CT {d:D} {ds:List D} {Q:D->Prop}:wIx (.tup (d::ds)) (.int 0) Q↔Q d:=by
 simp [wIx,ixD,L2.atI,L2.ixN]
def xt {ds:List D} {Q:List D->Prop}:wItems (.lst ds) Q↔Q ds:=yr
def xp {ds:List D} {Q:List D->Prop}:wItems (.tup ds) Q↔Q ds:=yr
def fw (G:List Fd) (gl:List D) (n i:Nat) (ds:List D) (Q:D->Prop):Prop:=∃ d,PP.run G gl n i ds = some d/\Q d
def retS (Q:D->Prop):Out->Prop
 | .rt d _=>Q d
 | .nx _=>Q .non
 | .ro d _=>Q d
def bU {G:List Fd} {gl:List D} {n i:Nat} {ds:List D} {P Q:D->Prop} (h:fw G gl n i ds P) (k:∀ d,P d->Q d):fw G gl n i ds Q:=by
 obtain ⟨d,e,p⟩:=h;exact ⟨d,e,k d p⟩
def aL {G:List Fd} {gl:List D} {n i:Nat} {ds:List D} {Q:D->Prop} (fd:Fd) (h:G[i]? = some fd) (hl:ds.length = fd.ps.length) (hf:fd.hf = false) (q:wSs ⟨PP.run G gl n,gl,hfs G⟩ fd.body (init (fd.ps++fd.loc).length ds) (retS Q)):fw G gl (n+1) i ds Q:=by
 obtain ⟨o,e,q⟩:=q;unfold fw
 have:PP.run G gl (n+1) i ds = outD (dG ⟨PP.run G gl n,gl,hfs G⟩ fd.body (init (fd.ps++fd.loc).length ds)):=by
  conv=>lhs;unfold PP.run
  rw [h];dsimp only;rw [if_pos hl,hf];rfl
 rw [this,e]
 cases o with
 | rt d δ=>exact ⟨d,rfl,q⟩
 | ro d δ=>exact ⟨d,rfl,q⟩
 | nx δ=>exact ⟨.non,rfl,q⟩
def nY {G:List Fd} {gl:List D} {n f:Nat} {ds:List D} {Q:D->Prop}:mN ⟨PP.run G gl n,gl,hfs G⟩ f ds Q↔fw G gl n f ds Q:=bL
def HC {Q:D->Prop} {d:D} {δ:Loc}:retS Q (.rt d δ)↔Q d:=bL
def GX {x:Str} {i:Int} {Q:D->Prop}:wIx (.str x) (.int i) Q↔x.length<=sizeLine/\∃ c,L2.atI x.cps.toList i = some c/\Q (.str ⟨#[c]⟩):=by
 unfold wIx ixD;dsimp only;constructor
 . rintro ⟨z,e,q⟩;split at e
   . rw [aJ] at e;obtain ⟨c,e,rfl⟩:=e;exact ⟨‹_›,c,e,q⟩
   . cases e
 . rintro ⟨h,c,e,q⟩;exact ⟨_,by rw [if_pos h,e];rfl,q⟩
def aV {G:List Fd} {gl:List D} {n i:Nat} {ds:List D} {d:D} {Q:D->Prop} (h:PP.run G gl n i ds = some d):fw G gl n i ds Q↔Q d:=by
 unfold fw;rw [h];exact ⟨λ⟨_,e,q⟩=>by cases e;exact q,λq=>⟨d,rfl,q⟩⟩
def aZ {G:List Fd} {gl:List D} {n i:Nat} {ds:List D} {d:D} (h:fw G gl n i ds λx=>x = d):PP.run G gl n i ds = some d:=by
 obtain ⟨x,e,rfl⟩:=h;exact e
def qT {α:Type} {ds:List α} {j:Int} (h0:0<=j) (h1:j < ds.length):∃ d,d∈ds/\L2.atI ds j = some d:=by
 have hk:j.toNat < ds.length:=by omega
 refine ⟨ds[j.toNat],pU hk,?_⟩;have:=L2.atI_nat (xs:=ds) (j:=j.toNat) (v:=ds[j.toNat]) (aB hk)
 rwa [show ((j.toNat:Nat):Int) = j by omega] at this
def mul_r {a b:Int} (h0:-(2 ^ 64) < b) (h1:b < 2 ^ 64):qG a b = true:=by
 unfold qG;simp only [decide_eq_true h0,decide_eq_true h1,jS,Bool.or_true,Bool.true_or]
def small {n:Nat} (h:n<=1000):n<=sizeLine:=jd (bS h ⇑0)
def str_len (x:Str):x.cps.toList.length = x.length:=by
 show x.cps.toList.length = x.cps.size;simp
def mT {lo:Int} {n:Nat} {x:D} (h:x∈om lo n):∃ i:Nat,i < n/\x = .int (lo+i):=by
 unfold om at h;rw [bj] at h;obtain ⟨i,hi,rfl⟩:=h;exact ⟨i,by simpa using hi,rfl⟩
def tM {lo:Int} {n:Nat}:(om lo n).length = n:=by simp [om]
def CS {a b:D} {ds:List D} {Q:D->Prop}:wIx (.tup (a::b::ds)) (.int 1) Q↔Q b:=by
 have:L2.atI (a::b::ds) 1 = some b:=L2.atI_nat (j:=1) rfl;simp [wIx,ixD,this]
def CQ {a b c:D} {ds:List D} {Q:D->Prop}:wIx (.tup (a::b::c::ds)) (.int 2) Q↔Q c:=by
 have:L2.atI (a::b::c::ds) 2 = some c:=L2.atI_nat (j:=2) rfl;simp [wIx,ixD,this]
def GS {δ:Loc} {i j:Nat} {a b:D} {Q:Loc->Prop}:wTg δ (.tp [i,j]) (.tup [a,b]) Q↔rm δ i (.val a) λδ1=>rm δ1 j (.val b) Q:=by
 rw [Kg];unfold rm;simp only [iy,wX,cm,nQ,aa,decide_eq_true_eq];exact ⟨λ⟨⟨_,h1,h2⟩,q⟩=>⟨h1,h2,q⟩,λ⟨h1,h2,q⟩=>⟨⟨rfl,h1,h2⟩,q⟩⟩
def SI:=av (@aW.{0,0}) (av (@kN.{0,0}) (av (@eE.{0}) (av (@cD.{0}) (av (@aY.{0}) (av (@aw.{0}) (av (@aD.{0}) (av (@BW.{0}) (@List.replicate_zero.{0}))))))))
def WI:(∀ a b:Prop,(if True then a else b) = a)/\(∀ a b:Prop,(if False then a else b) = b)/\((false = true) = False)/\∀ (p:Prop) [Decidable p],(decide p = true) = p:=⟨λ_ _=>if_pos trivial,λ_ _=>if_neg id,↥0,λp _=>by simp⟩
def WS:=av (@NL) (av (@Kz) (av (@Kv) (av (@KD) (av (@KA) (av (@Kk) (av (@Kw) (av (@Kl) (av (@NG) (av (@Kj) (av (@Ki) (av (@GU) (av (@Ky) (av (@Ku) (av (@Kx) (av (@NM) (av (@NK) (av (@mM) (av (@KC) (av (@vd) (av (@GZ) (av (@CY) (av (@NH) (av (@Kq) (av (@NJ) (av (@Ks) (av (@Kr) (av (@NI) (av (@tq) (av (@vg) (av (@Dr) (av (@Fg) (av (@Ff) (av (@CB) (av (@Ar) (av (@Aq) (av (@CF) (av (@xo) (av (@xm) (av (@Ay) (av (@CD) (av (@Au) (av (@Cv) (av (@Cw) (av (@AB) (av (@CU) (av (@CV) (av (@Az) (av (@CG) (av (@Aw) (av (@Cy) (av (@Ha) (av (@je) (av (@bR) (av (@xl) (av (@Kh) (av (@Km) (av (@yC) (av (@GW) (av (@KG) (av (@xh) (av (@xj) (av (@xk) (av (@CC) (av (@rO) (av (@Ax) (av (@CP) (av (@CI) (av (@CK) (av (@CL) (av (@AA) (av (@CN) (av (@CJ) (av (@CM) (av (@CO) (av (@Hd) (av (@He) (av (@Dg) (av (@Df) (av (@De) (av (@AI) (av (@AK) (av (@Dh) (av (@AF) (av (@AH) (av (@AG) (av (@vf) (av (@Kf) (av (@GR) (av (@GY) (av (@CT) (av (@xt) (av (@xp) (av (@nY) (av (@HC) (av (@GX) (av (@zI) (av (@zG) (av (@CS) (av (@CQ) (av (@GS) (nR)))))))))))))))))))))))))))))))))))))))))))))))))))))))))))))))))))))))))))))))))))))))))))))))))))))
def sO {α:Type} (e:∀ i j,i < n->j < n->lt i j = lt' i j):∀ (t:PySem.W.KasT α),inR lt n t->ans lt t = ans lt' t
 | .ret a,_=>rfl
 | .ask i j k,h=>by
   unfold inR at h;rw [fB,fB,<- e i j h.1 h.2.1];exact sO e _ h.2.2
def rX {α β:Type} (d:α) (f:α->β) (xs:List α):(bE xs.length).map (λi=>f (xs.getD i d)) = xs.map f:=by
 apply List.ext_getElem
 . simp
 . intro i h1 h2;simp only [ai] at h2;simp [wQ,aB h2]
def Dw {α:Type} [Inhabited α] (g:α->D) (lt:α->α->Bool) (hlt:∀ x y,oY (g x) (g y) = some (lt x y)) (as:∀ a b,lt a b = true->lt b a = false) (tr:∀ a b c,lt b a = false->lt c b = false->lt c a = false) (xs:List α) :
 ∃ ys:List α,eR (xs.map g) = ys.map g/\ys.Perm xs/\∀ i j,i<=j->j < ys.length->lt (ys.getD j default) (ys.getD i default) = false:=by
 have rf:∀ a,lt a a = false:=λa=>by
  cases e:lt a a with
  | false=>rfl
  | true=>rw [as a a e] at e;cases e
 unfold eR;rw [ai];split
 . rename_i h;refine ⟨xs,rfl,List.Perm.refl _,λi j h1 h2=>?_⟩;have:i = j:=by omega
   subst this;exact rf _
 . rename_i h
   have hg:∀ i,i < xs.length->(xs.map g).getD i .non = g (xs.getD i default):=λi hi=>by
    simp [wQ,aB hi]
   have e:ans (iS (xs.map g)) (PySem.W.kas_sort xs.length) = ans (λi j=>lt (xs.getD i default) (xs.getD j default)) (PySem.W.kas_sort xs.length):=by
    refine sO (n:=xs.length) (λi j hi hj=>?_) _ (yH (by omega));unfold iS;rw [hg i hi,hg j hj,hlt];rfl
   rw [e];obtain ⟨z,p,u⟩:=Hk (lt:=λi j=>lt (xs.getD i default) (xs.getD j default)) ⟨λa b=>as _ _,λa b c=>tr _ _ _⟩ xs.length (by omega);have pl:(ans (λi j=>lt (xs.getD i default) (xs.getD j default)) (PySem.W.kas_sort xs.length)).toList.Perm (bE xs.length):=(letI:Tbs:=⟨[],[],[]⟩;gK _);generalize ans (λi j=>lt (xs.getD i default) (xs.getD j default)) (PySem.W.kas_sort xs.length) = r at z p u pl |-;refine ⟨r.toList.map λi=>xs.getD i default,?_,?_,λi j h1 h2=>?_⟩
   . rw [fM];refine mG λi hi=>?_;exact hg i (by simpa using pl.mem_iff.mp hi)
   . have:=pl.map λi=>xs.getD i default
     rwa [show (bE xs.length).map (λi=>xs.getD i default) = xs from by simpa using rX default id xs] at this
   . rw [ai,bK,z] at h2
     have hr:∀ k,k < xs.length->(r.toList.map λi=>xs.getD i default).getD k default = xs.getD (r.getD k 0) default:=λk hk=>by
      have hk':k < r.toList.length:=by rw [bK,z];exact hk
      have hk2:k < r.size:=by rw [z];exact hk
      simp [wQ,hk2,Array.getD]
     rw [hr i (by omega),hr j h2];exact u i j h1 h2
section
variable {cx:Cl} {δ:Loc}
def gJ {α:Type} (g:α->D) (p:α->Bool) (h:α->D):∀ (xs:List α),(∀ x∈xs,wTg (δ++aO k .no) tg (g x) λδ2=>wG cx ifs δ2 λb δ3=>b = p x/\if b = true then wE cx elt δ3 λy δ4=>y = h x/\δ4.take δ.length = δ else δ3.take δ.length = δ) ->
 Q ((xs.filter p).map h) δ->lQ cx k tg ifs elt (xs.map g) δ Q
 | [],_,q=>fX.mpr q
 | x::xs,hx,q=>by
   rw [aW,fb];obtain ⟨δ2,e,b,δ3,e2,rfl,e3⟩:=hx x ar;refine ⟨δ2,e,_,δ3,e2,?_⟩
   cases hp:p x with
   | true =>
     rw [hp,if_pos rfl] at e3;obtain ⟨y,δ4,e4,rfl,t⟩:=e3;rw [if_pos rfl];refine ⟨_,δ4,e4,?_⟩;show lQ cx k tg ifs elt _ (δ4.take δ.length) _;rw [t];refine gJ g p h xs (λz hz=>hx z (ao _ hz)) ?_;rw [wR hp] at q
     exact q
   | false =>
     rw [hp,if_neg aq] at e3;rw [if_neg aq,e3];refine gJ g p h xs (λz hz=>hx z (ao _ hz)) ?_;rw [wU (by simp [hp])] at q;exact q
def eZ {α:Type} (g:α->D) (P:List α->Loc->Prop) (step:∀ x xs δ,P (x::xs) δ->wTg δ tg (g x) λδ2=>wSs cx body δ2 (sC (P xs) Q)) (fin:∀ δ,P [] δ->Q (.nx δ)) (xs:List α) (δ:Loc) (h:P xs δ):vc cx tg body (xs.map g) δ Q:=by
 induction xs generalizing δ with
 | nil=>exact jw.mpr (fin δ h)
 | cons x xs ih =>
   rw [aW,iI];obtain ⟨δ2,e,o,e2,q⟩:=step x xs δ h;refine ⟨δ2,e,o,e2,?_⟩
   cases o with
   | nx δ3=>exact ih δ3 q
   | rt d δ3=>exact q
   | ro d δ3=>exact q
end
def sZ (δ:Loc) (i:Nat) (Q:Nat->List D->Prop):Prop:=match δ[i]? with
 | some (.fnc k cs)=>Q k cs
 | _=>False
def qd (δ:Loc) (caps:List Nat) (Q:List D->Prop):Prop:=∃ cs,lS δ caps = some cs/\Q cs
section
variable {cx:Cl} {δ:Loc}
def AD {i:Nat} {t:Sl} {Q:Nat->List D->Prop}:sZ (t::δ) (i+1) Q↔sZ δ i Q:=by simp [sZ]
def CW {k:Nat} {cs:List D} {Q:Nat->List D->Prop}:sZ (.fnc k cs::δ) 0 Q↔Q k cs:=by simp [sZ]
def AE {Q:List D->Prop}:qd δ [] Q↔Q []:=by simp [qd,lS]
def xu {i:Nat} {r:List Nat} {Q:List D->Prop}:qd δ (i::r) Q↔sY δ i λd=>flat d = true/\qd δ r λcs=>Q (d::cs):=by
 unfold qd sY;constructor
 . rintro ⟨cs,e,q⟩;unfold lS at e
   cases h:PP.get δ i with
   | none=>rw [h] at e;cases e
   | some d =>
     rw [h] at e;dsimp only at e;split at e
     . rw [aJ] at e;obtain ⟨x,e,rfl⟩:=e;exact ⟨d,rfl,‹_›,x,e,q⟩
     . cases e
 . rintro ⟨d,h,f,cs,e,q⟩;refine ⟨d::cs,?_,q⟩;unfold lS;rw [h];dsimp only;rw [if_pos f,e];rfl
def nh:lfO o = some d↔o = some d/\lf d = true:=by
 cases o with
 | none=>simp [lfO]
 | some r =>
   unfold lfO;dsimp only;split
   . rename_i h;constructor
     . intro e;cases e;exact ⟨rfl,h⟩
     . intro e;exact e.1
   . rename_i h;constructor
     . intro e;cases e
     . rintro ⟨e,z⟩;cases e;exact absurd z h
def CZ {i:Nat} {es:Es} {Q:D->Loc->Prop}:wE cx (.callv i es) δ Q↔sZ δ i λk cs=>wEs cx es δ λds δ1=>lfL ds = true/\mN cx k (ds++cs) λz=>lf z = true/\Q z δ1:=by
 unfold wE wEs mN sZ;simp only [evE,ae,af,Prod.exists];constructor
 . rintro ⟨d,δ',⟨ds,δ1,h1,e⟩,q⟩;split at e
   . rename_i h
     (try rw [h])
     split at e
     . rw [aJ] at e;obtain ⟨r,e,e2⟩:=e;cases e2;rw [nh] at e;exact ⟨ds,_,h1,‹_›,d,e.1,e.2,q⟩
     . cases e
   . cases e
 . intro h;split at h
   . rename_i k cs hk;obtain ⟨ds,δ1,h1,h2,z,h3,h4,q⟩:=h;refine ⟨z,δ1,⟨ds,δ1,h1,?_⟩,q⟩
     (try rw [hk])
     (try dsimp only)
     rw [if_pos h2,nh.mpr ⟨h3,h4⟩];rfl
   . exact h.elim
def Dc {f i:Nat} {es:Es} {Q:D->Loc->Prop}:wE cx (.callF f es i) δ Q↔wEs cx es δ λds δ1=>sZ δ1 i λk cs=>cx.hf f = true/\mN cx f (ds++[.fn k cs]) λz=>Q z δ1:=by
 unfold wE wEs mN sZ;simp only [evE,ae,af,Prod.exists];constructor
 . rintro ⟨d,δ',⟨ds,δ1,h1,e⟩,q⟩;refine ⟨ds,δ1,h1,?_⟩;split at e
   . rename_i h
     (try rw [h])
     split at e
     . rw [aJ] at e;obtain ⟨r,e,e2⟩:=e;cases e2;exact ⟨‹_›,d,e,q⟩
     . cases e
   . cases e
 . rintro ⟨ds,δ1,h1,h⟩;split at h
   . rename_i k cs hk;obtain ⟨h2,z,h3,q⟩:=h;refine ⟨z,δ1,⟨ds,δ1,h1,?_⟩,q⟩
     (try rw [hk])
     (try dsimp only)
     rw [if_pos h2,h3];rfl
   . exact h.elim
def GV {f k:Nat} {es:Es} {caps:List Nat} {Q:Out->Prop}:wS cx (.retL f es k caps) δ Q↔wEs cx es δ λds δ1=>qd δ1 caps λcs=>cx.hf f = true/\mN cx f (ds++[.fn k cs]) λz=>lf z = true/\Q (.rt z δ1):=by
 unfold wS wEs mN qd;simp only [evS,ae,af,Prod.exists];constructor
 . rintro ⟨o,⟨ds,δ1,h1,cs,h2,e⟩,q⟩;refine ⟨ds,δ1,h1,cs,h2,?_⟩;split at e
   . rw [aJ] at e;obtain ⟨r,e,e2⟩:=e;cases e2;rw [nh] at e;exact ⟨‹_›,r,e.1,e.2,q⟩
   . cases e
 . rintro ⟨ds,δ1,h1,cs,h2,h3,z,h4,h5,q⟩;refine ⟨_,⟨ds,δ1,h1,cs,h2,?_⟩,q⟩;rw [if_pos h3,nh.mpr ⟨h4,h5⟩];rfl
end
def AJ:rz .toInt [.str x] Q↔x.length<=640/\∃ n,PySem.intText? x = some n/\Q (.int n):=by
 unfold rz;simp only [ky,qi];constructor
 . rintro ⟨z,e,q⟩;split at e
   . rw [aJ] at e;obtain ⟨n,e1,rfl⟩:=e;exact ⟨‹_›,n,e1,q⟩
   . cases e
 . rintro ⟨h,n,e,q⟩;exact ⟨.int n,by rw [if_pos h,e];rfl,q⟩
def nW (fd:Fd) (h:G[i]? = some fd) (hl:ds.length = fd.ps.length) (hf:fd.hf = true) (he:entry true (fd.ps++fd.loc).length ds = some δ) (q:wSs ⟨PP.run G gl n,gl,hfs G⟩ fd.body δ (retS Q)):fw G gl (n+1) i ds Q:=by
 obtain ⟨o,e,q⟩:=q;unfold fw
 have:PP.run G gl (n+1) i ds = outD (dG ⟨PP.run G gl n,gl,hfs G⟩ fd.body δ):=by
  conv=>lhs;unfold PP.run
  rw [h];dsimp only;rw [if_pos hl,hf,he]
 rw [this,e]
 cases o with
 | rt d δ=>exact ⟨d,rfl,q⟩
 | ro d δ=>exact ⟨d,rfl,q⟩
 | nx δ=>exact ⟨.non,rfl,q⟩
def WC:=av (@CZ) (av (@Dc) (av (@GV) (av (@AD) (av (@CW) (av (@AE) (@xu))))))
section
variable {cx:Cl} {δ:Loc}
end
end PP
end
section
namespace PP
open PySem L2 PyProof.Rows
def IG (t:jc) (es:Array (Int × ah)) (h:Int) (x:ah):(layNew t es h x).2.1.led = t.led:=by
 unfold layNew;split
 . dsimp only;unfold SetTable.orStandIn;split<;>rfl
 . rfl
def Bx (t:jc) (es:Array (Int × ah)) (m:Nat):(relayAll t es m).2.1.led = t.led:=by
 unfold relayAll;split
 . rename_i t' order h;dsimp only;split
   . unfold BR SetTable.laid at h;simp only [ae,af,dQ] at h;obtain ⟨_,_,e⟩:=h;cases e;rfl
   . rfl
 . rfl
def vG (t:jc) (es:Array (Int × ah)) (m:Nat) (hp:t.plain = false):(relayAll t es m).2.1.plain = false:=by
 unfold relayAll;split
 . rename_i t' order h;dsimp only;split
   . unfold BR SetTable.laid at h;simp only [ae,af,dQ] at h;obtain ⟨_,_,e⟩:=h;cases e;exact hp
   . rfl
 . rfl
def yp (P:aQ) (w:bw) (us:List Str) (es:List (Int × ah)):Prop:=ElemsOf (strKind P w) es/\Paired (λ(u:Str) (e:Int × ah)=>∃ tk,e.2 = .str u tk) us es
def oF (P:aQ) (w:bw) (a:au) (ts:List Str) (h:bJ):Prop:=∃ (es:Array (Int × ah)) (ep:Nat) (t:jc) (us:List Str),
 h.get? a = some { cls:=.type "set",dict:=none,data:=.set es ep t,slots := #[] }/\t.fits es.size = true/\t.led = (!w.params.followText "set-order")/\(es.size = 0\/t.plain = false)/\us.Perm ts/\yp P w us es.toList
section
variable {prog:aQ} {w:bw} {A:bt} {E:ah->ak->Prop} {s:ak}
def isStr_of:(strKind prog w).is x (.str u tk) = decide (u = x):=by
 show uQ x (.str u tk) = _;unfold uQ;by_cases h:u = x
 . subst h;simp
 . simp [h]
def find_none:∀ {us:List Str} {es:List (Int × ah)},Paired (λ(u:Str) (e:Int × ah)=>∃ tk,e.2 = .str u tk) us es->(es.findIdx? (λe=>(strKind prog w).is x e.2) = none↔x∉us)
 | _,_,.nil=>by simp
 | _,_,.cons (a:=u) (b:=e) r t=>by
   obtain ⟨tk,hr⟩:=r;rw [Cg,hr,isStr_of,az];by_cases h:u = x
   . subst h;simp
   . simp [h,find_none (x:=x) t,Ne.symm h]
def sF (h:yp prog w us es) (p:GN es' es):∃ us',us'.Perm us/\yp prog w us' es':=by
 obtain ⟨h1,h2⟩:=h
 suffices q:∀ {es' es:List (Int × ah)},GN es' es->∀ us,Paired (λ(u:Str) (e:Int × ah)=>∃ tk,e.2 = .str u tk) us es->∃ us',us'.Perm us/\Paired (λ(u:Str) (e:Int × ah)=>∃ tk,e.2 = .str u tk) us' es' by
  obtain ⟨us',p',r⟩:=q p us h2;exact ⟨us',p',h1.perm p,r⟩
 intro es' es p
 induction p with
 | nil=>intro us r;exact ⟨us,.refl _,r⟩
 | cons x _ ih =>
   intro us r
   cases r with
   | cons r t =>
     obtain ⟨us',p',r'⟩:=ih _ t
     exact ⟨_,p'.cons _,.cons r r'⟩
 | swap x y l =>
   intro us r
   cases r with
   | cons r1 t =>
     cases t with
     | cons r2 t=>exact ⟨_,.swap _ _ _,.cons r2 (.cons r1 t)⟩
 | trans _ _ i1 i2 =>
   intro us r;obtain ⟨u1,p1,r1⟩:=i2 us r;obtain ⟨u2,p2,r2⟩:=i1 u1 r1;exact ⟨u2,p2.trans p1,r2⟩
def BG (h:yp prog w us es) (x:Str) (tk:Tok):yp prog w (us++[x]) (es++[((strKind prog w).hash x,.str x tk)]):=by
 refine ⟨h.1.push (isStr_of.trans (decide_eq_true rfl)) rfl,?_⟩
 have:∀ {us:List Str} {es:List (Int × ah)},Paired (λ(u:Str) (e:Int × ah)=>∃ tk,e.2 = .str u tk) us es->Paired (λ(u:Str) (e:Int × ah)=>∃ tk,e.2 = .str u tk) (us++[x]) (es++[((strKind prog w).hash x,.str x tk)]):=by
  intro us es r
  induction r with
  | nil=>exact .cons ⟨tk,rfl⟩ .nil
  | cons r _ ih=>exact .cons r ih
 exact this h.2
def kW {us:List Str} {es:List (Int × ah)} (h:yp prog w us es):es.length = us.length:=by
 have r:=h.2;clear h
 induction r with
 | nil=>rfl
 | cons _ _ ih=>simp [ih]
def yL {a:au} {es es':Array (Int × ah)} {ep:Nat} {t t':jc} {h:bJ} (g:h.get? a = some { cls:=.type "set",dict:=none,data:=.set es ep t,slots := #[] }) :
 (h.update a (GA es' t')).get? a = some { cls:=.type "set",dict:=none,data:=.set es' (ep+1) t',slots := #[] }:=eY (GA es' t') g rfl
def set_tail {g:Bool->Sem Unit} (hg:∀ (b:Bool) (s1:ak) (Q':Unit->ak->Prop),Q' () s1->wpAny (model prog w) A (g b) Q' E s1) {a:au} {es es1:Array (Int × ah)} {ep:Nat} {t t2:jc} {ts us1:List Str}
 (k:s.heap.get? a = some { cls:=.type "set",dict:=none,data:=.set es ep t,slots := #[] }) (e1:yp prog w us1 es1.toList) (q1:us1.Perm ts) (z:ts.length < scanBound) (f2:t2.fits es1.size = true) (l2:t2.led = (!w.params.followText "set-order")) (p2:t2.plain = false)
 {dm:Bool} {R:Option Bool->ak->Prop} (h:∀ h',fN a s.heap h'->oF prog w a ts h'->R (some true) { s with heap:=h' }) :
 wpAny (model prog w) A (do
  storeSet a es1 t2
  if (!dm && t2.tooFull) = true then do
   g (relayAll t2 es1 (dW es1.size)).2.2
   storeSet a (relayAll t2 es1 (dW es1.size)).1 (relayAll t2 es1 (dW es1.size)).2.1
   pure (some true)
  else pure (some true)) R E s:=by
 have z1:es1.size < scanBound:=by rw [<- bK,kW e1,q1.length_eq];exact z
 have k1:=yL (es':=es1) (t':=t2) k;have sb1:=bQ s.heap a (GA es1 t2);refine ab (Nx k rfl ?_ (NC z1));split
 . have pr:=relayAll_perm t2 es1 (dW es1.size);have fr:=relayAll_fits t2 es1 (dW es1.size);have lr:=Bx t2 es1 (dW es1.size);have nr:=vG t2 es1 (dW es1.size) p2;generalize relayAll t2 es1 (dW es1.size) = L at pr fr lr nr |-;obtain ⟨es2,t3,gv⟩:=L;dsimp only at pr fr lr nr |-;obtain ⟨us2,q2,e2⟩:=sF e1 pr;have z2:es2.size < scanBound:=by rw [<- bK,kW e2,(q2.trans q1).length_eq];exact z
   refine ab (hg _ _ _ (ab (Nx k1 rfl (ay (h _ (sb1.trans (bQ _ a _)) ?_)) (NC z2))));exact ⟨es2,_,t3,us2,yL k1,fr,lr.trans l2,.inr nr,q2.trans q1,e2⟩
 . exact ay (h _ sb1 ⟨es1,_,t2,us1,k1,f2,l2,.inr p2,q1,e1⟩)
def vB (hS:oF prog w a ts s.heap) (hr:ts.length+1 < scanBound)
 (fin:∀ b h',fN a s.heap h'->oF prog w a (if x∈ts then ts else ts++[x]) h'->Q b { s with heap:=h',toks:=s.toks+1 }) :
 wpAny (model prog w) A (setAdd a (.str x tk)) Q E s:=by
 obtain ⟨es,ep,t,us,g,hf,hl,hp,hu,he⟩:=hS;have hsz:es.size = ts.length:=by rw [<- bK,kW he,hu.length_eq]
 have hk:(strKind prog w).is x (.str x tk) = true:=isStr_of.trans (decide_eq_true rfl);unfold setAdd;refine cS (ab ((strKind prog w).pyHash hk ?_))
 (unfold setAddHashed setAddHashedIn)
 refine cS (ab (fK (s:={ s with toks:=s.toks+1 }) g rfl hf ?_));dsimp only;rw [byScan_of rfl ∅ he.1];simp only [↓reduceIte];unfold setAddByScan;refine ab (ab (iX (ab (wpAny_setScan_of (s:={ s with toks:=s.toks+1 }) hk g rfl hf he.1 ?_))));have hfn:=find_none (prog:=prog) (w:=w) (x:=x) he.2
 cases hi:List.findIdx? (λe=>(strKind prog w).is x e.2) es.toList with
 | some j =>
   have hm:x∈ts:=by
    apply pX;intro z;rw [hfn.mpr λz'=>z (hu.mem_iff.mp z')] at hi;cases hi
   rw [if_pos hm] at fin
   exact ay (ay (fin false s.heap (uT a s.heap) ⟨es,ep,t,us,g,hf,hl,hp,hu,he⟩))
 | none =>
   have hm:x∉ts:=λz=>(hfn.mp hi) (hu.mem_iff.mpr z);rw [if_neg hm] at fin;dsimp only;have p1:=layNew_perm t es ((strKind prog w).hash x) (.str x tk);have f1:=layNew_fits t es ((strKind prog w).hash x) (.str x tk);have l1:=IG t es ((strKind prog w).hash x) (.str x tk);generalize layNew t es ((strKind prog w).hash x) (.str x tk) = L at p1 f1 l1 |-;obtain ⟨es1,t1,dm,gv⟩:=L;dsimp only at p1 f1 l1 |-;rw [Cn] at p1;obtain ⟨us1,q1,e1⟩:=sF (BG he x tk) p1;have q1':us1.Perm (ts++[x]):=q1.trans (hu.append (.refl _));have z1:es1.size = ts.length+1:=by rw [<- bK,kW e1,q1'.length_eq];simp
   have gw:∀ (b:Bool) {s1:ak} {Q':Unit->ak->Prop},Q' () s1->wpAny (model prog w) A (match b with | true=>rule "set.scan.the-table-gave-way" | false=>pure ()) Q' E s1:=λb s1 Q' q=>by
    cases b
    . exact ay q
    . exact iX q
   refine ab (gw _ ?_);have gw':∀ (b:Bool) (s1:ak) (Q':Unit->ak->Prop),Q' () s1->wpAny (model prog w) A (match b with | true=>rule "set.scan.the-table-gave-way" | false=>pure ()) Q' E s1:=λb s1 Q' q=>gw b q;have zz:(ts++[x]).length < scanBound:=by rw [ag,aU];exact hr
   split
   . refine ab (oJ (hashByValue_scannable 8 rfl) ?_);refine set_tail (s:={ s with toks:=s.toks+1 }) (t2:={ t1 with plain:=false }) gw' g e1 q1' zz (SetTable.fits_plain_off f1) (l1.trans hl) rfl ?_;exact λh' hs hx=>ay (fin true h' hs hx)
   . rename_i np;refine ab (ay ?_);refine set_tail (s:={ s with toks:=s.toks+1 }) (t2:=t1) gw' g e1 q1' zz f1 (l1.trans hl) (by simpa using np) ?_;exact λh' hs hx=>ay (fin true h' hs hx)
def Gq (hS:oF prog w a ts s.heap) (hr:ts.length+1 < scanBound)
 (h:∀ h',fN a s.heap h'->oF prog w a (if x∈ts then ts else ts++[x]) h'->Q .none { s with heap:=h',toks:=s.toks+1 }) :
 wpAny (model prog w) A (call (.builtin "set.add") [.ref a,.str x tk]) Q E s:=by
 have g:∃ o,s.heap.get? a = some o/\o.cls = .type "set":=by
  obtain ⟨es,ep,t,us,g,_⟩:=hS;exact ⟨_,g,rfl⟩
 refine bY PySem.F.slot_set_add g PySem.F.entry_set_add ?_ (PySem.F.args_set_add_2 _ _);unfold gh.«set.add» Builtin.Frozenset.oneOther;simp only [kH,bind_assoc];unfold mD;refine ab (ay (ab (ay (ab (vB hS hr λb h' hs hx=>?_)))));exact ay ⟨_,rfl,h h' hs hx⟩
end
def BJ {E:ah->ak->Prop} (hn:n≠0) (h:∀ i,i < n->Q i { s with drawn:=s.drawn.bump src }):wpAny M A (choose src n) Q E s :=
 λΓ p hΓ=>⟨hn,h _ (Nat.mod_lt _ (Nat.pos_of_ne_zero hn))⟩
def mr {α:Type}:∀ {xs:List α} {i:Nat} {x:α},xs[i]? = some x->xs.Perm (x::xs.eraseIdx i)
 | [],i,x,h=>by simp at h
 | y::ys,0,x,h=>by simp at h;subst h;exact .refl _
 | y::ys,i+1,x,h=>by
   have:=mr (xs:=ys) (i:=i) (by simpa using h);exact (this.cons y).trans (.swap _ _ _)
def vK {E:ah->ak->Prop} {α:Type}:∀ (n:Nat) (xs:List α) (s:ak) (Q:List α->ak->Prop),xs.length = n->(∀ ys d,ys.Perm xs->Q ys { s with drawn:=d })->wpAny M A (drawOrder n xs) Q E s
 | 0,xs,s,Q,hl,h=>by
   have:xs = []:=eC.mp hl;subst this
   exact ay (h [] s.drawn (.refl _))
 | n+1,[],s,Q,hl,h=>by simp at hl
 | n+1,x::xs,s,Q,hl,h=>by
   unfold drawOrder;refine ab (BJ ↥0 λi hi=>?_);have e:(x::xs)[i]? = some (x::xs)[i]:=aB hi;have pe:=mr e;rw [e];dsimp only;refine ab (vK n _ _ _ ?_ λys d p=>ay ?_)
   . rw [sR hi];simp at hl |-;exact hl
   . exact h _ d ((p.cons _).trans pe.symm)
def zc {α:Type} (f:Nat->Nat):∀ (n k:Nat) (left:List α) (out:Array α),left.length = n->(rL f n k left out).toList.Perm (out.toList++left)
 | 0,k,left,out,hl=>by
   have:left = []:=eC.mp hl;subst this
   simp [rL]
 | n+1,k,left,out,hl=>by
   have hi:f k % left.length < left.length:=Nat.mod_lt _ ∅;have e:left[f k % left.length]? = some left[f k % left.length]:=aB hi;have pe:=mr e;unfold rL;rw [e];dsimp only;refine (zc f n (k+1) _ _ (by rw [sR hi];lia)).trans ?_;rw [Cn,cz];exact (List.Perm.refl _).append pe.symm
def rZ {α:Type} (f:Nat->Nat) (xs:Array α):(pickOrder f xs).toList.Perm xs.toList:=by
 have:=zc f xs.size 0 xs.toList #[] ↥0;simpa [pickOrder] using this
def lz:Slot "set_iterator" "__next__" "set_iterator.__next__" :=
 .of (owner:="set_iterator") (n:="__next__") (by rw [wL,nK];kernel_rfl) ⇑0 ⇑0 ⇑0 (by first | exact .inl ⇑0 | exact .inr ⇑0) (by rw [yt];kernel_rfl)
def wd:entryFor table "set_iterator.__next__" = some gh.«set_iterator.__next__»:=entryFor_of_tree ⋯
def Ab (a:ah):argsOk "set_iterator.__next__" ⟨[a],[]⟩:=by unfold argsOk;kernel_rfl
def FL:entryFor table "set.__iter__" = some gh.«frozenset.__iter__»:=entryFor_alias (id':="frozenset.__iter__") ⋯ rfl ⇑0 ⋯
def BH:entryFor table "set_iterator.__iter__" = some gh.«dict_keyiterator.__iter__»:=entryFor_alias (id':="dict_keyiterator.__iter__") ⋯ rfl ⇑0 ⋯
def Gm (a:ah):argsOk "set_iterator.__iter__" ⟨[a],[]⟩:=by unfold argsOk;kernel_rfl
def vA:Slot "set_iterator" "__iter__" "set_iterator.__iter__" :=
 .of (owner:="set_iterator") (n:="__iter__") (by rw [wL,nK];kernel_rfl) ⇑0 ⇑0 ⇑0 (by first | exact .inl ⇑0 | exact .inr ⇑0) (by rw [yt];kernel_rfl)
section
variable {prog:aQ} {w:bw} {A:bt} {E:ah->ak->Prop} {s:ak}
def itO (first:ah) (i:Nat) (a:au) (n ep:Nat):Obj:={ cls:=.type "set_iterator",data:=.fields #[first,.int i 0,.ref a,.int n 0,.int ep 0] }
def Fn (g:s.heap.get? a = some { cls:=.type "set",dict:=none,data:=.set es ep t,slots := #[] }) (hf:t.fits es.size = true)
 (hd:(w.params.followText "set-order" = true\/es.size<=1)->Q (.ref s.heap.objs.size) { s with heap:=s.heap.push (itO (.int 0 0) 0 a es.size ep) })
 (hn:w.params.followText "set-order" = false->∀ (ps:List Nat) d,ps.Perm (bE es.size) ->
   Q (.ref (s.heap.objs.size+1)) { s with drawn:=d,heap:=(s.heap.push { cls:=.type "tuple",data:=.seq (ps.map λ(i:Nat)=>rawInt i).toArray }).push (itO (.ref s.heap.objs.size) 0 a es.size ep) })
 (hz:es.size < 1000) (hp:es.size = 0\/t.plain = false):wpAny (model prog w) A (pyIter (.ref a)) Q E s:=by
 refine Ny (T:="set") ⟨_,g,rfl⟩ PySem.F.slot_set_iter (bY PySem.F.slot_set_iter ⟨_,g,rfl⟩ FL ?_ (PySem.F.args_set_iter_1 _));unfold gh.«frozenset.__iter__» Builtin.Frozenset.slot0 mD Builtin.Frozenset.sizeOf;simp only [slotArgs,kH,jR,bq,if_false,aD,bne_self_eq_false,pure_bind,bind_assoc];refine ab (pb g rfl hf ?_);unfold setDrawn setsByText;simp only [bind_assoc,pure_bind];refine ab (fK g rfl hf (ab (eP ?_)));have sn:typeLookup (.type "set_iterator") (fQ "__next__") = pure (some (.builtin "set_iterator.__next__")):=lz.lookup
 cases hb:w.params.followText "set-order" with
 | true =>
   rw [show ((model prog w).w.params.followText "set-order") = true from hb];simp only [jR,sV,bq,if_false]
   refine ab (rK g rfl hf (ab (bu (ay ⟨_,rfl,"set_iterator",_,⟨_,aH _ rfl,rfl⟩,sn,hd (.inl hb)⟩))))
 | false =>
   rw [show ((model prog w).w.params.followText "set-order") = false from hb];split
   . refine ab (vK _ _ _ _ ↥0 λps d p=>?_);have hl:ps.length = es.size:=by rw [p.length_eq];simp
     unfold newTuple;refine ab (bu ?_ (by show (ps.map λ(i:Nat)=>rawInt i).toArray.size<=sizeLine;rw [cq];simp;lia));refine ab (rK (s:={ s with drawn:=d,heap:=s.heap.push { cls:=.type "tuple",data:=.seq (ps.map λ(i:Nat)=>rawInt i).toArray } }) (aj _ g) rfl hf ?_);refine ab (bu (ay ⟨_,rfl,"set_iterator",_,⟨_,aH _ rfl,rfl⟩,sn,?_⟩));have:=hn hb ps d p;rw [show (s.heap.push { cls:=.type "tuple",data:=.seq (ps.map λ(i:Nat)=>rawInt i).toArray }).objs.size = s.heap.objs.size+1 from bH ..];exact this
   . rename_i nd
     have h1:es.size<=1:=by
      rcases hp with z | z
      . lia
      . apply pX;intro h2;apply nd;show (!false && (!t.plain && decide (es.size > 1))) = true;rw [z];simp
        lia
     refine ab (rK g rfl hf (ab (bu (ay ⟨_,rfl,"set_iterator",_,⟨_,aH _ rfl,rfl⟩,sn,hd (.inr h1)⟩))))
end
section
variable {prog:aQ} {w:bw} {A:bt} {E:ah->ak->Prop} {s:ak}
def xG (es:Array (Int × ah)) (ep:Nat) (t:jc):Obj:={ cls:=.type "set",dict:=none,data:=.set es ep t,slots := #[] }
def plO (ps:List Nat):Obj:={ cls:=.type "tuple",data:=.seq (ps.map λ(i:Nat)=>rawInt i).toArray }
def uo (g:s.heap.get? I = some (itO f i a n ep)) (h:Q (.ref I) s):wpAny (model prog w) A (pyIter (.ref I)) Q E s:=by
 refine Ny (T:="set_iterator") ⟨_,g,rfl⟩ vA (bY vA ⟨_,g,rfl⟩ BH ?_ (Gm _));exact ay ⟨_,rfl,"set_iterator",_,⟨_,g,rfl⟩,lz.lookup,h⟩
def yE {Q:Option ah->ak->Prop} {Q':PySem.Fin->ak->Prop} (hh:A.handled = none) (h:∀ h',(∀ b o,s.heap.get? b = some o->h'.get? b = some o)->Q none { s with heap:=h' }) :
 wpAny (model prog w) A.in1 (do raiseNew (<- newExc (.type "StopIteration") [])) Q' (λe s'=>wpAny (model prog w) A (do
  let b <- isInstance e (.type "StopIteration")
  if b = true then pure none else throw e) Q E s') s:=by
 refine ab ?_;simp only [newExc,newTuple];refine ab (bu (ab (m:=firstArgMember _ _) (oJ (a:=cw) (by first | rfl | (simp only [firstArgMember];rfl)) (bu ?_ (by size_fits)))) (by size_fits));simp only [raiseNew];apply ab;apply wpAny_handled;rw [(hh:A.in1.handled = none)];dsimp only;apply wpAny_throw;refine ab (uP (b:=true) (T:="StopIteration") ⟨_,aH _ rfl,rfl⟩ isSubtype_stop (ay (h _ λb o e=>?_)));exact aj _ (aj _ e)
def qK {I:au} {f x:ah} {i:Nat} {a:au} {n ep:Nat} {h:bJ} (g:h.get? I = some (itO f i a n ep)):(h.update I (kC (·.setIfInBounds 0 x))).get? I = some (itO x i a n ep):=eY _ g rfl
def vT {I:au} {f:ah} {i:Nat} {a:au} {n ep:Nat} {h:bJ} (g:h.get? I = some (itO f i a n ep)):(h.update I (kC (·.setIfInBounds 1 (rawInt ((i:Int)+1))))).get? I = some (itO f (i+1) a n ep):=by
 have:=eY (kC (·.setIfInBounds 1 (rawInt ((i:Int)+1)))) g rfl;rw [this];simp [kC,itO,rawInt]
section
variable {I a:au} {es:Array (Int × ah)} {ep:Nat} {t:jc} {i:Nat} {Q:Option ah->ak->Prop}
def uf {slot:Nat} (g:s.heap.get? I = some (itO (.int slot 0) i a es.size ep)) (ga:s.heap.get? a = some (xG es ep t)) (hf:t.fits es.size = true) (hh:A.handled = none) {r:Option (ah × Nat)}
 (hs:∀ (A':bt) (Q':Option (ah × Nat)->ak->Prop) (E':ah->ak->Prop),Q' r s->wpAny (model prog w) A' (setNext a slot i ep) Q' E' s)
 (h:match r with
   | some (x,next)=>∀ h',h'.get? I = some (itO (.int next 0) (i+1) a es.size ep)->(∀ b o,b≠I->s.heap.get? b = some o->h'.get? b = some o)->Q (some x) { s with heap:=h' }
   | none=>∀ h',(∀ b o,b≠I->s.heap.get? b = some o->h'.get? b = some o)->Q none { s with heap:=h' }) :
 wpAny (model prog w) A (pyNext (.ref I)) Q E s:=by
 unfold pyNext;refine ab (pS (cM (name:=fQ "__next__") ⟨_,g,rfl⟩ lz (bY lz ⟨_,g,rfl⟩ wd ?_ (Ab _))));unfold gh.«set_iterator.__next__»;simp only [slotArgs,kH,jR,bq,if_false,aD,bne_self_eq_false,pure_bind,bind_assoc];refine ab (wpAny_fieldsOf g rfl ?_);dsimp only;refine ab (pb ga rfl hf ?_);rw [if_neg ↥0];refine ab (hs _ _ _ ?_)
 cases r with
 | some p =>
   obtain ⟨x,next⟩:=p;refine ab (eO g rfl (by show 0 < 5;decide) (ab (eO (qK g) rfl (by show 1 < 5;decide) (ay ⟨x,rfl,ay (h _ (vT (qK g)) λb o hb e=>?_)⟩))))
   exact (bQ _ I _).extBut b o hb ((bQ _ I _).extBut b o hb e)
 | none =>
   refine ab (eO g rfl (by show 2 < 5;decide) ?_);refine yE hh λh' k=>?_;exact h h' λb o hb e=>k b o ((bQ _ I _).extBut b o hb e)
def ER {T:au} {ps:List Nat} (g:s.heap.get? I = some (itO (.ref T) i a es.size ep)) (ga:s.heap.get? a = some (xG es ep t)) (gT:s.heap.get? T = some (plO ps)) (hf:t.fits es.size = true) (hh:A.handled = none)
 (h:match ps[i]? with
   | some p=>∃ x,es[p]? = some x/\∀ h',h'.get? I = some (itO (.ref T) (i+1) a es.size ep)->(∀ b o,b≠I->s.heap.get? b = some o->h'.get? b = some o)->Q (some x.2) { s with heap:=h' }
   | none=>∀ h',(∀ b o,b≠I->s.heap.get? b = some o->h'.get? b = some o)->Q none { s with heap:=h' }) :
 wpAny (model prog w) A (pyNext (.ref I)) Q E s:=by
 unfold pyNext;refine ab (pS (cM (name:=fQ "__next__") ⟨_,g,rfl⟩ lz (bY lz ⟨_,g,rfl⟩ wd ?_ (Ab _))));unfold gh.«set_iterator.__next__»;simp only [slotArgs,kH,jR,bq,if_false,aD,bne_self_eq_false,pure_bind,bind_assoc];refine ab (wpAny_fieldsOf g rfl ?_);dsimp only;refine ab (pb ga rfl hf ?_);rw [if_neg ↥0];refine ab (dU gT rfl ?_);dsimp only;have e:((ps.map λ(i:Nat)=>rawInt i).toArray)[((i:Nat):Int).toNat]? = (ps[i]?).map λ(p:Nat)=>rawInt p:=by simp
 rw [e]
 cases hp:ps[i]? with
 | some p =>
   rw [hp] at h;obtain ⟨x,hx,h⟩:=h;simp only [dq,rawInt];unfold setNextDrawn;simp only [bind_assoc,pure_bind];refine ab (fK ga rfl hf ?_);rw [if_neg ↥0];simp only [jO,hx,pure_bind];refine ab (eO g rfl (by show 1 < 5;decide) (ay ⟨x.2,rfl,ay (h _ (vT g) λb o hb e=>?_)⟩))
   exact (bQ _ I _).extBut b o hb e
 | none =>
   rw [hp] at h;simp only [Option.map_none];refine ab (eO g rfl (by show 0 < 5;decide) (ab (eO (qK g) rfl (by show 2 < 5;decide) ?_)));refine yE hh λh' k=>?_;exact h h' λb o hb e=>k b o ((bQ _ I _).extBut b o hb ((bQ _ I _).extBut b o hb e))
end
end
section
variable {prog:aQ} {w:bw} {A:bt} {E:ah->ak->Prop} {s:ak} {I a T:au} {es:Array (Int × ah)} {ep:Nat} {t:jc}
def Ct (hh:A.handled = none) (h1:a≠I) (h2:T≠I) (hf:t.fits es.size = true) (hp:∀ p∈ps,p < es.size) :
 Walks prog w A I [I,a,T] [I] ps.length (λi v=>∃ p x,ps[i]? = some p/\es[p]? = some x/\v = x.2) (λi h=>h.get? I = some (itO (.ref T) i a es.size ep)/\h.get? a = some (xG es ep t)/\h.get? T = some (plO ps)) where
 sub:=λb hb=>by simp at hb;simp [hb]
 frame:=λ_ _ _ st hk=>⟨hk I ↥0 _ st.1,hk a ↥0 _ st.2.1,hk T ↥0 _ st.2.2⟩
 item:=λi s Q E hi st hQ=>by
  refine ER (ps:=ps) st.1 st.2.1 st.2.2 hf hh ?_;have e:ps[i]? = some ps[i]:=aB hi;obtain ⟨x,hx⟩:∃ x,es[ps[i]]? = some x:=⟨_,dR (hp _ (pU hi))⟩;rw [e];exact ⟨x,hx,λh' g' k=>hQ _ h' s.toks ⟨_,_,e,hx,rfl⟩ ⟨g',k a _ h1 st.2.1,k T _ h2 st.2.2⟩ λb o hb z=>k b o (λq=>hb (by simp [q])) z⟩
 done:=λs Q E st hQ=>by
  refine ER (ps:=ps) st.1 st.2.1 st.2.2 hf hh ?_;have e:ps[ps.length]? = none:=by simp
  rw [e];exact λh' k=>hQ h' s.toks λb o hb z=>k b o (λq=>hb (by simp [q])) z
 self:=λ_ _ _ _ st hQ=>uo st.1 hQ
def txt (w:bw) (a:au) (ep:Nat) (es:Array (Int × ah)):Array (Int × ah):=pickOrder (w.params.setOrder a ep) es
def Cs (hh:A.handled = none) (h1:a≠I) (hf:t.fits es.size = true) (hb:w.params.followText "set-order" = true) :
 Walks prog w A I [I,a] [I] es.size (λi v=>∃ x,(txt w a ep es)[i]? = some x/\v = x.2) (λi h=>(∃ slot:Nat,h.get? I = some (itO (.int slot 0) i a es.size ep))/\h.get? a = some (xG es ep t)):=by
 have hsz:(txt w a ep es).size = es.size:=by
  have:=(rZ (w.params.setOrder a ep) es).length_eq;simpa [txt] using this
 have sn:∀ (A':bt) (s:ak) (slot i:Nat) (Q':Option (ah × Nat)->ak->Prop) (E':ah->ak->Prop),s.heap.get? a = some (xG es ep t)->Q' (((txt w a ep es)[i]?).map λe=>(e.2,slot)) s->wpAny (model prog w) A' (setNext a slot i ep) Q' E' s:=λA' s slot i Q' E' ga q=>by
  unfold setNext setsByText;simp only [bind_assoc,pure_bind];refine ab (fK ga rfl hf (ab (eP ?_)));rw [show ((model prog w).w.params.followText "set-order") = true from hb];simp only [if_true,bne_self_eq_false,bq,if_false];unfold setWalk setsByText;simp only [bind_assoc,pure_bind];refine ab (fK ga rfl hf (ab (eP ?_)));rw [show ((model prog w).w.params.followText "set-order") = true from hb];simp only [if_true,bind_assoc,pure_bind];exact ab (eP (ay q))
 exact {
  sub:=λb hb=>by simp at hb;simp [hb]
  frame:=λ_ _ _ st hk=>⟨st.1.imp λslot e=>hk I ↥0 _ e,hk a ↥0 _ st.2⟩
  item:=λi s Q E hi st hQ=>by
   obtain ⟨slot,g⟩:=st.1;have e:(txt w a ep es)[i]? = some ((txt w a ep es)[i]'(by omega)):=dR _;refine uf (slot:=slot) (r:=some (((txt w a ep es)[i]'(by omega)).2,slot)) g st.2 hf hh (λA' Q' E' q=>sn A' s slot i Q' E' st.2 (by rw [e];exact q)) λh' g' k=>?_;exact hQ _ h' s.toks ⟨_,e,rfl⟩ ⟨⟨slot,g'⟩,k a _ h1 st.2⟩ λb o hb z=>k b o (λq=>hb (by simp [q])) z
  done:=λs Q E st hQ=>by
   obtain ⟨slot,g⟩:=st.1;have e:(txt w a ep es)[es.size]? = none:=by rw [<- hsz];simp
   refine uf (slot:=slot) (r:=none) g st.2 hf hh (λA' Q' E' q=>sn A' s slot es.size Q' E' st.2 (by rw [e];exact q)) λh' k=>?_;exact hQ h' s.toks λb o hb z=>k b o (λq=>hb (by simp [q])) z
  self:=λ_ _ _ _ st hQ=>uo st.1.choose_spec hQ }
def wC (p:Array Nat) (hp:p.size<=1) (slot:Nat):cX p slot = if p.any (· < slot) = true then 1 else 0:=by
 match p,hp with
 | ⟨[]⟩,_=>simp [cX,kL]
 | ⟨[j]⟩,_ =>
   by_cases h:j < slot
   . simp [cX,kL,h]
   . simp [cX,kL,h]
 | ⟨_::_::_⟩,h=>simp at h
def Cu (hh:A.handled = none) (h1:a≠I) (hf:t.fits es.size = true) (hb:w.params.followText "set-order" = false) (hl:t.led = true) (hz:es.size<=1) :
 Walks prog w A I [I,a] [I] es.size (λi v=>∃ x,es[i]? = some x/\v = x.2) (λi h=>(∃ slot:Nat,h.get? I = some (itO (.int slot 0) i a es.size ep)/\(i = 0->slot = 0)/\(1<=i->t.place.any (· < slot) = true))/\h.get? a = some (xG es ep t)):=by
 have hp:t.place.size = es.size:=by
  have:=hf;simp only [SetTable.fits,aa,beq_iff_eq] at this;exact this.1
 have sn:∀ (A':bt) (s:ak) (slot i:Nat) (Q':Option (ah × Nat)->ak->Prop) (E':ah->ak->Prop),s.heap.get? a = some (xG es ep t) ->
  Q' (match es[cX t.place slot]?,t.place[cX t.place slot]? with | some (_,x),some j=>some (x,j+1) | _,_=>none) s->wpAny (model prog w) A' (setNext a slot i ep) Q' E' s:=λA' s slot i Q' E' ga q=>by
  unfold setNext setsByText;simp only [bind_assoc,pure_bind];refine ab (fK ga rfl hf (ab (eP ?_)));rw [show ((model prog w).w.params.followText "set-order") = false from hb];simp only [bq,if_false];refine oJ (a:=(match es[cX t.place slot]?,t.place[cX t.place slot]? with | some (_,x),some j=>some (x,j+1) | _,_=>none)) ?_ q;rw [if_neg (by show ¬ ((!t.plain && decide (es.size > 1)) = true);simp;omega)];show ((if (!t.led && !es.isEmpty) = true then unsupported _ else pure ()) >>= λ_=>pure _:Sem _) = _;rw [hl];rfl
 exact {
  sub:=λb hb=>by simp at hb;simp [hb]
  frame:=λ_ _ _ st hk=>⟨st.1.imp λslot e=>⟨hk I ↥0 _ e.1,e.2⟩,hk a ↥0 _ st.2⟩
  item:=λi s Q E hi st hQ=>by
   obtain ⟨slot,g,z0,z1⟩:=st.1;have i0:i = 0:=by omega
   subst i0;have s0:=z0 rfl;subst s0;have b0:cX t.place 0 = 0:=by rw [wC _ (by omega)];simp
   have e:es[0]? = some (es[0]'hi):=dR _;have ej:t.place[0]? = some (t.place[0]'(by omega)):=dR _;refine uf (slot:=0) (r:=some ((es[0]'hi).2,t.place[0]'(by omega)+1)) g st.2 hf hh (λA' Q' E' q=>sn A' s 0 0 Q' E' st.2 (by rw [b0,e,ej];exact q)) λh' g' k=>?_;refine hQ _ h' s.toks ⟨_,e,rfl⟩ ⟨⟨_,g',λz=>by omega,λ_=>?_⟩,k a _ h1 st.2⟩ λb o hb z=>k b o (λq=>hb (by simp [q])) z;rw [Array.any_eq_true];exact ⟨0,by omega,↥0⟩
  done:=λs Q E st hQ=>by
   obtain ⟨slot,g,z0,z1⟩:=st.1
   have e:es[cX t.place slot]? = none:=by
    rw [wC _ (by omega)];rcases Nat.lt_or_ge 0 es.size with q | q
    . rw [if_pos (z1 (by omega))];exact wW (by omega)
    . exact wW (by split<;>omega)
   refine uf (slot:=slot) (r:=none) g st.2 hf hh (λA' Q' E' q=>sn A' s slot es.size Q' E' st.2 (by rw [e];exact q)) λh' k=>?_;exact hQ h' s.toks λb o hb z=>k b o (λq=>hb (by simp [q])) z
  self:=λ_ _ _ _ st hQ=>uo st.1.choose_spec.1 hQ }
def Nt (w:bw) (a:au) (xs:List ah) (h:bJ):Prop:=∃ (es:Array (Int × ah)) (ep:Nat) (t:jc),
 h.get? a = some { cls:=.type "set",dict:=none,data:=.set es ep t,slots := #[] }/\t.fits es.size = true/\t.led = (!w.params.followText "set-order")/\(es.size = 0\/t.plain = false)/\(es.toList.map (·.2)).Perm xs
def DS (hh:A.handled = none) (hS:Nt w a xs s.heap) (hz:xs.length < 1000)
 (h:∀ (I:au) (fp:List au) (n:Nat) (P:Nat->ah->Prop) (St:Nat->bJ->Prop) (us:List ah) d h',Walks prog w A I fp [I] n P St->us.length = n->St 0 h'->(∀ b∈fp,b < h'.objs.size)->(∀ b o,s.heap.get? b = some o->b≠I/\h'.get? b = some o)->us.Perm xs->(∀ i v,P i v->us[i]? = some v)->(∀ b∈fp,b = a\/s.heap.objs.size<=b) ->
   Q (.ref I) { s with drawn:=d,heap:=h' }):wpAny (model prog w) A (pyIter (.ref a)) Q E s:=by
 obtain ⟨es,ep,t,g,hf,hl,hp,hu⟩:=hS;have hsz:es.size = xs.length:=by rw [<- hu.length_eq];simp
 have ha:a < s.heap.objs.size:=aC g
 have pe:∀ (vs:List (Int × ah)),vs.Perm es.toList->∃ us':List ah,us'.Perm xs/\us'.length = es.size/\∀ (i:Nat) (x:Int × ah),vs[i]? = some x->us'[i]? = some x.2:=λvs pv =>
  ⟨vs.map (·.2),(pv.map _).trans hu,by rw [ai,pv.length_eq,bK],λi x hx=>by rw [br,hx];rfl⟩
 refine Fn g hf (λhm=>?_) (λhb ps d pp=>?_) (by omega) hp
 . cases hb:w.params.followText "set-order" with
   | true =>
     obtain ⟨us',p',l',q'⟩:=pe (txt w a ep es).toList (rZ _ _);refine h s.heap.objs.size [s.heap.objs.size,a] es.size _ _ us' s.drawn _ (Cs (ep:=ep) (I:=s.heap.objs.size) hh (aR ha) hf hb) l' ⟨⟨0,aH _ rfl⟩,aj _ g⟩ (λb hb=>?_) (λb o e=>⟨aR (aC e),aj _ e⟩) p' (λi v ⟨x,hx,hv⟩=>?_) (λb hb=>by simp at hb;rcases hb with rfl | rfl;exact .inr (ax _);exact .inl rfl)
     . rw [bH];simp at hb;rcases hb with rfl | rfl
       . exact iw _
       . exact bP ha
     . rw [hv]
       exact q' i x (by simpa using hx)
   | false =>
     have h1:es.size<=1:=by
      rcases hm with z | z
      . rw [hb] at z;cases z
      . exact z
     obtain ⟨us',p',l',q'⟩:=pe es.toList (.refl _);refine h s.heap.objs.size [s.heap.objs.size,a] es.size _ _ us' s.drawn _ (Cu (ep:=ep) (I:=s.heap.objs.size) hh (aR ha) hf hb (by rw [hl,hb];rfl) h1) l' ⟨⟨0,aH _ rfl,λ_=>rfl,λz=>by omega⟩,aj _ g⟩ (λb hb=>?_) (λb o e=>⟨aR (aC e),aj _ e⟩) p' (λi v ⟨x,hx,hv⟩=>?_) (λb hb=>by simp at hb;rcases hb with rfl | rfl;exact .inr (ax _);exact .inl rfl)
     . rw [bH];simp at hb;rcases hb with rfl | rfl
       . exact iw _
       . exact bP ha
     . rw [hv];exact q' i x (by simpa using hx)
 . have hps:∀ p∈ps,p < es.size:=λp hp=>by simpa using pp.mem_iff.mp hp
   have hpl:ps.length = es.size:=by rw [pp.length_eq];simp
   have pv:(ps.filterMap λp=>es[p]?).Perm es.toList:=by
    have:=pp.filterMap λp=>es[p]?
    rwa [filterMap_getElem?_range] at this
   have ev:∀ (ps:List Nat),(∀ p∈ps,p < es.size)->∀ (i p:Nat),ps[i]? = some p->(ps.filterMap λp=>es[p]?)[i]? = es[p]? := λps=>by
    induction ps with
    | nil=>intro _ i p e;simp at e
    | cons q qs ih =>
      intro hq i p e;have hq0:es[q]? = some (es[q]'(hq q ar)):=dR _;rw [List.filterMap_cons_some hq0]
      cases i with
      | zero=>simp at e;subst e;simp [hq0]
      | succ i=>simpa using ih (λp hp=>hq p (ao _ hp)) i p (by simpa using e)
   obtain ⟨us',p',l',q'⟩:=pe _ pv;have W:=Ct (prog:=prog) (w:=w) (A:=A) (ep:=ep) (a:=a) (I:=s.heap.objs.size+1) (T:=s.heap.objs.size) hh (aR (bP ha)) (aR (iw _)) hf hps;have sz:((s.heap.push (plO ps)).push (itO (.ref s.heap.objs.size) 0 a es.size ep)).objs.size = s.heap.objs.size+1+1:=by rw [bH,bH]
   refine h (s.heap.objs.size+1) [s.heap.objs.size+1,a,s.heap.objs.size] ps.length _ _ us' d _ W (l'.trans hpl.symm) ⟨?_,aj _ (aj _ g),aj _ (aH _ rfl)⟩ (λb hb=>?_) (λb o e=>⟨aR (bP (aC e)),aj _ (aj _ e)⟩) p' (λi v ⟨p,x,e1,e2,hv⟩=>?_) (λb hb=>by simp at hb;rcases hb with rfl | rfl | rfl;exact .inr (gC _);exact .inl rfl;exact .inr (ax _))
   . have:((s.heap.push (plO ps)).push (itO (.ref s.heap.objs.size) 0 a es.size ep)).get? (s.heap.push (plO ps)).objs.size = _:=aH _ rfl
     rwa [bH] at this
   . show b < ((s.heap.push (plO ps)).push (itO (.ref s.heap.objs.size) 0 a es.size ep)).objs.size;rw [sz];simp at hb;rcases hb with rfl | rfl | rfl
     . exact iw _
     . exact bP (bP ha)
     . exact bP (iw _)
   . rw [hv];exact q' i x (by rw [ev ps hps i p e1];exact e2)
end
section
variable {prog:aQ} {w:bw} {A:bt} {E:ah->ak->Prop} {s:ak} {a:au}
def Fl:typeLookup (.type "set") "__len__" = pure (some (.builtin "set.__len__")):=PySem.F.slot_set_len.lookup
def zu {α:Type}:∀ {us vs:List α},us.length = vs.length->(∀ (j:Nat) (v:α),vs[j]? = some v->us[j]? = some v)->us = vs
 | [],[],_,_=>rfl
 | [],_::_,h,_=>by simp at h
 | _::_,[],h,_=>by simp at h
 | u::us,v::vs,h,q=>by
   have e:=q 0 v rfl;simp at e;subst e;rw [zu (by simpa using h) λj x hj=>q (j+1) x (by simpa using hj)]
def JU {id:String} {args:Args} {b:gh} {R:yw->ak->Prop} (hb:entryFor table id = some b) (hp:plainId id = true)
 (h:wpAny (model prog w) A.in1 (b args) (λfin s'=>match fin with | .done f=>R (.ok f) s' | .again c'=>c'.quiet = true/\codeAny (model prog w) A c' R s') (λe s'=>R (.error e) s') s):codeAny (model prog w) A (.builtin id args) R s :=
 codeAny_builtin hb (by rw [Around.under_plainId hp args];exact h)
def wq {xs:List ah} {Q:List ah->ak->Prop} (hh:A.handled = none) (hS:Nt w a xs s.heap) (hz:xs.length < 1000)
 (h:∀ (vs:List ah) d tk h',vs.Perm xs->(∀ b o,s.heap.get? b = some o->h'.get? b = some o)->Q vs { s with drawn:=d,toks:=tk,heap:=h' }) :
 wpAny (model prog w) A (collect (.ref a)) Q E s:=by
 have ha:a < s.heap.objs.size:=by obtain ⟨es,ep,t,g,_⟩:=hS;exact aC g
 have hsa:s.heap.objs.size≠a:=λz=>cC _ (by rw [z] at ha;exact ha);unfold collect;refine ab (wpAny_runValue (JU F.entry_proto_collect F.plain_proto_collect ?_));show wpAny _ A.in1 (newList [] >>= λl=>again (.builtin "list.__iadd__" ⟨[l,.ref a],[]⟩)) _ _ s;refine ab (bu (ay ⟨plainId_quiet F.plain_list_iadd _,JU F.entry_list_iadd F.plain_list_iadd ?_⟩));generalize ho:({ cls:=.type "list",data:=.seq ([]:List ah).toArray }:Obj) = lo;have g0:(s.heap.push lo).get? s.heap.objs.size = some lo:=aH _ (by rw [<- ho];rfl)
 have hS1:Nt w a xs (s.heap.push lo):=by
  obtain ⟨es,ep,t,g,r⟩:=hS;exact ⟨es,ep,t,aj _ g,r⟩
 have hT:({ s with heap:=s.heap.push lo }:ak).TypeIs (.ref a) "set":=by
  obtain ⟨es,ep,t,g,r⟩:=hS1;exact ⟨_,g,rfl⟩
 show wpAny _ A.in1 (nO (.ref s.heap.objs.size) (.ref a) (.ref s.heap.objs.size)) _ _ _;unfold nO;refine ab (Gv hT ?_);have nr:oW (.ref s.heap.objs.size) (.ref a) = false:=by simp [oW,hsa]
 rw [if_neg (by rw [nr];decide)];refine ab (DS (A:=A.in1) hh hS1 hz λI fp n P St us d h2 W hn st hf hk hu hP hfp=>?_);refine ab (cS ?_);unfold Builtin.List.listLengthHint
 have hT2:({ s with heap:=h2,drawn:=d }:ak).TypeIs (.ref a) "set":=by
  obtain ⟨es,ep,t,g,r⟩:=hS1;exact ⟨_,(hk _ _ g).2,rfl⟩
 refine ab (wpAny_specialOf hT2 Fl ?_);dsimp only;rw [show splitId "set.__len__" = some ("set","__len__") from by decide];dsimp only;refine ab (uP (b:=true) hT2 (by rw [yt];kernel_rfl) ?_);rw [if_neg ⇑0,if_pos ⋯];refine ab (Gv hT2 (ay ?_));rw [if_pos ⇑0];have gS:h2.get? s.heap.objs.size = some lo:=(hk _ _ g0).2;subst ho
 have hSf:s.heap.objs.size∉fp:=λhm=>by
  rcases hfp _ hm with z | z
  . exact hsa z
  . rw [show ({ s with heap:=s.heap.push _ }:ak).heap.objs.size = s.heap.objs.size+1 from bH ..] at z;exact cC _ z
 have g3:=wM gS λxs=>xs.push cw;have g4:=wM g3 λxs=>xs.pop;refine ab (iX (ab ?_));unfold Builtin.List.listTouch;refine ab (lj gS rfl (lj (s:={ s with drawn:=d,heap:=h2.update s.heap.objs.size (cg λxs=>xs.push cw) }) g3 rfl ?_ (by rw [cq];simp) (by rw [cq];simp)) (by rw [cq];simp) (by rw [cq];simp));have up:∀ {h:bJ} {f:Obj->Obj} {b:au} {o:Obj},b≠s.heap.objs.size->h.get? b = some o->(h.update s.heap.objs.size f).get? b = some o:=λhb e=>(eN _ _ (Ne.symm hb)).trans e;have st4:=W.frame 0 _ ((h2.update s.heap.objs.size (cg λxs=>xs.push cw)).update s.heap.objs.size (cg λxs=>xs.pop)) st λb hb o e=>up (λz=>hSf (z▸hb)) (up (λz=>hSf (z▸hb)) e);refine ay ⟨plainId_quiet F.plain_extend_loop _,codeAny_extend_loopS W.toS (by rw [<- hn,hu.length_eq,cq];lia) _ hSf _ n 0 _ #[] _ rfl (cT _) st4 g4 (ItemsOf.nil P) λs' acc c hm hS' hac=>?_⟩;show wpAny _ A (load s.heap.objs.size >>= _) _ _ s';refine ab (wpAny_load hS' (ay ?_));obtain ⟨hp',gn',dr',tk',os'⟩:=s';obtain ⟨m1,m2,m3,m4,m5⟩:=hm;obtain rfl:gn' = s.gens:=m2;obtain rfl:dr' = d:=m3;obtain rfl:os' = s.os:=m4;have ea:us = acc.toList:=zu (hn.trans (hac.1.symm.trans bK.symm)) λj v hj=>hP j v (hac.2 j v (by simpa using hj));refine h acc.toList _ tk' hp' (by rw [<- ea];exact hu) λb o e=>?_;have hb:b≠s.heap.objs.size:=aR (aC e);have hb2:=hk b o (aj _ e);exact m1 b o (by simp [hb,hb2.1]) (up hb (up hb hb2.2))
def Bm {α β:Type} {R:α->β->Prop} {ys' ys:List β} (p:GN ys' ys):∀ xs,Paired R xs ys->∃ xs',xs'.Perm xs/\Paired R xs' ys':=by
 induction p with
 | nil=>intro us r;exact ⟨us,.refl _,r⟩
 | cons x _ ih =>
   intro us r
   cases r with
   | cons r t =>
     obtain ⟨us',p',r'⟩:=ih _ t
     exact ⟨_,p'.cons _,.cons r r'⟩
 | swap x y l =>
   intro us r
   cases r with
   | cons r1 t =>
     cases t with
     | cons r2 t=>exact ⟨_,.swap _ _ _,.cons r2 (.cons r1 t)⟩
 | trans _ _ i1 i2 =>
   intro us r;obtain ⟨u1,p1,r1⟩:=i2 us r;obtain ⟨u2,p2,r2⟩:=i1 u1 r1;exact ⟨u2,p2.trans p1,r2⟩
def wo {ts:List Str} {Q:List ah->ak->Prop} (hh:A.handled = none) (hS:oF prog w a ts s.heap) (hz:ts.length < 1000)
 (h:∀ (us:List Str) (vs:List ah) d tk h',us.Perm ts->Paired (λ(u:Str) (v:ah)=>∃ k,v = .str u k) us vs->(∀ b o,s.heap.get? b = some o->h'.get? b = some o)->Q vs { s with drawn:=d,toks:=tk,heap:=h' }) :
 wpAny (model prog w) A (collect (.ref a)) Q E s:=by
 obtain ⟨es,ep,t,us,g,hf,hl,hp,hu,he⟩:=hS
 have pr:∀ {us:List Str} {es:List (Int × ah)},Paired (λ(u:Str) (e:Int × ah)=>∃ tk,e.2 = .str u tk) us es->Paired (λ(u:Str) (v:ah)=>∃ k,v = .str u k) us (es.map (·.2)):=λr=>by
  induction r with
  | nil=>exact .nil
  | cons r _ ih=>exact .cons r ih
 refine wq hh ⟨es,ep,t,g,hf,hl,hp,.refl _⟩ (by rw [ai,kW he,hu.length_eq];exact hz) λvs d tk h' pv k=>?_;obtain ⟨us',p',r'⟩:=Bm pv us (pr he.2);exact h us' vs d tk h' (p'.trans hu) r' k
end
end PP
end
section
namespace PP
open PySem L2 PyProof.Rows PySem.W
def ltS (a b:Str):Bool:=decide (a.cps.toList < b.cps.toList)
def Fe (a b:Str):oY (.str a) (.str b) = some (ltS a b):=by simp [oY,ltD,dep,ltS]
def MF (a b:Str) (h:ltS a b = true):ltS b a = false:=by
 unfold ltS at h |-;rw [decide_eq_true_eq] at h;rw [decide_eq_false_iff_not];exact List.lt_asymm h
def MD (a b c:Str) (h1:ltS b a = false) (h2:ltS c b = false):ltS c a = false:=by
 unfold ltS at h1 h2 |-;rw [decide_eq_false_iff_not] at h1 h2 |-;exact List.le_trans h1 h2
def ME (a b:Str) (h1:ltS a b = false) (h2:ltS b a = false):a = b:=by
 unfold ltS at h1 h2;rw [decide_eq_false_iff_not] at h1 h2;have:=List.le_antisymm h2 h1;obtain ⟨⟨x⟩⟩:=a;obtain ⟨⟨y⟩⟩:=b;simp at this;rw [this]
def Hf {α:Type} [Inhabited α] {lt:α->α->Bool} {ys:List α} (h:∀ i j,i<=j->j < ys.length->lt (ys.getD j default) (ys.getD i default) = false):ys.Pairwise λa b=>lt b a = false:=by
 rw [List.pairwise_iff_getElem];intro i j hi hj hij;have:=h i j (jd hij) hj;simpa [wQ,aB hi,aB hj] using this
def fV (ts:List Str):∃ ys:List Str,eR (ts.map .str) = ys.map .str/\ys.Perm ts/\ys.Pairwise λa b=>ltS b a = false:=by
 obtain ⟨ys,e,p,u⟩:=Dw D.str ltS Fe MF MD ts;exact ⟨ys,e,p,Hf u⟩
def tJ {us ts:List Str} (p:us.Perm ts):eR (us.map .str) = eR (ts.map .str):=by
 obtain ⟨a,e1,p1,q1⟩:=fV us;obtain ⟨b,e2,p2,q2⟩:=fV ts;have:a = b:=List.Perm.eq_of_pairwise (λx y _ _ h1 h2=>ME x y h2 h1) q1 q2 (p1.trans (p.trans p2.symm));rw [e1,e2,this]
def Qd (X:Cx) (p:au) (ts:List Str):HO:=.ext (oF X.prog X.w p ts)
variable [Tbs]
def jT:∀ {us:List Str} {vs:List ah},Paired (λ(u:Str) (v:ah)=>∃ k,v = .str u k) us vs->Vals (us.map V.str) vs
 | _,_,.nil=>.nil
 | _,_,.cons r t=>.cons r (jT t)
def oo {K:Frag} {H:Hp} {F:au->Prop}:∀ (us:List Str),aN K H F (us.map .str) (us.map V.str)
 | []=>aN.nil
 | u::us=>aN.cons (gX u) (oo us)
def Ex {α β:Type} {R:α->β->Prop} {xs:List α} {vs:List β} (h:Paired R xs vs):∀ v∈vs,∃ u,R u v:=by
 induction h with
 | nil=>intro v h;cases h
 | cons r _ ih =>
   intro v h;rcases az.mp h with rfl | h
   . exact ⟨_,r⟩
   . exact ih v h
def vJ (h:Paired (λ(u:Str) (v:ah)=>∃ k,v = .str u k) us vs):∀ i,i < vs.length->∃ u k,vs.getD i cw = .str u k/\(us.map D.str).getD i .non = .str u:=by
 induction h with
 | nil=>intro i h;cases h
 | cons r _ ih =>
   intro i h;obtain ⟨k,rfl⟩:=r
   cases i with
   | zero=>exact ⟨_,k,rfl,rfl⟩
   | succ i=>exact ih i (by simpa using h)
def MI {M:Model} {A:bt} {E:ah->ak->Prop} {s:ak} {us:List Str} {vs:List ah} (p:Paired (λ(u:Str) (v:ah)=>∃ k,v = .str u k) us vs) (h2:2<=vs.length) {Q:oK->ak->Prop} (q:Q oneType' s):wpAny M A (keyKind' vs.toArray) Q E s:=by
 refine kas_kind (T:=.type "str") h2 (λv hv=>?_) ⇑0 ⇑0 q;obtain ⟨u,k,rfl⟩:=Ex p v hv;exact jK rfl
def Pu (p:Paired (λ(u:Str) (v:ah)=>∃ k,v = .str u k) us vs) (i j:Nat) (hi:i < vs.length) (hj:j < vs.length) (C:Bool->ak->Prop) (c:C (iS (us.map .str) i j) s):kas_ask prog w A' oneType' vs i j C s:=by
 obtain ⟨u,k,e1,e2⟩:=vJ p i hi;obtain ⟨u',k',e3,e4⟩:=vJ p j hj;unfold iS at c;rw [e2,e4,Fe] at c;unfold kas_ask;rw [e1,e3,keyLt'_oneType];exact oneLt_str c
def uJ (hc:X.calm = true) (hu:X.A.units+200 < cLine):dD X (.builtin "sorted") (λxs H Q=>∃ a ts,xs = [.ref a]/\H a = some (Qd X a ts)/\ts.length < 64/\∀ p ys F,H p = none->aN X.K H F (eR (ts.map .str)) ys->Q (.ref p) (upd H p (.lst ys))):=by
 intro pins s σ H xs us0 Q I r h;obtain ⟨a,ts,rfl,hH,h64,q⟩:=h;obtain ⟨u,rfl,rx⟩:=vals1 r;cases rx;obtain ⟨hS,_,_⟩:=I.hok a _ hH;refine sT kind_sorted plain_sorted entry_sorted (args_sorted1 _) ?_;unfold gh.«sorted»;refine ab (m:=checkCount "sorted" 1 1 _) (ay (ab (wo (A:=X.A.in1) (I.ok.hd hc) hS ∅ λus vs d tk h1 pu pv k1=>ab (BQ ?_ ?_))))
 . have hl:us.length = vs.length:=by
    have:=jT pv;have:=this.length;simpa using this
   have lu:us.length < 64:=by rw [pu.length_eq];exact h64
   have l3:vs.length = (us.map D.str).length:=by rw [ai];exact hl.symm
   have hlen:(fZ (iS (us.map .str)) vs).length = vs.length:=by
    unfold fZ;split
    . rfl
    . rw [ai,(gK vs.length).length_eq,jM]
   have small:∀ i∈(ans (iS (us.map D.str)) (kas_sort vs.length)).toList,i < vs.length:=λi hi=>by simpa using (gK vs.length).mem_iff.mp hi
   have hv:∃ ys,Vals ys (fZ (iS (us.map .str)) vs)/\aN X.K H (λ_=>False) (eR (us.map .str)) ys:=by
    unfold fZ eR;have rl:aN X.K H (λ_=>False) (us.map .str) (us.map V.str):=oo us;have vv:=jT pv;by_cases h2:vs.length < 2
    . rw [if_pos h2,if_pos ∅];exact ⟨_,vv,rl⟩
    . rw [if_neg h2,if_neg ∅,<- l3];exact ⟨_,qV vv _ λi hi=>by rw [ai,hl];exact small i hi,qX rl _ λi hi=>by rw [<- l3];exact small i hi⟩
   obtain ⟨ys,vy,ry⟩:=hv;rw [tJ pu] at ry;have hL:(h1.push (seqObj "list" vs.toArray 0)).get? h1.objs.size = some (seqObj "list" vs.toArray 0):=aH _ rfl;refine ab (cS (bY slot_list_sort ⟨_,hL,rfl⟩ entry_list_sort ?_ (args_list_sort _)));refine ng (s:={ s with heap:=h1.push (seqObj "list" vs.toArray 0),drawn:=d,toks:=tk }) (lt:=iS (us.map .str)) (κ:=oneType') hL ∅ hlen (λh2 h' kp C c=>MI pv h2 c) (λh' kp i j hi hj C c=>Pu pv i j hi hj C c) ?_
   . refine ⟨_,rfl,ay ⟨_,rfl,?_⟩⟩;have J:=I.call (h':=h1) (g':=s.gens) (d':=d) (t':=tk) (ch:=[]) (Un.kept k1) (I.hok.kept k1) I.bare (λb z=>absurd z ↥0);obtain ⟨e,he⟩:=sortedHeap_at (out:=(fZ (iS (us.map .str)) vs).toArray) hL
     have old:∀ b o,h1.get? b = some o->(sortedHeap (h1.push (seqObj "list" vs.toArray 0)) h1.objs.size vs (fZ (iS (us.map .str)) vs).toArray).get? b = some o:=λb o e=>by
      have lb:=aC e;rw [sortedHeap_old (aR lb) (by rw [bH];exact bP lb)];exact aj _ e
     refine ⟨.ref h1.objs.size,upd H h1.objs.size (.lst ys),J.laid (t':=tk) old (ax _) ⟨?_,_,e,vy,he⟩,rfl,q _ _ _ (J.hok.fresh (ax _)) ry⟩;rw [ry.length,rT,ai,cq]
     lia
 . have:=(jT pv).length;rw [ai,pu.length_eq] at this;rw [cq]
   lia
end PP
end
section
namespace PP
open PySem PySem.Spec L2 PyProof.Rows
def SH (P:aQ) (w:bw) (D:au) (ts:List Str):HO:=.ext (oF P w D ts)
def Bf {P:aQ} {w:bw} {D:au} {ts:List Str} (h1 h2:bJ) (x:oF P w D ts h1) (k:∀ o,h1.get? D = some o->h2.get? D = some o):oF P w D ts h2:=by
 obtain ⟨es,ep,t,us,g,r⟩:=x;exact ⟨es,ep,t,us,k _ g,r⟩
def yK {P:aQ} {w:bw} {H:Hp} {h:bJ} {D:au} {ts:List Str} (x:oF P w D ts h):ft P w H h D (SH P w D ts):=by
 refine ⟨x,?_,Bf⟩;obtain ⟨es,ep,t,us,g,r⟩:=x;exact ⟨_,g⟩
def xB (P:aQ) (w:bw) (D:au) (te:TE):TU:=λσ H Q=>te σ H λy H'=>∃ x ts,y = .str x/\H' D = some (SH P w D ts)/\ts.length+1 < scanBound/\Q σ (upd H' D (SH P w D (kA ts x)))
def Ee {X:Cx} {elt:aE} {te:TE} {D:au} (he:PE X elt te):PU X (do let v <- eval elt X.env;standAt elt.pos;let _ <- call (.builtin "set.add") [.ref D,v]) (xB X.prog X.w D te):=by
 intro pins s σ H Q I h;refine ab (thn (he pins s σ H _ I h) λu s1 ⟨y,H1,I1,r1,x,ts,e,hD,hz,q⟩=>ab (fE (ab ?_)));subst e;obtain ⟨tk,rfl⟩:=r1;obtain ⟨hS,_,_⟩:=I1.hok D _ hD;refine Gq hS hz λh' sb hx=>ay ⟨σ,_,I1.write (o:=SH X.prog X.w D (kA ts x)) (by rw [hD];trivial) (.inl rfl) (λb o hb e=>sb.extBut b o hb e) ?_ (yK hx),q⟩;obtain ⟨es,ep,t,us,g,r⟩:=hx;exact ⟨_,g⟩
def tIn (P:aQ) (w:bw) (wi:TI) (g:TG) (tt:TT) (D:au) (te:TE):TU:=λσ H Q=>wi σ H λJ H'=>tLp J g tt (xB P w D te) σ H' Q
def tTr:TT:=λ_ H Q=>Q true H
section
variable {prog:aQ} {w:bw} {A:bt} {R:yw->ak->Prop} {s:ak}
def rS (hg:gs[d]? = some g) (ha:g.is_async = 0)
 (h0:codeAny (model prog w) A (.compLoop (.SetComp elt gs scope pos) d it acc env) R s)
 (h:wpAny (model prog w) A (pyIter it) (λit' s'=>codeAny (model prog w) A (.compLoop (.SetComp elt gs scope pos) d it' acc env) R s') (notedBy (model prog w) A env λx s'=>R (.error x) s') s) :
 codeAny (model prog w) A (.compStart (.SetComp elt gs scope pos) d it acc env) R s:=by
 apply codeAny_of_tree;show wpAny _ _ ((compStart (.SetComp elt gs scope pos) d it acc env).onRaise (λx=>do noteFrame x env;standAt theWindowsPlace)) _ _ s;apply wpAny_notedAt;unfold compStart;have hc:(clausesOf (.SetComp elt gs scope pos))[d]? = some g:=hg;rw [hc];have hn:(Option.elim (some g) false λx=>x.is_async != 0) = false:=by show (g.is_async != 0) = false;rw [ha];rfl
 rw [hn];show wpAny _ _ (ask >>= λ_=>_) _ _ s;refine ab (eP (wpAny_ite ?_));split
 . exact ay ⟨rfl,h0⟩
 . exact ab (iX (ab (fE (ab (iY h (λit' s' h'=>ay ⟨rfl,h'⟩) λ_ _ x=>x)))))
end
def AM (elt t1 i1 t2 i2:aE) (f1 f2:List aE) (scope:eA) (pos:Pos) (it acc:ah) (env:Env):compTurn (.SetComp elt [⟨t1,i1,f1,0⟩,⟨t2,i2,f2,0⟩] scope pos) 1 it acc env = (do
 standAt i2.pos
 match <- pyNext it with
 | none=>pure (.done .next)
 | some v =>
   letOwnedTupleGo t2 it v
   assign t2 env v
   let mut ok:=true
   for c in f2 do
    if ok then ok <- isTrue c env (eval c env)
   if ok then (do let v <- eval elt env;standAt elt.pos;let _ <- call (.builtin "set.add") [acc,v])
   again (.compLoop (.SetComp elt [⟨t1,i1,f1,0⟩,⟨t2,i2,f2,0⟩] scope pos) 1 it acc env)):=by rfl
def AN (elt t1 i1 t2 i2:aE) (f1 f2:List aE) (scope:eA) (pos:Pos) (it acc:ah) (env:Env):compTurn (.SetComp elt [⟨t1,i1,f1,0⟩,⟨t2,i2,f2,0⟩] scope pos) 0 it acc env = (do
 standAt i1.pos
 match <- pyNext it with
 | none=>pure (.done .next)
 | some v =>
   letOwnedTupleGo t1 it v
   assign t1 env v
   let mut ok:=true
   for c in f1 do
    if ok then ok <- isTrue c env (eval c env)
   if ok then (do
    let x <- eval i2 env
    standAt i2.pos
    let x <- foldedSetIterable i2 env x
    let _ <- runOwn (.compStart (.SetComp elt [⟨t1,i1,f1,0⟩,⟨t2,i2,f2,0⟩] scope pos) 1 (<- holding [x] (pyIter x)) acc env) env)
   again (.compLoop (.SetComp elt [⟨t1,i1,f1,0⟩,⟨t2,i2,f2,0⟩] scope pos) 0 it acc env)):=by
 unfold compTurn;simp only [List.getElem?_cons_zero,wN,bne_self_eq_false,bq,if_false,bind_assoc,pure_bind];rfl
def Ed {X:Cx} {elt t1 i1 t2 i2:aE} {f1 f2:List aE} {scope:eA} {pos:Pos} {wi:TI} {g:TG} {tt:TT} {te:TE} {D:au} (hx:X.xe = λ_ _=>False) (hc:X.calm = true)
 (hi:PI X t2 i2 wi) (hg:PG X t2 g) (ht:PTs X f2 tt) (he:PE X elt te) (hs:∀ x,foldedSetIterable i2 X.env x = pure x) :
 PU X (do
  let x <- eval i2 X.env
  standAt i2.pos
  let x <- foldedSetIterable i2 X.env x
  let _ <- runOwn (.compStart (.SetComp elt [⟨t1,i1,f1,0⟩,⟨t2,i2,f2,0⟩] scope pos) 1 (<- holding [x] (pyIter x)) (.ref D) X.env) X.env) (tIn X.prog X.w wi g tt D te):=by
 intro pins s σ H Q I h;refine ab (thn (hi pins s σ H _ I h) λv s1 h1=>ab (fE (ab (oJ (hs v) (ab (cS (thn h1 λitv s2 h2=>?_)))))));obtain ⟨it,fp,tn,J,H2,e,I2,T,st2,f2',q⟩:=h2;subst e;refine ab (wpAny_runOwn (h:=none) ?_);rw [show X.A.mark none = X.A from rfl]
 have loop:∀ (R:yw->ak->Prop),(∀ s' σ' H',Inv X pins σ' H' s'->Q σ' H'->R (.ok .next) s')->codeAny (model X.prog X.w) X.A (.compLoop (.SetComp elt [⟨t1,i1,f1,0⟩,⟨t2,i2,f2,0⟩] scope pos) 1 (.ref it) (.ref D) X.env) R s2:=λR hR =>
  zT (e:=.SetComp elt [⟨t1,i1,f1,0⟩,⟨t2,i2,f2,0⟩] scope pos) (d:=1) (acc:=.ref D) (ip:=i2.pos) (body:=(do let v <- eval elt X.env;standAt elt.pos;let _ <- call (.builtin "set.add") [.ref D,v])) hx hc rfl rfl rfl (AM ..) T hg ht (Ee he) I2 st2 f2' q hR
 refine rS (g:=⟨t2,i2,f2,0⟩) rfl rfl (loop _ ?_) (T.self _ _ _ _ _ st2 (loop _ ?_))
 . exact λs' σ' H' J' q'=>ay ⟨σ',H',J',q'⟩
 . exact λs' σ' H' J' q'=>ay ⟨σ',H',J',q'⟩
def tSC (P:aQ) (w:bw) (k:Nat) (w1:TI) (g1:TG) (w2:TI) (g2:TG) (tt:TT) (te:TE):TE:=λσ H Q=>w1 σ H λJ H1=>∀ D,H1 D = none ->
 tLp J g1 tTr (tIn P w w2 g2 tt D te) (σ++aO k none) (upd H1 D (SH P w D [])) λ_ H2=>Q (.ref D) H2
def OJ (led:Bool):Obj:={ cls:=.type "set",dict:=none,data:=.set #[] 0 (.fresh 0 0 led) }
def Bt {prog:aQ} {w:bw} {A:bt} {E:ah->ak->Prop} {s:ak} {Q:ah->ak->Prop} (h:Q (.ref s.heap.objs.size) { s with heap:=s.heap.push (OJ (!w.params.followText "set-order")) }):wpAny (model prog w) A (newSet (.type "set")) Q E s:=by
 unfold newSet setsByText;simp only [bind_assoc,pure_bind];exact ab (eP (bu h))
def Bl
 (hx:X.xe = λ_ _=>False) (hc:X.calm = true) (S:oH X scope) (hN:∀ i x,i < X.N.length->Nc[i]? = some x->Vis scope x->X.N[i]? = some x/\scope.names.lookup x = some .free) (hl:X.N.length<=Nc.length)
 (hi:PI X t1 i1 w1) (hg:∀ cl C s H fp,PG (cxC X scope cl C Nc s H fp) t1 g1) (hi2:∀ cl C s H fp,PI (cxC X scope cl C Nc s H fp) t2 i2 w2) (hg2:∀ cl C s H fp,PG (cxC X scope cl C Nc s H fp) t2 g2) (ht:∀ cl C s H fp,PTs (cxC X scope cl C Nc s H fp) f2 tt) (he:∀ cl C s H fp,PE (cxC X scope cl C Nc s H fp) elt te)
 (hs:∀ x,foldedSetIterable i1 X.env x = pure x) (hs2:∀ env x,foldedSetIterable i2 env x = pure x):PE X (.SetComp elt [⟨t1,i1,[],0⟩,⟨t2,i2,f2,0⟩] scope pos) (tSC X.prog X.w (Nc.length - X.N.length) w1 g1 w2 g2 tt te):=by
 intro pins s σ H Q I h;have ee:eval (.SetComp elt [⟨t1,i1,[],0⟩,⟨t2,i2,f2,0⟩] scope pos) X.env = comprehension (.SetComp elt [⟨t1,i1,[],0⟩,⟨t2,i2,f2,0⟩] scope pos) scope X.env i1.pos (newSet (.type "set")) false (eval i1 X.env):=by rfl
 rw [ee];refine lg (use:=none) rfl hs (ye λx hz=>I.ok.has x (S.free x hz)) S.kind S.names (thn (hi pins s σ H _ I h) λv s1 h1=>thn h1 λitv s2 h2=>?_);obtain ⟨it,fp,tn,J,H2,e,I2,T,st2,f2',q⟩:=h2;subst e;refine Bt ?_;have hfr:=I2.fresh;generalize hno:OJ (!X.w.params.followText "set-order") = no;have gD:(s2.heap.push no).get? s2.heap.objs.size = some no:=aH _ (by rw [<- hno];rfl)
 have sx:oF X.prog X.w s2.heap.objs.size [] (s2.heap.push no):=by
  subst hno;exact ⟨#[],0,.fresh 0 0 (!X.w.params.followText "set-order"),[],gD,rfl,rfl,.inl rfl,.refl _,λe he=>by simp at he,.nil⟩
 have I3:Inv X pins σ (upd H2 s2.heap.objs.size (SH X.prog X.w s2.heap.objs.size [])) { s2 with heap:=s2.heap.push no }:=I2.laid (t':=s2.toks) (λb u e=>aj _ e) (ax _) (yK sx);have st3:tn 0 (s2.heap.push no):=T.keep _ _ _ st2 λb _ o e=>aj _ e
 have fl3:∀ b∈fp,b < s2.heap.objs.size:=λb hb=>by
  obtain ⟨o,e,_⟩:=T.obj _ _ st2 b hb;exact aC e
 have ne3:∀ b∈fp,upd H2 s2.heap.objs.size (SH X.prog X.w s2.heap.objs.size []) b = none:=λb hb=>by rw [bx (aR (fl3 b hb))];exact (f2' b hb).1
 have f3:∀ b∈fp,kB X pins (upd H2 s2.heap.objs.size (SH X.prog X.w s2.heap.objs.size [])) b:=λb hb=>⟨ne3 b hb,(f2' b hb).2⟩;have q3:=q s2.heap.objs.size hfr;generalize hH3:upd H2 s2.heap.objs.size (SH X.prog X.w s2.heap.objs.size []) = H3 at I3 ne3 f3 q3;generalize hs3:({ s2 with heap:=s2.heap.push no }:ak) = s3 at I3;have hs3h:s3.heap = s2.heap.push no:=by rw [<- hs3]
 rw [<- hs3h] at st3;have fl4:∀ b∈fp,b < s3.heap.objs.size:=λb hb=>by rw [hs3h,bH];exact bP (fl3 b hb)
 refine jb S.nocell (by intro y hy;simp at hy) (λh1 hns hsb=>?_) S.kind;have keep1:∀ b o,s3.heap.get? b = some o->h1.get? b = some o:=λb o e=>hsb.extBut b o (aR (aC e)) (aj _ e);have J0:=oy (h1:=h1) (t1:=s3.toks+([]:List (Str × ah)).length) S I3 f3 fl4 rfl (by simpa using hns) keep1 hN hl;have st4:tn 0 h1:=T.keep _ _ _ st3 λb _ o e=>keep1 b o e
 have loop:∀ s4:ak,s4 = { s3 with heap:=h1,toks:=s3.toks+([]:List (Str × ah)).length } ->
  codeAny (model X.prog X.w) X.A (.compLoop (.SetComp elt [⟨t1,i1,[],0⟩,⟨t2,i2,f2,0⟩] scope pos) 0 (.ref it) (.ref s2.heap.objs.size) (compEnvC scope (ij X.env scope.names []) s3.heap.objs.size X.env))
   (compPost (model X.prog X.w) X.A X.xe none (EP X pins σ Q) (.ref s2.heap.objs.size) s3.heap.objs.size) s4:=by
  rintro s4 rfl;refine zT (X:=cxC X scope (ij X.env scope.names []) s3.heap.objs.size Nc s3 H3 fp) (ip:=i1.pos) (ifs:=[]) (tt:=tTr) rfl hc rfl rfl rfl (AN ..) T (hg _ _ _ _ _) yY (Ed rfl hc (hi2 _ _ _ _ _) (hg2 _ _ _ _ _) (ht _ _ _ _ _) (he _ _ _ _ _) (hs2 _)) J0 st4 (mq S I3 f3 fl4 rfl ne3) q3 ?_;intro s' σ' H' J' q';obtain ⟨m,hn,_⟩:=J'.loc;exact ⟨m,hn,λh2 hs2=>⟨.ref s2.heap.objs.size,H',mn I3 f3 rfl J' hs2,rfl,q'⟩⟩
 exact rS (g:=⟨t1,i1,[],0⟩) rfl rfl (loop _ rfl) (T.self _ _ _ _ _ st4 (loop _ rfl))
section
variable {prog:aQ} {w:bw} {A:bt} {R:yw->ak->Prop} {I:au} {fp wr:List au} {G:Array Jv->Array Jv->Prop} {n:Nat} {P:Nat->ah->Prop} {St:Nat->ak->Prop}
end
section
variable {prog:aQ} {w:bw} {A:bt} {E:ah->ak->Prop} {s:ak}
end
variable [Tbs]
end PP
end
section
namespace PP
open PySem L2 PyProof.Rows
variable [Tbs]
section
variable {K:PySem.W.Frag} {cx:Cl} {P:aQ} {w:bw}
def Ok.enterX (h:Ok K G F σ H δ) (hp:H p = none) (φ:bJ->Prop):Ok K (G.and p) (λb=>F b\/b = p) σ (upd H p (.ext φ)) δ/\Step G F H (λb=>F b\/b = p) (upd H p (.ext φ)):=h.enterO hp trivial
def Ok.pokeX {G:Gh} {H:Hp} {F:au->Prop} {σ:L2.St} {δ:Loc} {p:au} {φ:bJ->Prop} (h:Ok K (G.and p) F σ H δ) (hg:G.free p) (hP:H p = some (.ext φ)) (ψ:bJ->Prop):Ok K (G.and p) F σ (upd H p (.ext ψ)) δ:=h.pokeO hg hP trivial trivial
def inF (cx:Cl) (tg:Tg) (ifs:Eo) (elt:E):D->Loc->Option (List D × Loc):=λy δi=>do
 let δd <- eB δi tg y
 let (b,δe) <- evG cx ifs δd
 if b then do
  let (z,δf) <- evE cx elt δe
  return ([z],δf)
 else return ([],δe)
def outF (cx:Cl) (k:Nat) (tg1:Tg) (tg2:Tg) (src2:It) (ifs:Eo) (elt:E):D->Loc->Option (List D × Loc):=λx δ0=>do
 let δa <- eB (δ0++aO k .no) tg1 x
 let (es,δb) <- evI cx src2 δa
 let (zs,δc) <- gF (inF cx tg2 ifs elt) es δb
 return (zs,δc.take δ0.length)
def yF (ev:evE cx (.sset k tg1 src1 tg2 src2 ifs elt) δ = some (d,δ')) :
 ∃ ds δ1 ys xs,evI cx src1 δ = some (ds,δ1)/\gF (outF cx k tg1 tg2 src2 ifs elt) ds δ1 = some (ys,δ')/\fO ys = some xs/\xs.length < 4000/\(ia xs).length < 64/\d = .lst (eR ((ia xs).map .str)):=by
 simp only [evE,ae,af] at ev;obtain ⟨⟨ds,δ1⟩,ea,⟨ys,δ2⟩,eb,ev⟩:=ev;dsimp only at ev;split at ev
 . rename_i xs hx;split at ev
   . rename_i hh;cases ev;exact ⟨ds,δ1,ys,xs,ea,eb,hx,hh.1,hh.2,rfl⟩
   . cases ev
 . cases ev
def IQ (h:inF cx tg ifs elt x δ0 = some (o,δ1)):∃ δ2 b δ3,eB δ0 tg x = some δ2/\evG cx ifs δ2 = some (b,δ3) /\
 ((b = true/\∃ y,evE cx elt δ3 = some (y,δ1)/\o = [y])\/(b = false/\o = []/\δ1 = δ3)):=by
 unfold inF at h;simp only [ae,af] at h;obtain ⟨δ2,e1,⟨b,δ3⟩,e2,h⟩:=h;refine ⟨δ2,b,δ3,e1,e2,?_⟩
 cases b with
 | true =>
   simp only [if_true,af] at h;obtain ⟨⟨y,δ4⟩,e3,h⟩:=h;cases h
   exact .inl ⟨rfl,y,e3,rfl⟩
 | false =>
   simp only [bq,if_false] at h;cases h;exact .inr ⟨rfl,rfl,rfl⟩
def Ey (h:outF cx k tg1 tg2 src2 ifs elt x δ0 = some (o,δ1)):∃ δa es δb δc,eB (δ0++aO k .no) tg1 x = some δa/\evI cx src2 δa = some (es,δb)/\gF (inF cx tg2 ifs elt) es δb = some (o,δc)/\δ1 = δc.take δ0.length:=by
 unfold outF at h;simp only [ae,af] at h;obtain ⟨δa,e1,⟨es,δb⟩,e2,⟨zs,δc⟩,e3,h⟩:=h;cases h;exact ⟨δa,es,δb,δc,e1,e2,e3,rfl⟩
def qP {f:D->Loc->Option (List D × Loc)} {x:D} {xs ys:List D} {δ δ':Loc} (h:gF f (x::xs) δ = some (ys,δ')):∃ o δ1 zs,f x δ = some (o,δ1)/\gF f xs δ1 = some (zs,δ')/\ys = o++zs:=by
 unfold gF at h;simp only [ae,af] at h;obtain ⟨⟨o,δ1⟩,e1,⟨zs,δ2⟩,e2,h⟩:=h;cases h;exact ⟨o,δ1,zs,e1,e2,rfl⟩
def qm:∀ {a b:List D} {xs:List Str},fO (a++b) = some xs->∃ xa xb,fO a = some xa/\fO b = some xb/\xs = xa++xb
 | [],b,xs,h=>⟨[],xs,rfl,h,rfl⟩
 | d::a,b,xs,h=>by
   cases d<;>first | (simp [fO] at h;done) | skip
   rename_i x;rw [eE] at h;simp only [fO,aJ] at h;obtain ⟨ys,h1,rfl⟩:=h;obtain ⟨xa,xb,e1,e2,rfl⟩:=qm h1;exact ⟨x::xa,xb,by simp [fO,e1],e2,rfl⟩
def wF (ts:List Str) (x:Str):(kA ts x).length<=ts.length+1:=by
 unfold kA;split
 . lia
 . simp
def Fw {G:Gh} {F1:au->Prop} {H1:Hp} {σ:L2.St} {J:L2.It} {es ys:List D} {δ1 δ2:Loc} {tg:Tg} {ifs:Eo} {elt:E} {p:au} {ts xs:List Str} {Q:L2.St->Hp->Prop} (n:(!bM elt) = true) (hg:G.free p)
 (ok1:Ok K (G.and p) F1 σ H1 δ1) (wk:Wk K G F1 H1 J es) (hD:H1 p = some (SH P w p ts)) (ev:gF (inF cx tg ifs elt) es δ1 = some (ys,δ2)) (hx:fO ys = some xs) (hr:ts.length+xs.length < 4090)
 (q:∀ σ' H2 F2,σ'.length = σ.length->(∀ m,lZ m tg = true->σ'.take m = σ.take m)->Ok K (G.and p) F2 σ' H2 δ2->H2 p = some (SH P w p (xs.foldl kA ts))->Step G F1 H1 F2 H2->((npO ifs && np elt) = true->∀ H0,H0 p = none->Sim H0 H1->Sim H0 H2)->Q σ' H2) :
 tLp J (gTg K tg) (tG K cx ifs) (xB P w p (tE K cx elt)) σ H1 Q:=by
 have hFs:∀ b,G.R b->(G.and p).R b:=λb z=>.inl z
 refine uk (P:=λr F' σc Hc=>∃ δi zs xr ti,σc.length = σ.length/\(∀ m,lZ m tg = true->σc.take m = σ.take m)/\Ok K (G.and p) F' σc Hc δi/\gF (inF cx tg ifs elt) r δi = some (zs,δ2)/\fO zs = some xr/\Hc p = some (SH P w p ti)/\xr.foldl kA ti = xs.foldl kA ts/\ti.length+xr.length < 4090/\Step G F1 H1 F' Hc /\
  ((npO ifs && np elt) = true->∀ H0,H0 p = none->Sim H0 H1->Sim H0 Hc)) wk (λr F σ H z=>by obtain ⟨_,_,_,_,_,_,ok,_,_,_,_,_,st,_⟩:=z;exact ⟨st,ok.fd⟩) (λr F σ H H3 z sm=>by obtain ⟨a1,a2,a3,a4,a5,a6,ok,a7,a8,a9,b1,b2,st,s⟩:=z;exact ⟨a1,a2,a3,a4,a5,a6,ok.same' sm,a7,a8,sm _ _ a9,b1,b2,st.trans (.of_same sm),λq H0 h0 z=>(s q H0 h0 z).trans (.of sm)⟩) ⟨δ1,ys,xs,ts,rfl,λ_ _=>rfl,ok1,ev,hx,hD,rfl,hr,Step.refl,λ_ _ _ z=>z⟩ ?_ ?_
 . rintro d r F' σc H3 x N ⟨δi,zs,xr,ti,hl,htk,ok,el,exr,eD,ef,hr',st,sm⟩ rx hN;have hF:F' p:=ok.rf p (.inr rfl);obtain ⟨o,δ5,zs',eo,el',rfl⟩:=qP el;obtain ⟨δ6,b,δ7,es6,eg,alt⟩:=IQ eo;refine mO ok rx es6 λσ2 ok6 htake=>?_
   have l2:σ2.length = σ.length:=by
    have a1:=ok.len;have a2:=ok6.len;have e1:=oj es6
    lia
   have t2:∀ m,lZ m tg = true->σ2.take m = σ.take m:=λm hm=>(htake m hm).trans (htk m hm);refine ⟨G.and p,F',δ6,b,δ7,ok6,eg,λH7 F7 st7 sm7 ok7=>?_⟩;have keepD:∀ {F8:au->Prop} {H8:Hp},Step (G.and p) F' H3 F8 H8->H8 p = some (SH P w p ti):=λs8=>(s8.res p _ (.inr rfl) hF eD).2;rcases alt with ⟨rfl,y,ee,rfl⟩ | ⟨rfl,rfl,rfl⟩
   . refine By ?_;refine ⟨G.and p,F7,δ7,y,δ5,ok7,ee,λu H8 F8 st8 sm8 ok8 r8=>?_⟩;have s78:=st7.trans st8;have eD8:=keepD s78;have ry:=eH n r8;obtain ⟨xa,xb,ea,eb,rfl⟩:=qm exr
     have hy':∃ x0,y = .str x0/\xa = [x0]:=by
      cases y<;>first | (simp [fO] at ea;done) | skip
      simp [fO] at ea;exact ⟨_,rfl,ea.symm⟩
     obtain ⟨x0,rfl,rfl⟩:=hy';unfold Rel at ry;have hF8:F8 p:=ok8.rf p (.inr rfl);have hal:=wF ti x0;rw [ag,aU] at hr';refine ⟨x0,ti,ry,eD8,by show ti.length+1 < 4096;lia,hN F8 _ _ ⟨δ5,zs',xb,kA ti x0,l2,t2,ok8.pokeX hg eD8 _,el',eb,bN,?_,∅,?_,λz H0 h0 s0=>?_⟩⟩
     . rw [<- ef];rfl
     . have s1:=st.trans (s78.sub hFs);have hF1:F1 p:=ok1.rf p (.inr rfl);refine ⟨λb o t e nf=>?_,s1.grow,λb o r f e=>?_,λb ps e=>?_⟩
       . rw [bx (λw:b = p=>nf (by rw [w];exact hF1))];exact s1.keep b o t e nf
       . obtain ⟨a1,a2⟩:=s1.res b o r f e;refine ⟨a1,?_⟩;rw [bx (λw:b = p=>hg.2 (by rw [<- w];exact r))];exact a2
       . rw [bx (λw:b = p=>by rw [w,hD] at e;cases e)];exact s1.tb b ps e
     . have z':=z;rw [aa] at z';exact (((sm z H0 h0 s0).trans (sm7 z'.1)).trans (sm8 z'.2)).new h0
   . refine xX ?_;refine hN F7 _ _ ⟨_,zs',xr,ti,l2,t2,ok7,el',exr,keepD st7,ef,hr',st.trans (st7.sub hFs),λz H0 h0 s0=>?_⟩;have z':=z;rw [aa] at z';exact (sm z H0 h0 s0).trans (sm7 z'.1)
 . rintro F' σc Hc ⟨δi,zs,xr,ti,hl,htk,ok,el,exr,eD,ef,hr',st,sm⟩;cases el;have:xr = []:=by simpa [fO] using exr.symm
   subst this;exact q _ Hc F' hl htk ok (by rw [<- ef];exact eD) st sm
end
end PP
end
section
namespace PP
open PySem L2 PyProof.Rows
def fzO (b:au) (o:Obj):HO:=.frz o (.ext λh=>h.get? b = some o)
def kJ (H:Hp) (cs:List (au × Obj)):Hp:=λb=>match cs.lookup b with
 | some o=>some (fzO b o)
 | none=>H b
def ig (H:Hp) (cs:List (au × Obj)):Hp:=λb=>match cs.lookup b with
 | some _=>none
 | none=>H b
section
variable {P:aQ} {w:bw} {H H':Hp} {h h':bJ} {cs:List (au × Obj)}
def nH (e:cs.lookup b = some o):kJ H cs b = some (fzO b o):=by unfold kJ;rw [e]
def dr (e:cs.lookup b = none):kJ H cs b = H b:=by unfold kJ;rw [e]
def lG (e:cs.lookup b = some o):ig H cs b = none:=by unfold ig;rw [e]
def cH (e:cs.lookup b = none):ig H cs b = H b:=by unfold ig;rw [e]
def Un0 (H:Hp) (h:bJ) (cs:List (au × Obj)):Prop:=∀ b o,cs.lookup b = some o->H b = none/\h.get? b = some o
def Ad (c:Un0 H h cs) (e:H b = some u):kJ H cs b = some u:=by
 cases q:cs.lookup b with
 | none=>rw [dr q];exact e
 | some o=>rw [(c b o q).1] at e;cases e
def ft.mono:∀ {u:HO},ft P w H h a u->(∀ b x,(∀ o,x≠fzO b o)->H b = some x->H' b = some x)->ft P w H' h a u
 | .lst _,x,_=>x
 | .tup _,x,_=>x
 | .dK _,x,_=>x
 | .dT kvs,x,k=>by
   obtain ⟨x1,x2,xs,x3,x4⟩:=x
   refine ⟨x1,x2,xs,L2.Paired.mapP x3 λp q z=>⟨z.1,k _ _ (λo=>by unfold fzO;intro z;cases z) z.2.1,z.2.2⟩,x4⟩
 | .set _ _,x,_=>x
 | .ins _ _ _,x,k=>by
   obtain ⟨x1,x2⟩:=x
   exact ⟨k _ _ (λo=>by unfold fzO;intro z;cases z) x1,x2⟩
 | .own _,x,_=>x
 | .xd _,x,_=>x
 | .met _ _,x,_=>x
 | .rng _ _,x,_=>x
 | .frz _ u,x,k=>⟨x.1,ft.mono x.2 k⟩
 | .tbl _,x,_=>x
 | .ext _,x,_=>x
def HOk.add (x:HOk P w H h) (c:Un0 H h cs):HOk P w (kJ H cs) h:=λa u e=>by
 cases q:cs.lookup a with
 | none =>
   rw [dr q] at e
   exact ft.mono (x a u e) λb y _ z=>Ad c z
 | some o =>
   rw [nH q] at e;cases e;have g:=(c a o q).2;exact ⟨g,g,⟨o,g⟩,λh1 h2 e1 k=>k _ e1⟩
def Fz0 (H:Hp) (cs:List (au × Obj)):Prop:=∀ b o,cs.lookup b = some o->H b = some (fzO b o)
def HOk.del (x:HOk P w H h) (c:Fz0 H cs):HOk P w (ig H cs) h:=λa u e=>by
 cases q:cs.lookup a with
 | some o=>rw [lG q] at e;cases e
 | none =>
   rw [cH q] at e;refine ft.mono (x a u e) λb y n z=>?_
   cases r:cs.lookup b with
   | none=>rw [cH r];exact z
   | some o =>
     rw [c b o r] at z;cases z;exact absurd rfl (n o)
def Un.del (u:Un fs ex (kJ H cs) H' h h') (x:HOk P w H' h') (c:Un0 H h cs) (nf:∀ b o,cs.lookup b = some o->b∉fs/\b∉ex):Un fs ex H (ig H' cs) h h'/\Fz0 H' cs:=by
 have fz:Fz0 H' cs:=λb o e=>u.frzs b o _ (nH e);refine ⟨⟨λb o e n hb hx=>?_,λb o e n hb hx=>?_,λb o e n hx=>?_,u.there,λb xs e=>?_,λb o y e=>?_,λb ps e=>?_⟩,fz⟩
 . cases q:cs.lookup b with
   | none=>exact u.keep b o e (by rw [dr q];exact n) hb hx
   | some o' =>
     have g:=(c b o' q).2;rw [e] at g;cases g;exact (x b _ (fz b o q)).1
 . cases q:cs.lookup b with
   | none=>exact u.slot b o e (by rw [dr q];exact n) hb hx
   | some o'=>exact absurd hb (nf b o' q).1
 . cases q:cs.lookup b with
   | none=>rw [cH q];exact u.free b o e (by rw [dr q];exact n) hx
   | some o'=>exact lG q
 . cases q:cs.lookup b with
   | none=>rw [cH q];exact u.tups b xs (by rw [dr q];exact e)
   | some o'=>rw [(c b o' q).1] at e;cases e
 . cases q:cs.lookup b with
   | none=>rw [cH q];exact u.frzs b o y (by rw [dr q];exact e)
   | some o'=>rw [(c b o' q).1] at e;cases e
 . cases q:cs.lookup b with
   | none=>rw [cH q];exact u.tbls b ps (by rw [dr q];exact e)
   | some o'=>rw [(c b o' q).1] at e;cases e
def uO.add {K:PySem.W.Frag} {mg:Str->Option ah} {base:bJ} {A:bt} {outer:List Env} {s:ak} (e:uO P w K mg base A outer s H) (c:Un0 H s.heap cs) (nb:∀ b o,cs.lookup b = some o->base.get? b = none/\b∉frs outer):uO P w K mg base A outer s (kJ H cs) :=
 ⟨e.frames,e.mod,λb o z=>⟨(e.bs b o z).1,by
   cases q:cs.lookup b with
   | none=>rw [dr q];exact (e.bs b o z).2
   | some o'=>rw [(nb b o' q).1] at z;cases z⟩,e.bsz,e.funs,λb hb=>by
   cases q:cs.lookup b with
   | none=>rw [dr q];exact e.frf b hb
   | some o'=>exact absurd hb (nb b o' q).2,HOk.add e.hok c,e.bare⟩
end
def Inv.callF (I:Inv X pins σ H s) (c:Un0 H s.heap cs) (nf:∀ b o,cs.lookup b = some o->b∉frs X.stack)
 (h:CE X.stack X.prog X.w (kJ H cs) s Q u s'):∃ v H',Inv X pins σ (ig H' cs) s'/\RelV v u/\Fz0 H' cs/\Q v H':=by
 obtain ⟨v,H',os,bare,un,hok,r,qq⟩:=h;obtain ⟨hh,g,d,t,os'⟩:=s';obtain rfl:os' = s.os:=os;obtain ⟨un',fz⟩:=Un.del un hok c λb o e=>⟨nf b o e,↥0⟩;exact ⟨v,H',I.call (h':=hh) (g':=g) (d':=d) (t':=t) (ch:=[]) un' (HOk.del hok fz) bare (λb z=>absurd z ↥0),r,fz,qq⟩
end PP
end
section
namespace PP
open PySem L2 PyProof.Rows
variable [Tbs]
section
variable {K:PySem.W.Frag} {H:Hp} {F:au->Prop}
end
section
variable {X:Cx} {cx:Cl}
end
section
variable {cx:Cl} {k:Nat}
def gY:∀ {es:Es},ie es = true->ox es = true
 | .nil,_=>rfl
 | .cons e es,h=>by
   have h':(!bM e && ie es) = true:=h;rw [aa] at h';show ((!bM e || npS es) && ox es) = true;rw [h'.1,gY h'.2];rfl
def jz:∀ {es:Es} {ys:List aE},gE c es ys = true->(backTo pos (starEach ys env)).any (·.1) = false
 | .nil,ys,h=>by obtain ⟨rfl,_⟩:=fH h;rfl
 | .cons e es,ys,h=>by
   obtain ⟨_,_,rfl,hh⟩:=eI h;rw [aa] at hh;rw [cK (cb hh.1)];show (false || (backTo pos (starEach _ env)).any (·.1)) = false;rw [jz hh.2];rfl
def mQ (C:Cok X c cx k) (h:jW c sc = true):oH X sc:=by
 unfold jW at h;rw [aa,eF] at h;obtain ⟨h1,h2⟩:=h
 have q:∀ p∈sc.names,p.2≠.cell/\(p.2 = .local->sc.names.lookup p.1 = some .local)/\(p.2 = .free->c.sc.names.lookup p.1 = some .cell\/c.sc.names.lookup p.1 = some .free):=λp hp=>by
  have z:=h2 p hp;rw [aa,aa] at z;obtain ⟨⟨a,b⟩,d⟩:=z;refine ⟨of_decide_eq_true a,λe=>?_,λe=>?_⟩
  . rw [dv] at b;rcases b with b | b
    . simp [e] at b
    . exact of_decide_eq_true b
  . rw [dv] at d;rcases d with d | d
    . simp [e] at d
    . split at d
      . exact .inl ‹_›
      . exact .inr ‹_›
      . cases d
 exact ⟨of_decide_eq_true h1,λy hy=>(q y hy).1,λy hy e=>(q y hy).2.1 e,λx hx=>C.kc x ((q _ hx).2.2 rfl)⟩
def en (C:Cok X c cx k) (h:jW c sc = true) (hn:Nc.Nodup) (cl:List (Str × au)) (Ca:au) (s:ak) (H:Hp) (fp:List au):Cok (cxC X sc cl Ca Nc s H fp) ⟨Nc,sc,c.fns,c.gn⟩ cx k:=by
 have S:=mQ C h;have kd:∀ x,(cxC X sc cl Ca Nc s H fp).env.kindOf x = (sc.names.lookup x).map λk=>if (k == bT && X.env.scope.kind == .function && X.env.kindOf x == some .cell) then lP else k:=λx=>oC x
 refine ⟨rfl,hn,λx hx=>?_,λx hx=>?_,λx hx=>?_,λx hx=>?_,C.calm,rfl,C.room,C.fns,C.fnF,C.fnO,C.lam,C.blt,C.glob,C.gsome,C.gds,C.pos⟩
 . have e:=kd x;show (cxC X sc cl Ca Nc s H fp).env.kindOf x = some .local\/(cxC X sc cl Ca Nc s H fp).env.kindOf x = some .cell\/(cxC X sc cl Ca Nc s H fp).env.kindOf x = some .free;rw [e];rcases hx with hx | hx | hx
   . rw [hx];exact .inl rfl
   . exact absurd rfl (S.nocell _ (PySem.mem_of_lookup hx))
   . rw [hx];simp only [dq];split
     . exact .inr (.inl rfl)
     . exact .inr (.inr rfl)
 . show (cxC X sc cl Ca Nc s H fp).env.kindOf x = some .globalImplicit;rw [kd x];have hx:sc.names.lookup x = some .globalImplicit:=hx;rw [hx];rfl
 . have:sc.names.lookup x = some .local:=by
    rcases hx with hx | hx
    . exact hx
    . exact absurd rfl (S.nocell _ (PySem.mem_of_lookup hx))
   have e:(cxC X sc cl Ca Nc s H fp).env.kindOf x = some .local:=by rw [kd x,this];rfl
   exact ⟨.inl e,.inr e⟩
 . rw [kd x];have hx:sc.names.lookup x = some .cell\/sc.names.lookup x = some .free:=hx;rcases hx with hx | hx
   . exact absurd rfl (S.nocell _ (PySem.mem_of_lookup hx))
   . rw [hx];simp only [dq];split
     . exact .inl rfl
     . exact .inr rfl
def jC (h:namesOk c sc Nc = true):Nc.Nodup/\∀ i x,i < c.N.length->Nc[i]? = some x->Vis sc x->c.N[i]? = some x/\sc.names.lookup x = some .free:=by
 unfold namesOk at h;rw [aa,eF] at h;refine ⟨of_decide_eq_true h.1,λi x hi e v=>?_⟩;have z:=h.2 i (by simpa using hi);rw [e] at z;dsimp only at z;rw [dv,aa] at z
 have vb:AL sc x = true:=by
  unfold AL;rcases v with v | v | v<;>rw [v]
 rcases z with z | ⟨z1,z2⟩
 . rw [vb] at z;cases z
 . exact ⟨of_decide_eq_true z1,of_decide_eq_true z2⟩
def wj {X:Cx} {c:Ck} {Nc:List Str} {kk:Nat} {tg:Tg} {src:It} {ifs:Eo} {elt:E} {pins:List (au × Obj)} {s:ak} {σ:L2.St} {H:Hp} {Q:VK} (C:Cok X c cx k) (I:Inv X pins σ H s) (n:(!bM elt) = true) (hk:Nc.length = c.N.length+kk) (hge:lZ c.N.length tg = true)
 {G:Gh} {F:au->Prop} {δ δ':Loc} {d:D} (ok:Ok X.K G F σ H δ) (ev:evE cx (.comp kk tg src ifs elt) δ = some (d,δ'))
 (q:∀ p ys xs H1 F1 H2 F2,d = .lst ys->Step G F H F1 H1->Step G F1 H1 F2 H2->H1 p = none->G.free p->Ok X.K (G.and p) F2 σ H2 δ'->H2 p = some (.lst xs)->aN X.K H2 F2 ys xs->(np (.comp kk tg src ifs elt) = true->Sim H H2)->Q (.ref p) H2) :
 tLC (Nc.length - X.N.length) (tI X.K cx src) (gTg X.K tg) (tG X.K cx ifs) (tE X.K cx elt) σ H Q:=by
 obtain ⟨ds,δ1,ys,ei,ec,hz,rfl⟩:=Jc ev;have ek:Nc.length - X.N.length = kk:=by rw [C.hN,hk];lia
 rw [ek];refine ⟨G,F,δ,ds,δ1,ok,ei,λJ H1 F1 st1 sm1 ok1 wk=>λp hp=>?_⟩;have hg:=ok1.free hp;refine yc n (by rw [I.len,C.hN];exact hge) ok1 (wk _) hp ec hz λσ' H2 F2 xs ok2 eD rl st2 sm2=>?_;refine q p ys xs H1 F1 H2 F2 rfl st1 st2 hp hg ok2 eD rl λz=>?_;have z':(npI src && npO ifs && np elt) = true:=z;rw [aa,aa] at z';exact (sm1 z'.1.1).trans (sm2 (by rw [z'.1.2,z'.2];rfl))
def FU {X:Cx} {c:Ck} {Nc:List Str} {kk:Nat} {tg:Tg} {src:It} {ifs:Eo} {elt:E} {pins:List (au × Obj)} {s:ak} {σ:L2.St} {H:Hp} {Q:VK} (C:Cok X c cx k) (I:Inv X pins σ H s) (n:(!bM elt) = true) (hk:Nc.length = c.N.length+kk) (hge:lZ c.N.length tg = true)
 (h:tE X.K cx (.comp kk tg src ifs elt) σ H Q):tLC (Nc.length - X.N.length) (tI X.K cx src) (gTg X.K tg) (tG X.K cx ifs) (tE X.K cx elt) σ H Q:=by
 obtain ⟨G,F,δ,d,δ',ok,ev,post⟩:=h;refine wj C I n hk hge ok ev λp ys xs H1 F1 H2 F2 e st1 st2 hp hg ok2 eD rl sm=>?_;subst e
 have st':Step G F1 H1 (λb=>F2 b/\b≠p) H2:=⟨st2.keep,λb z=>st2.grow b z.1,λb o r f e=>by
  obtain ⟨a1,a2⟩:=st2.res b o r f e;exact ⟨⟨a1,λw=>by rw [w,hp] at e;cases e⟩,a2⟩,st2.tb⟩
 refine post (.ref p) H2 _ (st1.trans st') sm (ok2.leave hg) (gf ?_);unfold Rel;exact ⟨p,xs,rfl,.inl ⟨.inl eD,λz=>z.2 rfl⟩,aN.less ok2.fd (λb z=>z.1) rl⟩
def DD (C:Cok X c cx k) (n:(!bM elt) = true) (hk:Nc.length = c.N.length+kk) (hge:lZ c.N.length tg = true) (hs:jW c sc = true) (hn:namesOk c sc Nc = true)
 (htg:∀ cl Ca s H fp,PG (cxC X sc cl Ca Nc s H fp) t (gTg X.K tg)) (hI:PI X t it (tI X.K cx src)) (hG:∀ cl Ca s H fp,PTs (cxC X sc cl Ca Nc s H fp) il (tG X.K cx ifs)) (hE:∀ cl Ca s H fp,PE (cxC X sc cl Ca Nc s H fp) ex (tE X.K cx elt))
 (hset:∀ v,foldedSetIterable it X.env v = pure v):PE X (.ListComp ex [⟨t,it,il,0⟩] sc pos) (tE X.K cx (.comp kk tg src ifs elt)):=by
 obtain ⟨nd,hvis⟩:=jC hn;intro pins s σ H Q I h;refine Et (Nc:=Nc) C.xe C.calm (mQ C hs) (λi x hi=>by rw [C.hN] at hi |-;exact hvis i x hi) (by rw [C.hN,hk];lia) hI htg hG hE hset pins s σ H Q I ?_;exact FU C I n hk hge h
def call_of {X:Cx} {c:Ck} {f:Nat} {es:Es} {n:Str} {p pos:Pos} {xs:List aE} (C:Cok X c cx k) (hA:PA X xs (tEs X.K cx es)) (h:(match c.fns[f]? with
 | some (m,ps)=>decide (m = n) && fI c n && decide (ps.length = wb es) && gE c es xs && ie es && !xs.isEmpty
 | none=>false) = true):PE X (.Call (.Name n p) xs [] pos) (tE X.K cx (.call f es)):=by
 split at h
 . rename_i m ps ef;simp only [aa] at h;obtain ⟨⟨⟨⟨⟨h1,h2⟩,h3⟩,h4⟩,h5⟩,h6⟩:=h;have e:=of_decide_eq_true h1;subst e;obtain ⟨a,fd,hm,hk,hb,fn⟩:=C.fns f _ _ ef;obtain ⟨g1,g2,g3⟩:=C.global h2
   cases xs with
   | nil=>simp at h6
   | cons y ys =>
     obtain ⟨_,_,_,a1,a2⟩:=eM h4;exact DE h5 fn C.room g1 hm hk hb hA g2 (cK (cb a1) _ _) (jz a2)
 . cases h
def Nl (C:Cok X c cx k) (hg:fI c (sI f) = true) (ht:tyName f = none) (hA:PA X (y::ys) (tEs X.K cx es)) (h:gE c es (y::ys) = true):PE X (.Call (.Name (sI f) p) (y::ys) [] pos) (tE X.K cx (.blt f es)):=by
 obtain ⟨g1,g2,g3⟩:=C.global hg;obtain ⟨e,es',rfl,h1,h2⟩:=eM h;have he:=cK (cb h1) ys X.env;have hpl:=jz (env:=X.env) (pos:=pos) h2
 cases f with
 | len=>exact ly IF rfl (mV Ni g1 (C.blt _ ⇑0) rfl hA g3 g2 he hpl)
 | toInt=>exact ly qi rfl (jB Nj g1 (C.blt _ ⇑0) rfl hA g3 g2 he hpl)
 | toStr=>exact ly tB rfl (jB Ng g1 (C.blt _ ⇑0) rfl hA g3 g2 he hpl)
 | toTup=>exact ly tu rfl (jB Nf g1 (C.blt _ ⇑0) rfl hA g3 g2 he hpl)
 | toLst=>exact ly nZ rfl (jB Nh g1 (C.blt _ ⇑0) rfl hA g3 g2 he hpl)
 | sorted=>exact ly pD rfl (mV (BK C.units) g1 (C.blt _ ⇑0) rfl hA g3 g2 he hpl)
 | _=>cases ht
end
section
variable {X:Cx} {cx:Cl} {k:Nat}
def FnV.at (I:Inv X pins σ H s) (h:FnV H n cs a):PySem.W.FnAt a s.heap:=by
 obtain ⟨L,pm,ctv,c',oc,vs,tk,cells,h1,h2,_⟩:=h;exact ⟨_,_,_,_,(I.hok a _ h2).1⟩
def Ba (C:Cok X c cx k) (hx:fe c i x = true) (n:ie es = true) (hA:PA X (y::ys) (tEs X.K cx es)) (he:starEach (y::ys) X.env = (false,eval y X.env)::starEach ys X.env) (hpl:(backTo pos (starEach ys X.env)).any (·.1) = false) :
 PE X (.Call (.Name x p) (y::ys) [] pos) (tE X.K cx (.callv i es)):=by
 obtain ⟨n1,n2,n3,n4⟩:=C.name hx;intro pins s σ H Q I h;obtain ⟨G,F,δ,d,δ',ok,ev,post⟩:=h;simp only [evE,ae,af] at ev;obtain ⟨⟨ds,δ1⟩,ea,ev⟩:=ev
 cases q:δ[i]? with
 | none=>rw [q] at ev;cases ev
 | some sl =>
   rw [q] at ev
   cases sl with
   | no=>cases ev
   | val _=>cases ev
   | own _=>cases ev
   | fnc m cs =>
     dsimp only at ev;split at ev
     . rename_i hl;rw [aJ] at ev;obtain ⟨r,er,e⟩:=ev;cases e
       have er':cx.call m (ds++cs) = some d/\lf d = true:=by
        cases z:cx.call m (ds++cs) with
        | none=>rw [z] at er;cases er
        | some r =>
          rw [z] at er;unfold lfO at er;split at er
          . split at er
            . rename_i e2 h2;cases er;cases e2;exact ⟨rfl,h2⟩
            . cases er
          . cases er
       obtain ⟨a,es',fv⟩:=ok.sl i _ q;refine gQ (thn (jY n1 n2 n3 n4 pins s σ H (λv H1=>v = .ref a/\H1 = H) I ⟨.ref a,es',rfl,rfl⟩) λu s1 ⟨v,H1,I1,rv,e1,e2⟩=>?_);subst e1;subst e2;obtain rfl:u = iZ a:=rv;refine PySem.W.callWith_F (fv.at I1) (thn (hA pos pins s1 σ H1 (λvs H2=>∃ F2,Step G F H1 F2 H2/\(npS es = true->Sim H1 H2)/\Ok X.K G F2 σ H2 δ'/\aN X.K H2 F2 ds vs) I1 ⟨G,F,δ,ds,δ',ok,ea,λvs H2 F2 st sm ok2 r2=>⟨F2,st,sm,ok2,r2.rl n⟩⟩) λus s2 ⟨vs,H2,I2,rvs,F2,st,sm,ok2,rl⟩=>?_) he hpl;have fv2:FnV H2 m cs a:=fv.keep (pI ok.fd st.keep);refine ⟨fv2.at I2,?_⟩;refine Nv (mz (C.lam m cs H2 a fv2 X.A X.stack s2 H2 a us vs cs Q C.room I2.env0 rvs fv2 ⟨F2,ds,d,ok2.fd,ok2.tf,ok2.tabs,rl,hl,er'.1,er'.2,λv H' s3 t3 r3=>?_⟩) λr s' hq=>?_)
       . exact post v H' F2 (st.trans (ok2.call s3 t3).2) (λz=>(sm z).trans s3) (ok2.call s3 t3).1 (gf r3)
       . cases r with
         | error e=>exact (Ew pins σ H2 s2 e s' I2 hq)
         | ok fl =>
           cases fl with
           | ret u=>exact I2.after hq
           | next=>exact cE hq
           | brk=>exact cE hq
           | cont=>exact cE hq
     . cases ev
def xA (K:PySem.W.Frag) (cx:Cl) (es:Es) (tz:TE):TA:=λσ H Q=>∃ G F δ ds δ',Ok K G F σ H δ/\dH cx es δ = some (ds,δ') /\
 ∀ vs H' F',Step G F H F' H'->(npS es = true->Sim H H')->Ok K G F' σ H' δ'->nI K H' F' es ds vs->tz σ H' λv H2=>Q (vs++[v]) H2
def DA (hz:PE X z tz) (hs:starEach [z] X.env = (false,eval z X.env)::starEach [] X.env):PA X [z] (xA X.K cx .nil tz):=by
 refine λpos pins s σ H Q I h=>jZ hz qC hs pos pins s σ H Q I ?_;obtain ⟨G,F,δ,ds,δ',ok,ev,post⟩:=h;simp only [dH] at ev;cases ev;exact post [] H F Step.refl (λ_=>Sim.refl H) ok ⟨rfl,rfl⟩
def AZ (pc:(!bM a || npS es) = true) (ha:PE X y (tE X.K cx a)) (hr:PA X (ys++[z]) (xA X.K cx es tz)) (hs:starEach (y::(ys++[z])) X.env = (false,eval y X.env)::starEach (ys++[z]) X.env):PA X (y::ys++[z]) (xA X.K cx (.cons a es) tz):=by
 refine λpos pins s σ H Q I h=>jZ ha hr hs pos pins s σ H Q I ?_;obtain ⟨G,F,δ,ds,δ',ok,ev,post⟩:=h;simp only [dH,ae,af] at ev;obtain ⟨⟨x,δ1⟩,ea,⟨ds',δ2⟩,eb,e⟩:=ev;cases e;refine ⟨G,F,δ,x,δ1,ok,ea,λv H1 F1 st1 sm1 ok1 r1=>⟨G,F1,δ1,ds',δ2,ok1,eb,λvs H2 F2 st2 sm2 ok2 r2=>?_⟩⟩;refine post (v::vs) H2 F2 (st1.trans st2) (λz=>?_) ok2 ⟨x,ds',v,vs,rfl,rfl,RelM.step ok1.fd st2 (λz=>sm2 (by rw [z] at pc;simpa using pc)) r1,r2⟩;have z':(np a && npS es) = true:=z;rw [aa] at z';exact (sm1 z'.1).trans (sm2 z'.2)
def oa (hz:starEach [z] env = (false,eval z env)::starEach [] env):∀ {es:Es} {ys:List aE},gE c es ys = true->(backTo pos (starEach (ys++[z]) env)).any (·.1) = false
 | .nil,ys,h=>by
   obtain ⟨rfl,_⟩:=fH h
   rw [cD,hz];rfl
 | .cons e es,ys,h=>by
   obtain ⟨_,_,rfl,hh⟩:=eI h;rw [aa] at hh;rw [eE,cK (cb hh.1)];show (false || (backTo pos (starEach _ env)).any (·.1)) = false;rw [oa hz hh.2];rfl
def Bb (C:Cok X c cx k) (n:ie es = true) (hx:fe c i g = true) (fn:lM X.prog X.w X.K X.mg X.base CX0 k a fd ps (AV X.K (cx.call f))) (hg:Gl X x)
 (hm:X.mg x = some (.ref a)) (hk:PySem.W.keepIn X.K (.ref a) = true) (hb:Binds X.K fd ps []) (hA:PA X (y::(ys++[.Name g gp])) (xA X.K cx es (KQ i))) (hd:(x == ("__debug__":Str)) = false) (he:starEach (y::(ys++[.Name g gp])) X.env = (false,eval y X.env)::starEach (ys++[.Name g gp]) X.env) (hpl:(backTo pos (starEach (ys++[.Name g gp]) X.env)).any (·.1) = false) :
 PE X (.Call (.Name x p) (y::(ys++[.Name g gp])) [] pos) (tE X.K cx (.callF f es i)):=by
 refine PE.imp (ze fn C.room hg hm hk hb .nil (Ew) hA hd he hpl) λσ H Q h=>?_;obtain ⟨G,F,δ,d,δ',ok,ev,post⟩:=h;simp only [evE,ae,af] at ev;obtain ⟨⟨ds,δ1⟩,ea,ev⟩:=ev;dsimp only at ev
 cases q:δ1[i]? with
 | none=>rw [q] at ev;cases ev
 | some sl =>
   rw [q] at ev
   cases sl with
   | no=>cases ev
   | val _=>cases ev
   | own _=>cases ev
   | fnc m cs =>
     dsimp only at ev;split at ev
     . rw [aJ] at ev;obtain ⟨r,er,e⟩:=ev;cases e;refine ⟨G,F,δ,ds,δ',ok,ea,λvs H1 F1 st1 sm1 ok1 r1=>?_⟩;obtain ⟨b,eb,fv⟩:=ok1.sl i _ q;refine ⟨.ref b,eb,?_⟩;show AV X.K (cx.call f) (vs++[.ref b]++[]) H1 Q E0;rw [aY];exact ⟨F1,ds,vs,m,cs,b,d,ok1.fd,ok1.tf,ok1.tabs,rfl,r1.rl n,fv,er,λv H2 s2 t2 r2=>post v H2 F1 (st1.trans (ok1.call s2 t2).2) (λz=>(sm1 z).trans s2) (ok1.call s2 t2).1 (gf r2)⟩
     . cases ev
def FZ (C:Cok X c cx k) (hA:PA X xs (tEs X.K cx es)) (h:(fe c i n && gE c es xs && ie es && !xs.isEmpty) = true):PE X (.Call (.Name n p) xs [] pos) (tE X.K cx (.callv i es)):=by
 simp only [aa] at h;obtain ⟨⟨⟨h1,h2⟩,h3⟩,h4⟩:=h
 cases xs with
 | nil=>simp at h4
 | cons y ys =>
   obtain ⟨_,_,_,a1,a2⟩:=eM h2;exact Ba C h1 h3 hA (cK (cb a1) _ _) (jz a2)
def Ge (C:Cok X c cx k) (hA:gE c es xs.dropLast = true->ox es = true->∀ z tz,PE X z tz->starEach [z] X.env = (false,eval z X.env)::starEach [] X.env->PA X (xs.dropLast++[z]) (xA X.K cx es tz))
 (h:(match c.fns[f]?,xs.getLast? with
   | some (m,ps),some y=>eJ y λy=>decide (m = n) && fI c n && decide (ps.length = wb es+1) && gE c es xs.dropLast && ie es && fe c i y && !xs.dropLast.isEmpty
   | _,_=>false) = true):PE X (.Call (.Name n p) xs [] pos) (tE X.K cx (.callF f es i)):=by
 split at h
 . rename_i m ps gx ef eg;obtain ⟨g,gp,rfl,hh⟩:=cy h;simp only [aa] at hh;obtain ⟨⟨⟨⟨⟨⟨h1,h2⟩,h3⟩,h4⟩,h5⟩,h6⟩,h7⟩:=hh;obtain ⟨ys,rfl⟩:=List.getLast?_eq_some_iff.mp eg;rw [Al] at h4 h7 hA;by_cases hf:cx.hf f = true
   . obtain ⟨a,fd,hm,hk,hb,fn⟩:=C.fnF f _ _ ef hf;have e:=of_decide_eq_true h1;subst e;obtain ⟨g1,g2,g3⟩:=C.global h2;obtain ⟨n1,n2,n3,n4⟩:=C.name h6;have A:=hA h4 (gY h5) (.Name g gp) (KQ i) (jY n1 n2 n3 n4) rfl
     cases ys with
     | nil=>simp at h7
     | cons y ys =>
       obtain ⟨_,_,_,a1,a2⟩:=eM h4;exact Bb C h5 h6 fn g1 hm hk hb A g2 (cK (cb a1) _ _) (oa rfl a2)
   . intro pins s σ H Q I h;obtain ⟨G,F,δ,d,δ',ok,ev,post⟩:=h;simp only [evE,ae,af] at ev;obtain ⟨⟨ds,δ1⟩,ea,ev⟩:=ev;dsimp only at ev;split at ev
     . rw [if_neg hf] at ev;cases ev
     . cases ev
 . cases h
end
section
variable {K:PySem.W.Frag} {cx:Cl} {P:aQ} {w:bw} {k:Nat}
def mU:∀ (us:List Str) (zs:List V),aN K H F (us.map .str) zs->zs = us.map V.str
 | [],zs,h=>by unfold aN at h;exact h
 | u::us,zs,h=>by
   rw [aW] at h;unfold aN at h;obtain ⟨y,ys,rfl,r1,r2⟩:=h;unfold Rel at r1;rw [r1,mU us ys r2,aW]
def Bn {G:Gh} {F1:au->Prop} {H1:Hp} {σ:L2.St} {J:L2.It} {ds ys:List D} {δ1 δ2:Loc} {k:Nat} {tg1 tg2:Tg} {src2:It} {ifs:Eo} {elt:E} {p:au} {xs:List Str} {Q:L2.St->Hp->Prop} (n:(!bM elt) = true) (hge1:lZ σ.length tg1 = true) (hge2:lZ σ.length tg2 = true)
 (ok1:Ok K G F1 σ H1 δ1) (wk:Wk K G F1 H1 J ds) (hp:H1 p = none) (ev:gF (outF cx k tg1 tg2 src2 ifs elt) ds δ1 = some (ys,δ2)) (hx:fO ys = some xs) (hr:xs.length < 4000)
 (q:∀ σ' H2 F2,Ok K (G.and p) F2 σ H2 δ2->H2 p = some (SH P w p (ia xs))->Step G F1 H1 F2 H2->((npI src2 && (npO ifs && np elt)) = true->Sim H1 H2)->Q σ' H2) :
 tLp J (gTg K tg1) tTr (tIn P w (tI K cx src2) (gTg K tg2) (tG K cx ifs) p (tE K cx elt)) (σ++aO k none) (upd H1 p (SH P w p [])) Q:=by
 have hg:=ok1.free hp;obtain ⟨ok2,st2⟩:=ok1.enterX hp (oF P w p []);have hFs:∀ b,G.R b->(G.and p).R b:=λb z=>.inl z
 refine uk (P:=λr F' σc Hc=>∃ δi zs xr ti,(∃ tl:L2.St,σc = σ++tl/\tl.length = k)/\Ok K (G.and p) F' σ Hc δi/\gF (outF cx k tg1 tg2 src2 ifs elt) r δi = some (zs,δ2)/\fO zs = some xr/\Hc p = some (SH P w p ti)/\xr.foldl kA ti = ia xs/\ti.length+xr.length < 4001/\Step G F1 H1 F' Hc /\
  ((npI src2 && (npO ifs && np elt)) = true->Sim H1 Hc)) wk (λr F σ H z=>by obtain ⟨_,_,_,_,_,ok,_,_,_,_,_,st,_⟩:=z;exact ⟨st,ok.fd⟩) (λr F σ H H3 z sm=>by obtain ⟨a1,a2,a3,a4,a5,ok,a7,a8,a9,b1,b2,st,s⟩:=z;exact ⟨a1,a2,a3,a4,a5,ok.same' sm,a7,a8,sm _ _ a9,b1,b2,st.trans (.of_same sm),λq=>(s q).trans (.of sm)⟩) (F0:=λb=>F1 b\/b = p) ⟨δ1,ys,xs,[],⟨_,rfl,↥0⟩,ok2,ev,hx,bN,rfl,by simp;lia,st2,λ_=>.of (cn hp _)⟩ ?_ ?_
 . rintro d r F' _ H3 x N ⟨δi,zs,xr,ti,⟨tl,rfl,htl⟩,ok,el,exr,eD,ef,hr',st,sm⟩ rx hN;have hF:F' p:=ok.rf p (.inr rfl);obtain ⟨o,δ5,zs',eo,el',rfl⟩:=qP el;obtain ⟨δa,es,δb,δc,e1,e2,e3,rfl⟩:=Ey eo;obtain ⟨xa,xb,ea,eb,rfl⟩:=qm exr;rw [ag] at hr';have okx:Ok K (G.and p) F' (σ++tl) H3 (δi++aO k .no):=by rw [<- htl];exact ok.ext tl
   refine mO okx rx e1 λσ2 ok6 htake=>?_;have t2:σ2.take σ.length = σ:=by rw [htake _ hge1,Js];rfl
   have l2:σ2.length = σ.length+k:=by
    have a1:=okx.len;have a2:=ok6.len;have e1:=oj e1;have e2:(σ++tl).length = σ.length+k:=by rw [ag,htl]
    lia
   have dl:δi.length = σ.length:=ok.len;unfold tTr;refine By ?_;refine ⟨G.and p,F',δa,es,δb,ok6,e2,λJ' H7 F7 st7 sm7 ok7 wk7=>?_⟩;have eD7:H7 p = some (SH P w p ti):=(st7.res p _ (.inr rfl) hF eD).2;refine Fw n hg ok7 (wk7 G) eD7 e3 ea ∅ λσ8 H8 F8 l8 tk8 ok8 eD8 st8 sm8=>?_;have t8:σ8.take σ.length = σ:=(tk8 _ hge2).trans t2
   have tail:∃ tl':L2.St,σ8 = σ++tl'/\tl'.length = k:=by
    refine ⟨σ8.drop σ.length,?_,by rw [kG];lia⟩
    conv=>lhs;rw [<- yy σ.length σ8,t8]
   have s78:=(st7.sub hFs).trans st8
   have fl:∀ (xa ti:List Str),(xa.foldl kA ti).length<=ti.length+xa.length:=λxa=>by
    induction xa with
    | nil=>intro ti;simp
    | cons x xa ih =>
      intro ti;have:=ih (kA ti x);have:=wF ti x;simp only [lq,aw]
      lia
   have fa:=fl xa ti;refine hN F8 _ _ ⟨δc.take δi.length,zs',xb,xa.foldl kA ti,tail,?_,el',eb,eD8,by rw [<- ef,List.foldl_append],∅,st.trans s78,λz=>?_⟩
   . have:=ok8.cut δi.length;rw [dl,t8] at this;rw [dl];exact this
   . have z':=z;rw [aa] at z';exact sm8 z'.2 H1 hp ((sm z).trans (sm7 z'.1))
 . rintro F' _ Hc ⟨δi,zs,xr,ti,_,ok,el,exr,eD,ef,hr',st,sm⟩;cases el;have:xr = []:=by simpa [fO] using exr.symm
   subst this;exact q _ Hc F' ok (by rw [<- ef];exact eD) st sm
def Dx {X:Cx} {c:Ck} {sc:eA} {Nc:List Str} {kk:Nat} {tg1 tg2:Tg} {src1 src2:It} {ifs:Eo} {elt:E} {ex t1 it1 t2 it2:aE} {il:List aE} {p pos cp:Pos} (C:Cok X c cx k) (n:(!bM elt) = true) (hk:Nc.length = c.N.length+kk) (hge1:lZ c.N.length tg1 = true) (hge2:lZ c.N.length tg2 = true) (hs:jW c sc = true) (hn:namesOk c sc Nc = true)
 (gg:Gl X "sorted") (gm:X.mg "sorted" = none) (gn:("sorted":Str)≠"__name__") (gd:(("sorted":Str) == ("__debug__":Str)) = false)
 (htg1:∀ cl Ca s H fp,PG (cxC X sc cl Ca Nc s H fp) t1 (gTg X.K tg1)) (htg2:∀ cl Ca s H fp,PG (cxC X sc cl Ca Nc s H fp) t2 (gTg X.K tg2)) (hI:PI X t1 it1 (tI X.K cx src1)) (hI2:∀ cl Ca s H fp,PI (cxC X sc cl Ca Nc s H fp) t2 it2 (tI X.K cx src2)) (hG:∀ cl Ca s H fp,PTs (cxC X sc cl Ca Nc s H fp) il (tG X.K cx ifs)) (hE:∀ cl Ca s H fp,PE (cxC X sc cl Ca Nc s H fp) ex (tE X.K cx elt))
 (hset:∀ v,foldedSetIterable it1 X.env v = pure v) (hset2:∀ env v,foldedSetIterable it2 env v = pure v):PE X (.Call (.Name "sorted" p) [.SetComp ex [⟨t1,it1,[],0⟩,⟨t2,it2,il,0⟩] sc cp] [] pos) (tE X.K cx (.sset kk tg1 src1 tg2 src2 ifs elt)):=by
 obtain ⟨nd,hvis⟩:=jC hn;have hC:=Bl (pos:=cp) (Nc:=Nc) C.xe C.calm (mQ C hs) (λi x hi=>by rw [C.hN] at hi |-;exact hvis i x hi) (by rw [C.hN,hk];lia) hI htg1 hI2 htg2 hG hE hset hset2;have hA:PA X [.SetComp ex [⟨t1,it1,[],0⟩,⟨t2,it2,il,0⟩] sc cp] (yD (tSC X.prog X.w (Nc.length - X.N.length) (tI X.K cx src1) (gTg X.K tg1) (tI X.K cx src2) (gTg X.K tg2) (tG X.K cx ifs) (tE X.K cx elt)) KR):=jZ hC qC rfl;intro pins s σ H Q I h;refine mV (uJ C.calm C.units) gg gm rfl hA gn gd rfl rfl pins s σ H Q I ?_;obtain ⟨G,F,δ,d,δ',ok,ev,post⟩:=h;obtain ⟨ds,δ1,ys,xs,ei,ee,hx,hl,h64,rfl⟩:=yF ev;have ek:Nc.length - X.N.length = kk:=by rw [C.hN,hk];lia
 rw [ek];refine ⟨G,F,δ,ds,δ1,ok,ei,λJ H1 F1 st1 sm1 ok1 wk=>λD hp=>?_⟩;have hg:=ok1.free hp;refine Bn n (by rw [I.len,C.hN];exact hge1) (by rw [I.len,C.hN];exact hge2) ok1 (wk _) hp ee hx hl λσ' H2 F2 ok2 eD st2 sm2=>?_;refine ⟨D,ia xs,rfl,eD,h64,λp' zs F' hp' rl=>?_⟩
 have st':Step G F1 H1 (λb=>F2 b/\b≠D) H2:=⟨st2.keep,λb z=>st2.grow b z.1,λb o r f e=>by
  obtain ⟨a1,a2⟩:=st2.res b o r f e;exact ⟨⟨a1,λw=>by rw [w,hp] at e;cases e⟩,a2⟩,st2.tb⟩
 have ok3:=ok2.leave hg;have sm3:=cn hp' (.lst zs);refine post _ _ _ ((st1.trans st').trans (Step.of_same sm3)) (λz=>?_) (ok3.same' sm3) (gf ?_)
 . have z':(npI src1 && npI src2 && npO ifs && np elt) = true:=z;simp only [aa] at z';exact ((sm1 z'.1.1.1).trans (sm2 (by simp only [aa];exact ⟨z'.1.1.2,z'.1.2,z'.2⟩))).trans (.of sm3)
 . obtain ⟨us,e1,_,_⟩:=fV (ia xs)
   have rl2:aN X.K H2 (λb=>F2 b/\b≠D) (eR ((ia xs).map .str)) zs:=by
    rw [e1] at rl |-;have:zs = us.map V.str:=mU us zs rl;rw [this];exact oo us
   unfold Rel;exact ⟨p',zs,rfl,.inl ⟨.inl bN,sr ok3.fd hp'⟩,aN.step ok3.fd (vn sm3) _ _ rl2⟩
end
section
variable {cx:Cl} {k:Nat}
end
end PP
end
section
namespace PP
open PySem PySem.Spec PyProof.Rows
open Builtin.SmallTypes (nextOf)
section
variable {P:aQ} {w:bw} {A:bt} {E:ah->ak->Prop} {s:ak}
def xT {i l:au} {k:Nat} {xs:List ah} {x:ah} {Q:ah->ak->Prop} (hit:s.heap.IsTupleIter i l k) (ht:s.heap.IsTuple l xs.toArray) (hx:xs[k]? = some x) (q:∀ h',h'.IsTupleIter i l (k+1)->fN i s.heap h'->Q x { s with heap:=h' }):wpAny (model P w) A (nextOf (.ref i)) Q E s:=by
 obtain ⟨o,ho,hc,hd⟩:=id hit;obtain ⟨ol,hol,_,nl,hdl⟩:=ht;have hx':xs.toArray[k]? = some x:=by simpa using hx
 unfold nextOf;refine ab (cM (name:=fQ "__next__") hit.typeIs PySem.F.slot_tuple_iterator_next (bY PySem.F.slot_tuple_iterator_next hit.typeIs PySem.F.entry_tuple_iterator_next ?_ (PySem.F.args_tuple_iterator_next_1 _)));refine ab (m:=field (.ref i) 0) (cL ho hd (x:=.ref l) rfl ?_);refine (if_neg (show ¬ ((iZ l == cw) = true) from aq))▸?_;refine ab (m:=field (.ref i) 1) (cL ho hd (x:=.int k 0) rfl ?_);refine ab (m:=seqItems? (.ref l)) (dU hol hdl ?_);simp only [jO,hx'];have sb:=bQ s.heap i (kC (·.setIfInBounds 1 (rawInt ((k:Int)+1))));refine ab (eO ho hd ↥0 (ay ⟨x,rfl,ay (q _ ⟨_,eY _ ho (Obj.isFreed_of_fields (GB hd _)),(Obj.cls_mapFields ..).trans hc,?_⟩ sb)⟩));rw [GB hd];simp [rawInt]
def Bs {i l:au} {k:Nat} {xs:List ah} {Q:ah->ak->Prop} (hh:A.handled = none) (hit:s.heap.IsTupleIter i l k) (ht:s.heap.IsTuple l xs.toArray) (hx:xs[k]? = none)
 (q:∀ h' e,An i s.heap h'->(∃ o,h'.get? e = some o/\o.cls = .type "StopIteration")->E (.ref e) { s with heap:=h' }):wpAny (model P w) A (nextOf (.ref i)) Q E s:=by
 obtain ⟨o,ho,hc,hd⟩:=id hit;obtain ⟨ol,hol,_,nl,hdl⟩:=ht;have hx':xs.toArray[k]? = none:=by simpa using hx
 unfold nextOf;refine ab (cM (name:=fQ "__next__") hit.typeIs PySem.F.slot_tuple_iterator_next (bY PySem.F.slot_tuple_iterator_next hit.typeIs PySem.F.entry_tuple_iterator_next ?_ (PySem.F.args_tuple_iterator_next_1 _)));refine ab (m:=field (.ref i) 0) (cL ho hd (x:=.ref l) rfl ?_);refine (if_neg (show ¬ ((iZ l == cw) = true) from aq))▸?_;refine ab (m:=field (.ref i) 1) (cL ho hd (x:=.int k 0) rfl ?_);refine ab (m:=seqItems? (.ref l)) (dU hol hdl ?_);simp only [jO,hx'];refine ab (iX (ab (eO ho hd ↥0 (ab (m:=newExc (.type "StopIteration") []) ?_))));simp only [newExc,newTuple];refine ab (bu ?_ (by size_fits));refine ab (m:=firstArgMember _ _) (oJ (a:=cw) (by first | rfl | (simp only [firstArgMember];rfl)) ?_);refine bu ?_ (by size_fits);simp only [raiseNew];refine ab (wpAny_handled ?_)
 first | rw [show A.in1.handled = none from hh] | rw [hh]
 exact ab (ay (wpAny_throw (q _ _ (((bQ ..).extBut.push _).push _) ⟨_,aH _ rfl,rfl⟩)))
end
end PP
end
section
namespace PP
open PySem PySem.Spec L2 PyProof.Rows
open Builtin.SmallTypes (nextOf)
def SqM (m:Bool) (K:PySem.W.Frag) (H:Hp) (a:au) (xs:List V):Prop:=if m = true then SqL K H a xs else SqT K H a xs
def OkM (m:Bool) (h:bJ) (a:au) (us:List ah):Prop:=if m = true then h.IsList a us.toArray else h.IsTuple a us.toArray
def ItO (m:Bool) (h:bJ) (i l:au) (k:Nat):Prop:=if m = true then h.IsListIter i l k else h.IsTupleIter i l k
def ItO.at {m:Bool} {h h':bJ} {i l:au} {k:Nat} (x:ItO m h i l k) (e:∀ o,h.get? i = some o->h'.get? i = some o):ItO m h' i l k:=by
 cases m
 . exact Heap.IsTupleIter.at x e
 . exact Heap.IsListIter.at x e
def ItO.obj {m:Bool} {h:bJ} {i l:au} {k:Nat} (x:ItO m h i l k):∃ o,h.get? i = some o/\∀ v,o.data≠.cell v:=by
 cases m <;>
 . obtain ⟨o,e,_,d⟩:=x;exact ⟨o,e,λv z=>by rw [d] at z;cases z⟩
section
variable {X:Cx} {pins:List (au × Obj)} {σ:L2.St} {H:Hp} {s:ak} {A:bt} {E:ah->ak->Prop}
def okM (I:Inv X pins σ H s) (hq:SqM m X.K H l ys):∃ us,Vals ys us/\OkM m s.heap l us:=by
 cases m
 . obtain ⟨us,r,p,_⟩:=I.tuple hq;exact ⟨us,r,p⟩
 . obtain ⟨us,r,p,_⟩:=I.list hq;exact ⟨us,r,p.isList⟩
def yG (I:Inv X pins σ H s) (h1:SqM m X.K H l xs) (h2:SqM m X.K H l ys):xs = ys:=by
 cases m
 . exact I.tuple_inj h1 h2
 . exact I.list_inj h1 h2
def uq {m:Bool} {i l:au} {k:Nat} {ys:List V} {x:V} {Q:ah->ak->Prop} (I:Inv X pins σ H s) (hq:SqM m X.K H l ys) (hx:ys[k]? = some x) (it:ItO m s.heap i l k)
 (q:∀ u h',RelV x u->ItO m h' i l (k+1)->fN i s.heap h'->Q u { s with heap:=h' }):wpAny (model X.prog X.w) A (nextOf (.ref i)) Q E s:=by
 obtain ⟨us,r,ok⟩:=okM I hq;obtain ⟨u,hu,ru⟩:=r.get hx;cases m
 . exact xT it ok hu λh' a b=>q u h' ru a b
 . exact wpAny_nextOf_list_item it ok (by simpa using hu) λh' a b=>q u h' ru a b
def zB {m:Bool} {i l:au} {k:Nat} {ys:List V} {Q:ah->ak->Prop} (hh:A.handled = none) (I:Inv X pins σ H s) (hq:SqM m X.K H l ys) (hx:ys.length<=k) (it:ItO m s.heap i l k)
 (q:∀ h' e,An i s.heap h'->(∃ o,h'.get? e = some o/\o.cls = .type "StopIteration")->E (.ref e) { s with heap:=h' }):wpAny (model X.prog X.w) A (nextOf (.ref i)) Q E s:=by
 obtain ⟨us,r,ok⟩:=okM I hq;have hl:us[k]? = none:=eX (by rw [<- r.length];exact hx);cases m
 . exact Bs hh it ok hl q
 . exact wpAny_nextOf_list_end hh it ok (by simpa using hl) q
structure Zp (h:bJ) (m1 m2:Bool) (z TI TO i1 i2 l1 l2:au) (f0:ah) (k1 k2:Nat):Prop where
 hz:Cm h z TI TO f0
 ti:uS h TI (.ref i1) (.ref i2)
 to:∃ a b,uS h TO a b
 i1:ItO m1 h i1 l1 k1
 i2:ItO m2 h i2 l2 k2
structure Ap (z TI TO i1 i2:au):Prop where
 a1:TI≠z
 a2:TO≠z
 a3:i1≠z
 a4:i2≠z
 a5:TI≠TO
 a6:TI≠i1
 a7:TI≠i2
 a8:TO≠i1
 a9:TO≠i2
 a10:i1≠i2
def eS {b:au} {h':bJ} (I:Inv X pins σ H s) (f:kB X pins H b) (k:∀ c o,c≠b->s.heap.get? c = some o->h'.get? c = some o):Inv X pins σ H { s with heap:=h' }:=I.turned (t':=s.toks) k f.1 f.2.1 f.2.2.2.1 f.2.2.2.2.1 f.2.2.2.2.2
def Cq {m1 m2:Bool} {z TI TO i1 i2 l1 l2:au} {k:Nat} {xs ys:List V} {x y:V} {Q:ah->ak->Prop} (D:Ap z TI TO i1 i2) (I:Inv X pins σ H s) (hf:∀ b∈[z,TI,TO,i1,i2],kB X pins H b) (Z:Zp s.heap m1 m2 z TI TO i1 i2 l1 l2 .none k k)
 (q1:SqM m1 X.K H l1 xs) (q2:SqM m2 X.K H l2 ys) (hx:xs[k]? = some x) (hy:ys[k]? = some y)
 (hQ:∀ T h',H T = none->(∀ b∈[z,TI,TO,i1,i2],T≠b)->Inv X pins σ (upd H T (.tup [x,y])) { s with heap:=h' }->Zp h' m1 m2 z TI TO i1 i2 l1 l2 (rawInt T) (k+1) (k+1)->Q (.ref T) { s with heap:=h' }) :
 wpAny (model X.prog X.w) A (gh.«zip.__next__» ⟨[.ref z],[]⟩) (λfin s'=>∃ v,fin = .done (.ret v)/\Q v s') E s:=by
 obtain ⟨hz,ti,⟨a,b,to⟩,h1,h2⟩:=Z;have fz:=hf z ↥0;have fT:=hf TO ↥0;have f1:=hf i1 ↥0;have f2:=hf i2 ↥0;refine ab (m:=field (.ref z) 2) (cL hz rfl (x:=.bool false) rfl ?_);refine ab (m:=field (.ref z) 3) (cL hz rfl (x:=.ref TI) rfl ?_);refine ab (dU ti rfl ?_);refine ab (m:=cW (.ref z)) ?_;unfold cW;refine ab (cL hz rfl (x:=.none) rfl (ay ?_));simp only [if_true];refine ab (iX (ab (cL hz rfl (x:=.ref TO) rfl (ab (gO hz ↥0 λg1 y1 s1=>ab ?_)))));replace y1:Cm g1 z TI TO .ellipsis:=y1;have I1:=eS I fz λc o n e=>s1.extBut c o n e;simp only [GH,Jr,rh,List.forIn_nil];refine ab (ab (pR (ab (m:=nextOf (.ref i1)) (uq I1 q1 hx (h1.at λo e=>s1.extBut _ o D.a3 e) λu g2 ru j1 s2=>ay ?_))));have I2:=eS I1 f1 λc o n e=>s2.extBut c o n e;have to2:uS g2 TO a b:=s2.extBut _ _ D.a8 (s1.extBut _ _ D.a2 to);refine ab (dU to2 rfl (ab (oI to2 λg3 to3 s3=>ab (Jk (ay ?_)))));replace to3:uS g3 TO u b:=to3;have I3:=eS I2 fT λc o n e=>s3.extBut c o n e;refine ab (ab (pR (ab (m:=nextOf (.ref i2)) (uq I3 q2 hy (((h2.at λo e=>s1.extBut _ o D.a4 e).at λo e=>s2.extBut _ o D.a10.symm e).at λo e=>s3.extBut _ o D.a9.symm e) λv g4 rv j2 s4=>ay ?_))));have I4:=eS I3 f2 λc o n e=>s4.extBut c o n e;have to4:uS g4 TO u b:=s4.extBut _ _ D.a9 to3;refine ab (dU to4 rfl (ab (oI to4 λg5 to5 s5=>ab (Jk (ay (ay ?_))))));replace to5:uS g5 TO u v:=to5;have I5:=eS I4 fT λc o n e=>s5.extBut c o n e;refine ab (dU to5 rfl (ab (wpAny_newTuple ?_)));have hT:H g5.objs.size = none:=I5.hok.fresh (ax _);have z5:Cm g5 z TI TO .ellipsis:=s5.extBut _ _ D.a2.symm (s4.extBut _ _ D.a4.symm (s3.extBut _ _ D.a2.symm (s2.extBut _ _ D.a3.symm y1)));have ti5:uS g5 TI (.ref i1) (.ref i2):=s5.extBut _ _ D.a5 (s4.extBut _ _ D.a7 (s3.extBut _ _ D.a5 (s2.extBut _ _ D.a6 (s1.extBut _ _ D.a1 ti))));have k1:ItO m1 g5 i1 l1 (k+1):=((j1.at λo e=>s3.extBut _ o D.a8.symm e).at λo e=>s4.extBut _ o D.a10 e).at λo e=>s5.extBut _ o D.a8.symm e;have k2:ItO m2 g5 i2 l2 (k+1):=j2.at λo e=>s5.extBut _ o D.a9.symm e;have Tz:g5.objs.size≠z:=fR (aC z5)
 have Ts:∀ b∈[z,TI,TO,i1,i2],g5.objs.size≠b:=λb hb=>by
  obtain ⟨_,e1,_⟩:=k1.obj;obtain ⟨_,e2,_⟩:=k2.obj;simp only [az,bc,or_false] at hb;rcases hb with rfl | rfl | rfl | rfl | rfl
  . exact Tz
  . exact fR (aC ti5)
  . exact fR (aC to5)
  . exact fR (aC e1)
  . exact fR (aC e2)
 have I6:Inv X pins σ (upd H g5.objs.size (.tup [x,y])) { s with heap:=g5.push { cls:=.type "tuple",data:=.seq #[u,v] } } :=
  I5.laid (t':=s.toks) (λb u e=>aj _ e) (ax _) ⟨by show 2<=sizeLine;decide,[u,v],.cons ru (.cons rv .nil),⟨_,aH _ rfl,rfl,_,rfl⟩⟩
 have fz6:kB X pins (upd H g5.objs.size (.tup [x,y])) z:=⟨by rw [bx Tz.symm];exact fz.1,fz.2⟩;refine ab (m:=js (.ref z) (.ref g5.objs.size)) ?_;unfold js;have z6:Cm (g5.push { cls:=.type "tuple",data:=.seq #[u,v] }) z TI TO .ellipsis:=aj _ z5;refine ab (gO z6 ↥0 λg7 z7 s7=>?_);replace z7:Cm g7 z TI TO (rawInt g5.objs.size):=z7;refine gO z7 ↥0 λg8 z8 s8=>?_;replace z8:Cm g8 z TI TO (rawInt g5.objs.size):=z8;have up:∀ c o,c≠z->g5.get? c = some o->g8.get? c = some o:=λc o n e=>s8.extBut _ _ n (s7.extBut _ _ n (aj _ e));have I8:=eS (eS I6 fz6 λc o n e=>s7.extBut c o n e) fz6 λc o n e=>s8.extBut c o n e;exact ay ⟨_,rfl,hQ g5.objs.size g8 hT Ts I8 ⟨z8,up _ _ D.a1 ti5,⟨_,_,up _ _ D.a2 to5⟩,k1.at λo e=>up _ o D.a3 e,k2.at λo e=>up _ o D.a4 e⟩⟩
def Cp {m1 m2:Bool} {z TI TO i1 i2 l1 l2:au} {k:Nat} {xs ys:List V} {Q:PySem.Fin->ak->Prop} (hh:A.handled = none) (D:Ap z TI TO i1 i2) (I:Inv X pins σ H s) (hf:∀ b∈[z,TI,TO,i1,i2],kB X pins H b) (Z:Zp s.heap m1 m2 z TI TO i1 i2 l1 l2 .none k k)
 (q1:SqM m1 X.K H l1 xs) (q2:SqM m2 X.K H l2 ys) (hend:xs.length<=k\/ys.length<=k)
 (hE:∀ h' e,Inv X pins σ H { s with heap:=h' }->(∃ o,h'.get? e = some o/\o.cls = .type "StopIteration")->E (.ref e) { s with heap:=h' }) :
 wpAny (model X.prog X.w) A (gh.«zip.__next__» ⟨[.ref z],[]⟩) Q E s:=by
 obtain ⟨hz,ti,⟨a,b,to⟩,h1,h2⟩:=Z;have fz:=hf z ↥0;have fT:=hf TO ↥0;have f1:=hf i1 ↥0;have f2:=hf i2 ↥0;refine ab (m:=field (.ref z) 2) (cL hz rfl (x:=.bool false) rfl ?_);refine ab (m:=field (.ref z) 3) (cL hz rfl (x:=.ref TI) rfl ?_);refine ab (dU ti rfl ?_);refine ab (m:=cW (.ref z)) ?_;unfold cW;refine ab (cL hz rfl (x:=.none) rfl (ay ?_));simp only [if_true];refine ab (iX (ab (cL hz rfl (x:=.ref TO) rfl (ab (gO hz ↥0 λg1 y1 s1=>ab ?_)))));replace y1:Cm g1 z TI TO .ellipsis:=y1;have I1:=eS I fz λc o n e=>s1.extBut c o n e;simp only [GH,Jr,rh,List.forIn_nil];have j1:ItO m1 g1 i1 l1 k:=h1.at λo e=>s1.extBut _ o D.a3 e
 have last:∀ {g:bJ} {e:au} (Ig:Inv X pins σ H { s with heap:=g }) (zg:Cm g z TI TO .ellipsis) (he:∃ o,g.get? e = some o/\o.cls = .type "StopIteration"),
  wpAny (model X.prog X.w) A (setField (.ref z) 0 .none) (λ_ s'=>E (.ref e) s') E { s with heap:=g }:=λ{g e} Ig zg he=>by
  obtain ⟨o,ho,hc⟩:=he;have ez:e≠z:=λx=>by subst x;rw [zg] at ho;cases ho;simp at hc
  refine gO zg ↥0 λg' _ s'=>?_;have I':=eS (h':=g') Ig fz λc o n e=>s'.extBut c o n e;exact hE g' e I' ⟨o,s'.extBut _ _ ez ho,hc⟩
 refine ab (ab (pR (ab (m:=nextOf (.ref i1)) ?_)));by_cases hx:xs.length<=k
 . refine zB hh I1 q1 hx j1 λg2 e x2 he=>?_;have I2:=eS (h':=g2) I1 f1 λc o n e=>x2 c o n e;exact last I2 (x2 _ _ D.a3.symm y1) he
 . obtain ⟨x,ex⟩:∃ x,xs[k]? = some x:=⟨xs[k],aB (by omega)⟩;refine uq I1 q1 ex j1 λu g2 ru j1' s2=>ay ?_;have I2:=eS I1 f1 λc o n e=>s2.extBut c o n e;have to2:uS g2 TO a b:=s2.extBut _ _ D.a8 (s1.extBut _ _ D.a2 to);refine ab (dU to2 rfl (ab (oI to2 λg3 to3 s3=>ab (Jk (ay ?_)))));have I3:=eS I2 fT λc o n e=>s3.extBut c o n e;refine ab (ab (pR (ab (m:=nextOf (.ref i2)) ?_)));refine zB hh I3 q2 (by omega) (((h2.at λo e=>s1.extBut _ o D.a4 e).at λo e=>s2.extBut _ o D.a10.symm e).at λo e=>s3.extBut _ o D.a9.symm e) λg4 e x4 he=>?_;have I4:=eS (h':=g4) I3 f2 λc o n e=>x4 c o n e;exact last I4 (x4 _ _ D.a4.symm (s3.extBut _ _ D.a2.symm (s2.extBut _ _ D.a3.symm y1))) he
end
end PP
end
section
namespace PP
open PySem PySem.Spec L2 PyProof.Rows
def Itz (K:PySem.W.Frag) (m1 m2:Bool) (l1 l2:au):L2.It :=
 ⟨λi H=>∃ xs ys x y,SqM m1 K H l1 xs/\SqM m2 K H l2 ys/\xs[i]? = some x/\ys[i]? = some y,
   λi H v H'=>∃ T x y,v = .ref T/\H T = none/\H' = upd H T (.tup [x,y])/\(∀ xs,SqM m1 K H l1 xs->xs[i]? = some x)/\∀ ys,SqM m2 K H l2 ys->ys[i]? = some y,
   λi H=>∃ xs ys,SqM m1 K H l1 xs/\SqM m2 K H l2 ys/\(xs.length<=i\/ys.length<=i)⟩
def Dp {P:aQ} {w:bw} {K:PySem.W.Frag} {elts:List aE} {k0:Nat} {pos:Pos} {m1 m2:Bool} {z TI TO i1 i2 l1 l2:au} (D:Ap z TI TO i1 i2) :
 Turn P w K (.Tuple elts k0 pos) (Itz K m1 m2 l1 l2) [z,TI,TO,i1,i2] z (λi h=>Zp h m1 m2 z TI TO i1 i2 l1 l2 .none i i) where
 mem:=by simp
 obj:=λi h st b hb=>by
  obtain ⟨hz,ti,⟨a,c,to⟩,h1,h2⟩:=st;simp only [az,bc,or_false] at hb;rcases hb with rfl | rfl | rfl | rfl | rfl
  . exact ⟨_,hz,λv z=>by cases z⟩
  . exact ⟨_,ti,λv z=>by cases z⟩
  . exact ⟨_,to,λv z=>by cases z⟩
  . exact h1.obj
  . exact h2.obj
 keep:=λi h h' st k=>by
  obtain ⟨hz,ti,⟨a,c,to⟩,h1,h2⟩:=st;exact ⟨k z ↥0 _ hz,k TI ↥0 _ ti,⟨a,c,k TO ↥0 _ to⟩,h1.at λo e=>k _ ↥0 o e,h2.at λo e=>k _ ↥0 o e⟩
 item:=by
  intro X hP hw hK hc i pins s σ H E I hf st hg;subst hP hw hK;obtain ⟨xs,ys,x,y,q1,q2,hx,hy⟩:=hg;have hT:s.TypeIs (.ref z) "zip":=⟨_,st.hz,rfl⟩;unfold pyNext;refine ab (pS (cM (name:=fQ "__next__") hT PySem.F.slot_zip_next (bY PySem.F.slot_zip_next hT PySem.F.entry_zip_next (Cq D I hf st q1 q2 hx hy λT h' nT nb I' Z'=>ay ⟨.ref T,rfl,?_⟩) (PySem.F.args_zip_next_1 _))));refine wpAny_letOwnedTupleGo_zip Z'.hz λh2 z2 s2=>?_;have hn:∀ b∈[z,TI,TO,i1,i2],upd H T (.tup [x,y]) b = none:=λb hb=>by rw [bx (nb b hb).symm];exact (hf b hb).1
  have I2:=eS (h':=h2) I' ⟨hn z ↥0,(hf z ↥0).2⟩ λc o n e=>s2.extBut c o n e;obtain ⟨_,ti,⟨a,c,to⟩,h1,h2'⟩:=Z'
  exact ⟨.ref T,upd H T (.tup [x,y]),I2,rfl,⟨T,x,y,rfl,nT,rfl,λxs' h=>by rw [yG I h q1];exact hx,λys' h=>by rw [yG I h q2];exact hy⟩,
   ⟨z2,s2.extBut _ _ D.a1 ti,⟨a,c,s2.extBut _ _ D.a2 to⟩,h1.at λo e=>s2.extBut _ o D.a3 e,h2'.at λo e=>s2.extBut _ o D.a4 e⟩,hn⟩
 done:=by
  intro X hP hw hK hc i pins s σ H E I hf st hg;subst hP hw hK;obtain ⟨xs,ys,q1,q2,he⟩:=hg;have hT:s.TypeIs (.ref z) "zip":=⟨_,st.hz,rfl⟩;unfold pyNext;refine ab (pS (cM (name:=fQ "__next__") hT PySem.F.slot_zip_next (bY PySem.F.slot_zip_next hT PySem.F.entry_zip_next (Cp (I.ok.hd hc) D I hf st q1 q2 he λh' e I' he=>?_) (PySem.F.args_zip_next_1 _))));obtain ⟨o,ho,hc⟩:=he;exact ab (uP (T:="StopIteration") (b:=true) ⟨o,ho,hc⟩ isSubtype_stop (ay ⟨rfl,I'⟩))
 self:=λ_ _ _ _ _ st h=>wpAny_pyIter_zip st.hz h
def itN (m:Bool):String:=if m = true then "list_iterator" else "tuple_iterator"
def ji (m:Bool) (l:au):Obj:={ cls:=.type (itN m),data:=.fields #[.ref l,.int 0 0] }
def iterM {E:ah->ak->Prop} (ok:OkM m s.heap l us) (h:Q (.ref s.heap.objs.size) { s with heap:=s.heap.push (ji m l) }):wpAny (model prog w) A (pyIter (.ref l)) Q E s:=by
 cases m
 . exact Nu (show s.heap.IsTuple l us.toArray from ok) h
 . exact Nz (show s.heap.IsList l us.toArray from ok) h
def OkM.push (ok:OkM m h l us) (o:Obj):OkM m (h.push o) l us:=by
 cases m
 . exact Heap.IsTuple.at (show h.IsTuple l us.toArray from ok) λo e=>aj _ e
 . exact Heap.IsList.push ok o
def zH (h:bJ) (m1 m2:Bool) (l1 l2:au):bJ:=((((h.push (ji m1 l1)).push (ji m2 l2)).push { cls:=.type "tuple",data:=.seq #[.ref h.objs.size,.ref (h.objs.size+1)] }).push { cls:=.type "tuple",data:=.seq #[.none,.none] }).push { cls:=.type "zip",data:=.fields #[.none,.bool false,.bool false,.ref (h.objs.size+2),.ref (h.objs.size+3)] }
def Bv (l1 l2:au) (us vs:List ah):Meets (gh.«zip.__new__» ⟨[.type "zip",.ref l1,.ref l2],[]⟩) (λ_ R s=>OkM m1 s.heap l1 us/\OkM m2 s.heap l2 vs/\R (.ok (.ret (.ref (s.heap.objs.size+4)))) { s with heap:=zH s.heap m1 m2 l1 l2 }) :=
 .of_wp λprog w A R s h=>by
  obtain ⟨hp,g,d,tk,os⟩:=s;obtain ⟨o1,o2,h⟩:=h;have hsub:=sub_zip;have L1:OkM m1 (Shared.heap ⟨hp,g,d,tk,os⟩) l1 us:=o1;have L2:OkM m2 (Shared.heap ⟨hp.push (ji m1 l1),g,d,tk,os⟩) l2 vs:=OkM.push o2 _
  wp_walk using iterM L1,iterM L2
  refine ⟨_,rfl,?_⟩;unfold zH at h;simp only [bH];exact h
section
variable {prog:aQ} {w:bw} {A:bt} {E:ah->ak->Prop} {s:ak}
def BL (o1:OkM m1 s.heap l1 us) (o2:OkM m2 s.heap l2 vs)
 (h:∀ h',Zp h' m1 m2 (s.heap.objs.size+4) (s.heap.objs.size+2) (s.heap.objs.size+3) s.heap.objs.size (s.heap.objs.size+1) l1 l2 .none 0 0->(∀ c o,s.heap.get? c = some o->h'.get? c = some o)->Q (.ref (s.heap.objs.size+4)) { s with heap:=h' }) :
 wpAny (model prog w) A (call (.type "zip") [.ref l1,.ref l2]) Q E s:=by
 refine callType_new PySem.F.called_zip ⇑0 (PySem.F.typeCall_zip_2 _ _) (PySem.F.newCall_zip_2 _ _) (λobj=>PySem.F.args_object_init_3 obj _ _) PySem.F.entry_zip_new (Bv (m1:=m1) (m2:=m2) l1 l2 us vs) ⟨o1,o2,?_⟩;have up:∀ {h:bJ} {c:au} {o o':Obj},h.get? c = some o->(h.push o').get? c = some o:=λe=>aj _ e;have at_:∀ {h:bJ} {o:Obj} {n:au},h.objs.size = n->o.isFreed = false->(h.push o).get? n = some o:=λe f=>by rw [<- e];exact aH _ f
 have z1:(s.heap.push (ji m1 l1)).objs.size = s.heap.objs.size+1:=bH ..;have z2:((s.heap.push (ji m1 l1)).push (ji m2 l2)).objs.size = s.heap.objs.size+2:=by rw [bH,z1]
 have z3:(((s.heap.push (ji m1 l1)).push (ji m2 l2)).push { cls:=.type "tuple",data:=.seq #[.ref s.heap.objs.size,.ref (s.heap.objs.size+1)] }).objs.size = s.heap.objs.size+3:=by rw [bH,z2]
 have z4:((((s.heap.push (ji m1 l1)).push (ji m2 l2)).push { cls:=.type "tuple",data:=.seq #[.ref s.heap.objs.size,.ref (s.heap.objs.size+1)] }).push { cls:=.type "tuple",data:=.seq #[.none,.none] }).objs.size = s.heap.objs.size+4:=by rw [bH,z3]
 have g5:(zH s.heap m1 m2 l1 l2).get? (s.heap.objs.size+4) = some _:=at_ z4 rfl;have g4:(zH s.heap m1 m2 l1 l2).get? (s.heap.objs.size+3) = some _:=up (at_ z3 rfl);have g3:(zH s.heap m1 m2 l1 l2).get? (s.heap.objs.size+2) = some _:=up (up (at_ z2 rfl));have g2:(zH s.heap m1 m2 l1 l2).get? (s.heap.objs.size+1) = some (ji m2 l2):=up (up (up (at_ z1 rfl)));have g1:(zH s.heap m1 m2 l1 l2).get? s.heap.objs.size = some (ji m1 l1):=up (up (up (up (at_ rfl rfl))));have it:∀ {m:Bool} {i l:au} {h:bJ},h.get? i = some (ji m l)->ItO m h i l 0:=λ{m i l h} e=>by cases m<;>exact ⟨_,e,rfl,rfl⟩
 exact ⟨⟨_,g5,rfl⟩,h _ ⟨g5,g3,⟨_,_,g4⟩,it g1,it g2⟩ λc o e=>up (up (up (up (up e))))⟩
end
def Mw (h:a≠b):(show au from a)≠(show au from b):=h
def Qt (K:PySem.W.Frag) (ta:TA):TI:=λσ H R=>ta σ H λvs H1=>∃ m1 m2 l1 l2 xs ys,vs = [.ref l1,.ref l2]/\SqM m1 K H1 l1 xs/\SqM m2 K H1 l2 ys/\R (Itz K m1 m2 l1 l2) H1
def LC {X:Cx} {elts:List aE} {k0:Nat} {tp:Pos} {a b:aE} {ta:TA} {p pos:Pos} (hg:Gl X "zip") (hm:X.mg "zip" = none) (ha:PA X [a,b] ta) (hs:starEach [a,b] X.env = (false,eval a X.env)::starEach [b] X.env) (hpl:(backTo pos (starEach [b] X.env)).any (·.1) = false) :
 PI X (.Tuple elts k0 tp) (.Call (.Name "zip" p) [a,b] [] pos) (Qt X.K ta):=by
 intro pins s σ H R I h;refine Call_ (qI I hg hm boot_zip (hV (thn (ha pos pins s σ H _ I h) λus s1 ⟨vs,H1,I1,r1,q1⟩=>?_) hs hpl));obtain ⟨m1,m2,l1,l2,xs,ys,rfl,s1',s2',q⟩:=q1;obtain ⟨u,rr,e,r,rr1⟩:∃ u rr,us = u::rr/\RelV (.ref l1) u/\Vals [.ref l2] rr:=by cases r1 with | cons r rr=>exact ⟨_,_,rfl,r,rr⟩
 obtain ⟨v,rfl,r2⟩:=vals1 rr1;subst e;cases r;cases r2;obtain ⟨us1,_,o1⟩:=okM I1 s1';obtain ⟨us2,_,o2⟩:=okM I1 s2';refine BL o1 o2 λh' Z k=>?_;refine wpAny_pyIter_zip Z.hz ?_
 have D:Ap (s1.heap.objs.size+4) (s1.heap.objs.size+2) (s1.heap.objs.size+3) s1.heap.objs.size (s1.heap.objs.size+1):=by
  constructor<;>(refine Mw ?_;lia)
 refine ⟨_,_,_,_,H1,rfl,I1.kept (t':=s1.toks) k,Dp D,Z,λb hb=>?_,q⟩
 have hle:s1.heap.objs.size<=b:=by
  simp only [az,bc,or_false] at hb;rcases hb with rfl | rfl | rfl | rfl | rfl<;>lia
 exact I1.fpOk hle (I1.hok.fresh hle)
end PP
end
section
namespace PP
open PySem L2 PyProof.Rows
variable [Tbs]
section
variable {X:Cx} {c:Ck} {cx:Cl} {k:Nat}
def kM:D->Bool
 | .lst _=>true
 | _=>false
def pF {K:PySem.W.Frag} {H:Hp} {F:au->Prop} {d:D} {ds:List D} {v:V} (e:DT d = some ds) (r:Rel K H F d v):∃ a us,v = .ref a/\SqM (kM d) K H a us/\aN K H F ds us:=by
 cases d with
 | lst l =>
   cases e;obtain ⟨a,us,e1,h1,h2⟩:=dC.lst (.inl r)
   exact ⟨a,us,e1,h1.sq,h2⟩
 | tup l =>
   cases e;obtain ⟨a,us,e1,h1,h2⟩:=dC.tup (.inl r)
   exact ⟨a,us,e1,h1,h2⟩
 | _=>cases e
def Kb {K:PySem.W.Frag} {G:Gh} {H:Hp} {F:au->Prop} {x y:D} {xs ys:List D} {l1 l2:au} (fd:FD F H) (ex:DT x = some xs) (ey:DT y = some ys) (q1:Rel K H F x (.ref l1)) (q2:Rel K H F y (.ref l2)):Wk K G F H (Itz K (kM x) (kM y) l1 l2) (Ao xs ys):=by
 intro F2 H2 st fd2 i;obtain ⟨_,w1,ea,t1,rl1⟩:=pF ex (Rel.step fd st _ _ q1);cases ea;obtain ⟨_,w2,ea,t2,rl2⟩:=pF ey (Rel.step fd st _ _ q2);cases ea;have ll1:=rl1.length;have ll2:=rl2.length;have zl:(Ao xs ys).length = min xs.length ys.length:=by unfold Ao;rw [ai,Jt]
 refine ⟨λd e=>?_,λe=>⟨w1,w2,t1,t2,∅⟩⟩;unfold Ao at e;rw [br,aJ] at e;obtain ⟨⟨d1,d2⟩,e,rfl⟩:=e;obtain ⟨e1,e2⟩:=List.getElem?_zip_eq_some.mp e;obtain ⟨a1,ha1,ra1⟩:=rl1.get e1;obtain ⟨a2,ha2,ra2⟩:=rl2.get e2;refine ⟨⟨w1,w2,a1,a2,t1,t2,ha1,ha2⟩,λv H3 hy=>?_⟩;obtain ⟨T,b1,b2,rfl,nT,rfl,y1,y2⟩:=hy;cases (y1 _ t1).symm.trans ha1;cases (y2 _ t2).symm.trans ha2;refine ⟨cn nT _,?_⟩;unfold Rel;exact ⟨T,[a1,a2],rfl,SqT.of bN,aN.step (G:=G) fd2 (Step.of_same (cn nT _)) _ _ (aN.cons ra1 (aN.cons ra2 aN.nil))⟩
def KU {es:Es} {tg a b:aE} {p pos:Pos} (ht:IL tg = true) (n:ie es = true) (hc:gE c es [a,b] = true) (hg:Gl X "zip") (hm:X.mg "zip" = none) (hA:PA X [a,b] (tEs X.K cx es)):PI X tg (.Call (.Name "zip" p) [a,b] [] pos) (tI X.K cx (.zp es)):=by
 obtain ⟨elts,k0,tp,rfl,_⟩:=hW (x:=tg) (k:=λ_=>true) (by unfold oN;rw [aa];exact ⟨ht,rfl⟩);obtain ⟨_,_,_,c1,c2⟩:=eM hc;refine PI.imp (LC hg hm hA (cK (cb c1) _ _) (jz c2)) λσ H R z=>?_;obtain ⟨G,F,δ,ds,δ',ok,ev,post⟩:=z;simp only [evI,ae,af] at ev;obtain ⟨⟨zs,δ1⟩,e1,ws,e2,e3⟩:=ev;cases e3;unfold zpD at e2;split at e2
 . rename_i x y ez;have ez:zs = [x,y]:=ez;subst ez;rw [af] at e2;obtain ⟨xs,ex,e2⟩:=e2;rw [aJ] at e2;obtain ⟨ys,ey,rfl⟩:=e2;refine ⟨G,F,δ,[x,y],_,ok,e1,λvs H1 F1 st sm ok1 r1=>?_⟩;have r:=r1.rl n;unfold aN at r;obtain ⟨v1,_,rfl,q1,r⟩:=r;unfold aN at r;obtain ⟨v2,_,rfl,q2,r⟩:=r;unfold aN at r;subst r;obtain ⟨l1,us1,rfl,s1,_⟩:=pF ex q1;obtain ⟨l2,us2,rfl,s2,_⟩:=pF ey q2;exact ⟨kM x,kM y,l1,l2,us1,us2,rfl,s1,s2,post _ _ _ st sm ok1 λG'=>Kb ok1.fd ex ey q1 q2⟩
 . cases e2
end
section
variable {cx:Cl} {k:Nat}
def kO {c:Ck} {tg:Tg} {ts:List Str} {kk:Nat} (h:ts.length = kk):(jD ts c.N++ts).length = c.N.length+kk:=by
 unfold jD;rw [ag,ai,h]
def nC {c:Ck} {t:It} {x tg:aE} (h:ckI c t tg x = true) (env:Env) (v:ah):foldedSetIterable x env v = pure v:=by
 cases t with
 | rng e=>obtain ⟨_,_,_,_,rfl,_⟩:=gj h;rfl
 | zp es=>obtain ⟨_,_,_,_,rfl,_⟩:=gj h;rfl
 | sq e =>
   have h:(ckE c e x && !bM e) = true:=h;rw [aa] at h;exact FA (cb h.1) env v
def iG {X:Cx} {c:Ck} {f:Blt} {es:Es} {x:aE} (C:Cok X c cx k) (h:ckE c (.blt f es) x = true) (hE:∀ e y,es = .cons e .nil->ckE c e y = true->PE X y (tE X.K cx e)) (hA:∀ xs,gE c es xs = true->ox es = true->PA X xs (tEs X.K cx es)) :
 PE X x (tE X.K cx (.blt f es))/\∀ whole,isTrue x X.env whole = (do let v <- whole;standAt x.pos;holding [v] (truthy v)):=by
 obtain ⟨n,np,xs,p,rfl,hh⟩:=gj h;refine ⟨?_,λ_=>rfl⟩;simp only [aa] at hh;obtain ⟨⟨h1,h2⟩,h3⟩:=hh;have e:=of_decide_eq_true h1;subst e
 cases hT:tyName f with
 | some T =>
   rw [hT] at h3;obtain ⟨y,w,rfl,h4⟩:=mf h3;obtain ⟨t,tp,rfl,h5⟩:=cy h4;simp only [aa] at h5;obtain ⟨⟨⟨a1,a2⟩,a3⟩,a4⟩:=h5;have et:=of_decide_eq_true a1
   cases es with
   | nil=>exact absurd (fH a3).1 ↥0
   | cons e es' =>
     obtain ⟨_,_,q0,a3'⟩:=eI a3;cases q0;rw [aa] at a3'
     cases es' with
     | cons _ _=>obtain ⟨_,_,q0,_⟩:=eI a3'.2;cases q0
     | nil =>
       have q:=hE e y rfl a3'.1;obtain ⟨t1,t2,t3⟩:=C.global a2
       have tb:t∈jJ:=by
        subst et;cases f<;>simp [tyName] at hT<;>subst hT<;>decide
       have hs:starEach [y,.Name t tp] X.env = [(false,eval y X.env),(false,eval (.Name t tp) X.env)]:=by rw [cK (cb a3'.1)];rfl
       have nm:sI f = ("isinstance":Str):=by cases f<;>simp [tyName] at hT<;>rfl
       rw [nm] at h2 |-;obtain ⟨g1,_,_⟩:=C.global h2
       exact Lb hT et g1 (C.blt _ ⇑0) t1 (C.blt _ tb) q hs
 | none =>
   rw [hT] at h3;simp only [aa] at h3;obtain ⟨⟨b1,b2⟩,b3⟩:=h3
   cases xs with
   | nil=>simp at b1
   | cons y ys=>exact Nl C h2 hT (hA _ b2 b3) b2
def ixT {X:Cx} {c:Ck} {a b:E} {x:aE} (C:Cok X c cx k) (h:ckE c (.ix a b) x = true) (hA:∀ y,ckE c a y = true->PE X y (tE X.K cx a)) (hB:∀ y,ckE c b y = true->PE X y (tE X.K cx b)) :
 PE X x (tE X.K cx (.ix a b))/\∀ whole,isTrue x X.env whole = (do let v <- whole;standAt x.pos;holding [v] (truthy v)):=by
 obtain ⟨_,_,_,rfl,hq1⟩:=kQ h;simp only [aa] at hq1;obtain ⟨⟨⟨h1,h2⟩,h3⟩,h4⟩:=hq1;exact ⟨La h3 (hA _ h1) (hB _ h2) (IS (cb h2)),λ_=>rfl⟩
def Gb {X:Cx} {c:Ck} {f:Nat} {es:Es} {x:aE} (C:Cok X c cx k) (h:ckE c (.call f es) x = true) (hA:∀ xs,gE c es xs = true->ox es = true->PA X xs (tEs X.K cx es)) :
 PE X x (tE X.K cx (.call f es))/\∀ whole,isTrue x X.env whole = (do let v <- whole;standAt x.pos;holding [v] (truthy v)):=by
 obtain ⟨n,np,xs,p,rfl,hh⟩:=gj h;refine ⟨?_,λ_=>rfl⟩;have h':=hh;split at h'
 . simp only [aa] at h';exact call_of C (hA _ h'.1.1.2 (gY h'.1.2)) hh
 . cases h'
def noT (h:∀ δ,evT cx e δ = none):PT X x (tT X.K cx e):=λpins s σ H Q I q=>by
 obtain ⟨G,F,δ,b,δ',ok,ev,post⟩:=q;rw [h] at ev;cases ev
def noE {X:Cx} {e:E} {x:aE} (h:∀ δ,evE cx e δ = none):PE X x (tE X.K cx e):=λpins s σ H Q I q=>by
 obtain ⟨G,F,δ,b,δ',ok,ev,post⟩:=q;rw [h] at ev;cases ev
mutual
theorem dB:∀ (e:E) (X:Cx) (c:Ck) (x:aE),Cok X c cx k->ckE c e x = true->PE X x (tE X.K cx e)
 | .var i,X,c,x,C,h=>by
   obtain ⟨_,_,rfl,hq1⟩:=cy h;replace h:=hq1
   . obtain ⟨n1,n2,n3,n4⟩:=C.name h
     exact Hl n1 n2 n3 n4
 | .pk i,X,c,x,C,h=>by
   obtain ⟨_,_,rfl,hq1⟩:=cy h;replace h:=hq1
   . obtain ⟨n1,n2,n3,n4⟩:=C.name h
     exact KZ n1 n2 n3 n4
 | .glob g,X,c,x,C,h=>by
   obtain ⟨_,_,rfl,hq1⟩:=cy h;replace h:=hq1
   . rw [aa] at h;have e:=of_decide_eq_true h.1;obtain ⟨g1,g2,g3⟩:=C.global h.2;obtain ⟨d,hd⟩:=C.gsome g _ e;obtain ⟨u,v,hm,r,hr⟩:=C.glob g _ d e hd
     exact DB g1 hm r (λd' hd'=>by rw [hd] at hd';cases hd';exact hr) g2
 | .int i,X,c,x,C,h=>by
   obtain ⟨_,_,_,rfl,hq1⟩:=ou h;obtain ⟨_,rfl,hq2⟩:=Ml hq1;replace h:=hq2
   . have e:=of_decide_eq_true h;subst e;exact Hv
 | .bl i,X,c,x,C,h=>by
   obtain ⟨_,_,_,rfl,hq1⟩:=ou h;obtain ⟨_,rfl,hq2⟩:=Mp hq1;replace h:=hq2
   . have e:=of_decide_eq_true h;subst e;exact Lc
 | .non,X,c,x,C,h=>by
   obtain ⟨_,_,_,rfl,hq1⟩:=ou h;replace h:=hq1;have e:=Fo h;subst e
   exact Hr
 | .str i,X,c,x,C,h=>by
   obtain ⟨_,_,_,rfl,hq1⟩:=ou h;obtain ⟨_,rfl,hq2⟩:=EB hq1;replace h:=hq2
   . have e:=of_decide_eq_true h;subst e;exact Hn
 | .bin op a b,X,c,x,C,h=>by
   obtain ⟨_,_,_,_,rfl,hq1⟩:=vL h;replace h:=hq1
   . simp only [aa] at h;obtain ⟨⟨⟨h1,h2⟩,h3⟩,h4⟩:=h
     exact Hx h1 h4 (dB a X c _ C h2) (dB b X c _ C h3)
 | .cmp op a b,X,c,x,C,h=>by
   obtain ⟨_,_,_,_,rfl,hq1⟩:=qE h;obtain ⟨_,rfl,hq2⟩:=fG hq1;obtain ⟨_,rfl,hq3⟩:=fG hq2;replace h:=hq3
   . simp only [aa] at h;obtain ⟨⟨⟨h1,h2⟩,h3⟩,h4⟩:=h
     exact Hw C.units h1 h4 (dB a X c _ C h2) (dB b X c _ C h3) (sD (cb h3) _)
 | .and a b,X,c,x,C,h=>by
   obtain ⟨o,_,p,rfl,hq1⟩:=mX h;obtain ⟨y,r,rfl,hq2⟩:=eI hq1;obtain ⟨z,r2,rfl,hq3⟩:=eI hq2;simp only [aa] at hq3;obtain ⟨⟨⟨⟨h0,h1⟩,h2⟩,h3⟩,h4⟩:=hq3;cases o<;>first | (cases h0;done) | skip
   cases r2 with
   | nil=>exact snd_and h3 h4 (dB a X c _ C h1) (Ep (dB b X c _ C h2))
   | cons w r=>exact snd_and h3 h4 (dB a X c _ C h1) (dB b X c _ C h2)
 | .or a b,X,c,x,C,h=>by
   obtain ⟨o,_,p,rfl,hq1⟩:=mX h;obtain ⟨y,r,rfl,hq2⟩:=eI hq1;obtain ⟨z,r2,rfl,hq3⟩:=eI hq2;simp only [aa] at hq3;obtain ⟨⟨⟨⟨h0,h1⟩,h2⟩,h3⟩,h4⟩:=hq3;cases o<;>first | (cases h0;done) | skip
   cases r2 with
   | nil=>exact Dz h3 h4 (dB a X c _ C h1) (Ep (dB b X c _ C h2))
   | cons w r=>exact Dz h3 h4 (dB a X c _ C h1) (dB b X c _ C h2)
 | .not a,X,c,x,C,h=>by
   obtain ⟨o,_,_,rfl,hh⟩:=pG h;simp only [aa] at hh;obtain rfl:=vU hh.1.1
   exact Hq hh.2 (dB a X c _ C hh.1.2)
 | .neg a,X,c,x,C,h=>by
   obtain ⟨o,_,_,rfl,hh⟩:=pG h;simp only [aa] at hh;obtain rfl:=Fp hh.1.1
   exact Hs hh.2 (dB a X c _ C hh.1.2)
 | .fstr t a,X,c,x,C,h=>by
   obtain ⟨_,_,rfl,h1⟩:=zi h;obtain ⟨_,_,rfl,h2⟩:=mf h1;rw [aa] at h2;obtain ⟨_,_,_,rfl,h3⟩:=ou h2.1;obtain ⟨_,rfl,h4⟩:=EB h3;obtain ⟨_,_,_,_,rfl,h5⟩:=Ip h2.2;simp only [aa] at h5;obtain ⟨⟨⟨a1,a2⟩,a3⟩,a4⟩:=h5;obtain rfl:=of_decide_eq_true h4;obtain rfl:=of_decide_eq_true a1;obtain rfl:=dJ.mp a2
   exact DC a4 (dB a X c _ C a3)
 | .ite t a b,X,c,x,C,h=>by
   obtain ⟨_,_,_,_,rfl,hq1⟩:=zj h;replace h:=hq1
   . simp only [aa] at h;obtain ⟨⟨⟨⟨h1,h2⟩,h3⟩,h4⟩,h5⟩:=h
     exact Hu h4 h5 (oh t X c _ C h1) (dB a X c _ C h2) (dB b X c _ C h3)
 | .tup es,X,c,x,C,h=>by
   obtain ⟨_,_,_,rfl,hq1⟩:=hW h;replace h:=hq1
   . rw [aa] at h
     exact Hm h.2 (fY es X c _ C h.1 (gY h.2))
 | .lst es,X,c,x,C,h=>by
   obtain ⟨_,_,rfl,hq1⟩:=qD h;replace h:=hq1
   . rw [aa] at h
     exact Ht h.2 (fY es X c _ C h.1 (gY h.2))
 | .ix a b,X,c,x,C,h=>(ixT C h (λy q=>dB a X c y C q) λy q=>dB b X c y C q).1
 | .sl a lo hi,X,c,x,C,h=>by
   obtain ⟨_,_,_,rfl,hh⟩:=kQ h;obtain ⟨_,_,o,_,rfl,h9⟩:=zh hh;simp only [aa] at h9;obtain ⟨h0,⟨⟨h1,h2⟩,h3⟩,h4⟩:=h9;obtain rfl:=dJ.mp h0
   exact KY (by simpa using h4) (dB a X c _ C h1) (Hy lo X c _ C h2) (Hy hi X c _ C h3)
 | .call f es,X,c,x,C,h=>(Gb C h λxs h1 h2=>fY es X c xs C h1 h2).1
 | .blt f .nil,X,c,x,C,h=>(iG C h (λe y z=>by cases z) λxs h1 h2=>fY .nil X c xs C h1 h2).1
 | .blt f (.cons e .nil),X,c,x,C,h=>(iG C h (λe' y z h1=>by cases z;exact dB e X c y C h1) λxs h1 h2=>fY (.cons e .nil) X c xs C h1 h2).1
 | .blt f (.cons e (.cons e2 es)),X,c,x,C,h=>(iG C h (λe' y z=>by cases z) λxs h1 h2=>fY (.cons e (.cons e2 es)) X c xs C h1 h2).1
 | .callv i es,X,c,x,C,h=>by
   obtain ⟨_,_,_,_,rfl,hq1⟩:=gj h;replace h:=hq1
   . exact FZ C (fY es X c _ C (by simp only [aa] at h;exact h.1.1.2) (by simp only [aa] at h;exact gY h.1.2)) h
 | .callF f es i,X,c,x,C,h=>by
   obtain ⟨_,_,_,_,rfl,hq1⟩:=gj h;replace h:=hq1
   . exact Ge C (λh1 h2 z tz hz hs=>xE es X c _ z tz C h1 h2 hz hs) h
 | .bad,X,c,x,C,h=>noE λδ=>rfl
 | .isdig i,X,c,x,C,h=>by
   obtain ⟨_,_,_,_,_,rfl,hln,hh⟩:=tZ h;obtain ⟨_,_,rfl,h2⟩:=cy hh;obtain ⟨rfl,h3⟩:=fH h2;rw [aa] at h3;have e:=of_decide_eq_true h3.1;subst e;obtain ⟨n1,n2,n3,n4⟩:=C.name h3.2
   exact AY n1 n2 n3 n4 hln
 | .comp kk tg src ifs elt,X,c,x,C,h=>by
   obtain ⟨_,_,_,_,rfl,hq1⟩:=pH h;obtain ⟨_,rfl,hq2⟩:=fG hq1;obtain ⟨_,_,_,rfl,hq3⟩:=ua hq2;replace h:=hq3
   . split at h
     . rename_i ts ht;simp only [aa] at h;obtain ⟨⟨⟨⟨⟨⟨⟨⟨h1,h2⟩,h3⟩,h4⟩,h5⟩,h6⟩,h7⟩,h8⟩,h9⟩:=h;have nd:=(jC h4).1
       exact DD C h9 (kO (tg:=tg) (of_decide_eq_true h1)) h2 h3 h4 (λcl Ca s H fp=>og (en C h3 nd cl Ca s H fp) h5) (DR src X c _ _ C h6)
        (λcl Ca s H fp=>Ld ifs _ _ _ (en C h3 nd cl Ca s H fp) h7) (λcl Ca s H fp=>dB elt _ _ _ (en C h3 nd cl Ca s H fp) h8) (λv=>nC h6 _ v)
     . cases h
 | .sset kk tg1 src1 tg2 src2 ifs elt,X,c,x,C,h=>by
   obtain ⟨_,_,_,_,rfl,hq1⟩:=gj h;obtain ⟨_,rfl,hq2⟩:=fG hq1;obtain ⟨_,_,_,_,rfl,hq3⟩:=Im hq2;obtain ⟨_,_,rfl,hq4⟩:=mf hq3;obtain ⟨_,_,_,rfl,hq5⟩:=ua hq4;obtain ⟨_,_,_,rfl,hq6⟩:=ua hq5;obtain ⟨rfl,hq7⟩:=fH hq6;replace h:=hq7
   . rw [aa,aa] at h;obtain ⟨⟨h1,h2⟩,h⟩:=h;have e1:=of_decide_eq_true h1;subst e1;obtain ⟨g1,g2,g3⟩:=C.global h2;split at h
     . rename_i n1 n2 q1 q2;simp only [aa] at h;obtain ⟨⟨⟨⟨⟨⟨⟨⟨⟨⟨⟨h3,h4⟩,h5⟩,h6⟩,h7⟩,h8⟩,h9⟩,h10⟩,h11⟩,h12⟩,h13⟩,h14⟩:=h;have nd:=(jC h7).1
       exact Dx C h14 (kO (tg:=tg1) (of_decide_eq_true h3)) h4 h5 h6 h7 g1 (C.blt _ ⇑0) g3 g2 (λcl Ca s H fp=>og (en C h6 nd cl Ca s H fp) h8) (λcl Ca s H fp=>og (en C h6 nd cl Ca s H fp) h9) (DR src1 X c _ _ C h10)
        (λcl Ca s H fp=>DR src2 _ _ _ _ (en C h6 nd cl Ca s H fp) h11) (λcl Ca s H fp=>Ld ifs _ _ _ (en C h6 nd cl Ca s H fp) h12) (λcl Ca s H fp=>dB elt _ _ _ (en C h6 nd cl Ca s H fp) h13) (λv=>nC h10 _ v) (λenv v=>nC h11 env v)
     . cases h
theorem oh:∀ (e:E) (X:Cx) (c:Ck) (x:aE),Cok X c cx k->ckE c e x = true->PT X x (tT X.K cx e)
 | .var i,X,c,x,C,h=>by
   obtain ⟨_,_,rfl,hq1⟩:=cy h;replace h:=hq1
   . obtain ⟨n1,n2,n3,n4⟩:=C.name h
     exact vp (.inl rfl) n1 n2 n3 n4
 | .pk i,X,c,x,C,h=>by
   obtain ⟨_,_,rfl,hq1⟩:=cy h;replace h:=hq1
   . obtain ⟨n1,n2,n3,n4⟩:=C.name h
     exact vp (.inr rfl) n1 n2 n3 n4
 | .cmp op a b,X,c,x,C,h=>by
   obtain ⟨_,_,_,_,rfl,hq1⟩:=qE h;obtain ⟨_,rfl,hq2⟩:=fG hq1;obtain ⟨_,rfl,hq3⟩:=fG hq2;replace h:=hq3
   . simp only [aa] at h;obtain ⟨⟨⟨h1,h2⟩,h3⟩,h4⟩:=h
     exact DH C.units h1 h4 (dB a X c _ C h2) (dB b X c _ C h3) (sD (cb h3) _)
 | .and a b,X,c,x,C,h=>by
   obtain ⟨o,_,p,rfl,hq1⟩:=mX h;obtain ⟨y,r,rfl,hq2⟩:=eI hq1;obtain ⟨z,r2,rfl,hq3⟩:=eI hq2;simp only [aa] at hq3;obtain ⟨⟨⟨⟨h0,h1⟩,h2⟩,h3⟩,h4⟩:=hq3;cases o<;>first | (cases h0;done) | skip
   cases r2 with
   | nil=>exact vq (oh a X c _ C h1) (HP (oh b X c _ C h2))
   | cons w r=>exact vq (oh a X c _ C h1) (PT.pw (oh b X c _ C h2))
 | .or a b,X,c,x,C,h=>by
   obtain ⟨o,_,p,rfl,hq1⟩:=mX h;obtain ⟨y,r,rfl,hq2⟩:=eI hq1;obtain ⟨z,r2,rfl,hq3⟩:=eI hq2;simp only [aa] at hq3;obtain ⟨⟨⟨⟨h0,h1⟩,h2⟩,h3⟩,h4⟩:=hq3;cases o<;>first | (cases h0;done) | skip
   cases r2 with
   | nil=>exact yI (oh a X c _ C h1) (Lr (oh b X c _ C h2))
   | cons w r=>exact yI (oh a X c _ C h1) (PT.pw (oh b X c _ C h2))
 | .not a,X,c,x,C,h=>by
   obtain ⟨o,_,_,rfl,hh⟩:=pG h;simp only [aa] at hh;obtain rfl:=vU hh.1.1
   exact DG (oh a X c _ C hh.1.2)
 | .call f es,X,c,x,C,h=>pE (es:=es) (f:=cx.call f) (Gb C h λxs h1 h2=>fY es X c xs C h1 h2).1 (Gb C h λxs h1 h2=>fY es X c xs C h1 h2).2 rfl (λδ=>rfl) λδ=>by rw [evT]
 | .blt f .nil,X,c,x,C,h=>pE (es:=.nil) (f:=ky f) (iG C h (λe y z=>by cases z) λxs h1 h2=>fY .nil X c xs C h1 h2).1 (iG C h (λe y z=>by cases z) λxs h1 h2=>fY .nil X c xs C h1 h2).2 rfl (λδ=>rfl) λδ=>by rw [evT]
 | .blt f (.cons e .nil),X,c,x,C,h=>pE (es:=.cons e .nil) (f:=ky f) (iG C h (λe' y z h1=>by cases z;exact dB e X c y C h1) λxs h1 h2=>fY (.cons e .nil) X c xs C h1 h2).1 (iG C h (λe' y z h1=>by cases z;exact dB e X c y C h1) λxs h1 h2=>fY (.cons e .nil) X c xs C h1 h2).2 rfl (λδ=>rfl) λδ=>by rw [evT]
 | .blt f (.cons e (.cons e2 es)),X,c,x,C,h=>pE (es:=.cons e (.cons e2 es)) (f:=ky f) (iG C h (λe' y z=>by cases z) λxs h1 h2=>fY (.cons e (.cons e2 es)) X c xs C h1 h2).1 (iG C h (λe' y z=>by cases z) λxs h1 h2=>fY (.cons e (.cons e2 es)) X c xs C h1 h2).2 rfl (λδ=>rfl) λδ=>by rw [evT]
 | .callv _ _,X,c,x,C,h=>noT λδ=>rfl
 | .callF _ _ _,X,c,x,C,h=>noT λδ=>rfl
 | .glob _,X,c,x,C,h=>noT λδ=>rfl
 | .int _,X,c,x,C,h=>noT λδ=>rfl
 | .bl _,X,c,x,C,h=>noT λδ=>rfl
 | .non,X,c,x,C,h=>noT λδ=>rfl
 | .str _,X,c,x,C,h=>noT λδ=>rfl
 | .neg _,X,c,x,C,h=>noT λδ=>rfl
 | .fstr ..,X,c,x,C,h=>noT λδ=>rfl
 | .bin ..,X,c,x,C,h=>noT λδ=>rfl
 | .ite ..,X,c,x,C,h=>noT λδ=>rfl
 | .tup _,X,c,x,C,h=>noT λδ=>rfl
 | .lst _,X,c,x,C,h=>noT λδ=>rfl
 | .ix a b,X,c,x,C,h=>DF (ixT C h (λy q=>dB a X c y C q) λy q=>dB b X c y C q).1 (ixT C h (λy q=>dB a X c y C q) λy q=>dB b X c y C q).2 λδ k δ' q=>by
   simp only [evT,ae,af] at q;obtain ⟨⟨u,δ1⟩,e1,⟨v,δ2⟩,e2,d,e3,t,e4,e5⟩:=q;cases e5
   exact ⟨d,by simp only [evE,e1,e2,e3,ae,aP];rfl,e4⟩
 | .sl ..,X,c,x,C,h=>noT λδ=>rfl
 | .isdig _,X,c,x,C,h=>noT λδ=>rfl
 | .bad,X,c,x,C,h=>noT λδ=>rfl
 | .sset ..,X,c,x,C,h=>noT λδ=>rfl
 | .comp ..,X,c,x,C,h=>noT λδ=>rfl
theorem fY:∀ (es:Es) (X:Cx) (c:Ck) (xs:List aE),Cok X c cx k->gE c es xs = true->ox es = true->PA X xs (tEs X.K cx es)
 | .nil,X,c,xs,C,h,_=>by
   obtain ⟨rfl,hq1⟩:=fH h;replace h:=hq1
   . exact tK
 | .cons e es,X,c,xs,C,h,ho=>by
   obtain ⟨_,_,rfl,hq1⟩:=eI h;replace h:=hq1
   . rw [aa] at h;have ho':((!bM e || npS es) && ox es) = true:=ho;rw [aa] at ho';exact qp ho'.1 (dB e X c _ C h.1) (fY es X c _ C h.2 ho'.2) (cK (cb h.1) _ _)
theorem xE:∀ (es:Es) (X:Cx) (c:Ck) (xs:List aE) (z:aE) (tz:TE),Cok X c cx k->gE c es xs = true->ox es = true->PE X z tz->starEach [z] X.env = (false,eval z X.env)::starEach [] X.env->PA X (xs++[z]) (xA X.K cx es tz)
 | .nil,X,c,xs,z,tz,C,h,_,hz,hs=>by
   obtain ⟨rfl,hq1⟩:=fH h;replace h:=hq1
   . exact DA hz hs
 | .cons e es,X,c,xs,z,tz,C,h,ho,hz,hs=>by
   obtain ⟨_,_,rfl,hq1⟩:=eI h;replace h:=hq1
   . rw [aa] at h;have ho':((!bM e || npS es) && ox es) = true:=ho;rw [aa] at ho';exact AZ ho'.1 (dB e X c _ C h.1) (xE es X c _ z tz C h.2 ho'.2 hz hs) (cK (cb h.1) _ _)
theorem Hy:∀ (o:Eo) (X:Cx) (c:Ck) (l:Option aE),Cok X c cx k->ckO c o l = true->PO X l (tO X.K cx o)
 | .no,X,c,l,C,h=>by
   obtain rfl:=dJ.mp h
   exact Jw (λe z=>by cases z) λ_=>rfl
 | .yes e,X,c,l,C,h=>by
   obtain ⟨_,rfl,hq1⟩:=EE h;replace h:=hq1
   . rw [aa] at h;have q:=dB e X c _ C h.1;exact Jw (λe' z=>by cases z;exact ⟨_,rfl,h.2,q⟩) λz=>by cases z
theorem Ld:∀ (o:Eo) (X:Cx) (c:Ck) (l:List aE),Cok X c cx k->ckG c o l = true->PTs X l (tG X.K cx o)
 | .no,X,c,l,C,h=>by
   obtain ⟨rfl,hq1⟩:=fH h;replace h:=hq1
   . intro pins s σ H Q I q;obtain ⟨G,F,δ,b,δ',ok,ev,post⟩:=q;simp only [evG] at ev;cases ev
     exact yY pins s σ H Q I (post H F Step.refl (λ_=>Sim.refl H) ok)
 | .yes e,X,c,l,C,h=>by
   obtain ⟨_,rfl,hq1⟩:=fG h;replace h:=hq1
   . have q:=HQ (oh e X c _ C h);intro pins s σ H Q I z;obtain ⟨G,F,δ,b,δ',ok,ev,post⟩:=z;simp only [evG] at ev;exact q pins s σ H Q I ⟨G,F,δ,b,δ',ok,ev,post⟩
theorem DR:∀ (t:It) (X:Cx) (c:Ck) (x tg:aE),Cok X c cx k->ckI c t tg x = true->PI X tg x (tI X.K cx t)
 | .rng e,X,c,x,tg,C,h=>by
   obtain ⟨_,_,_,_,rfl,hq1⟩:=gj h;obtain ⟨_,rfl,hq2⟩:=fG hq1;replace h:=hq2
   . simp only [aa] at h;obtain ⟨⟨⟨h1,h2⟩,h3⟩,h4⟩:=h;have z:=of_decide_eq_true h1;subst z
     exact Ho h4 (C.global h2).1 (C.blt _ ⇑0) (dB e X c _ C h3) (cK (cb h3) _ _)
 | .zp es,X,c,x,tg,C,h=>by
   obtain ⟨_,_,_,_,rfl,h1⟩:=gj h;obtain ⟨_,_,rfl,h2⟩:=mf h1;simp only [aa] at h2;obtain ⟨⟨⟨⟨a1,a2⟩,a3⟩,a5⟩,a6⟩:=h2;have e:=of_decide_eq_true a2;subst e
   exact KU a1 a6 a5 (C.global a3).1 (C.blt _ ⇑0) (fY es X c _ C a5 (gY a6))
 | .sq e,X,c,x,tg,C,h=>by
   have h:(ckE c e x && !bM e) = true:=h;rw [aa] at h;exact KW h.2 (dB e X c x C h.1)
end
end
def Ag (K:PySem.W.Frag) (G:Gh) (F:au->Prop) (H:Hp) (o:Out) (E:Ends):Prop:=match o with
 | .nx δ'=>∀ σ' H' F',Step G F H F' H'->Ok K G F' σ' H' δ'->E.nx σ' H'
 | .rt d δ'=>∀ v σ' H' F',Step G F H F' H'->Ok K G F' σ' H' δ'->Rel K H' F' d v->E.rt v H'
 | .ro d δ'=>∀ a u σ' H' F',Step G F H F' H'->Ok K G F' σ' H' δ'->F' a->G.free a->H' a = some u->iq K H' F' d u->E.rt (.ref a) H'
def tS (K:PySem.W.Frag) (ev:Loc->Option Out):TS:=λE σ H=>∃ G F δ o,Ok K G F σ H δ/\ev δ = some o/\Ag K G F H o E
def Ag.step {K:PySem.W.Frag} {G:Gh} {F F1:au->Prop} {H H1:Hp} {o:Out} {E:Ends} (st:Step G F H F1 H1) (h:Ag K G F H o E):Ag K G F1 H1 o E:=by
 cases o with
 | nx δ=>exact λσ' H' F' s k=>h σ' H' F' (st.trans s) k
 | rt d δ=>exact λv σ' H' F' s k r=>h v σ' H' F' (st.trans s) k r
 | ro ds δ=>exact λa xs σ' H' F' s k=>h a xs σ' H' F' (st.trans s) k
def Dt {env:Env} {x z:Str} {px pz pt pt2:Pos} {kt k2} {a b:aE} (hB:env.blockKind = .function) (hx:env.scope.names.lookup x = some .local) (hz:env.scope.names.lookup z = some .local) (hn:x≠z) (hl:px.line = pz.line) (ha:ff a = true) (hb:ff b = true) (hf:(foldedForSure 8 a && foldedForSure 8 b) = false) (hc:(constantsAlone 8 a && constantsAlone 8 b) = false) :
 swappedStores [.Tuple [.Name x px,.Name z pz] kt pt] (.Tuple [a,b] k2 pt2) env = pure (some [x,z]):=by
 have sa:∀ a:aE,ff a = true->(match a with | .Starred .. => true | _=>false) = false:=λa h=>by
  cases a<;>first | rfl | (exact absurd h aq)
 have k1:env.kindOf x = some .local:=hx;have k2:env.kindOf z = some .local:=hz;have e1:((env.blockKind != .function):Bool) = false:=by rw [hB];rfl
 have s1:=sa a ha;have s2:=sa b hb;have l1:(pz.line == px.line) = true:=by rw [hl];exact beq_self_eq_true _
 have n1:(z == x) = false:=by rw [beq_eq_false_iff_ne];exact hn.symm
 have d1:([x,z].eraseDups.length != [x,z].length) = false:=by
  rw [mI];simp [n1,mI]
 unfold swappedStores;simp only [aw,aD,nM,List.any_nil,e1,s1,s2,List.head?_cons,dq,Cd,cQ,Cj,k1,k2,Expr.pos,l1,beq_self_eq_true,jS,ite_true,d1,iy,wX,nQ,hf,hc,Bool.or_false,Bool.or_self,Bool.true_or,jR,bne_self_eq_false,↓reduceIte,bq,pure_bind];refine (if_neg ?_).trans (if_neg ?_)
 . exact ne_true_of_eq_false (lW.mpr ⟨s1,s2⟩)
 . rw [Bool.false_or];exact ne_true_of_eq_false d1
def AQ {env:Env} {c:Ck} {t y:aE} (hS:env.scope = c.sc) (h:Oz c t = true):swappedStores [t] y env = pure none:=by
 obtain ⟨_,_,_,rfl,h1⟩:=hW h;obtain ⟨_,_,rfl,h2⟩:=mf h1;obtain ⟨x,px,rfl,h3⟩:=mW h2;obtain ⟨z,pz,rfl,h4⟩:=mW h3;have hx:(env.kindOf x == some .local) = false:=beq_eq_false_iff_ne.mpr (by have:=of_decide_eq_true h4;rw [<- hS] at this;exact this);cases y<;>first | rfl | skip
 unfold swappedStores;simp only [aw,aD,cQ,Cj,hx,sV,bq,ite_false,pure_bind];by_cases q:(env.kindOf z == some .local && pz.line == px.line) = true<;>simp [q,Expr.pos,mI]
section
variable {X:Cx} {c:Ck} {cx:Cl} {k:Nat}
def PS.imp {s:cR} {t t':TS} (h:PS X s t) (w:∀ E σ H,t' E σ H->t E σ H):PS X s t':=λpins s σ H E I q=>h pins s σ H E I (w E σ H q)
def PSs.imp {s:List cR} {t t':TS} (h:PSs X s t) (w:∀ E σ H,t' E σ H->t E σ H):PSs X s t':=λpins s σ H E I q=>h pins s σ H E I (w E σ H q)
def vt:PSs X [] (tS X.K (dG cx .nil)):=PSs.imp HS λE σ H zz=>by
 obtain ⟨G,F,δ,o,ok,ev,post⟩:=zz;simp only [dG] at ev;cases ev;exact post σ H F Step.refl ok
def rW {s:S} {ss:Ss} {y:cR} {ys:List cR} (h1:PS X y (tS X.K (evS cx s))) (h2:PSs X ys (tS X.K (dG cx ss))):PSs X (y::ys) (tS X.K (dG cx (.cons s ss))):=PSs.imp (Ef h1 h2) λE σ H zz=>by
 obtain ⟨G,F,δ,o,ok,ev,post⟩:=zz;simp only [dG] at ev
 cases e:evS cx s δ with
 | none=>rw [e] at ev;cases ev
 | some o1 =>
   rw [e] at ev
   cases o1 with
   | nx δ1=>exact ⟨G,F,δ,.nx δ1,ok,e,λσ' H' F' st ok'=>⟨G,F',δ1,o,ok',ev,post.step st⟩⟩
   | rt d δ1=>cases ev;exact ⟨G,F,δ,_,ok,e,post⟩
   | ro d δ1=>cases ev;exact ⟨G,F,δ,_,ok,e,post⟩
def Gj {tg:Tg} {e:E} {δ:Loc} {o:Out} (ev:evS cx (.asg tg e) δ = some o):∃ d δ1 δ2,evE cx e δ = some (d,δ1)/\eB δ1 tg d = some δ2/\o = .nx δ2:=by
 simp only [evS,ae,af] at ev;obtain ⟨⟨d,δ1⟩,e1,δ2,e2,e3⟩:=ev;cases e3;exact ⟨d,δ1,δ2,e1,e2,rfl⟩
def Nn {tg:Tg} {e:E} (n:(!bM e) = true) {E:Ends} {σ:L2.St} {H:Hp} (h:tS X.K (evS cx (.asg tg e)) E σ H):Hh (tE X.K cx e) (gTg X.K tg) E σ H:=by
 obtain ⟨G,F,δ,o,ok,ev,post⟩:=h;obtain ⟨d,δ1,δ2,e1,e2,rfl⟩:=Gj ev;exact ⟨G,F,δ,d,δ1,ok,e1,λv H1 F1 st sm ok1 r=>mO ok1 (eH n r) e2 λσ' ok2 _=>post σ' H1 F1 st ok2⟩
def vx (C:Cok X c cx k) (hm:(isNm t || !IL y) = true\/swappedStores [t] y X.env = pure none) (h:qR c tg t = true) (hy:ckE c e y = true) (n:(!bM e) = true) (hs:swapsWithSole [t] y pos.line X.env = pure false) (he:PE X y (tE X.K cx e)):PS X (.Assign [t] y pos) (tS X.K (evS cx (.asg tg e))):=by
 have hh:=cb hy
 have hw:swappedStores [t] y X.env = pure none:=by
  refine hm.elim (λhm=>?_) id;rcases vi h with ⟨_,_,rfl⟩ | ⟨_,_,_,rfl⟩
  . cases y<;>first | rfl | (exact absurd hh aq)
  . cases y<;>first | rfl | (exact absurd hm aq) | (exact absurd hh aq)
 have h1:(assignEach [t] X.env).map (·.2) = [assign t X.env]:=by
  rcases vi h with ⟨_,_,rfl⟩ | ⟨_,_,_,rfl⟩<;>rfl
 exact PS.imp (Ek he (og C h) hs hw h1) λE σ H h=>Nn n h
def KN {α β:Type} {i j:α} {ds:List β} (h:[i,j].length = ds.length):∃ a b,ds = [a,b]:=by
 cases ds with
 | nil=>cases h
 | cons a ds =>
   cases ds with
   | nil=>cases h
   | cons b ds =>
     cases ds with
     | nil=>exact ⟨a,b,rfl⟩
     | cons c ds=>cases h
def DJ (C:Cok X c cx k) (hS:X.env.scope = c.sc) (hB:X.env.blockKind = .function) {i j:Nat} {es:Es} {t y:aE} {pos:Pos} (h:OA c i j es t y = true) (hA:∀ a b,gE c es [a,b] = true->ie es = true->PA X [a,b] (tEs X.K cx es)):PS X (.Assign [t] y pos) (tS X.K (evS cx (.asg (.tp [i,j]) (.tup es)))):=by
 obtain ⟨_,_,_,rfl,h1⟩:=hW h;obtain ⟨_,_,rfl,h2⟩:=mf h1;obtain ⟨x,px,rfl,h3⟩:=mW h2;obtain ⟨z,pz,rfl,h4⟩:=mW h3;obtain ⟨_,_,_,rfl,h5⟩:=hW h4;obtain ⟨a,b,rfl,h6⟩:=mf h5;clear h h1 h2 h3 h4 h5;have h:=h6;clear h6;simp only [aa,decide_eq_true_eq,GD] at h;obtain ⟨⟨⟨⟨⟨⟨⟨⟨⟨h1,h2⟩,h3⟩,h4⟩,h5⟩,h6⟩,h7⟩,h8⟩,h9⟩,h10⟩:=h;rw [<- C.hN] at h1 h2;rw [<- hS] at h3 h4;obtain ⟨_,_,_,c1,c2⟩:=eM h7;obtain ⟨_,_,_,c3,_⟩:=eM c2;refine PS.imp (Ly C.calm C.nd' h1 h2 (λw=>h5 ?_) h3 h4 (hA a b h7 h8) (Dt hB h3 h4 h5 h6 (cb c1) (cb c3) h9 h10)) λE σ H ⟨G,F,δ,o,ok,ev,post⟩=>?_
 . rw [w] at h1;exact bI (h1.symm.trans h2)
 obtain ⟨d,δ1,δ2,e1,e2,rfl⟩:=Gj ev;simp only [evE,ae,af] at e1;obtain ⟨⟨ds,δ3⟩,ea,e3⟩:=e1;split at e3
 . cases e3;unfold eB at e2;dsimp only at e2;split at e2
   . rename_i hh;cases e2;refine ⟨G,F,δ,ds,_,ok,ea,λvs H1 F1 st sm ok1 r=>?_⟩;have r:=r.rl h8;obtain ⟨d1,d2,rfl⟩:=KN hh.1;have q:=hh.2;simp only [iy,wX,nQ,aa,decide_eq_true_eq] at q;obtain ⟨v1,vs1,rfl,r1,q1⟩:=r;obtain ⟨v2,vs2,rfl,r2,q2⟩:=q1;obtain rfl:vs2 = []:=q2;exact ⟨v1,v2,rfl,post _ H1 F1 st ((ok1.set q.1 r1).set (by rw [cm];exact q.2) r2)⟩
   . cases e2
 . cases e3
def tN (K:PySem.W.Frag) (cx:Cl) (e:E):TE:=λσ H Q=>∃ G F δ ds δ',Ok K G F σ H δ/\evE cx e δ = some (.lst ds,δ') /\
 ∀ p xs H1 F1,Step G F H F1 H1->Ok K G F1 σ H1 δ'->H1 p = none->aN K H1 F1 ds xs->Q (.ref p) (upd H1 p (.lst xs))
def Ia {K:PySem.W.Frag} {G:Gh} {F1:au->Prop} {σ:L2.St} {H1:Hp} {δ1:Loc} {i:Nat} {p:au} {ds:List D} {xs:List V} (ok1:Ok K G F1 σ H1 δ1) (hp:H1 p = none) (rl:aN K H1 F1 ds xs) (hi:i < δ1.length) :
 Ok K G (λb=>F1 b\/b = p) (σ.set i (some (.ref p))) (upd H1 p (.lst xs)) (δ1.set i (.own ds))/\Step G F1 H1 (λb=>F1 b\/b = p) (upd H1 p (.lst xs)):=by
 obtain ⟨o1,o2⟩:=ok1.enter hp xs;refine ⟨(o1.keep).own hi (.inr rfl) (ok1.free hp) bN (aN.step ok1.fd o2 ds xs rl) λj s e ho z=>?_,o2⟩;obtain ⟨a,u,d,e1,_,_,e2,_⟩:=fC.ow (ok1.sl j _ e) ho;rw [z] at e1;cases e1;rw [hp] at e2;cases e2
def DK (C:Cok X c cx k) {i:Nat} {e:E} {t:Str} {y:aE} {pos p2:Pos} (h:iR c i t = true) (hy:ckE c e y = true) (nc:(!kU y) = true) (he:PE X y (tN X.K cx e)):PS X (.Assign [.Name t p2] y pos) (tS X.K (evS cx (.new i e))):=by
 obtain ⟨n1,n2,n3⟩:=C.to h;have nc':kU y = false:=by simpa using nc
 refine PS.imp (Lw C.nd' n1 n2 he (qM (cb hy) nc' _ _ _) n3) λE σ H zz=>?_;obtain ⟨G,F,δ,o,ok,ev,post⟩:=zz;simp only [evS,ae,af] at ev;obtain ⟨⟨d,δ1⟩,e1,ev⟩:=ev
 cases d with
 | lst ds =>
   dsimp only at ev;split at ev
   . cases ev;refine ⟨G,F,δ,ds,δ1,ok,e1,λp xs H1 F1 st ok1 hp rl=>?_⟩;obtain ⟨o1,o2⟩:=Ia ok1 hp rl ‹_›;exact post _ _ _ (st.trans o2) o1
   . cases ev
 | _=>cases ev
def DQ (n:ie es = true) (h:PA X xs (tEs X.K cx es)):PE X (.List xs pos) (tN X.K cx (.lst es)):=by
 refine PE.imp (Er h) λσ H Q h=>?_;obtain ⟨G,F,δ,d,δ',ok,ev,post⟩:=h;simp only [evE,ae,af] at ev;obtain ⟨⟨ds,δ1⟩,ea,ev⟩:=ev;split at ev
 . rename_i hz;cases ev;refine ⟨G,F,δ,ds,δ1,ok,ea,λvs H1 F1 st1 sm1 ok1 r1=>?_⟩;have r:=r1.rl n;exact ⟨by rw [r.length];exact hz,λp hp=>post p vs H1 F1 st1 ok1 hp r⟩
 . cases ev
def Be (C:Cok X c cx k) {es:Es} {p pos:Pos} {y:aE} {ys:List aE} (hg:fI c (sI .toLst) = true) (hA:PA X (y::ys) (tEs X.K cx es)) (h:gE c es (y::ys) = true):PE X (.Call (.Name (sI .toLst) p) (y::ys) [] pos) (tN X.K cx (.blt .toLst es)):=by
 obtain ⟨g1,g2,g3⟩:=C.global hg;obtain ⟨e,es',rfl,h1,h2⟩:=eM h;have he:=cK (cb h1) ys X.env;have hpl:=jz (env:=X.env) (pos:=pos) h2;refine PE.imp (jB nD g1 (C.blt _ ⇑0) rfl hA g3 g2 he hpl) λσ H Q h=>?_;obtain ⟨G,F,δ,ds,δ',ok,ev,post⟩:=h;simp only [evE] at ev;obtain ⟨zs,ea,hd⟩:=zM ev;refine ⟨G,F,δ,zs,δ',ok,ea,λvs H1 F1 st1 sm1 ok1 r1=>?_⟩;have r:=r1.bl;change nZ zs = some (D.lst ds) at hd;unfold nZ at hd;split at hd
 . cases hd;obtain ⟨v,rfl,r9⟩:=b1 r;obtain ⟨a,ws,rfl,h1,h2⟩:=r9.lst;exact ⟨a,ws,rfl,.inl h1.sq,λl hl=>post l ws H1 F1 st1 ok1 hl h2⟩
 . cases hd;obtain ⟨v,rfl,r9⟩:=b1 r;obtain ⟨a,ws,rfl,h1,h2⟩:=r9.tup;exact ⟨a,ws,rfl,.inr h1,λl hl=>post l ws H1 F1 st1 ok1 hl h2⟩
 . cases hd
def Hz {a:E} {lo hi:Eo} {y:aE} {l h:Option aE} {pos p2:Pos} (pc:(!bM a || (npO lo && npO hi)) = true) (ha:PE X y (tE X.K cx a)) (hl:PO X l (tO X.K cx lo)) (hh:PO X h (tO X.K cx hi)):PE X (.Subscript y (.Slice l h none p2) pos) (tN X.K cx (.sl a lo hi)):=by
 refine PE.imp (vH yJ ha hl hh) λσ H Q h=>?_;obtain ⟨G,F,δ,ds,δ',ok,ev,post⟩:=h;simp only [evE,ae,af] at ev;obtain ⟨⟨x,δ1⟩,ea,⟨l',δ2⟩,eb,⟨h',δ3⟩,ec,d',hd,e⟩:=ev;cases e;dsimp only at eb ec hd post;refine ⟨G,F,δ,x,δ1,ok,ea,λv H1 F1 st1 sm1 ok1 r1=>⟨G,F1,δ1,l',δ2,ok1,eb,λH2 F2 st2 sm2 ok2=>⟨G,F2,δ2,h',δ3,ok2,ec,λH3 F3 st3 sm3 ok3=>?_⟩⟩⟩;have st:=st2.trans st3
 have rb:dC X.K H3 F3 x v:=by
  refine (RelM.step ok1.fd st (λz=>?_) r1).b;rw [z] at pc;have pc':(npO lo && npO hi) = true:=by simpa using pc
  rw [aa] at pc';exact (sm2 pc'.1).trans (sm3 pc'.2)
 unfold slD at hd;split at hd
 . cases hd;obtain ⟨p,xs,e1,h1,h2⟩:=rb.lst;exact ⟨p,xs,e1,h1.sq,λq hq=>post q _ H3 F3 (st1.trans st) ok3 hq (h2.cut l' h')⟩
 . split at hd
   . cases hd
   . cases hd
 . split at hd
   . cases hd
   . cases hd
 . cases hd
end
section
variable {X:Cx} {c:Ck} {cx:Cl} {k:Nat}
def LB {op:iu} {t t':TIp} (h:PIp X op t) (h':PIp X op t'):PIp X op (λx y H Q=>t x y H Q\/t' x y H Q):=λpins s σ H x y v u Q I r1 r2 q=>q.elim (h pins s σ H x y v u Q I r1 r2) (h' pins s σ H x y v u Q I r1 r2)
def DP (C:Cok X c cx k) {i:Nat} {op:Op} {o:iu} {e:E} {t:Str} {y:aE} {pos p2:Pos} (h:iR c i t = true) (ho:Ik op o = true) (n:(!bM e) = true) (he:PE X y (tE X.K cx e)):PS X (.AugAssign (.Name t p2) o y pos) (tS X.K (evS cx (.aug i op e))):=by
 obtain ⟨n1,n2,n3⟩:=C.to h
 have inv:∀ {δ:Loc} {out:Out},evS cx (.aug i op e) δ = some out->∃ x y δ1 z,δ[i]? = some (.val x)/\evE cx e δ = some (y,δ1)/\out = .nx (δ1.set i (.val z))/\((op = .add/\BP x y = some z)\/(op = .sub/\AR x y = some z)):=by
  intro δ out ev;simp only [evS] at ev
  cases q:δ[i]? with
  | none=>rw [q] at ev;cases ev
  | some s =>
    rw [q] at ev
    cases s with
    | no=>cases ev
    | fnc _ _=>cases ev
    | own _=>cases ev
    | val x =>
      simp only [ae,af] at ev;obtain ⟨⟨d,δ1⟩,e1,ev⟩:=ev;dsimp only at ev
      cases op with
      | add =>
        obtain ⟨z,h1,h2⟩:=aJ.mp ev
        exact ⟨x,d,δ1,z,rfl,e1,h2.symm,.inl ⟨rfl,h1⟩⟩
      | sub =>
        obtain ⟨z,h1,h2⟩:=aJ.mp ev
        exact ⟨x,d,δ1,z,rfl,e1,h2.symm,.inr ⟨rfl,h1⟩⟩
      | _=>cases ev
 cases op with
 | add =>
   cases o<;>first | (exact absurd ho aq) | skip
   refine PS.imp (Ej C.nd' n1 n2 he (LB MV IP) n3) λE σ H zz=>?_;obtain ⟨G,F,δ,out,ok,ev,post⟩:=zz;obtain ⟨x,y,δ1,z,e1,e2,rfl,⟨_,e3⟩ | ⟨z,_⟩⟩:=inv ev
   . obtain ⟨v,ev,r⟩:=ok.sl i _ e1;refine ⟨_,ev,G,F,δ,_,δ1,ok,e2,λu H1 F1 st sm ok1 r1=>?_⟩;have hi:i < δ1.length:=by rw [ok1.len,<- ok.len];exact (aF.mp e1).1
     have ra:Rel X.K H1 F1 x v:=Rel.step ok.fd st x v r;have rb:=eH n r1;unfold BP at e3;split at e3
     . cases e3;unfold Rel at ra rb;subst ra rb;exact .inl ⟨_,_,rfl,rfl,post _ H1 F1 st (ok1.set hi (dE _))⟩
     . split at e3
       . rename_i q;cases e3;obtain ⟨p1,xs1,e1,s1,l1⟩:=dC.tup (.inl ra);obtain ⟨p2,xs2,e2,s2,l2⟩:=dC.tup (.inl rb);subst e1;subst e2;refine .inr ⟨p1,p2,xs1,xs2,rfl,rfl,s1,s2,λz=>?_,by rw [l1.length,l2.length];exact q,λz=>?_,λ_ p hp=>?_⟩
         . have:=l1.length;rw [z] at this;cases this
         . refine post _ H1 F1 st (ok1.set hi ?_);have e:∀ {ys:List D},aN X.K H1 F1 ys xs2->ys = []:=λ{ys} r=>by have:=r.length;rw [z] at this;exact eC.mp this.symm
           have:=e l2;subst this;rw [aY];exact ra
         . obtain ⟨o1,o2,o3,o4⟩:=ok1.laid hp (.tup (xs1++xs2));exact post _ _ F1 (st.trans o2) (o1.set hi (jX ok1 hp (l1.append l2)))
       . cases e3
     . cases e3
   . cases z
 | sub =>
   cases o<;>first | (exact absurd ho aq) | skip
   refine PS.imp (Ej C.nd' n1 n2 he MU n3) λE σ H zz=>?_;obtain ⟨G,F,δ,out,ok,ev,post⟩:=zz;obtain ⟨x,y,δ1,z,e1,e2,rfl,⟨z,_⟩ | ⟨_,e3⟩⟩:=inv ev
   . cases z
   . obtain ⟨v,ev,r⟩:=ok.sl i _ e1;unfold AR at e3;split at e3
     . cases e3;unfold Rel at r;subst r;refine ⟨_,ev,G,F,δ,_,δ1,ok,e2,λu H1 F1 st sm ok1 r1=>?_⟩;have:=r1.b.int;subst this;exact ⟨_,_,rfl,rfl,post _ H1 F1 st (ok1.set (by rw [ok1.len,<- ok.len];exact (aF.mp e1).1) (dE _))⟩
     . cases e3
 | _ =>
   refine PS.imp Eh λE σ H zz=>?_;obtain ⟨G,F,δ,out,ok,ev,post⟩:=zz;obtain ⟨_,_,_,_,_,_,_,⟨z,_⟩ | ⟨z,_⟩⟩:=inv ev
   . cases z
   . cases z
def DI {e:E} {y:aE} {pos:Pos} (n:(!bM e) = true) (he:PE X y (tE X.K cx e)):PS X (.Return (some y) pos) (tS X.K (evS cx (.ret e))):=PS.imp (Lx he) λE σ H zz=>by
 obtain ⟨G,F,δ,out,ok,ev,post⟩:=zz;simp only [evS,ae,af] at ev;obtain ⟨⟨d,δ1⟩,e1,ev⟩:=ev;cases ev;exact ⟨G,F,δ,d,δ1,ok,e1,λv H1 F1 st sm ok1 r=>post v σ H1 F1 st ok1 (eH n r)⟩
def DL {t:E} {a b:Ss} {y:aE} {ya yb:List cR} {pos:Pos} (ht:PT X y (tT X.K cx t)) (ha:PSs X ya (tS X.K (dG cx a))) (hb:PSs X yb (tS X.K (dG cx b))):PS X (.If y ya yb pos) (tS X.K (evS cx (.ifs t a b))):=PS.imp (Oo ht ha hb) λE σ H zz=>by
 obtain ⟨G,F,δ,out,ok,ev,post⟩:=zz;simp only [evS,ae,af] at ev;obtain ⟨⟨q,δ1⟩,e1,ev⟩:=ev;refine ⟨G,F,δ,q,δ1,ok,e1,λH1 F1 st sm ok1=>?_⟩
 cases q with
 | true=>exact By ⟨G,F1,δ1,out,ok1,ev,post.step st⟩
 | false=>exact xX ⟨G,F1,δ1,out,ok1,ev,post.step st⟩
def DM (C:Cok X c cx k) {tg:Tg} {src:It} {body:Ss} {t it:aE} {ys:List cR} {pos:Pos} (htg:qR c tg t = true) (hI:PI X t it (tI X.K cx src)) (hset:∀ v,foldedSetIterable it X.env v = pure v) (hb:PSs X ys (tS X.K (dG cx body))):PS X (.For t it ys [] pos) (tS X.K (evS cx (.for_ tg src body))):=by
 have hp:Cb (model X.prog X.w) X.A X.env X.xe:=by rw [C.xe];exact Ai
 refine PS.imp (Lz hp C.calm hI (og C htg) hb hset) λE σ H zz=>?_;obtain ⟨G,F,δ,out,ok,ev,post⟩:=zz;simp only [evS,ae,af] at ev;obtain ⟨⟨ds,δ1⟩,e1,ev⟩:=ev;dsimp only at ev;generalize ef:(λ(x:D) (δ0:Loc)=>match eB δ0 tg x with | some δ2=>dG cx body δ2 | none=>none) = f at ev;refine ⟨G,F,δ,ds,δ1,ok,e1,λJ H1 F1 st sm ok1 wk=>?_⟩;refine ⟨λi m σ' H'=>∃ F' δ',m = ds.length - i/\i<=ds.length/\Step G F1 H1 F' H'/\Ok X.K G F' σ' H' δ'/\forL f (ds.drop i) δ' = some out,⟨_,F1,δ1,rfl,cT _,Step.refl,ok1,ev⟩,?_⟩;rintro i m σ' H' ⟨F',δ',rfl,hi,st',ok',ev'⟩;by_cases hlt:i < ds.length
 . right;obtain ⟨d,hd⟩:∃ d,ds[i]? = some d:=⟨ds[i],by simp [hlt]⟩;obtain ⟨go,yl⟩:=(wk _ F' H' st' ok'.fd i).1 d hd;refine ⟨go,?_⟩
   have edr:ds.drop i = d::ds.drop (i+1):=by
    rw [uR hlt];congr 1;rw [aB hlt] at hd;exact bI hd
   rw [edr] at ev';unfold forL at ev';refine ⟨λσ2 H2=>∃ m',m' < ds.length - i/\∃ F2 δ2,m' = ds.length - (i+1)/\i+1<=ds.length/\Step G F1 H1 F2 H2/\Ok X.K G F2 σ2 H2 δ2/\forL f (ds.drop (i+1)) δ2 = some out,λσ2 H2 z=>z,λx H3 hy=>?_⟩;obtain ⟨sm,rx⟩:=yl x H3 hy;replace ok':=ok'.same' sm;replace st':=st'.trans (Step.of_same sm)
   cases hf:f d δ' with
   | none=>rw [hf] at ev';cases ev'
   | some o1 =>
     have hf':=hf;rw [<- ef] at hf';dsimp only at hf'
     cases hs:eB δ' tg d with
     | none=>rw [hs] at hf';cases hf'
     | some δ2 =>
       rw [hs] at hf';refine mO ok' rx hs λσ2 ok2 _=>⟨G,F',δ2,o1,ok2,hf',?_⟩;rw [hf] at ev'
       cases o1 with
       | nx δ3=>exact λσ3 H4 F4 s4 k4=>⟨_,by omega,F4,δ3,rfl,hlt,st'.trans s4,k4,ev'⟩
       | rt d3 δ3 =>
         cases ev'
         exact λv σ3 H4 F4 s4 k4 r4=>post v σ3 H4 F4 ((st.trans st').trans s4) k4 r4
       | ro d3 δ3 =>
         cases ev';exact λa xs σ3 H4 F4 s4 k4=>post a xs σ3 H4 F4 ((st.trans st').trans s4) k4
 . left;have hi':i = ds.length:=by omega
   subst hi';refine ⟨(wk _ F' H' st' ok'.fd ds.length).2 rfl,?_⟩;rw [GK] at ev';cases ev';exact post σ' H' F' (st.trans st') ok'
def xC (C:Cok X c cx k) {t:E} {body:Ss} {y:aE} {ys:List cR} {pos:Pos} (ht:PT X y (tT X.K cx t)) (hb:PSs X ys (tS X.K (dG cx body))):PS X (.While y ys [] pos) (tS X.K (evS cx (.while_ t body))):=by
 have hp:Cb (model X.prog X.w) X.A X.env X.xe:=by rw [C.xe];exact Ai
 refine PS.imp (Eg hp ht hb) λE σ H zz=>?_;obtain ⟨G,F,δ,out,ok,ev,post⟩:=zz;simp only [evS] at ev;refine ⟨λm σ' H'=>∃ F' δ',Step G F H F' H'/\Ok X.K G F' σ' H' δ'/\lY (λδ0=>evT cx t δ0) (λδ0=>dG cx body δ0) m δ' = some out,⟨1000,F,δ,Step.refl,ok,ev⟩,?_⟩;rintro m σ' H' ⟨F',δ',st',ok',ev'⟩
 cases m with
 | zero=>cases ev'
 | succ m =>
   unfold lY at ev'
   cases ec:evT cx t δ' with
   | none=>rw [ec] at ev';cases ev'
   | some q =>
     obtain ⟨b,δ1⟩:=q;rw [ec] at ev';refine ⟨G,F',δ',b,δ1,ok',ec,λH1 F1 st1 sm1 ok1=>?_⟩;have sA:=st'.trans st1
     cases b with
     | true =>
       refine By ?_;dsimp only at ev';refine ⟨λσ2 H2=>∃ m',m' < m+1/\∃ F2 δ2,Step G F H F2 H2/\Ok X.K G F2 σ2 H2 δ2/\lY (λδ0=>evT cx t δ0) (λδ0=>dG cx body δ0) m' δ2 = some out,λσ2 H2 z=>z,?_⟩
       cases hf:dG cx body δ1 with
       | none=>rw [hf] at ev';cases ev'
       | some o1 =>
         rw [hf] at ev';refine ⟨G,F1,δ1,o1,ok1,hf,?_⟩
         cases o1 with
         | nx δ3=>exact λσ3 H4 F4 s4 k4=>⟨m,by omega,F4,δ3,sA.trans s4,k4,ev'⟩
         | rt d3 δ3 =>
           cases ev'
           exact λv σ3 H4 F4 s4 k4 r4=>post v σ3 H4 F4 (sA.trans s4) k4 r4
         | ro d3 δ3 =>
           cases ev'
           exact λa xs σ3 H4 F4 s4 k4=>post a xs σ3 H4 F4 (sA.trans s4) k4
     | false =>
       refine xX ?_;cases ev';exact post σ' H1 F1 sA ok1
end
section
variable {X:Cx} {c:Ck} {cx:Cl} {k:Nat}
def Pm (h:ckE c e z = true):((backTo cp (starEach [z] env)).all (λx=>!x.1) && (backToKw cp (keywordEach [] env)).all (λx=>x.1.isSome)
 && decide (([z]:List aE).length+([]:List jN).length+(if ([]:List jN).isEmpty then 0 else 1) < 30)) = true:=by
 rw [cK (cb h)];rfl
def vz (C:Cok X c cx k) (hx:fe c i x = true) (hl:ap.endLine = cp.line) (hz:ckE c e z = true) (n:(!bM e) = true) (he:PE X z (tE X.K cx e)) :
 PS X (.Expr (.Call (.Attribute (.Name x p1) "append" ap) [z] [] cp) p2) (tS X.K (evS cx (.append i e))):=by
 obtain ⟨n1,n2,n3,n4⟩:=C.name hx;have hs:=cK (cb hz) [] X.env;have hA:PA X [z] (tEs X.K cx (.cons e .nil)):=qp (by simp [npS]) he tK hs;refine PS.imp (yZ (JB PySem.F.plainAttrs_list PySem.F.slot_list_append PySem.F.type_list_append sv (jY n1 n2 n3 n4) hA rfl (Pm hz) (by simpa using hl) hs rfl)) λE σ H zz=>?_;obtain ⟨G,F,δ,out,ok,ev,post⟩:=zz;simp only [evS] at ev
 cases q:δ[i]? with
 | none=>rw [q] at ev;cases ev
 | some s =>
   rw [q] at ev
   cases s with
   | no=>cases ev
   | fnc _ _=>cases ev
   | val _=>cases ev
   | own ds0 =>
     simp only [ae,af] at ev;obtain ⟨⟨d,δ1⟩,e1,ev⟩:=ev;dsimp only at ev;obtain ⟨a,xs0,ea,f1,f2,f3,f4⟩:=ok.sl i _ q
     cases q1:δ1[i]? with
     | none=>rw [q1] at ev;cases ev
     | some s1 =>
       rw [q1] at ev
       cases s1 with
       | no=>cases ev
       | fnc _ _=>cases ev
       | val _=>cases ev
       | own ds =>
         dsimp only at ev;split at ev
         . rename_i hz';cases ev;refine ⟨.ref a,ea,.inl ⟨rfl,xs0,.inl (.inl f3)⟩,G,F,δ,[d],δ1,ok,by simp [dH,e1],λvs H1 F1 st sm ok1 r=>?_⟩;obtain ⟨d',ds',v,vs',ed,rfl,rv,rn⟩:=r;cases ed;obtain ⟨_,rfl⟩:=rn;have rv':=eH n rv;obtain ⟨a',xs,ea',g1,g2,g3,g4⟩:=ok1.sl i _ q1;rw [ea] at ea';cases ea';obtain ⟨o1,o2⟩:=ok1.write q1 ea (g4.append (aN.one rv'));exact ⟨a,xs,v,rfl,rfl,g3,by rw [g4.length];exact hz',post σ _ F1 (st.trans o2) o1⟩
         . cases ev
def Ol (X:Cx):V->List V->Hp->VK->Prop:=λx vs H Q=>∃ l b xs zs,x = .ref l/\vs = [.ref b]/\H l = some (.lst xs)/\LsB X.K H b zs/\xs.length+zs.length<=sizeLine/\Q .non (upd H l (.lst (xs++zs)))
def ID:MtM X "list.extend" (Ol X):=by
 intro pins s σ H x vs v us Q I rx rv h;obtain ⟨l,b,xs,zs,rfl,rfl,hH,hB,hz,q⟩:=h;cases rx;obtain ⟨u,rfl,ru⟩:=rv.one;cases ru;obtain ⟨z,its,n,r,hl,e⟩:=I.lstM hH;obtain ⟨its2,n2,r2,e2,z2⟩:=hB.obj I;have hl2:=r2.length;have s1:its.toArray.size = xs.length:=by rw [aG];lia
 have s2:its2.toArray.size = zs.length:=by rw [aG];lia
 refine yu F.slot_list_extend ⟨_,e,rfl⟩ F.entry_list_extend (F.args_list_extend_2 _ _) (AutoSeq1.list_extend_list_list_0 l its.toArray n b its2.toArray n2 ?_ (by rw [s1];lia) ∅) ⟨e,e2,?_⟩
 . rw [s1,s2,ET hz,Bool.and_false];exact aq
 . refine ⟨.non,_,I.lset (its':=its++its2) hH e ↥0 (r.append r2) (by rw [ag];lia),rfl,q⟩
def vw (C:Cok X c cx k) (hx:fe c i x = true) (hl:ap.endLine = cp.line) (hz:ckE c e z = true) (n:(!bM e) = true) (he:PE X z (tE X.K cx e)) :
 PS X (.Expr (.Call (.Attribute (.Name x p1) "extend" ap) [z] [] cp) p2) (tS X.K (evS cx (.extend i e))):=by
 obtain ⟨n1,n2,n3,n4⟩:=C.name hx;have hs:=cK (cb hz) [] X.env;have hA:PA X [z] (tEs X.K cx (.cons e .nil)):=qp (by simp [npS]) he tK hs;refine PS.imp (yZ (JB PySem.F.plainAttrs_list PySem.F.slot_list_extend PySem.F.type_list_extend ID (jY n1 n2 n3 n4) hA rfl (Pm hz) (by simpa using hl) hs rfl)) λE σ H zz=>?_;obtain ⟨G,F,δ,out,ok,ev,post⟩:=zz;simp only [evS] at ev
 cases q:δ[i]? with
 | none=>rw [q] at ev;cases ev
 | some s =>
   rw [q] at ev
   cases s with
   | no=>cases ev
   | fnc _ _=>cases ev
   | val _=>cases ev
   | own ds0 =>
     simp only [ae,af] at ev;obtain ⟨⟨d,δ1⟩,e1,ev⟩:=ev;obtain ⟨a,xs0,ea,f1,f2,f3,f4⟩:=ok.sl i _ q
     cases d with
     | lst ys =>
       dsimp only at ev
       cases q1:δ1[i]? with
       | none=>rw [q1] at ev;cases ev
       | some s1 =>
         rw [q1] at ev
         cases s1 with
         | no=>cases ev
         | fnc _ _=>cases ev
         | val _=>cases ev
         | own ds =>
           dsimp only at ev;split at ev
           . rename_i hz';cases ev;refine ⟨.ref a,ea,.inl ⟨rfl,xs0,.inl (.inl f3)⟩,G,F,δ,[.lst ys],δ1,ok,by simp [dH,e1],λvs H1 F1 st sm ok1 r=>?_⟩;obtain ⟨d',ds',v,vs',ed,rfl,rv,rn⟩:=r;cases ed;obtain ⟨_,rfl⟩:=rn;have rv':=eH n rv;unfold Rel at rv';obtain ⟨b,zs,rfl,rb,rl⟩:=rv';obtain ⟨a',xs,ea',g1,g2,g3,g4⟩:=ok1.sl i _ q1;rw [ea] at ea';cases ea';obtain ⟨o1,o2⟩:=ok1.write q1 ea (g4.append rl);exact ⟨a,b,xs,zs,rfl,rfl,g3,rb.b,by rw [g4.length,rl.length];exact hz',post σ _ F1 (st.trans o2) o1⟩
           . cases ev
     | _=>cases ev
def xD (C:Cok X c cx k) (hx:fe c i x = true) (hy:ckE c e y = true) (n:(!bM e) = true) (nc:(!kU y) = true) (hz:ckE c j z = true) (nj:(!bM j) = true) (he:PE X y (tE X.K cx e)) (hj:PE X z (tE X.K cx j)) :
 PS X (.Assign [.Subscript (.Name x p1) z p2] y pos) (tS X.K (evS cx (.setix i j e))):=by
 obtain ⟨n1,n2,n3,n4⟩:=C.name hx;have nc':kU y = false:=by simpa using nc
 have hh:=cb hz;have hh2:=cb hy
 have ha:∀ v,assign (.Subscript (.Name x p1) z p2) X.env v = (do
  let ov <- holding [v] (eval (.Name x p1) X.env)
  let iv <- holding [v,ov] (eval z X.env)
  standAt p2
  holding [v,ov,iv] (setItem ov iv v)
  release [v,ov,iv] []):=by
  intro v;cases z<;>first | rfl | (exact absurd hh aq)
 have hsw:swapsWithSole [.Subscript (.Name x p1) z p2] y pos.line X.env = pure false:=by
  cases y<;>first | rfl | (exact absurd hh2 aq) | (exact absurd nc'.symm aq)
 have hw:swappedStores [.Subscript (.Name x p1) z p2] y X.env = pure none:=by
  cases y<;>first | rfl | (exact absurd hh2 aq)
 refine PS.imp (Ek he (LG (jY n1 n2 n3 n4) hj set_list ha) hsw hw rfl) λE σ H zz=>?_;obtain ⟨G,F,δ,out,ok,ev,post⟩:=zz;simp only [evS,ae,af] at ev;obtain ⟨⟨d,δ1⟩,e1,ev⟩:=ev;dsimp only at ev;refine ⟨G,F,δ,d,δ1,ok,e1,λv H1 F1 st1 sm1 ok1 r1=>?_⟩
 cases q1:δ1[i]? with
 | none=>rw [q1] at ev;cases ev
 | some s1 =>
   rw [q1] at ev
   cases s1 with
   | no=>cases ev
   | fnc _ _=>cases ev
   | val _=>cases ev
   | own ds0 =>
     obtain ⟨a,xs0,ea,f1,f2,f3,f4⟩:=ok1.sl i _ q1;simp only [af] at ev;obtain ⟨⟨dj,δ2⟩,e2,ev⟩:=ev;refine ⟨.ref a,ea,G,F1,δ1,dj,δ2,ok1,e2,λw H2 F2 st2 sm2 ok2 r2=>?_⟩
     cases dj with
     | int m =>
       have:=r2.b.int;subst this;dsimp only at ev
       cases q2:δ2[i]? with
       | none=>rw [q2] at ev;cases ev
       | some s2 =>
         rw [q2] at ev
         cases s2 with
         | no=>cases ev
         | fnc _ _=>cases ev
         | val _=>cases ev
         | own ds =>
           dsimp only at ev;obtain ⟨a',xs,ea',g1,g2,g3,g4⟩:=ok2.sl i _ q2;rw [ea] at ea';cases ea'
           cases q3:ixN ds.length m with
           | none=>rw [q3] at ev;cases ev
           | some mm =>
             rw [q3] at ev;cases ev;have rv:=Rel.step ok1.fd st2 d v (eH n r1);obtain ⟨o1,o2⟩:=ok2.write q2 ea (aN.set rv mm g4)
             exact ⟨a,xs,m,mm,rfl,rfl,g3,by rw [g4.length];exact q3,post σ _ F2 ((st1.trans st2).trans o2) o1⟩
     | _=>cases ev
def DO:PS X x (tS X.K (evS cx .bad)):=λpins s σ H D I h=>by
 obtain ⟨G,F,δ,out,ok,ev,post⟩:=h;have ev:none = some out:=ev;cases ev
def Qb (hm:newOk e = true) (C:Cok X c cx k) (h:ckE c e y = true):PE X y (tN X.K cx e):=by
 unfold newOk at hm;split at hm
 . obtain ⟨_,_,rfl,hh⟩:=qD h;rw [aa] at hh;exact DQ hh.2 (fY _ X c _ C hh.1 (gY hh.2))
 . rename_i es;obtain ⟨_,_,xs,_,rfl,hh⟩:=gj h;simp only [aa] at hh;obtain ⟨⟨h1,h2⟩,h3⟩:=hh;have e1:=of_decide_eq_true h1;subst e1;have h3:(!xs.isEmpty && gE c es xs && ox es) = true:=h3;simp only [aa] at h3
   cases xs with
   | nil=>simp at h3
   | cons y ys=>exact Be C h2 (fY _ X c _ C h3.1.2 h3.2) h3.1.2
 . obtain ⟨_,_,_,rfl,hh⟩:=kQ h;obtain ⟨_,_,o,_,rfl,h9⟩:=zh hh;simp only [aa] at h9;obtain ⟨h0,⟨⟨h1,h2⟩,h3⟩,h4⟩:=h9;obtain rfl:=dJ.mp h0;exact Hz (by simpa using h4) (dB _ X c _ C h1) (Hy _ X c _ C h2) (Hy _ X c _ C h3)
 . cases hm
end
section
variable {X:Cx} {c:Ck} {cx:Cl} {k:Nat}
def Bc (C:Cok X c cx k) (hS:X.env.scope = c.sc) (hB:X.env.blockKind = .function) (ho:(!own) = true)
 (hn:iR c i t = true) (h:ckE c (.comp kk tg src ifs elt) (.ListComp ex gs sc p) = true) (hl:c.sc.names.lookup t = some .cell) (he:PE X (.ListComp ex gs sc p) (tE X.K cx (.comp kk tg src ifs elt))) :
 PS X (.Assign [.Name t tp] (.ListComp ex gs sc p) sp) (tS X.K (evS cx (.cmp own i (.comp kk tg src ifs elt)))):=by
 have hs:swapsWithSole [.Name t tp] (.ListComp ex gs sc p) sp.line X.env = pure false:=by
  have e1:X.env.kindOf t = some .cell:=by
   show X.env.scope.names.lookup t = some .cell;rw [hS];exact hl
  show (pure (X.env.blockKind == .function && X.env.kindOf t == some .local && tp.line == p.line && !(sc.names.any λ(n,k)=>n == t && (k == .local || k == .cell))):Sem Bool) = pure false;rw [hB,e1];congr 1
 have ht:qR c (.nm i) (.Name t tp) = true:=by
  unfold qR eJ;exact Bool.and_eq_true_iff.mpr ⟨rfl,hn⟩
 refine PS.imp (vx (tg:=.nm i) C (.inl rfl) ht h rfl hs he) λD σ H hq=>?_;obtain ⟨G,F,δ,o,ok,ev,post⟩:=hq;refine ⟨G,F,δ,o,ok,?_,post⟩;obtain rfl:own = false:=by simpa using ho
 simp only [evS,ae,af] at ev |-;obtain ⟨⟨d,δ1⟩,e1,ev⟩:=ev
 cases d with
 | lst ds =>
   dsimp only at ev;split at ev
   . rename_i hi;cases ev;refine ⟨_,e1,_,?_,rfl⟩;exact if_pos hi
   . cases ev
 | _=>cases ev
def DN (C:Cok X c cx k) (hS:X.env.scope = c.sc) (hB:X.env.blockKind = .function)
 (hn:iR c i t = true) (h:ckE c (.comp kk tg src ifs elt) (.ListComp ex gs sc p) = true) (hl:c.sc.names.lookup t = some .local) (hp:tp.line = p.line) (hz:(!(sc.names.any λ(n,k)=>n == t && (k == .local || k == .cell))) = true) :
 PS X (.Assign [.Name t tp] (.ListComp ex gs sc p) sp) (tS X.K (evS cx (.cmp own i (.comp kk tg src ifs elt)))):=by
 obtain ⟨n1,n2,n3⟩:=C.to hn;obtain ⟨_,_,_,_,e,hh⟩:=pH h;cases e;obtain ⟨_,rfl,h9⟩:=fG hh;obtain ⟨tgt,it,il,rfl,h10⟩:=ua h9;replace h:=h10
 . split at h
   . rename_i ts ht;simp only [aa] at h;obtain ⟨⟨⟨⟨⟨⟨⟨⟨h1,h2⟩,h3⟩,h4⟩,h5⟩,h6⟩,h7⟩,h8⟩,h9⟩:=h;obtain ⟨nd,hvis⟩:=jC h4;have hk:=kO (tg:=tg) (c:=c) (of_decide_eq_true h1)
     have hsw:swapsWith (.ListComp ex [⟨tgt,it,il,0⟩] sc p) (some (.Name t tp)) sp.line X.env = pure true:=by
      have e1:X.env.kindOf t = some .local:=by
       show X.env.scope.names.lookup t = some .local;rw [hS];exact hl
      show (pure (X.env.blockKind == .function && X.env.kindOf t == some .local && tp.line == p.line && !(sc.names.any λ(n,k)=>n == t && (k == .local || k == .cell))):Sem Bool) = pure true;rw [hB,e1,hp,hz];congr 1;simp
     intro pins s σ H E I hq
     refine Ei (Nc:=jD ts c.N++ts) (te:=tE X.K cx elt) (tt:=tG X.K cx ifs) (g:=gTg X.K tg) C.xe C.calm (mQ C h3) (λi x hi=>by rw [C.hN] at hi |-;exact hvis i x hi) (by rw [C.hN,hk];lia) (DR src X c _ _ C h6)
      (λcl Ca s H fp=>og (en C h3 nd cl Ca s H fp) h5) (λcl Ca s H fp=>Ld ifs _ _ _ (en C h3 nd cl Ca s H fp) h7) (λcl Ca s H fp=>dB elt _ _ _ (en C h3 nd cl Ca s H fp) h8) (λv=>nC h6 _ v)
      C.nd' n1 n2 n3 hsw pins s σ H E I ?_
     obtain ⟨G,F,δ,o,ok,ev,post⟩:=hq;simp only [evS,ae,af] at ev;obtain ⟨⟨d,δ1⟩,e1,ev⟩:=ev
     cases d with
     | lst ds =>
       dsimp only at ev;split at ev
       . rename_i hi;cases ev;refine wj C I h9 hk h2 ok e1 λp ys xs H1 F1 H2 F2 e st1 st2 hp hg ok2 eD rl sm=>?_;cases e;show E.nx (σ.set i (some (.ref p))) H2
         cases own with
         | true =>
           refine post _ H2 F2 (st1.trans st2) ((ok2.keep).own hi (ok2.rf p (.inr rfl)) hg eD rl λj s ej ho z=>?_);obtain ⟨a,u,d,e2,_,g2,_⟩:=fC.ow (ok2.sl j _ ej) ho;rw [z] at e2;cases e2
           exact g2.2 (.inr rfl)
         | false =>
           have st':Step G F1 H1 (λb=>F2 b/\b≠p) H2:=⟨st2.keep,λb z=>st2.grow b z.1,λb o r f e=>by
            obtain ⟨a1,a2⟩:=st2.res b o r f e;exact ⟨⟨a1,λw=>by rw [w,hp] at e;cases e⟩,a2⟩,st2.tb⟩
           refine post _ H2 _ (st1.trans st') ((ok2.leave hg).set hi ?_);unfold Rel;exact ⟨p,xs,rfl,.inl ⟨.inl eD,λz=>z.2 rfl⟩,aN.less ok2.fd (λb z=>z.1) rl⟩
       . cases ev
     | _=>cases ev
   . cases h
end
section
variable {X:Cx} {c:Ck} {cx:Cl} {k:Nat} (C:Cok X c cx k) (hS:X.env.scope = c.sc) (hB:X.env.blockKind = .function)
include C hS hB
mutual
theorem Qa:∀ (s:S) (x:cR),ckS c s x = true->PS X x (tS X.K (evS cx s))
 | .asg tg e,x,h=>by
   obtain ⟨_,_,_,rfl,hq1⟩:=mY h;obtain ⟨_,rfl,hq2⟩:=fG hq1;replace h:=hq2
   . simp only [aa] at h;obtain ⟨⟨⟨⟨h1,h2⟩,h3⟩,h4⟩,h5⟩:=h;rw [dv,dv] at h5;rcases h5 with h5 | h5
     . exact vx C (h5.imp id (AQ hS)) h1 h2 h3 (qM (cb h2) (by simpa using h4) _ _ _) (dB e X c _ C h2)
     . unfold JC at h5;split at h5
       . exact DJ C hS hB h5 λa b q n=>fY _ X c _ C q (gY n)
       . cases h5
 | .new i e,x,h=>by
   obtain ⟨_,_,_,rfl,hq1⟩:=mY h;obtain ⟨_,rfl,hq2⟩:=fG hq1;obtain ⟨_,_,rfl,hq3⟩:=cy hq2;replace h:=hq3
   . simp only [aa] at h;obtain ⟨⟨⟨h1,h2⟩,h3⟩,h4⟩:=h
     exact DK C h1 h2 h3 (Qb h4 C h2)
 | .cmp own i e,x,h=>by
   have h:(Ft e && _) = true:=h;rw [aa] at h;obtain ⟨h0,h⟩:=h;cases e<;>first | (cases h0;done) | skip
   obtain ⟨_,_,_,rfl,hh⟩:=mY h;obtain ⟨_,rfl,h2⟩:=fG hh;obtain ⟨_,_,rfl,h3⟩:=mW h2;obtain ⟨_,_,_,_,rfl,h4⟩:=pH h3;simp only [aa] at h4;obtain ⟨⟨a1,a2⟩,a3⟩:=h4;rcases BZ.mp a3 with a3 | a3
   . simp only [aa] at a3;exact DN C hS hB a1 a2 (of_decide_eq_true a3.1.1) (of_decide_eq_true a3.1.2) a3.2
   . rw [aa] at a3
     exact Bc C hS hB a3.1 a1 a2 (of_decide_eq_true a3.2) (dB _ X c _ C a2)
 | .aug i op e,x,h=>by
   obtain ⟨_,_,_,_,rfl,hq1⟩:=EN h;obtain ⟨_,_,rfl,hq2⟩:=cy hq1;replace h:=hq2
   . simp only [aa] at h;obtain ⟨⟨⟨h1,h2⟩,h3⟩,h4⟩:=h
     exact DP C h1 h2 h4 (dB e X c _ C h3)
 | .ret e,x,h=>by
   obtain ⟨_,_,rfl,hq1⟩:=EC h;obtain ⟨_,rfl,hq2⟩:=EE hq1;replace h:=hq2
   . rw [aa] at h
     exact DI h.2 (dB e X c _ C h.1)
 | .retL _ _ _ _,x,h=>by
   cases h
 | .ifs t a b,x,h=>by
   obtain ⟨_,_,_,_,rfl,hq1⟩:=EG h;replace h:=hq1
   . simp only [aa] at h
     exact DL (oh t X c _ C h.1.1) (rV a _ h.1.2) (rV b _ h.2)
 | .for_ tg src body,x,h=>by
   obtain ⟨_,_,_,_,_,rfl,hq1⟩:=EI h;obtain ⟨rfl,hq2⟩:=fH hq1;replace h:=hq2
   . simp only [aa] at h
     exact DM C h.1.1 (DR src X c _ _ C h.1.2) (λv=>nC h.1.2 _ v) (rV body _ h.2)
 | .while_ t body,x,h=>by
   obtain ⟨_,_,_,_,rfl,hq1⟩:=Il h;obtain ⟨rfl,hq2⟩:=fH hq1;replace h:=hq2
   . rw [aa] at h
     exact xC C (oh t X c _ C h.1) (rV body _ h.2)
 | .append i e,x,h=>by
   obtain ⟨_,_,rfl,hh⟩:=zk h;obtain ⟨_,_,_,_,_,rfl,hln,h2⟩:=tZ hh;obtain ⟨_,_,rfl,h3⟩:=cy h2;obtain ⟨_,rfl,h4⟩:=fG h3;simp only [aa] at h4;obtain ⟨⟨⟨a1,a2⟩,a3⟩,a4⟩:=h4;have z:=of_decide_eq_true a1;subst z
   exact vz C a2 hln a3 a4 (dB e X c _ C a3)
 | .extend i e,x,h=>by
   obtain ⟨_,_,rfl,hh⟩:=zk h;obtain ⟨_,_,_,_,_,rfl,hln,h2⟩:=tZ hh;obtain ⟨_,_,rfl,h3⟩:=cy h2;obtain ⟨_,rfl,h4⟩:=fG h3;simp only [aa] at h4;obtain ⟨⟨⟨a1,a2⟩,a3⟩,a4⟩:=h4;have z:=of_decide_eq_true a1;subst z
   exact vw C a2 hln a3 a4 (dB e X c _ C a3)
 | .setix i j e,x,h=>by
   obtain ⟨_,_,_,rfl,hq1⟩:=mY h;obtain ⟨_,rfl,hq2⟩:=fG hq1;obtain ⟨_,_,_,rfl,hq3⟩:=kQ hq2;obtain ⟨_,_,rfl,hq4⟩:=cy hq3;replace h:=hq4
   . simp only [aa] at h;obtain ⟨⟨⟨⟨⟨h1,h2⟩,h3⟩,h4⟩,h5⟩,h6⟩:=h
     exact xD C h1 h2 h3 h4 h5 h6 (dB e X c _ C h2) (dB j X c _ C h5)
 | .bad,x,h=>DO
theorem rV:∀ (ss:Ss) (xs:List cR),uG c ss xs = true->PSs X xs (tS X.K (dG cx ss))
 | .nil,xs,h=>by
   obtain ⟨rfl,hq1⟩:=fH h;replace h:=hq1
   . exact vt
 | .cons s ss,xs,h=>by
   obtain ⟨_,_,rfl,hq1⟩:=eI h;replace h:=hq1
   . rw [aa] at h;exact rW (Qa s _ h.1) (rV ss _ h.2)
end
end
structure Mk (X:Cx) (P:au) (q:Str):Prop where
 cd:∃ c,X.env.code = .ref c/\PySem.W.CodeHd X.base c P
 ql:X.env.qual++"<lambda>" = q
 tb:(P,q)∈Tbs.ts
 un:∀ t∈Tbs.ts,t.1 = P->t.2 = q
 bm:∃ bm ob,X.mg "__builtins__" = some (.ref bm)/\bm≠builtinsNs/\X.base.get? bm = some ob/\ob.cls = .type "module"/\ob.dict = some builtinsNs/\ob.data = .plain
def yk (l:List ah) (h:TriplesOk l) (e:codeAmong p (l++[rawInt a,rawInt b,c]) = some v):codeAmong p l = some v\/v = c:=by
 fun_induction TriplesOk l with
 | case1 =>
   simp only [cD,codeAmong,rawInt] at e;split at e
   . cases e;exact .inr rfl
   . cases e
 | case2 a' t b' u x rest ih =>
   simp only [eE,codeAmong] at e |-;split at e
   . rename_i hc;rw [if_pos hc];exact .inl e
   . rename_i hc;rw [if_neg hc];exact ih h e
 | case3 l h1 h2=>exact h.elim
def FE (g:h.get? a = some o):ft P w H h a (fzO a o):=⟨g,g,⟨o,g⟩,λh1 h2 e1 k=>k _ e1⟩
section
variable {X:Cx} {cx:Cl} {k:Nat}
def OP (I:Inv X pins σ H s) (M:Mk X P q) (tabs:ik H) (hcl:closureFor scope X.env = pure clos) (hdef:defaultsOf params X.env = ([],[]))
 (h:∀ (f c':au) (oc:Obj) (vs:Array ah) (tk:Tok) (pm ctv:ah) (H':Hp),Sim H H'->ik H'->Fz H' f (PySem.W.kla_obj "<lambda>" q params body scope clos pm c' ctv)->Fz H' c' oc->oc.data = .fields vs->vs[1]? = some (.str q tk)->Q (.ref f) H') :
 wpAny (model X.prog X.w) X.A (eval (.Lambda params body scope pos) X.env) (EP X pins σ Q) X.xe s:=by
 refine PySem.W.kla_eval hdef ?_;rw [M.ql];obtain ⟨ps,hP,tr,am⟩:=tabs _ M.tb;dsimp only at hP am;obtain ⟨c,hcode,CH⟩:=M.cd;obtain ⟨bm,ob,b1,b2,b3,b4,b5,b6⟩:=M.bm;have hg:s.heap.Ns mainGlobals X.mg:=I.mod.glob.keeps I.bk;have hPh:s.heap.get? P = some (PySem.W.tabObj ps):=I.hok P _ hP
 have hgP:mainGlobals≠P:=λz=>by
  obtain ⟨o,es,ep,e,hd,_⟩:=hg;rw [z,hPh] at e;cases e;cases hd
 have hbP:bm≠P:=λz=>by
  have:=(I.bs _ _ b3).2;rw [z,hP] at this;cases this
 have hbG:bm≠mainGlobals:=λz=>by
  obtain ⟨o,es,ep,e,hd,_⟩:=hg;have:=I.bk _ _ b3;rw [z,e] at this;cases this;rw [hd] at b6;cases b6
 have BA:s.heap.BuiltinsAt X.mg P:=⟨bm,ob,b1,b2,hbG,hbP,I.bk _ _ b3,b4,b5,b6⟩
 cases ca:codeAmong pos ps.toList with
 | some cv =>
   refine PySem.W.kla_makeFunctionHit (mg:=X.mg) hcl I.ok.glob hg hcode (CH.keeps I.bk) hPh tr ca BA λctv h' tk hk hsz=>?_;obtain ⟨c',oc,vs,t,rfl,fc,hd,hv⟩:=am pos cv ca;have hn:H h'.objs.size = none:=I.hok.fresh hsz;have sm:=cn hn (fzO h'.objs.size (PySem.W.kla_obj "<lambda>" q params body scope clos ((X.mg "__name__").getD .none) c' ctv));refine ⟨.ref h'.objs.size,_,I.laid (t':=tk) (λb u e=>aj _ (hk b u e)) hsz (FE (aH _ rfl)),rfl,?_⟩
   exact h _ c' oc vs t _ ctv _ (.of sm) (tabs.keep λb o _ e=>sm b o e) bN (sm _ _ fc) hd hv
 | none =>
   refine PySem.W.kla_makeFunction (mg:=X.mg) hcl I.ok.glob hg hcode (CH.keeps I.bk) hPh tr ca hgP BA λc' ctv h' tk hx hge hlt hrec htb=>?_;obtain ⟨c₂,oc,vs,t,e2,hoc,hd,hv⟩:=hrec;cases e2;generalize ho:PySem.W.kla_obj "<lambda>" q params body scope clos ((X.mg "__name__").getD .none) c' ctv = fo at *;have hfl:s.heap.objs.size<=h'.objs.size:=jd (bS hge hlt);have nc:H c' = none:=I.hok.fresh hge;have nf:H h'.objs.size = none:=I.hok.fresh hfl;have cP:c'≠P:=λz=>by rw [z,hP] at nc;cases nc
   have fP:h'.objs.size≠P:=λz=>by rw [z,hP] at nf;cases nf
   have cf:c'≠h'.objs.size:=aR hlt
   let H1:=upd H P (.tbl (ps ++ #[rawInt pos.line,rawInt pos.col,.ref c']))
   let H2:=upd H1 c' (fzO c' oc)
   let H3:=upd H2 h'.objs.size (fzO h'.objs.size fo)
   have at3:∀ b,b≠P->b≠c'->b≠h'.objs.size->H3 b = H b:=λb x y z=>by
    show upd H2 _ _ b = _;rw [bx z];show upd H1 _ _ b = _;rw [bx y];show upd H _ _ b = _;rw [bx x]
   have atf:H3 h'.objs.size = some (fzO h'.objs.size fo):=bN
   have atc:H3 c' = some (fzO c' oc):=by
    show upd H2 _ _ c' = _;rw [bx cf];exact bN
   have atP:H3 P = some (.tbl (ps ++ #[rawInt pos.line,rawInt pos.col,.ref c'])):=by
    show upd H2 _ _ P = _;rw [bx (Ne.symm fP)];show upd H1 _ _ P = _;rw [bx (Ne.symm cP)];exact bN
   have atO:∀ b o,b≠P->H b = some o->H3 b = some o:=λb o n e=>by
    rw [at3 b n (λz=>by rw [z,nc] at e;cases e) (λz=>by rw [z,nf] at e;cases e)];exact e
   have nt3:∀ b o,(∀ qs,o≠.tbl qs)->H b = some o->H3 b = some o:=λb o n e=>atO b o (λz=>by rw [z,hP] at e;cases e;exact n _ rfl) e;have kh:∀ b o,b≠P->s.heap.get? b = some o->(h'.push fo).get? b = some o:=λb o n e=>aj _ (hx b o n e);have gP:(h'.push fo).get? P = some (PySem.W.tabObj (ps ++ #[rawInt pos.line,rawInt pos.col,.ref c'])):=aj _ htb
   have hok3:HOk X.prog X.w H3 (h'.push fo):=λb u e=>by
    by_cases hf:b = h'.objs.size
    . subst hf;rw [atf] at e;cases e;exact FE (aH _ (by rw [<- ho];rfl))
    . by_cases hc:b = c'
      . subst hc;rw [atc] at e;cases e;exact FE (aj _ hoc)
      . by_cases hp:b = P
        . subst hp;rw [atP] at e;cases e;exact gP
        . rw [at3 b hp hc hf] at e;refine (I.hok b u e).stay (λb' u' z g=>kh b' u' ?_ g) (λb' z=>nt3 b' _ (λqs w=>by cases w) z) λb' xs z=>nt3 b' _ (λqs w=>by cases w) z;rcases z with z | z
          . rw [z];exact hp
          . rintro rfl;rw [hP] at z;cases z
   have un3:Un X.fs [] H H3 s.heap (h'.push fo):=⟨λb o e n _ _=>kh b o (λz=>by rw [z,hP] at n;cases n) e,λb o e n _ _=>⟨o.slots,kh b o (λz=>by rw [z,hP] at n;cases n) e⟩,
    λb o e n _=>by
     rw [at3 b (λz=>by rw [z,hP] at n;cases n) (aR (ba (aC e) hge)) (aR (ba (aC e) hfl))];exact n,
    λb o e _=>by
     by_cases hp:b = P
     . exact ⟨_,hp▸gP⟩
     . exact ⟨o,kh b o hp e⟩,
    λb xs e=>nt3 b _ (λqs w=>by cases w) e,λb o u e=>nt3 b _ (λqs w=>by cases w) e,
    λb qs e=>by
     by_cases hp:b = P
     . subst hp;rw [hP] at e;cases e;exact ⟨_,atP⟩
     . exact ⟨#[],by rw [atO b _ hp e];simp⟩⟩
   refine ⟨.ref h'.objs.size,H3,I.un (t':=tk) un3 hok3,rfl,?_⟩;refine h _ c' oc vs t _ ctv H3 ⟨λb o n e=>nt3 b o (λqs w=>by rw [w] at n;exact n) e,λb qs e=>?_⟩ (λt' ht=>?_) (by rw [ho];exact atf) atc hd hv
   . by_cases hp:b = P
     . exact ⟨_,hp▸atP⟩
     . exact ⟨qs,atO b _ hp e⟩
   . have fzk:∀ a o,Fz H a o->Fz H3 a o:=λa o z=>nt3 a _ (λqs w=>by cases w) z;by_cases hp:t'.1 = P
     . have:=M.un t' ht hp;refine ⟨_,by rw [hp];exact atP,by simpa using TriplesOk_snoc pos.line pos.col (.ref c') _ tr,λp cv e=>?_⟩;rw [cO] at e;rcases yk _ tr e with z | z
       . obtain ⟨c₁,o₁,v₁,t₁,z1,z2,z3,z4⟩:=am p cv z;exact ⟨c₁,o₁,v₁,t₁,z1,fzk _ _ z2,z3,by rw [this];exact z4⟩
       . exact ⟨c',oc,vs,t,z,atc,hd,by rw [this];exact hv⟩
     . obtain ⟨qs,a1,a2,a3⟩:=tabs t' ht;refine ⟨qs,atO _ _ hp a1,a2,λp cv e=>?_⟩;obtain ⟨c₁,o₁,v₁,t₁,z1,z2,z3⟩:=a3 p cv e;exact ⟨c₁,o₁,v₁,t₁,z1,fzk _ _ z2,z3⟩
end
section
variable {K:PySem.W.Frag} {H H':Hp} {h:bJ} {F:au->Prop} {cs:List (au × Obj)}
def Un0.same (u:Un0 H h cs):iW H (kJ H cs):=λb o e=>Ad u e
def HA (u:Un0 H h cs) (s:Sim (kJ H cs) H'):Sim H (ig H' cs):=by
 have out:∀ b o,H b = some o->cs.lookup b = none:=λb o e=>by
  cases q:cs.lookup b with
  | none=>rfl
  | some x=>rw [(u b x q).1] at e;cases e
 exact ⟨λb o n e=>by rw [cH (out b o e)];exact s.nt b o n (u.same b o e),λb ps e=>by
  obtain ⟨qs,z⟩:=s.tb b ps (u.same b _ e);exact ⟨qs,by rw [cH (out b _ e)];exact z⟩⟩
def MX (z:Fz0 H cs) (hc:∀ b o,cs.lookup b = some o->∃ v,o.data = .cell v) (e:Fz H a o) (n:∀ v,o.data≠.cell v):Fz (ig H cs) a o:=by
 cases q:cs.lookup a with
 | none=>unfold Fz;rw [cH q];exact e
 | some x =>
   have y:=z a x q;unfold Fz at e;rw [e] at y;unfold fzO at y;cases y;obtain ⟨v,d⟩:=hc a o q;exact absurd d (n v)
def vm (t:ik H) (z:Fz0 H cs) (hc:∀ b o,cs.lookup b = some o->∃ v,o.data = .cell v):ik (ig H cs):=λy hy=>by
 obtain ⟨ps,h1,h2,h3⟩:=t y hy;refine ⟨ps,?_,h2,λpos cv e=>?_⟩
 . cases q:cs.lookup y.1 with
   | none=>rw [cH q];exact h1
   | some x =>
     have:=z _ x q;rw [h1] at this;cases this
 . obtain ⟨c,o,vs,tk,e1,e2,e3,e4⟩:=h3 pos cv e;exact ⟨c,o,vs,tk,e1,MX z hc e2 (λv w=>by rw [e3] at w;cases w),e3,e4⟩
def Hj (z:Fz0 H cs) (h:SqT K H a xs):SqT K (ig H cs) a xs:=by
 rcases h with h | h
 . left
   cases q:cs.lookup a with
   | none =>
     rcases h with h | ⟨o,h⟩
     . exact .inl (by rw [cH q];exact h)
     . exact .inr ⟨o,by rw [cH q];exact h⟩
   | some x =>
     have y:=z a x q;rcases h with h | ⟨o,h⟩
     . rw [h] at y;cases y
     . rw [h] at y;cases y
 . exact .inr h
mutual
theorem yQ (z:Fz0 H cs):∀ (d:D) (v:V),lf d = true->Rel K H F d v->Rel K (ig H cs) F d v
 | .non,v,_,h=>by unfold Rel at h |-;exact h
 | .bl b,v,_,h=>by unfold Rel at h |-;exact h
 | .int i,v,_,h=>by unfold Rel at h |-;exact h
 | .str x,v,_,h=>by unfold Rel at h |-;exact h
 | .lst ds,v,l,h=>by unfold lf at l;cases l
 | .tup ds,v,l,h=>by
   unfold lf at l;unfold Rel at h |-;obtain ⟨a,xs,e,h1,h3⟩:=h
   exact ⟨a,xs,e,Hj z h1,qt z ds xs l h3⟩
 | .fn _ _,v,l,h=>by unfold lf at l;cases l
theorem qt (z:Fz0 H cs):∀ (ds:List D) (xs:List V),lfL ds = true->aN K H F ds xs->aN K (ig H cs) F ds xs
 | [],xs,_,h=>by unfold aN at h |-;exact h
 | d::ds,xs,l,h=>by
   unfold lfL at l;rw [aa] at l;unfold aN at h |-;obtain ⟨y,ys,e,h1,h2⟩:=h;exact ⟨y,ys,e,yQ z d y l.1 h1,qt z ds ys l.2 h2⟩
end
def lookup_mem:∀ {l:List (au × Obj)},l.lookup b = some o->(b,o)∈l
 | [],h=>by simp at h
 | (c,x)::l,h=>by
   rw [bW] at h
   cases q:(b == c) with
   | true =>
     rw [q] at h;cases h;rw [show b = c by simpa using q]
     exact ar
   | false =>
     rw [q] at h;exact ao _ (lookup_mem h)
def lX:∀ {cells:List au} {os:List Obj} {p:au × Obj},cells.Nodup->p∈cells.zip os->(cells.zip os).lookup p.1 = some p.2
 | [],_,_,_,h=>by simp at h
 | _::_,[],_,_,h=>by simp at h
 | c::cells,o::os,p,n,h=>by
   rw [cY] at h |-;rcases az.mp h with rfl | h
   . simp [List.lookup]
   . have hne:p.1≠c:=λz=>(cj.mp n).1 (by rw [<- z];exact (iL (a:=p.1) (b:=p.2) h).1);have:(p.1 == c) = false:=by simpa using hne
     rw [bW,this];exact lX (cj.mp n).2 h
end
def oG (X:Cx):List Nat->List Str->List au->Prop
 | [],ys,cs=>ys = []/\cs = []
 | i::r,ys,cs=>∃ y ys' c cs',ys = y::ys'/\cs = c::cs'/\X.N[i]? = some y/\X.env.kindOf y = some .cell/\X.env.cells.lookup y = some c/\oG X r ys' cs'
section
variable {X:Cx} {cx:Cl} {k:Nat}
def FG {K:PySem.W.Frag} {H:Hp} {F:au->Prop} {d:D} {v:V} (f:flat d = true) (r:Rel K H F d v):v = flV d:=by
 cases d<;>first | (unfold Rel at r;exact r) | (unfold flat at f;cases f)
def wz:∀ {caps:List Nat} {ys:List Str} {cells:List au},oG X caps ys cells->∀ c∈cells,∃ y∈ys,X.env.cells.lookup y = some c
 | [],ys,cells,h=>by obtain ⟨rfl,rfl⟩:=h;simp
 | i::r,ys,cells,h=>by
   obtain ⟨y,ys',c,cs',rfl,rfl,_,_,e,h⟩:=h;intro c' hc;rcases az.mp hc with rfl | hc
   . exact ⟨y,ar,e⟩
   . obtain ⟨y',h1,h2⟩:=wz h c' hc;exact ⟨y',ao _ h1,h2⟩
def mx (inj:∀ x y c,X.env.cells.lookup x = some c->X.env.cells.lookup y = some c->x = y):∀ {caps:List Nat} {ys:List Str} {cells:List au},oG X caps ys cells->ys.Nodup->cells.Nodup/\cells.length = ys.length
 | [],ys,cells,h,_=>by obtain ⟨rfl,rfl⟩:=h;simp
 | i::r,ys,cells,h,n=>by
   obtain ⟨y,ys',c,cs',rfl,rfl,_,_,e,h⟩:=h;obtain ⟨n1,n2⟩:=cj.mp n;obtain ⟨a,b⟩:=mx inj h n2;refine ⟨cj.mpr ⟨λz=>?_,a⟩,by simp [b]⟩;obtain ⟨y',h1,h2⟩:=wz h c z;exact n1 (inj y y' c e h2▸h1)
def zX (I:Inv X pins σ H s) (ok:Ok X.K G F σ H δ):∀ {caps:List Nat} {ys:List Str} {cells:List au} {cs:List D},oG X caps ys cells->lS δ caps = some cs ->
 ∃ os:List Obj,os.length = cells.length/\(∀ p∈cells.zip os,H p.1 = none/\s.heap.get? p.1 = some p.2/\(∃ y,X.env.cells.lookup y = some p.1)/\∃ v,p.2.data = .cell v)/\∀ H':Hp,(∀ p∈cells.zip os,Fz H' p.1 p.2)->kZ H' cells cs
 | [],ys,cells,cs,h,e=>by
   obtain ⟨rfl,rfl⟩:=h;unfold lS at e;cases e
   exact ⟨[],rfl,↥0,λ_ _=>rfl⟩
 | i::r,ys,cells,cs,h,e=>by
   obtain ⟨y,ys',c,cs',rfl,rfl,hN,hk,hc,h⟩:=h;unfold lS at e
   cases q:get δ i with
   | none=>rw [q] at e;cases e
   | some d =>
     rw [q] at e;dsimp only at e;split at e
     . rename_i hf;rw [aJ] at e;obtain ⟨ds,e1,rfl⟩:=e;obtain ⟨os,l,a1,a2⟩:=zX I ok h e1;obtain ⟨v,ev,rb,_⟩:=ok.look q
       have rv:v = flV d:=by
        rcases rb with rb | ⟨_,_,_,z,_⟩
        . exact FG hf rb
        . rw [z] at hf;cases hf
       subst rv;obtain ⟨m,hn,hl⟩:=I.loc;obtain ⟨u,ru,lk⟩:=hl i y _ hN ev (.inr (.inl hk));rcases lk with ⟨z,_⟩ | ⟨_,c',hc',o,ho,hd⟩
       . rw [hk] at z;cases z
       . rw [hc] at hc';cases hc';refine ⟨o::os,by simp [l],λp hp=>?_,λH' hz=>?_⟩
         . rw [cY] at hp;rcases az.mp hp with rfl | hp
           . exact ⟨I.freeC y c hc,ho,⟨y,hc⟩,_,hd⟩
           . exact a1 p hp
         . exact ⟨d,ds,o,u,rfl,hf,hz (c,o) (by rw [cY];exact ar),hd,ru,a2 H' λp hp=>hz p (by rw [cY];exact ao _ hp)⟩
     . cases e
def tLm (q:Str) (params:oX) (body:aE) (scope:eA) (clos:List (Str × au)):TE:=λ_ H Q=>ik H/\∀ (f c':au) (oc:Obj) (vs:Array ah) (tk:Tok) (pm ctv:ah) (H':Hp),Sim H H'->ik H'->Fz H' f (PySem.W.kla_obj "<lambda>" q params body scope clos pm c' ctv)->Fz H' c' oc->oc.data = .fields vs->vs[1]? = some (.str q tk)->Q (.ref f) H'
def Ow (M:Mk X P q) (hcl:closureFor scope X.env = pure clos) (hdef:defaultsOf params X.env = ([],[])):PE X (.Lambda params body scope pos) (tLm q params body scope clos) :=
 λpins s σ H Q I ⟨t,h⟩=>OP I M t hcl hdef h
def HD (e:evS cx (.retL f es n caps) δ = some o):∃ ds δ1 cs d,dH cx es δ = some (ds,δ1)/\lS δ1 caps = some cs/\cx.hf f = true/\cx.call f (ds++[.fn n cs]) = some d/\lf d = true/\o = .rt d δ1:=by
 simp only [evS,ae,af] at e;obtain ⟨⟨ds,δ1⟩,e1,cs,e2,e⟩:=e;dsimp only at e e2;split at e
 . rename_i hf;rw [aJ] at e;obtain ⟨r,er,e⟩:=e;unfold lfO at er;split at er
   . split at er
     . rename_i r' q hl;cases er;exact ⟨ds,δ1,cs,r,e1,e2,hf,q,hl,e.symm⟩
     . cases er
   . cases er
 . cases e
def Dy {c:Ck} (C:Cok X c cx k) {f n:Nat} {es:Es} {caps:List Nat} {x:Str} {y:aE} {ys:List aE} {ps:List Str} {P:au} {L:Lam} {cells:List au} {p lp pos rp:Pos} (hL:Tbs.lams.lookup n = some L) (M:Mk X P L.qual) (hcl:closureFor L.scope X.env = pure (L.caps.zip cells)) (hdef:defaultsOf L.params X.env = ([],[]))
 (hcp:oG X caps L.caps cells) (hnd:L.caps.Nodup) (hfn:∀ y,X.fn y = true) (n0:ie es = true) (ef:c.fns[f]? = some (x,ps)) (hg:fI c x = true)
 (hA:∀ z tz,PE X z tz->starEach [z] X.env = (false,eval z X.env)::starEach [] X.env->PA X (y::(ys++[z])) (xA X.K cx es tz)) (he:∀ z,starEach (y::(ys++[z])) X.env = (false,eval y X.env)::starEach (ys++[z]) X.env)
 (hpl:∀ z,starEach [z] X.env = (false,eval z X.env)::starEach [] X.env->(backTo pos (starEach (ys++[z]) X.env)).any (·.1) = false) :
 PS X (.Return (some (.Call (.Name x p) (y::(ys++[.Lambda L.params L.body L.scope lp])) [] pos)) rp) (tS X.K (evS cx (.retL f es n caps))):=by
 obtain ⟨g1,g2,g3⟩:=C.global hg;intro pins s σ H E I hq;obtain ⟨G,F,δ,o,ok,ev,post⟩:=hq;obtain ⟨ds,δ1,cs,d,ea,ec,hf,er,hl,rfl⟩:=HD ev;refine NB ?_;obtain ⟨a,fd,hm,hk,hb,fn⟩:=C.fnF f _ _ ef hf
 have fin:wpAny (model X.prog X.w) X.A (eval (.Call (.Name x p) (y::(ys++[.Lambda L.params L.body L.scope lp])) [] pos) X.env) (EP X pins σ λv H'=>∃ F',Step G F H F' H'/\Ok X.K G F' σ H' δ1/\Rel X.K H' F' d v) X.xe s:=by
  refine gQ (um I g1 hm ?_ g2)
  refine PySem.W.callWith_K (h₀:=X.base) I.ok.mod.kin hk (thn (hA _ _ (Ow M hcl hdef) rfl pos pins s σ H (λvs' H1=>∃ vs F1 fa c' oc ws tk pm ctv,vs' = vs++[.ref fa]/\Step G F H F1 H1/\Ok X.K G F1 σ H1 δ1/\aN X.K H1 F1 ds vs /\
   Fz H1 fa (PySem.W.kla_obj "<lambda>" L.qual L.params L.body L.scope (L.caps.zip cells) pm c' ctv)/\Fz H1 c' oc/\oc.data = .fields ws/\ws[1]? = some (.str L.qual tk)) I ⟨G,F,δ,ds,δ1,ok,ea,λvs H1 F1 st1 sm1 ok1 r1=>⟨ok1.tabs,λfa c' oc ws tk pm ctv H2 s2 t2 z1 z2 z3 z4=>?_⟩⟩) λus s1 ⟨vs',H1,I1,r,q⟩=>⟨I1.kIn,?_⟩) (he _) (hpl _ rfl)
  . obtain ⟨ok2,st2⟩:=ok1.call s2 t2;exact ⟨vs,F1,fa,c',oc,ws,tk,pm,ctv,rfl,st1.trans st2,ok2,aN.step ok1.fd st2 ds vs (r1.rl n0),z1,z2,z3,z4⟩
  obtain ⟨vs,F1,fa,c',oc,ws,tk,pm,ctv,rfl,st,ok1,rl,z1,z2,z3,z4⟩:=q;obtain ⟨os,hol,a1,a2⟩:=zX I1 ok1 hcp ec;have nd:=(mx I1.ok.inj hcp hnd).1;have un0:Un0 H1 s1.heap (cells.zip os):=λb o e=>⟨(a1 (b,o) (lookup_mem e)).1,(a1 (b,o) (lookup_mem e)).2.1⟩;have isc:∀ b o,(cells.zip os).lookup b = some o->∃ v,o.data = .cell v:=λb o e=>(a1 (b,o) (lookup_mem e)).2.2.2
  have nfr:∀ b o,(cells.zip os).lookup b = some o->X.s₀.heap.objs.size<=b/\b∉frs X.stack:=λb o e=>by
   obtain ⟨_,_,⟨w,hw⟩,_⟩:=a1 (b,o) (lookup_mem e);have hsz:=I1.ok.cab w b (hfn w) hw;refine ⟨hsz,λz=>?_⟩;rcases az.mp (I1.stkSub b z) with z | z
   . exact I1.cne w b hw z
   . obtain ⟨_,o',ho',_⟩:=I1.ok.funs.mem z;exact absurd (ba (aC ho') hsz) (cC _)
  have nb:∀ b o,(cells.zip os).lookup b = some o->X.base.get? b = none/\b∉frs X.stack:=λb o e=>⟨Am (aS I1.ok.bsz (nfr b o e).1),(nfr b o e).2⟩;have sm1:=un0.same;have ok2:=ok1.same' sm1;have fv:FnV (kJ H1 (cells.zip os)) n cs fa:=⟨L,pm,ctv,c',oc,ws,tk,cells,hL,sm1 _ _ z1,sm1 _ _ z2,z3,z4,nd,(mx I1.ok.inj hcp hnd).2,a2 _ λp hp=>nH (lX nd hp)⟩
  have sp:AV X.K (cx.call f) (vs++[.ref fa]) (kJ H1 (cells.zip os)) (λv H'=>Sim (kJ H1 (cells.zip os)) H'/\ik H'/\Rel X.K H' F1 d v) E0 :=
   ⟨F1,ds,vs,n,cs,fa,d,ok2.fd,ok2.tf,ok2.tabs,rfl,aN.step (G:=G) ok1.fd (Step.of_same sm1) ds vs rl,fv,er,λv H' x1 x2 x3=>⟨x1,x2,x3⟩⟩
  have hl2:(us++([]:List ah)).length = ps.length:=by rw [aY,<- r.length];exact fn.len _ _ _ _ sp
  have bb:=hb s1 us I1.kIn hl2;rw [aY] at bb;refine Nv (mz (fn.run X.A X.stack s1 _ ⟨us,[]⟩ us _ _ E0 C.room (uO.add I1.env0 un0 nb) bb r sp) λr s' hq=>?_)
  cases r with
  | error e=>exact hq.elim
  | ok fl =>
    cases fl with
    | next=>exact cE hq
    | brk=>exact cE hq
    | cont=>exact cE hq
    | ret u =>
      obtain ⟨v,H',I',rv,fz,x1,x2,x3⟩:=Inv.callF I1 un0 (λb o e=>(nfr b o e).2) hq;obtain ⟨ok3,st3⟩:=ok1.call (HA un0 x1) (vm x2 fz isc);exact ⟨v,_,I',rv,F1,st.trans st3,ok3,yQ fz d v hl x3⟩
 exact thn fin λu s1 ⟨v,H1,I1,rv,F1,st,ok1,rl⟩=>⟨v,σ,H1,I1,rv,post v σ H1 F1 st ok1 rl⟩
end
def qo {K:PySem.W.Frag} {H:Hp} {F:au->Prop} {ds:List D} {vs:List V} {N:List Str} (fd:FD F H) (tf:TF F) (tb:ik H) (r:aN K H F ds vs) (hl:vs.length<=N.length):Ok K ⟨H,λb=>F b/\∃ o,H b = some o/\Mo o⟩ F (start N vs) H (init N.length ds):=by
 have hlen:=r.length
 have low:∀ (i:Nat) (s:Sl),(init N.length ds)[i]? = some s->s = .no\/∃ d,ds[i]? = some d/\s = .val d:=λi s e=>by
  unfold init at e;by_cases hi:i < ds.length
  . rw [bh (by simpa using hi),br,aB hi] at e;cases e;exact .inr ⟨_,aB hi,rfl⟩
  . rw [bB (by simp;lia),du] at e;split at e
    . cases e;exact .inl rfl
    . cases e
 refine ⟨Sim.refl H,fd,λb z=>z.1,λb z=>z.2,tf,tb,?_,λi s e=>?_,λi j s t a e1 _ o1=>?_⟩
 . unfold init L2.start;simp only [ag,ai,dI]
   lia
 . rcases low i s e with rfl | ⟨d,e1,rfl⟩
   . trivial
   . obtain ⟨v,hv,rv⟩:=r.get e1;refine ⟨v,?_,rv⟩;unfold L2.start;have hi:i < vs.length:=(aF.mp hv).1;rw [bh (by simpa using hi),br,hv];rfl
 . rcases low i _ e1 with z | ⟨d,_,z⟩<;>(subst z;cases o1)
section
variable {P:aQ} {w:bw} {H H':Hp} {h h':bJ} {cs:List (au × Obj)} {F:au->Prop}
def jG {b:au} (e:H b = none):ig H cs b = none:=by
 cases q:cs.lookup b with
 | none=>rw [cH q];exact e
 | some o=>exact lG q
def Fz0.out (z:Fz0 H cs) (n:∀ o,H b≠some (fzO b o)):cs.lookup b = none:=by
 cases q:cs.lookup b with
 | none=>rfl
 | some o=>exact absurd (z b o q) (n o)
def Un.add (z:Fz0 H cs) (u:Un fs ex (ig H cs) H' h h') (c:Un0 H' h' cs):Un fs ex H (kJ H' cs) h h':=by
 have out:∀ {b},H b = none->cs.lookup b = none:=λ{b} e=>z.out λo q=>by rw [e] at q;cases q
 refine ⟨λb o e n hb hx=>u.keep b o e (jG n) hb hx,λb o e n hb hx=>u.slot b o e (jG n) hb hx,λb o e n hx=>?_,u.there,λb xs e=>?_,λb o y e=>?_,λb ps e=>?_⟩
 . rw [dr (out n)];exact u.free b o e (jG n) hx
 . have q:=z.out (b:=b) λo q=>by rw [e] at q;cases q
   rw [dr q];exact u.tups b xs (by rw [cH q];exact e)
 . cases q:cs.lookup b with
   | none=>rw [dr q];exact u.frzs b o y (by rw [cH q];exact e)
   | some o'=>rw [nH q,<- z b o' q];exact e
 . have q:=z.out (b:=b) λo q=>by rw [e] at q;cases q
   obtain ⟨more,x⟩:=u.tbls b ps (by rw [cH q];exact e);exact ⟨more,by rw [dr q];exact x⟩
def HB (z:Fz0 H cs) (s:Sim (ig H cs) H'):Sim H (kJ H' cs):=by
 refine ⟨λb o n e=>?_,λb ps e=>?_⟩
 . cases q:cs.lookup b with
   | none=>rw [dr q];exact s.nt b o n (by rw [cH q];exact e)
   | some o'=>rw [nH q,<- z b o' q];exact e
 . have q:=z.out (b:=b) λo q=>by rw [e] at q;cases q
   obtain ⟨qs,x⟩:=s.tb b ps (by rw [cH q];exact e);exact ⟨qs,by rw [dr q];exact x⟩
def FD.del (fd:FD F H) (z:Fz0 H cs):FD F (ig H cs):=λb hb=>by
 obtain ⟨u,e,m⟩:=fd b hb
 have nq:=z.out (b:=b) λo q=>by
  rw [e] at q;cases q;rcases m with m | ⟨⟨ps,w⟩,_⟩
  . exact m
  . cases w
 exact ⟨u,by rw [cH nq];exact e,m⟩
def FD.sim (fd:FD F H) (s:Sim H H'):FD F H':=λb hb=>by
 obtain ⟨u,e,m⟩:=fd b hb;rcases m with m | ⟨⟨ps,rfl⟩,t⟩
 . exact ⟨u,s.nt _ _ m.nt e,.inl m⟩
 . obtain ⟨qs,e⟩:=s.tb b ps e;exact ⟨_,e,.inr ⟨⟨qs,rfl⟩,t⟩⟩
end
def sH {H:Hp}:∀ {cells:List au} {cs:List D},kZ H cells cs->∃ os:List Obj,os.length = cells.length/\cells.length = cs.length/\(∀ p∈cells.zip os,Fz H p.1 p.2/\∃ v,p.2.data = .cell v) /\
 ∀ (j:Nat) (c:au) (d:D),cells[j]? = some c->cs[j]? = some d->∃ o u,Fz H c o/\o.data = .cell (some u)/\RelV (flV d) u/\flat d = true
 | [],cs,h=>by
   have h:cs = []:=h;subst h
   exact ⟨[],rfl,rfl,↥0,↥0⟩
 | c::r,cs,h=>by
   obtain ⟨d,ds',o,u,rfl,h1,h2,h3,h4,h5⟩:=h;obtain ⟨os,e1,e2,e3,e4⟩:=sH h5;refine ⟨o::os,by simp [e1],by simp [e2],λp hp=>?_,λj c' d' q1 q2=>?_⟩
   . rw [cY] at hp;rcases az.mp hp with rfl | hp
     . exact ⟨h2,_,h3⟩
     . exact e3 p hp
   . cases j with
     | zero=>cases q1;cases q2;exact ⟨o,u,h2,h3,h4,h1⟩
     | succ j=>exact e4 j c' d' (by simpa using q1) (by simpa using q2)
def BE {K:PySem.W.Frag} {H:Hp} {F:au->Prop} {d:D} (f:flat d = true):Rel K H F d (flV d):=by
 cases d<;>first | (unfold Rel;rfl) | (unfold flat at f;cases f)
def mj {β:Type}:∀ {l:List (Str × β)} {x:Str} {v:β},(l.map (·.1)).Nodup->(x,v)∈l->l.lookup x = some v
 | [],_,_,_,h=>by simp at h
 | (y,u)::l,x,v,n,h=>by
   rw [aW] at n;rcases az.mp h with e | h
   . cases e;simp [List.lookup]
   . have:x≠y:=λz=>(cj.mp n).1 (by rw [<- z];exact bj.mpr ⟨(x,v),h,rfl⟩);have e:(x == y) = false:=by simpa using this
     rw [bW,e];exact mj (cj.mp n).2 h
def pC {α β:Type}:∀ {l:List α} {m:List β} {j:Nat} {x:α} {v:β},l[j]? = some x->m[j]? = some v->(x,v)∈l.zip m
 | [],_,_,_,_,h,_=>by simp at h
 | _::_,[],_,_,_,_,h=>by simp at h
 | a::l,b::m,0,x,v,h,h'=>by cases h;cases h';exact ar
 | a::l,b::m,j+1,x,v,h,h'=>ao _ (pC (j:=j) (by simpa using h) (by simpa using h'))
def pZ {α β:Type}:∀ {l:List α} {m:List β},l.length = m.length->(l.zip m).map (·.1) = l
 | [],_,_=>by simp
 | _::_,[],h=>by simp at h
 | a::l,b::m,h=>by simp [pZ (l:=l) (m:=m) (by simpa using h)]
structure Ah (L:Lam):Prop where
 kind:L.scope.kind = .function
 co:L.scope.isCoroutine = false
 gen:L.scope.isGenerator = false
 nocell:∀ x∈L.scope.names,x.2≠.cell
 ploc:∀ x∈L.ps,L.scope.names.lookup x = some .local
 cfree:∀ x∈L.caps,L.scope.names.lookup x = some .free
 frees:∀ x∈L.scope.names,x.2 = .free->x.1∈L.caps
 nd:(L.ps++L.caps).Nodup
 bd:∀ (cl:List (Str × au)) (pm cdv ct:ah) (us:List ah),us.length = L.ps.length->bindArgs (PySem.W.kla_fn "<lambda>" L.qual L.params L.body L.scope cl pm cdv ct) ⟨us,[]⟩ = pure (L.ps.zip us)
def cxL (P:aQ) (w:bw) (K:PySem.W.Frag) (mg:Str->Option ah) (base:bJ) (L:Lam) (f:au) (cd:ah) (cl:List (Str × au)) (A:bt) (outer:List Env) (s:ak) (H:Hp):Cx where
 prog:=P
 w:=w
 K:=K
 mg:=mg
 base:=base
 A:=A.deeper (PySem.W.envX L.qual L.scope s.heap.objs.size f cd cl)
 N:=L.ps++L.caps
 s₀:=s
 H₀:=H
 env:=PySem.W.envX L.qual L.scope s.heap.objs.size f cd cl
 outer:=outer
 stack:=PySem.W.envX L.qual L.scope s.heap.objs.size f cd cl::outer
 ex:=[]
 calm:=true
 fn:=λ_=>false
 pn:=[]
 xe:=λ_ _=>False
def MH {P:aQ} {w:bw} {K:PySem.W.Frag} {mg:Str->Option ah} {base:bJ} {n k:Nat} {f:List D->Option D} {L:Lam} {cx:Cl} {e:E} (hL:Tbs.lams.lookup k = some L) (lo:Ah L)
 (hE:∀ (a:au) (cd:ah) (cl:List (Str × au)) (A:bt) (outer:List Env) (s:ak) (H:Hp),kK n (A.deeper (PySem.W.envX L.qual L.scope s.heap.objs.size a cd cl))->PE (cxL P w K mg base L a cd cl A outer s H) L.body (tE K cx e))
 (np0:bM e = false) (hf:∀ ds d,f ds = some d->ds.length = (L.ps++L.caps).length/\∃ δ',evE cx e (init (L.ps++L.caps).length ds) = some (d,δ')):Ji P w K mg base (n+1) k f:=by
 intro A outer s H a us vs cs Q hr e0 rv fv hq;obtain ⟨L',pm,ctv,c',oc,ws,tk,cells,h1,fo,fc,hd,hv,cnd,clen,cv⟩:=fv;rw [hL] at h1;cases h1;obtain ⟨F,ds,d,fd,tf,tb,rl,lfl,er,lfd,post⟩:=hq;obtain ⟨os,e1,e2,e3,e4⟩:=sH cv;obtain ⟨hlen,δ',ev⟩:=hf _ _ er;have lds:ds.length = L.ps.length:=by rw [ag,ag,<- e2,clen] at hlen;lia
 have lvs:vs.length = L.ps.length:=by rw [rl.length];exact lds
 have lus:us.length = L.ps.length:=by rw [<- rv.length];exact lvs
 have fz0:Fz0 H (cells.zip os):=λb o q=>(e3 (b,o) (lookup_mem q)).1;have isc:∀ b o,(cells.zip os).lookup b = some o->∃ v,o.data = .cell v:=λb o q=>(e3 (b,o) (lookup_mem q)).2;have hgo:∀ {b:au} {o:Obj},Fz H b o->s.heap.get? b = some o:=λ{b o} z=>(e0.hok b _ z).1;have ho:=hgo fo;have hcd:s.heap.CodeRec (.ref c') L.qual:=⟨c',oc,ws,tk,rfl,hgo fc,hd,hv⟩;have lim:s.heap.NoLimit:=e0.mod.nolimit.keeps λb o e=>(e0.bs b o e).1;have ndp:L.ps.Nodup:=(jL.mp lo.nd).1;have ndc:L.caps.Nodup:=(jL.mp lo.nd).2.1;have hok0:=HOk.del e0.hok fz0;refine PySem.W.kla_callFunE hr.depth ho rfl lo.co lo.gen rfl hcd ?_;rw [lo.bd _ _ _ _ us lus];have hloc:∀ y∈L.ps.zip us,L.scope.names.lookup y.1 = some .local:=λ⟨y,u⟩ hy=>lo.ploc y (iL hy).1;refine ay (jb lo.nocell hloc (λh₁ hns hsb=>⟨lim.fresh _ hsb,?_⟩) lo.kind);show codeAny _ _ (.expr L.body (PySem.W.envX L.qual L.scope s.heap.objs.size a (.ref c') (L.caps.zip cells))) _ _;have hk₁:∀ b o,s.heap.get? b = some o->h₁.get? b = some o:=λb o e=>hsb.extBut b o (aR (aC e)) (aj _ e);have clk:∀ (j:Nat) (x:Str) (c:au),L.caps[j]? = some x->cells[j]? = some c->(L.caps.zip cells).lookup x = some c:=λj x c q1 q2=>mj (by rw [pZ clen.symm];exact ndc) (pC q1 q2)
 have cof:∀ x c,(L.caps.zip cells).lookup x = some c->∃ j,L.caps[j]? = some x/\cells[j]? = some c:=λx c q=>by
  have hm:=PySem.mem_of_lookup q;obtain ⟨j,hj,ej⟩:=lU.mp hm;rw [List.getElem_zip] at ej;cases ej;rw [Jt] at hj;exact ⟨j,aB ∅,aB ∅⟩
 have cin:∀ (j:Nat) (c:au),cells[j]? = some c->∃ o u dd,cs[j]? = some dd/\Fz H c o/\o.data = .cell (some u)/\RelV (flV dd) u/\(cells.zip os).lookup c = some o:=λj c q=>by
  have hj:j < cells.length:=(aF.mp q).1;have q2:cs[j]? = some cs[j]:=aB ∅;obtain ⟨o,u,z1,z2,z3,z4⟩:=e4 j c _ q q2;have q3:os[j]? = some os[j]:=aB ∅;have hm:=pC q q3;have z5:=lX cnd hm;have z6:=(e3 _ hm).1;unfold Fz at z6;dsimp only at z6 z5;have z1':=z1;unfold Fz at z1';rw [z6] at z1';injection z1' with z1';injection z1' with z1';exact ⟨o,u,_,q2,z1,z2,z3,by rw [z5,z1']⟩
 -- the frame
 have I:Inv (cxL P w K mg base L a (.ref c') (L.caps.zip cells) A outer s (ig H (cells.zip os))) [] (L2.start (L.ps++L.caps) (vs++cs.map flV)) (ig H (cells.zip os)) { s with heap:=h₁,toks:=s.toks+(L.ps.zip us).length }:=by
  have noA:∀ b:au,b∉(cxL P w K mg base L a (.ref c') (L.caps.zip cells) A outer s (ig H (cells.zip os))).ex:=λb z=>absurd (show b∈([]:List au) from z) ↥0
  refine ⟨⟨e0.mod,lo.kind,rfl,rfl,ax _,λx y c q1 q2=>?_,λx hx=>?_,λx c q=>(nomatch q),λ_=>hr.hd,wZ e0.frames,.inr ⟨rfl,rfl⟩,λb z=>absurd z (noA b),λb o q=>⟨(e0.bs b o q).1,jG (e0.bs b o q).2⟩,e0.bsz,λb _ _=>noA b,λb z=>absurd z (noA b),e0.funs,λb hb=>jG (e0.frf b hb)⟩,
   rfl,e0.bare,Un.kept hk₁,⟨_,hns,λi x v q1 q2 q3=>?_⟩,λx c q=>?_,hok0.fresh (ax _),λx c q=>?_,λp hp=>absurd (show p∈([]:List (au × Obj)) from hp) ↥0,hok0.kept hk₁,?_⟩
  . obtain ⟨i,a1,a2⟩:=cof x c q1;obtain ⟨j,b1,b2⟩:=cof y c q2
    have:i = j:=by
     obtain ⟨h1,h2⟩:=aF.mp a2;obtain ⟨h3,h4⟩:=aF.mp b2;exact (GJ cnd).mp (h2.trans h4.symm)
    subst this;rw [a1] at b1;cases b1;rfl
  . have hx:L.scope.names.lookup x = some .cell\/L.scope.names.lookup x = some .free:=hx;rcases hx with hx | hx
    . exact absurd rfl (lo.nocell _ (PySem.mem_of_lookup hx))
    . have hm:=lo.frees _ (PySem.mem_of_lookup hx) rfl;obtain ⟨j,hj,ej⟩:=lU.mp hm;dsimp only at ej;exact ⟨cells[j]'∅,clk j x _ (by rw [<- ej];exact aB hj) (aB ∅)⟩
  . have hi:i < (vs++cs.map flV).length:=by
     unfold L2.start at q2;by_cases hi:i < (vs++cs.map flV).length
     . exact hi
     . rw [bB (by rw [ai];lia),du] at q2;split at q2<;>cases q2
    have hv':(vs++cs.map flV)[i]? = some v:=by
     unfold L2.start at q2;rw [bh (by rw [ai];exact hi),br] at q2
     cases e:(vs++cs.map flV)[i]? with
     | none=>rw [e] at q2;cases q2
     | some a=>rw [e] at q2;cases q2;rfl
    have q1:(L.ps++L.caps)[i]? = some x:=q1;by_cases hp:i < L.ps.length
    . rw [bh hp] at q1;rw [bh ∅] at hv';obtain ⟨u,hu,ru⟩:=rv.get hv';refine ⟨u,ru,.inl ⟨lo.ploc x (lT q1),?_⟩⟩;exact mj (by rw [List.map_reverse,pZ lus.symm];exact List.pairwise_reverse.mpr (ndp.imp λz=>Ne.symm z)) (List.mem_reverse.mpr (pC q1 hu))
    . rw [bB ∅] at q1;rw [bB ∅,br,lvs] at hv';have hj:i - L.ps.length < L.caps.length:=(aF.mp q1).1;have hc:cells[i - L.ps.length]? = some (cells[i - L.ps.length]'∅):=aB ∅;obtain ⟨o,u,dd,x1,x2,x3,x4,x5⟩:=cin _ _ hc;rw [x1] at hv';cases hv';exact ⟨u,x4,.inr ⟨.inr (lo.cfree x (lT q1)),_,clk _ x _ q1 hc,o,hk₁ _ _ (hgo x2),x3⟩⟩
  . obtain ⟨j,a1,a2⟩:=cof x c q;obtain ⟨o,u,dd,x1,x2,x3,x4,x5⟩:=cin _ _ a2;exact ⟨_,o,hk₁ _ _ (hgo x2),x3⟩
  . obtain ⟨j,a1,a2⟩:=cof x c q;obtain ⟨o,u,dd,x1,x2,x3,x4,x5⟩:=cin _ _ a2;exact lG x5
  . unfold L2.start;show _ = (L.ps++L.caps).length;rw [ag,ai,dI];have:(vs++cs.map flV).length = (L.ps++L.caps).length:=by rw [ag,ag,ai];lia
    lia
 have rlc:∀ (cs':List D),(∀ dd∈cs',flat dd = true)->aN K (ig H (cells.zip os)) F cs' (cs'.map flV):=by
  intro cs'
  induction cs' with
  | nil=>intro _;exact aN.nil
  | cons x xs ih=>intro hh;exact aN.cons (BE (hh x ar)) (ih λy hy=>hh y (ao _ hy))
 have hflat:∀ dd∈cs,flat dd = true:=λdd hd'=>by
  obtain ⟨j,hj,ej⟩:=lU.mp hd';obtain ⟨o,u,z1,z2,z3,z4⟩:=e4 j _ dd (aB ∅) (by rw [<- ej];exact aB hj);exact z4
 have rl2:aN K (ig H (cells.zip os)) F (ds++cs) (vs++cs.map flV):=aN.append (qt fz0 ds vs lfl rl) (rlc cs hflat);have ok:=qo (N:=L.ps++L.caps) (fd.del fz0) tf (vm tb fz0 isc) rl2 (by rw [ag,ag,ai];lia)
 have pe:=hE a (.ref c') (L.caps.zip cells) A outer s (ig H (cells.zip os)) (hr.deeper _) [] _ _ _ (λv H'=>∃ F',Ok K ⟨ig H (cells.zip os),λb=>F b/\∃ o,ig H (cells.zip os) b = some o/\Mo o⟩ F' (L2.start (L.ps++L.caps) (vs++cs.map flV)) H' δ'/\Rel K H' F' d v) I
  ⟨_,F,_,d,δ',ok,ev,λv H' F' st sm ok' r=>⟨F',ok',by rw [np0] at r;exact r⟩⟩
 refine PySem.W.kla_codeExpr (iY pe (λu s' hp=>?_) λe s' hp=>hp.elim);obtain ⟨v,H',J,rv',F',ok',r'⟩:=hp;have un:=J.base;have bz:∀ b o,(cells.zip os).lookup b = some o->s.heap.get? b = some o/\b∉frs outer:=λb o q=>⟨hgo (fz0 b o q),λz=>by have y:=fz0 b o q;rw [e0.frf b z] at y;cases y⟩;have c0:Un0 H' s'.heap (cells.zip os):=λb o q=>⟨un.free b o (bz b o q).1 (lG q) (by intro z;exact absurd (show b∈([]:List au) from z) ↥0),un.keep b o (bz b o q).1 (lG q) (bz b o q).2 (by intro z;exact absurd (show b∈([]:List au) from z) ↥0)⟩;have sim:Sim H (kJ H' (cells.zip os)):=HB fz0 ok'.same;refine ⟨v,kJ H' (cells.zip os),J.os,J.bare,Un.add fz0 un c0,HOk.add J.hok c0,rv',post v _ sim (ok'.tabs.keep λb o _ z=>c0.same b o z) ?_⟩;exact Rel.free (fd.sim sim) d v lfd (Rel.step (G:=g0) ok'.fd (Step.of_same c0.same) d v r')
structure Mkr (K:PySem.W.Frag) (cf:List (Str × List Str)) (gn:List Str) (fd:Fd) (st:cR) (fdd:eQ) where
 f:Nat
 es:Es
 k:Nat
 caps:List Nat
 x:Str
 ps:List Str
 y:aE
 ys:List aE
 p:Pos
 lp:Pos
 pos:Pos
 rp:Pos
 L:Lam
 c:au
 P:au
 cells:au->List au
 body:fd.body = .cons (.retL f es k caps) .nil
 text:dN st = [.Return (some (.Call (.Name x p) (y::(ys++[.Lambda L.params L.body L.scope lp])) [] pos)) rp]
 lam:Tbs.lams.lookup k = some L
 args:gE ⟨fd.ps++fd.loc,bA st,cf,gn⟩ es (y::ys) = true
 npk:ie es = true
 fn:cf[f]? = some (x,ps)
 gl:fI ⟨fd.ps++fd.loc,bA st,cf,gn⟩ x = true
 nd:L.caps.Nodup
 dft:∀ env,defaultsOf L.params env = ([],[])
 cl:∀ (l a:au) (cd:ah),closureFor L.scope (envOfC fd.name (bA st) l a cd) = pure (L.caps.zip (cells l))
 cp:∀ (X:Cx) (l a:au) (cd:ah),X.N = fd.ps++fd.loc->X.env = envOfC fd.name (bA st) l a cd->oG X caps L.caps (cells l)
 code:fdd.code = .ref c
 hd:PySem.W.codeHdIn K c P = true
 tb:(P,L.qual)∈Tbs.ts
 un:∀ t∈Tbs.ts,t.1 = P->t.2 = L.qual
 ql:fd.name++".<locals>."++"<lambda>" = L.qual
structure Dn (K:PySem.W.Frag) (mgv:Str->Option ah) (cf:List (Str × List Str)) (gn:List Str) (fd:Fd) (st:cR) (a:au) (fdd:eQ):Prop where
 fn:Fun K fd.name fd.name st a fdd
 mg:mgv fd.name = some (.ref a)
 sc:nJ (fd.ps++fd.loc) fd.ps (bA st)
 ck:uG ⟨fd.ps++fd.loc,bA st,cf,gn⟩ fd.body (dN st) = true\/Nonempty (Mkr K cf gn fd st fdd)\/∀ (X:Cx) (cx:Cl) (k:Nat),Cok X ⟨fd.ps++fd.loc,bA st,cf,gn⟩ cx k->X.env.scope = bA st->X.env.blockKind = .function->X.K = K->X.mg = mgv->PSs X (dN st) (tS K (dG cx fd.body))
 bd:Binds K fdd fd.ps []
def Ac (K:PySem.W.Frag) (mg:Str->Option ah) (cf:List (Str × List Str)) (gn:List Str):List Fd->Prop
 | []=>True
 | fd::r=>(∃ st a fdd,Dn K mg cf gn fd st a fdd)/\Ac K mg cf gn r
def oE {K:PySem.W.Frag} {mg:Str->Option ah} {cf:List (Str × List Str)} {gn:List Str}:∀ {G:List Fd} {i:Nat} {fd:Fd},Ac K mg cf gn G->G[i]? = some fd->∃ st a fdd,Dn K mg cf gn fd st a fdd
 | [],_,_,_,e=>by simp at e
 | f::r,0,fd,h,e=>by
   cases e
   exact h.1
 | f::r,i+1,fd,h,e=>oE (i:=i) h.2 (by simpa using e)
def mw (G:List Fd):List (Str × List Str):=G.map λfd=>(fd.name,fd.ps)
structure Ln (G Gd:List Fd) (gn:List Str) (k:Nat) (L:Lam):Prop where
 ok:Ah L
 fd:∃ fd e,G[k]? = some fd/\fd.ps = L.ps++L.caps/\fd.loc = []/\fd.body = .cons (.ret e) .nil/\fd.hf = false/\bM e = false/\ckE ⟨L.ps++L.caps,L.scope,mw Gd,gn⟩ e L.body = true
structure Top (w:bw) (K:PySem.W.Frag) (mg:Str->Option ah) (G Gd:List Fd) (gl:List D) (gn:List Str):Prop where
 fns:Ac K mg (mw Gd) gn Gd
 sub:∀ (i:Nat) (fd:Fd),Gd[i]? = some fd->G[i]? = some fd
 few:G.length<=tX
 lams:∀ (k:Nat) (L:Lam),Tbs.lams.lookup k = some L->Ln G Gd gn k L
 blt:∀ x,x∈jJ->mg x = none
 glob:∀ (g:Nat) (x:Str) (d:D),gn[g]? = some x->gl[g]? = some d->∃ u v,mg x = some u/\RelV v u/\∀ H F,Rel K H F d v
 gsome:∀ (g:Nat) (x:Str),gn[g]? = some x->∃ d,gl[g]? = some d
 gds:∀ (n:Str) (l:List (Str × Int)),Tbs.gds.lookup n = some l->∃ a,mg n = some (.ref a)/\GdK w K a l
def AU {K:PySem.W.Frag} {H:Hp} {F:au->Prop} {ds:List D} {vs:List V} {N:List Str} {k:Nat} {cs:List D} {a:au} (fd:FD F H) (tf:TF F) (tb:ik H) (r:aN K H F ds vs) (fv:FnV H k cs a) (hl:vs.length+1<=N.length):Ok K ⟨H,λb=>F b/\∃ o,H b = some o/\Mo o⟩ F (L2.start N (vs++[.ref a])) H (oP N.length ds k cs):=by
 have hlen:=r.length
 have low:∀ (i:Nat) (s:Sl),(oP N.length ds k cs)[i]? = some s->s = .no\/(∃ d,ds[i]? = some d/\s = .val d)\/(i = ds.length/\s = .fnc k cs):=λi s e=>by
  unfold oP at e;by_cases hi:i < ds.length
  . rw [bh (by simpa using hi),br,aB hi] at e;cases e;exact .inr (.inl ⟨_,aB hi,rfl⟩)
  . rw [bB (by simp;lia),ai] at e
    cases q:i - ds.length with
    | zero =>
      rw [q] at e;cases e
      exact .inr (.inr ⟨∅,rfl⟩)
    | succ m =>
      rw [q,wN,du] at e;split at e
      . cases e;exact .inl rfl
      . cases e
 have at_:∀ (i:Nat) (v:V),(vs++[.ref a])[i]? = some v->(L2.start N (vs++[.ref a]))[i]? = some (some v):=λi v e=>by
  unfold L2.start;have hi:i < (vs++[V.ref a]).length:=(aF.mp e).1;rw [bh (by rw [ai];exact hi),br,e];rfl
 refine ⟨Sim.refl H,fd,λb z=>z.1,λb z=>z.2,tf,tb,?_,λi s e=>?_,λi j s t b e1 _ o1=>?_⟩
 . unfold oP L2.start;simp only [ag,ai,dI,aw,aD]
   lia
 . rcases low i s e with rfl | ⟨d,e1,rfl⟩ | ⟨rfl,rfl⟩
   . trivial
   . obtain ⟨v,hv,rv⟩:=r.get e1;exact ⟨v,at_ i v (by rw [bh (aF.mp hv).1];exact hv),rv⟩
   . exact ⟨a,at_ _ _ (by rw [<- hlen,bB (ax _),Nat.sub_self];rfl),fv⟩
 . rcases low i _ e1 with z | ⟨d,_,z⟩ | ⟨_,z⟩<;>(subst z;cases o1)
def grow {K:PySem.W.Frag} {H H':Hp} {F F':au->Prop} {σ:L2.St} {δ:Loc} (hfd:FD F H) (ok:Ok K ⟨H,λb=>F b/\∃ o,H b = some o/\Mo o⟩ F' σ H' δ) (b:au) (z:F b):F' b:=by
 obtain ⟨o,e,m | ⟨⟨ps,rfl⟩,t,ht,eb⟩⟩:=hfd b z
 . exact ok.rf b ⟨z,o,e,m⟩
 . rw [<- eb];exact ok.tf t ht
def okC {P:aQ} {w:bw} {K:PySem.W.Frag} {mg:Str->Option ah} {base:bJ} {x qual:Str} {st:cR} {f:au} {fd:eQ} {N ps:List Str} {k:Nat} {sp:Sp} (F:Fun K x qual st f fd) (S:nJ N ps (bA st)) (len:∀ vs H Q E,sp vs H Q E->vs.length = ps.length)
 (hbody:∀ (A:bt) (outer:List Env) (s:ak) (H:Hp) (vs:List V) (Q:VK) (E:XK),kK k (A.deeper (envOfC qual (bA st) s.heap.objs.size f fd.code))->sp vs H Q E ->
   ∃ t,PSs (uD CX0 P w K mg base N qual (bA st) f fd.code A outer s H E).nox (dN st) t/\t { nx:=λ_ H'=>Q .non H',rt:=Q } (L2.start N vs) H):lM P w K mg base CX0 (k+1) f fd ps sp:=by
 obtain ⟨oc,od,dV,kV,doc,pm,an,cdv,ct,osl,rfl,lk,hcd⟩:=F.ex;refine Pl lk hcd S len λA outer s H vs Q E hr hsp=>?_;obtain ⟨t,h,q⟩:=hbody A outer s H vs Q E hr hsp;exact ⟨t,h.nox,q⟩
section
variable {P:aQ} {w:bw} {K:PySem.W.Frag} {mg:Str->Option ah} {base:bJ} {G Gd:List Fd} {gl:List D} {gn:List Str}
def BM (mg:Str->Option ah) (base:bJ):Prop:=∃ bm ob,mg "__builtins__" = some (.ref bm)/\bm≠builtinsNs/\base.get? bm = some ob/\ob.cls = .type "module"/\ob.dict = some builtinsNs/\ob.data = .plain
def mR (e:G[i]? = some fd) (h:run G gl (n+1) i ds = some d):ds.length = fd.ps.length/\∃ δ,entry fd.hf (fd.ps++fd.loc).length ds = some δ/\outD (dG ⟨run G gl n,gl,hfs G⟩ fd.body δ) = some d:=by
 unfold run at h;rw [e] at h;dsimp only at h;split at h
 . cases q:entry fd.hf (fd.ps++fd.loc).length ds with
   | none=>rw [q] at h;cases h
   | some δ=>rw [q] at h;exact ⟨‹_›,δ,rfl,h⟩
 . cases h
def zf (few:G.length<=tX) (e:G[i]? = some fd) (h:run G gl (n+1) (i+tX) ds = some d):ds.length = fd.ps.length/\∃ δ,entry fd.hf (fd.ps++fd.loc).length ds = some δ/\LQ (dG ⟨run G gl n,gl,hfs G⟩ fd.body δ) = some d:=by
 unfold run at h;rw [eX ∅] at h;dsimp only at h;rw [Nat.add_sub_cancel,e] at h;dsimp only at h;split at h
 . cases q:entry fd.hf (fd.ps++fd.loc).length ds with
   | none=>rw [q] at h;cases h
   | some δ=>rw [q] at h;exact ⟨(‹_/\_›).2,δ,rfl,h⟩
 . cases h
def su (r:aN K H F ds vs) (e:ds.getLast? = some (.fn k cs)):False:=by
 rw [List.getLast?_eq_getElem?] at e;obtain ⟨v,_,rv⟩:=r.get e;unfold Rel at rv;exact rv
def vC (z:n = 0):run G gl n f ds = none:=by
 subst z;rfl
def Gp (T:Top w K mg G Gd gl gn) (hK:K.In base) (hB:BM mg base):∀ n:Nat,(∀ (i:Nat) (fd:Fd) (st:cR) (a:au) (fdd:eQ),Gd[i]? = some fd->Dn K mg (mw Gd) gn fd st a fdd ->
 lM P w K mg base CX0 n a fdd fd.ps (spF K (run G gl n i))/\(fd.hf = true->lM P w K mg base CX0 n a fdd fd.ps (AV K (run G gl n i)))/\lM P w K mg base CX0 n a fdd fd.ps (spO K (run G gl n (i+tX)))) /\
 ∀ (k:Nat) (L:Lam),Tbs.lams.lookup k = some L->Ji P w K mg base n k (run G gl n k)
 | 0=>by
   have z:∀ i ds d,run G gl 0 i ds≠some d:=λi ds d h=>by unfold run at h;cases h
   refine ⟨λi fd st a fdd e _=>⟨⟨λvs H Q E h=>?_,λA outer s H args us vs Q E _ _ _ _ h=>?_⟩,λ_=>⟨λvs H Q E h=>?_,λA outer s H args us vs Q E _ _ _ _ h=>?_⟩,⟨λvs H Q E h=>?_,λA outer s H args us vs Q E _ _ _ _ h=>?_⟩⟩,λk L _ A outer s H a us vs cs Q _ _ _ _ h=>?_⟩
   . obtain ⟨F,ds,d,_,_,_,_,h1,_⟩:=h;exact (z _ _ _ h1).elim
   . obtain ⟨F,ds,d,_,_,_,_,h1,_⟩:=h;exact (z _ _ _ h1).elim
   . obtain ⟨F,ds,ws,k,cs,a,d,_,_,_,_,_,_,h1,_⟩:=h;exact (z _ _ _ h1).elim
   . obtain ⟨F,ds,ws,k,cs,a,d,_,_,_,_,_,_,h1,_⟩:=h;exact (z _ _ _ h1).elim
   . obtain ⟨F,ds,d,_,_,_,_,h1,_⟩:=h;exact (z _ _ _ h1).elim
   . obtain ⟨F,ds,d,_,_,_,_,h1,_⟩:=h;exact (z _ _ _ h1).elim
   . obtain ⟨F,ds,d,_,_,_,_,_,h1,_⟩:=h;exact (z _ _ _ h1).elim
 | n+1=>by
   obtain ⟨ih,il⟩:=Gp T hK hB n
   have fns:∀ (f:Nat) (x:Str) (ps:List Str),(mw Gd)[f]? = some (x,ps)->∃ gd st a fdd,gd.name = x/\gd.ps = ps/\Gd[f]? = some gd/\Dn K mg (mw Gd) gn gd st a fdd:=λf x ps hf=>by
    have hf':(Gd.map λfd=>(fd.name,fd.ps))[f]? = some (x,ps):=hf;rw [br,aJ] at hf';obtain ⟨gd,eg,ep⟩:=hf';cases ep;obtain ⟨st',a',fdd',D'⟩:=oE T.fns eg;exact ⟨gd,st',a',fdd',rfl,rfl,eg,D'⟩
   have fn1:∀ (f:Nat) (x:Str) (ps:List Str),(mw Gd)[f]? = some (x,ps)->∃ a fd,mg x = some (.ref a)/\PySem.W.keepIn K (.ref a) = true/\Binds K fd ps []/\lM P w K mg base CX0 n a fd ps (spF K (run G gl n f)):=λf x ps hf=>by
    obtain ⟨gd,st,a,fdd,rfl,rfl,eg,D'⟩:=fns f x ps hf;exact ⟨a,fdd,D'.mg,D'.fn.kp,D'.bd,(ih f gd st a fdd eg D').1⟩
   have fn2:∀ (f:Nat) (x:Str) (ps:List Str),(mw Gd)[f]? = some (x,ps)->hfs G f = true->∃ a fd,mg x = some (.ref a)/\PySem.W.keepIn K (.ref a) = true/\Binds K fd ps []/\lM P w K mg base CX0 n a fd ps (AV K (run G gl n f)):=λf x ps hf hh=>by
    obtain ⟨gd,st,a,fdd,rfl,rfl,eg,D'⟩:=fns f x ps hf;refine ⟨a,fdd,D'.mg,D'.fn.kp,D'.bd,(ih f gd st a fdd eg D').2.1 ?_⟩;unfold hfs at hh;rw [T.sub f gd eg] at hh;exact hh
   have fn3:∀ (f:Nat) (x:Str) (ps:List Str),(mw Gd)[f]? = some (x,ps)->∃ a fd,mg x = some (.ref a)/\PySem.W.keepIn K (.ref a) = true/\Binds K fd ps []/\lM P w K mg base CX0 n a fd ps (spO K (run G gl n (f+tX))):=λf x ps hf=>by
    obtain ⟨gd,st,a,fdd,rfl,rfl,eg,D'⟩:=fns f x ps hf;exact ⟨a,fdd,D'.mg,D'.fn.kp,D'.bd,(ih f gd st a fdd eg D').2.2⟩
   have lm1:∀ (m:Nat) (cs:List D) (H:Hp) (a:au),FnV H m cs a->Ji P w K mg base n m (run G gl n m):=λm cs H a fv=>by
    obtain ⟨L,_,_,_,_,_,_,_,hL,_⟩:=fv;exact il m L hL
   refine ⟨λi fd st a fdd e Dd=>?_,λk L hL=>?_⟩
   . have eG:=T.sub i fd e
     have C:∀ (A:bt) (outer:List Env) (s:ak) (H:Hp) (E:XK),kK n (A.deeper (envOfC fd.name (bA st) s.heap.objs.size a fdd.code)) ->
      Cok (uD CX0 P w K mg base (fd.ps++fd.loc) fd.name (bA st) a fdd.code A outer s H E).nox ⟨fd.ps++fd.loc,bA st,mw Gd,gn⟩ ⟨run G gl n,gl,hfs G⟩ n:=λA outer s H E hr =>
      ⟨rfl,Dd.sc.nd,λx hx=>hx,λx hx=>hx,λx hx=>⟨hx,.inl rfl⟩,λx hx=>hx,rfl,rfl,hr,fn1,fn2,fn3,lm1,T.blt,T.glob,T.gsome,T.gds,λz f ds=>vC z⟩
     have B:∀ (A:bt) (outer:List Env) (s:ak) (H:Hp) (E:XK),kK n (A.deeper (envOfC fd.name (bA st) s.heap.objs.size a fdd.code)) ->
      PSs (uD CX0 P w K mg base (fd.ps++fd.loc) fd.name (bA st) a fdd.code A outer s H E).nox (dN st) (tS K (dG ⟨run G gl n,gl,hfs G⟩ fd.body)):=λA outer s H E hr=>by
      have hblk:(uD CX0 P w K mg base (fd.ps++fd.loc) fd.name (bA st) a fdd.code A outer s H E).nox.env.blockKind = .function:=by
       unfold Env.blockKind;show (if (bA st).kind.isAnnotationScope then ScopeKind.function else (bA st).kind) = _;rw [Dd.sc.kind];rfl
      rcases Dd.ck with ck | M' | oq
      . exact rV (cx:=⟨run G gl n,gl,hfs G⟩) (C A outer s H E hr) rfl hblk fd.body (dN st) ck
      . cases M' with
        | intro M =>
        rw [M.text,M.body];have args:=M.args;have Cc:=C A outer s H E hr;refine rW (Dy (P:=M.P) (cells:=M.cells s.heap.objs.size) Cc M.lam ⟨⟨M.c,M.code,PySem.W.codeHd_of_K hK M.hd⟩,M.ql,M.tb,M.un,hB⟩ (M.cl _ _ _) (M.dft _) (M.cp _ _ _ _ rfl rfl) M.nd (λ_=>rfl) M.npk M.fn M.gl (λz tz hz hs=>xE M.es _ _ (M.y::M.ys) z tz Cc args (gY M.npk) hz hs) (λz=>?_) λz hz=>?_) vt
        . obtain ⟨_,_,_,a1,_⟩:=eM args;exact cK (cb a1) _ _
        . obtain ⟨_,_,_,_,a2⟩:=eM args;exact oa hz a2
      . exact oq _ _ n (C A outer s H E hr) rfl hblk rfl rfl
     have fin:∀ {F:au->Prop} {H:Hp} {σ:L2.St} {δ:Loc} {d:D} {Q:VK} {E:XK} (hfd:FD F H) (htf:TF F) (ok:Ok K ⟨H,λb=>F b/\∃ o,H b = some o/\Mo o⟩ F σ H δ) (h2:outD (dG ⟨run G gl n,gl,hfs G⟩ fd.body δ) = some d) (q:∀ v H',Sim H H'->ik H'->Rel K H' F d v->Q v H'),
      tS K (dG ⟨run G gl n,gl,hfs G⟩ fd.body) { nx:=λ_ H'=>Q .non H',rt:=Q } σ H:=λ{F H σ δ d Q E} hfd htf ok h2 q=>by
      cases eo:dG ⟨run G gl n,gl,hfs G⟩ fd.body δ with
      | none=>rw [eo] at h2;cases h2
      | some o =>
        rw [eo] at h2;refine ⟨⟨H,λb=>F b/\∃ o,H b = some o/\Mo o⟩,F,_,o,ok,eo,?_⟩
        cases o with
        | nx δ =>
          cases h2
          exact λσ' H' F' st' ok'=>q .non H' ok'.same ok'.tabs yP
        | rt d' δ =>
          cases h2;refine λv σ' H' F' st' ok' r'=>q v H' ok'.same ok'.tabs (Rel.step (G:=g0) ok'.fd ⟨λ_ _ _ e _=>e,λb z=>?_,λ_ _ r _ _=>r.elim,λ_ ps e=>⟨ps,e⟩⟩ _ v r')
          exact .inl (grow hfd ok' b z)
        | ro ds' δ =>
          cases h2;refine λa xs σ' H' F' st' ok' f1 f2 hs r'=>q _ H' ok'.same ok'.tabs ?_;exact iq.rel ok'.fd (grow hfd ok') (sr hfd f2.1) hs r'
     have fiO:∀ {F:au->Prop} {H:Hp} {σ:L2.St} {δ:Loc} {zs:D} {Q:VK} (hfd:FD F H) (htf:TF F) (ok:Ok K ⟨H,λb=>F b/\∃ o,H b = some o/\Mo o⟩ F σ H δ) (h2:LQ (dG ⟨run G gl n,gl,hfs G⟩ fd.body δ) = some zs) (q:∀ a u H',Sim H H'->ik H'->H a = none->H' a = some u->iq K H' (λb=>F b\/b = a) zs u->Q (.ref a) H'),
      tS K (dG ⟨run G gl n,gl,hfs G⟩ fd.body) { nx:=λ_ H'=>Q .non H',rt:=Q } σ H:=λ{F H σ δ zs Q} hfd htf ok h2 q=>by
      cases eo:dG ⟨run G gl n,gl,hfs G⟩ fd.body δ with
      | none=>rw [eo] at h2;cases h2
      | some o =>
        rw [eo] at h2;refine ⟨⟨H,λb=>F b/\∃ o,H b = some o/\Mo o⟩,F,_,o,ok,eo,?_⟩
        cases o with
        | ro ds' δ =>
          cases h2;refine λa xs σ' H' F' st' ok' f1 f2 hs r'=>q a xs H' ok'.same ok'.tabs f2.1 hs ?_
          have gr:∀ b,(F b\/b = a)->F' b:=λb z=>by
           rcases z with z | z
           . exact grow hfd ok' b z
           . rw [z];exact f1
          exact iq.step (G:=g0) ok'.fd ⟨λ_ _ _ e _=>e,λb z=>.inl (gr b z),λ_ _ r _ _=>r.elim,λ_ ps e=>⟨ps,e⟩⟩ r'
        | _=>cases h2
     refine ⟨okC Dd.fn Dd.sc (λvs H Q E h=>?_) λA outer s H vs Q E hr h=>?_,λhh=>okC Dd.fn Dd.sc (λvs H Q E h=>?_) λA outer s H vs Q E hr h=>?_,okC Dd.fn Dd.sc (λvs H Q E h=>?_) λA outer s H vs Q E hr h=>?_⟩
     . obtain ⟨F,ds,d,_,_,_,r,h1,_⟩:=h;rw [r.length,(mR eG h1).1]
     . obtain ⟨F,ds,d,hfd,htf,htb,r,h1,q⟩:=h;obtain ⟨hl,δ,ed,h2⟩:=mR eG h1;have hlen:=r.length;refine ⟨_,B A outer s H E hr,?_⟩;unfold entry at ed;split at ed
       . cases ed;exact fin (E:=E) hfd htf (qo hfd htf htb r (by rw [hlen,hl,ag];lia)) h2 q
       . split at ed
         . rename_i eq;exact (su r eq).elim
         . cases ed
     . obtain ⟨F,ds,ws,k,cs,b,d,_,_,_,rfl,r,_,h1,_⟩:=h;have:=(mR eG h1).1;rw [ag] at this |-;rw [r.length];exact this
     . obtain ⟨F,ds,ws,k,cs,b,d,hfd,htf,htb,rfl,r,fv,h1,q⟩:=h;obtain ⟨hl,δ,ed,h2⟩:=mR eG h1;have hlen:=r.length;refine ⟨_,B A outer s H E hr,?_⟩;rw [hh] at ed;unfold entry at ed;simp only [List.getLast?_concat,Al] at ed;cases ed;rw [ag] at hl;exact fin (E:=E) hfd htf (AU hfd htf htb r fv (by rw [hlen,ag];simp at hl;lia)) h2 q
     . obtain ⟨F,ds,zs,_,_,_,r,h1,_⟩:=h;rw [r.length,(zf T.few eG h1).1]
     . obtain ⟨F,ds,zs,hfd,htf,htb,r,h1,q⟩:=h;obtain ⟨hl,δ,ed,h2⟩:=zf T.few eG h1;have hlen:=r.length;refine ⟨_,B A outer s H E hr,?_⟩;unfold entry at ed;split at ed
       . cases ed;exact fiO hfd htf (qo hfd htf htb r (by rw [hlen,hl,ag];lia)) h2 q
       . split at ed
         . rename_i eq;exact (su r eq).elim
         . cases ed
   . obtain ⟨lo,fd,e,eG,ep,el,eb,eh,pk,ck⟩:=T.lams k L hL;refine MH (cx:=⟨run G gl n,gl,hfs G⟩) (e:=e) hL lo (λa cd cl A outer s H hr=>?_) pk λds d h1=>?_
     . refine dB e (cxL P w K mg base L a cd cl A outer s H) ⟨L.ps++L.caps,L.scope,mw Gd,gn⟩ L.body (k:=n) ⟨rfl,lo.nd,λx hx=>hx,λx hx=>hx,λx hx=>?_,λx hx=>hx,rfl,rfl,hr,fn1,fn2,fn3,lm1,T.blt,T.glob,T.gsome,T.gds,λz f ds=>vC z⟩ ck
       have:L.scope.names.lookup x = some .local:=by
        rcases hx with hx | hx
        . exact hx
        . exact absurd rfl (lo.nocell _ (PySem.mem_of_lookup hx))
       exact ⟨.inl this,.inr this⟩
     . obtain ⟨hl,δ,ed,h2⟩:=mR eG h1;rw [eh,ep,el,aY] at ed;rw [ep] at hl;cases ed;rw [eb] at h2;refine ⟨hl,?_⟩;simp only [dG,evS,ae] at h2
       cases q:evE ⟨run G gl n,gl,hfs G⟩ e (init (L.ps++L.caps).length ds) with
       | none=>rw [q] at h2;cases h2
       | some r =>
         rw [q] at h2;cases h2;exact ⟨r.2,rfl⟩
end
def rxs (st:cR):List aE:=match dN st with
 | [.Return (some (.Call _ xs _ _)) _]=>xs
 | _=>[]
def rps (st:cR):Pos × Pos × Pos:=match dN st with
 | [.Return (some (.Call (.Name _ p) _ _ q)) r]=>(p,q,r)
 | _=>(⟨0,0,0,0⟩,⟨0,0,0,0⟩,⟨0,0,0,0⟩)
def rlm (st:cR):aE:=(rxs st).getLastD (.Constant .none 0 ⟨0,0,0,0⟩)
def OZ:aE->oX
 | .Lambda a _ _ _=>a
 | _=>⟨[],[],none,[],[],none,[]⟩
def OY:aE->aE
 | .Lambda _ b _ _=>b
 | x=>x
def OW:aE->eA
 | .Lambda _ _ s _=>s
 | _=>{ kind:=.function,names:=[],isGenerator:=false,isCoroutine:=false,more:=[] }
def OX:aE->Pos
 | .Lambda _ _ _ p=>p
 | _=>⟨0,0,0,0⟩
def hS (a:au) (o:Option HO):Hp:=λb=>if b = a/\o.isSome = true then o else if b∈Tbs.ts.map (·.1) then some (.tbl #[]) else none
def uv (e:hS a o b = some u):(b = a/\o = some u)\/(b∈Tbs.ts.map (·.1)/\u = .tbl #[]):=by
 unfold hS at e;split at e
 . rename_i h;exact .inl ⟨h.1,e⟩
 . split at e
   . cases e;exact .inr ⟨‹_›,rfl⟩
   . cases e
def IH {P:aQ} {w:bw} {K:PySem.W.Frag} {mg mb:Str->Option ah} {fa a:au} {fd:eQ} {x:Str} {f:List D->Option D} {s₁:ak} {vs:List ah} {ns:List Int}
 (KX:K.In s₁.heap) (hns:s₁.heap.Ns mainGlobals mg) (hb:s₁.heap.Ns builtinsNs mb) (hbb:∀ x:Str,x≠"__name__"->mb x = bootBuiltins x) (hlim:s₁.heap.NoLimit) (hg:s₁.gens = #[]) (hbm:BM mg s₁.heap)
 (ha:s₁.heap.get? a = some { cls:=.type "list",data:=.seq vs.toArray }) (hi:GC vs ns) (hl:ns.length<=sizeLine) (hr:kK 200 callerA)
 (ht:∀ t∈Tbs.ts,s₁.heap.get? t.1 = some (PySem.W.tabObj #[])/\K.lookup t.1 = none/\isCodeTable s₁.heap t.1)
 (F:∀ base:bJ,K.In base->BM mg base->lM P w K mg base CX0 200 fa fd [x] (spF K f)) (hbind:Binds K fd [x] [])
 (hf:f [.lst (ns.map .int)] = some (.bl true)) :
 codeAny (model P w) callerA (.call (.ref fa) ⟨[.ref a],[]⟩) (λr s'=>r = .ok (.ret (.bool true))/\OldK s₁.heap s'.heap/\s'.os = s₁.os/\mE s'.gens) s₁:=by
 have rv:=rQ hi;have lenV:=hi.length
 have htm:∀ b,b∈Tbs.ts.map (·.1)->s₁.heap.get? b = some (PySem.W.tabObj #[])/\K.lookup b = none/\isCodeTable s₁.heap b:=λb hb=>by
  obtain ⟨t,h1,h2⟩:=bj.mp hb;rw [<- h2];exact ht t h1
 have aT:a∉Tbs.ts.map (·.1):=λz=>by
  have:=(htm a z).1;rw [ha] at this;cases this
 have core:∀ o:Option HO,(∀ u,o = some u->∃ xs,u = .frz { cls:=.type "list",data:=.seq vs.toArray } (.lst xs))->HOk P w (hS a o) s₁.heap->(o≠none->K.lookup a = none)->Rel K (hS a o) (λb=>b∈Tbs.ts.map (·.1)) (.lst (ns.map .int)) (.ref a) ->
  codeAny (model P w) callerA (.call (.ref fa) ⟨[.ref a],[]⟩) (λr s'=>r = .ok (.ret (.bool true))/\OldK s₁.heap s'.heap/\s'.os = s₁.os/\mE s'.gens) s₁:=by
  intro o hO hok hK hR;have base_of:∀ {b:au} {x:Obj},s₁.heap.get? b = some x->hS a o b = none->(rF s₁.heap (hS a o)).get? b = some x:=λe n=>Fy e n
  have noA:∀ {b:au} {x:Obj},s₁.heap.get? b = some x->(∀ its n,x.data≠.seq its n)->(∀ vs,x.data≠.fields vs)->hS a o b = none:=λ{b x} e d1 d2=>by
   cases q:hS a o b with
   | none=>rfl
   | some u =>
     rcases uv q with ⟨rfl,_⟩ | ⟨z,_⟩
     . rw [ha] at e;cases e;exact absurd rfl (d1 _ _)
     . rw [(htm b z).1] at e;cases e;exact absurd rfl (d2 _)
  have nsK:∀ {b:au} {m:Str->Option ah},s₁.heap.Ns b m->(rF s₁.heap (hS a o)).Ns b m:=λ{b m} ⟨x,es,ep,e,d,r⟩=>⟨x,es,ep,base_of e (noA e (λ_ _ z=>by rw [d] at z;cases z) λ_ z=>by rw [d] at z;cases z),d,r⟩
  have hKb:K.In (rF s₁.heap (hS a o)):=λb x e=>base_of (KX b x e) (by
   cases q:hS a o b with
   | none=>rfl
   | some u =>
     rcases uv q with ⟨rfl,z⟩ | ⟨z,_⟩
     . rw [hK (by rw [z];simp)] at e;cases e
     . rw [(htm b z).2.1] at e;cases e)
  have hM:Mod K mg (rF s₁.heap (hS a o)):=⟨hKb,nsK hns,⟨mb,nsK hb,hbb⟩,let ⟨mc,h1,h2⟩:=hlim;⟨mc,nsK h1,h2⟩⟩
  have hB:BM mg (rF s₁.heap (hS a o)):=by
   obtain ⟨bm,ob,b1,b2,b3,b4,b5,b6⟩:=hbm;exact ⟨bm,ob,b1,b2,base_of b3 (noA b3 (λ_ _ z=>by rw [b6] at z;cases z) λ_ z=>by rw [b6] at z;cases z),b4,b5,b6⟩
  have e0:uO P w K mg (rF s₁.heap (hS a o)) callerA [] s₁ (hS a o):=⟨rfl,hM,λb x e=>Iu e,Nat.le_of_eq (BC _ _),trivial,λb hb=>absurd (show b∈([]:List au) from hb) ↥0,hok,.of_eq hg⟩
  have atT:∀ b,b∈Tbs.ts.map (·.1)->hS a o b = some (.tbl #[]):=λb z=>by
   unfold hS;rw [if_neg (λy=>aT (by rw [<- y.1];exact z)),if_pos z]
  have sp:spF K f [.ref a] (hS a o) (λv _=>v = .bl true) E0:=⟨λb=>b∈Tbs.ts.map (·.1),[.lst (ns.map .int)],.bl true,λb z=>by
   obtain ⟨t,h1,h2⟩:=bj.mp z;exact ⟨_,atT b z,.inr ⟨⟨#[],rfl⟩,t,h1,h2⟩⟩,λt h=>bj.mpr ⟨t,h,rfl⟩,λt h=>⟨#[],atT _ (bj.mpr ⟨t,h,rfl⟩),trivial,λpos cv e=>by cases e⟩,aN.one hR,hf,λv H' _ _ r=>by unfold Rel at r;exact r⟩
  refine mz ((F _ hKb hB).run callerA [] s₁ (hS a o) ⟨[.ref a],[]⟩ [.ref a] [.ref a] _ _ hr e0 (hbind s₁ [.ref a] KX rfl) (.cons rfl .nil) sp) λr s' h=>?_
  cases r with
  | error e=>exact cE h
  | ok fl =>
    cases fl with
    | next=>exact cE h
    | brk=>exact cE h
    | cont=>exact cE h
    | ret u =>
      obtain ⟨v,H',os,bare,un,hok',r',q⟩:=h;have q':v = .bl true:=q;subst q';obtain rfl:u = rM true:=r';refine ⟨rfl,⟨λb x e=>?_,λb x e=>un.there b x e ↥0⟩,os,bare⟩
      cases q:hS a o b with
      | none=>exact .inl (un.keep b x e q (by intro z;exact absurd (show b∈([]:List au) from z) ↥0) ↥0)
      | some u =>
        rcases uv q with ⟨_,z⟩ | ⟨z,rfl⟩
        . obtain ⟨xs,rfl⟩:=hO u z;have z2:=un.frzs b _ _ q;obtain ⟨e1,_⟩:=hok b _ q;obtain ⟨e2,_⟩:=hok' b _ z2;rw [e] at e1;cases e1;exact .inl e2
        . obtain ⟨more,y⟩:=un.tbls b _ q;have e2:s'.heap.get? b = some { cls:=.none,data:=.fields (#[]++more) }:=hok' b _ y;have e1:=(htm b z).1;rw [e] at e1;cases e1;exact .inr (.inl ⟨(htm b z).2.2,rfl,#[],more,rfl,e2⟩)
 have rl:∀ (H:Hp) (F:au->Prop) (ms:List Int),aN K H F (ms.map .int) (ms.map V.int):=by
  intro H F ms
  induction ms with
  | nil=>exact aN.nil
  | cons m ms ih=>exact aN.cons (dE m) ih
 have hok1:∀ o:Option HO,(∀ u,o = some u->ft P w (hS a o) s₁.heap a u)->HOk P w (hS a o) s₁.heap:=λo ho b u e=>by
  rcases uv e with ⟨rfl,z⟩ | ⟨z,rfl⟩
  . exact ho u z
  . exact (htm b z).1
 cases hk:K.lookup a with
 | some x =>
   have e:=KX a x hk;rw [ha] at e;cases e;refine core none (λu z=>by cases z) (hok1 none λu z=>by cases z) (λz=>absurd rfl z) ?_;unfold Rel
   exact ⟨a,ns.map V.int,rfl,.inr ⟨vs.toArray,_,hk,by rw [aG,lenV];exact hl,by simpa using rv⟩,rl _ _ ns⟩
 | none =>
   refine core (some (.frz { cls:=.type "list",data:=.seq vs.toArray } (.lst (ns.map V.int)))) (λu z=>⟨_,(bI z).symm⟩) (hok1 _ λu z=>?_) (λ_=>hk) ?_
   . cases z;exact ⟨ha,by rw [ai];exact hl,vs,_,rv,ha⟩
   . unfold Rel;refine ⟨a,ns.map V.int,rfl,.inl ⟨.inr ⟨{ cls:=.type "list",data:=.seq vs.toArray },?_⟩,aT⟩,rl _ _ ns⟩;unfold hS;rw [if_pos ⟨rfl,rfl⟩]
def walk_run {l:PySem.W.OpenLaw} {q:aQ} {loose:List Str} {XP:(Str->Option ah)->bJ->Prop} {YP:bw->bJ->Prop} {d:DefRec} {K:Params->PySem.W.Frag} {G Gd:List Fd} {gl:List D} {gn:List Str} {i:Nat} {fd:Fd} {x:Str}
 (main:∀ ns:List Int,ns.length<=63->run G gl 200 i [.lst (ns.map .int)] = some (.bl true)) (hi:Gd[i]? = some fd) (hp:fd.ps = [x])
 (hn:l.most = some 63) (hdf:d.params.defaults = []) (hY:∀ (w:bw) (h:bJ),YP w h->(K w.params).In h/\∀ t∈Tbs.ts,h.get? t.1 = some (PySem.W.tabObj #[]))
 (hnm:fd.name = d.name) (F:∀ (w:bw) (mg:Str->Option ah) (h:bJ),(K w.params).In h->h.Ns mainGlobals mg->Top w (K w.params) mg G Gd gl gn/\∀ t∈Tbs.ts,(K w.params).lookup t.1 = none/\∃ c,PySem.W.codeHdIn (K w.params) c t.1 = true) :
 PySem.W.WalkO q loose XP YP l.row.toRowW d [] (λf vs=>PySem.call f vs):=by
 have hr:kK 200 callerA:=⟨rfl,⇑0,⇑0⟩;refine Att.attach_call hn hdf λw s₀ s₁ mg mb fa o pm cd doc a vs ns TT Y ho hd hcd hmg hobj hints hlen hg=>?_;obtain ⟨KX,tabs⟩:=hY w _ Y;obtain ⟨T,tc⟩:=F w mg _ KX TT.T.g;obtain ⟨st,fa',fdd,Dd⟩:=oE T.fns hi
 obtain rfl:fa = fa':=by
  have e:=Dd.mg;rw [hnm,hmg] at e;cases e;rfl
 refine IH KX TT.T.g TT.T.b TT.T.builtins TT.T.nolimit hg TT.T.bmain hobj hints (aS hlen ⇑0) hr (λt ht=>?_) (λbase hK hB=>?_) (hp▸Dd.bd) (main ns hlen)
 . obtain ⟨h1,c,h2⟩:=tc t ht;exact ⟨tabs t ht,h1,((PySem.W.codeHd_of_K KX h2).tab (tabs t ht)).isCodeTable⟩
 . have:=((Gp (P:=l.prog) (w:=w) (base:=base) T hK hB 200).1 i fd st fa fdd hi Dd).1;rw [hp] at this;exact this
section
def xQ (K:PySem.W.Frag) (x:Str):Bool:=match PySem.W.nsIn K mainGlobals x with
 | some none=>true
 | _=>false
def Jg {K:PySem.W.Frag} {h:bJ} {mg:Str->Option ah} (X:K.In h) (G:h.Ns mainGlobals mg) (q:jJ.all (xQ K) = true) (x:Str) (hx:x∈jJ):mg x = none:=by
 have h:=eF.mp q x hx;unfold xQ at h;split at h
 . exact PySem.W.mg_none_of X G ‹_›
 . cases h
def sub_app {a b:List Fd} (i:Nat) (fd:Fd) (h:a[i]? = some fd):(a++b)[i]? = some fd:=by
 rw [bh (aF.mp h).1];exact h
end
end PP
end
section
namespace PP
open PySem L2
def uX:∀ {ps:List Str} {us:List ah} {x:Str},us.length = ps.length->x∈ps->((ps.zip us).lookup x).isSome = true
 | p::ps,u::us,x,hl,hx=>by
   rw [cY,bW];split
   . rfl
   . rename_i z;refine uX (sQ hl) ((az.mp hx).resolve_left λe=>?_);rw [e,beq_self_eq_true] at z
     cases z
 | [],_,x,hl,hx=>by cases hx
 | p::ps,[],x,hl,hx=>by cases hl
def uW:∀ {ps:List Str} {us:List ah},us.length = ps.length->ps.Nodup->(ps.filterMap λn=>((ps.zip us).lookup n).map (n,·)) = ps.zip us
 | [],us,hl,_=>by rfl
 | p::ps,[],hl,_=>by cases hl
 | p::ps,u::us,hl,nd=>by
   rw [cj] at nd;have ih:=uW (sQ hl) nd.2;rw [cY,cQ,bW,beq_self_eq_true];dsimp only [Option.map];congr 1
   have h:∀ l:List Str,p∉l->(l.filterMap λn=>((((p,u)::ps.zip us).lookup n).map (n,·))) = l.filterMap λn=>((ps.zip us).lookup n).map (n,·):=λl=>by
    induction l with
    | nil=>intro _;rfl
    | cons n l il =>
      intro hn;rw [az,not_or] at hn;rw [cQ,cQ,il hn.2,bW,show (n == p) = false from beq_eq_false_iff_ne.mpr λe=>hn.1 e.symm]
   exact (h ps nd.1).trans ih
def ifF {α:Type} {c:Prop} [Decidable c] {a b x:α} (h:¬ c) (e:b = x):(if c then a else b) = x:=by rw [if_neg h];exact e
def my {fd:eQ} {ps:List Str} {us:List ah} (h1:fd.params.posonlyargs = []) (h2:fd.params.args.map (·.arg) = ps) (h3:fd.params.kwonlyargs = []) (h4:fd.params.vararg = none) (h5:fd.params.kwarg = none) (h6:fd.defaults = .none) (nd:ps.Nodup) (hl:us.length = ps.length):bindArgs fd ⟨us,[]⟩ = pure (ps.zip us):=by
 have hm:((ps.take ps.length).filter λn=>((ps.zip us).lookup n).isNone) = []:=by
  rw [List.take_length,List.filter_eq_nil_iff];intro x hx;have:=uX hl hx
  cases e:(ps.zip us).lookup x with
  | none=>rw [e] at this;cases this
  | some v=>simp
 cases fd with
 | mk a b p c d e f df g =>
   cases p with
   | mk p1 p2 p3 p4 p5 p6 p7 =>
     cases h1;cases h3;cases h4;cases h5;cases h6;cases h2;have hl:us.length = (p2.map (·.arg)).length:=hl;refine ifF (α:=Sem _) (λz=>?_) ?_
     . have z:(decide (us.length > (p2.map (·.arg)).length) && true) = true:=z;rw [hl,nQ,decide_eq_true_eq] at z;exact cC _ z
     generalize hd:List.drop _ _ = dd;obtain rfl:dd = []:=hd.symm.trans List.drop_nil;refine ifF (α:=Sem _) (λz=>Bool.noConfusion ((congrArg (λl:List Str=>!l.isEmpty) hm).symm.trans z)) ?_;generalize hz:List.zip (List.drop _ _) ([]:List ah) = zz;obtain rfl:zz = []:=hz.symm.trans nU;have e:(p2.map Arg.arg++[]).filterMap (λn=>(((p2.map Arg.arg).zip us).lookup n).map (n,·)) = (p2.map Arg.arg).zip us:=by rw [aY];exact uW hl nd
     exact congrArg (pure:_->Sem _) e
def okD (d:Fd) (a:oX) (s:eA):Bool :=
 a.posonlyargs.isEmpty && (a.kwonlyargs.isEmpty && (a.vararg.isNone && (a.kwarg.isNone && (decide (a.args.map (·.arg) = d.ps) && (decide (s.kind = .function) && ((!s.isCoroutine) && ((!s.isGenerator) && (decide (d.ps++d.loc).Nodup && (d.ps.all (λx=>decide (s.names.lookup x = some .local) || decide (s.names.lookup x = some .cell)) && s.names.all λy=>decide (y.2≠.free))))))))))
def ud {d:Fd} {st:cR} (h:okD d (eU st) (bA st) = true):nJ (d.ps++d.loc) d.ps (bA st):=by
 simp only [okD,aa,dv,decide_eq_true_eq,eF,GD] at h;obtain ⟨_,_,_,_,_,k,c,g,nd,p,f⟩:=h;exact ⟨k,c,g,nd,List.take_left,p,f⟩
def xO {K:PySem.W.Frag} {d:Fd} {st:cR} {fd:eQ} (e1:fd.params = eU st) (e2:fd.defaults = .none) (h:okD d (eU st) (bA st) = true):Binds K fd d.ps []:=by
 simp only [okD,aa,decide_eq_true_eq,List.isEmpty_iff,dJ] at h;obtain ⟨h1,h2,h3,h4,h5,_,_,_,nd,_⟩:=h;rw [<- e1] at h1 h2 h3 h4 h5;exact .all λus hl=>my h1 h5 h2 h3 h4 e2 (jL.mp nd).1 hl
section
variable [Tbs] {K:PySem.W.Frag} {h:bJ} {w:bw} {mg:Str->Option ah} {cf:List (Str × List Str)} {gn:List Str} {tp:Nat->cR} {G Gd:List Fd} {gl:List D}
inductive Hds (K:PySem.W.Frag) (mg:Str->Option ah) (cf:List (Str × List Str)) (gn:List Str) (tp:Nat->cR):List Fd->List (String × Nat)->Prop
 | nil:Hds K mg cf gn tp [] []
 | own {d:Fd} {i:String × Nat} {r:List Fd} {is:List (String × Nat)} (e:∃ st a fdd,Dn K mg cf gn d st a fdd) (t:Hds K mg cf gn tp r is):Hds K mg cf gn tp (d::r) (i::is)
 | cons {d:Fd} {x:String} {i:Nat} {f:au} {oc:ah} {od an:Option au} {osl:Array (Option ah)} {kV doc pm cdv ct:ah} {r:List Fd} {is:List (String × Nat)} (a:PySem.W.nsIn K mainGlobals (.ofString x) = some (some (.ref f))) (l:K.lookup f = some ⟨oc,od,.func (PySem.W.fnOf (.ofString x) (.ofString x) (eU (tp i)) (dN (tp i)) (bA (tp i)) .none kV doc pm an cdv ct),osl⟩)
   (c:PySem.W.codeIn K cdv (.ofString x) = true) (k:PySem.W.keepIn K (.ref f) = true) (z:(decide (d.name = .ofString x) && (okD d (eU (tp i)) (bA (tp i)) && uG ⟨d.ps++d.loc,bA (tp i),cf,gn⟩ d.body (dN (tp i)))) = true) (t:Hds K mg cf gn tp r is):Hds K mg cf gn tp (d::r) ((x,i)::is)
def IT (X:K.In h) (N:h.Ns mainGlobals mg) {l:List Fd} {is:List (String × Nat)} (H:Hds K mg cf gn tp l is):Ac K mg cf gn l:=by
 induction H with
 | nil=>trivial
 | own e t ih=>exact ⟨e,ih⟩
 | cons a l c k z t ih =>
   rw [aa,decide_eq_true_eq,aa] at z;obtain ⟨z0,z1,z2⟩:=z;rw [<- z0] at a l c;have F:=ux l c k;exact ⟨⟨_,_,_,F,PySem.W.mg_of X N a,ud z1,.inl z2,xO rfl rfl z1⟩,ih⟩
mutual
inductive InK (K:PySem.W.Frag):D->ah->Prop
 | str {x:Str} {t:Tok}:InK K (.str x) (.str x t)
 | int {x:Int} {t:Tok}:InK K (.int x) (.int x t)
 | tup {ds:List D} {a:au} {oD:Option au} {oS:Array (Option ah)} {n:Nat} {vs:Array ah} (l:K.lookup a = some ⟨.type "tuple",oD,.seq vs n,oS⟩) (q:InKs K ds vs.toList) (z:vs.size<=99):InK K (.tup ds) (.ref a)
inductive InKs (K:PySem.W.Frag):List D->List ah->Prop
 | nil:InKs K [] []
 | cons {d:D} {v:ah} {ds:List D} {vs:List ah} (e:InK K d v) (t:InKs K ds vs):InKs K (d::ds) (v::vs)
end
mutual
theorem InK.rel:∀ {d:D} {u:ah},InK K d u->∃ v,RelV v u/\∀ H F,Rel K H F d v
 | _,_,.str=>⟨.str _,⟨_,rfl⟩,λH F=>gX _⟩
 | _,_,.int=>⟨.int _,⟨_,rfl⟩,λH F=>dE _⟩
 | _,_,.tup l q z=>by
   obtain ⟨vs,h1,h2⟩:=q.rel;refine ⟨.ref _,rfl,λH F=>?_⟩;unfold Rel;exact ⟨_,vs,rfl,.inr ⟨_,_,_,l,rfl,rfl,aS z ⇑0,h1⟩,h2 H F⟩
theorem InKs.rel:∀ {ds:List D} {us:List ah},InKs K ds us->∃ vs,Vals vs us/\∀ H F,aN K H F ds vs
 | _,_,.nil=>⟨[],.nil,λ_ _=>aN.nil⟩
 | _,_,.cons e t=>by
   obtain ⟨v,h1,h2⟩:=e.rel;obtain ⟨vs,h3,h4⟩:=t.rel;exact ⟨v::vs,.cons h1 h3,λH F=>aN.cons (h2 H F) (h4 H F)⟩
end
inductive Gls (K:PySem.W.Frag):List Str->List D->Prop
 | nil:Gls K [] []
 | cons {x:Str} {d:D} {v:ah} {xs:List Str} {ds:List D} (a:PySem.W.nsIn K mainGlobals x = some (some v)) (e:InK K d v) (t:Gls K xs ds):Gls K (x::xs) (d::ds)
def zF (X:K.In h) (N:h.Ns mainGlobals mg) (H:Gls K gn gl):∀ (g:Nat) (x:Str),gn[g]? = some x->∃ d,gl[g]? = some d/\∃ u v,mg x = some u/\RelV v u/\∀ H F,Rel K H F d v:=by
 induction H with
 | nil=>intro g x e;cases g<;>cases e
 | cons a e t ih =>
   intro g x z
   cases g with
   | zero =>
     cases z;obtain ⟨v,h1,h2⟩:=e.rel
     exact ⟨_,rfl,_,v,PySem.W.mg_of X N a,h1,h2⟩
   | succ g=>exact ih g x z
def Fh {l:List (Nat × Lam)} {k:Nat} {L:Lam} (h:l.lookup k = some L):(k,L)∈l:=by
 induction l with
 | nil=>cases h
 | cons p l ih =>
   rw [bW] at h;split at h
   . rename_i z;cases h;rw [eq_of_beq z];exact ar
   . exact ao _ (ih h)
def top_mk (X:K.In h) (N:h.Ns mainGlobals mg) {is:List (String × Nat)} (H:Hds K mg (mw Gd) gn tp Gd is) (sub:∀ (i:Nat) (fd:Fd),Gd[i]? = some fd->G[i]? = some fd) (few:G.length<=tX) (lams:∀ p∈Tbs.lams,Ln G Gd gn p.1 p.2) (hb:jJ.all (xQ K) = true) (hg:Gls K gn gl)
 (gds:∀ (n:Str) (l:List (Str × Int)),Tbs.gds.lookup n = some l->∃ a,mg n = some (.ref a)/\GdK w K a l):Top w K mg G Gd gl gn :=
 ⟨IT X N H,sub,few,λk L e=>lams (k,L) (Fh e),Jg X N hb,λg x d h1 h2=>by
   obtain ⟨d',e,r⟩:=zF X N hg g x h1;rw [h2] at e;cases e;exact r,λg x h1=>by
   obtain ⟨d',e,r⟩:=zF X N hg g x h1;exact ⟨d',e⟩,gds⟩
end
end PP
end
section
namespace PP
open PySem
section
variable {cx:Cl} {δ:Loc}
def wEm (f:D->Loc->Option (List D × Loc)) (ds:List D) (δ:Loc) (Q:List D->Loc->Prop):Prop:=∃ ys δ',gF f ds δ = some (ys,δ')/\Q ys δ'
def tj:wE cx (.sset k tg1 src1 tg2 src2 ifs elt) δ Q↔wI cx src1 δ λds δ1=>wEm (outF cx k tg1 tg2 src2 ifs elt) ds δ1 λys δ2=>∃ xs,fO ys = some xs/\(xs.length < 4000/\(ia xs).length < 64)/\Q (.lst (eR ((ia xs).map .str))) δ2:=by
 unfold wE wI wEm;constructor
 . rintro ⟨d,δ',e,q⟩
   letI:Tbs:=⟨[],[],[]⟩
   obtain ⟨ds,δ1,ys,xs,e1,e2,e3,h1,h2,rfl⟩:=yF e;exact ⟨ds,δ1,e1,ys,δ',e2,xs,e3,⟨h1,h2⟩,q⟩
 . rintro ⟨ds,δ1,e1,ys,δ2,e2,xs,e3,hh,q⟩;refine ⟨_,δ2,?_,q⟩;unfold evE;show ((evI cx src1 δ).bind _) = _;rw [e1];show ((gF (outF cx k tg1 tg2 src2 ifs elt) ds δ1).bind _) = _;rw [e2];show (match fO ys with | some xs=>if xs.length < 4000/\(ia xs).length < 64 then some (D.lst (eR ((ia xs).map .str)),δ2) else none | none=>none) = _;rw [e3];exact if_pos hh
def mK {α:Type} (g:α->D) (h:α->List D):∀ (xs:List α),(∀ x∈xs,wTg (δ++aO k .no) tg1 (g x) λδa=>wI cx src2 δa λes δb=>wEm (inF cx tg2 ifs elt) es δb λzs δc=>zs = h x/\δc.take δ.length = δ) ->
 Q (xs.flatMap h) δ->wEm (outF cx k tg1 tg2 src2 ifs elt) (xs.map g) δ Q
 | [],_,q=>⟨[],δ,rfl,q⟩
 | x::xs,hx,q=>by
   obtain ⟨δa,e1,es,δb,e2,zs,δc,e3,rfl,t⟩:=hx x ar;obtain ⟨ys,δ',e4,q'⟩:=mK (k:=k) (tg1:=tg1) (tg2:=tg2) (src2:=src2) (ifs:=ifs) (elt:=elt) (Q:=λys δ'=>Q (h x++ys) δ') g h xs (λz hz=>hx z (ao _ hz)) (by rw [bO] at q;exact q);refine ⟨h x++ys,δ',?_,q'⟩
   have eo:outF cx k tg1 tg2 src2 ifs elt (g x) δ = some (h x,δ):=by
    unfold outF;simp only [ae,e1,aP,e2,e3,t,dQ]
   rw [aW];unfold gF;simp only [ae,eo,aP,e4,dQ]
def mL {α:Type} (g:α->D) (p:α->Bool) (v:α->D) (P:Loc->Prop):∀ (xs:List α) (δ:Loc),(∀ x∈xs,∀ δ,P δ->wTg δ tg (g x) λδ2=>wG cx ifs δ2 λb δ3=>b = p x/\if b = true then wE cx elt δ3 λy δ4=>y = v x/\P δ4 else P δ3)->P δ ->
 (∀ δ',P δ'->Q ((xs.filter p).map v) δ')->wEm (inF cx tg ifs elt) (xs.map g) δ Q
 | [],δ,_,hp,q=>⟨[],δ,rfl,q δ hp⟩
 | x::xs,δ,hx,hp,q=>by
   obtain ⟨δ2,e1,b,δ3,e2,rfl,e3⟩:=hx x ar δ hp
   cases hb:p x with
   | true =>
     rw [hb] at e2 e3;rw [if_pos rfl] at e3;obtain ⟨y,δ4,e4,rfl,p4⟩:=e3;obtain ⟨ys,δ',e5,q'⟩:=mL (tg:=tg) (ifs:=ifs) (elt:=elt) (Q:=λys δ'=>Q (v x::ys) δ') g p v P xs δ4 (λz hz=>hx z (ao _ hz)) p4 (λδ' z=>by have:=q δ' z;rw [wR hb] at this;exact this);refine ⟨v x::ys,δ',?_,q'⟩
     have eo:inF cx tg ifs elt (g x) δ = some ([v x],δ4):=by
      unfold inF;simp only [ae,e1,aP,e2,if_true,e4,dQ]
     rw [aW];unfold gF
     simp only [ae,eo,aP,e5,dQ,eE,cD]
   | false =>
     rw [hb] at e2 e3;rw [if_neg aq] at e3;obtain ⟨ys,δ',e5,q'⟩:=mL (tg:=tg) (ifs:=ifs) (elt:=elt) (Q:=Q) g p v P xs δ3 (λz hz=>hx z (ao _ hz)) e3 (λδ' z=>by have:=q δ' z;rw [wU (by simp [hb])] at this;exact this);refine ⟨ys,δ',?_,q'⟩
     have eo:inF cx tg ifs elt (g x) δ = some ([],δ3):=by
      unfold inF;simp only [ae,e1,aP,e2,bq,if_false,dQ]
     rw [aW];unfold gF;simp only [ae,eo,aP,e5,dQ,cD]
end
def strs_map (xs:List Str):fO (xs.map .str) = some xs:=by
 induction xs with
 | nil=>rfl
 | cons x xs ih=>simp [fO,ih]
def Fc:y∈kA ts x↔y∈ts\/y = x:=by
 unfold kA;split
 . rename_i h;exact ⟨.inl,λz=>z.elim id λe=>e▸h⟩
 . simp
def sy:∀ (xs ts:List Str),y∈xs.foldl kA ts↔y∈ts\/y∈xs
 | [],ts=>by simp
 | x::xs,ts=>by
   rw [lq,sy xs,Fc,az];constructor
   . rintro ((h | h) | h)
     . exact .inl h
     . exact .inr (.inl h)
     . exact .inr (.inr h)
   . rintro (h | h | h)
     . exact .inl (.inl h)
     . exact .inl (.inr h)
     . exact .inr h
def vP {y:Str} {xs:List Str}:y∈ia xs↔y∈xs:=by
 unfold ia;rw [sy];simp
def xS (h:ts.Nodup):(kA ts x).Nodup:=by
 unfold kA;split
 . exact h
 . rename_i hx;rw [jL];refine ⟨h,↥0,λa ha b hb=>?_⟩;rw [aK] at hb;intro e;exact hx (by rw [<- hb,<- e];exact ha)
def xR (xs:List Str):(ia xs).Nodup:=by
 unfold ia
 suffices h:∀ (xs ts:List Str),ts.Nodup->(xs.foldl kA ts).Nodup from h xs [] ↥0
 intro xs
 induction xs with
 | nil=>intro ts h;exact h
 | cons x xs ih=>intro ts h;exact ih _ (xS h)
def sdT (xs:List Str):List Str:=((fV (ia xs)).choose)
def xH (xs:List Str):eR ((ia xs).map .str) = (sdT xs).map .str:=(fV (ia xs)).choose_spec.1
def jg:y∈sdT xs↔y∈xs:=by
 rw [show y∈sdT xs↔y∈ia xs from (fV (ia xs)).choose_spec.2.1.mem_iff,vP]
def mP (xs:List Str):(sdT xs).length = (ia xs).length:=(fV (ia xs)).choose_spec.2.1.length_eq
def sub_len:∀ {l ns:List Str},l.Nodup->(∀ x∈l,x∈ns)->l.length<=ns.length
 | [],_,_,_=>cT _
 | x::l,ns,h,hs=>by
   rw [cj] at h;have hx:=hs x ar;have ih:=sub_len (l:=l) (ns:=ns.erase x) h.2 λy hy=>(List.mem_erase_of_ne λe=>h.1 (by rw [<- e];exact hy)).mpr (hs y (ao _ hy));rw [List.length_erase_of_mem hx] at ih;have:0 < ns.length:=List.length_pos_of_mem hx;rw [aw];omega
def gb {xs ns:List Str} (h:∀ x∈xs,x∈ns):(ia xs).length<=ns.length:=by
 have h1:=xR xs;have h2:∀ x∈ia xs,x∈ns:=λx hx=>h x (vP.mp hx);exact sub_len h1 h2
end PP
end
section
namespace PP
open PySem L2
def jx:Nat->Ss->Ss
 | 0,_=>.nil
 | _,.nil=>.nil
 | k+1,.cons s ss=>.cons s (jx k ss)
def cB:Nat->Ss->Ss
 | 0,ss=>ss
 | _,.nil=>.nil
 | k+1,.cons _ ss=>cB k ss
def nxS (R:PP.Loc->Prop) (Q:Out->Prop):Out->Prop
 | .nx δ=>R δ
 | o=>Q o
def yB (h:wS cx s δ P) (k:∀ o,P o->Q o):wS cx s δ Q:=let ⟨o,e,p⟩:=h;⟨o,e,k o p⟩
def gR {R:PP.Loc->Prop}:∀ (k:Nat) (ss:Ss) (δ:PP.Loc),wSs cx (jx k ss) δ (nxS R Q)->(∀ δ',R δ'->wSs cx (cB k ss) δ' Q)->wSs cx ss δ Q
 | 0,ss,δ,h,q=>by
   unfold jx at h
   exact q δ (je.mp h)
 | _+1,.nil,δ,h,q=>by
   unfold jx at h;unfold cB at q
   exact q δ (je.mp h)
 | k+1,.cons s ss,δ,h,q=>by
   unfold jx at h;unfold cB at q;refine bR.mpr (yB (bR.mp h) λo p=>?_)
   cases o with
   | nx δ1=>exact gR k ss δ1 p q
   | rt d δ1=>exact p
   | ro d δ1=>exact p
def bp (k:Nat) (δ':PP.Loc) (h:dG cx (jx k ss) δ = some (.nx δ')) (q:wSs cx (cB k ss) δ' Q):wSs cx ss δ Q:=gR (R:=λd=>d = δ') k ss δ ⟨.nx δ',h,rfl⟩ λ_ e=>e▸q
def Kn (P:Bool->Prop) (h:wT cx c δ λk δ1=>δ1 = δ0/\P k) (ha:P true->wSs cx a δ0 Q) (hb:P false->wSs cx b δ0 Q):wS cx (.ifs c a b) δ Q:=by
 obtain ⟨k,δ1,e,rfl,p⟩:=h;refine xj.mpr ⟨k,δ1,e,?_⟩;cases k
 . exact hb p
 . exact ha p
def Bz {c A B:Prop} [Decidable c] (h1:c->A) (h2:¬ c->B):if c then A else B:=by
 by_cases h:c
 . rw [if_pos h];exact h1 h
 . rw [if_neg h];exact h2 h
def JM {a b X Y:Prop} [Decidable a] [Decidable b] (hX:a\/b->X) (hY:¬ a->¬ b->Y):if a then X else if b then X else Y:=by
 by_cases ha:a
 . rw [if_pos ha];exact hX (.inl ha)
 . rw [if_neg ha];by_cases hb:b
   . rw [if_pos hb];exact hX (.inr hb)
   . rw [if_neg hb];exact hY ha hb
def wD:Ss->Ss->Ss
 | .nil,r=>r
 | .cons s t,r=>.cons s (wD t r)
def sX {r:Ss}:∀ {a:Ss} {δ:PP.Loc},wSs cx (wD a r) δ Q->wSs cx a δ (vh cx r Q)
 | .nil,δ,h=>je.mpr (vg.mpr h)
 | .cons s t,δ,h=>bR.mpr (yB (bR.mp h) λo p=>by
   cases o with
   | nx δ1=>exact sX p
   | rt d δ1=>exact p
   | ro d δ1=>exact p)
def bC (p:Bool) (h:evT cx c δ = some (p,δ)) (ha:p = true->wSs cx (wD a r) δ Q) (hb:p = false->wSs cx (wD b r) δ Q):wSs cx (.cons (.ifs c a b) r) δ Q :=
 bR.mpr (xj.mpr ⟨p,δ,h,by cases p;exact sX (hb rfl);exact sX (ha rfl)⟩)
variable {G:List Fd} {gl:List D} {n f:Nat}
def uZ (as:List D) (δ1:PP.Loc) (h:dH ⟨PP.run G gl n,gl,hfs G⟩ es δ = some (as,δ1)) (hc:fw G gl n f as λd=>∃ δ2,eB δ1 tg d = some δ2/\wSs ⟨PP.run G gl n,gl,hfs G⟩ r δ2 Q):wSs ⟨PP.run G gl n,gl,hfs G⟩ (.cons (.asg tg (.call f es)) r) δ Q :=
 bR.mpr (xl.mpr (mM.mpr ⟨as,δ1,h,nY.mpr hc⟩))
def CA (as:List D) (δ1:PP.Loc) (h:dH ⟨PP.run G gl n,gl,hfs G⟩ es δ = some (as,δ1)) (hc:fw G gl n f as Q):wSs ⟨PP.run G gl n,gl,hfs G⟩ (.cons (.ret (.call f es)) r) δ (retS Q) :=
 bR.mpr (xh.mpr (mM.mpr ⟨as,δ1,h,nY.mpr hc⟩))
def cJ (as:List D) (h:dH ⟨PP.run G gl n,gl,hfs G⟩ es δ = some (as,δ)) (hc:fw G gl n f as λd=>∃ δ2,eB δ tg d = some δ2/\wSs ⟨PP.run G gl n,gl,hfs G⟩ r δ2 Q):wSs ⟨PP.run G gl n,gl,hfs G⟩ (.cons (.asg tg (.call f es)) r) δ Q:=uZ as δ h hc
def jv (as:List D) (h:dH ⟨PP.run G gl n,gl,hfs G⟩ es δ = some (as,δ)) (hc:fw G gl n f as Q):wSs ⟨PP.run G gl n,gl,hfs G⟩ (.cons (.ret (.call f es)) r) δ (retS Q):=CA as δ h hc
def gU (d:D) (h:evE cx e δ = some (d,δ)) (q:∃ δ2,eB δ tg d = some δ2/\wSs cx r δ2 Q):wSs cx (.cons (.asg tg e) r) δ Q:=bR.mpr (xl.mpr ⟨d,δ,h,q⟩)
def kg (ha:evE cx a δ = some (x,δ)) (hb:evE cx b δ = some (y,δ)) (h:ixD x y = some z):evE cx (.ix a b) δ = some (z,δ):=by
 simp only [evE,ha,hb,h,ae,aP];rfl
def gq (ha:evE cx a δ = some (x,δ)) (hb:evE cx b δ = some (y,δ)) (h:kX op x y = some p):evT cx (.cmp op a b) δ = some (p,δ):=by
 simp only [evT,ha,hb,h,ae,aP];rfl
def gI (d:D) (h:evE cx e δ = some (d,δ)) (ho:δ[i]? = some (.own ds)) (hl:ds.length < sizeLine) (q:wSs cx r (δ.set i (.own (ds++[d]))) Q):wSs cx (.cons (.append i e) r) δ Q:=by
 have hi:i < δ.length:=(aF.mp ho).1;refine bR.mpr (rO.mpr ?_);unfold rq;rw [ho];refine ⟨d,δ,h,?_⟩;dsimp only;rw [ho];exact ⟨hl,hi,q⟩
def IV:Ss->Ss
 | .cons (.for_ _ _ b) _=>b
 | _=>.nil
def qN (ha:evT cx a δ = some (p,δ)) (hb:evT cx b δ = some (q,δ)):evT cx (.or a b) δ = some (p || q,δ):=by
 simp only [evT,ha,ae,aP];cases p
 . exact hb
 . rfl
def IW (ha:evT cx a δ = some (p,δ)) (hb:evT cx b δ = some (q,δ)):evT cx (.and a b) δ = some (p && q,δ):=by
 simp only [evT,ha,ae,aP];cases p
 . rfl
 . exact hb
def jF {α:Type} (g h:α->D) (as:α->List D) (xs:List α) (hl:xs.length<=sizeLine) (hi:evI ⟨PP.run G gl n,gl,hfs G⟩ src δ = some (xs.map g,δ)) (hd:i = δ.length) (he:∀ x∈xs,dH ⟨PP.run G gl n,gl,hfs G⟩ es (δ++[.val (g x)]) = some (as x,δ++[.val (g x)])) (hc:∀ x∈xs,PP.run G gl n f (as x) = some (h x)):evE ⟨PP.run G gl n,gl,hfs G⟩ (.comp 1 (.nm i) src .no (.call f es)) δ = some (.lst (xs.map h),δ):=by
 subst hd
 have:wE ⟨PP.run G gl n,gl,hfs G⟩ (.comp 1 (.nm δ.length) src .no (.call f es)) δ λd δ'=>d = .lst (xs.map h)/\δ' = δ:=by
  refine tq.mpr ⟨_,_,hi,gJ g (λ_=>true) h xs (λx hx=>?_) ?_⟩
  . refine ⟨δ++[.val (g x)],?_,true,_,rfl,rfl,?_⟩
    . show (if δ.length < (δ++aO 1 Sl.no).length then _ else _) = _;rw [if_pos ↥0];simp [yz]
    . rw [if_pos rfl];exact mM.mpr ⟨_,_,he x hx,_,hc x hx,rfl,↥0⟩
  . rw [dz.mpr λ_ _=>rfl,ai];exact ⟨hl,rfl,rfl⟩
 obtain ⟨_,_,e,rfl,rfl⟩:=this;exact e
def mJ (ds:List D) (h:evE cx e δ = some (.lst ds,δ)) (hi:i < δ.length) (q:wSs cx r (δ.set i (.val (.lst ds))) Q):wSs cx (.cons (.cmp false i e) r) δ Q:=bR.mpr (yC.mpr ⟨_,_,h,ds,rfl,hi,q⟩)
def lE (h:evE cx e δ = some (.lst ds,δ)):evE cx (.blt .toTup (.cons e .nil)) δ = some (.tup ds,δ):=by
 simp only [evE,dH,h,ae,aP];rfl
def cU (as:List D) (he:dH ⟨PP.run G gl n,gl,hfs G⟩ es δ = some (as,δ)) (hc:PP.run G gl n f as = some d):evE ⟨PP.run G gl n,gl,hfs G⟩ (.call f es) δ = some (d,δ):=by
 simp only [evE,he,hc,ae,aP];rfl
def oz (h:evE cx e δ = some (d,δ)) (hi:items d = some ds):evI cx (.sq e) δ = some (ds,δ):=by
 simp only [evI,h,hi,ae,aP];rfl
def aX (h:evE cx e δ = some (d,δ)) (hs:dH cx es δ = some (ds,δ)):dH cx (.cons e es) δ = some (d::ds,δ):=by
 simp only [dH,h,hs,ae,aP];rfl
def lD (h:dH cx es δ = some (ds,δ)) (hl:ds.length<=sizeLine):evE cx (.tup es) δ = some (.tup ds,δ):=by
 simp only [evE,h,ae,aP];rw [if_pos hl];rfl
def dw (ha:evE cx a δ = some (x,δ)) (hb:evE cx b δ = some (y,δ)) (h:opD op x y = some z):evE cx (.bin op a b) δ = some (z,δ):=by
 simp only [evE,ha,hb,h,ae,aP];rfl
def fS (d:D) (h:evE cx e δ = some (d,δ)) (q:Q d):wSs cx (.cons (.ret e) r) δ (retS Q):=bR.mpr (xh.mpr ⟨d,δ,h,q⟩)
def pJ (hc:evT cx c δ = some (p,δ)) (ha:evE cx a δ = some (x,δ)) (hb:evE cx b δ = some (y,δ)):evE cx (.ite c a b) δ = some (if p = true then x else y,δ):=by
 simp only [evE,hc,ae,aP];cases p
 . exact hb
 . exact ha
def zJ (as:List D) (he:dH ⟨PP.run G gl n,gl,hfs G⟩ es δ = some (as,δ)) (hc:PP.run G gl n f as = some (.bl p)):evT ⟨PP.run G gl n,gl,hfs G⟩ (.call f es) δ = some (p,δ):=by
 simp only [evT,he,hc,ae,aP];rfl
def zK (h:evT cx e δ = some (p,δ)):evT cx (.not e) δ = some (!p,δ):=by
 simp only [evT,h,ae,aP];rfl
def sE {α:Type} (g1 g2 h:α->D) (as:α->List D) (xs:List α) (hl:xs.length<=sizeLine) (hi:evI ⟨PP.run G gl n,gl,hfs G⟩ src δ = some (xs.map (λx=>.tup [g1 x,g2 x]),δ)) (hd:i = δ.length) (hd2:j = δ.length+1) (he:∀ x∈xs,dH ⟨PP.run G gl n,gl,hfs G⟩ es (δ++[.val (g1 x),.val (g2 x)]) = some (as x,δ++[.val (g1 x),.val (g2 x)])) (hc:∀ x∈xs,PP.run G gl n f (as x) = some (h x)):evE ⟨PP.run G gl n,gl,hfs G⟩ (.comp 2 (.tp [i,j]) src .no (.call f es)) δ = some (.lst (xs.map h),δ):=by
 subst hd hd2
 have:wE ⟨PP.run G gl n,gl,hfs G⟩ (.comp 2 (.tp [δ.length,δ.length+1]) src .no (.call f es)) δ λd δ'=>d = .lst (xs.map h)/\δ' = δ:=by
  refine tq.mpr ⟨_,_,hi,gJ (λx=>D.tup [g1 x,g2 x]) (λ_=>true) h xs (λx hx=>?_) ?_⟩
  . refine ⟨δ++[.val (g1 x),.val (g2 x)],?_,true,_,rfl,rfl,?_⟩
    . show (if [δ.length,δ.length+1].length = [g1 x,g2 x].length/\[δ.length,δ.length+1].all (· < (δ++aO 2 Sl.no).length) = true then some (([δ.length,δ.length+1].zip [g1 x,g2 x]).foldl (λδ p=>δ.set p.1 (.val p.2)) (δ++aO 2 Sl.no)) else none) = _;rw [if_pos ⟨rfl,↥0⟩];simp [yz,aO]
    . rw [if_pos rfl];exact mM.mpr ⟨_,_,he x hx,_,hc x hx,rfl,↥0⟩
  . rw [dz.mpr λ_ _=>rfl,ai];exact ⟨hl,rfl,rfl⟩
 obtain ⟨_,_,e,rfl,rfl⟩:=this;exact e
def FJ (h:dH cx es δ = some (ds,δ)) (hi:zpD ds = some zs):evI cx (.zp es) δ = some (zs,δ):=by
 simp only [evI,h,hi,ae,aP];rfl
def zL {j:Int} (h:evE cx e δ = some (.int j,δ)) (h0:-(2 ^ 62)<=j) (h1:j < 2 ^ 62):evI cx (.rng e) δ = some (om 0 j.toNat,δ):=by
 simp only [evI,h,ae,aP];rw [if_pos ⟨h0,h1⟩]
def km (h:dH cx es δ = some (ds,δ)) (hb:ky b ds = some z):evE cx (.blt b es) δ = some (z,δ):=by
 simp only [evE,h,hb,ae,aP];rfl
def lx (ds:List D) (h:evI cx src δ = some (ds,δ)) (q:vc cx tg body ds δ (vh cx r Q)):wSs cx (.cons (.for_ tg src body) r) δ Q:=bR.mpr (xk.mpr ⟨ds,δ,h,q⟩)
def IY (ha:evE cx a δ = some (x,δ)) (hb:evE cx b δ = some (y,δ)) (h:kX op x y = some p):evE cx (.cmp op a b) δ = some (.bl p,δ):=by
 simp only [evE,ha,hb,h,ae,aP];rfl
def gM (h:evE cx e δ = some (d,δ)) (hs:dH cx es δ = some (ds,δ2)):dH cx (.cons e es) δ = some (d::ds,δ2):=by
 simp only [dH,h,hs,ae,aP];rfl
end PP
end
section
namespace P1
open PySem L2 PP
def top (i:Nat):cR:=PySem.Challenge.pw_cutless_k16_fitted.main.body.getD i (.Pass ⟨0,0,0,0⟩)
def wg:Fd:=⟨"inside",["A"],[],
 (.cons (.ret (.ite (.cmp .isin (.ix (.var 0) (.int 0)) (.glob 0)) (.tup .nil) (.sl (.var 0) (.yes (.int 1)) .no)))
 .nil),false⟩
def kx:Fd:=⟨"is_place",["term"],[],
 (.cons (.ret (.isdig 0))
 .nil),false⟩
def dY:Fd:=⟨"words_within",["A"],["found","B"],
 (.cons (.ifs (.cmp .eq (.ix (.var 0) (.int 0)) (.str "word"))
 (.cons (.ret (.lst (.cons (.var 0) .nil)))
 .nil)
 .nil)
 (.cons (.new 1 (.lst .nil))
 (.cons (.for_ (.nm 2) (.sq (.call 0 (.cons (.var 0) .nil)))
 (.cons (.extend 1 (.call 2 (.cons (.var 2) .nil)))
 .nil))
 (.cons (.ret (.var 1))
 .nil)))),false⟩
def kr:Fd:=⟨"names_of",["A"],[],
 (.cons (.ret (.sset 2 (.nm 1) (.sq (.call 2 (.cons (.var 0) .nil))) (.nm 2) (.sq (.ix (.var 1) (.int 2))) (.yes (.not (.call 1 (.cons (.var 2) .nil)))) (.var 2)))
 .nil),false⟩
def cV:Fd:=⟨"with_terms",["A","depth","change"],["kind","inner"],
 (.cons (.asg (.nm 3) (.ix (.var 0) (.int 0)))
 (.cons (.ifs (.cmp .eq (.var 3) (.str "word"))
 (.cons (.ret (.tup (.cons (.var 3) (.cons (.ix (.var 0) (.int 1)) (.cons (.blt .toTup (.cons (.comp 1 (.nm 5) (.sq (.ix (.var 0) (.int 2))) .no (.callv 2 (.cons (.var 5) (.cons (.var 1) .nil)))) .nil)) .nil)))))
 .nil)
 .nil)
 (.cons (.asg (.nm 4) (.ite (.cmp .isin (.var 3) (.glob 1)) (.bin .add (.var 1) (.int 1)) (.var 1)))
 (.cons (.ret (.bin .add (.tup (.cons (.var 3) .nil)) (.blt .toTup (.cons (.comp 1 (.nm 5) (.sq (.call 0 (.cons (.var 0) .nil))) .no (.callF 4 (.cons (.var 5) (.cons (.var 4) .nil)) 2)) .nil))))
 .nil)))),true⟩
def jH:Fd:=⟨"put_in",["body","name"],[],
 (.cons (.retL 4 (.cons (.var 0) (.cons (.int 0) .nil)) 49 [1])
 .nil),false⟩
def iK:Fd:=⟨"renamed",["A","old","new"],[],
 (.cons (.retL 4 (.cons (.var 0) (.cons (.int 0) .nil)) 50 [1,2])
 .nil),false⟩
def iD:Fd:=⟨"sorted_row",["signed"],["kept","each"],
 (.cons (.new 1 (.lst .nil))
 (.cons (.for_ (.nm 2) (.sq (.blt .sorted (.cons (.var 0) .nil)))
 (.cons (.ifs (.or (.not (.var 1)) (.cmp .ne (.ix (.pk 1) (.neg (.int 1))) (.var 2)))
 (.cons (.append 1 (.var 2))
 .nil)
 .nil)
 .nil))
 (.cons (.ret (.blt .toTup (.cons (.pk 1) .nil)))
 .nil))),false⟩
def uC:Fd:=⟨"more",["row","added"],[],
 (.cons (.ret (.call 7 (.cons (.bin .add (.blt .toLst (.cons (.var 0) .nil)) (.blt .toLst (.cons (.var 1) .nil))) .nil)))
 .nil),false⟩
def ku:Fd:=⟨"names_in",["row"],[],
 (.cons (.ret (.sset 3 (.tp [1,2]) (.sq (.var 0)) (.nm 3) (.sq (.call 3 (.cons (.var 2) .nil))) .no (.var 3)))
 .nil),false⟩
def nu:Fd:=⟨"other_side",["side"],[],
 (.cons (.ret (.ite (.cmp .eq (.var 0) (.str "left")) (.str "right") (.str "left")))
 .nil),false⟩
def kF:Fd:=⟨"signed_within",["side","A"],["signed"],
 (.cons (.cmp true 2 (.comp 1 (.nm 3) (.sq (.call 0 (.cons (.var 1) .nil))) .no (.tup (.cons (.var 0) (.cons (.var 3) .nil)))))
 (.cons (.ifs (.cmp .isin (.ix (.var 1) (.int 0)) (.tup (.cons (.str "not") (.cons (.str "if") .nil))))
 (.cons (.setix 2 (.int 0) (.tup (.cons (.call 10 (.cons (.var 0) .nil)) (.cons (.ix (.var 1) (.int 1)) .nil))))
 .nil)
 .nil)
 (.cons (.ret (.var 2))
 .nil))),false⟩
def lH:Fd:=⟨"parts",["side","A","name"],["kind","signed"],
 (.cons (.asg (.nm 3) (.ix (.var 1) (.int 0)))
 (.cons (.ifs (.cmp .isin (.var 3) (.glob 0))
 (.cons .bad
 .nil)
 .nil)
 (.cons (.ifs (.cmp .isin (.var 3) (.glob 1))
 (.cons (.ret (.lst (.cons (.lst (.cons (.tup (.cons (.var 0) (.cons (.call 5 (.cons (.ix (.var 1) (.int 1)) (.cons (.var 2) .nil))) .nil))) .nil)) .nil)))
 .nil)
 .nil)
 (.cons (.asg (.nm 4) (.call 11 (.cons (.var 0) (.cons (.var 1) .nil))))
 (.cons (.ifs (.cmp .isin (.tup (.cons (.var 0) (.cons (.var 3) .nil))) (.glob 2))
 (.cons (.ret (.comp 1 (.nm 5) (.sq (.var 4)) .no (.lst (.cons (.var 5) .nil))))
 .nil)
 .nil)
 (.cons (.ret (.lst (.cons (.var 4) .nil)))
 .nil)))))),false⟩
def we:Fd:=⟨"is_own",["side","A"],[],
 (.cons (.ret (.cmp .isin (.tup (.cons (.var 0) (.cons (.ix (.var 1) (.int 0)) .nil))) (.glob 3)))
 .nil),false⟩
def lI:Fd:=⟨"kids_of",["tree"],[],
 (.cons (.ret (.ite (.cmp .eq (.var 0) (.glob 4)) (.tup .nil) (.ix (.var 0) (.neg (.int 1)))))
 .nil),false⟩
def gc:Fd:=⟨"with_kids",["tree","kids"],[],
 (.cons (.ret (.ite (.cmp .eq (.var 0) (.glob 4)) (.var 0) (.bin .add (.sl (.var 0) .no (.yes (.neg (.int 1)))) (.tup (.cons (.blt .toTup (.cons (.var 1) .nil)) .nil)))))
 .nil),false⟩
def gZ:Fd:=⟨"added_above",["tree"],[],
 (.cons (.ifs (.cmp .eq (.ix (.var 0) (.int 0)) (.str "rule"))
 (.cons (.ret (.call 12 (.cons (.ix (.var 0) (.int 1)) (.cons (.ix (.var 0) (.int 2)) (.cons (.ix (.var 0) (.int 3)) .nil)))))
 .nil)
 .nil)
 (.cons (.ifs (.cmp .eq (.ix (.var 0) (.int 0)) (.str "cut"))
 (.cons (.ret (.lst (.cons (.lst (.cons (.tup (.cons (.str "right") (.cons (.ix (.var 0) (.int 1)) .nil))) .nil)) (.cons (.lst (.cons (.tup (.cons (.str "left") (.cons (.ix (.var 0) (.int 1)) .nil))) .nil)) .nil))))
 .nil)
 .nil)
 (.cons (.ret (.lst .nil))
 .nil))),false⟩
def iE:Fd:=⟨"rows_above",["row","tree"],[],
 (.cons (.ret (.comp 1 (.nm 2) (.sq (.call 16 (.cons (.var 1) .nil))) .no (.call 8 (.cons (.var 0) (.cons (.var 2) .nil)))))
 .nil),false⟩
def gz:Fd:=⟨"trees_within",["tree"],["found","kid"],
 (.cons (.new 1 (.lst (.cons (.var 0) .nil)))
 (.cons (.for_ (.nm 2) (.sq (.call 14 (.cons (.var 0) .nil)))
 (.cons (.extend 1 (.call 18 (.cons (.var 2) .nil)))
 .nil))
 (.cons (.ret (.var 1))
 .nil))),false⟩
def kv:Fd:=⟨"names_at",["tree"],[],
 (.cons (.ifs (.cmp .eq (.ix (.var 0) (.int 0)) (.str "rule"))
 (.cons (.ret (.bin .add (.call 3 (.cons (.ix (.var 0) (.int 2)) .nil)) (.ite (.cmp .ne (.ix (.var 0) (.int 3)) (.str "")) (.lst (.cons (.ix (.var 0) (.int 3)) .nil)) (.lst .nil))))
 .nil)
 .nil)
 (.cons (.ifs (.cmp .eq (.ix (.var 0) (.int 0)) (.str "cut"))
 (.cons .bad
 .nil)
 .nil)
 (.cons (.ret (.lst .nil))
 .nil))),false⟩
def gB:Fd:=⟨"names_within",["tree"],[],
 (.cons (.ret (.sset 2 (.nm 1) (.sq (.call 18 (.cons (.var 0) .nil))) (.nm 2) (.sq (.call 19 (.cons (.var 1) .nil))) .no (.var 2)))
 .nil),false⟩
def lJ:Fd:=⟨"changed",["tree","old","new"],["kids","side","A","name"],
 (.cons (.cmp false 3 (.comp 1 (.nm 7) (.sq (.call 14 (.cons (.var 0) .nil))) .no (.call 21 (.cons (.var 7) (.cons (.var 1) (.cons (.var 2) .nil))))))
 (.cons (.ifs (.cmp .eq (.ix (.var 0) (.int 0)) (.str "rule"))
 (.cons (.asg (.tp [4,5,6]) (.sl (.var 0) (.yes (.int 1)) (.yes (.int 4))))
 (.cons (.ret (.tup (.cons (.str "rule") (.cons (.var 4) (.cons (.call 6 (.cons (.var 5) (.cons (.var 1) (.cons (.var 2) .nil)))) (.cons (.ite (.cmp .eq (.var 6) (.var 1)) (.var 2) (.var 6)) (.cons (.blt .toTup (.cons (.var 3) .nil)) .nil)))))))
 .nil))
 .nil)
 (.cons (.ifs (.cmp .eq (.ix (.var 0) (.int 0)) (.str "cut"))
 (.cons .bad
 .nil)
 .nil)
 (.cons (.ret (.var 0))
 .nil)))),false⟩
def pN:Fd:=⟨"fresh",["names"],["many"],
 (.cons (.asg (.nm 1) (.int 0))
 (.cons (.while_ (.cmp .isin (.fstr "n" (.var 1)) (.var 0))
 (.cons (.aug 1 .add (.int 1))
 .nil))
 (.cons (.ret (.fstr "n" (.var 1)))
 .nil))),false⟩
def pO:Fd:=⟨"freed",["row","tree","shunned"],["side","A","name","kids","taken","new"],
 (.cons (.ifs (.or (.cmp .ne (.ix (.var 1) (.int 0)) (.str "rule")) (.not (.call 13 (.cons (.ix (.var 1) (.int 1)) (.cons (.ix (.var 1) (.int 2)) .nil)))))
 (.cons (.ret (.var 1))
 .nil)
 .nil)
 (.cons (.asg (.tp [3,4,5,6]) (.sl (.var 1) (.yes (.int 1)) .no))
 (.cons (.asg (.nm 7) (.bin .add (.call 9 (.cons (.var 0) .nil)) (.var 2)))
 (.cons (.ifs (.cmp .notin (.var 5) (.var 7))
 (.cons (.ret (.var 1))
 .nil)
 .nil)
 (.cons (.asg (.nm 8) (.call 22 (.cons (.bin .add (.var 7) (.call 20 (.cons (.var 1) .nil))) .nil)))
 (.cons (.ret (.tup (.cons (.str "rule") (.cons (.var 3) (.cons (.var 4) (.cons (.var 8) (.cons (.blt .toTup (.cons (.comp 1 (.nm 9) (.sq (.var 6)) .no (.call 21 (.cons (.var 9) (.cons (.var 5) (.cons (.var 8) .nil))))) .nil)) .nil)))))))
 .nil)))))),false⟩
def fh:Fd:=⟨"fitted",["row","tree","shunned"],["shunned_names","free","kids"],
 (.cons (.asg (.nm 3) (.ite (.cmp .is (.var 2) .non) (.lst .nil) (.blt .toLst (.cons (.var 2) .nil))))
 (.cons (.asg (.nm 4) (.call 23 (.cons (.var 0) (.cons (.var 1) (.cons (.var 3) .nil)))))
 (.cons (.cmp false 5 (.comp 2 (.tp [6,7]) (.zp (.cons (.call 17 (.cons (.var 0) (.cons (.var 4) .nil))) (.cons (.call 14 (.cons (.var 4) .nil)) .nil))) .no (.call 24 (.cons (.var 6) (.cons (.var 7) (.cons (.var 3) .nil))))))
 (.cons (.ret (.call 15 (.cons (.var 4) (.cons (.var 5) .nil))))
 .nil)))),false⟩
def jm:Fd:=⟨"_law_once",["_law_some"],["_law_row","_law_one"],
 (.cons (.new 1 (.lst .nil))
 (.cons (.for_ (.nm 2) (.sq (.blt .sorted (.cons (.var 0) .nil)))
 (.cons (.ifs (.cmp .notin (.var 2) (.sl (.pk 1) (.yes (.neg (.int 1))) .no))
 (.cons (.append 1 (.var 2))
 .nil)
 .nil)
 .nil))
 (.cons (.ret (.blt .toTup (.cons (.pk 1) .nil)))
 .nil))),false⟩
def jo:Fd:=⟨"_law_cell",["_law_script","_law_k"],["_law_number"],
 (.cons (.ifs (.cmp .lt (.var 1) (.blt .len (.cons (.var 0) .nil)))
 (.cons (.ret (.ix (.var 0) (.var 1)))
 .nil)
 .nil)
 (.cons (.asg (.nm 2) (.bin .add (.bin .mul (.var 1) (.int 7919)) (.int 5)))
 (.cons (.ifs (.cmp .gt (.blt .len (.cons (.var 0) .nil)) (.int 0))
 (.cons (.asg (.nm 2) (.bin .add (.bin .mod (.bin .mul (.ix (.var 0) (.bin .mod (.bin .mul (.var 1) (.int 7)) (.blt .len (.cons (.var 0) .nil)))) (.int 48271)) (.int 2147483647)) (.bin .mul (.var 1) (.int 104729))))
 .nil)
 .nil)
 (.cons (.ret (.bin .mod (.bin .mul (.var 2) (.var 2)) (.int 2147483629)))
 .nil)))),false⟩
def jl:Fd:=⟨"_law_text",["_law_cell_here","_law_filler","_law_k"],["_law_size","_law_at"],
 (.cons (.asg (.nm 3) (.bin .add (.int 1) (.bin .mod (.var 0) (.int 8))))
 (.cons (.asg (.nm 4) (.bin .mod (.bin .fdiv (.var 0) (.int 8)) (.var 3)))
 (.cons (.ret (.bin .add (.bin .add (.bin .mul (.var 1) (.var 4)) (.ix (.str "bdghjk") (.var 2))) (.bin .mul (.var 1) (.bin .sub (.bin .sub (.var 3) (.int 1)) (.var 4)))))
 .nil))),false⟩
def jn:Fd:=⟨"_law_leaf",["_law_cell_here","_law_family","_law_names_here"],["_law_terms","_law_j"],
 (.cons (.new 3 (.lst .nil))
 (.cons (.for_ (.nm 4) (.rng (.bin .mod (.bin .fdiv (.var 0) (.int 5)) (.int 4)))
 (.cons (.append 3 (.ix (.var 2) (.bin .mod (.bin .fdiv (.var 0) (.bin .add (.int 7) (.bin .mul (.int 4) (.var 4)))) (.blt .len (.cons (.var 2) .nil)))))
 .nil))
 (.cons (.ret (.tup (.cons (.str "word") (.cons (.call 27 (.cons (.var 1) (.cons (.str "q") (.cons (.bin .mod (.var 0) (.int 3)) .nil)))) (.cons (.blt .toTup (.cons (.pk 3) .nil)) .nil)))))
 .nil))),false⟩
def fx:Fd:=⟨"_law_statement",["_law_cell_here","_law_deep","_law_around","_law_names_here","_law_family"],["_law_kind","_law_rest","_law_one"],
 (.cons (.asg (.nm 5) (.ix (.lst (.cons (.str "word") (.cons (.str "not") (.cons (.str "and") (.cons (.str "or") (.cons (.str "if") (.cons (.str "all") (.cons (.str "some") (.cons (.str "yes") (.cons (.str "no") (.cons (.str "word") .nil))))))))))) (.bin .mod (.var 0) (.int 10))))
 (.cons (.asg (.nm 6) (.bin .fdiv (.var 0) (.int 10)))
 (.cons (.ifs (.or (.cmp .eq (.var 5) (.str "yes")) (.cmp .eq (.var 5) (.str "no")))
 (.cons (.ret (.tup (.cons (.var 5) .nil)))
 .nil)
 .nil)
 (.cons (.ifs (.or (.cmp .eq (.var 5) (.str "word")) (.cmp .eq (.var 1) (.int 0)))
 (.cons (.ret (.call 28 (.cons (.var 6) (.cons (.var 4) (.cons (.bin .add (.var 3) (.comp 1 (.nm 8) (.rng (.var 2)) .no (.blt .toStr (.cons (.var 8) .nil)))) .nil)))))
 .nil)
 .nil)
 (.cons (.ifs (.cmp .eq (.var 5) (.str "not"))
 (.cons (.ret (.tup (.cons (.str "not") (.cons (.call 29 (.cons (.var 6) (.cons (.bin .sub (.var 1) (.int 1)) (.cons (.var 2) (.cons (.var 3) (.cons (.var 4) .nil)))))) .nil))))
 .nil)
 .nil)
 (.cons (.ifs (.or (.cmp .eq (.var 5) (.str "all")) (.cmp .eq (.var 5) (.str "some")))
 (.cons (.ret (.tup (.cons (.var 5) (.cons (.call 29 (.cons (.var 6) (.cons (.bin .sub (.var 1) (.int 1)) (.cons (.bin .add (.var 2) (.int 1)) (.cons (.var 3) (.cons (.var 4) .nil)))))) .nil))))
 .nil)
 .nil)
 (.cons (.asg (.nm 7) (.call 29 (.cons (.bin .mod (.bin .mul (.var 6) (.int 48271)) (.int 2147483647)) (.cons (.bin .sub (.var 1) (.int 1)) (.cons (.var 2) (.cons (.var 3) (.cons (.var 4) .nil)))))))
 (.cons (.ret (.tup (.cons (.var 5) (.cons (.var 7) (.cons (.call 29 (.cons (.bin .mod (.bin .mul (.var 6) (.int 69621)) (.int 2147483629)) (.cons (.bin .sub (.var 1) (.int 1)) (.cons (.var 2) (.cons (.var 3) (.cons (.var 4) .nil)))))) .nil)))))
 .nil)))))))),false⟩
def di:Fd:=⟨"_law_put",["_law_s","_law_name","_law_deep"],["_law_terms","_law_term"],
 (.cons (.ifs (.cmp .eq (.ix (.var 0) (.int 0)) (.str "word"))
 (.cons (.new 3 (.lst .nil))
 (.cons (.for_ (.nm 4) (.sq (.ix (.var 0) (.int 2)))
 (.cons (.ifs (.cmp .eq (.var 4) (.blt .toStr (.cons (.var 2) .nil)))
 (.cons (.append 3 (.var 1))
 .nil)
 (.cons (.append 3 (.var 4))
 .nil))
 .nil))
 (.cons (.ret (.tup (.cons (.str "word") (.cons (.ix (.var 0) (.int 1)) (.cons (.blt .toTup (.cons (.pk 3) .nil)) .nil)))))
 .nil)))
 .nil)
 (.cons (.ifs (.or (.cmp .eq (.ix (.var 0) (.int 0)) (.str "all")) (.cmp .eq (.ix (.var 0) (.int 0)) (.str "some")))
 (.cons (.ret (.tup (.cons (.ix (.var 0) (.int 0)) (.cons (.call 30 (.cons (.ix (.var 0) (.int 1)) (.cons (.var 1) (.cons (.bin .add (.var 2) (.int 1)) .nil)))) .nil))))
 .nil)
 .nil)
 (.cons (.ret (.bin .add (.tup (.cons (.ix (.var 0) (.int 0)) .nil)) (.blt .toTup (.cons (.comp 1 (.nm 5) (.sq (.sl (.var 0) (.yes (.int 1)) .no)) .no (.call 30 (.cons (.var 5) (.cons (.var 1) (.cons (.var 2) .nil))))) .nil))))
 .nil))),false⟩
def dO:Fd:=⟨"_law_names",["_law_s"],["_law_found","_law_part"],
 (.cons (.ifs (.cmp .eq (.ix (.var 0) (.int 0)) (.str "word"))
 (.cons (.ret (.comp 1 (.nm 3) (.sq (.ix (.var 0) (.int 2))) (.yes (.cmp .notin (.var 3) (.str "0123456789"))) (.var 3)))
 .nil)
 .nil)
 (.cons (.asg (.nm 1) (.lst .nil))
 (.cons (.for_ (.nm 2) (.sq (.sl (.var 0) (.yes (.int 1)) .no))
 (.cons (.asg (.nm 1) (.bin .add (.var 1) (.call 31 (.cons (.var 2) .nil))))
 .nil))
 (.cons (.ret (.var 1))
 .nil)))),false⟩
def fA:Fd:=⟨"_law_parts",["_law_side","_law_s","_law_name"],["_law_other","_law_one"],
 (.cons (.asg (.nm 3) (.ix (.lst (.cons (.str "left") (.cons (.str "right") .nil))) (.blt .toInt (.cons (.cmp .eq (.var 0) (.str "left")) .nil))))
 (.cons (.ifs (.cmp .eq (.ix (.var 1) (.int 0)) (.str "not"))
 (.cons (.ret (.lst (.cons (.lst (.cons (.tup (.cons (.var 3) (.cons (.ix (.var 1) (.int 1)) .nil))) .nil)) .nil)))
 .nil)
 .nil)
 (.cons (.ifs (.or (.cmp .eq (.ix (.var 1) (.int 0)) (.str "all")) (.cmp .eq (.ix (.var 1) (.int 0)) (.str "some")))
 (.cons (.ret (.lst (.cons (.lst (.cons (.tup (.cons (.var 0) (.cons (.call 30 (.cons (.ix (.var 1) (.int 1)) (.cons (.var 2) (.cons (.int 0) .nil)))) .nil))) .nil)) .nil)))
 .nil)
 .nil)
 (.cons (.ifs (.cmp .notin (.ix (.var 1) (.int 0)) (.tup (.cons (.str "and") (.cons (.str "or") (.cons (.str "if") .nil)))))
 (.cons .bad
 .nil)
 .nil)
 (.cons (.asg (.nm 4) (.tup (.cons (.var 0) (.cons (.ix (.var 1) (.int 1)) .nil))))
 (.cons (.ifs (.cmp .eq (.ix (.var 1) (.int 0)) (.str "if"))
 (.cons (.asg (.nm 4) (.tup (.cons (.var 3) (.cons (.ix (.var 1) (.int 1)) .nil))))
 .nil)
 .nil)
 (.cons (.ifs (.cmp .eq (.cmp .eq (.ix (.var 1) (.int 0)) (.str "and")) (.cmp .eq (.var 0) (.str "left")))
 (.cons (.ret (.lst (.cons (.lst (.cons (.var 4) (.cons (.tup (.cons (.var 0) (.cons (.ix (.var 1) (.int 2)) .nil))) .nil))) .nil)))
 .nil)
 .nil)
 (.cons (.ret (.lst (.cons (.lst (.cons (.var 4) .nil)) (.cons (.lst (.cons (.tup (.cons (.var 0) (.cons (.ix (.var 1) (.int 2)) .nil))) .nil)) .nil))))
 .nil)))))))),false⟩
def cA:Fd:=⟨"_law_bound",["_law_s","_law_name","_law_deep"],["_law_terms","_law_term"],
 (.cons (.ifs (.cmp .eq (.ix (.var 0) (.int 0)) (.str "word"))
 (.cons (.new 3 (.lst .nil))
 (.cons (.for_ (.nm 4) (.sq (.ix (.var 0) (.int 2)))
 (.cons (.ifs (.cmp .eq (.var 4) (.var 1))
 (.cons (.append 3 (.blt .toStr (.cons (.var 2) .nil)))
 .nil)
 (.cons (.append 3 (.var 4))
 .nil))
 .nil))
 (.cons (.ret (.tup (.cons (.str "word") (.cons (.ix (.var 0) (.int 1)) (.cons (.blt .toTup (.cons (.pk 3) .nil)) .nil)))))
 .nil)))
 .nil)
 (.cons (.ifs (.or (.cmp .eq (.ix (.var 0) (.int 0)) (.str "all")) (.cmp .eq (.ix (.var 0) (.int 0)) (.str "some")))
 (.cons (.ret (.tup (.cons (.ix (.var 0) (.int 0)) (.cons (.call 33 (.cons (.ix (.var 0) (.int 1)) (.cons (.var 1) (.cons (.bin .add (.var 2) (.int 1)) .nil)))) .nil))))
 .nil)
 .nil)
 (.cons (.ret (.bin .add (.tup (.cons (.ix (.var 0) (.int 0)) .nil)) (.blt .toTup (.cons (.comp 1 (.nm 5) (.sq (.sl (.var 0) (.yes (.int 1)) .no)) .no (.call 33 (.cons (.var 5) (.cons (.var 1) (.cons (.var 2) .nil))))) .nil))))
 .nil))),false⟩
def ny:Fd:=⟨"_law_twice",["_law_side","_law_s","_law_tree"],["_law_other"],
 (.cons (.asg (.nm 3) (.ix (.lst (.cons (.str "left") (.cons (.str "right") .nil))) (.blt .toInt (.cons (.cmp .eq (.var 0) (.str "left")) .nil))))
 (.cons (.ret (.tup (.cons (.str "rule") (.cons (.var 0) (.cons (.var 1) (.cons (.str "") (.cons (.tup (.cons (.tup (.cons (.str "rule") (.cons (.var 3) (.cons (.ix (.var 1) (.int 1)) (.cons (.str "") (.cons (.tup (.cons (.var 2) .nil)) .nil)))))) .nil)) .nil)))))))
 .nil)),false⟩
def dZ:Fd:=⟨"_law_leaf_pair",["_law_cell_here","_law_names_here","_law_mode_here"],["_law_word","_law_forms","_law_f","_law_ways","_law_one","_law_row","_law_other","_law_tree"],
 (.cons (.asg (.nm 3) (.call 28 (.cons (.var 0) (.cons (.ix (.var 2) (.int 0)) (.cons (.var 1) .nil)))))
 (.cons (.new 4 (.lst .nil))
 (.cons (.for_ (.nm 5) (.rng (.int 3))
 (.cons (.ifs (.cmp .eq (.bin .mod (.bin .fdiv (.var 0) (.ix (.lst (.cons (.int 31) (.cons (.int 37) (.cons (.int 41) .nil)))) (.var 5))) (.int 4)) (.int 1))
 (.cons (.append 4 (.tup (.cons (.str "not") (.cons (.tup (.cons (.str "not") (.cons (.var 3) .nil))) .nil))))
 .nil)
 (.cons (.append 4 (.var 3))
 .nil))
 .nil))
 (.cons (.new 6 (.lst .nil))
 (.cons (.for_ (.nm 7) (.sq (.var 4))
 (.cons (.new 8 (.lst .nil))
 (.cons (.for_ (.nm 9) (.sq (.var 4))
 (.cons (.asg (.nm 10) (.tup (.cons (.str "close") .nil)))
 (.cons (.ifs (.cmp .ne (.var 7) (.var 3))
 (.cons (.asg (.nm 10) (.call 34 (.cons (.str "left") (.cons (.var 7) (.cons (.var 10) .nil)))))
 .nil)
 .nil)
 (.cons (.ifs (.cmp .ne (.var 9) (.var 3))
 (.cons (.asg (.nm 10) (.call 34 (.cons (.str "right") (.cons (.var 9) (.cons (.var 10) .nil)))))
 .nil)
 .nil)
 (.cons (.append 8 (.var 10))
 .nil)))))
 (.cons (.append 6 (.var 8))
 .nil))))
 (.cons (.ret (.tup (.cons (.var 4) (.cons (.var 6) .nil))))
 .nil)))))),false⟩
def hJ:Fd:=⟨"_law_single",["_law_kind","_law_own","_law_one","_law_order"],["_law_forms","_law_s","_law_ways","_law_f","_law_row","_law_g","_law_low","_law_high","_law_kid"],
 (.cons (.new 4 (.lst .nil))
 (.cons (.for_ (.nm 5) (.sq (.ix (.var 2) (.int 0)))
 (.cons (.ifs (.cmp .eq (.var 0) (.str "not"))
 (.cons (.append 4 (.tup (.cons (.str "not") (.cons (.var 5) .nil))))
 .nil)
 (.cons (.append 4 (.tup (.cons (.var 0) (.cons (.call 33 (.cons (.var 5) (.cons (.var 1) (.cons (.int 0) .nil)))) .nil))))
 .nil))
 .nil))
 (.cons (.new 6 (.lst .nil))
 (.cons (.for_ (.nm 7) (.rng (.int 3))
 (.cons (.new 8 (.lst .nil))
 (.cons (.for_ (.nm 9) (.rng (.int 3))
 (.cons (.ifs (.cmp .eq (.var 0) (.str "not"))
 (.cons (.asg (.nm 10) (.tup (.cons (.str "right") (.cons (.ix (.pk 4) (.var 9)) (.cons (.str "") .nil)))))
 (.cons (.asg (.nm 11) (.tup (.cons (.str "left") (.cons (.ix (.pk 4) (.var 7)) (.cons (.str "") .nil)))))
 (.cons (.asg (.nm 12) (.ix (.ix (.ix (.var 2) (.int 1)) (.var 9)) (.var 7)))
 .nil)))
 (.cons (.asg (.nm 10) (.tup (.cons (.str "right") (.cons (.ix (.pk 4) (.var 9)) (.cons (.var 1) .nil)))))
 (.cons (.asg (.nm 11) (.tup (.cons (.str "left") (.cons (.ix (.pk 4) (.var 7)) (.cons (.var 1) .nil)))))
 (.cons (.asg (.nm 12) (.ix (.ix (.ix (.var 2) (.int 1)) (.var 7)) (.var 9)))
 .nil))))
 (.cons (.ifs (.or (.cmp .eq (.var 0) (.str "some")) (.and (.cmp .eq (.var 0) (.str "not")) (.cmp .eq (.var 3) (.int 1))))
 (.cons (.asg (.tp [10,11]) (.tup (.cons (.var 11) (.cons (.var 10) .nil))))
 .nil)
 .nil)
 (.cons (.append 8 (.bin .add (.bin .add (.tup (.cons (.str "rule") .nil)) (.var 10)) (.tup (.cons (.tup (.cons (.bin .add (.bin .add (.tup (.cons (.str "rule") .nil)) (.var 11)) (.tup (.cons (.tup (.cons (.var 12) .nil)) .nil))) .nil)) .nil))))
 .nil))))
 (.cons (.append 6 (.var 8))
 .nil))))
 (.cons (.ret (.tup (.cons (.var 4) (.cons (.var 6) .nil))))
 .nil))))),false⟩
def qQ:Fd:=⟨"_law_way",["_law_kind","_law_pair_here","_law_other","_law_f","_law_g","_law_turns","_law_forms","_law_order"],["_law_one","_law_two","_law_tree","_law_low","_law_high","_law_turned","_law_kids"],
 (.cons (.asg (.nm 8) (.ix (.ix (.ix (.var 1) (.int 1)) (.var 3)) (.var 4)))
 (.cons (.asg (.nm 9) (.ix (.ix (.ix (.var 2) (.int 1)) (.var 3)) (.var 4)))
 (.cons (.ifs (.cmp .eq (.var 0) (.str "if"))
 (.cons (.asg (.nm 8) (.ix (.ix (.ix (.var 1) (.int 1)) (.var 4)) (.var 3)))
 (.cons (.ifs (.ix (.var 5) (.var 3))
 (.cons (.asg (.nm 8) (.tup (.cons (.str "rule") (.cons (.str "left") (.cons (.tup (.cons (.str "not") (.cons (.ix (.ix (.var 1) (.int 0)) (.var 3)) .nil))) (.cons (.str "") (.cons (.tup (.cons (.var 8) .nil)) .nil)))))))
 .nil)
 .nil)
 (.cons (.asg (.nm 10) (.tup (.cons (.str "rule") (.cons (.str "left") (.cons (.ix (.var 6) (.var 3)) (.cons (.str "") (.cons (.tup (.cons (.var 8) (.cons (.var 9) .nil))) .nil)))))))
 (.cons (.ifs (.ix (.var 5) (.var 4))
 (.cons (.asg (.nm 10) (.tup (.cons (.str "rule") (.cons (.str "right") (.cons (.tup (.cons (.str "not") (.cons (.ix (.ix (.var 1) (.int 0)) (.var 4)) .nil))) (.cons (.str "") (.cons (.tup (.cons (.var 10) .nil)) .nil)))))))
 .nil)
 .nil)
 (.cons (.ret (.tup (.cons (.str "rule") (.cons (.str "right") (.cons (.ix (.var 6) (.var 4)) (.cons (.str "") (.cons (.tup (.cons (.var 10) .nil)) .nil)))))))
 .nil)))))
 .nil)
 (.cons (.asg (.nm 11) (.tup (.cons (.str "left") (.cons (.ix (.var 6) (.var 3)) .nil))))
 (.cons (.asg (.nm 12) (.tup (.cons (.str "right") (.cons (.ix (.var 6) (.var 4)) .nil))))
 (.cons (.asg (.nm 13) (.ix (.var 5) (.var 4)))
 (.cons (.ifs (.cmp .eq (.var 0) (.str "or"))
 (.cons (.asg (.tp [11,12]) (.tup (.cons (.var 12) (.cons (.var 11) .nil))))
 (.cons (.asg (.nm 13) (.ix (.var 5) (.var 3)))
 .nil))
 .nil)
 (.cons (.asg (.nm 14) (.lst (.cons (.var 8) (.cons (.var 9) .nil))))
 (.cons (.ifs (.var 13)
 (.cons (.asg (.nm 14) (.lst (.cons (.var 9) (.cons (.var 8) .nil))))
 .nil)
 .nil)
 (.cons (.ifs (.cmp .eq (.var 7) (.int 1))
 (.cons (.cmp false 14 (.comp 1 (.nm 15) (.sq (.var 14)) .no (.tup (.cons (.str "rule") (.cons (.ix (.var 11) (.int 0)) (.cons (.ix (.var 11) (.int 1)) (.cons (.str "") (.cons (.tup (.cons (.var 15) .nil)) .nil))))))))
 (.cons (.ret (.tup (.cons (.str "rule") (.cons (.ix (.var 12) (.int 0)) (.cons (.ix (.var 12) (.int 1)) (.cons (.str "") (.cons (.blt .toTup (.cons (.var 14) .nil)) .nil)))))))
 .nil))
 .nil)
 (.cons (.ret (.tup (.cons (.str "rule") (.cons (.ix (.var 11) (.int 0)) (.cons (.ix (.var 11) (.int 1)) (.cons (.str "") (.cons (.tup (.cons (.tup (.cons (.str "rule") (.cons (.ix (.var 12) (.int 0)) (.cons (.ix (.var 12) (.int 1)) (.cons (.str "") (.cons (.blt .toTup (.cons (.var 14) .nil)) .nil)))))) .nil)) .nil)))))))
 .nil))))))))))),false⟩
def dS:Fd:=⟨"_law_double",["_law_kind","_law_cell_here","_law_one","_law_two","_law_order"],["_law_forms","_law_turns","_law_f","_law_x","_law_y","_law_ways"],
 (.cons (.new 5 (.lst .nil))
 (.cons (.new 6 (.lst .nil))
 (.cons (.for_ (.nm 7) (.rng (.int 3))
 (.cons (.asg (.nm 8) (.ix (.ix (.var 2) (.int 0)) (.var 7)))
 (.cons (.asg (.nm 9) (.ix (.ix (.var 3) (.int 0)) (.var 7)))
 (.cons (.append 6 (.cmp .eq (.bin .mod (.bin .fdiv (.var 1) (.ix (.lst (.cons (.int 1) (.cons (.int 2) (.cons (.int 4) .nil)))) (.var 7))) (.int 2)) (.int 1)))
 (.cons (.ifs (.and (.cmp .eq (.var 0) (.str "if")) (.ix (.pk 6) (.var 7)))
 (.cons (.append 5 (.tup (.cons (.str "or") (.cons (.tup (.cons (.str "not") (.cons (.var 8) .nil))) (.cons (.var 9) .nil)))))
 .nil)
 (.cons (.ifs (.ix (.pk 6) (.var 7))
 (.cons (.append 5 (.tup (.cons (.var 0) (.cons (.var 9) (.cons (.var 8) .nil)))))
 .nil)
 (.cons (.append 5 (.tup (.cons (.var 0) (.cons (.var 8) (.cons (.var 9) .nil)))))
 .nil))
 .nil))
 .nil)))))
 (.cons (.new 10 (.lst .nil))
 (.cons (.for_ (.nm 7) (.rng (.int 3))
 (.cons (.append 10 (.comp 1 (.nm 11) (.rng (.int 3)) .no (.call 37 (.cons (.var 0) (.cons (.var 2) (.cons (.var 3) (.cons (.var 7) (.cons (.var 11) (.cons (.var 6) (.cons (.var 5) (.cons (.var 4) .nil)))))))))))
 .nil))
 (.cons (.ret (.tup (.cons (.var 5) (.cons (.var 10) .nil))))
 .nil)))))),false⟩
def ib:Fd:=⟨"_law_pair",["_law_script","_law_at","_law_deep","_law_names_here","_law_mode_here"],["_law_cell_here","_law_kind","_law_own","_law_inner","_law_one","_law_two"],
 (.cons (.asg (.nm 5) (.call 26 (.cons (.var 0) (.cons (.var 1) .nil))))
 (.cons (.asg (.nm 6) (.ix (.lst (.cons (.str "word") (.cons (.str "not") (.cons (.str "and") (.cons (.str "or") (.cons (.str "if") (.cons (.str "all") (.cons (.str "some") (.cons (.str "and") .nil))))))))) (.bin .mod (.var 5) (.int 8))))
 (.cons (.ifs (.or (.cmp .eq (.var 2) (.int 0)) (.cmp .eq (.var 6) (.str "word")))
 (.cons (.ret (.call 35 (.cons (.bin .fdiv (.var 5) (.int 8)) (.cons (.var 3) (.cons (.var 4) .nil)))))
 .nil)
 .nil)
 (.cons (.asg (.nm 7) (.bin .add (.ix (.var 4) (.int 1)) (.blt .toStr (.cons (.blt .len (.cons (.var 3) .nil)) .nil))))
 (.cons (.new 8 (.blt .toLst (.cons (.var 3) .nil)))
 (.cons (.ifs (.or (.cmp .eq (.var 6) (.str "all")) (.cmp .eq (.var 6) (.str "some")))
 (.cons (.append 8 (.var 7))
 .nil)
 .nil)
 (.cons (.asg (.nm 9) (.call 39 (.cons (.var 0) (.cons (.bin .add (.bin .mul (.int 2) (.var 1)) (.int 1)) (.cons (.bin .sub (.var 2) (.int 1)) (.cons (.var 8) (.cons (.var 4) .nil)))))))
 (.cons (.ifs (.or (.cmp .eq (.var 6) (.str "not")) (.or (.cmp .eq (.var 6) (.str "all")) (.cmp .eq (.var 6) (.str "some"))))
 (.cons (.ret (.call 36 (.cons (.var 6) (.cons (.var 7) (.cons (.var 9) (.cons (.ix (.var 4) (.int 2)) .nil))))))
 .nil)
 .nil)
 (.cons (.asg (.nm 10) (.call 39 (.cons (.var 0) (.cons (.bin .add (.bin .mul (.int 2) (.var 1)) (.int 2)) (.cons (.bin .sub (.var 2) (.int 1)) (.cons (.var 3) (.cons (.var 4) .nil)))))))
 (.cons (.ret (.call 38 (.cons (.var 6) (.cons (.bin .fdiv (.var 5) (.int 8)) (.cons (.var 9) (.cons (.var 10) (.cons (.ix (.var 4) (.int 2)) .nil)))))))
 .nil)))))))))),false⟩
def ic:Fd:=⟨"_law_mode",["_law_script"],["_law_cell_here","_law_names_here"],
 (.cons (.asg (.nm 1) (.call 26 (.cons (.var 0) (.cons (.int 0) .nil))))
 (.cons (.asg (.nm 2) (.lst (.cons (.call 27 (.cons (.bin .fdiv (.var 1) (.int 4)) (.cons (.str "z") (.cons (.int 0) .nil)))) (.cons (.call 27 (.cons (.bin .fdiv (.var 1) (.int 4)) (.cons (.str "z") (.cons (.int 1) .nil)))) .nil))))
 (.cons (.ifs (.cmp .eq (.bin .mod (.var 1) (.int 4)) (.int 0))
 (.cons (.asg (.nm 2) (.lst (.cons (.str "n0") (.cons (.str "n1") .nil))))
 .nil)
 .nil)
 (.cons (.ret (.tup (.cons (.var 2) (.cons (.tup (.cons (.bin .fdiv (.var 1) (.int 4)) (.cons (.ix (.lst (.cons (.str "c") (.cons (.str "n") .nil))) (.blt .toInt (.cons (.cmp .eq (.bin .mod (.var 1) (.int 4)) (.int 1)) .nil))) (.cons (.bin .mod (.bin .fdiv (.var 1) (.int 32)) (.int 2)) .nil)))) .nil))))
 .nil)))),false⟩
def fi:Fd:=⟨"_law_made",["_law_script"],["_law_names_here","_law_mode_here","_law_cell_here","_law_own","_law_one","_law_forms","_law_ways","_law_row","_law_tree"],
 (.cons (.asg (.tp [1,2]) (.call 40 (.cons (.var 0) .nil)))
 (.cons (.asg (.nm 3) (.bin .fdiv (.call 26 (.cons (.var 0) (.cons (.int 0) .nil))) (.int 64)))
 (.cons (.asg (.nm 4) (.bin .add (.ix (.var 2) (.int 1)) (.blt .toStr (.cons (.blt .len (.cons (.var 1) .nil)) .nil))))
 (.cons (.asg (.nm 5) (.call 39 (.cons (.var 0) (.cons (.int 1) (.cons (.bin .add (.int 1) (.blt .toInt (.cons (.cmp .eq (.bin .mod (.bin .fdiv (.var 3) (.int 8)) (.int 3)) (.int 1)) .nil))) (.cons (.bin .add (.var 1) (.lst (.cons (.var 4) .nil))) (.cons (.var 2) .nil)))))))
 (.cons (.asg (.tp [6,7]) (.call 36 (.cons (.ix (.lst (.cons (.str "all") (.cons (.str "some") .nil))) (.bin .mod (.bin .fdiv (.var 3) (.int 4)) (.int 2))) (.cons (.var 4) (.cons (.var 5) (.cons (.ix (.var 2) (.int 2)) .nil))))))
 (.cons (.asg (.nm 8) (.lst (.cons (.tup (.cons (.str "left") (.cons (.ix (.var 6) (.int 0)) .nil))) (.cons (.tup (.cons (.str "right") (.cons (.ix (.var 6) (.int 2)) .nil))) .nil))))
 (.cons (.asg (.nm 9) (.tup (.cons (.str "cut") (.cons (.ix (.var 6) (.int 1)) (.cons (.tup (.cons (.ix (.ix (.var 7) (.int 0)) (.int 1)) (.cons (.ix (.ix (.var 7) (.int 1)) (.int 2)) .nil))) .nil)))))
 (.cons (.ifs (.cmp .eq (.bin .mod (.var 3) (.int 4)) (.int 0))
 (.cons (.asg (.nm 9) (.ix (.ix (.var 7) (.int 0)) (.int 2)))
 .nil)
 .nil)
 (.cons (.ifs (.cmp .eq (.bin .mod (.var 3) (.int 4)) (.int 2))
 (.cons (.asg (.nm 9) (.tup (.cons (.str "cut") (.cons (.ix (.var 6) (.int 1)) (.cons (.tup (.cons (.ix (.ix (.var 7) (.int 0)) (.int 1)) (.cons (.tup (.cons (.str "cut") (.cons (.ix (.var 6) (.int 0)) (.cons (.tup (.cons (.ix (.ix (.var 7) (.int 1)) (.int 0)) (.cons (.ix (.ix (.var 7) (.int 0)) (.int 2)) .nil))) .nil)))) .nil))) .nil)))))
 .nil)
 .nil)
 (.cons (.ifs (.cmp .eq (.bin .mod (.var 3) (.int 4)) (.int 3))
 (.cons (.asg (.nm 9) (.tup (.cons (.str "cut") (.cons (.ix (.var 6) (.int 0)) (.cons (.tup (.cons (.tup (.cons (.str "cut") (.cons (.ix (.var 6) (.int 1)) (.cons (.tup (.cons (.ix (.ix (.var 7) (.int 0)) (.int 1)) (.cons (.ix (.ix (.var 7) (.int 1)) (.int 0)) .nil))) .nil)))) (.cons (.ix (.ix (.var 7) (.int 0)) (.int 2)) .nil))) .nil)))))
 .nil)
 .nil)
 (.cons (.ret (.tup (.cons (.var 8) (.cons (.var 9) (.cons (.bin .add (.var 1) (.lst (.cons (.var 4) (.cons (.bin .add (.ix (.var 2) (.int 1)) (.str "3")) (.cons (.bin .add (.ix (.var 2) (.int 1)) (.str "4")) (.cons (.str "n0") (.cons (.str "n1") .nil))))))) (.cons (.var 2) .nil))))))
 .nil))))))))))),false⟩
def dg:Fd:=⟨"_law_renamed",["_law_s","_law_old","_law_new"],["_law_terms","_law_term"],
 (.cons (.ifs (.cmp .eq (.ix (.var 0) (.int 0)) (.str "word"))
 (.cons (.new 3 (.lst .nil))
 (.cons (.for_ (.nm 4) (.sq (.ix (.var 0) (.int 2)))
 (.cons (.ifs (.cmp .eq (.var 4) (.var 1))
 (.cons (.asg (.nm 4) (.var 2))
 .nil)
 .nil)
 (.cons (.append 3 (.var 4))
 .nil)))
 (.cons (.ret (.tup (.cons (.str "word") (.cons (.ix (.var 0) (.int 1)) (.cons (.blt .toTup (.cons (.pk 3) .nil)) .nil)))))
 .nil)))
 .nil)
 (.cons (.ret (.bin .add (.tup (.cons (.ix (.var 0) (.int 0)) .nil)) (.blt .toTup (.cons (.comp 1 (.nm 5) (.sq (.sl (.var 0) (.yes (.int 1)) .no)) .no (.call 42 (.cons (.var 5) (.cons (.var 1) (.cons (.var 2) .nil))))) .nil))))
 .nil)),false⟩
def fj:Fd:=⟨"_law_changed",["_law_tree","_law_old","_law_new"],["_law_kids","_law_name"],
 (.cons (.ifs (.cmp .eq (.ix (.var 0) (.int 0)) (.str "close"))
 (.cons (.ret (.var 0))
 .nil)
 .nil)
 (.cons (.asg (.nm 3) (.blt .toTup (.cons (.comp 1 (.nm 5) (.sq (.ix (.var 0) (.neg (.int 1)))) .no (.call 43 (.cons (.var 5) (.cons (.var 1) (.cons (.var 2) .nil))))) .nil)))
 (.cons (.ifs (.cmp .eq (.ix (.var 0) (.int 0)) (.str "cut"))
 (.cons .bad
 .nil)
 .nil)
 (.cons (.asg (.nm 4) (.ix (.var 0) (.int 3)))
 (.cons (.ifs (.cmp .eq (.var 4) (.var 1))
 (.cons (.asg (.nm 4) (.var 2))
 .nil)
 .nil)
 (.cons (.ret (.tup (.cons (.str "rule") (.cons (.ix (.var 0) (.int 1)) (.cons (.call 42 (.cons (.ix (.var 0) (.int 2)) (.cons (.var 1) (.cons (.var 2) .nil)))) (.cons (.var 4) (.cons (.var 3) .nil)))))))
 .nil)))))),false⟩
def eV:Fd:=⟨"_law_tree_names",["_law_tree"],["_law_found","_law_kid"],
 (.cons (.ifs (.cmp .eq (.ix (.var 0) (.int 0)) (.str "close"))
 (.cons (.ret (.lst .nil))
 .nil)
 .nil)
 (.cons (.asg (.nm 1) (.call 31 (.cons (.ix (.var 0) (.bin .add (.int 1) (.blt .toInt (.cons (.cmp .eq (.ix (.var 0) (.int 0)) (.str "rule")) .nil)))) .nil)))
 (.cons (.ifs (.cmp .eq (.ix (.var 0) (.int 0)) (.str "rule"))
 (.cons (.asg (.nm 1) (.bin .add (.var 1) (.lst (.cons (.ix (.var 0) (.int 3)) .nil))))
 .nil)
 .nil)
 (.cons (.for_ (.nm 2) (.sq (.ix (.var 0) (.neg (.int 1))))
 (.cons (.asg (.nm 1) (.bin .add (.var 1) (.call 44 (.cons (.var 2) .nil))))
 .nil))
 (.cons (.ret (.var 1))
 .nil))))),false⟩
def fy:Fd:=⟨"_law_row_names",["_law_row"],["_law_found","_law_one"],
 (.cons (.asg (.nm 1) (.lst .nil))
 (.cons (.for_ (.nm 2) (.sq (.var 0))
 (.cons (.asg (.nm 1) (.bin .add (.var 1) (.call 31 (.cons (.ix (.var 2) (.int 1)) .nil))))
 .nil))
 (.cons (.ret (.var 1))
 .nil))),false⟩
def iF:Fd:=⟨"_law_first",["_law_barred"],["_law_at"],
 (.cons (.asg (.nm 1) (.int 0))
 (.cons (.while_ (.cmp .isin (.bin .add (.str "n") (.blt .toStr (.cons (.var 1) .nil))) (.var 0))
 (.cons (.aug 1 .add (.int 1))
 .nil))
 (.cons (.ret (.bin .add (.str "n") (.blt .toStr (.cons (.var 1) .nil))))
 .nil))),false⟩
def bZ:Fd:=⟨"_law_is_fitted",["_law_row","_law_tree","_law_found","_law_shunned"],["_law_kids","_law_branches","_law_name","_law_barred","_law_k"],
 (.cons (.ifs (.or (.not (.blt .isTup (.cons (.var 2) .nil))) (.cmp .ne (.blt .len (.cons (.var 2) .nil)) (.blt .len (.cons (.var 1) .nil))))
 (.cons .bad
 .nil)
 .nil)
 (.cons (.ifs (.cmp .eq (.ix (.var 1) (.int 0)) (.str "close"))
 (.cons (.ret (.cmp .eq (.var 2) (.var 1)))
 .nil)
 .nil)
 (.cons (.asg (.nm 4) (.ix (.var 1) (.neg (.int 1))))
 (.cons (.ifs (.cmp .eq (.ix (.var 1) (.int 0)) (.str "cut"))
 (.cons (.asg (.nm 5) (.lst (.cons (.lst (.cons (.tup (.cons (.str "right") (.cons (.ix (.var 1) (.int 1)) .nil))) .nil)) (.cons (.lst (.cons (.tup (.cons (.str "left") (.cons (.ix (.var 1) (.int 1)) .nil))) .nil)) .nil))))
 (.cons (.ifs (.cmp .ne (.sl (.var 2) .no (.yes (.int 2))) (.sl (.var 1) .no (.yes (.int 2))))
 (.cons .bad
 .nil)
 .nil)
 .nil))
 (.cons (.asg (.nm 6) (.ix (.var 1) (.int 3)))
 (.cons (.asg (.nm 7) (.bin .add (.call 45 (.cons (.var 0) .nil)) (.var 3)))
 (.cons (.ifs (.and (.cmp .isin (.tup (.cons (.ix (.ix (.var 1) (.int 2)) (.int 0)) (.cons (.ix (.var 1) (.int 1)) .nil))) (.tup (.cons (.tup (.cons (.str "all") (.cons (.str "right") .nil))) (.cons (.tup (.cons (.str "some") (.cons (.str "left") .nil))) .nil)))) (.cmp .isin (.var 6) (.var 7)))
 (.cons (.asg (.nm 6) (.call 46 (.cons (.bin .add (.var 7) (.call 44 (.cons (.var 1) .nil))) .nil)))
 (.cons (.cmp false 4 (.comp 1 (.nm 9) (.sq (.var 4)) .no (.call 43 (.cons (.var 9) (.cons (.ix (.var 1) (.int 3)) (.cons (.var 6) .nil))))))
 .nil))
 .nil)
 (.cons (.ifs (.cmp .ne (.sl (.var 2) .no (.yes (.int 4))) (.bin .add (.sl (.var 1) .no (.yes (.int 3))) (.tup (.cons (.var 6) .nil))))
 (.cons .bad
 .nil)
 .nil)
 (.cons (.asg (.nm 5) (.call 32 (.cons (.ix (.var 1) (.int 1)) (.cons (.ix (.var 1) (.int 2)) (.cons (.var 6) .nil)))))
 .nil))))))
 (.cons (.ifs (.or (.not (.blt .isTup (.cons (.ix (.var 2) (.neg (.int 1))) .nil))) (.cmp .ne (.blt .len (.cons (.ix (.var 2) (.neg (.int 1))) .nil)) (.blt .len (.cons (.var 4) .nil))))
 (.cons .bad
 .nil)
 .nil)
 (.cons (.for_ (.nm 8) (.rng (.blt .len (.cons (.var 4) .nil)))
 (.cons (.ifs (.not (.call 47 (.cons (.bin .add (.var 0) (.ix (.var 5) (.var 8))) (.cons (.ix (.var 4) (.var 8)) (.cons (.ix (.ix (.var 2) (.neg (.int 1))) (.var 8)) (.cons (.var 3) .nil))))))
 (.cons .bad
 .nil)
 .nil)
 .nil))
 (.cons (.ret (.bl true))
 .nil))))))),false⟩
def d_law:Fd:=⟨"law",["_law_script"],["_law_row","_law_tree","_law_pool","_law_mode_here","_law_extra","_law_number","_law_cell_here","_law_shunned","_law_k","_law_handed","_law_found"],
 (.cons (.asg (.tp [1,2,3,4]) (.call 41 (.cons (.var 0) .nil)))
 (.cons (.new 5 (.lst .nil))
 (.cons (.for_ (.nm 6) (.sq (.sl (.var 0) (.yes (.int 12)) (.yes (.int 32))))
 (.cons (.append 5 (.tup (.cons (.ix (.lst (.cons (.str "left") (.cons (.str "right") .nil))) (.bin .mod (.var 6) (.int 2))) (.cons (.call 29 (.cons (.bin .fdiv (.var 6) (.int 2)) (.cons (.int 1) (.cons (.int 0) (.cons (.var 3) (.cons (.ix (.var 4) (.int 0)) .nil)))))) .nil))))
 .nil))
 (.cons (.asg (.nm 7) (.call 26 (.cons (.var 0) (.cons (.int 32) .nil))))
 (.cons (.new 8 (.lst .nil))
 (.cons (.for_ (.nm 9) (.rng (.blt .len (.cons (.var 3) .nil)))
 (.cons (.ifs (.cmp .eq (.bin .mod (.bin .fdiv (.var 7) (.bin .add (.var 9) (.int 2))) (.int 3)) (.int 1))
 (.cons (.append 8 (.ix (.var 3) (.var 9)))
 .nil)
 .nil)
 .nil))
 (.cons (.asg (.nm 10) (.blt .toLst (.cons (.pk 8) .nil)))
 (.cons (.asg (.nm 11) (.call 24 (.cons (.call 25 (.cons (.bin .add (.var 1) (.var 5)) .nil)) (.cons (.var 2) (.cons (.var 10) .nil)))))
 (.cons (.ifs (.or (.cmp .ne (.var 10) (.pk 8)) (.not (.call 47 (.cons (.bin .add (.var 1) (.var 5)) (.cons (.var 2) (.cons (.var 11) (.cons (.var 8) .nil)))))))
 (.cons .bad
 .nil)
 .nil)
 (.cons (.ifs (.cmp .ne (.call 24 (.cons (.call 25 (.cons (.var 1) .nil)) (.cons (.var 2) (.cons (.lst .nil) .nil)))) (.var 2))
 (.cons .bad
 .nil)
 .nil)
 (.cons (.ret (.cmp .eq (.call 24 (.cons (.call 25 (.cons (.bin .add (.var 1) (.var 5)) .nil)) (.cons (.var 2) (.cons (.var 8) .nil)))) (.var 11)))
 .nil))))))))))),false⟩
def d_lam0:Fd:=⟨"put_in.<locals>.<lambda>",["term","depth","name"],[],
 (.cons (.ret (.ite (.and (.call 1 (.cons (.var 0) .nil)) (.cmp .eq (.blt .toInt (.cons (.var 0) .nil)) (.var 1))) (.var 2) (.var 0))) .nil),false⟩
def d_lam1:Fd:=⟨"renamed.<locals>.<lambda>",["term","depth","old","new"],[],
 (.cons (.ret (.ite (.cmp .eq (.var 0) (.var 2)) (.var 3) (.var 0))) .nil),false⟩
def Gd:List Fd:=[wg,kx,dY,kr,cV,jH,iK,iD,uC,ku,nu,kF,lH,we,lI,gc,gZ,iE,gz,kv,gB,lJ,pN,pO,fh,jm,jo,jl,jn,fx,di,dO,fA,cA,ny,dZ,hJ,qQ,dS,ib,ic,fi,dg,fj,eV,fy,iF,bZ,d_law]
def Gs:List Fd:=[wg,kx,dY,kr,cV,jH,iK,iD,uC,ku,nu,kF,lH,we,lI,gc,gZ,iE,gz,kv,gB,lJ,pN,pO,fh,jm,jo,jl,jn,fx,di,dO,fA,cA,ny,dZ,hJ,qQ,dS,ib,ic,fi,dg,fj,eV,fy,iF,bZ,d_law,d_lam0,d_lam1]
def L0:Lam:=⟨"put_in.<locals>.<lambda>",OZ (rlm (top 8)),OY (rlm (top 8)),OW (rlm (top 8)),["term","depth"],["name"]⟩
def L1:Lam:=⟨"renamed.<locals>.<lambda>",OZ (rlm (top 9)),OY (rlm (top 9)),OW (rlm (top 9)),["term","depth"],["old","new"]⟩
noncomputable instance tbs:Tbs:=⟨[(49,"put_in.<locals>.<lambda>"),(56,"renamed.<locals>.<lambda>")],[(49,L0),(50,L1)],[]⟩
def pls:List (String × Nat):=[("inside",3),("is_place",4),("words_within",5),("names_of",6),("with_terms",7),("put_in",8),("renamed",9),("sorted_row",13),("more",14),("names_in",15),("other_side",16),("signed_within",17),("parts",18),("is_own",19),("kids_of",22),("with_kids",23),("added_above",24),("rows_above",25),("trees_within",26),("names_at",27),("names_within",28),("changed",30),("fresh",31),("freed",32),("fitted",33),("_law_once",35),("_law_cell",36),("_law_text",37),("_law_leaf",38),("_law_statement",39),("_law_put",40),("_law_names",41),("_law_parts",42),("_law_bound",43),("_law_twice",44),("_law_leaf_pair",45),("_law_single",46),("_law_way",47),("_law_double",48),("_law_pair",49),("_law_mode",50),("_law_made",51),("_law_renamed",52),("_law_changed",53),("_law_tree_names",54),("_law_row_names",55),("_law_first",56),("_law_is_fitted",57),("law",58)]
def gls:List D:=[.tup [.str "yes",.str "no",.str "word"],.tup [.str "all",.str "some"],.tup [.tup [.str "right",.str "and"],.tup [.str "left",.str "or"],.tup [.str "left",.str "if"]],.tup [.tup [.str "right",.str "all"],.tup [.str "left",.str "some"]],.tup [.str "close"]]
def gns:List Str:=["LEAVES","BINDERS","FORKS","OWN","CLOSE"]
inductive U | neg | all | ex
inductive B | and | or | imp
def U.s:U->Str | .neg=>"not" | U.all=>"all" | .ex=>"some"
def B.s:B->Str | .and=>"and" | .or=>"or" | .imp=>"if"
def up:U->Int | .neg=>0 | _=>1
inductive F where
 | yes | no | word (w:Str) (ts:List Str) | un (u:U) (a:F) | bi (b:B) (x y:F)
def hd:F->Str
 | .yes=>"yes" | .no=>"no" | .word _ _=>"word" | .un u _=>u.s | .bi b _ _=>b.s
def enc:F->D
 | .yes=>.tup [.str "yes"]
 | .no=>.tup [.str "no"]
 | .word w ts=>.tup [.str "word",.str w,.tup (ts.map .str)]
 | .un u a=>.tup [.str u.s,enc a]
 | .bi b x y=>.tup [.str b.s,enc x,enc y]
def tl:F->List D
 | .yes | .no=>[]
 | .word w ts=>[.str w,.tup (ts.map .str)]
 | .un _ a=>[enc a]
 | .bi _ x y=>[enc x,enc y]
def ko (A:F):enc A = .tup (.str (hd A)::tl A):=by cases A<;>rfl
def kd:F->Nat
 | .yes=>0 | .no=>1 | .word _ _=>2 | .un _ _=>3 | .bi _ _ _=>4
def kdS (s:Str):Nat:=if s = "yes" then 0 else if s = "no" then 1 else if s = "word" then 2 else if s = "not" then 3 else if s = "all" then 3 else if s = "some" then 3 else 4
def Fm:∀ A:F,kdS (hd A) = kd A
 | .yes=>(by decide:kdS "yes" = 0)
 | .no=>(by decide:kdS "no" = 1)
 | .word _ _=>(by decide:kdS "word" = 2)
 | .un .neg _=>(by decide:kdS "not" = 3)
 | .un .all _=>(by decide:kdS "all" = 3)
 | .un .ex _=>(by decide:kdS "some" = 3)
 | .bi .and _ _=>(by decide:kdS "and" = 4)
 | .bi .or _ _=>(by decide:kdS "or" = 4)
 | .bi .imp _ _=>(by decide:kdS "if" = 4)
def oO {A B:F} (h:hd A = hd B):kd A = kd B:=by rw [<- Fm A,<- Fm B,h]
def sz:F->Nat
 | .un _ a=>sz a+1
 | .bi _ x y=>sz x+sz y+1
 | _=>1
def kq (x:Str):dep (.str x) = 0:=by unfold dep;rfl
def ni:∀ ts:List Str,dh (ts.map D.str) = 0
 | []=>by unfold dh;rfl
 | t::ts=>by rw [aW];unfold dh;rw [ni ts,kq];rfl
def hF:F->Nat
 | .un _ a=>hF a+1
 | .bi _ x y=>max (hF x) (hF y)+1
 | _=>1
def zD:∀ A:F,hF A<=sz A
 | .yes | .no | .word _ _=>ax _
 | .un _ a=>by have:=zD a;simp only [hF,sz];lia
 | .bi _ x y=>by have:=zD x;have:=zD y;simp only [hF,sz];lia
def nk:∀ A:F,dep (enc A)<=hF A+1
 | .yes | .no=>by unfold enc;simp [dep,dh,hF]
 | .word w ts=>by unfold enc;simp [dep,dh,ni,hF]
 | .un b a=>by have:=nk a;unfold enc;simp [dep,dh,hF];lia
 | .bi b x y=>by have:=nk x;have:=nk y;unfold enc;simp [dep,dh,hF];lia
def jk (A:F):dep (enc A)<=sz A+1:=by have:=nk A;have:=zD A;lia
def zN:∀ ts us:List Str,iC (ts.map D.str) (us.map D.str) = true->ts = us
 | [],[],_=>rfl
 | [],_::_,h=>by unfold iC at h;cases h
 | _::_,[],h=>by unfold iC at h;cases h
 | t::ts,u::us,h=>by
   rw [aW,aW] at h;unfold iC eqD at h;rw [aa] at h;rw [show t = u by simpa using h.1,zN ts us h.2]
def oQ {A B:F} (h:eqD (enc A) (enc B) = true):hd A = hd B/\iC (tl A) (tl B) = true:=by
 rw [ko,ko] at h;unfold eqD iC eqD at h;rw [aa] at h;exact ⟨by simpa using h.1,h.2⟩
def Po {a b:D} (h:iC [a] [b] = true):eqD a b = true:=by
 unfold iC at h;rw [aa] at h;exact h.1
def MY {a b x y:D} (h:iC [a,x] [b,y] = true):eqD a b = true/\eqD x y = true:=by
 unfold iC at h;rw [aa] at h;exact ⟨h.1,Po h.2⟩
def Nk:∀ b c:B,b.s = c.s->b = c
 | .and,.and,_ | .or,.or,_ | .imp,.imp,_=>rfl
 | .and,.or,h | .and,.imp,h | .or,.and,h | .or,.imp,h | .imp,.and,h | .imp,.or,h=>absurd h ⇑0
def KI:∀ b c:U,b.s = c.s->b = c
 | .neg,.neg,_ | .all,.all,_ | .ex,.ex,_=>rfl
 | .neg,.all,h | .neg,.ex,h | .all,.neg,h | .all,.ex,h | .ex,.neg,h | .ex,.all,h=>absurd h ⇑0
def uz:∀ A B:F,eqD (enc A) (enc B) = true->A = B
 | .yes,B,h=>by
   have this:=oO (oQ h).1
   cases B with
   | yes=>rfl
   | _=>exact absurd this (by simp [kd])
 | .no,B,h=>by
   have this:=oO (oQ h).1
   cases B with
   | no=>rfl
   | _=>exact absurd this (by simp [kd])
 | .word w ts,B,h=>by
   have this:=oO (oQ h).1;have h2:=(oQ h).2
   cases B with
   | word v us =>
     obtain ⟨h3,h4⟩:=MY h2;unfold eqD at h3 h4
     rw [show w = v by simpa using h3,zN ts us h4]
   | _=>exact absurd this (by simp [kd])
 | .un b a,B,h=>by
   have this':=(oQ h).1;have this:=oO this';have h2:=(oQ h).2
   cases B with
   | un c d=>rw [KI b c this',uz a d (Po h2)]
   | _=>exact absurd this (by simp [kd])
 | .bi b x y,B,h=>by
   have this':=(oQ h).1;have this:=oO this';have h2:=(oQ h).2
   cases B with
   | bi c u v =>
     obtain ⟨h3,h4⟩:=MY h2
     rw [Nk b c this',uz x u h3,uz y v h4]
   | _=>exact absurd this (by simp [kd])
def sd (L:Bool):Str:=if L then "left" else "right"
abbrev It:=Bool × F
def itD (p:It):D:=.tup [.str (sd p.1),enc p.2]
def Lg:∀ b c:Bool,sd b = sd c->b = c:=by decide
def JT {p q:It} (h:eqD (itD p) (itD q) = true):p = q:=by
 unfold itD eqD at h;obtain ⟨h1,h2⟩:=MY h;unfold eqD at h1;obtain ⟨a,A⟩:=p;obtain ⟨b,B⟩:=q;rw [show a = b from Lg a b (by simpa using h1),show A = B from uz A B h2]
def low (ps:List It):Prop:=∀ p∈ps,sz p.2<=61
def mv (p:It) (h:sz p.2<=61):dep (itD p)<=64:=by
 have:=jk p.2;unfold itD;simp only [dep,dh,kq]
 lia
def zP:∀ {ps:List It},low ps->dh (ps.map itD)<=64
 | [],_=>by show dh ([]:List D)<=64;unfold dh;lia
 | p::ps,h=>by
   rw [aW];unfold dh;have:=mv p (h p ar);have:=zP (ps:=ps) λq hq=>h q (ao _ hq)
   lia
def eq_self (p:It) (h:sz p.2<=61):eqD (itD p) (itD p) = true:=iV _ (by have:=mv p h;lia)
def has (ps:List It) (q:It):Bool:=(ps.map itD).any λy=>eqD y (itD q)
def IU {ps:List It} {q:It} (h:low ps):has ps q = true↔q∈ps:=by
 unfold has;rw [List.any_eq_true];constructor
 . rintro ⟨y,hy,e⟩;obtain ⟨p,hp,rfl⟩:=bj.mp hy;rw [<- JT e];exact hp
 . intro hq;exact ⟨_,List.mem_map_of_mem hq,eq_self q (h q hq)⟩
def Pe {ps:List It} {q:It} (h:low ps) (hq:sz q.2<=61):dep (itD q)<=150/\dh (ps.map itD) < 99999:=⟨by have:=mv q hq;lia,by have:=zP h;lia⟩
def ltn (ys:List D):(iB [] ys).isSome = true:=by cases ys<;>(unfold iB;rfl)
def Ql (ys:List D):(iB ys []).isSome = true:=by cases ys<;>(unfold iB;rfl)
def ltc {x y:D} {xs ys:List D} (h:(ltD x y).isSome = true) (h2:(iB xs ys).isSome = true):(iB (x::xs) (y::ys)).isSome = true:=by
 unfold iB;split
 . exact h2
 . exact h
def lts {s t:Str} {xs ys:List D} (h:s = t->(iB xs ys).isSome = true):(iB (.str s::xs) (.str t::ys)).isSome = true:=by
 unfold iB;split
 . rename_i e;exact h (by unfold eqD at e;simpa using e)
 . unfold ltD;rfl
def zr:∀ xs ys:List Str,(iB (xs.map D.str) (ys.map D.str)).isSome = true
 | [],ys=>ltn _
 | xs,[]=>Ql _
 | x::xs,y::ys=>lts λ_=>zr xs ys
def mh {xs ys:List D} (h:(iB xs ys).isSome = true):(ltD (.tup xs) (.tup ys)).isSome = true:=by unfold ltD;exact h
def uj:∀ A B:F,(ltD (enc A) (enc B)).isSome = true
 | .yes,B=>by rw [ko B];exact mh (lts λ_=>ltn _)
 | .no,B=>by rw [ko B];exact mh (lts λ_=>ltn _)
 | .word w ts,B=>by
   rw [ko B];refine mh (lts λe=>?_);have e:hd (.word w ts) = hd B:=e
   cases B with
   | word v us=>exact lts λ_=>ltc (mh (zr ts us)) (ltn _)
   | _=>exact absurd (oO e) (by simp [kd])
 | .un b a,B=>by
   rw [ko B];refine mh (lts λe=>?_);have e:hd (.un b a) = hd B:=e
   cases B with
   | un c d=>exact ltc (uj a d) (ltn _)
   | _=>exact absurd (oO e) (by simp [kd])
 | .bi b x y,B=>by
   rw [ko B];refine mh (lts λe=>?_);have e:hd (.bi b x y) = hd B:=e
   cases B with
   | bi c u v=>exact ltc (uj x u) (ltc (uj y v) (ltn _))
   | _=>exact absurd (oO e) (by simp [kd])
def mS {row:List It} (h:low row) (hl:row.length < 64):sortable (row.map itD) = true:=by
 unfold PP.sortable;simp only [aa,decide_eq_true_eq,eF];refine ⟨⟨by rw [ai];exact hl,λx hx=>?_⟩,λx hx y hy=>?_⟩
 . have k:∀ d∈row.map itD,bF d = 3:=λd hd=>by
    obtain ⟨p,_,rfl⟩:=bj.mp hd;rfl
   cases e:row.map itD with
   | nil=>rw [e] at hx;cases hx
   | cons z zs =>
     have e2:bF ((z::zs).getD 0 .non) = 3:=k z (by rw [e];exact ar);rw [k x hx,e2];exact ⟨rfl,rfl⟩
 . obtain ⟨p,hp,rfl⟩:=bj.mp hx;obtain ⟨q,hq,rfl⟩:=bj.mp hy;have:=mv p (h p hp);have:=mv q (h q hq);unfold oY;rw [if_pos ∅];exact mh (lts λ_=>ltc (uj _ _) (ltn _))
instance:Inhabited F:=⟨.yes⟩
def oe {α:Type} [Inhabited α] (g:α->D) (xs:List α):∃ ys:List α,eR (xs.map g) = ys.map g/\ys.Perm xs:=by
 unfold eR;rw [ai];split
 . exact ⟨xs,rfl,.refl _⟩
 . have p:=gK (lt:=iS (xs.map g)) xs.length;refine ⟨(ans (iS (xs.map g)) (PySem.W.kas_sort xs.length)).toList.map λi=>xs.getD i default,?_,?_⟩
   . rw [fM];refine mG λi hi=>?_;have hi:i < xs.length:=gG.mp (p.mem_iff.mp hi);show (xs.map g).getD i .non = g (xs.getD i default);rw [jr,br,jr,aB hi];rfl
   . refine (p.map _).trans ?_;rw [rX default (λx=>x) xs,List.map_id']
def srt (xs:List It):List It:=Classical.choose (oe itD xs)
def Dv (xs:List It):eR (xs.map itD) = (srt xs).map itD:=(sS (oe itD xs)).1
def iN (xs:List It):(srt xs).Perm xs:=(sS (oe itD xs)).2
def isL (acc:List It) (x:It):Bool:=match acc.getLast? with
 | some y=>eqD (itD y) (itD x)
 | none=>false
def dd:List It->List It->List It
 | acc,[]=>acc
 | acc,x::xs=>dd (if isL acc x = true then acc else acc++[x]) xs
def mo (l:List It):List It:=dd [] (srt l)
def IM {acc:List It} {x:It} (h:isL acc x = true):x∈acc:=by
 unfold isL at h;split at h
 . rename_i y e;rw [<- JT h];exact List.mem_of_getLast? e
 . cases h
def FO {p:It}:∀ (xs acc:List It),p∈dd acc xs↔p∈acc\/p∈xs
 | [],acc=>by simp [dd]
 | x::xs,acc=>by
   unfold dd;rw [FO xs];split
   . rename_i h;have:=IM h;constructor
     . rintro (z | z)
       . exact .inl z
       . exact .inr (ao _ z)
     . rintro (z | z)
       . exact .inl z
       . rcases az.mp z with z | z
         . rw [z];exact .inl this
         . exact .inr z
   . rw [aA,aK,az,or_assoc]
def FP:∀ (xs acc:List It),(dd acc xs).length<=acc.length+xs.length
 | [],acc=>by simp [dd]
 | x::xs,acc=>by
   unfold dd;have:=FP xs (if isL acc x = true then acc else acc++[x])
   have h2:(if isL acc x = true then acc else acc++[x]).length<=acc.length+1:=by
    split
    . lia
    . rw [ag];simp
   rw [aw]
   lia
def MA {p:It} {l:List It}:p∈mo l↔p∈l:=by
 unfold mo;rw [FO,(iN l).mem_iff];simp
def MB (l:List It):(mo l).length<=l.length:=by
 unfold mo;have:=FP (srt l) [];rw [(iN l).length_eq] at this;simpa using this
def low.app {a b:List It} (h:low a) (h2:low b):low (a++b):=λp hp=>(aA.mp hp).elim (h p) (h2 p)
def low.one {p:It} (h:sz p.2<=61):low [p]:=λq hq=>by rw [aK.mp hq];exact h
def II {l:List D} {y:D}:atI (l++[y]) (-1) = some y:=by
 unfold atI ixN;rw [if_neg ⇑0,if_pos (by simp;lia)];show (l++[y])[(-1+((l++[y]).length:Int)).toNat]? = some y;have e:(-1+((l++[y]).length:Int)).toNat = l.length:=by rw [ag];simp;lia
 rw [e,bB (ax _),Nat.sub_self];rfl
def OK {p q:It} (hp:sz p.2<=61) (hq:sz q.2<=61) {Q:Bool->Prop} (k:Q (!eqD (itD p) (itD q))):nX .ne (itD p) (itD q) Q:=by
 refine ⟨_,?_,k⟩;show (if gy (itD p) (itD q) = true then some (!eqD (itD p) (itD q)) else none) = _;have:=mv p hp;have:=mv q hq;rw [if_pos (by unfold gy;rw [show kin (itD p) (itD q) = true from rfl,jQ,aa,decide_eq_true_eq,decide_eq_true_eq];lia)]
def s64:(1000:Nat) < sizeLine:=by decide
def Fs (l:List It) (y x:It):isL (l++[y]) x = eqD (itD y) (itD x):=by
 unfold isL;rw [List.getLast?_append,List.getLast?_singleton];rfl
def low.tail {x:It} {xs:List It} (h:low (x::xs)):low xs:=λp hp=>h p (ao _ hp)
def DW (n:Nat) (l:List It) (h:low l) (hl:l.length < 64):PP.run Gs gls (n+1) 7 [.lst (l.map itD)] = some (.tup ((mo l).map itD)):=by
 apply aZ;refine aL iD rfl rfl rfl ?_;simp only [iD,init,SI,Nat.reduceAdd,Nat.reduceSub];simp only [↓WS,↓WC,WI,↓reduceIte];refine ⟨⇑0,mS h hl,?_⟩;rw [Dv];refine eZ (g:=itD) (λrest δ=>∃ (acc:List It) (s:Sl),δ = [.val (.lst (l.map itD)),.own (acc.map itD),s]/\low acc/\low rest/\dd acc rest = mo l/\acc.length+rest.length < 64) ?_ ?_ _ _ ⟨[],_,rfl,(λp hp=>by cases hp),(λp hp=>h p ((iN l).mem_iff.mp hp)),rfl,by rw [aD,(iN l).length_eq];lia⟩
 . rintro x rest δ ⟨acc,s,rfl,ha,hr,e,hlen⟩;rw [aw] at hlen;have hx:=hr x ar;have ss:=s64;rw [dd] at e
   have app:isL acc x = false->∃ (acc':List It) (s:Sl),([.val (.lst (l.map itD)),.own (acc.map itD++[itD x]),.val (itD x)]:PP.Loc) = [.val (.lst (l.map itD)),.own (acc'.map itD),s]/\low acc'/\low rest/\dd acc' rest = mo l/\acc'.length+rest.length < 64:=λz=>by
    rw [z,if_neg aq] at e;exact ⟨acc++[x],_,by rw [aI];rfl,ha.app (.one hx),hr.tail,e,by rw [ag];simp only [aw,aD];lia⟩
   rcases List.eq_nil_or_concat acc with rfl | ⟨l',y,rfl⟩
   . simp only [kN,↓WS,↓WC,WI,↓reduceIte];exact ⟨⇑0,app rfl⟩
   . rw [List.concat_eq_append] at e hlen app ha |-;have hy:=ha y ↥0;rw [aI] at app |-;have hne:(!!(l'.map itD++[y].map itD).isEmpty) = false:=by cases l'<;>rfl
     simp only [hne,↓WS,↓WC,WI,↓reduceIte];refine ⟨itD y,II,OK hy hx ?_⟩;rw [Fs] at app e
     cases eb:eqD (itD y) (itD x) with
     | true =>
       rw [eb,if_pos rfl] at e
       exact ⟨l'++[y],_,by rw [aI],ha,hr.tail,e,∅⟩
     | false=>exact ⟨by simp only [ag,ai,aw,aD] at hlen |-;lia,app eb⟩
 . rintro δ ⟨acc,s,rfl,_,_,e,_⟩;simp only [↓WS,↓WC,WI,↓reduceIte];rw [<- e];rfl
def Ll (n:Nat) (r ad:List It) (a:D) (ha:a = .lst (ad.map itD)\/a = .tup (ad.map itD)) (h:low (r++ad)) (hl:r.length+ad.length < 64):PP.run Gs gls (n+2) 8 [.tup (r.map itD),a] = some (.tup ((mo (r++ad)).map itD)):=by
 have w:=DW n (r++ad) h (by rw [ag];exact hl);rw [aI] at w;have ss:=s64;apply aZ;refine aL uC rfl rfl rfl ?_;simp only [uC,init,SI,Nat.reduceAdd,Nat.reduceSub];rcases ha with rfl | rfl
 . simp only [↓WS,↓WC,WI,↓reduceIte];exact ⟨by rw [ai,ai];lia,(aV w).mpr rfl⟩
 . simp only [↓WS,↓WC,WI,↓reduceIte];exact ⟨by rw [ai,ai];lia,(aV w).mpr rfl⟩
def nm (t:Str):Prop:=∃ c r,t.cps.toList = c::r/\97<=c/\c<=122
def okF:F->Prop
 | .word _ ts=>ts.length<=1000
 | .un _ a=>okF a
 | .bi _ x y=>okF x/\okF y
 | _=>True
def tms:F->List Str
 | .word _ ts=>ts
 | .un _ a=>tms a
 | .bi _ x y=>tms x++tms y
 | _=>[]
def dA (f:Str->Int->Str):F->Int->F
 | .word w ts,k=>.word w (ts.map λt=>f t k)
 | .un u a,k=>.un u (dA f a (k+up u))
 | .bi b x y,k=>.bi b (dA f x k) (dA f y k)
 | A,_=>A
def lC (f:Str->Int->Str):∀ (A:F) (k:Int),hF (dA f A k) = hF A
 | .yes,_ | .no,_ | .word _ _,_=>rfl
 | .un u a,k=>by simp only [dA,hF,lC f a]
 | .bi b x y,k=>by simp only [dA,hF,lC f x,lC f y]
mutual
theorem zx:∀ ts:List Str,lfL (ts.map D.str) = true
 | []=>by unfold lfL;rfl
 | t::ts=>by rw [aW];unfold lfL lf;exact zx ts
end
def qH:∀ A:F,lf (enc A) = true
 | .yes | .no=>by unfold enc;decide
 | .word w ts=>by unfold enc;simp only [lf,lfL,zx,jS]
 | .un u a=>by unfold enc;simp only [lf,lfL,qH a,jS]
 | .bi b x y=>by unfold enc;simp only [lf,lfL,qH x,qH y,jS]
def JS:(("word":Str) == "word") = true:=by decide
def nV {a:D} {ds:List D} {Q:D->Prop}:wSl (.tup (a::ds)) (some 1) none Q↔Q (.tup ds):=by
 have e1:HT.sIx (a::ds).length 0 (some 1) = 1:=by
  rw [show (1:Int) = ((1:Nat):Int) from rfl,HT.sIx_nat];simp
 have e2:HT.sIx (a::ds).length (a::ds).length none = (a::ds).length:=rfl;unfold wSl slD;dsimp only;rw [e1,e2,if_neg ↥0];unfold cutD;rw [e1,e2];simp
def Lm (kk:Nat) (cs:List D) (f:Str->Int->Str) (p:Str->Prop):Prop:=∀ (n:Nat) (t:Str) (k:Int),p t->0<=k->k < 1000->PP.run Gs gls (n+2) kk (.str t::.int k::cs) = some (.str (f t k))
def upk (u:U) (k:Int):Int:=match u with | .neg=>k | _=>k+1
def KJ (u:U) (k:Int):upk u k = k+up u:=by cases u<;>simp [upk,up]
def Dk (u:U) (k:Int):k<=upk u k/\upk u k<=k+1:=by cases u<;>simp [upk]<;>lia
def qv {kk:Nat} {cs:List D} {f:Str->Int->Str} {p:Str->Prop} (hm:Lm kk cs f p):∀ (A:F) (n:Nat) (k:Int),hF A+2<=n->0<=k->k+hF A < 1000->okF A->(∀ t∈tms A,p t)->PP.run Gs gls n 4 [enc A,.int k,.fn kk cs] = some (enc (dA f A k))
 | .yes,n+3,k,h,h0,h1,o,hp=>by kernel_rfl
 | .no,n+3,k,h,h0,h1,o,hp=>by kernel_rfl
 | .word w ts,n+3,k,h,h0,h1,o,hp=>by
   have o':ts.length<=1000:=o;apply aZ;unfold enc;refine nW cV rfl rfl rfl rfl ?_;simp only [cV,oP,uU,SI,Nat.reduceAdd,Nat.reduceSub];simp only [JS,aw,aD,↓WS,↓WC,WI,↓reduceIte];refine gJ D.str (λ_=>true) (λt=>.str (f t k)) ts ?_ ?_
   . intro t hF';simp only [SI,↓WS,↓WC,WI,↓reduceIte];refine ⟨trivial,by simp [lfL,lf],?_⟩;rw [aV (hm n t k (hp t hF') h0 (by simp only [hF] at h1;lia))];exact ⟨by simp [lf],rfl,rfl⟩
   . have e:(ts.filter λ_=>true) = ts:=dz.mpr λ_ _=>rfl;rw [e];refine ⟨by rw [ai];exact small o',?_⟩;refine ⟨⇑0,?_⟩;show D.tup [_,_,D.tup (ts.map λt=>D.str (f t k))] = D.tup [.str "word",.str w,.tup ((ts.map λt=>f t k).map .str)];rw [fM]
     rfl
 | .un u a,n+3,k,h,h0,h1,o,hp=>by
   have ih:=qv hm a (n+2) (upk u k) (by simp only [hF] at h;lia) (by have:=Dk u k;lia) (by have:=Dk u k;simp only [hF] at h1;lia) o hp;have wi:PP.run Gs gls (n+2) 0 [enc (.un u a)] = some (.tup [enc a]):=by cases u<;>kernel_rfl
   apply aZ;refine nW cV rfl rfl rfl rfl ?_;simp only [cV,oP,uU,SI,Nat.reduceAdd,Nat.reduceSub];refine bp 3 [.val (enc (.un u a)),.val (.int k),.fnc kk cs,.val (.str u.s),.val (.int (upk u k))] (by cases u<;>kernel_rfl) ?_;simp only [cB,↓aV wi,↓fX,↓fb,SI,mC,Nat.reduceAdd,↓aV ih,↓WS,↓WC,WI,↓reduceIte];refine ⟨⇑0,rfl,⇑0,⇑0,?_⟩;rw [KJ]
   rfl
 | .bi b x y,n+3,k,h,h0,h1,o,hp=>by
   have ih1:=qv hm x (n+2) k (by simp only [hF] at h;lia) ∅ (by simp only [hF] at h1;lia) o.1 λt z=>hp t (bD _ z);have ih2:=qv hm y (n+2) k (by simp only [hF] at h;lia) ∅ (by simp only [hF] at h1;lia) o.2 λt z=>hp t (aM _ z);have wi:PP.run Gs gls (n+2) 0 [enc (.bi b x y)] = some (.tup [enc x,enc y]):=by cases b<;>kernel_rfl
   apply aZ;refine nW cV rfl rfl rfl rfl ?_;simp only [cV,oP,uU,SI,Nat.reduceAdd,Nat.reduceSub];refine bp 3 [.val (enc (.bi b x y)),.val (.int k),.fnc kk cs,.val (.str b.s),.val (.int k)] (by cases b<;>kernel_rfl) ?_;simp only [cB,↓aV wi,↓fX,↓fb,SI,mC,Nat.reduceAdd,↓aV ih1,↓aV ih2,↓WS,↓WC,WI,↓reduceIte]
   exact ⟨⇑0,rfl,rfl,⇑0,⇑0,rfl⟩
 | A,0,k,h,h0,h1,o,hp=>by lia
 | A,1,k,h,h0,h1,o,hp=>by lia
 | A,2,k,h,h0,h1,o,hp=>by cases A<;>simp only [hF] at h<;>lia
def iJ {i:Int} (h0:0<=i) (h1:i < 1000):i.natAbs.log2 < 1920:=by
 have:i.natAbs < 1000:=by lia
 rcases Nat.eq_zero_or_pos i.natAbs with e | e
 . rw [e];decide
 . have:=(BS (k:=10) (Nat.pos_iff_ne_zero.mp e)).mpr ∅
   lia
def bf (nm t:Str) (k:Int):Str:=if (t == nm) = true then toString k else t
def isN (t:Str):Bool:=!(decide (t.length > 0) && t.cps.all dn)
def ur {t:Str} (h:nm t):isN t = true:=by
 obtain ⟨c,r,e,h1,h2⟩:=h
 have hc:dn c = false:=by
  have:∀ c:Nat,c < 123->97<=c->dn c = false:=by decide
  exact this c ∅ h1
 have:t.cps.all dn = false:=by
  rw [<- GF,e];simp [hc]
 unfold isN;rw [this];simp
def pl (j:Int):Str:=toString j
def Bj (m:Nat):∀ c∈(pl (m:Int)).cps.toList,48<=c/\c<=57:=λc hc=>by
 unfold pl at hc;rw [PySem.W.KIN.signs_num] at hc;obtain ⟨ch,hch,e⟩:=bj.mp hc;have r:=PyProof.Rows.digit_range (Nat.isDigit_of_mem_toDigits ⇑0 ⇑0 hch);rw [<- e];exact r
def tW {j:Int} (h0:0<=j) (h1:j < 1000):PySem.intText? (pl j) = some j:=PySem.W.KIN.num_reads h0 ∅
def LA {j:Int} (h0:0<=j) (h1:j < 1000):(pl j).length<=640:=aS (PySem.W.KT.len_num h0 ∅) ⇑0
def ot {j:Int} (h0:0<=j):isN (pl j) = false:=by
 obtain ⟨m,rfl⟩:=wY h0
 have h1:(pl (m:Int)).cps.all dn = true:=by
  rw [<- GF,eF];intro c hc;have:∀ c:Nat,c < 58->48<=c->dn c = true:=by decide
  obtain ⟨a,b⟩:=Bj m c hc;exact this c ∅ a
 have h2:(pl (m:Int)).length > 0:=by
  have:(pl (m:Int)).cps.toList≠[]:=by
   unfold pl;rw [PySem.W.KIN.signs_num];intro e;have h:=PySem.toDigits_len_ge 10 m;rw [List.map_eq_nil_iff.mp e] at h;exact absurd h ⇑0
  rw [<- str_len];exact List.length_pos_iff.mpr this
 unfold isN;rw [h1,decide_eq_true h2];rfl
def OH {t:Str} (h:nm t) {j:Int} (h0:0<=j):(t == pl j) = false:=by
 cases e:(t == pl j) with
 | false=>rfl
 | true =>
   have e':t = pl j:=by simpa using e
   have:=ur h;rw [e',ot h0] at this;cases this
def Pd (t:Str):Prop:=nm t\/∃ j:Int,0<=j/\j < 10/\t = pl j
def pf (new t:Str) (k:Int):Str:=if isN t = false/\PySem.intText? t = some k then new else t
def Jz (n:Nat) (t:Str):PP.run Gs gls (n+1) 1 [.str t] = some (.bl (!isN t)):=by
 apply aZ;refine aL kx rfl rfl rfl ?_;simp only [kx,init,SI,Nat.reduceAdd,Nat.reduceSub];simp only [↓vd,↓WS,↓WC,WI,↓reduceIte];simp [isN]
def OU (new:Str):Lm 49 [.str new] (pf new) Pd:=by
 intro n t k hp h0 h1;apply aZ;refine aL d_lam0 rfl rfl rfl ?_;simp only [d_lam0,init,SI,Nat.reduceAdd,Nat.reduceSub];simp only [↓aV (Jz _ _),↓WS,↓WC,WI,↓reduceIte];unfold pf;rcases hp with h | ⟨j,j0,j1,rfl⟩
 . simp [ur h]
 . have e1:=ot j0;have e2:=tW j0 (show j < 1000 by lia);simp only [e1,Bool.not_false,↓AJ,e2,↓WS,↓WC,WI,↓reduceIte];refine ⟨LA j0 ∅,j,rfl,?_⟩
   (try simp only [↓WS,↓WC,WI,↓reduceIte])
   split
   . rename_i h;rw [if_pos ⟨trivial,by rw [h]⟩]
   . rename_i h;rw [if_neg λz=>h (bI z.2)]
def vD (A:F) (new:Str) (n:Nat) (h:hF A+2<=n) (h1:hF A < 1000) (o:okF A) (hp:∀ t∈tms A,Pd t):PP.run Gs gls (n+1) 5 [enc A,.str new] = some (enc (dA (pf new) A 0)):=by
 have r:=qv (OU new) A n 0 h ⇑0 ∅ o hp;apply aZ;refine aL jH rfl rfl rfl ?_;simp only [jH,init,SI,Nat.reduceAdd,Nat.reduceSub];simp only [flat,eE,cD,↓aV r,qH,↓WS,↓WC,WI,↓reduceIte];exact ⟨trivial,rfl,trivial,trivial⟩
def gk {cx:Cl} {c:E} {a b:Ss} {δ:PP.Loc} {Q:Out->Prop} (h:wT cx c δ λk δ1=>k = true/\δ1 = δ) (q:wSs cx a δ Q):wS cx (.ifs c a b) δ Q:=Kn (δ0:=δ) (λk=>k = true) (let ⟨k,δ1,e,p⟩:=h;⟨k,δ1,e,p.2,p.1⟩) (λ_=>q) λz=>by cases z
def brs (L:Bool) (nm:Str):F->List (List It)
 | .un .neg a=>[[(!L,a)]]
 | .un _ a=>[[(L,dA (pf nm) a 0)]]
 | .bi .and x y=>if L = true then [[(L,x),(L,y)]] else [[(L,x)],[(L,y)]]
 | .bi .or x y=>if L = true then [[(L,x)],[(L,y)]] else [[(L,x),(L,y)]]
 | .bi .imp x y=>if L = true then [[(!L,x)],[(L,y)]] else [[(!L,x),(L,y)]]
 | _=>[]
def nlf:F->Bool
 | .un _ _ | .bi _ _ _=>true
 | _=>false
def brD (l:List (List It)):D:=.lst (l.map λb=>.lst (b.map itD))
def HH (n:Nat) (L:Bool) (nm:Str):∀ (A:F),nlf A = true->hF A+6<=n->hF A < 1000->okF A->(∀ t∈tms A,Pd t)->PP.run Gs gls (n+1) 12 [.str (sd L),enc A,.str nm] = some (brD (brs L nm A))
 | .yes,l,_,_,_,_ | .no,l,_,_,_,_ | .word _ _,l,_,_,_,_=>by cases l
 | .un .neg a,_,h,_,_,_=>by obtain ⟨m,rfl⟩:∃ m,n = m+4:=⟨n - 4,∅⟩;cases L<;>kernel_rfl
 | .bi b x y,_,h,_,_,_=>by obtain ⟨m,rfl⟩:∃ m,n = m+4:=⟨n - 4,∅⟩;cases L<;>cases b<;>kernel_rfl
 | .un .all a,_,h,h1,o,hp=>by
   simp only [hF] at h h1;obtain ⟨m,rfl⟩:∃ m,n = m+1:=⟨n - 1,∅⟩;have r:=vD a nm m ∅ ∅ o hp;apply aZ;refine aL lH rfl rfl rfl ?_;simp only [lH,init,SI,Nat.reduceAdd,Nat.reduceSub];refine bp 2 [.val (.str (sd L)),.val (enc (.un .all a)),.val (.str nm),.val (.str "all"),.no] ⋯ (bR.mpr (gk ⟨true,_,⋯,rfl,rfl⟩ ?_));simp only [enc,↓aV r,aw,aD,↓WS,↓WC,WI,↓reduceIte]
   exact ⟨⇑0,⇑0,⇑0,rfl⟩
 | .un .ex a,_,h,h1,o,hp=>by
   simp only [hF] at h h1;obtain ⟨m,rfl⟩:∃ m,n = m+1:=⟨n - 1,∅⟩;have r:=vD a nm m ∅ ∅ o hp;apply aZ;refine aL lH rfl rfl rfl ?_;simp only [lH,init,SI,Nat.reduceAdd,Nat.reduceSub];refine bp 2 [.val (.str (sd L)),.val (enc (.un .ex a)),.val (.str nm),.val (.str "some"),.no] ⋯ (bR.mpr (gk ⟨true,_,⋯,rfl,rfl⟩ ?_));simp only [enc,↓aV r,aw,aD,↓WS,↓WC,WI,↓reduceIte];exact ⟨⇑0,⇑0,⇑0,rfl⟩
def qf (new t:Str) (k:Int):Str:=if (t == pl k) = true then new else t
def me:∀ (A:F) (n:Nat) (nm:Str) (k:Int),hF A<=n->0<=k->k+hF A < 1000->okF A->PP.run Gs gls n 30 [enc A,.str nm,.int k] = some (enc (dA (qf nm) A k))
 | .yes,n+1,nm,k,h,h0,h1,o=>by kernel_rfl
 | .no,n+1,nm,k,h,h0,h1,o=>by kernel_rfl
 | .word w ts,n+1,nm,k,h,h0,h1,o=>by
   have o':ts.length<=1000:=o;have ss:=s64;apply aZ;refine aL di rfl rfl rfl ?_;simp only [di,init,SI,Nat.reduceAdd,Nat.reduceSub];refine bR.mpr (gk ⟨true,_,⋯,rfl,rfl⟩ ?_);refine bp 1 [.val (enc (.word w ts)),.val (.str nm),.val (.int k),.own [],.no] ⋯ ?_;simp only [cB,enc,aw,aD,↓WS,↓WC,WI,↓reduceIte];refine eZ (g:=D.str) (λrest δ=>∃ (acc:List Str) (s:Sl),δ = [.val (.tup [.str "word",.str w,.tup (ts.map .str)]),.val (.str nm),.val (.int k),.own (acc.map .str),s]/\acc++rest.map (λt=>qf nm t k) = ts.map (λt=>qf nm t k)/\acc.length+rest.length<=1000) ?_ ?_ _ _ ⟨[],_,rfl,rfl,by simpa using o'⟩
   . rintro x rest δ ⟨acc,s,rfl,e,hl⟩;rw [aw] at hl;simp only [↓WS,↓WC,WI,↓reduceIte];rw [aW] at e;have hl2:(acc.map D.str).length < sizeLine:=by rw [ai];lia
     refine ⟨iJ h0 (by simp only [hF] at h1;lia),Bz (λe1=>⟨hl2,acc++[nm],_,by rw [aI];rfl,?_,by rw [ag,aU];lia⟩) λe1=>⟨hl2,acc++[x],_,by rw [aI];rfl,?_,by rw [ag,aU];lia⟩⟩
     . rw [<- e,show qf nm x k = nm from if_pos e1,cz];rfl
     . rw [<- e,show qf nm x k = x from if_neg e1,cz];rfl
   . rintro δ ⟨acc,s,rfl,e,_⟩;simp only [aw,aD,↓WS,↓WC,WI,↓reduceIte];refine ⟨⇑0,?_⟩;rw [kN,aY] at e;rw [e]
     rfl
 | .un .neg a,n+1,nm,k,h,h0,h1,o=>by
   have ih:=me a n nm k (by simp only [hF] at h;lia) h0 (by simp only [hF] at h1;lia) o;apply aZ;refine aL di rfl rfl rfl ?_;simp only [di,init,SI,Nat.reduceAdd,Nat.reduceSub];refine bp 2 [.val (enc (.un .neg a)),.val (.str nm),.val (.int k),.no,.no] ⋯ ?_;simp only [cB,enc,↓nV,↓fb,↓fX,SI,mC,Nat.reduceAdd,↓WS,↓WC,WI,↓reduceIte]
   exact ⟨⇑0,(aV ih).mpr ⟨⇑0,⇑0,by rw [show dA (qf nm) (.un .neg a) k = .un .neg (dA (qf nm) a k) by simp [dA,up]];rfl⟩⟩
 | .un .all a,n+1,nm,k,h,h0,h1,o=>by
   have ih:=me a n nm (k+1) (by simp only [hF] at h;lia) ∅ (by simp only [hF] at h1;lia) o;apply aZ;refine aL di rfl rfl rfl ?_;simp only [di,init,SI,Nat.reduceAdd,Nat.reduceSub];refine bp 1 [.val (enc (.un .all a)),.val (.str nm),.val (.int k),.no,.no] ⋯ (bR.mpr (gk ?_ ?_))
   . exact ⟨true,_,⋯,rfl,rfl⟩
   simp only [enc,aw,aD,↓WS,↓WC,WI,↓reduceIte]
   exact (aV ih).mpr ⟨⇑0,rfl⟩
 | .un .ex a,n+1,nm,k,h,h0,h1,o=>by
   have ih:=me a n nm (k+1) (by simp only [hF] at h;lia) ∅ (by simp only [hF] at h1;lia) o;apply aZ;refine aL di rfl rfl rfl ?_;simp only [di,init,SI,Nat.reduceAdd,Nat.reduceSub];refine bp 1 [.val (enc (.un .ex a)),.val (.str nm),.val (.int k),.no,.no] ⋯ (bR.mpr (gk ?_ ?_))
   . exact ⟨true,_,⋯,rfl,rfl⟩
   simp only [enc,aw,aD,↓WS,↓WC,WI,↓reduceIte]
   exact (aV ih).mpr ⟨⇑0,rfl⟩
 | .bi b x y,n+1,nm,k,h,h0,h1,o=>by
   have ih1:=me x n nm k (by simp only [hF] at h;lia) h0 (by simp only [hF] at h1;lia) o.1;have ih2:=me y n nm k (by simp only [hF] at h;lia) h0 (by simp only [hF] at h1;lia) o.2;apply aZ;refine aL di rfl rfl rfl ?_;simp only [di,init,SI,Nat.reduceAdd,Nat.reduceSub];refine bp 2 [.val (enc (.bi b x y)),.val (.str nm),.val (.int k),.no,.no] (by cases b<;>kernel_rfl) ?_;simp only [cB,enc,↓nV,↓fb,↓fX,SI,mC,Nat.reduceAdd,↓WS,↓WC,WI,↓reduceIte]
   exact ⟨⇑0,(aV ih1).mpr ((aV ih2).mpr ⟨⇑0,⇑0,rfl⟩)⟩
 | A,0,nm,k,h,h0,h1,o=>by cases A<;>simp only [hF] at h<;>lia
def NO (u:U):0<=up u/\up u<=1:=by cases u<;>decide
def kb {f g:Str->Int->Str}:∀ (A:F) (k:Int),(∀ t∈tms A,∀ j:Int,0<=j->j<=k+hF A->f t j = g t j)->0<=k->dA f A k = dA g A k
 | .yes,_,_,_ | .no,_,_,_=>rfl
 | .word w ts,k,h,h0=>by
   have h:∀ t∈ts,∀ j:Int,0<=j->j<=k+1->f t j = g t j:=h;simp only [dA]
   rw [mG λt hF=>h t hF k h0 ∅]
 | .un u a,k,h,h0=>by
   have:=NO u
   simp only [dA,kb a (k+up u) (λt hF' j j0 j1=>h t hF' j j0 (by simp only [hF];lia)) ∅]
 | .bi b x y,k,h,h0=>by
   simp only [dA,kb x k (λt hF' j j0 j1=>h t (bD _ hF') j j0 (by simp only [hF];lia)) h0,kb y k (λt hF' j j0 j1=>h t (aM _ hF') j j0 (by simp only [hF];lia)) h0]
def Ot {new t:Str} (h:Pd t) {k:Int} (k0:0<=k) (k1:k < 1000):qf new t k = pf new t k:=by
 unfold qf pf;rcases h with h | ⟨j,j0,j1,rfl⟩
 . have e1:(t == pl k) = false:=OH h k0;have e2:isN t = true:=ur h;simp [e1,e2]
 . have e1:=ot j0;have e2:=tW j0 (show j < 1000 by lia);by_cases e:j = k
   . subst e;simp [e1,e2]
   . have e3:(pl j == pl k) = false:=by
      cases z:(pl j == pl k) with
      | false=>rfl
      | true =>
        have z:pl j = pl k:=eq_of_beq z;have:=tW k0 k1;rw [<- z,e2] at this;exact absurd (bI this) e
     simp [e1,e2,e3,e]
def vF {A:F} {new:Str} (h:∀ t∈tms A,Pd t) (hd:hF A < 900):dA (qf new) A 0 = dA (pf new) A 0 :=
 kb A 0 (λt hF j j0 j1=>Ot (h t hF) j0 ∅) ⇑0
def DZ (n:Nat) (L:Bool) (nm:Str):∀ (A:F),nlf A = true->hF A+6<=n->hF A < 900->okF A->(∀ t∈tms A,Pd t)->PP.run Gs gls (n+1) 32 [.str (sd L),enc A,.str nm] = some (brD (brs L nm A))
 | .yes,l,_,_,_,_ | .no,l,_,_,_,_ | .word _ _,l,_,_,_,_=>by cases l
 | .un .neg a,_,h,_,_,_=>by obtain ⟨m,rfl⟩:∃ m,n = m+4:=⟨n - 4,∅⟩;cases L<;>kernel_rfl
 | .bi b x y,_,h,_,_,_=>by obtain ⟨m,rfl⟩:∃ m,n = m+4:=⟨n - 4,∅⟩;cases L<;>cases b<;>kernel_rfl
 | .un .all a,_,h,h1,o,hp=>by
   simp only [hF] at h h1;have r:=me a n nm 0 ∅ ⇑0 ∅ o;rw [vF (A:=a) hp ∅] at r;apply aZ;refine aL fA rfl rfl rfl ?_;simp only [fA,init,SI,Nat.reduceAdd,Nat.reduceSub];refine bp 2 [.val (.str (sd L)),.val (enc (.un .all a)),.val (.str nm),.val (.str (sd (!L))),.no] (by cases L<;>kernel_rfl) (bR.mpr (gk ⟨true,_,⋯,rfl,rfl⟩ ?_));simp only [enc,↓aV r,aw,aD,↓WS,↓WC,WI,↓reduceIte]
   exact ⟨⇑0,⇑0,⇑0,rfl⟩
 | .un .ex a,_,h,h1,o,hp=>by
   simp only [hF] at h h1;have r:=me a n nm 0 ∅ ⇑0 ∅ o;rw [vF (A:=a) hp ∅] at r;apply aZ;refine aL fA rfl rfl rfl ?_;simp only [fA,init,SI,Nat.reduceAdd,Nat.reduceSub];refine bp 2 [.val (.str (sd L)),.val (enc (.un .ex a)),.val (.str nm),.val (.str (sd (!L))),.no] (by cases L<;>kernel_rfl) (bR.mpr (gk ⟨true,_,⋯,rfl,rfl⟩ ?_));simp only [enc,↓aV r,aw,aD,↓WS,↓WC,WI,↓reduceIte];exact ⟨⇑0,⇑0,⇑0,rfl⟩
def wrd (p:Str × List Str):D:=.tup [.str "word",.str p.1,.tup (p.2.map .str)]
def wds:F->List (Str × List Str)
 | .word w ts=>[(w,ts)]
 | .un _ a=>wds a
 | .bi _ x y=>wds x++wds y
 | _=>[]
def GQ (A:F):(wds A).flatMap (·.2) = tms A:=by
 induction A with
 | un u a ih=>exact ih
 | bi b x y i1 i2=>simp [wds,tms,i1,i2]
 | _=>simp [wds,tms]
def sW (A:F):(wds A).length<=sz A:=by
 induction A with
 | un u a ih=>simp only [wds,sz];lia
 | bi b x y i1 i2=>simp only [wds,sz,ag];lia
 | _=>simp [wds,sz]
def HG:∀ (A:F) (n:Nat),hF A+1<=n->sz A<=61->PP.run Gs gls n 2 [enc A] = some (.lst ((wds A).map wrd))
 | .yes,n+2,h,_=>by kernel_rfl
 | .no,n+2,h,_=>by kernel_rfl
 | .word w ts,n+2,h,_=>by kernel_rfl
 | .un u a,n+2,h,hs=>by
   simp only [hF] at h;simp only [sz] at hs;have ih:=HG a (n+1) ∅ ∅;have hl:=sW a;have ss:=s64;apply aZ;have wi:PP.run Gs gls (n+1) 0 [enc (.un u a)] = some (.tup [enc a]):=by cases u<;>kernel_rfl
   refine aL dY rfl rfl rfl ?_;simp only [dY,init,SI,Nat.reduceAdd,Nat.reduceSub];refine bp 2 [.val (enc (.un u a)),.own [],.no] (by cases u<;>kernel_rfl) ?_;simp only [cB,↓aV wi,↓iI,↓jw,↓aV ih,ai,aD,cD,↓WS,↓WC,WI,↓reduceIte]
   exact ⟨∅,rfl⟩
 | .bi b x y,n+2,h,hs=>by
   simp only [hF] at h;simp only [sz] at hs;have ih1:=HG x (n+1) ∅ ∅;have ih2:=HG y (n+1) ∅ ∅;have hl1:=sW x;have hl2:=sW y;have ss:=s64;apply aZ;have wi:PP.run Gs gls (n+1) 0 [enc (.bi b x y)] = some (.tup [enc x,enc y]):=by cases b<;>kernel_rfl
   refine aL dY rfl rfl rfl ?_;simp only [dY,init,SI,Nat.reduceAdd,Nat.reduceSub];refine bp 2 [.val (enc (.bi b x y)),.own [],.no] (by cases b<;>kernel_rfl) ?_;simp only [cB,↓aV wi,↓iI,↓jw,↓aV ih1,↓aV ih2,ai,aD,cD,↓WS,↓WC,WI,↓reduceIte]
   exact ⟨∅,∅,by simp only [wds,aI]⟩
 | A,0,h,_=>by lia
 | A,1,h,_=>by cases A<;>simp only [hF] at h<;>lia
def cG (A:F):List Str:=(tms A).filter isN
def BF (A:F):((wds A).flatMap λp=>(p.2.filter isN).map D.str) = (cG A).map D.str:=by
 unfold cG;rw [<- GQ]
 induction wds A with
 | nil=>rfl
 | cons p l ih=>simp [bO,ih,Ci]
def okN (nms:List Str) (A:F):Prop:=sz A<=61/\hF A<=10/\(∀ t∈cG A,t∈nms)/\(tms A).length<=30
def Od {nms:List Str} (hm:nms.length<=40) (n:Nat) (A:F) (hA:okN nms A) (h:hF A+1<=n):PP.run Gs gls (n+1) 3 [enc A] = some (.lst ((sdT (cG A)).map .str)):=by
 obtain ⟨hs,h2,hd,h6⟩:=hA;have hl:(cG A).length<=30:=aS (bX _ _) h6;have e:=HG A n h hs;apply aZ;refine aL kr rfl rfl rfl ?_;simp only [kr,init,SI,Nat.reduceAdd,Nat.reduceSub];obtain ⟨n',rfl⟩:∃ n',n = n'+1:=⟨n - 1,∅⟩;simp only [↓tj,↓aV e,↓WS,↓WC,WI,↓reduceIte];refine mK wrd (λp=>(p.2.filter isN).map D.str) _ ?_ ?_
 . intro p _;unfold wrd;simp only [SI,↓WS,↓WC,WI,↓reduceIte];refine mL D.str isN D.str (λδ=>∃ s:Sl,δ = [.val (enc A),.val (.tup [.str "word",.str p.1,.tup (p.2.map .str)]),s]) _ _ ?_ ⟨_,rfl⟩ ?_
   . rintro t _ δ ⟨s,rfl⟩;simp only [↓aV (Jz _ t),Bool.not_not,↓WS,↓WC,WI,↓reduceIte];refine ⟨trivial,?_⟩;split
     . exact ⟨trivial,_,rfl⟩
     . exact ⟨_,rfl⟩
   . rintro δ ⟨s,rfl⟩;exact ⟨rfl,rfl⟩
 . rw [BF];have:=gb hd;refine ⟨_,strs_map _,⟨∅,∅⟩,?_⟩;rw [xH]
def kI (r:List It):List Str:=r.flatMap λp=>sdT (cG p.2)
def vN {r:List It} {x:Str}:x∈kI r↔∃ p∈r,x∈cG p.2:=by
 unfold kI;rw [cZ];exact ⟨λ⟨p,hp,h⟩=>⟨p,hp,jg.mp h⟩,λ⟨p,hp,h⟩=>⟨p,hp,jg.mpr h⟩⟩
def Qh {nms:List Str} (hm:nms.length<=40) (n:Nat) (hn10:13<=n) (r:List It) (hr:r.length<=63) (hA:∀ p∈r,okN nms p.2):PP.run Gs gls (n+1) 9 [.tup (r.map itD)] = some (.lst ((sdT (kI r)).map .str)):=by
 apply aZ
 have hd:∀ x∈kI r,x∈nms:=λx hx=>by
  obtain ⟨p,hp,hx⟩:=vN.mp hx;exact (hA p hp).2.2.1 x hx
 have hl:(kI r).length<=40 * r.length:=by
  have:∀ l:List It,(∀ p∈l,(sdT (cG p.2)).length<=40)->(l.flatMap λp=>sdT (cG p.2)).length<=40 * l.length:=λl=>by
   induction l with
   | nil=>intro _;simp
   | cons p l ih =>
     intro h;have h1:=h p ar;have h2:=ih λq hq=>h q (ao _ hq);simp only [bO,ag,aw]
     lia
  refine this r λp hp=>?_;rw [mP];have:=gb (hA p hp).2.2.1
  lia
 refine aL ku rfl rfl rfl ?_;simp only [ku,init,SI,Nat.reduceAdd,Nat.reduceSub];obtain ⟨n',rfl⟩:∃ n',n = n'+1:=⟨n - 1,∅⟩;simp only [↓tj,↓WS,↓WC,WI,↓reduceIte];refine mK itD (λp=>(sdT (cG p.2)).map D.str) _ ?_ ?_
 . intro p hp;unfold itD;have e:=Od hm n' p.2 (hA p hp) (by have:=(hA p hp).2.1;lia);simp only [SI,↓aV e,↓WS,↓WC,WI,↓reduceIte];refine mL D.str (λ_=>true) D.str (λδ=>∃ s:Sl,δ = [.val (.tup (r.map λp=>.tup [.str (sd p.1),enc p.2])),.val (.str (sd p.1)),.val (enc p.2),s]) _ _ ?_ ⟨_,rfl⟩ ?_
   . rintro t _ δ ⟨s,rfl⟩;simp only [↓WS,↓WC,WI,↓reduceIte];exact ⟨trivial,trivial,_,rfl⟩
   . rintro δ ⟨s,rfl⟩;refine ⟨?_,rfl⟩;rw [dz.mpr λ_ _=>rfl]
 . have em:(r.flatMap λp=>(sdT (cG p.2)).map D.str) = (kI r).map D.str:=by
    unfold kI;rw [GI]
   rw [em];have:=gb hd;refine ⟨_,strs_map _,⟨∅,∅⟩,?_⟩;rw [xH]
def dig:Str:="0123456789"
def Ms {t:Str} (h:nm t):ue dig t = false:=by
 cases e:ue dig t with
 | false=>rfl
 | true =>
   obtain ⟨i,h1,h2⟩:=(PySem.StrLaws.found_iff dig t).mp e;obtain ⟨c,r,ec,h3,h4⟩:=h;unfold uV at h2;have h2':=eq_of_beq h2;have h5:(dig.cps.extract i (i+t.length)).toList = c::r:=by rw [h2',ec]
   have hm:c∈dig.cps.toList:=by
    have:c∈(dig.cps.extract i (i+t.length)).toList:=by rw [h5];exact ar
    rw [Array.toList_extract] at this;exact Ak (Aj (by simpa [List.extract] using this))
   have hd:∀ c∈dig.cps.toList,c < 97:=by decide
   have:=hd c hm
   lia
def Mr {j:Int} (h0:0<=j) (h1:j < 10):ue dig (pl j) = true:=by
 obtain ⟨m,rfl⟩:=wY h0;have:∀ j:Fin 10,decide ((pl ((j.val:Nat):Int)).length<=dig.length - j.val) = true/\uV dig (pl ((j.val:Nat):Int)) j.val = true:=by decide
 obtain ⟨a,b⟩:=this ⟨m,∅⟩;unfold ue;refine (PySem.StrLaws.found_iff dig _).mpr ⟨m,?_,b⟩;have a:=of_decide_eq_true a;have hd:dig.length = 10:=by decide
 rw [hd] at a |-;have hm:m < 10:=by lia
 dsimp only at a
 lia
def OG {t:Str} (h:Pd t):(!ue dig t) = isN t:=by
 rcases h with h | ⟨j,j0,j1,rfl⟩
 . rw [Ms h,ur h];rfl
 . rw [Mr j0 j1,ot j0];rfl
def ve {a b:Str} {Q:Bool->Prop}:nX .notin (.str a) (.str b) Q↔Q (!ue b a):=by
 unfold nX;exact ⟨λ⟨_,e,q⟩=>by cases e;exact q,λq=>⟨_,rfl,q⟩⟩
def kP:∀ (A:F) (n:Nat),hF A<=n->(∀ t∈tms A,Pd t)->(tms A).length<=30->PP.run Gs gls n 31 [enc A] = some (.lst ((cG A).map .str))
 | .yes,n+1,h,_,_=>by kernel_rfl
 | .no,n+1,h,_,_=>by kernel_rfl
 | .word w ts,n+1,h,hp,hl=>by
   have hl:ts.length<=30:=hl;apply aZ;refine aL dO rfl rfl rfl ?_;simp only [dO,init,SI,Nat.reduceAdd,Nat.reduceSub];simp only [enc,JS,↓WS,↓WC,WI,↓reduceIte];refine gJ D.str isN D.str ts ?_ ?_
   . intro t ht;have:=OG (hp t ht);unfold dig at this;simp only [SI,↓ve,↓WS,↓WC,WI,↓reduceIte];refine ⟨this,?_⟩;split
     . exact ⟨trivial,rfl⟩
     . rfl
   . refine ⟨?_,rfl⟩;rw [ai]
     exact small (aS (bX _ _) ∅)
 | .un u a,n+1,h,hp,hl=>by
   have ih:=kP a n (by simp only [hF] at h;lia) hp hl;have h30:(cG a).length<=30:=aS (bX _ _) hl;have ss:=s64;apply aZ;refine aL dO rfl rfl rfl ?_;simp only [dO,init,SI,Nat.reduceAdd,Nat.reduceSub];refine bp 2 [.val (enc (.un u a)),.val (.lst []),.no] (by cases u<;>kernel_rfl) ?_;simp only [cB,enc,↓nV,↓iI,↓jw,↓aV ih,ai,aD,cD,↓WS,↓WC,WI,↓reduceIte]
   exact ⟨∅,rfl⟩
 | .bi b x y,n+1,h,hp,hl=>by
   have hl:(tms x++tms y).length<=30:=hl;rw [ag] at hl;have ih1:=kP x n (by simp only [hF] at h;lia) (λt z=>hp t (bD _ z)) ∅;have ih2:=kP y n (by simp only [hF] at h;lia) (λt z=>hp t (aM _ z)) ∅;have h1:(cG x).length<=(tms x).length:=bX _ _;have h2:(cG y).length<=(tms y).length:=bX _ _;have ss:=s64;apply aZ;refine aL dO rfl rfl rfl ?_;simp only [dO,init,SI,Nat.reduceAdd,Nat.reduceSub];refine bp 2 [.val (enc (.bi b x y)),.val (.lst []),.no] (by cases b<;>kernel_rfl) ?_;simp only [cB,enc,↓nV,↓iI,↓jw,↓aV ih1,↓aV ih2,ai,aD,cD,↓WS,↓WC,WI,↓reduceIte]
   exact ⟨∅,∅,by simp only [cG,tms,Ci,aI]⟩
 | A,0,h,_,_=>by cases A<;>simp only [hF] at h<;>lia
def bnd:F->Bool
 | .un .neg _=>false
 | .un _ _=>true
 | _=>false
def own (L:Bool):F->Bool
 | .un .all _=>!L
 | .un .ex _=>L
 | _=>false
def Ob (n:Nat) (L:Bool) (A:F):PP.run Gs gls (n+1) 13 [.str (sd L),enc A] = some (.bl (own L A)):=by
 cases A with
 | un u a=>cases u<;>cases L<;>kernel_rfl
 | bi b x y=>cases b<;>cases L<;>kernel_rfl
 | _=>cases L<;>kernel_rfl
def Pq (L:Bool) (A:F) (nm:Str) (ks:List D):D:=.tup [.str "rule",.str (sd L),enc A,.str nm,.tup ks]
def Du (xs:List Str) (nm:Str):((xs.map D.str).any λy=>eqD y (.str nm)) = decide (nm∈xs):=by
 induction xs with
 | nil=>rfl
 | cons x xs ih =>
   rw [aW,nM,ih];have e:eqD (.str x) (.str nm) = decide (x = nm):=by unfold eqD;by_cases h:x = nm<;>simp [h]
   rw [e];by_cases h:x = nm
   . simp [h]
   . simp [h,Ne.symm h,az,show ¬ nm = x from λz=>h z.symm]
def lB (f:Str->Int->Str):∀ (A:F) (k:Int),sz (dA f A k) = sz A
 | .yes,_ | .no,_ | .word _ _,_=>rfl
 | .un u a,k=>by simp only [dA,sz,lB f a]
 | .bi b x y,k=>by simp only [dA,sz,lB f x,lB f y]
def sbs:F->List F
 | .un _ a=>[a]
 | .bi _ x y=>[x,y]
 | _=>[]
def yM {A a:F} (h:a∈sbs A):hF a<=hF A/\sz a<=sz A/\(tms a).length<=(tms A).length/\∀ t∈tms a,t∈tms A:=by
 cases A with
 | un u b =>
   obtain rfl:=aK.mp h
   exact ⟨gC _,gC _,ax _,λ_ z=>z⟩
 | bi c x y =>
   simp only [sbs,az,bc,or_false] at h;simp only [hF,sz,tms,ag,aA];rcases h with rfl | rfl
   . exact ⟨∅,∅,∅,λ_ z=>.inl z⟩
   . exact ⟨∅,∅,∅,λ_ z=>.inr z⟩
 | _=>cases h
def zZ (L:Bool) (nm:Str) (A:F):∀ b∈brs L nm A,0 < b.length/\b.length<=2/\∀ p∈b,∃ a∈sbs A,p.2 = a\/(bnd A = true/\p.2 = dA (pf nm) a 0):=by
 cases A with
 | un u a=>cases u<;>simp [brs,sbs,bnd]
 | bi c x y=>cases c<;>cases L<;>simp [brs,sbs,bnd]
 | _=>simp [brs]
def zY (L:Bool) (nm:Str) (A:F):(brs L nm A).length<=2:=by
 cases A with
 | un u a=>cases u<;>simp [brs]
 | bi c x y=>cases c<;>cases L<;>simp [brs]
 | _=>simp [brs]
section
variable {L:Bool} {nm:Str} {A:F} {ks:List D} (hs:sz A<=61) (hF9:hF A<=10) (o:okF A) (hp:∀ t∈tms A,Pd t) (nl:nlf A = true)
include hs hF9 o hp nl
theorem HM (n:Nat) (hn:20<=n):PP.run Gs gls (n+1) 16 [Pq L A nm ks] = some (brD (brs L nm A)):=by
 obtain ⟨m,rfl⟩:∃ m,n = m+1:=⟨n - 1,∅⟩;have w:=HH m L nm A nl ∅ ∅ o hp;apply aZ;refine aL gZ rfl rfl rfl ?_;simp only [gZ,init,SI,Nat.reduceAdd,Nat.reduceSub];unfold Pq;refine bR.mpr (gk ?_ ?_)
 . simp only [↓WS,↓WC,WI,↓reduceIte];exact ⟨⇑0,trivial⟩
 . simp only [↓WS,↓WC,WI,↓reduceIte];exact ⟨.str nm,⋯,(aV w).mpr rfl⟩
end
def yW (n:Nat) (hn:4<=n) (row:List It) (X:D) (l:List (List It)) (w:PP.run Gs gls n 16 [X] = some (brD l)) (bl:l.length<=2) (hb:∀ b∈l,b.length<=2/\low b) (hl:low row) (hr:row.length<=60):PP.run Gs gls (n+1) 17 [.tup (row.map itD),X] = some (.lst (l.map λb=>.tup ((mo (row++b)).map itD))):=by
 obtain ⟨m,rfl⟩:∃ m,n = m+2:=⟨n - 2,∅⟩;have ss:=s64;apply aZ;refine aL iE rfl rfl rfl ?_;simp only [iE,init,SI,Nat.reduceAdd,Nat.reduceSub];simp only [↓aV w,brD,↓WS,↓WC,WI,↓reduceIte];refine gJ (λb:List It=>D.lst (b.map itD)) (λ_=>true) (λb=>.tup ((mo (row++b)).map itD)) l (λb hb'=>?_) ⟨?_,?_⟩
 . obtain ⟨b1,b2⟩:=hb b hb';have w2:=Ll m row b _ (.inl rfl) (hl.app b2) ∅;simp only [SI,↓aV w2,↓WS,↓WC,WI,↓reduceIte];exact ⟨trivial,trivial,rfl⟩
 . rw [ai,dz.mpr λ_ _=>rfl];lia
 . rw [dz.mpr λ_ _=>rfl]
mutual
inductive T where
 | close | rule (L:Bool) (A:F) (nm:Str) (ks:Ts) | cut (A:F) (a b:T)
inductive Ts where
 | nil | cons (t:T) (r:Ts)
end
mutual
noncomputable def eT:T->D
 | .close=>.tup [.str "close"]
 | .rule L A nm ks=>.tup [.str "rule",.str (sd L),enc A,.str nm,.tup (eTs ks)]
 | .cut A a b=>.tup [.str "cut",enc A,.tup [eT a,eT b]]
noncomputable def eTs:Ts->List D
 | .nil=>[]
 | .cons t r=>eT t::eTs r
end
mutual
noncomputable def ht:T->Nat
 | .close=>1
 | .rule _ _ _ ks=>hts ks+1
 | .cut _ a b=>max (ht a) (ht b)+1
noncomputable def hts:Ts->Nat
 | .nil=>0
 | .cons t r=>max (ht t) (hts r)
end
def tln:Ts->Nat
 | .nil=>0
 | .cons _ r=>tln r+1
def zO:∀ ks:Ts,(eTs ks).length = tln ks
 | .nil=>rfl
 | .cons _ r=>by show (eTs r).length+1 = _;rw [zO r];rfl
def Go (xs:List Str) (A:F):Prop:=hF A<=10/\sz A<=61/\(tms A).length<=30/\∀ t∈tms A,t∈xs\/∃ j:Int,0<=j/\j < 10/\t = pl j
mutual
noncomputable def okT (xs:List Str):T->Prop
 | .close=>True
 | .rule _ A w ks=>(Go xs A/\nlf A = true)/\(w = ""\/w∈xs)/\mZ xs ks
 | .cut A a b=>Go xs A/\okT xs a/\okT xs b
noncomputable def mZ (xs:List Str):Ts->Prop
 | .nil=>True
 | .cons t r=>okT xs t/\mZ xs r
end
mutual
theorem sG {xs:List Str}:∀ t:T,okT xs t->dep (eT t)<=2 * ht t+64
 | .close,_=>by rw [show dep (eT .close) = 1 by decide];lia
 | .rule L A w ks,h=>by
   have h1:=jk A;have h2:=h.1.1.2.1;have h3:=FN ks h.2.2;have e:dep (D.tup (eTs ks)) = dh (eTs ks)+1:=by unfold dep;rfl
   simp only [eT,ht,dep,dh,kq]
   lia
 | .cut A a b,h=>by
   have h1:=jk A;have h2:=h.1.2.1;have h3:=sG a h.2.1;have h4:=sG b h.2.2;simp only [eT,ht,dep,dh,kq]
   lia
theorem FN {xs:List Str}:∀ ks:Ts,mZ xs ks->dh (eTs ks)<=2 * hts ks+64
 | .nil,_=>by simp [eTs,dh]
 | .cons t r,h=>by
   have h1:=sG t h.1;have h2:=FN r h.2;simp only [eTs,hts,dh]
   lia
end
def pM (as:List D):dep (.tup as) = dh as+1:=by unfold dep;rfl
def uy {as bs:List D} (h:min (dh as) (dh bs)<=149) (h2:max (dh as) (dh bs) < 99999) {Q:Bool->Prop} (k:Q (eqD (.tup as) (.tup bs))):nX .eq (.tup as) (.tup bs) Q:=by
 refine ⟨_,?_,k⟩;have e1:=pM as;have e2:=pM bs
 have hd:gy (.tup as) (.tup bs) = true:=by
  unfold gy;rw [show kin (.tup as) (.tup bs) = true from rfl,e1,e2,jQ,aa,decide_eq_true_eq,decide_eq_true_eq]
  lia
 show (if gy (.tup as) (.tup bs) = true then some (eqD (.tup as) (.tup bs)) else _) = _;rw [if_pos hd]
def NN {c:Nat->List D->Option D} {f:Nat->Bool} {δ:PP.Loc} {Q:D->PP.Loc->Prop}:wE ⟨c,gls,f⟩ (.glob 4) δ Q↔Q (.tup [.str "close"]) δ:=Hb.trans ⟨λ⟨d,e,q⟩=>by cases e;exact q,λq=>⟨_,rfl,q⟩⟩
def isC:T->Bool
 | .close=>true
 | _=>false
def eqC {xs:List Str} {t:T} (h:okT xs t) (hh:ht t<=1000) {Q:Bool->Prop} (k:Q (isC t)):nX .eq (eT t) (.tup [.str "close"]) Q:=by
 have hd:=sG t h;have e2:dh [D.str "close"] = 0:=by decide
 cases t with
 | close=>exact uy ⇑0 ⇑0 (by rw [show eqD (D.tup [.str "close"]) (.tup [.str "close"]) = true by decide];exact k)
 | rule L A w ks =>
   have e1:=pM [.str "rule",.str (sd L),enc A,.str w,.tup (eTs ks)];have hd:dep (D.tup [.str "rule",.str (sd L),enc A,.str w,.tup (eTs ks)])<=_:=hd;refine uy (by rw [e2];lia) (by rw [e2];lia) ?_;rw [show eqD (D.tup [.str "rule",.str (sd L),enc A,.str w,.tup (eTs ks)]) (.tup [.str "close"]) = false by kernel_rfl]
   exact k
 | cut A a b =>
   have e1:=pM [.str "cut",enc A,.tup [eT a,eT b]];have hd:dep (D.tup [.str "cut",enc A,.tup [eT a,eT b]])<=_:=hd;refine uy (by rw [e2];lia) (by rw [e2];lia) ?_;rw [show eqD (D.tup [.str "cut",enc A,.tup [eT a,eT b]]) (.tup [.str "close"]) = false by kernel_rfl];exact k
def kT:T->List D
 | .close=>[]
 | .rule _ _ _ ks=>eTs ks
 | .cut _ a b=>[eT a,eT b]
def tU (n:Nat) {xs:List Str} (t:T) (h:okT xs t) (hh:ht t<=1000):PP.run Gs gls (n+1) 14 [eT t] = some (.tup (kT t)):=by
 apply aZ;refine aL lI rfl rfl rfl ?_;simp only [lI,init,SI,Nat.reduceAdd,Nat.reduceSub];simp only [↓NN,↓WS,↓WC,WI,↓reduceIte];refine eqC h hh ?_
 cases t with
 | close=>simp only [isC,↓WS,↓WC,WI,↓reduceIte];exact ⟨⇑0,rfl⟩
 | rule L A w ks=>simp only [isC,↓WS,↓WC,WI,↓reduceIte];exact ⟨.tup (eTs ks),⋯,rfl⟩
 | cut A a b=>simp only [isC,↓WS,↓WC,WI,↓reduceIte];exact ⟨.tup [eT a,eT b],⋯,rfl⟩
def kR:∀ {A:F},(tms A).length<=1000->okF A
 | .yes,_ | .no,_=>trivial
 | .word _ _,h=>h
 | .un _ a,h=>kR (A:=a) h
 | .bi _ x y,h=>by
   have h:(tms x++tms y).length<=1000:=h;rw [ag] at h;exact ⟨kR ∅,kR ∅⟩
def hZ (f:Str->Int->Str):∀ (A:F) (k:Int),(tms (dA f A k)).length = (tms A).length/\∀ t∈tms (dA f A k),∃ s∈tms A,∃ j,t = f s j
 | .yes,_ | .no,_=>⟨rfl,λt h=>by cases h⟩
 | .word w ts,k=>⟨by simp [dA,tms],λt h=>by
   obtain ⟨s,hs,rfl⟩:=bj.mp h
   exact ⟨s,hs,k,rfl⟩⟩
 | .un u a,k=>hZ f a (k+up u)
 | .bi b x y,k=>by
   obtain ⟨a1,a2⟩:=hZ f x k;obtain ⟨b1,b2⟩:=hZ f y k;refine ⟨by simp only [dA,tms,ag,a1,b1],λt h=>?_⟩;rcases aA.mp h with h | h
   . obtain ⟨s,hs,e⟩:=a2 t h;exact ⟨s,bD _ hs,e⟩
   . obtain ⟨s,hs,e⟩:=b2 t h;exact ⟨s,aM _ hs,e⟩
def Gf {xs:List Str} {L:Bool} {w:Str} {A:F} (hw:w∈xs\/bnd A = false) (h:Go xs A) (b:List It) (hb:b∈brs L w A):b.length<=2/\∀ p∈b,Go xs p.2:=by
 obtain ⟨_,h2,h3⟩:=zZ L w A b hb;refine ⟨h2,λp hp=>?_⟩;obtain ⟨a,ha,e⟩:=h3 p hp;obtain ⟨k1,k2,k3,k4⟩:=yM ha;have ha:Go xs a:=⟨aS k1 h.1,aS k2 h.2.1,aS k3 h.2.2.1,λt ht=>h.2.2.2 t (k4 t ht)⟩;rcases e with e | ⟨hb,e⟩
 . rw [e];exact ha
 . obtain ⟨q1,q2⟩:=hZ (pf w) a 0;obtain ⟨a1,a2,a3,a4⟩:=ha;rw [e];refine ⟨by rw [lC];exact a1,by rw [lB];exact a2,by rw [q1];exact a3,λt ht=>?_⟩;obtain ⟨s,hs,j,rfl⟩:=q2 t ht;unfold pf;split
   . rcases hw with hw | hw
     . exact .inl hw
     . rw [hw] at hb;cases hb
   . exact a4 s hs
section
variable {xs:List Str} (hx:∀ t∈xs,nm t)
include hx
theorem Go.pd {A:F} (h:Go xs A):∀ t∈tms A,Pd t:=λt ht=>(h.2.2.2 t ht).imp (hx t) id
theorem Go.okN {A:F} (h:Go xs A):okN xs A:=by
 refine ⟨h.2.1,h.1,λt ht=>?_,h.2.2.1⟩;unfold cG at ht;obtain ⟨h1,h2⟩:=bV.mp ht;rcases h.2.2.2 t h1 with z | ⟨j,j0,_,rfl⟩
 . exact z
 . rw [ot j0] at h2;cases h2
end
def NY:Option Out->Option D
 | some (.rt d _)=>some d
 | _=>none
def gH {cx:Cl} {ss:Ss} {δ:PP.Loc} {d:D} {Q:D->Prop} (h:NY (dG cx ss δ) = some d) (q:Q d):wSs cx ss δ (retS Q):=by
 generalize e:dG cx ss δ = o at h
 match o,h with
 | some (.rt _ _),h=>cases h;exact ⟨_,e,q⟩
def nS (k:Nat):Str:="n"++(toString (k:Int):Str)
def EY:∀ k:Nat,k < 100->(toString (k:Int):Str).length<=2:=by decide
def uu {ts:List Str} {o:Str}:kX .isin (.str o) (.lst (ts.map .str)) = some (decide (o∈ts)):=by
 simp only [kX,inD,kq,cT,ni,Du];exact if_pos ⟨trivial,⇑0⟩
def JJ:("n":Str).length = 1:=by decide
def Fr (ms:List Str) (m:Nat):Prop:=nS m∉ms/\∀ j < m,nS j∈ms
def Fr.uni {ms ns:List Str} {m n:Nat} (h:Fr ms m) (g:Fr ns n) (e:∀ x,x∈ms↔x∈ns):m = n:=by
 rcases Nat.lt_trichotomy m n with z | z | z
 . exact absurd ((e _).mpr (g.2 m z)) h.1
 . exact z
 . exact absurd ((e _).mp (h.2 n z)) g.1
section
variable (n:Nat) (ms:List Str) (K:Nat) (hK:K < 90) (ho:nS K∉ms)
include hK ho
theorem vE {g:E} (hg:∀ i:Nat,i < 100->evE ⟨PP.run Gs gls n,gls,hfs Gs⟩ g [.val (.lst (ms.map .str)),.val (.int i)] = some (.str (nS i),[.val (.lst (ms.map .str)),.val (.int i)])) (Q:Out->Prop) (q:∀ m:Nat,m<=K->Fr ms m->Q (.nx [.val (.lst (ms.map .str)),.val (.int m)])):∀ (f i:Nat),K+1<=f+i->i<=K->(∀ j < i,nS j∈ms) ->
 qa ⟨PP.run Gs gls n,gls,hfs Gs⟩ (.cmp .isin g (.var 0)) (.cons (.aug 1 .add (.int 1)) .nil) f [.val (.lst (ms.map .str)),.val (.int i)] Q:=by
 intro f
 induction f with
 | zero =>
   intro i h hi hj
   lia
 | succ f ih =>
   intro i h hi hj;rw [uY];refine ⟨decide (nS i∈ms),_,gq (hg i ∅) ⋯ uu,?_⟩;simp only [↓WS,↓WC,WI,↓reduceIte];refine Bz (λhin=>?_) λh=>q i hi ⟨h,hj⟩;have:i≠K:=λe=>ho (e▸hin);exact ih (i+1) ∅ ∅ λj hj'=>(Nat.lt_succ_iff_lt_or_eq.mp hj').elim (hj j) λe=>e▸hin
theorem HJ:fw Gs gls (n+1) 22 [.lst (ms.map .str)] λd=>∃ m:Nat,d = .str (nS m)/\m<=K/\Fr ms m:=by
 have ss:=s64
 have hg:∀ i:Nat,i < 100->evE ⟨PP.run Gs gls n,gls,hfs Gs⟩ (.fstr "n" (.var 1)) [.val (.lst (ms.map .str)),.val (.int i)] = some (.str (nS i),[.val (.lst (ms.map .str)),.val (.int i)]):=λi hi=>by
  have:=EY i hi;exact if_pos ⟨iJ ∅ ∅,by rw [JJ];lia⟩
 refine aL pN rfl rfl rfl ?_;simp only [pN,init,SI,Nat.reduceAdd,Nat.reduceSub];simp only [↓WS,↓WC,WI,↓reduceIte];exact vE n ms K hK ho hg _ (λm h1 h2=>fS _ (hg m ∅) ⟨m,rfl,h1,h2⟩) 1000 0 ∅ ∅ λj hj=>by lia
theorem HL:fw Gs gls (n+1) 46 [.lst (ms.map .str)] λd=>∃ m:Nat,d = .str (nS m)/\m<=K/\Fr ms m:=by
 have ss:=s64
 have hg:∀ i:Nat,i < 100->evE ⟨PP.run Gs gls n,gls,hfs Gs⟩ (.bin .add (.str "n") (.blt .toStr (.cons (.var 1) .nil))) [.val (.lst (ms.map .str)),.val (.int i)] = some (.str (nS i),[.val (.lst (ms.map .str)),.val (.int i)]):=λi hi=>by
  have:=EY i hi;exact dw (x:=.str "n") (y:=.str (toString (i:Int):Str)) ⋯ (km (ds:=[.int i]) ⋯ (if_pos (iJ ∅ ∅))) (if_pos (by rw [JJ];lia))
 refine aL iF rfl rfl rfl ?_;simp only [iF,init,SI,Nat.reduceAdd,Nat.reduceSub];simp only [↓WS,↓WC,WI,↓reduceIte];exact vE n ms K hK ho hg _ (λm h1 h2=>fS _ (hg m ∅) ⟨m,rfl,h1,h2⟩) 1000 0 ∅ ∅ λj hj=>by lia
end
def rn (o w t:Str):Str:=if (t == o) = true then w else t
def rf (o w t:Str) (_:Int):Str:=rn o w t
def OT (o w:Str):Lm 50 [.str o,.str w] (rf o w) λ_=>True:=by
 intro n t k _ _ _;apply aZ;refine aL d_lam1 rfl rfl rfl ?_;simp only [d_lam1,init,SI,Nat.reduceAdd,Nat.reduceSub];simp only [↓WS,↓WC,WI,↓reduceIte];refine Bz (λe=>?_) λe=>?_
 . rw [show rf o w t k = w from if_pos e]
 . rw [show rf o w t k = t from if_neg e]
def ren (o w:Str) (A:F):F:=dA (rf o w) A 0
def tP (o w:Str):∀ (A:F) (j k:Int),dA (rf o w) A j = dA (rf o w) A k
 | .yes,_,_ | .no,_,_ | .word _ _,_,_=>rfl
 | .un u a,j,k=>congrArg (F.un u) (tP o w a _ _)
 | .bi b x y,j,k=>by simp only [dA];rw [tP o w x j k,tP o w y j k]
def Bh (A:F) (o w:Str) (n:Nat) (h:hF A+2<=n) (h1:hF A < 1000) (ok:okF A):PP.run Gs gls (n+1) 6 [enc A,.str o,.str w] = some (enc (ren o w A)):=by
 have r:=qv (OT o w) A n 0 h ⇑0 ∅ ok λ_ _=>trivial;apply aZ;refine aL iK rfl rfl rfl ?_;simp only [iK,init,SI,Nat.reduceAdd,Nat.reduceSub];simp only [flat,eE,cD,↓aV r,qH,↓WS,↓WC,WI,↓reduceIte];exact ⟨trivial,trivial,rfl,trivial,rfl⟩
def tR (o w:Str):∀ (A:F) (n:Nat),hF A<=n->okF A->PP.run Gs gls n 42 [enc A,.str o,.str w] = some (enc (ren o w A))
 | .yes,n+1,h,_=>by kernel_rfl
 | .no,n+1,h,_=>by kernel_rfl
 | .word x ts,n+1,h,ok=>by
   have ok':ts.length<=1000:=ok;have ss:=s64;apply aZ;refine aL dg rfl rfl rfl ?_;simp only [dg,init,SI,Nat.reduceAdd,Nat.reduceSub];refine bC true ⋯ (λ_=>?_) λe=>by cases e
   refine bp 1 [.val (enc (.word x ts)),.val (.str o),.val (.str w),.own [],.no] ⋯ ?_;refine gR (R:=λδ=>∃ s,δ = [.val (enc (.word x ts)),.val (.str o),.val (.str w),.own (ts.map λt=>.str (rn o w t)),s]) 1 _ _ ?_ ?_
   . simp only [cB,wD,jx,enc,SI,↓WS,↓WC,WI,↓reduceIte];refine eZ (g:=D.str) (λrest δ=>∃ (acc:List Str) (s:Sl),δ = [.val (.tup [.str "word",.str x,.tup (ts.map .str)]),.val (.str o),.val (.str w),.own (acc.map λt=>.str (rn o w t)),s]/\acc++rest = ts) ?_ ?_ _ _ ⟨[],_,rfl,rfl⟩
     . rintro t rest δ ⟨acc,s,rfl,e⟩
       have hl:acc.length < sizeLine:=by
        have:=congrArg iA e;rw [ag,aw] at this
        lia
       have key:∀ u:Str,u = rn o w t->(acc.map λt=>D.str (rn o w t)).length < sizeLine/\∃ (acc':List Str) (s:Sl),([.val (.tup [.str "word",.str x,.tup (ts.map .str)]),.val (.str o),.val (.str w),.own ((acc.map λt=>.str (rn o w t))++[.str u]),.val (.str u)]:PP.Loc) = [.val (.tup [.str "word",.str x,.tup (ts.map .str)]),.val (.str o),.val (.str w),.own (acc'.map λt=>.str (rn o w t)),s]/\acc'++rest = ts:=λu hu=>⟨by rw [ai];exact hl,acc++[t],.val (.str u),by subst hu;rw [aI];rfl,by rw [<- e];simp⟩;simp only [SI,↓WS,↓WC,WI,↓reduceIte];exact Bz (λz=>key w (if_pos z).symm) λz=>key t (if_neg z).symm
     . rintro δ ⟨acc,s,rfl,e⟩;rw [aY] at e;subst e;exact ⟨.nx _,rfl,_,rfl⟩
   . rintro δ ⟨s,rfl⟩
     exact gH (d:=.tup [.str "word",.str x,.tup (ts.map λt=>.str (rn o w t))]) ⋯ (by rw [show ren o w (.word x ts) = .word x (ts.map (rn o w)) from rfl];simp only [enc,fM];try rfl)
 | .un u a,n+1,h,ok=>by
   have ss:=s64;have ih:=tR o w a n (by simp only [hF] at h;lia) ok;apply aZ;refine aL dg rfl rfl rfl ?_;simp only [dg,init,SI,Nat.reduceAdd,Nat.reduceSub];refine bC false (by cases u<;>kernel_rfl) (λe=>by cases e) λ_=>?_;refine fS (enc (ren o w (.un u a))) (dw (x:=.tup [.str u.s]) (y:=.tup [enc (ren o w a)]) ⋯ (lE (jF enc (λ_=>enc (ren o w a)) (λ_=>[enc a,.str o,.str w]) [a] (by show 1<=_;lia) (oz (d:=.tup [enc a]) ⋯ rfl) rfl (λx hx=>by rw [aK.mp hx];kernel_rfl) λx hx=>ih)) ?_) rfl;rw [show ren o w (.un u a) = .un u (ren o w a) from congrArg (F.un u) (tP o w a _ _)]
   rfl
 | .bi b x y,n+1,h,ok=>by
   have ss:=s64;have ih1:=tR o w x n (by simp only [hF] at h;lia) ok.1;have ih2:=tR o w y n (by simp only [hF] at h;lia) ok.2;apply aZ;refine aL dg rfl rfl rfl ?_;simp only [dg,init,SI,Nat.reduceAdd,Nat.reduceSub];refine bC false (by cases b<;>kernel_rfl) (λe=>by cases e) λ_=>?_;refine fS (enc (ren o w (.bi b x y))) (dw (x:=.tup [.str b.s]) (y:=.tup [enc (ren o w x),enc (ren o w y)]) ⋯ (lE (jF enc (λz=>enc (ren o w z)) (λz=>[enc z,.str o,.str w]) [x,y] (by show 2<=_;lia) (oz (d:=.tup [enc x,enc y]) ⋯ rfl) rfl (λz hx=>by kernel_rfl) λz hx=>?_)) rfl) rfl;simp only [az,bc,or_false] at hx;rcases hx with rfl | rfl
   . exact ih1
   . exact ih2
 | A,0,h,_=>by cases A<;>simp only [hF] at h<;>lia
def tsL:Ts->List T
 | .nil=>[]
 | .cons t r=>t::tsL r
def gu:∀ ks:Ts,eTs ks = (tsL ks).map eT
 | .nil=>rfl
 | .cons t r=>by show eT t::eTs r = _;rw [gu r];rfl
def jf:∀ ks:Ts,(tsL ks).length = tln ks
 | .nil=>rfl
 | .cons _ r=>by show (tsL r).length+1 = _;rw [jf r];rfl
def jU {k:T}:∀ {ks:Ts},k∈tsL ks->ht k<=hts ks
 | .cons t r,h=>by
   simp only [hts];rcases az.mp h with rfl | h
   . lia
   . have:=jU h
     lia
mutual
noncomputable def chT (o w:Str):T->T
 | .close=>.close
 | .rule L A x ks=>.rule L (ren o w A) (rn o w x) (lK o w ks)
 | .cut A a b=>.cut (ren o w A) (chT o w a) (chT o w b)
noncomputable def lK (o w:Str):Ts->Ts
 | .nil=>.nil
 | .cons t r=>.cons (chT o w t) (lK o w r)
end
def qS (o w:Str):∀ ks:Ts,tsL (lK o w ks) = (tsL ks).map (chT o w)
 | .nil=>rfl
 | .cons t r=>by show chT o w t::tsL (lK o w r) = _;rw [qS o w r];rfl
mutual
noncomputable def nct:T->Prop
 | .close=>True
 | .rule L A w ks=>((tln ks = 1\/tln ks = 2)/\(brs L w A).length = tln ks/\(bnd A = false\/w≠""))/\Bu ks
 | .cut _ _ _=>False
noncomputable def Bu:Ts->Prop
 | .nil=>True
 | .cons t r=>nct t/\Bu r
end
def iQ:∀ {ks:Ts},Bu ks->∀ k∈tsL ks,nct k
 | .cons t r,h,k,hk=>(az.mp hk).elim (λe=>e▸h.1) (iQ h.2 k)
def zW {o w x:Str} {L:Bool} {A:F} {ks:Ts}:eT (chT o w (.rule L A x ks)) = .tup [.str "rule",.str (sd L),enc (ren o w A),.str (rn o w x),.tup ((tsL ks).map λk=>eT (chT o w k))]:=by
 show D.tup [.str "rule",.str (sd L),enc (ren o w A),.str (rn o w x),.tup (eTs (lK o w ks))] = _;rw [gu,qS,fM];rfl
def jt {xs:List Str}:∀ {ks:Ts},mZ xs ks->∀ k∈tsL ks,okT xs k
 | .cons t r,h,k,hk=>(az.mp hk).elim (λe=>e▸h.1) (jt h.2 k)
def rY {xs:List Str} (o w:Str):∀ (m n:Nat) (t:T),ht t<=m->m<=100->okT xs t->nct t->PP.run Gs gls (n+m+15) 21 [eT t,.str o,.str w] = some (eT (chT o w t))
 | 0,n,t,hm,_,_,_=>by cases t<;>simp only [ht] at hm<;>lia
 | m+1,n,t,hm,h1,h2,h3=>by
   have ss:=s64;apply aZ
   cases t with
   | close=>exact (aV ⋯).mpr rfl
   | cut A a b=>exact h3.elim
   | rule L A x ks =>
     obtain ⟨⟨gA,nA⟩,hx,ho⟩:=h2;have kk:=tU (n+m+14) (.rule L A x ks) ⟨⟨gA,nA⟩,hx,ho⟩ ∅;have rr:=Bh A o w (n+m+14) (by have:=gA.1;lia) (by have:=gA.1;lia) (kR (by have:=gA.2.2.1;lia));have tl:=jf ks;refine aL lJ rfl rfl rfl ?_;simp only [lJ,init,SI,Nat.reduceAdd,Nat.reduceSub];refine mJ ((tsL ks).map λk=>eT (chT o w k)) (jF eT (λk=>eT (chT o w k)) (λk=>[eT k,.str o,.str w]) (tsL ks) (by have:=h3.1.1;lia) (oz (d:=.tup (eTs ks)) (cU [eT (.rule L A x ks)] ⋯ kk) (by rw [<- gu];rfl)) rfl (λx hx=>by kernel_rfl) λk hk=>rY o w m n k (by have:=jU hk;simp only [ht] at hm;lia) ∅ (jt ho k hk) (iQ h3.2 k hk)) (by show 3 < 7;decide) ?_;refine bC true ⋯ (λ_=>?_) λe=>by cases e
     refine bp 1 [.val (eT (.rule L A x ks)),.val (.str o),.val (.str w),.val (.lst ((tsL ks).map λk=>eT (chT o w k))),.val (.str (sd L)),.val (enc A),.val (.str x)] ⋯ ?_;refine fS _ (lD (aX (d:=.str "rule") ⋯ (aX (d:=.str (sd L)) ⋯ (aX (d:=enc (ren o w A)) (cU [enc A,.str o,.str w] ⋯ rr) (aX (pJ (p:=x == o) (x:=.str w) (y:=.str x) ⋯ ⋯ ⋯) (aX (d:=.tup ((tsL ks).map λk=>eT (chT o w k))) ⋯ rfl))))) (by show 5<=_;lia)) ?_;rw [zW];unfold rn;split<;>rfl
def qw {xs:List Str} (o w:Str):∀ (m n:Nat) (t:T),ht t<=m->m<=100->okT xs t->nct t->PP.run Gs gls (n+m+15) 43 [eT t,.str o,.str w] = some (eT (chT o w t))
 | 0,n,t,hm,_,_,_=>by cases t<;>simp only [ht] at hm<;>lia
 | m+1,n,t,hm,h1,h2,h3=>by
   have ss:=s64;apply aZ
   cases t with
   | close=>exact (aV ⋯).mpr rfl
   | cut A a b=>exact h3.elim
   | rule L A x ks =>
     obtain ⟨⟨gA,nA⟩,hx,ho⟩:=h2;have rr:=tR o w A (n+m+15) (by have:=gA.1;lia) (kR (by have:=gA.2.2.1;lia));have tl:=jf ks;refine aL fj rfl rfl rfl ?_;simp only [fj,init,SI,Nat.reduceAdd,Nat.reduceSub];refine bC false ⋯ (λe=>by cases e) λ_=>?_;refine gU (.tup ((tsL ks).map λk=>eT (chT o w k))) (lE (jF eT (λk=>eT (chT o w k)) (λk=>[eT k,.str o,.str w]) (tsL ks) (by have:=h3.1.1;lia) (oz (d:=.tup (eTs ks)) ⋯ (by rw [<- gu];rfl)) rfl (λx hx=>by kernel_rfl) λk hk=>qw o w m n k (by have:=jU hk;simp only [ht] at hm;lia) ∅ (jt ho k hk) (iQ h3.2 k hk))) ⟨_,rfl,?_⟩;refine bC false ⋯ (λe=>by cases e) λ_=>?_
     have last:∀ u:Str,u = rn o w x->wSs ⟨PP.run Gs gls (n+m+15),gls,hfs Gs⟩ (cB 5 fj.body) [.val (eT (.rule L A x ks)),.val (.str o),.val (.str w),.val (.tup ((tsL ks).map λk=>eT (chT o w k))),.val (.str u)] (retS λd=>d = eT (chT o w (.rule L A x ks))):=λu hu=>by
      refine fS _ (lD (aX (d:=.str "rule") ⋯ (aX (d:=.str (sd L)) ⋯ (aX (d:=enc (ren o w A)) (cU [enc A,.str o,.str w] ⋯ rr) (aX (d:=.str u) ⋯ (aX (d:=.tup ((tsL ks).map λk=>eT (chT o w k))) ⋯ rfl))))) (by show 5<=_;lia)) ?_;rw [zW,hu]
     refine bp 1 [.val (eT (.rule L A x ks)),.val (.str o),.val (.str w),.val (.tup ((tsL ks).map λk=>eT (chT o w k))),.val (.str x)] ⋯ ?_;refine bC (x == o) ⋯ (λe=>bp 1 [.val (eT (.rule L A x ks)),.val (.str o),.val (.str w),.val (.tup ((tsL ks).map λk=>eT (chT o w k))),.val (.str w)] ⋯ (last w ?_)) λe=>last x ?_
     . unfold rn;rw [if_pos e]
     . unfold rn;rw [if_neg (by rw [e];decide)]
mutual
noncomputable def twT:T->List T
 | .close=>[.close]
 | .rule L A x ks=>.rule L A x ks::qg ks
 | .cut A a b=>.cut A a b::(twT a++(twT b++[]))
noncomputable def qg:Ts->List T
 | .nil=>[]
 | .cons t r=>twT t++qg r
end
def iT:T->List T
 | .close=>[]
 | .rule _ _ _ ks=>tsL ks
 | .cut _ a b=>[a,b]
def Qs (t:T):kT t = (iT t).map eT:=by
 cases t with
 | close=>rfl
 | rule L A x ks=>exact gu ks
 | cut A a b=>rfl
def Dm:∀ ks:Ts,qg ks = (tsL ks).flatMap twT
 | .nil=>rfl
 | .cons t r=>by show twT t++qg r = _;rw [Dm r];rfl
def rR (t:T):twT t = t::(iT t).flatMap twT:=by
 cases t with
 | close=>rfl
 | rule L A x ks=>show _::qg ks = _;rw [Dm];rfl
 | cut A a b=>rfl
def qJ {t k:T} (h:k∈iT t):ht k+1<=ht t:=by
 cases t with
 | close=>cases h
 | rule L A x ks=>have:=jU h;simp only [ht];lia
 | cut A a b =>
   simp only [iT,az,bc,or_false] at h;simp only [ht];rcases h with rfl | rfl<;>lia
def vR {xs:List Str} {t k:T} (ho:okT xs t) (h:k∈iT t):okT xs k:=by
 cases t with
 | close=>cases h
 | rule L A x ks=>exact jt ho.2.2 k h
 | cut A a b =>
   simp only [iT,az,bc,or_false] at h;rcases h with rfl | rfl
   . exact ho.2.1
   . exact ho.2.2
def FH {α β:Type} {f:α->List β} {l:List α} {a:α} (h:a∈l):(f a).length<=(l.flatMap f).length:=by
 induction l with
 | nil=>cases h
 | cons b l ih =>
   rw [bO,ag];rcases az.mp h with rfl | h
   . lia
   . have:=ih h;lia
def yT {xs:List Str}:∀ (m n:Nat) (t:T),ht t<=m->m<=100->okT xs t->(twT t).length<=10000->PP.run Gs gls (n+m+2) 18 [eT t] = some (.lst ((twT t).map eT))
 | 0,n,t,hm,_,_,_=>by cases t<;>simp only [ht] at hm<;>lia
 | m+1,n,t,hm,h1,ho,hl=>by
   have s4:10000 < sizeLine:=by decide
   have kk:=tU (n+(m+1)) t ho ∅;have tw:=rR t;rw [tw,aw] at hl;apply aZ;refine aL gz rfl rfl rfl ?_;simp only [gz,init,SI,Nat.reduceAdd,Nat.reduceSub];refine bp 1 [.val (eT t),.own [eT t],.no] ⋯ ?_;refine gR (R:=λδ=>∃ s,δ = [.val (eT t),.own ((twT t).map eT),s]) 1 _ _ ?_ ?_
   . simp only [cB,jx,↓aV kk,SI,↓WS,↓WC,WI,↓reduceIte];rw [Qs];refine eZ (g:=eT) (λrest δ=>∃ (acc:List T) (s:Sl),δ = [.val (eT t),.own ((t::acc).map eT),s]/\acc++rest.flatMap twT = (iT t).flatMap twT/\∀ k∈rest,k∈iT t) ?_ ?_ _ _ ⟨[],_,rfl,rfl,λ_ h=>h⟩
     . rintro k rest δ ⟨acc,s,rfl,e,hr⟩;have hk:=hr k ar;rw [bO] at e;have le:=congrArg iA e;rw [ag,ag] at le;have ih:PP.run Gs gls (n+(m+1)+1) 18 [eT k] = some (.lst ((twT k).map eT)):=yT m n k (by have:=qJ hk;lia) ∅ (vR ho hk) ∅;simp only [↓aV ih,SI,↓WS,↓WC,WI,↓reduceIte];refine ⟨?_,acc++twT k,_,by rw [<- aI],by rw [<- e,cz],λj hj=>hr j (ao _ hj)⟩;simp only [ai,aw];lia
     . rintro δ ⟨acc,s,rfl,e,_⟩;rw [pV,aY] at e;rw [e,<- tw];exact ⟨.nx _,rfl,_,rfl⟩
   . rintro δ ⟨s,rfl⟩;exact gH (d:=.lst ((twT t).map eT)) ⋯ rfl
def nmA:T->List Str
 | .rule _ A x _=>sdT (cG A)++if (x == "") = true then [] else [x]
 | _=>[]
def wtA:T->Nat
 | .rule _ A _ _=>(tms A).length+1
 | _=>0
def wt (t:T):Nat:=((twT t).map wtA).sum
def IA (t:T):(nmA t).length<=wtA t:=by
 cases t with
 | close=>exact ax _
 | cut A a b=>exact ax _
 | rule L A x ks =>
   have h1:(cG A).length<=(tms A).length:=bX _ _
   have h2:(sdT (cG A)).length<=(cG A).length:=by
    rw [mP];exact gb λ_ h=>h
   simp only [nmA,wtA,ag];split
   . rw [aD];lia
   . rw [aU];lia
def Iy (l:List T):(l.flatMap nmA).length<=(l.map wtA).sum:=by
 induction l with
 | nil=>exact ax _
 | cons t l ih =>
   have:=IA t;rw [bO,ag,aW,nL]
   lia
def uc {xs:List Str}:∀ (m:Nat) (t:T),ht t<=m->okT xs t->∀ k∈twT t,okT xs k/\ht k<=ht t
 | 0,t,hm,_=>by cases t<;>simp only [ht] at hm<;>lia
 | m+1,t,hm,ho=>λk hk=>by
   rw [rR] at hk;rcases az.mp hk with rfl | hk
   . exact ⟨ho,ax _⟩
   . obtain ⟨j,hj,hk⟩:=cZ.mp hk;have:=qJ hj;have:=uc m j ∅ (vR ho hj) k hk;exact ⟨this.1,∅⟩
def EW:∀ (m:Nat) (t:T),ht t<=m->nct t->∀ k∈twT t,nct k
 | 0,t,hm,_=>by cases t<;>simp only [ht] at hm<;>lia
 | m+1,t,hm,ho=>λk hk=>by
   cases t with
   | close=>rw [aK.mp hk];trivial
   | cut A a b=>exact ho.elim
   | rule L A x ks =>
     rw [rR] at hk;rcases az.mp hk with rfl | hk
     . exact ho
     . obtain ⟨j,hj,hk⟩:=cZ.mp hk;have:=qJ hj;exact EW m j ∅ (iQ ho.2 j hj) k hk
section
variable {xs:List Str} (hx:∀ t∈xs,nm t) (hm:xs.length<=40)
include hx hm
theorem Oe (n:Nat) (t:T) (ho:okT xs t) (hc:nct t):PP.run Gs gls (n+20) 19 [eT t] = some (.lst ((nmA t).map .str)):=by
 cases t with
 | close=>kernel_rfl
 | cut A a b=>exact hc.elim
 | rule L A x ks =>
   have ss:=s64;obtain ⟨⟨gA,nA⟩,_,_⟩:=ho;have rr:=Od hm (n+18) A (Go.okN hx gA) (by have:=gA.1;lia);apply aZ;refine aL kv rfl rfl rfl ?_;simp only [kv,init,SI,Nat.reduceAdd,Nat.reduceSub];refine bC true ⋯ (λ_=>?_) λe=>by cases e
   refine fS _ (dw (x:=.lst ((sdT (cG A)).map .str)) (y:=if (!(x == "")) = true then .lst [.str x] else .lst []) (cU [enc A] ⋯ rr) (pJ (p:=!(x == "")) ⋯ ⋯ ⋯) ?_) rfl
   have hl:(sdT (cG A)).length<=40:=by
    rw [mP];exact aS (gb (Go.okN hx gA).2.2.1) hm
   show opD .add _ _ = some (.lst ((sdT (cG A)++if (x == "") = true then [] else [x]).map .str));cases x == ""
   . rw [if_pos (show (!false) = true from rfl),if_neg ⇑0];show (if ((sdT (cG A)).map D.str).length+1<=sizeLine then _ else _) = _;rw [if_pos (by rw [ai];lia),aI];rfl
   . rw [if_neg (show ¬ (!true) = true by decide),if_pos (show true = true from rfl)];show (if ((sdT (cG A)).map D.str).length+0<=sizeLine then _ else _) = _;rw [if_pos (by rw [ai];lia),aY,aY]
def nmW (t:T):List Str:=(twT t).flatMap nmA
theorem Qg (n:Nat) (t:T) (h1:ht t<=100) (ho:okT xs t) (hc:nct t) (hl:(twT t).length<=10000) (hw:wt t < 4000) (hn:∀ x∈nmW t,x∈xs):PP.run Gs gls (n+103) 20 [eT t] = some (.lst ((sdT (nmW t)).map .str)):=by
 have w1:=yT 100 n t h1 ⇑0 ho hl;apply aZ;refine aL gB rfl rfl rfl ?_;simp only [gB,init,SI,Nat.reduceAdd,Nat.reduceSub];simp only [↓tj,↓aV w1,↓WS,↓WC,WI,↓reduceIte];refine mK eT (λk=>(nmA k).map D.str) _ ?_ ?_
 . intro k hk;have w2:=Oe hx hm (n+82) k (uc 100 t h1 ho k hk).1 (EW 100 t h1 hc k hk);simp only [SI,↓aV w2,↓WS,↓WC,WI,↓reduceIte];refine mL D.str (λ_=>true) D.str (λδ=>∃ s:Sl,δ = [.val (eT t),.val (eT k),s]) _ _ ?_ ⟨_,rfl⟩ ?_
   . rintro u _ δ ⟨s,rfl⟩;simp only [↓WS,↓WC,WI,↓reduceIte];exact ⟨trivial,trivial,_,rfl⟩
   . rintro δ ⟨s,rfl⟩;refine ⟨?_,rfl⟩;rw [dz.mpr λ_ _=>rfl]
 . have em:((twT t).flatMap λk=>(nmA k).map D.str) = (nmW t).map D.str:=by
    unfold nmW;rw [GI]
   rw [em];have h2:=gb hn;have h3:(nmW t).length<=wt t:=Iy _;refine ⟨_,strs_map _,⟨∅,∅⟩,?_⟩;rw [xH]
end
def lnA:T->List Str
 | .rule _ A x _=>cG A++[x]
 | _=>[]
def lnW (t:T):List Str:=(twT t).flatMap lnA
def IE (t:T):(lnA t).length<=wtA t:=by
 cases t with
 | close=>exact ax _
 | cut A a b=>exact ax _
 | rule L A x ks =>
   have h1:(cG A).length<=(tms A).length:=bX _ _;simp only [lnA,wtA,ag,aU]
   lia
def zt (l:List T):(l.flatMap lnA).length<=(l.map wtA).sum:=by
 induction l with
 | nil=>exact ax _
 | cons t l ih =>
   have:=IE t;rw [bO,ag,aW,nL]
   lia
def OS (t:T):lnW t = lnA t++(iT t).flatMap lnW:=by
 unfold lnW;rw [rR,bO,List.flatMap_assoc]
def Fj {t:T} {x:Str} (h:x≠""):x∈lnW t↔x∈nmW t:=by
 unfold lnW nmW;rw [cZ,cZ]
 have:∀ k:T,x∈lnA k↔x∈nmA k:=λk=>by
  cases k with
  | close=>exact bL
  | cut A a b=>exact bL
  | rule L A y ks =>
    simp only [lnA,nmA,aA,aK,jg];refine or_congr bL ?_;by_cases e:(y == "") = true
    . rw [if_pos e];refine ⟨λz=>absurd ?_ h,λz=>by cases z⟩;rw [z];exact eq_of_beq e
    . rw [if_neg e,aK]
 exact ⟨λ⟨k,hk,z⟩=>⟨k,hk,(this k).mp z⟩,λ⟨k,hk,z⟩=>⟨k,hk,(this k).mpr z⟩⟩
def Cr {t k:T} (h:k∈iT t):wt k<=wt t:=by
 have:∀ l:List T,k∈l->((twT k).map wtA).sum<=((l.flatMap twT).map wtA).sum:=λl hl=>by
  induction l with
  | nil=>cases hl
  | cons a l ih =>
    rw [bO,aI,List.sum_append];rcases az.mp hl with rfl | hl
    . lia
    . have:=ih hl;lia
 have:=this _ h;unfold wt;rw [rR t,aW,nL]
 lia
section
variable {xs:List Str} (hx:∀ t∈xs,nm t)
include hx
theorem Jy:∀ (m n:Nat) (t:T),ht t<=m->m<=100->okT xs t->nct t->wt t < 4000->PP.run Gs gls (n+m+12) 44 [eT t] = some (.lst ((lnW t).map .str))
 | 0,n,t,hm,_,_,_,_=>by cases t<;>simp only [ht] at hm<;>lia
 | m+1,n,t,hm,h1,ho,hc,hw=>by
   have ss:4000 < sizeLine:=by decide
   have le:(lnW t).length<=wt t:=zt _;have lL:=OS t
   cases t with
   | close=>kernel_rfl
   | cut A a b=>exact hc.elim
   | rule L A x ks =>
     obtain ⟨⟨gA,nA⟩,hx',hk'⟩:=ho;have rr:=kP A (n+m+12) (by have:=gA.1;lia) (Go.pd hx gA) gA.2.2.1;have len:=congrArg iA lL;rw [ag] at len;simp only [lnA,ag,aU] at len;apply aZ;refine aL eV rfl rfl rfl ?_;simp only [eV,init,SI,Nat.reduceAdd,Nat.reduceSub];refine bC false ⋯ (λe=>by cases e) λ_=>?_;refine gU (.lst ((cG A).map .str)) (cU [enc A] ⋯ rr) ⟨_,rfl,?_⟩;refine bC true ⋯ (λ_=>?_) λe=>by cases e
     refine gU (.lst ((cG A++[x]).map .str)) (dw (x:=.lst ((cG A).map .str)) (y:=.lst [.str x]) ⋯ ⋯ ?_) ⟨_,rfl,?_⟩
     . show (if ((cG A).map D.str).length+1<=sizeLine then _ else _) = _;rw [if_pos (by rw [ai];lia),aI];rfl
     refine gR (R:=λδ=>∃ s,δ = [.val (eT (.rule L A x ks)),.val (.lst ((lnW (.rule L A x ks)).map .str)),s]) 1 _ _ ?_ ?_
     . refine bp 0 [.val (eT (.rule L A x ks)),.val (.lst ((cG A++[x]).map .str)),.no] ⋯ ?_;generalize e0:eT (.rule L A x ks) = t0;have ki:∀ {Q:D->Prop},wIx t0 (.int (-1)) Q↔Q (.tup ((tsL ks).map eT)):=by subst e0;rw [<- gu];exact ⟨λ⟨_,e,q⟩=>by cases e;exact q,λq=>⟨_,rfl,q⟩⟩
       simp only [cB,wD,jx,ki,SI,↓WS,↓WC,WI,↓reduceIte];refine eZ (g:=eT) (λrest δ=>∃ (acc:List Str) (s:Sl),δ = [.val t0,.val (.lst (acc.map .str)),s]/\acc++rest.flatMap lnW = lnW (.rule L A x ks)/\∀ k∈rest,k∈tsL ks) ?_ ?_ _ _ ⟨cG A++[x],_,rfl,lL.symm,λ_ h=>h⟩
       . rintro k rest δ ⟨acc,s,rfl,e,hr⟩;have hk:=hr k ar;rw [bO] at e;have le2:=congrArg iA e;rw [ag,ag] at le2;have hwk:wt k < 4000:=bS (Cr (t:=.rule L A x ks) hk) hw;have ih:PP.run Gs gls (n+(m+1)+11) 44 [eT k] = some (.lst ((lnW k).map .str)):=Jy m n k (by have:=jU hk;simp only [ht] at hm;lia) ∅ (jt hk' k hk) (iQ hc.2 k hk) hwk;simp only [↓aV ih,SI,↓WS,↓WC,WI,↓reduceIte];refine ⟨by simp only [ai];lia,acc++lnW k,_,by rw [aI],by rw [<- e,cz],λj hj=>hr j (ao _ hj)⟩
       . rintro δ ⟨acc,s,rfl,e,_⟩;rw [pV,aY] at e;rw [e];exact ⟨.nx _,rfl,_,rfl⟩
     . rintro δ ⟨s,rfl⟩;exact gH (d:=.lst ((lnW (.rule L A x ks)).map .str)) ⋯ rfl
theorem Of (n:Nat) (row:List It) (hr:row.length<=100) (hg:∀ p∈row,Go xs p.2):PP.run Gs gls (n+12) 45 [.lst (row.map itD)] = some (.lst ((row.flatMap λp=>cG p.2).map .str)):=by
 have ss:4000 < sizeLine:=by decide
 apply aZ;refine aL fy rfl rfl rfl ?_;simp only [fy,init,SI,Nat.reduceAdd,Nat.reduceSub];refine bp 1 [.val (.lst (row.map itD)),.val (.lst []),.no] ⋯ ?_;refine gR (R:=λδ=>∃ s,δ = [.val (.lst (row.map itD)),.val (.lst ((row.flatMap λp=>cG p.2).map .str)),s]) 1 _ _ ?_ ?_
 . generalize e0:D.lst (row.map itD) = t0;have ki:∀ {Q:List D->Prop},wItems t0 Q↔Q (row.map itD):=by subst e0;exact ⟨λ⟨_,e,q⟩=>by cases e;exact q,λq=>⟨_,rfl,q⟩⟩
   simp only [cB,jx,ki,SI,↓WS,↓WC,WI,↓reduceIte];refine eZ (g:=itD) (λrest δ=>∃ (acc:List Str) (s:Sl),δ = [.val t0,.val (.lst (acc.map .str)),s]/\acc++rest.flatMap (λp=>cG p.2) = row.flatMap (λp=>cG p.2)/\acc.length+30 * rest.length<=3000/\∀ k∈rest,k∈row) ?_ ?_ _ _ ⟨[],_,rfl,rfl,by rw [aD];lia,λ_ h=>h⟩
   . rintro p rest δ ⟨acc,s,rfl,e,hl,hr⟩;have gA:=hg p (hr p ar);rw [aw] at hl;have h1:(cG p.2).length<=30:=aS (bX _ _) gA.2.2.1;have rr:=kP p.2 (n+11) (by have:=gA.1;lia) (Go.pd hx gA) gA.2.2.1;simp only [itD,↓aV rr,SI,↓WS,↓WC,WI,↓reduceIte];refine ⟨by simp only [ai];lia,acc++cG p.2,_,by rw [aI],by rw [<- e,bO,cz],by rw [ag];lia,λj hj=>hr j (ao _ hj)⟩
   . rintro δ ⟨acc,s,rfl,e,_⟩;rw [pV,aY] at e;rw [e];exact ⟨.nx _,rfl,_,rfl⟩
 . rintro δ ⟨s,rfl⟩;exact gH (d:=.lst ((row.flatMap λp=>cG p.2).map .str)) ⋯ rfl
end
def XX (bs:List Str) (j:Nat):List Str:=bs++(bE (j+1)).map nS
def Ae {bs:List Str} {i j:Nat} (h:i<=j) {x:Str} (hx:x∈XX bs i):x∈XX bs j:=by
 unfold XX at hx |-;rcases aA.mp hx with z | z
 . exact bD _ z
 . obtain ⟨k,hk,rfl⟩:=bj.mp z;exact aM _ (bj.mpr ⟨k,gG.mpr (by have:=gG.mp hk;lia),rfl⟩)
def zo {bs:List Str} {j m:Nat} (h:m<=j):nS m∈XX bs j:=aM _ (bj.mpr ⟨m,gG.mpr ∅,rfl⟩)
def OO:((bE 60).map nS).Nodup:=by decide
def uh {i j:Nat} (hi:i < 60) (hj:j < 60) (h:nS i = nS j):i = j:=by
 have h1:((bE 60).map nS)[i]? = some (nS i):=by rw [br,mH hi];rfl
 have h2:((bE 60).map nS)[j]? = some (nS j):=by rw [br,mH hj];rfl
 rw [<- h] at h2;exact (List.getElem?_inj (by simpa using hi) OO).mp (h1.trans h2.symm)
def xU {bs:List Str} {j:Nat} (hb:∀ k,5<=k->k < 60->nS k∉bs) (h4:4<=j) (hj:j < 50):nS (j+1)∉XX bs j:=λh=>by
 unfold XX at h;rcases aA.mp h with z | z
 . exact hb _ ∅ ∅ z
 . obtain ⟨k,hk,e⟩:=bj.mp z;have hk:=gG.mp hk;have:=uh ∅ ∅ e
   lia
def vO (m:Nat):nS m≠"":=λh=>by
 have:(nS m).cps.size = 0:=by rw [h];rfl
 unfold nS at this
 have e:(("n":Str)++(toString (m:Int):Str)).cps.size = 1+(toString (m:Int):Str).cps.size:=by
  show (("n":Str).cps++(toString (m:Int):Str).cps).size = _;rw [Co];rfl
 lia
def Go.mono {xs ys:List Str} (h:∀ x∈xs,x∈ys) {A:F} (g:Go xs A):Go ys A:=⟨g.1,g.2.1,g.2.2.1,λt ht=>(g.2.2.2 t ht).imp (h t) id⟩
mutual
theorem okT.mono {xs ys:List Str} (h:∀ x∈xs,x∈ys):∀ t:T,okT xs t->okT ys t
 | .close,_=>trivial
 | .rule _ _ _ ks,g=>⟨⟨g.1.1.mono h,g.1.2⟩,g.2.1.imp id (h _),mZ.mono h ks g.2.2⟩
 | .cut _ a b,g=>⟨g.1.mono h,okT.mono h a g.2.1,okT.mono h b g.2.2⟩
theorem mZ.mono {xs ys:List Str} (h:∀ x∈xs,x∈ys):∀ ks:Ts,mZ xs ks->mZ ys ks
 | .nil,_=>trivial
 | .cons t r,g=>⟨okT.mono h t g.1,mZ.mono h r g.2⟩
end
def Lk (o w:Str) (A:F):hF (ren o w A) = hF A:=lC _ _ _
def Lj (o w:Str) (A:F):sz (ren o w A) = sz A:=lB _ _ _
def yO (o w:Str) (A:F):(tms (ren o w A)).length = (tms A).length:=(hZ _ _ _).1
def HE (o w:Str) (A:F):nlf (ren o w A) = nlf A:=by cases A<;>rfl
def HF (o w:Str) (A:F):bnd (ren o w A) = bnd A:=by
 cases A with
 | un u a=>cases u<;>rfl
 | _=>rfl
def Jf (x y:Str) (L:Bool) (A:F):(brs L x A).length = (brs L y A).length:=by
 cases A with
 | un u a=>cases u<;>rfl
 | bi b p q=>cases b<;>cases L<;>rfl
 | _=>rfl
def Je (o w x y:Str) (L:Bool) (A:F):(brs L x (ren o w A)).length = (brs L y A).length:=by
 cases A with
 | un u a=>cases u<;>rfl
 | bi b p q=>cases b<;>cases L<;>rfl
 | _=>rfl
def Go.ren {xs ys:List Str} (h:∀ x∈xs,x∈ys) {o w:Str} (hw:w∈ys) {A:F} (g:Go xs A):Go ys (ren o w A):=by
 refine ⟨by rw [Lk];exact g.1,by rw [Lj];exact g.2.1,by rw [yO];exact g.2.2.1,λt ht=>?_⟩;obtain ⟨s,hs,j,rfl⟩:=(hZ (rf o w) A 0).2 t ht;unfold rf rn;split
 . exact .inl hw
 . exact (g.2.2.2 s hs).imp (h s) id
mutual
theorem FW {xs ys:List Str} (h:∀ x∈xs,x∈ys) {o w:Str} (hw:w∈ys):∀ t:T,okT xs t->okT ys (chT o w t)
 | .close,_=>trivial
 | .rule _ A x ks,g=>⟨⟨g.1.1.ren h hw,by rw [HE];exact g.1.2⟩,by
   unfold rn;split
   . exact .inr hw
   . exact g.2.1.imp id (h x),yf h hw ks g.2.2⟩
 | .cut _ a b,g=>⟨g.1.ren h hw,FW h hw a g.2.1,FW h hw b g.2.2⟩
theorem yf {xs ys:List Str} (h:∀ x∈xs,x∈ys) {o w:Str} (hw:w∈ys):∀ ks:Ts,mZ xs ks->mZ ys (lK o w ks)
 | .nil,_=>trivial
 | .cons t r,g=>⟨FW h hw t g.1,yf h hw r g.2⟩
end
def pP (o w:Str):∀ ks:Ts,tln (lK o w ks) = tln ks
 | .nil=>rfl
 | .cons _ r=>congrArg (·+1) (pP o w r)
mutual
theorem Nd {o w:Str} (hw:w≠""):∀ t:T,nct t->nct (chT o w t)
 | .close,_=>trivial
 | .rule L A x ks,g=>⟨⟨by rw [pP];exact g.1.1,by rw [pP,Je o w _ x];exact g.1.2.1,by
   rw [HF];refine g.1.2.2.imp id λz=>?_;unfold rn;split
   . exact hw
   . exact z⟩,uH hw ks g.2⟩
theorem uH {o w:Str} (hw:w≠""):∀ ks:Ts,Bu ks->Bu (lK o w ks)
 | .nil,_=>trivial
 | .cons t r,g=>⟨Nd hw t g.1,uH hw r g.2⟩
end
mutual
theorem FX {o w:Str}:∀ t:T,ht (chT o w t) = ht t
 | .close=>rfl
 | .rule _ _ _ ks=>congrArg (·+1) (yg ks)
 | .cut _ a b=>by show max (ht (chT o w a)) (ht (chT o w b))+1 = _;rw [FX a,FX b];rfl
theorem yg {o w:Str}:∀ ks:Ts,hts (lK o w ks) = hts ks
 | .nil=>rfl
 | .cons t r=>by show max (ht (chT o w t)) (hts (lK o w r)) = _;rw [FX t,yg r];rfl
end
mutual
theorem wu {o w:Str}:∀ t:T,twT (chT o w t) = (twT t).map (chT o w)
 | .close=>rfl
 | .rule _ _ _ ks=>congrArg (_::·) (FV ks)
 | .cut A a b=>by
   show _::(twT (chT o w a)++(twT (chT o w b)++[])) = _;rw [wu a,wu b];simp [twT];rfl
theorem FV {o w:Str}:∀ ks:Ts,qg (lK o w ks) = (qg ks).map (chT o w)
 | .nil=>rfl
 | .cons t r=>by show twT (chT o w t)++qg (lK o w r) = _;rw [wu t,FV r];simp [qg]
end
def Pt {o w:Str} (t:T):wt (chT o w t) = wt t:=by
 unfold wt;rw [wu,fM];congr 2
 funext k
 cases k with
 | rule L A x ks=>show (tms (ren o w A)).length+1 = _;rw [yO];rfl
 | _=>rfl
def qF {xs:List Str} (hx:∀ t∈xs,nm t) {t:T} (ho:okT xs t):∀ x∈nmW t,x∈xs:=λx h=>by
 unfold nmW at h;obtain ⟨k,hk,h⟩:=cZ.mp h;have ok:=(uc (ht t) t (ax _) ho k hk).1
 cases k with
 | close=>cases h
 | cut A a b=>cases h
 | rule L A y ks =>
   unfold nmA at h;rcases aA.mp h with z | z
   . exact (Go.okN hx ok.1.1).2.2.1 x (jg.mp z)
   . by_cases e:(y == "") = true
     . rw [if_pos e] at z;cases z
     . rw [if_neg e] at z;rw [aK.mp z];exact ok.2.1.resolve_left λq=>e (by rw [q];decide)
def xP {ts:List Str} {o:Str}:kX .notin (.str o) (.lst (ts.map .str)) = some (!decide (o∈ts)):=by
 have:=uu (ts:=ts) (o:=o);show (inD (.str o) (.lst (ts.map .str))).map (!·) = _;rw [show inD (.str o) (.lst (ts.map .str)) = some (decide (o∈ts)) from this];rfl
def nG {a b:List Str} (h:a.length+b.length<=sizeLine):opD .add (.lst (a.map .str)) (.lst (b.map .str)) = some (.lst ((a++b).map .str)):=by
 show (if (a.map D.str).length+(b.map D.str).length<=sizeLine then _ else _) = _;rw [if_pos (by rw [ai,ai];exact h),aI]
def kz (l:List It) (sh:List Str):List Str:=(l.flatMap λp=>cG p.2)++sh
def Fq (l:List It) (sh:List Str) (j:Nat) (L:Bool) (A:F) (w:Str) (ks:Ts) (w':Str) (ks':Ts):Prop :=
 ((own L A = true/\w∈kz l sh)/\∃ m,m<=j/\Fr (kz l sh++lnW (.rule L A w ks)) m/\w' = nS m/\ks' = lK w (nS m) ks)\/(¬ (own L A = true/\w∈kz l sh)/\w' = w/\ks' = ks)
def wB:T->Prop
 | .cut _ a b=>wB a/\wB b
 | .close=>wt .close < 4000
 | .rule L A w ks=>wt (.rule L A w ks) < 4000
def Di {t:T} (h:nct t) (hw:wt t < 4000):wB t:=by
 cases t with
 | close=>exact hw
 | cut A a b=>exact h.elim
 | rule L A w ks=>exact hw
structure At (bs:List Str) (j:Nat) (r l:List It) (sh:List Str) (t:T):Prop where
 nb:∀ x∈XX bs j,nm x
 bl:bs.length = 5
 bo:∀ k,5<=k->k < 60->nS k∉bs
 j4:4<=j
 jj:j+ht t<=28
 go:∀ p∈l,Go (XX bs j) p.2
 rl:∀ p,p∈r↔p∈l
 ll:l.length+2 * ht t<=60
 rr:r.length+2 * ht t<=60
 si:∀ x∈sh,x∈XX bs j
 sl:sh.length<=20
 ok:okT (XX bs j) t
 wl:wB t
 tl:(twT t).length<=10000
def yo {bs:List Str} {j:Nat} (h:bs.length = 5) (hj:j<=28):(XX bs j).length<=40:=by
 unfold XX;rw [ag,ai,jM]
 lia
def At.bin {bs:List Str} {j:Nat} {r l:List It} {sh:List Str} {t:T} (h:At bs j r l sh t):∀ x∈kz l sh,x∈XX bs j:=λx hx=>by
 rcases aA.mp hx with z | z
 . obtain ⟨p,hp,z⟩:=cZ.mp z;exact (Go.okN h.nb (h.go p hp)).2.2.1 x z
 . exact h.si x z
def HK {bs:List Str} {j:Nat} {r l:List It} {sh:List Str} {L:Bool} {A:F} {w:Str} {ks:Ts} (h:At bs j r l sh (.rule L A w ks)) (hc:nct (.rule L A w ks)) (n:Nat):fw Gs gls (n+150) 23 [.tup (r.map itD),eT (.rule L A w ks),.lst (sh.map .str)] λd=>∃ w' ks',d = eT (.rule L A w' ks')/\Fq l sh (j+1) L A w ks w' ks':=by
 have ss:4000 < sizeLine:=by decide
 have hj:=h.jj;have x40:=yo h.bl (show j<=28 by lia);have gr:∀ p∈r,Go (XX bs j) p.2:=λp hp=>h.go p ((h.rl p).mp hp);have w1:=Qh x40 (n+148) ∅ r (by have:=h.rr;lia) λp hp=>Go.okN h.nb (gr p hp);have w2:=Qg h.nb x40 (n+46) (.rule L A w ks) ∅ h.ok hc h.tl h.wl (qF h.nb h.ok);have w3:=Ob (n+148) L A
 have nin:∀ x,x∈sdT (kI r)++sh↔x∈kz l sh:=λx=>by
  unfold kz;rw [aA,aA,jg,vN,cZ];refine or_congr ⟨λ⟨p,hp,z⟩=>⟨p,(h.rl p).mp hp,z⟩,λ⟨p,hp,z⟩=>⟨p,(h.rl p).mpr hp,z⟩⟩ bL
 have bin:=h.bin
 have l1:(sdT (kI r)).length<=40:=by
  rw [mP];exact aS (gb λx hx=>bin x ((nin x).mp (bD _ (jg.mpr hx)))) x40
 have l2:(sdT (nmW (.rule L A w ks))).length<=40:=by
  rw [mP];exact aS (gb (qF h.nb h.ok)) x40
 have l3:=h.sl;refine aL pO rfl rfl rfl ?_;simp only [pO,init,SI,Nat.reduceAdd,Nat.reduceSub];refine bC (false || !own L A) (qN ⋯ (zK (zJ [.str (sd L),enc A] ⋯ w3))) (λe=>gH (d:=eT (.rule L A w ks)) ⋯ ⟨w,ks,rfl,.inr ⟨λz=>(by rw [z.1] at e;cases e),rfl,rfl⟩⟩) λe=>?_;have ho:own L A = true:=by cases z:own L A;(rw [z] at e;cases e);rfl
 refine bp 1 [.val (.tup (r.map itD)),.val (eT (.rule L A w ks)),.val (.lst (sh.map .str)),.val (.str (sd L)),.val (enc A),.val (.str w),.val (.tup (eTs ks)),.no,.no] ⋯ ?_;refine gU (.lst ((sdT (kI r)++sh).map .str)) (dw (x:=.lst ((sdT (kI r)).map .str)) (y:=.lst (sh.map .str)) (cU [.tup (r.map itD)] ⋯ w1) ⋯ (nG ∅)) ⟨_,rfl,?_⟩;refine bC _ (gq (x:=.str w) (y:=.lst ((sdT (kI r)++sh).map .str)) ⋯ ⋯ xP) (λe=>gH (d:=eT (.rule L A w ks)) ⋯ ⟨w,ks,rfl,.inr ⟨λz=>?_,rfl,rfl⟩⟩) λe=>?_
 . rw [decide_eq_true ((nin w).mpr z.2)] at e;cases e
 have hw:w∈kz l sh:=(nin w).mp (by
  by_cases z:w∈sdT (kI r)++sh
  . exact z
  . rw [decide_eq_false z] at e;cases e)
 have fr:∀ m:Nat,nS m∈(sdT (kI r)++sh)++sdT (nmW (.rule L A w ks))↔nS m∈kz l sh++lnW (.rule L A w ks):=λm=>by
  rw [aA (s:=sdT (kI r)++sh),aA (s:=kz l sh),nin,jg,Fj (vO m)]
 have out:nS (j+1)∉(sdT (kI r)++sh)++sdT (nmW (.rule L A w ks)):=λz=>by
  refine xU h.bo h.j4 ∅ ?_;rcases aA.mp z with z | z
  . exact bin _ ((nin _).mp z)
  . exact qF h.nb h.ok _ (jg.mp z)
 refine cJ [.lst (((sdT (kI r)++sh)++sdT (nmW (.rule L A w ks))).map .str)] (aX (dw (x:=.lst ((sdT (kI r)++sh).map .str)) (y:=.lst ((sdT (nmW (.rule L A w ks))).map .str)) ⋯ (cU [eT (.rule L A w ks)] ⋯ w2) (nG (by rw [ag];lia))) rfl) (bU (HJ (n+148) _ (j+1) ∅ out) ?_);rintro _ ⟨m,rfl,hm,hf⟩;refine ⟨_,rfl,?_⟩;have f2:Fr (kz l sh++lnW (.rule L A w ks)) m:=⟨λz=>hf.1 ((fr m).mpr z),λi hi=>(fr i).mp (hf.2 i hi)⟩;refine fS (eT (.rule L A (nS m) (lK w (nS m) ks))) (lD (ds:=[.str "rule",.str (sd L),enc A,.str (nS m),.tup (eTs (lK w (nS m) ks))]) (aX ⋯ (aX ⋯ (aX ⋯ (aX ⋯ (aX (lE ?_) rfl))))) (by show 5<=_;lia)) ⟨_,_,rfl,.inl ⟨⟨ho,hw⟩,m,hm,f2,rfl,rfl⟩⟩;rw [gu (lK w (nS m) ks),qS,fM];exact jF eT (λk=>eT (chT w (nS m) k)) (λk=>[eT k,.str w,.str (nS m)]) (tsL ks) (by rw [jf];have:=hc.1.1;lia) (oz (d:=.tup (eTs ks)) ⋯ (by rw [<- gu];rfl)) rfl (λk hk=>by kernel_rfl) λk hk=>rY (xs:=XX bs j) w (nS m) 100 (n+34) k (by have:=jU hk;simp only [ht] at hj;lia) ⇑0 (jt h.ok.2.2 k hk) (iQ hc.2 k hk)
mutual
noncomputable def Fd (sh:List Str):T->List It->T->Prop
 | .close,_,t=>t = .close
 | .cut A a' b',l,t=>∃ a b,t = .cut A a b/\Fd sh a' (l++[(false,A)]) a/\Fd sh b' (l++[(true,A)]) b
 | .rule L A w' ks',l,t=>∃ w ks ks1,t = .rule L A w ks/\(∃ j,Fq l sh j L A w ks w' ks1)/\Fds sh ks' l (brs L w' A) ks1
noncomputable def Fds (sh:List Str):Ts->List It->List (List It)->Ts->Prop
 | .nil,_,_,ks=>ks = .nil
 | .cons t' r',l,bs,ks=>∃ t r b c,ks = .cons t r/\bs = b::c/\Fd sh t' (l++b) t/\Fds sh r' l c r
end
def shp:T->Prop
 | .close=>True
 | .rule L A w ks=>nct (.rule L A w ks)
 | .cut _ a b=>shp a/\shp b
def xF {t:T} (h:nct t):shp t:=by
 cases t with
 | close=>trivial
 | cut A a b=>exact h.elim
 | rule L A w ks=>exact h
def Qf {xs:List Str} (n:Nat) (L:Bool) (A:F) (w:Str) (ks ks':Ts) (ho:okT xs (.rule L A w ks)) (hh:ht (.rule L A w ks)<=1000):PP.run Gs gls (n+1) 15 [eT (.rule L A w ks),.lst (eTs ks')] = some (eT (.rule L A w ks')):=by
 apply aZ;refine aL gc rfl rfl rfl ?_;simp only [gc,init,SI,Nat.reduceAdd,Nat.reduceSub]
 have e:kX .eq (eT (.rule L A w ks)) (.tup [.str "close"]) = some false:=by
  obtain ⟨z,e,rfl⟩:=eqC ho hh (Q:=λb=>b = false) rfl;exact e
 exact fS _ (pJ (p:=false) (x:=eT (.rule L A w ks)) (y:=eT (.rule L A w ks')) (gq (x:=eT (.rule L A w ks)) (y:=.tup [.str "close"]) ⋯ ⋯ e) ⋯ ⋯) rfl
def NZ {xs:List Str} (n:Nat) (A:F) (a b a' b':T) (ho:okT xs (.cut A a b)) (hh:ht (.cut A a b)<=1000):PP.run Gs gls (n+1) 15 [eT (.cut A a b),.lst [eT a',eT b']] = some (eT (.cut A a' b')):=by
 apply aZ;refine aL gc rfl rfl rfl ?_;simp only [gc,init,SI,Nat.reduceAdd,Nat.reduceSub]
 have e:kX .eq (eT (.cut A a b)) (.tup [.str "close"]) = some false:=by
  obtain ⟨z,e,rfl⟩:=eqC ho hh (Q:=λb=>b = false) rfl;exact e
 exact fS _ (pJ (p:=false) (x:=eT (.cut A a b)) (y:=eT (.cut A a' b')) (gq (x:=eT (.cut A a b)) (y:=.tup [.str "close"]) ⋯ ⋯ e) ⋯ ⋯) rfl
def Ps (bs sh:List Str) (l:List It) (t:T) (d:D):Prop:=∃ t',d = eT t'/\Fd sh t' l t/\okT (XX bs 29) t'/\ht t'<=ht t
def MC {r l b:List It} (h:∀ p,p∈r↔p∈l) (p:It):p∈mo (r++b)↔p∈l++b:=by
 rw [MA,aA,aA,h]
def wa {bs sh:List Str} {l r:List It} {N:Nat}:∀ (ks:Ts) (B:List (List It)),tln ks = B.length->(∀ k∈tsL ks,∀ b∈B,fw Gs gls N 24 [.tup ((mo (r++b)).map itD),eT k,.lst (sh.map .str)] (Ps bs sh (l++b) k)) ->
 ∃ (ks':Ts) (zs:List (D × D × D)),zs.map (λx=>D.tup [x.1,x.2.1]) = Ao (B.map λb=>D.tup ((mo (r++b)).map itD)) (eTs ks)/\zs.map (·.2.2) = eTs ks'/\(∀ x∈zs,PP.run Gs gls N 24 [x.1,x.2.1,.lst (sh.map .str)] = some x.2.2)/\Fds sh ks' l B ks/\mZ (XX bs 29) ks'/\hts ks'<=hts ks/\zs.length = B.length
 | .nil,[],_,_=>⟨.nil,[],rfl,rfl,λ_ h=>(by cases h),rfl,trivial,ax _,rfl⟩
 | .nil,_::_,h,_=>by cases h
 | .cons _ _,[],h,_=>by cases h
 | .cons k ks,b::B,h,hk=>by
   obtain ⟨_,e,k',rfl,f1,o1,h1⟩:=hk k ar b ar;obtain ⟨ks',zs,z1,z2,z3,f2,o2,h2,z4⟩:=wa ks B (sQ h) λk' hk' b' hb'=>hk k' (ao _ hk') b' (ao _ hb');refine ⟨.cons k' ks',(.tup ((mo (r++b)).map itD),eT k,eT k')::zs,?_,?_,λx hx=>?_,⟨k,ks,b,B,rfl,rfl,f1,f2⟩,⟨o1,o2⟩,?_,congrArg (·+1) z4⟩
   . rw [aW,z1];rfl
   . rw [aW,z2];rfl
   . rcases az.mp hx with rfl | hx
     . exact e
     . exact z3 x hx
   . simp only [hts];lia
def Fx:∀ t:T,1<=ht t
 | .close=>ax _
 | .rule _ _ _ _ | .cut _ _ _=>by simp only [ht];lia
def Gos {xs:List Str} {l:List It} (h:∀ p∈l,Go xs p.2):low l:=λp hp=>(h p hp).2.1
def Px {bs:List Str} {j:Nat} (h:∀ x∈XX bs j,nm x):∀ x∈XX bs (j+1),nm x:=λx hx=>by
 unfold XX at hx;rcases aA.mp hx with z | z
 . exact h x (bD _ z)
 . obtain ⟨i,hi,rfl⟩:=bj.mp z;exact ⟨110,(toString (i:Int):Str).cps.toList,by unfold nS;show (("n":Str).cps++(toString (i:Int):Str).cps).toList = _;rw [cO];rfl,⇑0,⇑0⟩
def qU {bs:List Str} {j:Nat}:∀ x∈XX bs j,x∈XX bs (j+1):=λx=>Ae ∅
def qe {t k:T} (h:k∈iT t):(twT k).length<=(twT t).length:=by
 rw [rR t,aw];have:=FH (f:=twT) h
 lia
def At.kid {bs:List Str} {j:Nat} {r r' l b:List It} {sh:List Str} {t k:T} (h:At bs j r l sh t) (h1:ht k+1<=ht t) (h2:okT (XX bs (j+1)) k) (h3:wB k) (h4:(twT k).length<=(twT t).length) (h5:b.length<=2) (h6:∀ p∈b,Go (XX bs (j+1)) p.2) (rl:∀ p,p∈r'↔p∈l++b) (rr:r'.length<=r.length+2):At bs (j+1) r' (l++b) sh k:=by
 have hj:=h.jj;have ll:=h.ll;have r2:=h.rr;exact ⟨Px h.nb,h.bl,h.bo,by have:=h.j4;lia,∅,λp hp=>(aA.mp hp).elim (λz=>(h.go p z).mono qU) (h6 p),rl,by rw [ag];lia,∅,λx hx=>qU x (h.si x hx),h.sl,h2,h3,by have:=h.tl;lia⟩
def At.kids {bs:List Str} {j jq:Nat} {r l:List It} {sh:List Str} {L:Bool} {A:F} {w w':Str} {ks ks1:Ts} (h:At bs j r l sh (.rule L A w ks)) (hc:nct (.rule L A w ks)) (fq:Fq l sh jq L A w ks w' ks1):(w' = ""\/w'∈XX bs (j+1))/\(bnd A = false\/w'≠"")/\mZ (XX bs (j+1)) ks1/\Bu ks1/\tln ks1 = tln ks/\hts ks1 = hts ks/\∀ k∈tsL ks1,wt k<=wt (.rule L A w ks)/\(twT k).length<=(twT (.rule L A w ks)).length:=by
 have hj:=h.jj;have wk:∀ k∈tsL ks,wt k<=wt (.rule L A w ks)/\(twT k).length<=(twT (.rule L A w ks)).length:=λk hk=>⟨Cr (t:=.rule L A w ks) hk,qe (t:=.rule L A w ks) hk⟩;rcases fq with ⟨_,i,_,hfr,rfl,rfl⟩ | ⟨_,rfl,rfl⟩
 . have hi:i<=j+1:=by
    by_cases z:i<=j+1
    . exact z
    . refine absurd (hfr.2 (j+1) ∅) λy=>xU h.bo h.j4 ∅ ?_;rcases aA.mp y with y | y
      . exact h.bin _ y
      . exact qF h.nb h.ok _ ((Fj (vO _)).mp y)
   refine ⟨.inr (zo hi),.inr (vO i),yf qU (zo hi) ks h.ok.2.2,uH (vO i) ks hc.2,pP _ _ ks,yg ks,λk hk=>?_⟩;rw [qS] at hk;obtain ⟨k,hk2,rfl⟩:=bj.mp hk;rw [Pt,wu,ai];exact wk k hk2
 . exact ⟨h.ok.2.1.imp id (qU _),hc.1.2.2,mZ.mono qU _ h.ok.2.2,hc.2,rfl,rfl,wk⟩
def qx {bs sh:List Str}:∀ (m n:Nat) (t:T) (r l:List It) (j:Nat),ht t<=m->At bs j r l sh t->shp t->fw Gs gls (n+m+160) 24 [.tup (r.map itD),eT t,.lst (sh.map .str)] (Ps bs sh l t)
 | 0,n,t,r,l,j,hm,_,_=>by cases t<;>simp only [ht] at hm<;>lia
 | m+1,n,t,r,l,j,hm,h,hs=>by
   have ss:=s64;have hj:=h.jj;have rr:=h.rr;have ll:=h.ll;have gr:∀ p∈r,Go (XX bs j) p.2:=λp hp=>h.go p ((h.rl p).mp hp);have lr:low r:=Gos gr;have up:=qU (bs:=bs) (j:=j)
   have kid:∀ (k:T) (b:List It),ht k+1<=ht t->okT (XX bs (j+1)) k->wB k->(twT k).length<=(twT t).length->b.length<=2->(∀ p∈b,Go (XX bs (j+1)) p.2)->nct k\/shp k->fw Gs gls (n+m+160) 24 [.tup ((mo (r++b)).map itD),eT k,.lst (sh.map .str)] (Ps bs sh (l++b) k):=λk b h1 h2 h3 h4 h5 h6 h7=>by
    exact qx m n k _ _ (j+1) ∅ (h.kid h1 h2 h3 h4 h5 h6 (MC h.rl) (by have:=MB (r++b);rw [ag] at this;lia)) (h7.elim xF id)
   cases t with
   | close=>exact (aV ⋯).mpr ⟨.close,rfl,rfl,trivial,ax _⟩
   | cut A a b =>
     have gA:=h.ok.1;have k1:=kid a [(false,A)] (by simp only [ht];lia) (okT.mono up a h.ok.2.1) h.wl.1 (qe (t:=.cut A a b) (by simp [iT])) (by show 1<=2;decide) (λp hp=>by rw [aK.mp hp];exact gA.mono up) (.inr hs.1);have k2:=kid b [(true,A)] (by simp only [ht];lia) (okT.mono up b h.ok.2.2) h.wl.2 (qe (t:=.cut A a b) (by simp [iT])) (by show 1<=2;decide) (λp hp=>by rw [aK.mp hp];exact gA.mono up) (.inr hs.2);obtain ⟨_,e1,a',rfl,f1,o1,t1⟩:=k1;obtain ⟨_,e2,b',rfl,f2,o2,t2⟩:=k2
     have ra:=yW (n+m+159) ∅ r (eT (.cut A a b)) [[(false,A)],[(true,A)]] ⋯ (by show 2<=2;decide) (λc hc=>by
      simp only [az,bc,or_false] at hc;rcases hc with rfl | rfl<;>exact ⟨by show 1<=2;decide,.one gA.2.1⟩) lr ∅
     have rk:=tU (n+m+159) (.cut A a b) h.ok ∅;have rw':=NZ (n+m+159) A a b a' b' h.ok ∅;refine aL fh rfl rfl rfl ?_;simp only [fh,init,SI,Nat.reduceAdd,Nat.reduceSub];refine bp 1 [.val (.tup (r.map itD)),.val (eT (.cut A a b)),.val (.lst (sh.map .str)),.val (.lst (sh.map .str)),.no,.no] ⋯ ?_;refine cJ [.tup (r.map itD),eT (.cut A a b),.lst (sh.map .str)] ⋯ ((aV (d:=eT (.cut A a b)) ⋯).mpr ⟨_,rfl,?_⟩);refine mJ [eT a',eT b'] (sE (·.1) (·.2.1) (·.2.2) (λx=>[x.1,x.2.1,.lst (sh.map .str)]) [(.tup ((mo (r++[(false,A)])).map itD),eT a,eT a'),(.tup ((mo (r++[(true,A)])).map itD),eT b,eT b')] (by show 2<=_;lia) (FJ (ds:=[.lst [.tup ((mo (r++[(false,A)])).map itD),.tup ((mo (r++[(true,A)])).map itD)],.tup [eT a,eT b]]) (aX (cU [.tup (r.map itD),eT (.cut A a b)] ⋯ ra) (aX (cU [eT (.cut A a b)] ⋯ rk) rfl)) rfl) rfl rfl (λx hx=>by kernel_rfl) λx hx=>?_) (by show 5 < 6;decide) ?_
     . simp only [az,bc,or_false] at hx;rcases hx with rfl | rfl
       . exact e1
       . exact e2
     . exact jv [eT (.cut A a b),.lst [eT a',eT b']] ⋯ ((aV rw').mpr ⟨.cut A a' b',rfl,⟨a,b,rfl,f1,f2⟩,⟨gA.mono λx=>Ae ∅,o1,o2⟩,by simp only [ht];lia⟩)
   | rule L A w ks =>
     have hc:nct (.rule L A w ks):=hs;have gA:=h.ok.1.1;have ys:(XX bs (j+1)).length<=40:=yo h.bl (by have:=Fx (.rule L A w ks);lia);refine aL fh rfl rfl rfl ?_;simp only [fh,init,SI,Nat.reduceAdd,Nat.reduceSub];refine bp 1 [.val (.tup (r.map itD)),.val (eT (.rule L A w ks)),.val (.lst (sh.map .str)),.val (.lst (sh.map .str)),.no,.no] ⋯ ?_;refine cJ [.tup (r.map itD),eT (.rule L A w ks),.lst (sh.map .str)] ⋯ (bU (HK h hc (n+m+10)) ?_);rintro _ ⟨w',ks1,rfl,fq⟩;refine ⟨_,rfl,?_⟩;obtain ⟨q1,q2,q3,q4,q5,q6,q7⟩:=h.kids hc fq;have ok1:okT (XX bs (j+1)) (.rule L A w' ks1):=⟨⟨gA.mono up,h.ok.1.2⟩,q1,q3⟩;have hb:∀ b∈brs L w' A,b.length<=2/\∀ p∈b,Go (XX bs (j+1)) p.2:=λb hb=>Gf (q2.elim .inr λz=>.inl (q1.resolve_left z)) (gA.mono up) b hb;have ra:=yW (n+m+159) ∅ r (eT (.rule L A w' ks1)) (brs L w' A) (HM gA.2.1 gA.1 (kR (by have:=gA.2.2.1;lia)) (Go.pd h.nb gA) h.ok.1.2 (n+m+158) ∅) (zY L w' A) (λb hb'=>⟨(hb b hb').1,Gos (hb b hb').2⟩) lr ∅;have rk:=tU (n+m+159) (.rule L A w' ks1) ok1 (by simp only [ht] at hj |-;lia);obtain ⟨ks',zs,z1,z2,z3,f2,o2,h2,z4⟩:=wa (r:=r) (N:=n+m+160) ks1 (brs L w' A) (by rw [q5,<- hc.1.2.1];exact Jf ..) λk hk b hb'=>kid k b (by have:=jU hk;simp only [ht];lia) (jt q3 k hk) (Di (iQ q4 k hk) (bS (q7 k hk).1 h.wl)) (q7 k hk).2 (hb b hb').1 (hb b hb').2 (.inl (iQ q4 k hk));have rw':=Qf (n+m+159) L A w' ks1 ks' ok1 (by simp only [ht] at hj |-;lia);refine mJ (zs.map (·.2.2)) (sE (·.1) (·.2.1) (·.2.2) (λx=>[x.1,x.2.1,.lst (sh.map .str)]) zs (by have:=zY L w' A;lia) (FJ (ds:=[.lst ((brs L w' A).map λb=>.tup ((mo (r++b)).map itD)),.tup (eTs ks1)]) (aX (cU [.tup (r.map itD),eT (.rule L A w' ks1)] ⋯ ra) (aX (cU [eT (.rule L A w' ks1)] ⋯ rk) rfl)) (by rw [z1];rfl)) rfl rfl (λx hx=>by kernel_rfl) z3) (by show 5 < 6;decide) ?_;rw [z2];exact jv [eT (.rule L A w' ks1),.lst (eTs ks')] ⋯ ((aV rw').mpr ⟨.rule L A w' ks',rfl,⟨w,ks,ks1,rfl,⟨_,fq⟩,f2⟩,⟨⟨gA.mono λx=>Ae ∅,h.ok.1.2⟩,q1.imp id (Ae (by have:=Fx (.rule L A w ks);lia)),o2⟩,by simp only [ht];lia⟩)
def ne_self {X:D} (h:dep X<=150) (hk:kin X X = true):kX .ne X X = some false:=by
 show (if gy X X = true then some (!eqD X X) else none) = _;rw [if_pos (by unfold gy;rw [hk,jQ,aa,decide_eq_true_eq,decide_eq_true_eq];lia),iV _ ∅];rfl
def vZ (N:Nat) (l:List It) (ll:l.length<=100) (shD t0 t1 kD:D) (K F:List D) (hk:kD = .tup K\/kD = .lst K) (kl:K.length<=100) (hF:ixD t1 (.int (-1)) = some (.tup F)) (B:List (List It)) (s6 s7:Sl)
 (H:∀ i:Nat,i < K.length->∃ b x y,B[i]? = some b/\b.length<=2/\K[i]? = some x/\F[i]? = some y/\PP.run Gs gls N 47 [.lst ((l++b).map itD),x,y,shD] = some (.bl true)) :
 wSs ⟨PP.run Gs gls N,gls,hfs Gs⟩ (cB 5 bZ.body) [.val (.lst (l.map itD)),.val t0,.val t1,.val shD,.val kD,.val (brD B),s6,s7,.no] (retS λd=>d = .bl true):=by
 have ss:=s64
 have at':∀ {ds:List D} {i:Nat} {d:D},ds[i]? = some d->atI ds (i:Int) = some d:=λ{ds i d} h=>by
  have hi:=(aF.mp h).1;unfold atI ixN;rw [if_pos ∅,if_pos ∅];exact h
 have ek:evE ⟨PP.run Gs gls N,gls,hfs Gs⟩ (.blt .len (.cons (.var 4) .nil)) [.val (.lst (l.map itD)),.val t0,.val t1,.val shD,.val kD,.val (brD B),s6,s7,.no] = some (.int (K.length:Int),[.val (.lst (l.map itD)),.val t0,.val t1,.val shD,.val kD,.val (brD B),s6,s7,.no]):=km (ds:=[kD]) ⋯ (by rcases hk with rfl | rfl<;>rfl);refine lx _ (zL ek ∅ ∅) ?_;refine iM (λzs δ=>∃ s8,δ = [.val (.lst (l.map itD)),.val t0,.val t1,.val shD,.val kD,.val (brD B),s6,s7,s8]/\∀ z∈zs,∃ i:Nat,i < K.length/\z = .int i) ?_ ?_ _ _ ⟨_,rfl,λz hz=>?_⟩
 . rintro z zs δ ⟨s8,rfl,hz⟩;obtain ⟨i,hi,rfl⟩:=hz z ar;obtain ⟨b,x,y,hb,b2,hx,hy,hr⟩:=H i hi;refine ⟨_,rfl,?_⟩;refine bC (!true) (zK (zJ [.lst ((l++b).map itD),x,y,shD] (aX (dw (x:=.lst (l.map itD)) (y:=.lst (b.map itD)) ⋯ (kg (x:=brD B) (y:=.int i) ⋯ ⋯ (at' (by rw [br,hb];rfl))) ?_) (aX (kg (x:=kD) (y:=.int i) ⋯ ⋯ (by rcases hk with rfl | rfl<;>exact at' hx)) (aX (kg (x:=.tup F) (y:=.int i) (kg (x:=t1) (y:=.int (-1)) ⋯ ⋯ hF) ⋯ (at' hy)) (aX ⋯ rfl)))) hr)) (λe=>by cases e) λ_=>?_
   . show (if (l.map itD).length+(b.map itD).length<=sizeLine then _ else _) = _;rw [if_pos (by simp only [ai];lia),aI]
   . exact ⟨.nx _,rfl,.val (.int i),rfl,λz h=>hz z (ao _ h)⟩
 . rintro δ ⟨s8,rfl,_⟩;exact gH (d:=.bl true) ⋯ rfl
 . obtain ⟨i,hi,rfl⟩:=mT hz;exact ⟨i,by simpa using hi,↥0⟩
def Qx:Ss->Ss
 | .cons (.ifs _ _ b) _=>b
 | _=>.nil
def LP (L:Bool) (A:F) (w:Str) (ks:Ts) {cx:Cl} (s0 s2 s3 s4 s5 s6 s7 s8:Sl):evT cx (.cmp .isin (.tup (.cons (.ix (.ix (.var 1) (.int 2)) (.int 0)) (.cons (.ix (.var 1) (.int 1)) .nil))) (.tup (.cons (.tup (.cons (.str "all") (.cons (.str "right") .nil))) (.cons (.tup (.cons (.str "some") (.cons (.str "left") .nil))) .nil)))) [s0,.val (eT (.rule L A w ks)),s2,s3,s4,s5,s6,s7,s8] = some (own L A,[s0,.val (eT (.rule L A w ks)),s2,s3,s4,s5,s6,s7,s8]):=by
 cases A with
 | un u a=>cases u<;>cases L<;>kernel_rfl
 | bi b x y=>cases b<;>cases L<;>kernel_rfl
 | yes=>cases L<;>kernel_rfl
 | no=>cases L<;>kernel_rfl
 | word x ts=>cases L<;>kernel_rfl
def Gu {sh:List Str} {l:List It}:∀ {ks':Ts} {B:List (List It)} {ks:Ts},Fds sh ks' l B ks->tln ks' = tln ks/\∀ i:Nat,i < tln ks->∃ b k k',B[i]? = some b/\(tsL ks)[i]? = some k/\(tsL ks')[i]? = some k'/\Fd sh k' (l++b) k/\b∈B/\k∈tsL ks/\k'∈tsL ks'
 | .nil,B,ks,h=>by
   have h:ks = .nil:=h;subst h
   exact ⟨rfl,λi hi=>by cases hi⟩
 | .cons k' r',B,ks,h=>by
   obtain ⟨k,r,b,c,rfl,rfl,h1,h2⟩:=h;obtain ⟨e,ih⟩:=Gu h2;refine ⟨congrArg (·+1) e,λi hi=>?_⟩
   cases i with
   | zero=>exact ⟨b,k,k',rfl,rfl,rfl,h1,ar,ar,ar⟩
   | succ i =>
     obtain ⟨b',j,j',a1,a2,a3,a4,a5,a6,a7⟩:=ih i (Nat.lt_of_succ_lt_succ hi);exact ⟨b',j,j',a1,a2,a3,a4,ao _ a5,ao _ a6,ao _ a7⟩
def yV {bs sh:List Str}:∀ (m n:Nat) (t t':T) (l:List It) (j:Nat),ht t<=m->At bs j l l sh t->shp t->Fd sh t' l t->okT (XX bs 29) t'->PP.run Gs gls (n+m+130) 47 [.lst (l.map itD),eT t,eT t',.lst (sh.map .str)] = some (.bl true)
 | 0,n,t,t',l,j,hm,_,_,_,_=>by cases t<;>simp only [ht] at hm<;>lia
 | m+1,n,t,t',l,j,hm,h,hs,hf,ho=>by
   have ss:10000 < sizeLine:=by decide
   have hj:=h.jj;have ll:=h.ll;have up:=qU (bs:=bs) (j:=j)
   have kid:∀ (k k':T) (b:List It),ht k+1<=ht t->okT (XX bs (j+1)) k->wB k->(twT k).length<=(twT t).length->b.length<=2->(∀ p∈b,Go (XX bs (j+1)) p.2)->shp k->Fd sh k' (l++b) k->okT (XX bs 29) k'->PP.run Gs gls (n+m+130) 47 [.lst ((l++b).map itD),eT k,eT k',.lst (sh.map .str)] = some (.bl true):=λk k' b h1 h2 h3 h4 h5 h6 h7 h8 h9=>by
    exact yV m n k k' _ (j+1) ∅ (h.kid h1 h2 h3 h4 h5 h6 (λ_=>bL) (by rw [ag];lia)) h7 h8 h9
   apply aZ
   cases t' with
   | close =>
     have hf:t = .close:=hf;subst hf
     exact (aV ⋯).mpr rfl
   | cut A a' b' =>
     obtain ⟨a,b,rfl,f1,f2⟩:=hf;have gA:=h.ok.1;refine aL bZ rfl rfl rfl ?_;simp only [bZ,init,SI,Nat.reduceAdd,Nat.reduceSub];refine bC false ⋯ (λe=>by cases e) λ_=>bC false ⋯ (λe=>by cases e) λ_=>?_;refine bp 1 [.val (.lst (l.map itD)),.val (eT (.cut A a b)),.val (eT (.cut A a' b')),.val (.lst (sh.map .str)),.val (.tup [eT a,eT b]),.no,.no,.no,.no] ⋯ ?_;refine bC true ⋯ (λ_=>?_) λe=>by cases e
     refine bp 1 [.val (.lst (l.map itD)),.val (eT (.cut A a b)),.val (eT (.cut A a' b')),.val (.lst (sh.map .str)),.val (.tup [eT a,eT b]),.val (brD [[(false,A)],[(true,A)]]),.no,.no,.no] ⋯ ?_;refine bC false (gq (x:=.tup [.str "cut",enc A]) (y:=.tup [.str "cut",enc A]) ⋯ ⋯ (ne_self (by have:=jk A;have:=gA.2.1;simp only [dep,dh,kq];lia) rfl)) (λe=>by cases e) λ_=>?_;refine bC false ⋯ (λe=>by cases e) λ_=>?_;refine vZ (n+m+130) l ∅ (.lst (sh.map .str)) (eT (.cut A a b)) (eT (.cut A a' b')) (.tup [eT a,eT b]) [eT a,eT b] [eT a',eT b'] (.inl rfl) (by show 2<=100;decide) rfl [[(false,A)],[(true,A)]] _ _ λi hi=>?_
     match i,hi with
     | 0,_=>exact ⟨_,_,_,rfl,by show 1<=2;decide,rfl,rfl,kid a a' _ (by simp only [ht];lia) (okT.mono up a h.ok.2.1) h.wl.1 (qe (t:=.cut A a b) (by simp [iT])) (by show 1<=2;decide) (λp hp=>by rw [aK.mp hp];exact gA.mono up) hs.1 f1 ho.2.1⟩
     | 1,_=>exact ⟨_,_,_,rfl,by show 1<=2;decide,rfl,rfl,kid b b' _ (by simp only [ht];lia) (okT.mono up b h.ok.2.2) h.wl.2 (qe (t:=.cut A a b) (by simp [iT])) (by show 1<=2;decide) (λp hp=>by rw [aK.mp hp];exact gA.mono up) hs.2 f2 ho.2.2⟩
   | rule L A w' ks' =>
     obtain ⟨w,ks,ks1,rfl,⟨jq,fq⟩,fk⟩:=hf;have hc:nct (.rule L A w ks):=hs;have gA:=h.ok.1.1;have x40:=yo h.bl (show j<=28 by lia);have bin:=h.bin;have w1:=Of h.nb (n+m+118) l ∅ h.go;have w2:=Jy h.nb 100 (n+m+18) (.rule L A w ks) ∅ ⇑0 h.ok hc h.wl
     have lb:(kz l sh).length<=2000:=by
      have:∀ l:List It,(∀ p∈l,Go (XX bs j) p.2)->(l.flatMap λp=>cG p.2).length<=30 * l.length:=λl=>by
       induction l with
       | nil=>intro _;exact ax _
       | cons p l ih =>
         intro hg;have h1:(cG p.2).length<=30:=aS (bX _ _) (hg p ar).2.2.1;have h2:=ih λq hq=>hg q (ao _ hq);rw [bO,ag,aw]
         lia
      have:=this l h.go;have:=h.sl;unfold kz;rw [ag]
      lia
     have lw:(lnW (.rule L A w ks)).length < 4000:=bS (zt _) h.wl;obtain ⟨q1,q2,q3,q4,q5,q6,q7⟩:=h.kids hc fq;have hb:∀ b∈brs L w' A,b.length<=2/\∀ p∈b,Go (XX bs (j+1)) p.2:=λb hb=>Gf (q2.elim .inr λz=>.inl (q1.resolve_left z)) (gA.mono up) b hb;have w3:=DZ (n+m+129) L w' A h.ok.1.2 (by have:=gA.1;lia) (by have:=gA.1;lia) (kR (by have:=gA.2.2.1;lia)) (Go.pd h.nb gA);obtain ⟨et,fa⟩:=Gu fk
     have tail:∀ kD:D,kD = .tup ((tsL ks1).map eT)\/kD = .lst ((tsL ks1).map eT)->∀ s7,wSs ⟨PP.run Gs gls (n+m+130),gls,hfs Gs⟩ (wD (cB 3 (Qx (cB 3 bZ.body))) (cB 4 bZ.body)) [.val (.lst (l.map itD)),.val (eT (.rule L A w ks)),.val (eT (.rule L A w' ks')),.val (.lst (sh.map .str)),.val kD,.no,.val (.str w'),s7,.no] (retS λd=>d = .bl true):=λkD hk s7=>by
      refine bC false (gq (x:=.tup [.str "rule",.str (sd L),enc A,.str w']) (y:=.tup [.str "rule",.str (sd L),enc A,.str w']) ⋯ ⋯ (ne_self (by have:=jk A;have:=gA.2.1;simp only [dep,dh,kq];lia) rfl)) (λe=>by cases e) λ_=>?_;refine cJ [.str (sd L),enc A,.str w'] ⋯ ((aV w3).mpr ⟨_,rfl,?_⟩)
      have len:ky .len [kD] = some (.int (tln ks1:Int)):=by
       rw [<- jf];rcases hk with rfl | rfl
       . show some (D.int (((tsL ks1).map eT).length:Int)) = _;rw [ai]
       . show some (D.int (((tsL ks1).map eT).length:Int)) = _;rw [ai]
      refine bC (false || false) (qN ⋯ (gq (x:=.int (tln ks':Int)) (y:=.int (tln ks1:Int)) (km (ds:=[.tup (eTs ks')]) ⋯ (by rw [<- zO];rfl)) (km (ds:=[kD]) ⋯ len) (by rw [et];show some (!(decide _)) = _;rw [decide_eq_true rfl];rfl))) (λe=>by cases e) λ_=>?_;refine vZ (n+m+130) l ∅ (.lst (sh.map .str)) (eT (.rule L A w ks)) (eT (.rule L A w' ks')) kD ((tsL ks1).map eT) (eTs ks') hk (by rw [ai,jf,q5];have:=hc.1.1;lia) rfl (brs L w' A) _ _ λi hi=>?_;rw [ai,jf] at hi;obtain ⟨b,k,k',a1,a2,a3,a4,a5,a6,a7⟩:=fa i hi;refine ⟨b,eT k,eT k',a1,(hb b a5).1,by rw [br,a2];rfl,by rw [gu,br,a3];rfl,kid k k' b (by have:=jU a6;simp only [ht];lia) (jt q3 k a6) (Di (iQ q4 k a6) (bS (q7 k a6).1 h.wl)) (q7 k a6).2 (hb b a5).1 (hb b a5).2 (xF (iQ q4 k a6)) a4 (jt ho.2.2 k' a7)⟩
     refine aL bZ rfl rfl rfl ?_;simp only [bZ,init,SI,Nat.reduceAdd,Nat.reduceSub];refine bC false ⋯ (λe=>by cases e) λ_=>bC false ⋯ (λe=>by cases e) λ_=>?_;refine bp 1 [.val (.lst (l.map itD)),.val (eT (.rule L A w ks)),.val (eT (.rule L A w' ks')),.val (.lst (sh.map .str)),.val (.tup (eTs ks)),.no,.no,.no,.no] ⋯ ?_;refine bC false ⋯ (λe=>by cases e) λ_=>?_;refine bp 1 [.val (.lst (l.map itD)),.val (eT (.rule L A w ks)),.val (eT (.rule L A w' ks')),.val (.lst (sh.map .str)),.val (.tup (eTs ks)),.no,.val (.str w),.no,.no] ⋯ ?_;refine gU (.lst ((kz l sh).map .str)) (dw (x:=.lst ((l.flatMap λp=>cG p.2).map .str)) (y:=.lst (sh.map .str)) (cU [.lst (l.map itD)] ⋯ w1) ⋯ (nG (by unfold kz at lb;rw [ag] at lb;lia))) ⟨_,rfl,?_⟩;refine bC (own L A && decide (w∈kz l sh)) (IW (LP ..) (gq (x:=.str w) (y:=.lst ((kz l sh).map .str)) ⋯ ⋯ uu)) (λe=>?_) λe=>?_
     . rw [aa,decide_eq_true_eq] at e;rcases fq with ⟨_,i,_,hfr,rfl,rfl⟩ | ⟨z,_⟩
       . have out:nS (j+1)∉kz l sh++lnW (.rule L A w ks):=λy=>by
          refine xU h.bo h.j4 ∅ ?_;rcases aA.mp y with y | y
          . exact bin _ y
          . exact qF h.nb h.ok _ ((Fj (vO _)).mp y)
         refine cJ [.lst ((kz l sh++lnW (.rule L A w ks)).map .str)] (aX (dw (x:=.lst ((kz l sh).map .str)) (y:=.lst ((lnW (.rule L A w ks)).map .str)) ⋯ (cU [eT (.rule L A w ks)] ⋯ w2) (nG ∅)) rfl) (bU (HL (n+m+129) _ (j+1) ∅ out) ?_);rintro _ ⟨i2,rfl,_,hfr2⟩;obtain rfl:=hfr.uni hfr2 λ_=>bL;refine ⟨_,rfl,mJ ((tsL ks).map λk=>eT (chT w (nS i) k)) (jF eT (λk=>eT (chT w (nS i) k)) (λk=>[eT k,.str w,.str (nS i)]) (tsL ks) (by rw [jf];have:=hc.1.1;lia) (oz (d:=.tup (eTs ks)) ⋯ (by rw [<- gu];rfl)) rfl (λk hk=>by kernel_rfl) λk hk=>qw (xs:=XX bs j) w (nS i) 100 (n+m+15) k (by have:=jU hk;simp only [ht] at hj;lia) ⇑0 (jt h.ok.2.2 k hk) (iQ hc.2 k hk)) (by show 4 < 9;decide) ?_⟩;exact tail (.lst ((tsL ks).map λk=>eT (chT w (nS i) k))) (.inr (by rw [qS,fM];rfl)) _
       . exact absurd e z
     . rcases fq with ⟨z,_⟩ | ⟨_,rfl,rfl⟩
       . rw [z.1,decide_eq_true z.2] at e;cases e
       . exact tail (.tup (eTs ks1)) (.inl (by rw [gu])) _
def nx (A:F) (w:Str) (ns:List Str):List Str:=if bnd A = true then w::ns else ns
mutual
noncomputable def fsh:T->List Str->Prop
 | .close,_=>True
 | .rule L A w ks,ns=>(own L A = true->w∉ns)/\(∀ x∈cG A,x∈ns)/\vX ks (nx A w ns)
 | .cut A a b,ns=>(∀ x∈cG A,x∈ns)/\fsh a ns/\fsh b ns
noncomputable def vX:Ts->List Str->Prop
 | .nil,_=>True
 | .cons t r,ns=>fsh t ns/\vX r ns
end
def Iv {A:F} {w:Str} {ns ms:List Str} (h:∀ x,x∈ns↔x∈ms) (x:Str):x∈nx A w ns↔x∈nx A w ms:=by
 unfold nx;split
 . rw [az,az,h]
 . exact h x
mutual
theorem fsh.same:∀ (t:T) {ns ms:List Str},(∀ x,x∈ns↔x∈ms)->fsh t ns->fsh t ms
 | .close,_,_,_,_=>trivial
 | .rule _ _ _ ks,_,_,h,g=>⟨λo z=>g.1 o ((h _).mpr z),λx hx=>(h x).mp (g.2.1 x hx),vX.same ks (Iv h) g.2.2⟩
 | .cut _ a b,_,_,h,g=>⟨λx hx=>(h x).mp (g.1 x hx),fsh.same a h g.2.1,fsh.same b h g.2.2⟩
theorem vX.same:∀ (ks:Ts) {ns ms:List Str},(∀ x,x∈ns↔x∈ms)->vX ks ns->vX ks ms
 | .nil,_,_,_,_=>trivial
 | .cons t r,_,_,h,g=>⟨fsh.same t h g.1,vX.same r h g.2⟩
end
def Iw {A:F} {w:Str} {x:Str} (h:x∈cG (dA (pf w) A 0)):x = w\/x∈cG A:=by
 unfold cG at h |-;obtain ⟨h1,h2⟩:=bV.mp h;obtain ⟨s,hs,j,e⟩:=(hZ (pf w) A 0).2 x h1;unfold pf at e;split at e
 . exact .inl e
 . rw [e] at h2 |-;exact .inr (bV.mpr ⟨hs,h2⟩)
def Iz {L:Bool} {w:Str} {A:F} {ns:List Str} (hA:∀ x∈cG A,x∈ns) {b:List It} (hb:b∈brs L w A) {p:It} (hp:p∈b):∀ x∈cG p.2,x∈nx A w ns:=λx hx=>by
 obtain ⟨_,_,h3⟩:=zZ L w A b hb;obtain ⟨a,ha,e⟩:=h3 p hp
 have sub:∀ y∈cG a,y∈ns:=λy hy=>by
  unfold cG at hy;obtain ⟨h1,h2⟩:=bV.mp hy;exact hA y (by unfold cG;exact bV.mpr ⟨(yM ha).2.2.2 y h1,h2⟩)
 have up:∀ y∈ns,y∈nx A w ns:=λy hy=>by
  unfold nx;split
  . exact ao _ hy
  . exact hy
 rcases e with e | ⟨hbd,e⟩
 . rw [e] at hx;exact up x (sub x hx)
 . rw [e] at hx;rcases Iw hx with rfl | z
   . unfold nx;rw [if_pos hbd];exact ar
   . exact up x (sub x z)
mutual
theorem pQ:∀ (t' t:T) (l:List It) (ns:List Str),Fd [] t' l t->fsh t ns->(∀ p∈l,∀ x∈cG p.2,x∈ns)->t' = t
 | .close,t,l,ns,h,_,_=>(show t = .close from h).symm
 | .cut A a' b',t,l,ns,h,g,hl=>by
   obtain ⟨a,b,rfl,f1,f2⟩:=h;have ap:∀ (q:It),q.2 = A->∀ p∈l++[q],∀ x∈cG p.2,x∈ns:=λq e p hp=>(aA.mp hp).elim (hl p) λz=>by rw [aK.mp z,e];exact g.1
   rw [pQ a' a _ ns f1 g.2.1 (ap _ rfl),pQ b' b _ ns f2 g.2.2 (ap _ rfl)]
 | .rule L A w' ks',t,l,ns,h,g,hl=>by
   obtain ⟨w,ks,ks1,rfl,⟨j,fq⟩,fk⟩:=h;rcases fq with ⟨z,_⟩ | ⟨_,rfl,rfl⟩
   . refine absurd ?_ (g.1 z.1);rcases aA.mp z.2 with z | z
     . obtain ⟨p,hp,z⟩:=cZ.mp z;exact hl p hp w z
     . cases z
   . rw [wJ ks' ks1 l (brs L w' A) (nx A w' ns) fk g.2.2 λb hb p hp=>(aA.mp hp).elim (λz x hx=>by
      have:=hl p z x hx;unfold nx;split
      . exact ao _ this
      . exact this) λz=>Iz g.2.1 hb z]
theorem wJ:∀ (ks' ks:Ts) (l:List It) (B:List (List It)) (ns:List Str),Fds [] ks' l B ks->vX ks ns->(∀ b∈B,∀ p∈l++b,∀ x∈cG p.2,x∈ns)->ks' = ks
 | .nil,ks,_,_,_,h,_,_=>(show ks = .nil from h).symm
 | .cons t' r',ks,l,B,ns,h,g,hl=>by
   obtain ⟨t,r,b,c,rfl,rfl,f1,f2⟩:=h;rw [pQ t' t _ ns f1 g.1 (hl b ar),wJ r' r l c ns f2 g.2 λb' hb'=>hl b' (ao _ hb')]
end
def tV (n:Nat) (ns:List Int) (k:Int) (h0:0<=k) (h1:k<=1000):fw Gs gls (n+1) 26 [.lst (ns.map .int),.int k] λd=>∃ c:Int,d = .int c:=by
 refine aL jo rfl rfl rfl ?_;simp only [jo,init,SI,Nat.reduceAdd,Nat.reduceSub];simp only [↓WS,↓WC,WI,↓reduceIte];have hl:(ns.map D.int).length = ns.length:=ai _;rw [hl];split
 . rename_i h;obtain ⟨d,hm,e⟩:=qT (ds:=ns.map D.int) h0 (by rw [hl];exact h);obtain ⟨c,_,rfl⟩:=bj.mp hm;exact ⟨_,e,c,rfl⟩
 . refine ⟨mul_r ⇑0 ⇑0,?_⟩;split
   . rename_i h;obtain ⟨d,hm,e⟩:=qT (ds:=ns.map D.int) (j:=k * 7 % (ns.length:Int)) (dy _ ∅) (by rw [hl];exact cF _ h);obtain ⟨c,_,rfl⟩:=bj.mp hm;refine ⟨mul_r ⇑0 ⇑0,h,_,e,?_⟩;simp only [↓WS,↓WC,WI,↓reduceIte];have a1:=dy (c * 48271) (show (2147483647:Int)≠0 by decide);have a2:=cF (c * 48271) (show (0:Int) < 2147483647 by decide);exact ⟨mul_r ⇑0 ⇑0,⇑0,mul_r ⇑0 ⇑0,mul_r ∅ ∅,⇑0,_,rfl⟩
   . exact ⟨mul_r ∅ ∅,⇑0,_,rfl⟩
def tQ (x:Str) (n:Nat):(xI x n).length = n * x.length:=by
 show ((aO n x.cps.toList).flatten.toArray).size = n * x.cps.size;simp
def Jh (x y:Str):(x++y).length = x.length+y.length:=by
 show (x.cps++y.cps).size = _;rw [Co];rfl
def nq (t:Str):Prop:=∃ c r,t.cps.toList = c::r/\97<=c/\c<=122/\c≠99/\c≠110
def nq.nm {t:Str} (h:nq t):nm t:=let ⟨c,r,e,a,b,_⟩:=h;⟨c,r,e,a,b⟩
def ES {a b:Str} (h:nq a):nq (a++b):=by
 obtain ⟨c,r,e,h1,h2⟩:=h;refine ⟨c,r++b.cps.toList,?_,h1,h2⟩;show (a.cps++b.cps).toList = _;rw [cO,e];rfl
def Mu {f a:Str} (hf:nq f) (ha:nq a):∀ k:Nat,nq (xI f k++a)
 | 0=>by
   obtain ⟨c,r,e,h⟩:=ha;refine ⟨c,r,?_,h⟩;show ((aO 0 f.cps.toList).flatten.toArray++a.cps).toList = _
   simp [e]
 | k+1=>by
   refine ES ?_;obtain ⟨c,r,e,h⟩:=hf;refine ⟨c,r++(aO k f.cps.toList).flatten,?_,h⟩;show ((aO (k+1) f.cps.toList).flatten.toArray).toList = _;rw [BW,List.flatten_cons,e];rfl
def xJ (n:Nat) (c:Int) (f:Str) (hf:f.length = 1) (hm:nq f) (k:Int) (h0:0<=k) (h1:k<=2):fw Gs gls (n+1) 27 [.int c,.str f,.int k] λd=>∃ w:Str,d = .str w/\nq w:=by
 refine aL jl rfl rfl rfl ?_;simp only [jl,init,SI,Nat.reduceAdd,Nat.reduceSub];have a1:=dy c (show (8:Int)≠0 by decide);have a2:=cF c (show (0:Int) < 8 by decide);have b1:=dy (c / 8) (show 1+c % 8≠0 by lia);have b2:=cF (c / 8) (show 0 < 1+c % 8 by lia);simp only [↓WS,↓WC,WI,↓reduceIte];obtain ⟨x,hx,ex⟩:=qT (ds:=(("bdghjk":Str).cps.toList)) (j:=k) h0 (by show k < 6;lia);have hx:=(show ∀ u∈("bdghjk":Str).cps.toList,97<=u/\u<=122/\u≠99/\u≠110 by decide) x hx;have ss:=s64;refine ⟨⇑0,⇑0,∅,⟨∅,∅,∅⟩,⇑0,x,ex,?_,⟨∅,∅,∅⟩,?_,_,rfl,?_⟩
 . rw [tQ,hf];show _+1<=_;lia
 . rw [Jh,tQ,tQ,hf];show _+1+_<=_;lia
 . exact ES (Mu hm ⟨x,[],rfl,hx⟩ _)
def Ea (n:Nat) (c f:Int) (xs:List Str) (h0:0 < xs.length) (h1:xs.length < 100):fw Gs gls (n+2) 28 [.int c,.int f,.lst (xs.map .str)] λd=>∃ (w:Str) (ts:List Str),d = enc (.word w ts)/\ts.length<=3/\∀ t∈ts,t∈xs:=by
 refine aL jn rfl rfl rfl ?_;simp only [jn,init,SI,Nat.reduceAdd,Nat.reduceSub];have a1:=dy (c / 5) (show (4:Int)≠0 by decide);have a2:=cF (c / 5) (show (0:Int) < 4 by decide);simp only [aw,aD,↓WS,↓WC,WI,↓reduceIte];refine ⟨⇑0,⇑0,⇑0,⟨∅,∅⟩,?_⟩;refine iM (λzs δ=>∃ (ts:List Str) (s:Sl),δ = [.val (.int c),.val (.int f),.val (.lst (xs.map .str)),.own (ts.map .str),s]/\(ts.length+zs.length<=3/\∀ t∈ts,t∈xs)/\∀ z∈zs,∃ i:Nat,i < 10/\z = .int i) ?_ ?_ _ _ ⟨[],_,rfl,⟨by rw [tM];simp only [aD];lia,λ_ h=>by cases h⟩,λz hz=>?_⟩
 . rintro z zs δ ⟨ts,s,rfl,⟨hl,ht⟩,hz⟩;obtain ⟨i,hi,rfl⟩:=hz z ar;rw [aw] at hl;have ss:=s64;simp only [ai,↓WS,↓WC,WI,↓reduceIte];have e1:=dy (c / (7+4 * (i:Int))) (show (xs.length:Int)≠0 by lia);have e2:=cF (c / (7+4 * (i:Int))) (show (0:Int) < (xs.length:Int) by lia);obtain ⟨d,hd,et⟩:=qT (ds:=xs.map D.str) e1 (by rw [ai];exact e2);obtain ⟨t,ht2,rfl⟩:=bj.mp hd;exact ⟨mul_r ∅ ∅,⟨∅,∅⟩,∅,_,et,∅,ts++[t],_,by rw [aI];rfl,⟨by rw [ag,aU];lia,λq hq=>(aA.mp hq).elim (ht q) λz=>by rw [aK.mp z];exact ht2⟩,λz q=>hz z (ao _ q)⟩
 . rintro δ ⟨ts,s,rfl,⟨hl,ht⟩,_⟩;simp only [aw,aD,↓WS,↓WC,WI,↓reduceIte];have e1:=dy c (show (3:Int)≠0 by decide);have e2:=cF c (show (0:Int) < 3 by decide);refine ⟨⇑0,bU (xJ n f "q" ⇑0 ⟨113,[],rfl,⇑0,⇑0,⇑0,⇑0⟩ (c % 3) e1 ∅) ?_⟩;rintro _ ⟨w,rfl,_⟩;exact ⟨⇑0,w,ts,rfl,by simpa using hl,ht⟩
 . obtain ⟨i,hi,rfl⟩:=mT hz;exact ⟨i,∅,↥0⟩
def tm (xs:List Str) (d:Nat) (t:Str):Prop:=t∈xs\/∃ j:Int,0<=j/\j < d/\t = pl j
def St (xs:List Str) (d k:Nat) (A:F):Prop:=hF A<=k+1/\sz A < 2 ^ (k+1)/\(tms A).length<=3 * 2 ^ k/\∀ t∈tms A,tm xs d t
def St.up {xs:List Str} {d e k j:Nat} {A:F} (h:St xs d k A) (h1:d<=e) (h2:k<=j):St xs e j A:=by
 obtain ⟨a,b,c,t⟩:=h;have p1:2 ^ (k+1)<=2 ^ (j+1):=fJ ⇑0 ∅;have p2:2 ^ k<=2 ^ j:=fJ ⇑0 h2;refine ⟨∅,∅,∅,λq hq=>(t q hq).imp id ?_⟩;rintro ⟨j,j0,j1,e⟩;exact ⟨j,j0,∅,e⟩
def St.un {xs:List Str} {d k:Nat} {A:F} (u:U) (h:St xs d k A):St xs d (k+1) (.un u A):=by
 obtain ⟨a,b,c,t⟩:=h;rw [cu] at b;refine ⟨by simp only [hF];lia,by simp only [sz,cu];have:=mB (n:=k) (show 0 < 2 by decide);lia,by rw [cu];show (tms A).length<=_;lia,t⟩
def St.bi {xs:List Str} {d k:Nat} {A B:F} (u:P1.B) (h:St xs d k A) (g:St xs d k B):St xs d (k+1) (.bi u A B):=by
 obtain ⟨a,b,c,t⟩:=h;obtain ⟨a',b',c',t'⟩:=g;rw [cu] at b b';refine ⟨by simp only [hF];lia,by simp only [sz,cu];lia,?_,λq hq=>?_⟩
 . show (tms A++tms B).length<=_;rw [ag,cu];lia
 . exact (aA.mp hq).elim (t q) (t' q)
def St.lf {xs:List Str} {d k:Nat} {A:F} (h:A = .yes\/A = .no):St xs d k A:=by
 have:=mB (n:=k) (show 0 < 2 by decide);rcases h with rfl | rfl<;>exact ⟨by simp only [hF];lia,by simp only [sz,cu];lia,by simp [tms],λt ht=>by cases ht⟩
def kinds:List Str:=["word","not","and","or","if","all","some","yes","no","word"]
def IJ (v:Int):∃ s:Str,atI (kinds.map D.str) (v % 10) = some (.str s)/\(((s == "yes") || (s == "no") || (s == "word") || (s == "not") || (s == "all") || (s == "some")) = true\/∃ b:B,s = b.s):=by
 obtain ⟨x,hx,e⟩:=qT (ds:=kinds.map D.str) (dy v (show (10:Int)≠0 by decide)) (cF v (show (0:Int) < 10 by decide));obtain ⟨s,hs,rfl⟩:=bj.mp hx;refine ⟨s,e,?_⟩;rcases (show ∀ s∈kinds,((s == "yes") || (s == "no") || (s == "word") || (s == "not") || (s == "all") || (s == "some")) = true\/s = "and"\/s = "or"\/s = "if" by decide) s hs with h | h | h | h
 . exact .inl h
 . exact .inr ⟨.and,h⟩
 . exact .inr ⟨.or,h⟩
 . exact .inr ⟨.imp,h⟩
def Hi {P:D->D->Prop} {d:Nat} (hP:∀ x y,P x y->∃ j:Int,0<=j/\j < d/\y = .str (pl j)) {ds ys:List D} (r:Paired P ds ys):∃ ps:List Str,ys = ps.map .str/\ps.length = ds.length/\∀ p∈ps,∃ j:Int,0<=j/\j < d/\p = pl j:=by
 induction r with
 | nil=>exact ⟨[],rfl,rfl,λ_ h=>by cases h⟩
 | cons h t ih =>
   obtain ⟨j,j0,j1,rfl⟩:=hP _ _ h;obtain ⟨cs,rfl,hl,hc⟩:=ih;exact ⟨pl j::cs,rfl,by simp [hl],λp hp=>(az.mp hp).elim (λe=>⟨j,j0,j1,e⟩) (hc p)⟩
def Oa (n d:Nat) (hd:d < 90) {a b c e f g h i:Sl} {Q:List D->PP.Loc->Prop} (q:∀ ps:List Str,ps.length = d->(∀ p∈ps,∃ j:Int,0<=j/\j < d/\p = pl j)->Q (ps.map .str) [a,b,c,e,f,g,h,i]):lQ ⟨PP.run Gs gls n,gls,hfs Gs⟩ 1 (.nm 8) .no (.blt .toStr (.cons (.var 8) .nil)) (om 0 (d:Int).toNat) [a,b,c,e,f,g,h,i] Q:=by
 refine qb (λ_ y=>∃ j:Int,0<=j/\j < d/\y = .str (pl j)) _ ?_ ?_
 . intro z hz;obtain ⟨j,hj,rfl⟩:=mT hz;have hj:j < d:=by simpa using hj
   simp only [SI,↓WS,↓WC,WI,↓reduceIte];exact ⟨trivial,iJ ∅ ∅,⟨0+(j:Int),∅,∅,rfl⟩,rfl⟩
 . intro ys r;obtain ⟨ps,rfl,hl,hp⟩:=Hi (λ_ _ h=>h) r;rw [tM] at hl;exact q ps (by simpa using hl) hp
def Sq (f:Int) (xs:List Str) (k:Nat):Prop:=∀ (n d:Nat) (c:Int),xs.length+d+k < 90->fw Gs gls (n+k+3) 29 [.int c,.int k,.int d,.lst (xs.map .str),.int f] λD=>∃ A,D = enc A/\St xs (d+k) k A
def Jx (f:Int) (xs:List Str) (h0:0 < xs.length) (k:Nat) (ih:∀ j,k = j+1->Sq f xs j):Sq f xs k:=by
 intro n d c h1;obtain ⟨s,es,ks⟩:=IJ c;have ss:=s64;refine aL fx rfl rfl rfl ?_;simp only [fx,init,SI,Nat.reduceAdd,Nat.reduceSub];refine gU (.str s) (kg (x:=.lst (kinds.map .str)) (y:=.int (c % 10)) ⋯ ⋯ es) ⟨_,rfl,?_⟩;refine bp 1 [.val (.int c),.val (.int k),.val (.int d),.val (.lst (xs.map .str)),.val (.int f),.val (.str s),.val (.int (c / 10)),.no] ⋯ ?_;refine bC ((s == "yes") || (s == "no")) (qN ⋯ ⋯) (λh=>gH (d:=.tup [.str s]) ⋯ ?_) λhz=>?_
 . rcases BZ.mp h with h | h<;>rw [eq_of_beq h]
   . exact ⟨.yes,rfl,.lf (.inl rfl)⟩
   . exact ⟨.no,rfl,.lf (.inr rfl)⟩
 obtain ⟨n1,n2⟩:=lW.mp hz;simp only [wD,aw,aD,↓WS,↓WC,WI,↓reduceIte];refine JM (λ_=>⟨⟨∅,∅⟩,Oa _ d ∅ λps pl pj=>⟨?_,?_,?_⟩⟩) λn3 n4=>?_
 . rw [ai];lia
 . rw [ai,ai];lia
 . rw [<- aI];refine bU (Ea (n+k) (c / 10) f (xs++ps) (by rw [ag];lia) (by rw [ag];lia)) ?_;rintro _ ⟨w,ts,rfl,tl,tt⟩;have:=mB (n:=k) (show 0 < 2 by decide);refine ⟨_,rfl,by simp only [hF];lia,by simp only [sz,cu];lia,?_,λt ht=>?_⟩
   . show ts.length<=_;lia
   . refine (aA.mp (tt t ht)).imp id λz=>?_;obtain ⟨j,j0,j1,e⟩:=pj t z;exact ⟨j,j0,∅,e⟩
 obtain ⟨k,rfl⟩:∃ i,k = i+1:=⟨k - 1,∅⟩;rw [show ((k+1:Nat):Int) - 1 = (k:Int) by lia,show (d:Int)+1 = ((d+1:Nat):Int) by lia];have ih:=λd c h=>ih k rfl n d c h;refine Bz (λe=>?_) λn5=>JM (λh=>?_) λn6 n7=>⟨mul_r ⇑0 ⇑0,⇑0,?_⟩
 . refine bU (ih d _ ∅) ?_;rintro _ ⟨A,rfl,h⟩;exact ⟨⇑0,.un .neg A,rfl,(h.un .neg).up ∅ ∅⟩
 . refine bU (ih (d+1) _ ∅) ?_;rintro _ ⟨A,rfl,hA⟩;refine ⟨⇑0,?_⟩;rcases h with h | h<;>rw [eq_of_beq h]
   . exact ⟨.un .all A,rfl,(hA.un .all).up ∅ ∅⟩
   . exact ⟨.un .ex A,rfl,(hA.un .ex).up ∅ ∅⟩
 . refine bU (ih d _ ∅) ?_;rintro _ ⟨A,rfl,hA⟩;refine ⟨mul_r ⇑0 ⇑0,⇑0,bU (ih d _ ∅) ?_⟩;rintro _ ⟨C,rfl,hC⟩;rcases ks with ks | ⟨b,rfl⟩
   . simp only [dv] at ks
     simp_all
   . exact ⟨⇑0,.bi b A C,rfl,(hA.bi b hC).up ∅ ∅⟩
def oM (f:Int) (xs:List Str) (h0:0 < xs.length):∀ k,Sq f xs k
 | 0=>Jx f xs h0 0 λj e=>by cases e
 | k+1=>Jx f xs h0 (k+1) λj e=>by cases e;exact oM f xs h0 k
def jA:∀ (A:F) (n:Nat) (nm:Str) (k:Int),hF A<=n->0<=k->k+hF A < 1000->okF A->PP.run Gs gls n 33 [enc A,.str nm,.int k] = some (enc (dA (bf nm) A k))
 | .yes,n+1,nm,k,h,h0,h1,o=>by kernel_rfl
 | .no,n+1,nm,k,h,h0,h1,o=>by kernel_rfl
 | .word w ts,n+1,nm,k,h,h0,h1,o=>by
   have o':ts.length<=1000:=o;have ss:=s64;apply aZ;refine aL cA rfl rfl rfl ?_;simp only [cA,init,SI,Nat.reduceAdd,Nat.reduceSub];refine bR.mpr (gk ⟨true,_,⋯,rfl,rfl⟩ ?_);refine bp 1 [.val (enc (.word w ts)),.val (.str nm),.val (.int k),.own [],.no] ⋯ ?_;simp only [cB,enc,aw,aD,↓WS,↓WC,WI,↓reduceIte];refine eZ (g:=D.str) (λrest δ=>∃ (acc:List Str) (s:Sl),δ = [.val (.tup [.str "word",.str w,.tup (ts.map .str)]),.val (.str nm),.val (.int k),.own (acc.map .str),s]/\acc++rest.map (λt=>bf nm t k) = ts.map (λt=>bf nm t k)/\acc.length+rest.length<=1000) ?_ ?_ _ _ ⟨[],_,rfl,rfl,by simpa using o'⟩
   . rintro x rest δ ⟨acc,s,rfl,e,hl⟩;rw [aw] at hl;simp only [↓WS,↓WC,WI,↓reduceIte];rw [aW] at e;have hl2:(acc.map D.str).length < sizeLine:=by rw [ai];lia
     refine Bz (λe1=>⟨iJ h0 (by simp only [hF] at h1;lia),hl2,acc++[((toString k:String):Str)],_,by rw [aI];rfl,?_,by rw [ag,aU];lia⟩) λe1=>⟨hl2,acc++[x],_,by rw [aI];rfl,?_,by rw [ag,aU];lia⟩
     . rw [<- e,show bf nm x k = ((toString k:String):Str) from if_pos e1,cz];rfl
     . rw [<- e,show bf nm x k = x from if_neg e1,cz];rfl
   . rintro δ ⟨acc,s,rfl,e,_⟩;simp only [aw,aD,↓WS,↓WC,WI,↓reduceIte];refine ⟨⇑0,?_⟩;rw [kN,aY] at e;rw [e]
     rfl
 | .un .neg a,n+1,nm,k,h,h0,h1,o=>by
   have ih:=jA a n nm k (by simp only [hF] at h;lia) h0 (by simp only [hF] at h1;lia) o;apply aZ;refine aL cA rfl rfl rfl ?_;simp only [cA,init,SI,Nat.reduceAdd,Nat.reduceSub];refine bp 2 [.val (enc (.un .neg a)),.val (.str nm),.val (.int k),.no,.no] ⋯ ?_;simp only [cB,enc,↓nV,↓fb,↓fX,SI,mC,Nat.reduceAdd,↓WS,↓WC,WI,↓reduceIte]
   exact ⟨⇑0,(aV ih).mpr ⟨⇑0,⇑0,by rw [show dA (bf nm) (.un .neg a) k = .un .neg (dA (bf nm) a k) by simp [dA,up]];rfl⟩⟩
 | .un .all a,n+1,nm,k,h,h0,h1,o=>by
   have ih:=jA a n nm (k+1) (by simp only [hF] at h;lia) ∅ (by simp only [hF] at h1;lia) o;apply aZ;refine aL cA rfl rfl rfl ?_;simp only [cA,init,SI,Nat.reduceAdd,Nat.reduceSub];refine bp 1 [.val (enc (.un .all a)),.val (.str nm),.val (.int k),.no,.no] ⋯ (bR.mpr (gk ?_ ?_))
   . exact ⟨true,_,⋯,rfl,rfl⟩
   simp only [enc,aw,aD,↓WS,↓WC,WI,↓reduceIte]
   exact (aV ih).mpr ⟨⇑0,rfl⟩
 | .un .ex a,n+1,nm,k,h,h0,h1,o=>by
   have ih:=jA a n nm (k+1) (by simp only [hF] at h;lia) ∅ (by simp only [hF] at h1;lia) o;apply aZ;refine aL cA rfl rfl rfl ?_;simp only [cA,init,SI,Nat.reduceAdd,Nat.reduceSub];refine bp 1 [.val (enc (.un .ex a)),.val (.str nm),.val (.int k),.no,.no] ⋯ (bR.mpr (gk ?_ ?_))
   . exact ⟨true,_,⋯,rfl,rfl⟩
   simp only [enc,aw,aD,↓WS,↓WC,WI,↓reduceIte]
   exact (aV ih).mpr ⟨⇑0,rfl⟩
 | .bi b x y,n+1,nm,k,h,h0,h1,o=>by
   have ih1:=jA x n nm k (by simp only [hF] at h;lia) h0 (by simp only [hF] at h1;lia) o.1;have ih2:=jA y n nm k (by simp only [hF] at h;lia) h0 (by simp only [hF] at h1;lia) o.2;apply aZ;refine aL cA rfl rfl rfl ?_;simp only [cA,init,SI,Nat.reduceAdd,Nat.reduceSub];refine bp 2 [.val (enc (.bi b x y)),.val (.str nm),.val (.int k),.no,.no] (by cases b<;>kernel_rfl) ?_;simp only [cB,enc,↓nV,↓fb,↓fX,SI,mC,Nat.reduceAdd,↓WS,↓WC,WI,↓reduceIte]
   exact ⟨⇑0,(aV ih1).mpr ((aV ih2).mpr ⟨⇑0,⇑0,rfl⟩)⟩
 | A,0,nm,k,h,h0,h1,o=>by cases A<;>simp only [hF] at h<;>lia
def yS (n:Nat) (L:Bool) (a:F) (t:T):PP.run Gs gls (n+1) 34 [.str (sd L),enc (.un .neg a),eT t] = some (eT (.rule L (.un .neg a) "" (.cons (.rule (!L) a "" (.cons t .nil)) .nil))):=by cases L<;>kernel_rfl
def Gk (xs:List Str) (k:Nat) (A:F):Prop:=hF A<=2 * k+3/\sz A+2<=5 * 2 ^ k/\(tms A).length<=3 * 2 ^ k/\∀ t∈tms A,t∈xs\/∃ j:Int,0<=j/\j < 10/\t = pl j
variable {xs ns:List Str} {k:Nat}
def Gk.go (hk:k<=3) {A:F} (h:Gk xs k A):Go xs A:=by
 obtain ⟨a,b,c,d⟩:=h;have:2 ^ k<=8:=fJ ⇑0 hk;exact ⟨∅,∅,∅,d⟩
def Gk.up {A:F} {j:Nat} (hk:k<=j) (h:Gk xs k A):Gk xs j A:=by
 obtain ⟨a,b,c,t⟩:=h;have:2 ^ k<=2 ^ j:=fJ ⇑0 hk;exact ⟨∅,∅,∅,t⟩
def nds (t:T):Nat:=(twT t).length
def ON (L:Bool) (A:F) (w:Str) (t:T):nds (.rule L A w (.cons t .nil)) = nds t+1:=by
 unfold nds;simp only [twT,qg,aY,aw]
def OM (L:Bool) (A:F) (w:Str) (s t:T):nds (.rule L A w (.cons s (.cons t .nil))) = nds s+nds t+1:=by
 unfold nds;simp only [twT,qg,aY,aw,ag]
def OL (A:F) (s t:T):nds (.cut A s t) = nds s+nds t+1:=by
 unfold nds;simp only [twT,aY,aw,ag]
def Qm (xs ns:List Str) (m c:Nat) (t:T):Prop:=okT xs t/\nct t/\fsh t ns/\ht t<=m/\nds t<=c
def nin (ns:List Str) (A:F):Prop:=∀ x∈cG A,x∈ns
def Qm.up {m m' c c':Nat} {t:T} (h:Qm xs ns m c t) (hm:m<=m') (hc:c<=c'):Qm xs ns m' c' t:=⟨h.1,h.2.1,h.2.2.1,aS h.2.2.2.1 hm,aS h.2.2.2.2 hc⟩
def Qm.cl:Qm xs ns 1 1 .close:=⟨trivial,trivial,trivial,ax _,ax _⟩
def Qm.same {ms:List Str} {m c:Nat} {t:T} (e:∀ x,x∈ns↔x∈ms) (h:Qm xs ns m c t):Qm xs ms m c t:=⟨h.1,h.2.1,fsh.same t e h.2.2.1,h.2.2.2⟩
def Qm.one {m c:Nat} {t:T} {A:F} {w:Str} (L:Bool) (hA:Go xs A) (hn:nlf A = true) (hi:nin ns A) (hw:w = ""\/w∈xs) (hb:bnd A = false\/w≠"") (ho:own L A = true->w∉ns) (hl:(brs L w A).length = 1) (h:Qm xs (nx A w ns) m c t):Qm xs ns (m+1) (c+1) (.rule L A w (.cons t .nil)) :=
 ⟨⟨⟨hA,hn⟩,hw,h.1,trivial⟩,⟨⟨.inl rfl,hl,hb⟩,h.2.1,trivial⟩,⟨ho,hi,h.2.2.1,trivial⟩,by have:=h.2.2.2.1;simp only [ht,hts];lia,by have:=h.2.2.2.2;rw [ON];lia⟩
def Qm.two {m c c':Nat} {s t:T} {A:F} (L:Bool) (hA:Go xs A) (hn:nlf A = true) (hi:nin ns A) (hb:bnd A = false) (ho:own L A = false) (hl:(brs L "" A).length = 2) (g:Qm xs ns m c s) (h:Qm xs ns m c' t):Qm xs ns (m+1) (c+c'+1) (.rule L A "" (.cons s (.cons t .nil))):=by
 have e:nx A "" ns = ns:=by unfold nx;rw [if_neg (by rw [hb];decide)]
 refine ⟨⟨⟨hA,hn⟩,.inl rfl,g.1,h.1,trivial⟩,⟨⟨.inr rfl,hl,.inl hb⟩,g.2.1,h.2.1,trivial⟩,⟨λz=>(by rw [ho] at z;cases z),hi,?_⟩,by have:=h.2.2.2.1;have:=g.2.2.2.1;simp only [ht,hts];lia,by have:=h.2.2.2.2;have:=g.2.2.2.2;rw [OM];lia⟩;rw [e];exact ⟨g.2.2.1,h.2.2.1,trivial⟩
def Qm.neg {m c:Nat} {t:T} {A:F} (L:Bool) (hA:Go xs (.un .neg A)) (hi:nin ns A) (h:Qm xs ns m c t):Qm xs ns (m+1) (c+1) (.rule L (.un .neg A) "" (.cons t .nil)):=.one L hA rfl hi (.inl rfl) (.inl rfl) (λz=>by cases z) rfl h
def pairD (x:Nat->F) (a:Nat->T):D:=.tup [.lst [enc (x 0),enc (x 1),enc (x 2)],.lst [.lst [eT (a 0),eT (a 1),eT (a 2)],.lst [eT (a 3),eT (a 4),eT (a 5)],.lst [eT (a 6),eT (a 7),eT (a 8)]]]
def Pk (xs ns:List Str) (k:Nat) (x:Nat->F) (a:Nat->T):Prop:=(∀ i < 3,Gk xs k (x i)/\nin ns (x i))/\∀ i < 9,Qm xs ns (5+4 * k) (9 * 2 ^ k - 4) (a i)
def Bw {α:Type}:∀ {l:List α},l.length = 3->∃ a b c,l = [a,b,c]
 | [a,b,c],_=>⟨a,b,c,rfl⟩
def Pk.of {fs:List F} {ws:List (List T)} (l1:fs.length = 3) (l2:ws.length = 3) (l3:∀ r∈ws,r.length = 3) (H:∀ f∈fs,Gk xs k f/\nin ns f) (W:∀ r∈ws,∀ t∈r,Qm xs ns (5+4 * k) (9 * 2 ^ k - 4) t):∃ x a,D.tup [.lst (fs.map enc),.lst (ws.map λr=>.lst (r.map eT))] = pairD x a/\Pk xs ns k x a:=by
 obtain ⟨f0,f1,f2,rfl⟩:=Bw l1;obtain ⟨r0,r1,r2,rfl⟩:=Bw l2;simp only [lV,bc,false_implies,implies_true,and_true] at l3 H W;obtain ⟨a,b,c,rfl⟩:=Bw l3.1;obtain ⟨d,e,f,rfl⟩:=Bw l3.2.1;obtain ⟨g,h,i,rfl⟩:=Bw l3.2.2;simp only [lV,bc,false_implies,implies_true,and_true] at W;refine ⟨λi=>[f0,f1,f2].getD i .yes,λj=>[a,b,c,d,e,f,g,h,i].getD j .close,rfl,λj hj=>?_,λj hj=>?_⟩
 . match j,hj with
   | 0,_=>exact H.1
   | 1,_=>exact H.2.1
   | 2,_=>exact H.2.2
 . match j,hj with
   | 0,_=>exact W.1.1
   | 1,_=>exact W.1.2.1
   | 2,_=>exact W.1.2.2
   | 3,_=>exact W.2.1.1
   | 4,_=>exact W.2.1.2.1
   | 5,_=>exact W.2.1.2.2
   | 6,_=>exact W.2.2.1
   | 7,_=>exact W.2.2.2.1
   | 8,_=>exact W.2.2.2.2
def nn (W A:F):Prop:=A = W\/A = .un .neg (.un .neg W)
def Mx {A B:F} (hA:sz A<=61) (hB:sz B<=61) {Q:Bool->Prop} (k:Q (!eqD (enc A) (enc B))):nX .ne (enc A) (enc B) Q:=by
 refine ⟨_,?_,k⟩;show (if gy (enc A) (enc B) = true then some (!eqD (enc A) (enc B)) else none) = _;have:=jk A;have:=jk B;rw [if_pos (by unfold gy;rw [show kin (enc A) (enc B) = true by rw [ko A,ko B];rfl,jQ,aa,decide_eq_true_eq,decide_eq_true_eq];lia)]
def Pp {w:Str} {ts:List Str} {A:F} (h:nn (.word w ts) A):eqD (enc A) (enc (.word w ts)) = true/\A = .word w ts\/eqD (enc A) (enc (.word w ts)) = false/\A = .un .neg (.un .neg (.word w ts)):=by
 rcases h with rfl | rfl
 . exact .inl ⟨iV _ (by have:=jk (.word w ts);simp only [sz] at this;lia),rfl⟩
 . exact .inr ⟨⋯,rfl⟩
end P1
end
section
namespace P1
open PySem L2 PP
def inB:Ss:=IV (cB 1 (IV (cB 4 dZ.body)))
def OR (n:Nat) {xs ns:List Str} {w:Str} {ts:List Str} (gW:Go xs (.word w ts)) (hi:nin ns (.word w ts)) (s0 s1 s2 s4 s5 s6 s10:Sl) (f g:F) (hf:nn (.word w ts) f) (hg:nn (.word w ts) g) (acc:List D) (ha:acc.length < 1000) {Q:Out->Prop} (q:∀ t,Qm xs ns 5 5 t->Q (.nx [s0,s1,s2,.val (enc (.word w ts)),s4,s5,s6,.val (enc f),.own (acc++[eT t]),.val (enc g),.val (eT t)])):wSs ⟨PP.run Gs gls (n+3),gls,hfs Gs⟩ inB [s0,s1,s2,.val (enc (.word w ts)),s4,s5,s6,.val (enc f),.own acc,.val (enc g),s10] Q:=by
 have ss:=s64;have gN:Go xs (.un .neg (.word w ts)):=⟨by simp [hF],by simp [sz],gW.2.2.1,gW.2.2.2⟩;have gNN:Go xs (.un .neg (.un .neg (.word w ts))):=⟨by simp [hF],by simp [sz],gW.2.2.1,gW.2.2.2⟩;have two:∀ (L:Bool) (t:T) (m:Nat),Qm xs ns m m t->Qm xs ns (m+2) (m+2) (.rule L (.un .neg (.un .neg (.word w ts))) "" (.cons (.rule (!L) (.un .neg (.word w ts)) "" (.cons t .nil)) .nil)):=λL t m h=>.neg L gNN hi (.neg (!L) gN hi h);have szN:∀ {f:F},nn (.word w ts) f->sz f<=61:=λh=>by rcases h with rfl | rfl<;>simp [sz]
 have ne:∀ {f:F},nn (.word w ts) f->kX .ne (enc f) (enc (.word w ts)) = some (!eqD (enc f) (enc (.word w ts)))/\((!eqD (enc f) (enc (.word w ts))) = true->f = .un .neg (.un .neg (.word w ts))):=λ{f} h=>by
  refine ⟨?_,λe=>?_⟩
  . obtain ⟨z,e,rfl⟩:=Mx (szN h) (by simp [sz]) (Q:=λb=>b = !eqD (enc f) (enc (.word w ts))) rfl;exact e
  . rcases Pp h with ⟨e1,_⟩ | ⟨_,e1⟩
    . rw [e1] at e;cases e
    . exact e1
 have last:∀ t,Qm xs ns 5 5 t->wSs ⟨PP.run Gs gls (n+3),gls,hfs Gs⟩ (cB 3 inB) [s0,s1,s2,.val (enc (.word w ts)),s4,s5,s6,.val (enc f),.own acc,.val (enc g),.val (eT t)] Q:=λt h1=>gI (eT t) ⋯ rfl ∅ (je.mpr (q t h1))
 have snd:∀ t,Qm xs ns 3 3 t->wSs ⟨PP.run Gs gls (n+3),gls,hfs Gs⟩ (cB 2 inB) [s0,s1,s2,.val (enc (.word w ts)),s4,s5,s6,.val (enc f),.own acc,.val (enc g),.val (eT t)] Q:=λt h1 =>
  bC _ (gq (x:=enc g) (y:=enc (.word w ts)) ⋯ ⋯ (ne hg).1) (λe=>by
   obtain rfl:=(ne hg).2 e;exact cJ [.str "right",enc (.un .neg (.un .neg (.word w ts))),eT t] ⋯ ((aV (yS (n+2) false (.un .neg (.word w ts)) t)).mpr ⟨_,rfl,last _ (two false t 3 h1)⟩)) λ_=>last t (h1.up ⇑0 ⇑0)
 refine bp 1 [s0,s1,s2,.val (enc (.word w ts)),s4,s5,s6,.val (enc f),.own acc,.val (enc g),.val (eT .close)] ⋯ ?_;refine bC _ (gq (x:=enc f) (y:=enc (.word w ts)) ⋯ ⋯ (ne hf).1) (λe=>?_) λ_=>snd .close (Qm.cl.up ⇑0 ⇑0);obtain rfl:=(ne hf).2 e;exact cJ [.str "left",enc (.un .neg (.un .neg (.word w ts))),eT .close] ⋯ ((aV (yS (n+2) true (.un .neg (.word w ts)) .close)).mpr ⟨_,rfl,snd _ (two true .close 1 .cl)⟩)
def HI (n:Nat) {xs ns:List Str} (h0:0 < ns.length) (h1:ns.length < 100) (hs:∀ t∈ns,t∈xs) (c fam o:Int) (m:Str):fw Gs gls (n+4) 35 [.int c,.lst (ns.map .str),.tup [.int fam,.str m,.int o]] λD=>∃ x a,D = pairD x a/\Pk xs ns 0 x a:=by
 have ss:=s64;refine aL dZ rfl rfl rfl ?_;simp only [dZ,init,SI,Nat.reduceAdd,Nat.reduceSub];refine cJ [.int c,.int fam,.lst (ns.map .str)] ⋯ (bU (Ea (n+1) c fam ns h0 h1) ?_);rintro _ ⟨w,ts,rfl,tl,tt⟩;refine ⟨_,rfl,bp 1 [.val (.int c),.val (.lst (ns.map .str)),.val (.tup [.int fam,.str m,.int o]),.val (enc (.word w ts)),.own [],.no,.no,.no,.no,.no,.no] ⋯ (lx (om 0 3) ⋯ ?_)⟩;generalize hA:D.lst (ns.map D.str) = a;generalize hB:D.tup [D.int fam,D.str m,D.int o] = b;refine iM (λzs δ=>∃ (fs:List F) (s:Sl),δ = [.val (.int c),.val a,.val b,.val (enc (.word w ts)),.own (fs.map enc),s,.no,.no,.no,.no,.no]/\fs.length+zs.length = 3/\(∀ f∈fs,nn (.word w ts) f)/\∀ z∈zs,∃ i:Nat,i < 3/\z = .int i) ?_ ?_ _ _ ⟨[],_,rfl,by rw [tM];rfl,(λf h=>by cases h),λz hz=>by obtain ⟨i,hi,rfl⟩:=mT hz;exact ⟨i,hi,↥0⟩⟩
 . rintro z zs δ ⟨fs,s,rfl,hl,hf,hz⟩;obtain ⟨i,hi,rfl⟩:=hz z ar;rw [aw] at hl;have tn:∀ {f:F},nn (.word w ts) f->∀ g∈fs++[f],nn (.word w ts) g:=λhn g hg=>(aA.mp hg).elim (hf g) λz=>by rw [aK.mp z];exact hn
   have ad:∀ {f:F} (s:Sl),nn (.word w ts) f->_:=λ{f} s hn=>(⟨fs++[f],s,by rw [aI];rfl,by rw [ag,aU];lia,tn hn,λz q=>hz z (ao _ q)⟩:∃ (gs:List F) (s':Sl),[.val (.int c),.val a,.val b,.val (enc (.word w ts)),.own (fs.map enc++[enc f]),s,.no,.no,.no,.no,.no] = [.val (.int c),.val a,.val b,.val (enc (.word w ts)),.own (gs.map enc),s',.no,.no,.no,.no,.no]/\gs.length+zs.length = 3/\(∀ f∈gs,nn (.word w ts) f)/\∀ z∈zs,∃ i:Nat,i < 3/\z = .int i);refine ⟨_,rfl,bC (decide (c / [31,37,41].getD i 0 % 4 = 1)) (by rcases (show i = 0\/i = 1\/i = 2 by lia) with rfl | rfl | rfl<;>kernel_rfl) (λ_=>gI (enc (.un .neg (.un .neg (.word w ts)))) ⋯ rfl (by rw [ai];lia) (je.mpr (ad _ (.inr rfl)))) λ_=>gI (enc (.word w ts)) ⋯ rfl (by rw [ai];lia) (je.mpr (ad _ (.inl rfl)))⟩
 . rintro δ ⟨fs,s,rfl,hl,hf,_⟩;simp only [aD,pA] at hl;have gW:Go xs (.word w ts):=⟨by simp [hF],by simp [sz],by show ts.length<=30;lia,λt ht=>.inl (hs t (tt t ht))⟩;have hi:nin ns (.word w ts):=λx hx=>tt x (bV.mp hx).1
   have nnG:∀ {f:F},nn (.word w ts) f->Gk xs 0 f/\nin ns f:=λh=>by
    have tw:∀ t∈ts,t∈xs\/∃ j:Int,0<=j/\j < 10/\t = pl j:=λt ht=>.inl (hs t (tt t ht));rcases h with rfl | rfl
    . exact ⟨⟨by simp [hF],by simp [sz],by show ts.length<=3;exact tl,tw⟩,hi⟩
    . exact ⟨⟨by simp [hF],by simp [sz],by show ts.length<=3;exact tl,tw⟩,hi⟩
   refine bp 1 [.val (.int c),.val a,.val b,.val (enc (.word w ts)),.own (fs.map enc),s,.own [],.no,.no,.no,.no] ⋯ (bR.mpr (xk.mpr ⟨fs.map enc,_,rfl,?_⟩));refine eZ (g:=enc) (λrest δ=>∃ (acc:List (List T)) (s7 s8 s9 s10:Sl),δ = [.val (.int c),.val a,.val b,.val (enc (.word w ts)),.val (.lst (fs.map enc)),s,.own (acc.map λr=>.lst (r.map eT)),s7,s8,s9,s10]/\acc.length+rest.length = 3/\(∀ r∈acc,r.length = 3/\∀ t∈r,Qm xs ns 5 5 t)/\∀ f∈rest,nn (.word w ts) f) ?_ ?_ _ _ ⟨[],_,_,_,_,rfl,by simpa using hl,(λr h=>by cases h),hf⟩
   . rintro f rest δ ⟨acc,s7,s8,s9,s10,rfl,hl2,ha,hr⟩;rw [aw] at hl2;have hf1:=hr f ar;refine ⟨_,rfl,bp 1 [.val (.int c),.val a,.val b,.val (enc (.word w ts)),.val (.lst (fs.map enc)),s,.own (acc.map λr=>.lst (r.map eT)),.val (enc f),.own [],s9,s10] ⋯ (lx (fs.map enc) ⋯ ?_)⟩;refine eZ (g:=enc) (λrest2 δ=>∃ (acc2:List T) (s9 s10:Sl),δ = [.val (.int c),.val a,.val b,.val (enc (.word w ts)),.val (.lst (fs.map enc)),s,.own (acc.map λr=>.lst (r.map eT)),.val (enc f),.own (acc2.map eT),s9,s10]/\acc2.length+rest2.length = 3/\(∀ t∈acc2,Qm xs ns 5 5 t)/\∀ g∈rest2,nn (.word w ts) g) ?_ ?_ _ _ ⟨[],_,_,rfl,by simpa using hl,(λt h=>by cases h),hf⟩
     . rintro g rest2 δ ⟨acc2,s9,s10,rfl,hl3,ha2,hr2⟩;rw [aw] at hl3;have hg1:=hr2 g ar;exact ⟨_,rfl,OR n gW hi _ _ _ _ _ _ _ f g hf1 hg1 (acc2.map eT) (by rw [ai];lia) λt h1=>⟨acc2++[t],_,_,by rw [aI];rfl,by rw [ag,aU];lia,λu hu=>(aA.mp hu).elim (ha2 u) λz=>by rw [aK.mp z];exact h1,λg z=>hr2 g (ao _ z)⟩⟩
     . rintro δ ⟨acc2,s9,s10,rfl,hl3,ha2,_⟩;simp only [aD,pA] at hl3;simp only [SI,↓WS,↓WC,WI,↓reduceIte];refine ⟨by rw [ai];lia,acc++[acc2],_,_,_,_,by rw [aI];rfl,by rw [ag,aU];lia,λr h=>(aA.mp h).elim (ha r) λz=>by rw [aK.mp z];exact ⟨hl3,ha2⟩,λf z=>hr f (ao _ z)⟩
   . rintro δ ⟨acc,s7,s8,s9,s10,rfl,hl2,ha,_⟩;simp only [aD,pA] at hl2;exact gH ⋯ (Pk.of hl hl2 (λr h=>(ha r h).1) (λf h=>nnG (hf f h)) λr h=>(ha r h).2)
end P1
end
section
namespace P1
open PySem L2 PP
def jI (w:Str):∀ (A:F) (k:Int),0<=k->∀ t∈tms (dA (bf w) A k),(t∈tms A/\t≠w)\/∃ j:Int,0<=j/\j < k+hF A/\t = pl j
 | .yes,_,_,_,h | .no,_,_,_,h=>by cases h
 | .word _ ts,k,k0,t,h=>by
   obtain ⟨s,hs,rfl⟩:=bj.mp h;unfold bf;split
   . exact .inr ⟨k,k0,by simp only [hF];lia,rfl⟩
   . rename_i z
     exact .inl ⟨hs,λe=>z (by rw [e];exact beq_self_eq_true _)⟩
 | .un u a,k,k0,t,h=>by
   have:0<=up u/\up u<=1:=by cases u<;>decide
   refine (jI w a (k+up u) ∅ t h).imp id ?_;rintro ⟨j,j0,j1,e⟩
   exact ⟨j,j0,by simp only [hF];lia,e⟩
 | .bi b x y,k,k0,t,h=>by
   rcases aA.mp h with h | h
   . refine (jI w x k k0 t h).imp (And.imp (bD _) id) ?_;rintro ⟨j,j0,j1,e⟩;exact ⟨j,j0,by simp only [hF];lia,e⟩
   . refine (jI w y k k0 t h).imp (And.imp (aM _) id) ?_;rintro ⟨j,j0,j1,e⟩;exact ⟨j,j0,by simp only [hF];lia,e⟩
variable {xs ns:List Str} {k:Nat}
def Gk.un {A:F} (u:U) (h:Gk xs k A):Gk xs (k+1) (.un u A):=by
 obtain ⟨a,b,c,t⟩:=h;have:=mB (n:=k) (show 0 < 2 by decide);exact ⟨by simp only [hF];lia,by simp only [sz,cu];lia,by rw [cu];show (tms A).length<=_;lia,t⟩
def Gk.bd {A:F} (w:Str) (hk:k<=2) (h:Gk xs k A):Gk xs k (dA (bf w) A 0):=by
 obtain ⟨a,b,c,t⟩:=h;refine ⟨by rw [lC];exact a,by rw [lB];exact b,by rw [(hZ _ _ _).1];exact c,λq hq=>?_⟩;rcases jI w A 0 ⇑0 q hq with z | ⟨j,j0,j1,e⟩
 . exact t q z.1
 . exact .inr ⟨j,j0,∅,e⟩
def Mv {A:F} {v:Str} (u:U) (h:nin (ns++[v]) A):nin ns (.un u (dA (bf v) A 0)):=λx hx=>by
 obtain ⟨h1,h2⟩:=bV.mp (show x∈(tms (dA (bf v) A 0)).filter isN from hx);rcases jI v A 0 ⇑0 x h1 with z | ⟨j,j0,_,rfl⟩
 . refine (aA.mp (h x (bV.mpr ⟨z.1,h2⟩))).elim id λy=>absurd (aK.mp y) z.2
 . rw [ot j0] at h2;cases h2
def sg (L:Bool) (w:Str) (A C:F) (t:T):T:=match L with
 | true=>.rule true A w (.cons (.rule false C w (.cons t .nil)) .nil)
 | false=>.rule false C w (.cons (.rule true A w (.cons t .nil)) .nil)
def lvl (k:Nat):9 * 2 ^ k - 4+4 = 9 * 2 ^ k/\9 * 2 ^ (k+1) = 2 * (9 * 2 ^ k):=by
 have:=mB (n:=k) (show 0 < 2 by decide);rw [cu]
 lia
def Oc (n:Nat) (own:Str) (o:Int) (ho:0<=o/\o < 2) (hk:k<=2) {x:Nat->F} {a:Nat->T} (hP:Pk xs ns k x a):fw Gs gls (n+1) 36 [.str "not",.str own,pairD x a,.int o] λD=>∃ x a,D = pairD x a/\Pk xs ns (k+1) x a:=by
 have lv:=lvl k
 have K:∀ L:Bool,Pk xs ns (k+1) (λi=>.un .neg (x i)) λi=>sg L "" (.un .neg (x (i / 3))) (.un .neg (x (i % 3))) (a (3 * (i % 3)+i / 3)):=λL=>⟨λi hi=>⟨(hP.1 i hi).1.un .neg,(hP.1 i hi).2⟩,λi hi=>by
  have q:=hP.2 (3 * (i % 3)+i / 3) ∅;have f:=hP.1 (i / 3) ∅;have g:=hP.1 (i % 3) ∅;have f':=(f.1.un .neg).go ∅;have g':=(g.1.un .neg).go ∅;cases L
  . exact ((q.neg true f' f.2).neg false g' g.2).up ∅ ∅
  . exact ((q.neg false g' g.2).neg true f' f.2).up ∅ ∅⟩
 rcases (show o = 0\/o = 1 by lia) with rfl | rfl
 . exact (aV (d:=pairD _ _) ⋯).mpr ⟨_,_,rfl,K false⟩
 . exact (aV (d:=pairD _ _) ⋯).mpr ⟨_,_,rfl,K true⟩
def Ec (n:Nat) (u:U) (hu:u≠.neg) (own:Str) (hw:own∈xs) (hv:own∉ns) (hne:own≠"") (o:Int) (hk:k<=2) {x:Nat->F} {a:Nat->T} (hP:Pk xs (ns++[own]) k x a):fw Gs gls (n+20) 36 [.str u.s,.str own,pairD x a,.int o] λD=>∃ x a,D = pairD x a/\Pk xs ns (k+1) x a:=by
 have H:∀ f∈[x 0,x 1,x 2],Gk xs k f:=by
  simp only [lV,bc,false_implies,implies_true,and_true];exact ⟨(hP.1 0 ⇑0).1,(hP.1 1 ⇑0).1,(hP.1 2 ⇑0).1⟩
 have ss:=s64;refine aL hJ rfl rfl rfl ?_;simp only [hJ,init,SI,Nat.reduceAdd,Nat.reduceSub];refine bp 1 [.val (.str u.s),.val (.str own),.val (pairD x a),.val (.int o),.own [],.no,.no,.no,.no,.no,.no,.no,.no] ⋯ (lx ([x 0,x 1,x 2].map enc) ⋯ (eZ (g:=enc) (λrest δ=>∃ (acc:List F) (s:Sl),δ = [.val (.str u.s),.val (.str own),.val (pairD x a),.val (.int o),.own (acc.map λx=>enc (.un u (dA (bf own) x 0))),s,.no,.no,.no,.no,.no,.no,.no]/\acc++rest = [x 0,x 1,x 2]) ?_ ?_ _ _ ⟨[],_,rfl,rfl⟩))
 . rintro f rest δ ⟨acc,s,rfl,eq⟩;have gx:=H f (by rw [<- eq];exact aM _ ar);have hl:acc.length<=3:=by have:=congrArg iA eq;rw [ag] at this;exact Nat.le.intro this
   have kk:hF f<=7:=by have:=gx.1;lia
   refine ⟨_,rfl,bC false ?_ (λz=>by cases z) λ_=>gI (.tup [.str u.s,enc (dA (bf own) f 0)]) (lD (aX rfl (aX (cU _ rfl (jA f (n+19) own 0 ∅ ⇑0 ∅ (kR (by have:=(gx.go ∅).2.2.1;lia)))) rfl)) (show 2<=_ by lia)) rfl (by rw [ai];lia) ⟨.nx _,rfl,acc++[f],_,by rw [aI];rfl,by rw [cz];exact eq⟩⟩
   cases u with
   | neg=>exact absurd rfl hu
   | _=>kernel_rfl
 . rintro δ ⟨acc,s,rfl,eq⟩;rw [aY] at eq;rw [eq];have lv:=lvl k
   have K:∀ L:Bool,P1.own L (.un u .yes) = true->Pk xs ns (k+1) (λi=>.un u (dA (bf own) (x i) 0)) λi=>sg L own (.un u (dA (bf own) (x (i / 3)) 0)) (.un u (dA (bf own) (x (i % 3)) 0)) (a i):=λL hL=>by
    have hn:∀ i < 3,Gk xs (k+1) (.un u (dA (bf own) (x i) 0))/\nin ns (.un u (dA (bf own) (x i) 0)):=λi hi=>⟨((hP.1 i hi).1.bd own hk).un u,Mv u (hP.1 i hi).2⟩;refine ⟨hn,λi hi=>?_⟩;obtain ⟨g1,g2⟩:=hn (i / 3) ∅;obtain ⟨e1,e2⟩:=hn (i % 3) ∅
    have q:Qm xs (own::own::ns) (5+4 * k) (9 * 2 ^ k - 4) (a i):=(hP.2 i hi).same λx=>by
     simp only [aA,az,bc,or_false];exact ⟨λz=>z.elim (λy=>.inr (.inr y)) .inl,λz=>z.elim .inr λz=>z.elim .inr .inl⟩
    have up:∀ {A:F},nin ns A->nin (own::ns) A:=λh x hx=>ao _ (h x hx)
    cases u with
    | neg=>exact absurd rfl hu
    | all =>
      cases L
      . exact ((Qm.one (w:=own) true (g1.go ∅) rfl (up g2) (.inr hw) (.inr hne) (λz=>by cases z) rfl q).one (w:=own) false (e1.go ∅) rfl e2 (.inr hw) (.inr hne) (λ_=>hv) rfl).up ∅ ∅
      . cases hL
    | ex =>
      cases L
      . cases hL
      . exact ((Qm.one (w:=own) false (e1.go ∅) rfl (up e2) (.inr hw) (.inr hne) (λz=>by cases z) rfl q).one (w:=own) true (g1.go ∅) rfl g2 (.inr hw) (.inr hne) (λ_=>hv) rfl).up ∅ ∅
   cases u with
   | neg=>exact absurd rfl hu
   | all=>exact gH (d:=pairD _ _) ⋯ ⟨_,_,rfl,K false rfl⟩
   | ex=>exact gH (d:=pairD _ _) ⋯ ⟨_,_,rfl,K true rfl⟩
end P1
end
section
namespace P1
open PySem L2 PP
variable {xs ns:List Str} {k:Nat}
def Gk.bi {A C:F} (b:B) (h:Gk xs k A) (g:Gk xs k C):Gk xs (k+1) (.bi b A C):=by
 obtain ⟨a,b,c,t⟩:=h;obtain ⟨a',b',c',t'⟩:=g;refine ⟨by simp only [hF];lia,by simp only [sz,cu];lia,?_,λq hq=>(aA.mp hq).elim (t q) (t' q)⟩;show (tms A++tms C).length<=_;rw [ag,cu];lia
def Gk.orn {A C:F} (h:Gk xs k A) (g:Gk xs k C):Gk xs (k+1) (.bi .or (.un .neg A) C):=by
 obtain ⟨a,b,c,t⟩:=h;obtain ⟨a',b',c',t'⟩:=g;refine ⟨by simp only [hF];lia,by simp only [sz,cu];lia,?_,λq hq=>(aA.mp hq).elim (t q) (t' q)⟩;show (tms A++tms C).length<=_;rw [ag,cu];lia
def fm (b:B) (t:Bool) (x y:F):F:=match t,b with
 | true,.imp=>.bi .or (.un .neg x) y
 | true,b=>.bi b y x
 | false,b=>.bi b x y
def ug {b:B} {x y:F} (h:nin ns x) (g:nin ns y):nin ns (.bi b x y):=λz hz=>by
 obtain ⟨h1,h2⟩:=bV.mp hz;rcases aA.mp h1 with w | w
 . exact h z (bV.mpr ⟨w,h2⟩)
 . exact g z (bV.mpr ⟨w,h2⟩)
def FF {b:B} {t:Bool} {x y:F} (h:Gk xs k x/\nin ns x) (g:Gk xs k y/\nin ns y):Gk xs (k+1) (fm b t x y)/\nin ns (fm b t x y):=by
 cases t
 . exact ⟨h.1.bi b g.1,ug h.2 g.2⟩
 . cases b
   . exact ⟨g.1.bi .and h.1,ug g.2 h.2⟩
   . exact ⟨g.1.bi .or h.1,ug g.2 h.2⟩
   . exact ⟨h.1.orn g.1,ug (x:=.un .neg x) h.2 g.2⟩
def rl (L:Bool) (A:F) (t:T):T:=.rule L A "" (.cons t .nil)
def r2 (L:Bool) (A:F) (s t:T):T:=.rule L A "" (.cons s (.cons t .nil))
def lh (o:Bool) (L:Bool) (A C:F) (s t:T):T:=match o with
 | true=>r2 (!L) C (rl L A s) (rl L A t)
 | false=>rl L A (r2 (!L) C s t)
def tw (b:Bool) (f:T->T->T) (s t:T):T:=match b with
 | true=>f t s
 | false=>f s t
def op (b:Bool) (L:Bool) (A:F) (t:T):T:=match b with
 | true=>rl L (.un .neg A) t
 | false=>t
def wy (b:B) (o tf tg:Bool) (hf hg xf xg:F) (one two eno:T):T:=match b with
 | .imp=>rl false hg (op tg false xg (r2 true hf (op tf true xf eno) two))
 | .and=>tw tg (lh o true hf hg) one two
 | .or=>tw tf (lh o false hg hf) one two
def B1 (L:Bool) (A:F):Prop:=nlf A = true/\bnd A = false/\own L A = false/\(brs L "" A).length = 1
def B2 (L:Bool) (A:F):Prop:=nlf A = true/\bnd A = false/\own L A = false/\(brs L "" A).length = 2
def Sh (b:B) (A:F):Prop:=match b with
 | .and=>B1 true A/\B2 false A
 | _=>B1 false A/\B2 true A
def JR (b:B) (t:Bool) (x y:F):Sh b (fm b t x y):=by
 cases b<;>cases t<;>exact ⟨⟨rfl,rfl,rfl,rfl⟩,rfl,rfl,rfl,rfl⟩
def Gn (xs ns:List Str) (A:F):Prop:=Go xs A/\nin ns A
def Qm.rl {m c:Nat} {t:T} {A:F} (L:Bool) (hA:Gn xs ns A) (b:B1 L A) (h:Qm xs ns m c t):Qm xs ns (m+1) (c+1) (rl L A t) :=
 Qm.one L hA.1 b.1 hA.2 (.inl rfl) (.inl b.2.1) (λz=>by rw [b.2.2.1] at z;cases z) b.2.2.2 (by unfold nx;rw [if_neg (by rw [b.2.1];decide)];exact h)
def Qm.r2 {m c c':Nat} {s t:T} {A:F} (L:Bool) (hA:Gn xs ns A) (b:B2 L A) (g:Qm xs ns m c s) (h:Qm xs ns m c' t):Qm xs ns (m+1) (c+c'+1) (r2 L A s t):=Qm.two L hA.1 b.1 hA.2 b.2.1 b.2.2.1 b.2.2.2 g h
def zw {m c:Nat} {o L:Bool} {A C:F} {s t:T} (hA:Gn xs ns A) (hC:Gn xs ns C) (a1:B1 L A) (c2:B2 (!L) C) (h1:Qm xs ns m c s) (h2:Qm xs ns m c t):Qm xs ns (m+4) (2 * c+4) (lh o L A C s t):=by
 cases o
 . exact ((h1.r2 _ hC c2 h2).rl L hA a1).up ∅ ∅
 . exact ((h1.rl L hA a1).r2 _ hC c2 (h2.rl L hA a1)).up ∅ ∅
def JD {m c:Nat} {b L:Bool} {A:F} {t:T} (hA:Gk xs k A) (hn:nin ns A) (hk:k<=2) (h:Qm xs ns m c t):Qm xs ns (m+1) (c+1) (op b L A t):=by
 cases b
 . exact h.up ∅ ∅
 . exact h.neg L ((hA.un .neg).go ∅) hn
def NF {m c:Nat} {b:B} {o tf tg:Bool} {hf hg xf xg:F} {one two eno:T} (hk:k<=2) (a:Gn xs ns hf) (sa:Sh b hf) (c':Gn xs ns hg) (sc:Sh b hg) (x:Gk xs k xf/\nin ns xf) (y:Gk xs k xg/\nin ns xg) (h1:Qm xs ns m c one) (h2:Qm xs ns m c two) (h3:Qm xs ns m c eno):Qm xs ns (m+4) (2 * c+4) (wy b o tf tg hf hg xf xg one two eno):=by
 cases b
 . cases tg
   . exact zw a c' sa.1 sc.2 h1 h2
   . exact zw a c' sa.1 sc.2 h2 h1
 . cases tf
   . exact zw c' a sc.1 sa.2 h1 h2
   . exact zw c' a sc.1 sa.2 h2 h1
 . have q:=(JD (b:=tg) (L:=false) y.1 y.2 hk ((JD (b:=tf) (L:=true) x.1 x.2 hk h3).r2 true a sa.2 (h2.up (gC m) (ax _)))).rl false c' sc.1;exact q.up ∅ ∅
def wy9 (b:B) (o:Bool) (t:Nat->Bool) (x y:Nat->F) (a d:Nat->T) (i:Nat):T:=wy b o (t (i / 3)) (t (i % 3)) (fm b (t (i / 3)) (x (i / 3)) (y (i / 3))) (fm b (t (i % 3)) (x (i % 3)) (y (i % 3))) (x (i / 3)) (x (i % 3)) (a i) (d i) (a (3 * (i % 3)+i / 3))
def T3 (t0 t1 t2:Bool):Nat->Bool
 | 0=>t0
 | 1=>t1
 | _=>t2
section
variable (n:Nat) (b:B) (c o:Int) (x y:Nat->F) (a d:Nat->T) (s7 s8 s9:Sl)
def dl (o t0 t1 t2:Bool):Option D :=
 NY (dG ⟨PP.run Gs gls (n+1),gls,hfs Gs⟩ (cB 3 dS.body) [.val (.str b.s),.val (.int c),.val (pairD x a),.val (pairD y d),.val (.int o.toInt),.own [enc (fm b t0 (x 0) (y 0)),enc (fm b t1 (x 1) (y 1)),enc (fm b t2 (x 2) (y 2))],.own [.bl t0,.bl t1,.bl t2],s7,s8,s9,.no])
theorem Pr (o t0 t1 t2:Bool):dl n b c x y a d s7 s8 s9 o t0 t1 t2 = some (pairD (λi=>fm b (T3 t0 t1 t2 i) (x i) (y i)) (wy9 b o (T3 t0 t1 t2) x y a d)):=by
 cases b<;>cases o<;>cases t0<;>cases t1<;>cases t2<;>kernel_rfl
def dk (fs ts:List D) (i:Int):Option Out :=
 dG ⟨PP.run Gs gls (n+1),gls,hfs Gs⟩ (IV (cB 2 dS.body)) [.val (.str b.s),.val (.int c),.val (pairD x a),.val (pairD y d),.val (.int o),.own fs,.own ts,.val (.int i),s8,s9,.no]
def dm (fs ts:List D) (i:Nat):Option Out :=
 dG ⟨PP.run Gs gls (n+1),gls,hfs Gs⟩ (cB 3 (IV (cB 2 dS.body))) [.val (.str b.s),.val (.int c),.val (pairD x a),.val (pairD y d),.val (.int o),.own fs,.own ts,.val (.int i),.val (enc (x i)),.val (enc (y i)),.no]
def de (fs ts:List D) (i:Nat):Option Out:=some (.nx [.val (.str b.s),.val (.int c),.val (pairD x a),.val (pairD y d),.val (.int o),.own fs,.own ts,.val (.int i),.val (enc (x i)),.val (enc (y i)),.no])
theorem QA:dk n b c o x y a d s8 s9 [] [] 0 = de b c o x y a d [enc (fm b (decide (c / 1 % 2 = 1)) (x 0) (y 0))] [.bl (decide (c / 1 % 2 = 1))] 0:=by
 refine Eq.trans (b:=dm n b c o x y a d [] [.bl (decide (c / 1 % 2 = 1))] 0) ⋯ ?_;generalize decide (c / 1 % 2 = 1) = t;cases b<;>cases t<;>kernel_rfl
theorem Qz (u:D) (t0:Bool):dk n b c o x y a d s8 s9 [u] [.bl t0] 1 = de b c o x y a d [u,enc (fm b (decide (c / 2 % 2 = 1)) (x 1) (y 1))] [.bl t0,.bl (decide (c / 2 % 2 = 1))] 1:=by
 refine Eq.trans (b:=dm n b c o x y a d [u] [.bl t0,.bl (decide (c / 2 % 2 = 1))] 1) ⋯ ?_;generalize decide (c / 2 % 2 = 1) = t;cases b<;>cases t<;>kernel_rfl
theorem Qy (u v:D) (t0 t1:Bool):dk n b c o x y a d s8 s9 [u,v] [.bl t0,.bl t1] 2 = de b c o x y a d [u,v,enc (fm b (decide (c / 4 % 2 = 1)) (x 2) (y 2))] [.bl t0,.bl t1,.bl (decide (c / 4 % 2 = 1))] 2:=by
 refine Eq.trans (b:=dm n b c o x y a d [u,v] [.bl t0,.bl t1,.bl (decide (c / 4 % 2 = 1))] 2) ⋯ ?_;generalize decide (c / 4 % 2 = 1) = t;cases b<;>cases t<;>kernel_rfl
end
def Eb (n:Nat) (b:B) (c o:Int) (ho:0<=o/\o < 2) (hk:k<=2) {x y:Nat->F} {a d:Nat->T} (hP:Pk xs ns k x a) (hQ:Pk xs ns k y d):fw Gs gls (n+2) 38 [.str b.s,.int c,pairD x a,pairD y d,.int o] λD=>∃ x a,D = pairD x a/\Pk xs ns (k+1) x a:=by
 have ss:=s64;have lv:=lvl k
 obtain ⟨o',eo⟩:∃ o':Bool,o = o'.toInt:=by
  rcases (show o = 0\/o = 1 by lia) with rfl | rfl
  . exact ⟨false,rfl⟩
  . exact ⟨true,rfl⟩
 refine aL dS rfl rfl rfl ?_;simp only [dS,init,SI,Nat.reduceAdd,Nat.reduceSub];refine bp 2 [.val (.str b.s),.val (.int c),.val (pairD x a),.val (pairD y d),.val (.int o),.own [],.own [],.no,.no,.no,.no] ⋯ ?_;refine gR (R:=λδ=>∃ (t0 t1 t2:Bool) (s7 s8 s9:Sl),δ = [.val (.str b.s),.val (.int c),.val (pairD x a),.val (pairD y d),.val (.int o),.own [enc (fm b t0 (x 0) (y 0)),enc (fm b t1 (x 1) (y 1)),enc (fm b t2 (x 2) (y 2))],.own [.bl t0,.bl t1,.bl t2],s7,s8,s9,.no]) 1 _ _ ?_ ?_
 . refine lx (om 0 3) ⋯ ?_;refine iM (λzs δ=>∃ (ts:List Bool) (s7 s8 s9:Sl),δ = [.val (.str b.s),.val (.int c),.val (pairD x a),.val (pairD y d),.val (.int o),.own ((ts.zip [0,1,2]).map λp=>enc (fm b p.1 (x p.2) (y p.2))),.own (ts.map .bl),s7,s8,s9,.no]/\ts.length+zs.length = 3/\zs = (([0,1,2]:List Int).drop ts.length).map .int) ?_ ?_ _ _ ⟨[],_,_,_,rfl,rfl,rfl⟩
   . rintro z zs δ ⟨ts,s7,s8,s9,rfl,hl,ez⟩
     match ts,hl,ez with
     | [],_,ez =>
       cases ez
       exact ⟨_,rfl,_,QA n b c o x y a d s8 s9,[decide (c / 1 % 2 = 1)],_,_,_,rfl,rfl,rfl⟩
     | [t0],_,ez =>
       cases ez
       exact ⟨_,rfl,_,Qz n b c o x y a d s8 s9 _ t0,[t0,decide (c / 2 % 2 = 1)],_,_,_,rfl,rfl,rfl⟩
     | [t0,t1],_,ez =>
       cases ez
       exact ⟨_,rfl,_,Qy n b c o x y a d s8 s9 _ _ t0 t1,[t0,t1,decide (c / 4 % 2 = 1)],_,_,_,rfl,rfl,rfl⟩
     | _::_::_::_,hl,_=>simp only [aw] at hl;lia
   . rintro δ ⟨ts,s7,s8,s9,rfl,hl,_⟩;obtain ⟨t0,t1,t2,rfl⟩:=Bw (l:=ts) (by simpa using hl);exact ⟨.nx _,rfl,t0,t1,t2,_,_,_,rfl⟩
 . rintro δ ⟨t0,t1,t2,s7,s8,s9,rfl⟩;subst eo;refine gH (d:=pairD _ _) (Pr n b c x y a d s7 s8 s9 o' t0 t1 t2) ⟨_,_,rfl,?_,λi hi=>?_⟩
   . exact λi hi=>FF (hP.1 i hi) (hQ.1 i hi)
   . have f:=FF (b:=b) (t:=T3 t0 t1 t2 (i / 3)) (hP.1 (i / 3) ∅) (hQ.1 (i / 3) ∅);have g:=FF (b:=b) (t:=T3 t0 t1 t2 (i % 3)) (hP.1 (i % 3) ∅) (hQ.1 (i % 3) ∅);exact (NF hk ⟨f.1.go ∅,f.2⟩ (JR ..) ⟨g.1.go ∅,g.2⟩ (JR ..) (hP.1 (i / 3) ∅) (hP.1 (i % 3) ∅) (hP.2 i hi) (hQ.2 i hi) (hP.2 _ ∅)).up ∅ ∅
end P1
end
section
namespace P1
open PySem L2 PP
variable {xs ns:List Str}
def Pk.up {k j:Nat} {x:Nat->F} {a:Nat->T} (hk:k<=j) (h:Pk xs ns k x a):Pk xs ns j x a:=by
 have p:2 ^ k<=2 ^ j:=fJ ⇑0 hk;exact ⟨λi hi=>⟨(h.1 i hi).1.up hk,(h.1 i hi).2⟩,λi hi=>(h.2 i hi).up ∅ ∅⟩
def nj (m:Str) (j:Nat):Str:=m++((toString (j:Int):String):Str)
def JH {m:Str} (hm:m = "c"\/m = "n") {i j:Nat} (hi:2<=i/\i < 5) (hj:2<=j/\j < 5) (h:i≠j):nj m i≠nj m j:=by
 rcases (show i = 2\/i = 3\/i = 4 by lia) with rfl | rfl | rfl<;>rcases (show j = 2\/j = 3\/j = 4 by lia) with rfl | rfl | rfl<;>first | exact absurd rfl h | (rcases hm with rfl | rfl<;>decide)
def OI {m:Str} (hm:m = "c"\/m = "n") {j:Nat} (hj:2<=j/\j < 5):nj m j≠"":=by
 rcases (show j = 2\/j = 3\/j = 4 by lia) with rfl | rfl | rfl<;>rcases hm with rfl | rfl<;>decide
def Bd:Nat->Int
 | 0=>900
 | k+1=>(Bd k - 2) / 2
def JV:∀ k,Bd k<=900
 | 0=>by decide
 | k+1=>by have:=JV k;show (Bd k - 2) / 2<=900;lia
def pks:List Str:=["word","not","and","or","if","all","some","and"]
def Oq (v:Int):∃ s:Str,atI (pks.map D.str) (v % 8) = some (.str s)/\(s = "word"\/(∃ u:U,s = u.s)\/∃ b:B,s = b.s):=by
 obtain ⟨x,hx,e⟩:=qT (ds:=pks.map D.str) (dy v (show (8:Int)≠0 by decide)) (cF v (show (0:Int) < 8 by decide));obtain ⟨s,hs,rfl⟩:=bj.mp hx;refine ⟨s,e,?_⟩;rcases (show ∀ s∈pks,s = "word"\/s = "not"\/s = "all"\/s = "some"\/s = "and"\/s = "or"\/s = "if" by decide) s hs with h | h | h | h | h | h | h
 . exact .inl h
 . exact .inr (.inl ⟨.neg,h⟩)
 . exact .inr (.inl ⟨.all,h⟩)
 . exact .inr (.inl ⟨.ex,h⟩)
 . exact .inr (.inr ⟨.and,h⟩)
 . exact .inr (.inr ⟨.or,h⟩)
 . exact .inr (.inr ⟨.imp,h⟩)
def Sp (xs:List Str) (m:Str) (s:List Int) (fam o:Int) (k:Nat):Prop:=∀ (n:Nat) (p:Int) (ns:List Str),k<=3->2<=ns.length->ns.length+k<=5->(∀ t∈ns,t∈xs)->(∀ j:Nat,ns.length<=j->j < 5->nj m j∉ns)->0<=p->p<=Bd k->fw Gs gls (n+k+25) 39 [.lst (s.map .int),.int p,.int k,.lst (ns.map .str),.tup [.int fam,.str m,.int o]] λD=>∃ fs ws,D = pairD fs ws/\Pk xs ns k fs ws
def yU {m:Str} (mc:m = "c"\/m = "n") (hm:∀ j:Nat,2<=j->j < 5->nj m j∈xs) (ml:m.length<=5) (s:List Int) (fam o:Int) (ho:0<=o/\o < 2) (k:Nat) (ih:∀ j,k = j+1->Sp xs m s fam o j):Sp xs m s fam o k:=by
 intro n p ns k3 n2 n5 hs nf p0 p1;have ss:=s64;have lf:∀ c:Int,fw Gs gls (n+k+24) 35 [.int c,.lst (ns.map .str),.tup [.int fam,.str m,.int o]] λD=>∃ fs ws,D = pairD fs ws/\Pk xs ns k fs ws:=λc=>bU (HI (n+k+20) ∅ ∅ hs c fam o m) λd ⟨fs,ws,e,h⟩=>⟨fs,ws,e,h.up (cT _)⟩;have p1':=JV k;refine aL ib rfl rfl rfl ?_;simp only [ib,init,SI,Nat.reduceAdd,Nat.reduceSub];refine cJ [.lst (s.map .int),.int p] ⋯ (bU (tV (n+k+23) s p p0 ∅) ?_);rintro _ ⟨c,rfl⟩;obtain ⟨kd,ek,hk⟩:=Oq c;refine ⟨_,rfl,gU (.str kd) (kg (x:=.lst (pks.map .str)) (y:=.int (c % 8)) ⋯ ⋯ ek) ⟨_,rfl,?_⟩⟩;refine bC (decide ((k:Int) = 0) || (kd == "word")) (qN ⋯ ⋯) (λ_=>jv [.int (c / 8),.lst (ns.map .str),.tup [.int fam,.str m,.int o]] ⋯ (lf _)) λhz=>?_;rw [lW] at hz;have k0:k≠0:=λe=>by have:=of_decide_eq_false hz.1;lia
 replace hk:=hk.resolve_left (beq_eq_false_iff_ne.mp hz.2);refine bp 0 [.val (.lst (s.map .int)),.val (.int p),.val (.int k),.val (.lst (ns.map .str)),.val (.tup [.int fam,.str m,.int o]),.val (.int c),.val (.str kd),.no,.no,.no,.no] ⋯ ?_;obtain ⟨k,rfl⟩:∃ i,k = i+1:=⟨k - 1,∅⟩;have p1:p<=(Bd k - 2) / 2:=p1;have ih:=λq ns=>ih k rfl n q ns ∅;have tl:((toString (ns.length:Int):String):Str).length<=9:=by rcases (show ns.length = 2\/ns.length = 3\/ns.length = 4 by lia) with e | e | e<;>rw [e]<;>decide
 have mu:opD .mul (.int 2) (.int p) = some (.int (2 * p)):=by
  show (if qG 2 p = true then some (D.int (2 * p)) else none) = _;rw [if_pos (mul_r ∅ ∅)]
 have ek1:((k+1:Nat):Int) - 1 = k:=by lia
 refine gU (.str (nj m ns.length)) (dw (x:=.str m) (y:=.str ((toString (ns.length:Int):String):Str)) ⋯ (km (ds:=[.int ns.length]) (aX (km (ds:=[.lst (ns.map .str)]) ⋯ (by show some (D.int ((ns.map D.str).length:Int)) = _;rw [ai])) rfl) (if_pos (iJ ∅ ∅))) (if_pos ∅)) ⟨_,rfl,?_⟩;refine bp 1 [.val (.lst (s.map .int)),.val (.int p),.val (.int (k+1:Nat)),.val (.lst (ns.map .str)),.val (.tup [.int fam,.str m,.int o]),.val (.int c),.val (.str kd),.val (.str (nj m ns.length)),.own (ns.map .str),.no,.no] ⋯ ?_;have rest:∀ inn:List Str,(((kd == "all") || (kd == "some")) = true/\inn = ns++[nj m ns.length]\/((kd == "all") || (kd == "some")) = false/\inn = ns)->wSs ⟨PP.run Gs gls (n+(k+1)+24),gls,hfs Gs⟩ (cB 6 ib.body) [.val (.lst (s.map .int)),.val (.int p),.val (.int (k+1:Nat)),.val (.lst (ns.map .str)),.val (.tup [.int fam,.str m,.int o]),.val (.int c),.val (.str kd),.val (.str (nj m ns.length)),.own (inn.map .str),.no,.no] (retS λD=>∃ x a,D = pairD x a/\Pk xs ns (k+1) x a):=λinn hinn=>?_
 . refine bC ((kd == "all") || (kd == "some")) (qN ⋯ ⋯) (λh=>gI (.str (nj m ns.length)) ⋯ rfl (by rw [ai];lia) ?_) λh=>rest ns (.inr ⟨h,rfl⟩);have r:=rest (ns++[nj m ns.length]) (.inl ⟨h,rfl⟩);rw [aI] at r;exact r
 have ho':=hm ns.length n2 ∅;have nv:=nf ns.length (ax _) ∅
 have ii:2<=inn.length/\inn.length+k<=5/\(∀ t∈inn,t∈xs)/\∀ j:Nat,inn.length<=j->j < 5->nj m j∉inn:=by
  rcases hinn with ⟨_,rfl⟩ | ⟨_,rfl⟩
  . rw [ag,aU];refine ⟨∅,∅,λt ht=>(aA.mp ht).elim (hs t) λz=>by rw [aK.mp z];exact ho',λj h1 h2 z=>?_⟩;rcases aA.mp z with z | z
    . exact nf j ∅ h2 z
    . exact JH mc ⟨∅,h2⟩ ⟨n2,∅⟩ ∅ (aK.mp z)
  . exact ⟨n2,∅,hs,nf⟩
 refine uZ [.lst (s.map .int),.int (2 * p+1),.int k,.lst (inn.map .str),.tup [.int fam,.str m,.int o]] [.val (.lst (s.map .int)),.val (.int p),.val (.int (k+1:Nat)),.val (.lst (ns.map .str)),.val (.tup [.int fam,.str m,.int o]),.val (.int c),.val (.str kd),.val (.str (nj m ns.length)),.val (.lst (inn.map .str)),.no,.no] (gM ⋯ (gM (d:=.int (2 * p+1)) (dw (x:=.int (2 * p)) (y:=.int 1) (dw (x:=.int 2) (y:=.int p) ⋯ ⋯ mu) ⋯ rfl) (gM (d:=.int k) (dw (x:=.int (k+1:Nat)) (y:=.int 1) ⋯ ⋯ (congrArg (λi=>some (D.int i)) ek1)) ⋯))) (bU (ih (2 * p+1) inn ii.1 ii.2.1 ii.2.2.1 ii.2.2.2 ∅ ∅) ?_);rintro _ ⟨fs,ws,rfl,hP⟩;refine ⟨_,rfl,?_⟩;rcases hk with ⟨u,rfl⟩ | ⟨b,rfl⟩
 . refine bC true (by cases u<;>kernel_rfl) (λ_=>jv [.str u.s,.str (nj m ns.length),pairD fs ws,.int o] ⋯ ?_) λe=>by cases e
   by_cases hu:u = .neg
   . subst hu;rcases hinn with ⟨z,_⟩ | ⟨_,rfl⟩
     . exact absurd z ⇑0
     . exact Oc (n+k+24) _ o ho ∅ hP
   . rcases hinn with ⟨_,rfl⟩ | ⟨z,_⟩
     . exact Ec (n+k+5) u hu _ ho' nv (OI mc ⟨n2,∅⟩) o ∅ hP
     . cases u with
       | neg=>exact absurd rfl hu
       | all=>exact absurd z ⇑0
       | ex=>exact absurd z ⇑0
 . refine bC false (by cases b<;>kernel_rfl) (λe=>by cases e) λ_=>?_;refine cJ [.lst (s.map .int),.int (2 * p+2),.int k,.lst (ns.map .str),.tup [.int fam,.str m,.int o]] (gM ⋯ (gM (d:=.int (2 * p+2)) (dw (x:=.int (2 * p)) (y:=.int 2) (dw (x:=.int 2) (y:=.int p) ⋯ ⋯ mu) ⋯ rfl) (gM (d:=.int k) (dw (x:=.int (k+1:Nat)) (y:=.int 1) ⋯ ⋯ (congrArg (λi=>some (D.int i)) ek1)) ⋯))) (bU (ih (2 * p+2) ns n2 ∅ hs nf ∅ ∅) ?_);rintro _ ⟨gs,vs,rfl,hQ⟩
   have e:inn = ns:=by
    rcases hinn with ⟨z,_⟩ | ⟨_,e⟩
    . cases b<;>exact absurd z ⇑0
    . exact e
   subst e;exact ⟨_,rfl,jv [.str b.s,.int (c / 8),pairD fs ws,pairD gs vs,.int o] ⋯ (Eb (n+k+23) b (c / 8) o ho ∅ hP hQ)⟩
def DX {m:Str} (mc:m = "c"\/m = "n") (hm:∀ j:Nat,2<=j->j < 5->nj m j∈xs) (ml:m.length<=5) (s:List Int) (fam o:Int) (ho:0<=o/\o < 2):∀ k:Nat,Sp xs m s fam o k
 | 0=>yU mc hm ml s fam o ho 0 λj e=>by cases e
 | k+1=>yU mc hm ml s fam o ho (k+1) λj e=>by cases e;exact DX mc hm ml s fam o ho k
end P1
end
section
namespace P1
open PySem L2 PP
def IX {cx:Cl} {es:Es} {δ:PP.Loc} {ds:List D} (h:dH cx es δ = some (ds,δ)) (hl:ds.length<=sizeLine):evE cx (.lst es) δ = some (.lst ds,δ):=by
 simp only [evE,h,ae,aP];rw [if_pos hl];rfl
def Lo (n:Nat) (ns:List Int):fw Gs gls (n+2) 40 [.lst (ns.map .int)] λD=>∃ (a b m:Str) (fam o:Int),D = .tup [.lst [.str a,.str b],.tup [.int fam,.str m,.int o]]/\((nq a/\nq b)\/a = "n0"/\b = "n1"/\m = "c")/\(m = "c"\/m = "n")/\0<=o/\o < 2:=by
 have ss:=s64;have nz:nq "z":=⟨122,[],rfl,⇑0,⇑0,⇑0,⇑0⟩;refine aL ic rfl rfl rfl ?_;simp only [ic,init,SI,Nat.reduceAdd,Nat.reduceSub];refine cJ [.lst (ns.map .int),.int 0] ⋯ (bU (tV n ns 0 ⇑0 ⇑0) ?_);rintro _ ⟨c,rfl⟩;obtain ⟨_,ra,a,rfl,ha⟩:=xJ n (c / 4) "z" ⇑0 nz 0 ⇑0 ⇑0;obtain ⟨_,rb,b,rfl,hb⟩:=xJ n (c / 4) "z" ⇑0 nz 1 ⇑0 ⇑0;have o2:0<=c / 32 % 2/\c / 32 % 2 < 2:=by lia
 obtain ⟨m,em,hm,h1⟩:∃ m:Str,atI [D.str "c",D.str "n"] (if decide (c % 4 = 1) = true then 1 else 0) = some (.str m)/\(m = "c"\/m = "n")/\(c % 4 = 0->m = "c"):=by
  split
  . exact ⟨"n",rfl,.inr rfl,λz=>by rename_i h;have:=of_decide_eq_true h;lia⟩
  . exact ⟨"c",rfl,.inl rfl,λ_=>rfl⟩
 have fin:∀ {Q:D->Prop} (x y:D),Q (.tup [.lst [x,y],.tup [.int (c / 4),.str m,.int (c / 32 % 2)]])->wSs ⟨PP.run Gs gls (n+1),gls,hfs Gs⟩ (cB 3 ic.body) [.val (.lst (ns.map .int)),.val (.int c),.val (.lst [x,y])] (retS Q):=λx y q=>fS _ (lD (aX rfl (aX (lD (aX ⋯ (aX (kg (x:=.lst [.str "c",.str "n"]) (y:=.int (if decide (c % 4 = 1) = true then 1 else 0)) ⋯ ⋯ em) ⋯)) (show 3<=_ by lia)) rfl)) (show 2<=_ by lia)) q;exact ⟨_,rfl,gU (.lst [.str a,.str b]) (IX (aX (cU [.int (c / 4),.str "z",.int 0] ⋯ ra) (aX (cU [.int (c / 4),.str "z",.int 1] ⋯ rb) rfl)) (show 2<=_ by lia)) ⟨_,rfl,bC (decide (c % 4 = 0)) ⋯ (λz=>bp 1 [.val (.lst (ns.map .int)),.val (.int c),.val (.lst [.str "n0",.str "n1"])] ⋯ (fin _ _ ⟨_,_,m,_,_,rfl,.inr ⟨rfl,rfl,h1 (of_decide_eq_true z)⟩,hm,o2⟩)) λ_=>fin _ _ ⟨a,b,m,_,_,rfl,.inl ⟨ha,hb⟩,hm,o2⟩⟩⟩
def El (a b m:Str):List Str:=[a,b,nj m 2,nj m 3,nj m 4,"n0","n1"]
structure Md (a b m:Str) (l:List It) (t:T):Prop where
 nb:∀ x∈XX [a,b,nj m 2,nj m 3,nj m 4] 4,nm x
 bo:∀ k,5<=k->k < 60->nS k∉[a,b,nj m 2,nj m 3,nj m 4]
 go:∀ p∈l,Go (XX [a,b,nj m 2,nj m 3,nj m 4] 4) p.2
 nl:∀ p∈l,nin [a,b] p.2
 ll:l.length = 2
 ok:okT (XX [a,b,nj m 2,nj m 3,nj m 4] 4) t
 sh:shp t
 fr:fsh t [a,b]
 h9:ht t<=19
 wl:wB t
 tl:(twT t).length<=10000
def vV {x y:Str} {c d:Nat} {r s:List Nat} (h:x.cps.toList = c::r) (g:y.cps.toList = d::s) (n:c≠d):x≠y:=λe=>by
 rw [e,g] at h;exact n (List.cons.inj h).1.symm
def EZ (k:Nat):(nS k).cps.toList = 110::((toString (k:Int):String):Str).cps.toList:=by
 unfold nS;show (("n":Str).cps++((toString (k:Int):String):Str).cps).toList = _;rw [cO];rfl
def JI {m:Str} (mc:m = "c"\/m = "n") (j:Nat):∃ c r,(nj m j).cps.toList = c::r/\(c = 99\/c = 110):=by
 unfold nj;rcases mc with rfl | rfl
 . exact ⟨99,((toString (j:Int):String):Str).cps.toList,by show (("c":Str).cps++((toString (j:Int):String):Str).cps).toList = _;rw [cO];rfl,.inl rfl⟩
 . exact ⟨110,((toString (j:Int):String):Str).cps.toList,by show (("n":Str).cps++((toString (j:Int):String):Str).cps).toList = _;rw [cO];rfl,.inr rfl⟩
def JF {x m:Str} (h:nq x) (mc:m = "c"\/m = "n") (j:Nat):nj m j≠x:=by
 obtain ⟨c,r,e,_,_,h1,h2⟩:=h;obtain ⟨d,s,g,hd⟩:=JI mc j;exact vV g e (by rcases hd with rfl | rfl;exact λz=>h1 z.symm;exact λz=>h2 z.symm)
def JG {x:Str} (h:nq x) (k:Nat):nS k≠x:=by
 obtain ⟨c,r,e,_,_,h1,h2⟩:=h;exact vV (EZ k) e λz=>h2 z.symm
def EV {m:Str} (mc:m = "c"\/m = "n") (j:Nat):nm (nj m j):=by
 obtain ⟨d,s,g,hd⟩:=JI mc j;exact ⟨d,s,g,by rcases hd with rfl | rfl<;>decide,by rcases hd with rfl | rfl<;>decide⟩
def EX (k:Nat):nm (nS k):=⟨110,_,EZ k,⇑0,⇑0⟩
def Ka {xs:List Str} {t:T} (h:okT xs t):wt t<=31 * nds t:=by
 unfold wt nds
 have:∀ l:List T,(∀ k∈l,okT xs k)->(l.map wtA).sum<=31 * l.length:=λl=>by
  induction l with
  | nil=>intro _;exact ax _
  | cons k l ih =>
    intro hk;have h1:=ih λj hj=>hk j (ao _ hj)
    have h2:wtA k<=31:=by
     have:=hk k ar
     cases k with
     | rule L A w ks=>have:=this.1.1.2.2.1;simp only [wtA];lia
     | _=>simp [wtA]
    rw [aW,nL,aw]
    lia
 exact this _ λk hk=>(uc (ht t) t (ax _) h k hk).1
def Qc (xs ns:List Str) (m c:Nat) (t:T):Prop:=okT xs t/\shp t/\fsh t ns/\ht t<=m/\nds t<=c/\wB t
def Qm.qc {xs ns:List Str} {m c:Nat} {t:T} (h:Qm xs ns m c t) (hc:c<=120):Qc xs ns m c t:=⟨h.1,xF h.2.1,h.2.2.1,h.2.2.2.1,h.2.2.2.2,Di h.2.1 (by have:=Ka h.1;have:=h.2.2.2.2;lia)⟩
def Qc.cut {xs ns:List Str} {m c c':Nat} {s t:T} {A:F} (hA:Go xs A) (hi:nin ns A) (g:Qc xs ns m c s) (h:Qc xs ns m c' t):Qc xs ns (m+1) (c+c'+1) (.cut A s t) :=
 ⟨⟨hA,g.1,h.1⟩,⟨g.2.1,h.2.1⟩,⟨hi,g.2.2.1,h.2.2.1⟩,by have:=g.2.2.2.1;have:=h.2.2.2.1;simp only [ht];lia,by have:=g.2.2.2.2.1;have:=h.2.2.2.2.1;rw [OL];lia,g.2.2.2.2.2,h.2.2.2.2.2⟩
def Qc.up {xs ns:List Str} {m m' c c':Nat} {t:T} (h:Qc xs ns m c t) (hm:m<=m') (hc:c<=c'):Qc xs ns m' c' t:=⟨h.1,h.2.1,h.2.2.1,aS h.2.2.2.1 hm,aS h.2.2.2.2.1 hc,h.2.2.2.2.2⟩
def Lp (n:Nat) (ns:List Int):fw Gs gls (n+60) 41 [.lst (ns.map .int)] λD=>∃ (a b m:Str) (fam o:Int) (l:List It) (t:T),D = .tup [.lst (l.map itD),eT t,.lst ((El a b m).map .str),.tup [.int fam,.str m,.int o]]/\Md a b m l t:=by
 have ss:=s64;refine aL fi rfl rfl rfl ?_;simp only [fi,init,SI,Nat.reduceAdd,Nat.reduceSub];refine cJ [.lst (ns.map .int)] ⋯ (bU (Lo (n+57) ns) ?_);rintro _ ⟨a,b,m,fam,o,rfl,hab,mc,ho⟩;refine ⟨_,rfl,?_⟩;obtain ⟨_,rc,c,rfl⟩:=tV (n+58) ns 0 ⇑0 ⇑0;refine gU (.int (c / 64)) (dw (x:=.int c) (y:=.int 64) (cU [.lst (ns.map .int),.int 0] ⋯ rc) ⋯ rfl) ⟨_,rfl,?_⟩;generalize c / 64 = c;have ml:m.length<=5:=by rcases mc with rfl | rfl<;>decide
 generalize hxs:XX [a,b,nj m 2,nj m 3,nj m 4] 4 = xs;have inx:∀ x∈[a,b,nj m 2,nj m 3,nj m 4],x∈xs:=λx hx=>by subst hxs;exact bD _ hx
 have hne:∀ j:Nat,nj m j∉[a,b]:=λj z=>by
  simp only [az,bc,or_false] at z;rcases hab with ⟨ha,hb⟩ | ⟨rfl,rfl,rfl⟩
  . rcases z with z | z
    . exact JF ha mc j z
    . exact JF hb mc j z
  . obtain ⟨d,s,g,hd⟩:∃ d s,(nj "c" j).cps.toList = d::s/\d = 99:=⟨99,((toString (j:Int):String):Str).cps.toList,by unfold nj;show (("c":Str).cps++((toString (j:Int):String):Str).cps).toList = _;rw [cO];rfl,rfl⟩;rcases z with z | z
    . exact vV g (show ("n0":Str).cps.toList = 110::[48] by decide) (by rw [hd];decide) z
    . exact vV g (show ("n1":Str).cps.toList = 110::[49] by decide) (by rw [hd];decide) z
 have ow:∀ j:Nat,2<=j->j < 5->nj m j∈xs:=λj h1 h2=>inx _ (by rcases (show j = 2\/j = 3\/j = 4 by lia) with rfl | rfl | rfl<;>simp);refine bp 1 [.val (.lst (ns.map .int)),.val (.lst [.str a,.str b]),.val (.tup [.int fam,.str m,.int o]),.val (.int c),.val (.str (nj m 2)),.no,.no,.no,.no,.no] (by rcases mc with rfl | rfl<;>kernel_rfl) ?_
 obtain ⟨k,ek,k3⟩:∃ k:Nat,1+(if decide (c / 8 % 3 = 1) = true then 1 else 0:Int) = (k:Int)/\k<=2:=by
  split
  . exact ⟨2,rfl,⇑0⟩
  . exact ⟨1,rfl,⇑0⟩
 have wp:=DX (xs:=xs) mc ow ml ns fam o ho k (n+(34 - k)) 1 [a,b,nj m 2] ∅ (by show 2<=3;decide) (by show 3+k<=5;lia) (λx hx=>inx x (by simp only [az] at hx |-;rcases hx with h | h | h | h<;>simp only [h,true_or,or_true])) (λj h1 h2 z=>by
  have h1:3<=j:=h1;rcases aA.mp (show nj m j∈[a,b]++[nj m 2] from z) with z | z
  . exact hne j z
  . exact JH mc ⟨∅,h2⟩ ⟨⇑0,⇑0⟩ ∅ (aK.mp z)) ⇑0 (by rcases (show k = 0\/k = 1\/k = 2 by lia) with rfl | rfl | rfl<;>decide)
 rw [show n+(34 - k)+k+25 = n+59 by lia,<- ek] at wp;refine cJ [.lst (ns.map .int),.int 1,.int (1+(if decide (c / 8 % 3 = 1) = true then 1 else 0:Int)),.lst [.str a,.str b,.str (nj m 2)],.tup [.int fam,.str m,.int o]] ⋯ (bU wp ?_);rintro _ ⟨fs,ws,rfl,hP⟩;refine ⟨_,rfl,?_⟩;generalize eP5:pairD fs ws = P5
 obtain ⟨u,hu,eu⟩:∃ u:U,u≠.neg/\atI [D.str "all",D.str "some"] (c / 4 % 2) = some (.str u.s):=by
  rcases (show c / 4 % 2 = 0\/c / 4 % 2 = 1 by lia) with e | e<;>rw [e]
  . exact ⟨.all,λz=>(by cases z),rfl⟩
  . exact ⟨.ex,λz=>(by cases z),rfl⟩
 refine cJ [.str u.s,.str (nj m 2),P5,.int o] (aX (kg (x:=.lst [.str "all",.str "some"]) (y:=.int (c / 4 % 2)) ⋯ ⋯ eu) ⋯) (eP5▸bU (Ec (ns:=[a,b]) (n+39) u hu (nj m 2) (ow 2 ⇑0 ⇑0) (hne 2) (OI mc ⟨⇑0,⇑0⟩) o k3 hP) ?_);rintro _ ⟨f,v,rfl,hP⟩;refine ⟨_,rfl,?_⟩;replace hP:=hP.up (show k+1<=3 by lia);have g0:=hP.1 0 ⇑0;have g1:=hP.1 1 ⇑0;have g2:=hP.1 2 ⇑0;have h0:=g0.1.go ⇑0;have h1:=g1.1.go ⇑0;have h2:=g2.1.go ⇑0;have q1:=(hP.2 1 ⇑0).qc ⇑0;have q2:=(hP.2 2 ⇑0).qc ⇑0;have q3:=(hP.2 3 ⇑0).qc ⇑0;have q5:=(hP.2 5 ⇑0).qc ⇑0
 have xnm:∀ x∈xs,nm x:=λx hx=>by
  subst hxs;rcases aA.mp hx with z | z
  . simp only [az,bc,or_false] at z;rcases z with rfl | rfl | rfl | rfl | rfl
    . rcases hab with ⟨ha,_⟩ | ⟨rfl,_,_⟩
      . exact ha.nm
      . exact EX 0
    . rcases hab with ⟨_,hb⟩ | ⟨_,rfl,_⟩
      . exact hb.nm
      . exact EX 1
    . exact EV mc 2
    . exact EV mc 3
    . exact EV mc 4
  . obtain ⟨i,_,rfl⟩:=bj.mp z;exact EX i
 have bo:∀ k,5<=k->k < 60->nS k∉[a,b,nj m 2,nj m 3,nj m 4]:=λk k5 k6 z=>by
  have nSj:∀ j:Nat,j < 5->nS k≠nj m j:=λj hj e=>by
   rcases mc with rfl | rfl
   . obtain ⟨d,s,g,hd⟩:∃ d s,(nj "c" j).cps.toList = d::s/\d = 99:=⟨99,((toString (j:Int):String):Str).cps.toList,by unfold nj;show (("c":Str).cps++((toString (j:Int):String):Str).cps).toList = _;rw [cO];rfl,rfl⟩;exact vV (EZ k) g (by rw [hd];decide) e
   . have:=uh k6 (show j < 60 by lia) e
     lia
  simp only [az,bc,or_false] at z;rcases z with z | z | z | z | z
  . rcases hab with ⟨ha,_⟩ | ⟨rfl,_,_⟩
    . exact JG ha k z
    . have:=uh k6 (show 0 < 60 by decide) z
      lia
  . rcases hab with ⟨_,hb⟩ | ⟨_,rfl,_⟩
    . exact JG hb k z
    . have:=uh k6 (show 1 < 60 by decide) z
      lia
  . exact nSj 2 ⇑0 z
  . exact nSj 3 ⇑0 z
  . exact nSj 4 ⇑0 z
 let st:T->PP.Loc:=λt=>[.val (.lst (ns.map .int)),.val (.lst [.str a,.str b]),.val (.tup [.int fam,.str m,.int o]),.val (.int c),.val (.str (nj m 2)),.val P5,.val (.lst [enc (f 0),enc (f 1),enc (f 2)]),.val (.lst [.lst [eT (v 0),eT (v 1),eT (v 2)],.lst [eT (v 3),eT (v 4),eT (v 5)],.lst [eT (v 6),eT (v 7),eT (v 8)]]),.val (.lst [itD (true,(f 0)),itD (false,(f 2))]),.val (eT t)]
 let Q:Out->Prop:=retS λD=>∃ (a b m:Str) (fam o:Int) (l:List It) (t:T),D = .tup [.lst (l.map itD),eT t,.lst ((El a b m).map .str),.tup [.int fam,.str m,.int o]]/\Md a b m l t
 have fin:∀ t,Qc xs [a,b] 19 300 t->wSs ⟨PP.run Gs gls (n+59),gls,hfs Gs⟩ (cB 10 fi.body) (st t) Q:=λt h=>by
  refine gH (d:=.tup [.lst ([(true,(f 0)),(false,(f 2))].map itD),eT t,.lst ((El a b m).map .str),.tup [.int fam,.str m,.int o]]) (by rcases mc with rfl | rfl<;>kernel_rfl) ⟨a,b,m,fam,o,[(true,(f 0)),(false,(f 2))],t,rfl,?_⟩;subst hxs
  exact ⟨xnm,bo,λp hp=>by
   simp only [az,bc,or_false] at hp;rcases hp with rfl | rfl
   . exact h0
   . exact h2,λp hp=>by
   simp only [az,bc,or_false] at hp;rcases hp with rfl | rfl
   . exact g0.2
   . exact g2.2,rfl,h.1,h.2.1,h.2.2.1,h.2.2.2.1,h.2.2.2.2.2,by have:=h.2.2.2.2.1;unfold nds at this;lia⟩
 have go3:∀ t,Qc xs [a,b] 19 300 t->decide (c % 4 = 3) = false->wSs ⟨PP.run Gs gls (n+59),gls,hfs Gs⟩ (cB 9 fi.body) (st t) Q:=λt h e=>bC (decide (c % 4 = 3)) ⋯ (λz=>by rw [e] at z;cases z) λ_=>fin t h;have go2:∀ t,Qc xs [a,b] 19 300 t->decide (c % 4 = 2) = false->decide (c % 4 = 3) = false->wSs ⟨PP.run Gs gls (n+59),gls,hfs Gs⟩ (cB 8 fi.body) (st t) Q:=λt h e e3=>bC (decide (c % 4 = 2)) ⋯ (λz=>by rw [e] at z;cases z) λ_=>go3 t h e3;refine bp 2 (st (.cut (f 1) (v 1) (v 5))) ⋯ ?_;refine bC (decide (c % 4 = 0)) ⋯ (λe=>bp 1 (st (v 2)) ⋯ (go2 (v 2) (q2.up ⇑0 ⇑0) (decide_eq_false (by have:=of_decide_eq_true e;lia)) (decide_eq_false (by have:=of_decide_eq_true e;lia)))) λ_=>?_;refine bC (decide (c % 4 = 2)) ⋯ (λe=>bp 1 (st (.cut (f 1) (v 1) (.cut (f 0) (v 3) (v 2)))) ⋯ (go3 _ ((Qc.cut h1 g1.2 (q1.up (gC _) (ax _)) (Qc.cut h0 g0.2 q3 q2)).up ⇑0 ⇑0) (decide_eq_false (by have:=of_decide_eq_true e;lia)))) λ_=>?_;refine bC (decide (c % 4 = 3)) ⋯ (λe=>bp 1 (st (.cut (f 0) (.cut (f 1) (v 1) (v 3)) (v 2))) ⋯ (fin _ ((Qc.cut h0 g0.2 (Qc.cut h1 g1.2 q1 q3) (q2.up (gC _) (ax _))).up ⇑0 ⇑0))) λ_=>fin _ ((Qc.cut h1 g1.2 q1 q5).up ⇑0 ⇑0)
def yA {ds:List D} {lo hi:Option Int} {Q:D->Prop}:wSl (.lst ds) lo hi Q↔Q (.lst (cutD ds lo hi)):=by simp [wSl,slD]
def zR {ds:List D} {lo hi:Option Int} {x:D} (h:x∈cutD ds lo hi):x∈ds:=by
 unfold cutD at h;exact Ak (Aj h)
def zq {l:List It}:∀ {xs:List D},(∀ x∈xs,x∈l.map itD)->∃ l':List It,xs = l'.map itD/\∀ p∈l',p∈l
 | [],_=>⟨[],rfl,λ_ h=>by cases h⟩
 | x::xs,h=>by
   obtain ⟨p,hp,rfl⟩:=bj.mp (h x ar);obtain ⟨l',rfl,h'⟩:=zq (xs:=xs) λy hy=>h y (ao _ hy)
   exact ⟨p::l',rfl,λq hq=>by
    rcases az.mp hq with rfl | hq
    . exact hp
    . exact h' q hq⟩
def DY (n:Nat) (l:List It) (h:low l) (hl:l.length < 64):fw Gs gls (n+1) 25 [.lst (l.map itD)] λd=>∃ row:List It,d = .tup (row.map itD)/\(∀ p,p∈row↔p∈l)/\row.length<=l.length:=by
 have ss:=s64;refine aL jm rfl rfl rfl ?_;simp only [jm,init,SI,Nat.reduceAdd,Nat.reduceSub];simp only [↓WS,↓WC,WI,↓reduceIte];refine ⟨⇑0,mS h hl,?_⟩;rw [Dv];refine eZ (g:=itD) (λrest δ=>∃ (acc:List It) (s:Sl),δ = [.val (.lst (l.map itD)),.own (acc.map itD),s]/\low acc/\low rest/\(∀ p,(p∈acc\/p∈rest)↔p∈l)/\acc.length+rest.length<=l.length) ?_ ?_ _ _ ⟨[],_,rfl,(λp hp=>by cases hp),(λp hp=>h p ((iN l).mem_iff.mp hp)),λp=>by simp [(iN l).mem_iff],by rw [aD,(iN l).length_eq];lia⟩
 . rintro x rest δ ⟨acc,s,rfl,ha,hr,e,hlen⟩;rw [aw] at hlen;have hx:=hr x ar;simp only [↓yA,↓WS,↓WC,WI,↓reduceIte];obtain ⟨c,ec,hc⟩:=zq (l:=acc) (xs:=cutD (acc.map itD) (some (-1)) none) λy hy=>zR hy;have lc:low c:=λp hp=>ha p (hc p hp);rw [ec]
   have hin:kX .notin (itD x) (.lst (c.map itD)) = some (!has c x):=by
    show (inD (itD x) (.lst (c.map itD))).map (!·) = _;unfold inD;dsimp only;rw [if_pos (Pe lc hx)];rfl
   refine ⟨_,hin,?_⟩
   cases hh:has c x with
   | false=>exact By ⟨by rw [ai];lia,acc++[x],_,by rw [aI];rfl,ha.app (.one hx),hr.tail,λp=>by rw [<- e p,aA,aK,az,or_assoc],by rw [ag,aU];lia⟩
   | true =>
     have hxa:=hc x ((IU lc).mp hh);refine xX ⟨acc,_,rfl,ha,hr.tail,λp=>?_,∅⟩;rw [<- e p,az];exact ⟨λz=>z.imp id .inr,λz=>z.elim .inl λz=>z.elim (λw=>.inl (w▸hxa)) .inr⟩
 . rintro δ ⟨acc,s,rfl,_,_,e,hlen⟩;simp only [↓WS,↓WC,WI,↓reduceIte];exact ⟨acc,rfl,λp=>by have:=e p;simpa using this,by simpa using hlen⟩
def FQ (ds:List D):(cutD ds (some 12) (some 32)).length<=20:=by
 unfold cutD;rw [da];simp only [HT.sIx]
 lia
section
variable {xs so:List Str}
def St.go {A:F} (hs:∀ t∈so,t∈xs) (h:St so 1 1 A):Go xs A/\Go xs (.un .neg A):=by
 obtain ⟨a,b,c,d⟩:=h;have d':∀ t∈tms A,t∈xs\/∃ j:Int,0<=j/\j < 10/\t = pl j:=λt ht=>(d t ht).imp (hs t) λ⟨j,j0,j1,e⟩=>⟨j,j0,∅,e⟩;exact ⟨⟨∅,∅,∅,d'⟩,by simp only [hF];lia,by simp only [sz];lia,by show (tms A).length<=_;lia,d'⟩
end
def FK {X:D} (h:dep X<=150) (hk:kin X X = true):kX .eq X X = some true:=by
 show (if gy X X = true then some (eqD X X) else _) = _;rw [if_pos (by unfold gy;rw [hk,jQ,aa,decide_eq_true_eq,decide_eq_true_eq];lia),iV _ ∅]
def JK (t:T):kin (eT t) (eT t) = true:=by cases t<;>rfl
def main (ns:List Int) (_:ns.length<=63):PP.run Gs gls 200 48 [.lst (ns.map .int)] = some (.bl true):=by
 have ss:=s64;apply aZ;refine aL d_law rfl rfl rfl ?_;simp only [d_law,init,SI,Nat.reduceAdd,Nat.reduceSub];refine cJ [.lst (ns.map .int)] ⋯ (bU (Lp 139 ns) ?_);rintro _ ⟨a,b,m,fam,o,l,t,rfl,M⟩;refine ⟨_,rfl,?_⟩;generalize hbs:[a,b,nj m 2,nj m 3,nj m 4] = bs;have Mo:=M.ok;have Mg:=M.go;have Mb:=M.bo;have Mn:=M.nb;rw [hbs] at Mo Mg Mb Mn;have bl:bs.length = 5:=by rw [<- hbs];rfl
 have pin:∀ x∈El a b m,x∈XX bs 4:=λx hx=>by
  rcases aA.mp (show x∈[a,b,nj m 2,nj m 3,nj m 4]++[nS 0,nS 1] from hx) with z | z
  . rw [hbs] at z;exact bD _ z
  . simp only [az,bc,or_false] at z;rcases z with rfl | rfl
    . exact zo ⇑0
    . exact zo ⇑0
 generalize hpo:El a b m = po at pin;have pl7:po.length = 7:=by rw [<- hpo];rfl
 generalize eP0:D.lst (ns.map D.int) = P0;generalize eP3:D.lst (po.map D.str) = P3;generalize eP1:D.lst (l.map itD) = P1;generalize eP2:eT t = P2;refine bp 1 [.val P0,.val P1,.val P2,.val P3,.val (.tup [.int fam,.str m,.int o]),.own [],.no,.no,.no,.no,.no,.no] ⋯ ?_;refine gR (R:=λδ=>∃ (e:List It) (s6:Sl),δ = [.val P0,.val P1,.val P2,.val P3,.val (.tup [.int fam,.str m,.int o]),.own (e.map itD),s6,.no,.no,.no,.no,.no]/\(∀ p∈e,Go (XX bs 4) p.2)/\e.length<=20) 1 _ _ ?_ ?_
 . subst eP0;simp only [cB,jx,↓yA,SI,↓WS,↓WC,WI,↓reduceIte];generalize eP0:D.lst (ns.map D.int) = P0;refine iM (λzs δ=>∃ (e:List It) (s6:Sl),δ = [.val P0,.val P1,.val P2,.val P3,.val (.tup [.int fam,.str m,.int o]),.own (e.map itD),s6,.no,.no,.no,.no,.no]/\(∀ p∈e,Go (XX bs 4) p.2)/\e.length+zs.length<=20/\∀ z∈zs,∃ i,z = .int i) ?_ ?_ _ _ ⟨[],_,rfl,(λp h=>by cases h),by have:=FQ (ns.map D.int);rw [aD];lia,λz hz=>?_⟩
   . rintro z zs δ ⟨e,s6,rfl,hl,hll,hz⟩;obtain ⟨i,rfl⟩:=hz z ar;rw [aw] at hll
     obtain ⟨L,eL⟩:∃ L:Bool,atI [D.str "left",D.str "right"] (i % 2) = some (.str (sd L)):=by
      rcases (show i % 2 = 0\/i % 2 = 1 by lia) with e | e<;>rw [e]
      . exact ⟨true,rfl⟩
      . exact ⟨false,rfl⟩
     simp only [aw,aD,ai,SI,↓WS,↓WC,WI,↓reduceIte];refine ⟨⇑0,⇑0,_,eL,⟨⇑0,⇑0⟩,?_⟩;subst eP3;refine bU (oM fam po ∅ 1 195 0 (i / 2) ∅) ?_;rintro _ ⟨A,rfl,hA⟩;exact ⟨⇑0,∅,e++[(L,A)],_,by rw [aI];rfl,λp hp=>(aA.mp hp).elim (hl p) λz=>by rw [aK.mp z];exact (St.go pin hA).1,by rw [ag,aU];lia,λz h=>hz z (ao _ h)⟩
   . rintro δ ⟨e,s6,rfl,hl,hll,_⟩;exact ⟨.nx _,rfl,e,s6,rfl,hl,by simpa using hll⟩
   . obtain ⟨i,_,rfl⟩:=bj.mp (zR hz);exact ⟨i,rfl⟩
 rintro δ ⟨e,s6,rfl,he,e20⟩;have wc:fw Gs gls 199 26 [P0,.int 32] λd=>∃ c:Int,d = .int c:=by subst eP0;exact tV 198 ns 32 ⇑0 ⇑0
 refine cJ [P0,.int 32] ⋯ (bU wc ?_);rintro _ ⟨c,rfl⟩;refine ⟨_,rfl,?_⟩;refine bp 1 [.val P0,.val P1,.val P2,.val P3,.val (.tup [.int fam,.str m,.int o]),.own (e.map itD),s6,.val (.int c),.own [],.no,.no,.no] ⋯ ?_;refine lx (om 0 7) (zL (j:=7) (km (ds:=[P3]) ⋯ (by subst eP3;show some (D.int ((po.map D.str).length:Int)) = _;rw [ai,pl7];rfl)) ⇑0 ⇑0) ?_;refine iM (λzs δ=>∃ (sh:List Str) (s9:Sl),δ = [.val P0,.val P1,.val P2,.val P3,.val (.tup [.int fam,.str m,.int o]),.own (e.map itD),s6,.val (.int c),.own (sh.map .str),s9,.no,.no]/\(∀ x∈sh,x∈XX bs 4)/\sh.length+zs.length<=7/\∀ z∈zs,∃ i:Nat,i < 7/\z = .int i) ?_ ?_ _ _ ⟨[],_,rfl,(λx h=>by cases h),ax _,λz hz=>by obtain ⟨i,hi,rfl⟩:=mT hz;exact ⟨i,hi,↥0⟩⟩
 . rintro z zs δ ⟨sh,s9,rfl,hsh,hl,hz⟩;obtain ⟨i,hi,rfl⟩:=hz z ar;rw [aw] at hl;have tl:=λz h=>hz z (ao _ h);obtain ⟨d,hd,ed⟩:=qT (ds:=po.map D.str) (j:=(i:Int)) ∅ (by rw [ai,pl7];lia);obtain ⟨x,hx,rfl⟩:=bj.mp hd;refine ⟨_,rfl,bC (decide (c / ((i:Int)+2) % 3 = 1)) (by rcases (show i = 0\/i = 1\/i = 2\/i = 3\/i = 4\/i = 5\/i = 6 by lia) with rfl | rfl | rfl | rfl | rfl | rfl | rfl<;>kernel_rfl) (λ_=>?_) λ_=>⟨.nx _,rfl,sh,_,rfl,hsh,∅,tl⟩⟩;refine gI (.str x) (kg (x:=P3) (y:=.int i) ⋯ ⋯ (by subst eP3;exact ed)) rfl (by rw [ai];lia) (je.mpr ⟨sh++[x],.val (.int i),by rw [aI];rfl,λy hy=>(aA.mp hy).elim (hsh y) λz=>by rw [aK.mp z];exact pin x hx,by rw [ag,aU];lia,tl⟩)
 rintro δ ⟨sh,s9,rfl,hsh,sh7,_⟩;simp only [aD,pA] at sh7;have h9:=M.h9;have ll2:=M.ll;have lo:∀ {r:List It},(∀ p∈r,Go (XX bs 4) p.2)->low r:=λh p hp=>(h p hp).2.1;have gle:∀ p∈l++e,Go (XX bs 4) p.2:=λp hp=>(aA.mp hp).elim (Mg p) (he p);have lle:(l++e).length<=22:=by rw [ag];lia
 obtain ⟨_,o1,row,rfl,r1,r2⟩:=DY 198 (l++e) (lo gle) ∅;obtain ⟨_,o2,row0,rfl,r3,r4⟩:=DY 198 l (lo Mg) ∅;have A1:At bs 4 row (l++e) sh t:=⟨Mn,bl,Mb,ax _,∅,gle,r1,∅,∅,hsh,∅,Mo,M.wl,M.tl⟩;have A2:At bs 4 (l++e) (l++e) sh t:=⟨Mn,bl,Mb,ax _,∅,gle,λ_=>bL,∅,∅,hsh,∅,Mo,M.wl,M.tl⟩;have A3:At bs 4 row0 l [] t:=⟨Mn,bl,Mb,ax _,∅,Mg,r3,∅,∅,(λx h=>by cases h),cT _,Mo,M.wl,M.tl⟩;obtain ⟨_,f1,t',rfl,d1,ok',h'⟩:=qx 19 20 t row (l++e) 4 h9 A1 M.sh;obtain ⟨_,f2,t'',rfl,d2,_,_⟩:=qx 19 20 t row0 l 4 h9 A3 M.sh;rw [pQ t'' t l [a,b] d2 M.fr M.nl] at f2;have c1:=yV 19 50 t t' (l++e) 4 h9 A2 M.sh d1 ok';have dt:dep (eT t)<=150:=by have:=sG t Mo;lia
 have dt':dep (eT t')<=150:=by have:=sG t' ok';lia
 subst eP1 eP2;refine bp 1 [.val P0,.val (.lst (l.map itD)),.val (eT t),.val P3,.val (.tup [.int fam,.str m,.int o]),.own (e.map itD),s6,.val (.int c),.own (sh.map .str),s9,.val (.lst (sh.map .str)),.no] ⋯ ?_;refine gR (R:=λδ=>δ = [.val P0,.val (.lst (l.map itD)),.val (eT t),.val P3,.val (.tup [.int fam,.str m,.int o]),.val (.lst (e.map itD)),s6,.val (.int c),.own (sh.map .str),s9,.val (.lst (sh.map .str)),.val (eT t')]) 1 _ _ ?_ ?_
 . simp only [cB,jx,ai,SI,↓WS,↓WC,WI,↓reduceIte];rw [<- aI];exact ⟨∅,(aV o1).mpr ((aV f1).mpr rfl)⟩
 rintro δ rfl;refine gR (R:=λδ=>δ = [.val P0,.val (.lst (l.map itD)),.val (eT t),.val P3,.val (.tup [.int fam,.str m,.int o]),.val (.lst (e.map itD)),s6,.val (.int c),.val (.lst (sh.map .str)),s9,.val (.lst (sh.map .str)),.val (eT t')]) 1 _ _ ?_ ?_
 . simp only [cB,jx,ai,SI,↓WS,↓WC,WI,↓reduceIte];refine ⟨false,ne_self (by unfold dep;rw [ni];decide) rfl,xX ⟨∅,?_⟩⟩;rw [<- aI];exact (aV c1).mpr ⟨true,rfl,xX rfl⟩
 rintro δ rfl;refine bC false (gq (x:=eT t) (y:=eT t) (cU [.tup (row0.map itD),eT t,.lst []] (aX (cU [.lst (l.map itD)] ⋯ o2) (aX ⋯ (aX ⋯ rfl))) f2) ⋯ (ne_self dt (JK t))) (λe=>by cases e) λ_=>?_;refine fS (.bl true) (IY (x:=eT t') (y:=eT t') (cU [.tup (row.map itD),eT t,.lst (sh.map .str)] (aX (cU [.lst ((l++e).map itD)] (aX (dw (x:=.lst (l.map itD)) (y:=.lst (e.map itD)) ⋯ ⋯ ?_) rfl) o1) (aX ⋯ (aX ⋯ rfl))) f1) ⋯ (FK dt' (JK t'))) rfl;show (if (l.map itD).length+(e.map itD).length<=sizeLine then _ else _) = _;rw [if_pos (by simp only [ai];lia),aI]
def Qo:Ah L0:=⟨rfl,rfl,rfl,⇑0,⇑0,⇑0,⇑0,⇑0,λ_ _ _ _ us hl=>my rfl rfl rfl rfl rfl rfl ⇑0 hl⟩
def Qq:Ln Gs Gd gns 49 L0:=⟨Qo,d_lam0,(.ite (.and (.call 1 (.cons (.var 0) .nil)) (.cmp .eq (.blt .toInt (.cons (.var 0) .nil)) (.var 1))) (.var 2) (.var 0)),rfl,rfl,rfl,rfl,rfl,rfl,⇑0⟩
def Qn:Ah L1:=⟨rfl,rfl,rfl,⇑0,⇑0,⇑0,⇑0,⇑0,λ_ _ _ _ us hl=>my rfl rfl rfl rfl rfl rfl ⇑0 hl⟩
def Qp:Ln Gs Gd gns 50 L1:=⟨Qn,d_lam1,(.ite (.cmp .eq (.var 0) (.var 2)) (.var 3) (.var 0)),rfl,rfl,rfl,rfl,rfl,rfl,⇑0⟩
def mem_ts {t:au × Str} (h:t∈Tbs.ts):t = (49,("put_in.<locals>.<lambda>":Str))\/t = (56,("renamed.<locals>.<lambda>":Str)):=by
 have h:t∈[(49,("put_in.<locals>.<lambda>":Str)),(56,("renamed.<locals>.<lambda>":Str))]:=h;simpa only [az,bc,or_false] using h
def lams_ok:∀ p∈Tbs.lams,Ln Gs Gd gns p.1 p.2:=λp h=>by
 have h:p∈([(49,L0),(50,L1)]:List (Nat × Lam)):=h;simp only [az,bc,or_false] at h;rcases h with rfl | rfl
 . exact Qq
 . exact Qp
def own_5 {C:Prop} {K:PySem.W.Frag} {h:bJ} {mg:Str->Option ah} {f cc:au} {od an:Option au} {sl:Array (Option ah)} {oc kV dc pm ct:ah} (X:K.In h) (G:h.Ns mainGlobals mg) (a:PySem.W.nsIn K mainGlobals "put_in" = some (some (.ref f))) (l:K.lookup f = some ⟨oc,od,.func (PySem.W.fnOf "put_in" "put_in" (eU (top 8)) (dN (top 8)) (bA (top 8)) .none kV dc pm an (.ref cc) ct),sl⟩) (c:PySem.W.codeIn K (.ref cc) "put_in" = true) (k:PySem.W.keepIn K (.ref f) = true) (h5:PySem.W.codeHdIn K cc 49 = true) (t5:K.lookup 49 = none) (q:(∃ st a fdd,Dn K mg (mw Gd) gns jH st a fdd)->(K.lookup 49 = none/\∃ c,PySem.W.codeHdIn K c 49 = true)->C):C:=by
 have F:=ux (st:=top 8) l c k;have o:okD jH (eU (top 8)) (bA (top 8)) = true:=by decide
 exact q ⟨_,_,_,F,PySem.W.mg_of X G a,ud o,.inr (.inl ⟨{ f:=4,es:=(.cons (.var 0) (.cons (.int 0) .nil)),k:=49,caps:=[1],x:="with_terms",ps:=cV.ps,y:=(rxs (top 8)).headD (.Constant .none 0 ⟨0,0,0,0⟩),ys:=(rxs (top 8)).dropLast.tail,p:=(rps (top 8)).1,lp:=OX (rlm (top 8)),pos:=(rps (top 8)).2.1,rp:=(rps (top 8)).2.2,L:=L0,c:=cc,P:=49,cells:=λl=>[l+1],body:=rfl,text:=rfl,lam:=rfl,args:=by decide,npk:=rfl,fn:=rfl,gl:=by decide,nd:=by decide,dft:=λ_=>rfl,cl:=λ_ _ _=>rfl,cp:=λX l a cd hN hE=>⟨_,_,_,_,rfl,rfl,by rw [hN];rfl,by rw [hE];rfl,by rw [hE];rfl,⟨rfl,rfl⟩⟩,code:=rfl,hd:=h5,tb:=by decide,un:=by decide,ql:=by decide }⟩),xO rfl rfl o⟩ ⟨t5,_,h5⟩
def own_6 {C:Prop} {K:PySem.W.Frag} {h:bJ} {mg:Str->Option ah} {f cc:au} {od an:Option au} {sl:Array (Option ah)} {oc kV dc pm ct:ah} (X:K.In h) (G:h.Ns mainGlobals mg) (a:PySem.W.nsIn K mainGlobals "renamed" = some (some (.ref f))) (l:K.lookup f = some ⟨oc,od,.func (PySem.W.fnOf "renamed" "renamed" (eU (top 9)) (dN (top 9)) (bA (top 9)) .none kV dc pm an (.ref cc) ct),sl⟩) (c:PySem.W.codeIn K (.ref cc) "renamed" = true) (k:PySem.W.keepIn K (.ref f) = true) (h5:PySem.W.codeHdIn K cc 56 = true) (t5:K.lookup 56 = none) (q:(∃ st a fdd,Dn K mg (mw Gd) gns iK st a fdd)->(K.lookup 56 = none/\∃ c,PySem.W.codeHdIn K c 56 = true)->C):C:=by
 have F:=ux (st:=top 9) l c k;have o:okD iK (eU (top 9)) (bA (top 9)) = true:=by decide
 exact q ⟨_,_,_,F,PySem.W.mg_of X G a,ud o,.inr (.inl ⟨{ f:=4,es:=(.cons (.var 0) (.cons (.int 0) .nil)),k:=50,caps:=[1,2],x:="with_terms",ps:=cV.ps,y:=(rxs (top 9)).headD (.Constant .none 0 ⟨0,0,0,0⟩),ys:=(rxs (top 9)).dropLast.tail,p:=(rps (top 9)).1,lp:=OX (rlm (top 9)),pos:=(rps (top 9)).2.1,rp:=(rps (top 9)).2.2,L:=L1,c:=cc,P:=56,cells:=λl=>[l+1,l+2],body:=rfl,text:=rfl,lam:=rfl,args:=by decide,npk:=rfl,fn:=rfl,gl:=by decide,nd:=by decide,dft:=λ_=>rfl,cl:=λ_ _ _=>rfl,cp:=λX l a cd hN hE=>⟨_,_,_,_,rfl,rfl,by rw [hN];rfl,by rw [hE];rfl,by rw [hE];rfl,⟨_,_,_,_,rfl,rfl,by rw [hN];rfl,by rw [hE];rfl,by rw [hE];rfl,⟨rfl,rfl⟩⟩⟩,code:=rfl,hd:=h5,tb:=by decide,un:=by decide,ql:=by decide }⟩),xO rfl rfl o⟩ ⟨t5,_,h5⟩
def dfl_24 {K:PySem.W.Frag} {h:bJ} {mg:Str->Option ah} {f T:au} {od an oD:Option au} {sl oS:Array (Option ah)} {m:Nat} {oc kV dc pm cdv ct:ah} (X:K.In h) (G:h.Ns mainGlobals mg) (a:PySem.W.nsIn K mainGlobals "fitted" = some (some (.ref f))) (l:K.lookup f = some ⟨oc,od,.func (PySem.W.fnOf "fitted" "fitted" (eU (top 33)) (dN (top 33)) (bA (top 33)) (.ref T) kV dc pm an cdv ct),sl⟩) (c:PySem.W.codeIn K cdv "fitted" = true) (k:PySem.W.keepIn K (.ref f) = true) (t:K.lookup T = some ⟨.type "tuple",oD,.seq #[.none] m,oS⟩):∃ st a fdd,Dn K mg (mw Gd) gns fh st a fdd:=by
 have F:=ux (st:=top 33) l c k;have o:okD fh (eU (top 33)) (bA (top 33)) = true:=by decide
 have ck:uG ⟨fh.ps++fh.loc,bA (top 33),mw Gd,gns⟩ fh.body (dN (top 33)) = true:=by decide
 exact ⟨_,_,_,F,PySem.W.mg_of X G a,ud o,.inl ck,λs us X hl=>by
  rw [aY] at hl |-
  match us,hl with
  | [u0,u1,u2],_=>exact PySem.BindsTo.of_defaults rfl (X _ _ t) rfl rfl rfl⟩
end P1
end
section
namespace PySem.W.Fast
def tw8511539251163237900:=0
def tw144804616006674280:=0
def tw5241837050622494481:=0
def tw7534141621279361564:=0
def tw17749080243097073116:=0
def tw6457143656738128775:=0
def tw14494657777080652766:=0
def tw8943938307783776329:=0
def tw10765301238382974283:=0
def tw5020308466593159309:=0
def tw10008777819444249346:=0
def tw18152035622177858961:=0
def tw14477820626130700472:=0
def tw3305626833658500414:=0
def tw15468965014975371853:=0
def tw13026504972699865209:=0
def tw8814712099576303593:=0
def tw12369218831862629250:=0
def tw8340880291838402381:=0
def tw16165923563830892507:=0
def tw6751968993963689207:=0
def tw4709425155170262730:=0
def tw3108092159699023632:=0
def tw14600587710385412717:=0
def tw8342517426643503679:=0
def tw9358014564974936096:=0
def tw13635838370049841966:=0
def tw2355422203595474272:=0
def tw16934978322277973319:=0
def tw16232958519207999843:=0
def tw3570728032287265090:=0
def tw12855116105624713317:=0
def tw1911651482782276451:=0
def tw9321516504026084648:=0
def tw14728066057174918243:=0
def tw17050814306256654654:=0
def tw5303052375760596396:=0
def tw9021497402831048538:=0
def tw7628352791003425294:=0
def tw7091638396218519916:=0
def tw4626059433592053231:=0
def tw11926939371808390459:=0
def tw2479426466710834741:=0
def tw15870447859728057574:=0
def tw4499879510249392690:=0
def tw7589777774786142423:=0
def tw16719524950872278099:=0
def tw14167519625839560312:=0
def tw5501374058155646517:=0
def tw6836121850913815047:=0
def tw1372931405107425581:=0
def tw18251674665096480327:=0
def tw9084877644200851100:=0
def tw16308254947752666369:=0
def tw16941983570513299609:=0
def tw601233163273451201:=0
def tw544173588686357718:=0
def tw4933873748481407122:=0
def tw11328862754481281404:=0
def tw13150614160682072979:=0
def tw8146291365564832692:=0
def tw17554833346098119777:=0
def tw5372450222054289335:=0
def tw13742528207389304940:=0
def tw15807969054168486820:=0
def tw6508188805278274697:=0
def tw105185981542961203:=0
def tw15101738613699005128:=0
def tw6276480385389871932:=0
def tw17016597190594859753:=0
def tw2518307726380690764:=0
def tw8773562652229498615:=0
def tw9822237521393331105:=0
def tw8844705099319100856:=0
def tw17255362298653364817:=0
def tw5465543204343520282:=0
def tw14405621396806714705:=0
def tw16810893745473538331:=0
def tw13078111786367948862:=0
def tw17028633698619837430:=0
def tw4685876786052230348:=0
def tw11208672639553627625:=0
def tw8645137453663789097:=0
def tw1201780456913018357:=0
def tw8359627250678661104:=0
def tw6538004736021202544:=0
def tw7078367464604367544:=0
def tw16899019104737503009:=0
def tw17039353001615620566:=0
def tw2852934596802820463:=0
def tw7522538884623526112:=0
def tw13360198056634479870:=0
def tw611194147371383413:=0
def tw13246352955107969133:=0
def tw5163576057401541787:=0
def tw10411175524503681281:=0
def tw15101200114456409347:=0
def tw6276188640179224301:=0
def tw7146860385685706158:=0
def tw405332223764305394:=0
def tw7100987052019080537:=0
def tw18082578446015027398:=0
def tw17272192662188923688:=0
def tw5084497763938163187:=0
def tw16128241727601729757:=0
def tw12389913608882874502:=0
def tw14705944224250371895:=0
def tw4600978489521112327:=0
def tw2172146376981923074:=0
def tw1002322027151413968:=0
def tw1445049373085207776:=0
def tw10811503913710320131:=0
def tw13332497317583591163:=0
def tw1894111732279032058:=0
def tw7961182227797213208:=0
def tw7239718925737248968:=0
def tw14741084623394335422:=0
def tw3013164212211368615:=0
def tw6426984082796393598:=0
def tw3212913628743247298:=0
def tw12850614573069508543:=0
def tw12536639809320037188:=0
def tw17758340412395814793:=0
def tw16882931898894971216:=0
def tw11560008995708853612:=0
def tw9281419380178310994:=0
def tw7354210837159476355:=0
def tw17970292219451154221:=0
def tw2835632472876375680:=0
def tw14528047913631720338:=0
def tw7603711220945502754:=0
def tw17504737668405170660:=0
def tw10027343099717714197:=0
def tw16721594550781021981:=0
def tw3686777670981503256:=0
def tw3772578666509563777:=0
def tw9303377169006879019:=0
def tw3047813893190583609:=0
def tw10477053647908080520:=0
def tw16168513733671249722:=0
def tw12234614504002056051:=0
def tw176203975618510987:=0
def tw3025128555617475529:=0
def tw17952898962672588385:=0
def tw977365697911781721:=0
def tw6837998632528203137:=0
def tw365631726693602932:=0
def tw5315662066364875416:=0
def tw13920031615045945001:=0
def tw4242989296162046434:=0
def tw2508062030878596927:=0
def tw4093595587712996314:=0
def tw2011414688413442675:=0
def tw4749532364208439668:=0
def tw5057901828679001668:=0
def tw15291187048558402021:=0
def tw6165677678671677988:=0
def tw667301436431938073:=0
def tw4025872527044498509:=0
def tw17396096903510864035:=0
def tw5295777183116786341:=0
def tw11239410498997587204:=0
def tw9595708063952849418:=0
def tw1177913183977633190:=0
def tw4555533943435452544:=0
def tw1175680297602687029:=0
def tw17001175565498017247:=0
def tw1851672672709392219:=0
def tw6624281881108455822:=0
def tw5653122111926591620:=0
def tw10587594696020485760:=0
def tw16288278706589247138:=0
def tw7383716747813983057:=0
def tw15627711944328554240:=0
def tw5449860923198239913:=0
def tw17676519032832177252:=0
def tw12522699743920540978:=0
def tw11137407570305597021:=0
def tw3360510135377475232:=0
def tw11303390657067783277:=0
def tw193060152892132925:=0
def tw8480149521428098792:=0
def tw7447907700638868589:=0
def tw11536361770162817245:=0
def tw2902761086712435668:=0
def tw2813543877134752888:=0
def tw17761877400076456318:=0
def tw4495996831064104855:=0
def tw427222002490005217:=0
def tw16511145158421086672:=0
def tw5153529832959287341:=0
def tw14227946127669507046:=0
def tw8237029758848434562:=0
def tw13665248613738037082:=0
def tw17554965133638141943:=0
def tw14025102427422490154:=0
def tw7630386801604440197:=0
def tw3744672635033192947:=0
def tw22877428185667406:=0
def tw386431883199244015:=0
def tw14176424725193786800:=0
def tw15278649945783880650:=0
def tw10834095751434491079:=0
def tw9852010523918052679:=0
def tw13396675446353287859:=0
def tw12804576999570919987:=0
def tw14217203817563697991:=0
def tw1072997773945836976:=0
def tw13997584275851739193:=0
def tw4597483263673051041:=0
def tw255893096483091835:=0
def tw16005734068185465252:=0
def tw14516801404841275723:=0
def tw9446296768825476622:=0
def tw17492434846946602881:=0
def tw6262581868208811041:=0
def tw9926359756186011516:=0
def tw425840418347360610:=0
def tw14647161307699926764:=0
def tw8986739530915258812:=0
def tw2439302774231682524:=0
def tw85778323743314072:=0
def tw4757888241597106814:=0
def tw12925862213742032048:=0
def tw16999155875876609662:=0
def tw121702248523122713:=0
def tw18133636271308144728:=0
def tw3653257427352912516:=0
def tw1965361978016201584:=0
def tw4880076922000274933:=0
def tw11204184226792740766:=0
def tw1067287003285179427:=0
def tw15584881858521184409:=0
def tw5970110256226302075:=0
def tw15510901293488286084:=0
def tw3759073377917582494:=0
def tw13223921051948815137:=0
def tw8126754719672447271:=0
def tw7949441859551038769:=0
def tw2216123468613052103:=0
def tw17888348247251388337:=0
def tw8144840214810378667:=0
def tw10874625383569717863:=0
def tw5283872874663014864:=0
def tw8749966779302946975:=0
def tw3233072052046694780:=0
def tw17170760313952154870:=0
def tw12032322492928972600:=0
def tw8021919824079932934:=0
def tw1237117371820840898:=0
def tw1048345024231120349:=0
def tw836848254738509236:=0
def tw8629725256009411475:=0
def tw9860227438186574977:=0
def tw10805351489520198450:=0
def tw13953291462303442758:=0
def tw4343686820556948348:=0
def tw14269466934994655199:=0
def tw9256623842437758671:=0
def tw9607635571980050782:=0
def tw8015150049609168410:=0
def tw3132651904058365820:=0
def tw9368173879985779766:=0
def tw13357421052872389540:=0
def tw12803865994026458568:=0
def tw11377070102784816504:=0
def tw17566057589776290:=0
def tw6315248177291046438:=0
def tw8579766275654963640:=0
def tw802787437964858019:=0
def tw5878555095740777998:=0
def tw5339227620734596684:=0
def tw11014074009605849043:=0
def tw4638967579731730488:=0
def tw10724163268824746019:=0
def tw16264260031731804855:=0
def tw15609264021995026181:=0
def tw1859060042505288481:=0
def tw12008358480205832924:=0
def tw10468210472161710768:=0
def tw14513468441836526720:=0
def tw15634132215755979035:=0
def tw14977957260817846078:=0
def tw16702922957880208384:=0
def tw1497384580994666709:=0
def tw13666450197914328056:=0
def tw16880512918014832050:=0
def tw17390372691078779197:=0
def tw9954656761521181263:=0
def tw5614791774183488039:=0
def tw14055906935829172115:=0
def tw7572249153704133471:=0
def tw165717424286255024:=0
end PySem.W.Fast
open PySem PySem.W PyProof.Rows
set_option maxRecDepth 100000 in
set_option maxHeartbeats 0 in
theorem PySem.Challenge.cw_cutless_k16_fitted_holds : PySem.Challenge.rw_cutless_k16_fitted.Holds := by
 w_on
 refine PySem.W.holds_law ⇑0 λsaid=>?_
 k_head;(case hw=>w_witness2)
 k_fill
 refine PP.walk_run (l:=PySem.Challenge.rw_cutless_k16_fitted) (G:=P1.Gs) (Gd:=P1.Gd) (gl:=P1.gls) (gn:=P1.gns) (i:=48) (fd:=P1.d_law) (x:="_law_script") P1.main rfl rfl rfl rfl (λw h Y=>⟨PySem.W.km_in_of Y,λt ht=>PySem.W.km_tabs_of Y t.1 (by rcases P1.mem_ts ht with rfl | rfl<;>decide)⟩) rfl λw mg h KX G=>?_;apply P1.own_5 KX G;k_is;k_is;k_is;k_is;kernel_rfl;kernel_rfl;intro o5 t5;apply P1.own_6 KX G;k_is;k_is;k_is;k_is;kernel_rfl;kernel_rfl;intro o6 t6;refine ⟨PP.top_mk (tp:=P1.top) (is:=P1.pls) KX G ?H (PP.sub_app (b:=[P1.d_lam0,P1.d_lam1])) ⇑0 P1.lams_ok ?B ?GL (λn l h=>by cases h),?T⟩
 case T =>
  intro t ht;rcases P1.mem_ts ht with rfl | rfl
  . exact t5
  . exact t6
 case H =>
  iterate 5 (apply PP.Hds.cons;k_is;k_is;k_is;k_is;decide)
  refine .own o5 ?_;refine .own o6 ?_
  iterate 17 (apply PP.Hds.cons;k_is;k_is;k_is;k_is;decide)
  refine .own (by apply P1.dfl_24 KX G;k_is;k_is;k_is;k_is;k_is) ?_
  iterate 24 (apply PP.Hds.cons;k_is;k_is;k_is;k_is;decide)
  exact .nil
 case B=>kernel_rfl
 case GL=>repeat' first | exact .nil | exact .str | exact .int | exact Nat.le_of_ble_eq_true rfl | (apply PP.InK.tup;k_is) | (apply PP.Gls.cons;k_is) | apply PP.InKs.cons
end
