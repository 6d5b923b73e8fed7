import PyProof.Rows.All
import Wide.All
import OpenK.AllK
import Wide.FinOn
import Lean
import PyProof.EqAt
import PyProof.EqKinds
import PyProof.TupleCall
import KE.KSortAsk
import KE.KIntText
import PyProof.MinMaxWalk
import KE.KMinBuiltin
import PyProof.MeetsStr2
import KE.KTabLook
import KE.KDictLaws
import PyProof.StrLawsIn
import PySem.Challenge.RW_cutless_k44_found_out
local macro_rules|`(∅)=>`(by lia)
local macro_rules|`(⋯)=>`(by kernel_rfl)
local macro_rules|`(⇑$_)=>`(by decide)
local macro_rules|`(↥$_)=>`(by simp)
local macro_rules|`(command|def $n:declId $s:optDeclSig $v:declVal)=>`(command|noncomputable def $n:declId $s:optDeclSig $v:declVal)
local macro_rules|`(tactic|decide)=>`(tactic|decide +kernel)
open And renaming intro->ax
open Array renaming length_toList->fw,toList_append->hW,getElem?_mapIdx->wV
open Array.Perm renaming refl->cF
open Bool renaming and_eq_true->aa,false_ne_true->ak,eq_false_iff->cI,or_eq_true->cK,eq_iff_iff->cL,false_eq_true->dq,not_eq_true'->dJ,and_true->gO,or_eq_true_iff->iB,not_eq_false'->iV,true_and->jw,and_self->jx,true_or->nU,false_or->uI,or_true->wU,beq_eq_decide_eq->yp
open Classical renaming choose_spec->si
open False renaming elim->bX
open ForInStep renaming yield->jv
open Iff renaming rfl->bZ
open Int renaming emod_lt_of_pos->dB,emod_nonneg->dI,toNat_natCast->FW
open List renaming mem_cons_of_mem->ai,mem_cons_self->av,length_map->aw,length_append->ay,map_cons->az,getElem?_eq_getElem->aB,mem_singleton->aC,mem_cons->aD,getElem?_eq_some_iff->aE,size_toArray->aF,length_cons->aG,mem_append_right->aM,mem_append->aN,getElem?_set_ne->aO,replicate->aU,all_eq_true->aW,mem_append_left->bb,length_nil->bf,getElem?_map->bj,length_set->bu,map_append->bC,getElem?_append_right->bD,mem_map->bG,getElem?_append_left->bI,range->bK,getD_eq_getElem?_getD->bN,getElem?_set_self->bQ,getElem_mem->bS,filterMap_cons->bW,not_mem_nil->cj,mem_filter->cn,append_nil->cq,any_eq_true->cz,lookup_cons->cQ,sum_cons->cS,mem_of_getElem?->cU,nodup_cons->da,length_take->dk,getElem?_take_of_lt->dN,mem_range->dS,mem_flatMap->dU,length_eq_zero_iff->dW,map_nil->eK,any_cons->eT,getElem?_eq_none->eV,toArray->fo,find?_cons->fK,findIdx?_cons->fN,contains_cons->fO,getElem?_replicate->fV,map_map->fX,append_assoc->fY,set_append_right->gC,length_replicate->gE,length_filter_le->gF,eq_nil_or_concat->gG,concat_eq_append->gH,pairwise_append->gQ,length_pos_iff->iz,filter_eq_self->iA,getD->iH,nodup_nil->iT,drop_eq_getElem_cons->jf,nodup_append->jr,mem_of_elem_eq_true->ju,getLast?_singleton->ka,foldl_cons->kG,length_singleton->kY,length->lz,getLast?_append->lA,all_cons->mF,zip_nil_right->mH,zip_cons_cons->mI,flatMap_cons->nR,take_length->oZ,length_drop->pb,drop_length->pd,of_mem_zip->qC,forIn_cons->qD,pairwise_iff_getElem->uD,getLast?_eq_getElem?->uE,set_eq_of_length_le->uH,filter_cons_of_pos->wM,filter_cons_of_neg->wN,sublist_cons_self->wQ,mem_iff_getElem?->ym,dropLast_eq_take->yo,mem_of_getLast?->zQ,take_succ_cons->Bw,replicate_succ->Bx,mem_map_of_mem->By,map_congr_left->Bz,getElem_of_mem->BA,drop_succ_cons->BB,mem_filterMap->BE,take_add_one->FI,pairwise_map->FJ,length_range->FK,getElem?_inj->FL,zipIdx_cons->FR,flatMap_nil->FT,elem->FU,countP_cons->FV,zipIdx_nil->IZ
open List.Sublist renaming append_left->nS
open Nat renaming le_refl->aA,ne_of_lt->aQ,lt_of_lt_of_le->aZ,le_trans->bx,lt_irrefl->bV,zero_le->cA,lt_of_le_of_lt->dA,lt_succ_of_lt->eZ,ne_of_gt->fu,add_le_add_left->fD,sub_self->iF,le_of_lt->iG,le_max_right->kh,le_max_left->kX,lt_trans->oa,succ_le_succ->qy,min_le_right->qz,lt_succ_self->qA,min_self->yk,add_le_add_right->Bv,le_succ_of_le->FQ,le_add_right->IY,not_lt_zero->JA,min_le_left->JB
open Nat.succ renaming inj->cO
open Option renaming bind_eq_some_iff->ae,bind_eq_bind->af,map_eq_some_iff->aL,bind_some->aP,isNone_iff_eq_none->dC,map_some->eJ,isSome_iff_exists->je,getD_none->BD
open Option.some renaming inj->bY
open Or renaming inl->FP
open PyProof.Rows renaming callWith_type1->gy,AllBare->km,slot_tuple_getitem->lg,call_isinstance_of->qx,SortKind->qP,listUpdate_at->Bt,subscriptTail_builtinR->Fy,IntsAre->FO,seqEpoch_at->IV,bubble_perm->IX,IsTup->Ja,Subscript_->MZ
open PyProof.Rows.IsTup renaming new->FN
open PySem renaming Value->ag,wpAny_bind->ah,Shared->aj,Addr->au,Expr->aI,wpAny_pure->aJ,Program->aR,Around->bo,Stmt->bw,World->bB,wpAny_loadPart_at->bF,Heap->bH,wpAny_mono->cg,wpAny_field->cG,wpAny_truthy_bool->cM,wpAny_newObj_type->cN,wpAny_seqItems->dg,wpAny_isSubtype_exc->dm,wpAny_pyIter_list->dP,FuncData->dQ,wpAny_holding->eC,wpAny_callSpecial?_slot->eO,sizeLine_eq->eU,wpAny_passesOwn->fg,Scope->fh,wpAny_call_entry->fJ,Keyword->fL,wpAny_setField_rec->gi,wpAny_letGo->iD,Operator->iE,wpAny_loadPart'->jc,wpAny_execs_nil->jd,wpAny_Call_Name_kw->jV,NameKind->jW,Builtin->kl,ExceptHandler->kH,PassesOwn->lh,wpAny_updateSeq_pair->nz,wpAny_standAt->oW,wpAny_onRaise->oX,plainId_quiet->oY,IsPart->qB,codeAny_mono->qO,OwnTail->qQ,GenState->qS,noFill_tuple_add->uC,IsPair->uF,Arguments->uG,wpAny_updateSeq->wJ,codeAny_builtin->wK,wpAny_tryCatch->yg,typeIs_str->yh,wpAny_comprehension_free->Br,seq_tuple_add->Bs,Comprehension->BC,IsZip->BF,seqIndex_neg->FA,concat_meets->FC,codeAny_compStart_list->FE,call_meetsIn->FF,wpAny_newFunctionEnv->IS,wpAny_loadName_local->IT,seqIndex_of->IU,codeAny_call_builtin->IW,wpAny_loadName_cell->Jz,wpAny_rule->MU,wpAny_pyIter_tuple->MV,wpAny_Name->MW,tupleKind_room_in1->MX,call_meets->MY,Result->Na,PlainAttrs->Nb,wpAny_assign_Name->Nd,wpAny_Call_method->Nf,OsState->Ng
open PySem.Around renaming under_plainId->wW
open PySem.Builtin.Builtins renaming bindParams->lq
open PySem.Builtin.Int renaming intBits->sj
open PySem.Builtin.Slice renaming slicePlaces->eS,sliceAdjust->gN,sliceApplied->mG
open PySem.Builtin.SmallTypes renaming ownedTupleIsFree->cP,ownedTupleHandOut->iU
open PySem.Builtin.Str renaming occurrences->pf
open PySem.Builtin.Tuple renaming tupleExact->eY
open PySem.Calls renaming spliced_cons->fM,callWith_builtin->fW,evalArgs_plain->gM,spliced_nil->nA,Name_function_global->qT
open PySem.Heap renaming get?_push_of_some->ao,lt_size->aH,get?_push_size->aS,size_push->cV,get?_update_other->eL,get?_update_self->gI,SameBut->iC,get?_none_of_le->zR,ExtBut->zS
open PySem.Heap.SameBut renaming update->qR
open PySem.NameKind renaming free->bR,cell->ll
open PySem.Obj renaming mapSeq->cJ,data_mapFields->FH
open PySem.PassesOwn renaming never->jt
open PySem.ScopeKind renaming function->wL
open PySem.SeqAt.EqAt renaming same->FY
open PySem.Str renaming ofString->kF
open PySem.Unicode renaming isDigit->eF
open PySem.Value renaming ref->bA,none->cZ,bool->kg,builtin->lN,int->nZ,notImplemented->yj,type->Bu,str->FG
open PySem.W.Looks renaming of_pure->lP
open PySem.Walks renaming list->mE
open Sum renaming inr->js,inl->lO
open True renaming intro->fk
set_option Elab.async false
set_option linter.all false
set_option genInjectivity false
set_option genSizeOf false
set_option maxRecDepth 100000
set_option maxHeartbeats 4000000
section
-- CHANGE: your row's module here,as the last of these rows
namespace L2
open PySem PySem.Spec PyProof.Rows
abbrev Key:=Sum Int Str
def rK:Key->ag->Bool
 | .inl k,v=>Value.isInt k v
 | .inr x,v=>Value.isStrOf x v
def Pn (w:bB):Key->Int
 | .inl k=>hashInt k
 | .inr x=>hashStr w x
def dE:∀ {k:Key} {v:ag},rK k v = true->(∃ i t,k = lO i/\v = nZ i t)\/(∃ x t,k = js x/\v = FG x t)
 | .inl i,v,h=>by
   obtain ⟨t,e⟩:=Value.isInt_shape (k:=i) (v:=v) h
   exact .inl ⟨i,t,rfl,e⟩
 | .inr x,v,h=>by
   obtain ⟨t,e⟩:=Value.isStrOf_shape (x:=x) (v:=v) h;exact .inr ⟨x,t,rfl,e⟩
def AR (i:Int) (t:Tok):rK (.inl i) (.int i t) = true:=by simp [rK,Value.isInt]
def AQ (x:Str) (t:Tok):rK (.inr x) (.str x t) = true:=by simp [rK,Value.isStrOf]
def LW (a b:Int):decide ((lO a:Key) = lO b) = (a == b):=by
 by_cases e:a = b
 . subst e;simp
 . have h:¬ (lO a:Key) = lO b:=λq=>e (Sum.inl.inj q);rw [decide_eq_false h];exact (beq_eq_false_iff_ne.mpr e).symm
def LS (a b:Str):decide ((js a:Key) = js b) = decide (a = b):=by
 by_cases e:a = b
 . subst e;simp
 . have h:¬ (js a:Key) = js b:=λq=>e (Sum.inr.inj q);rw [decide_eq_false h,decide_eq_false e]
def LV (a:Int) (b:Str):decide ((lO a:Key) = js b) = false:=decide_eq_false (λq=>nomatch q)
def LU (a:Str) (b:Int):decide ((js a:Key) = lO b) = false:=decide_eq_false (λq=>nomatch q)
def dh (prog:aR) (w:bB):PySem.KeyKind prog w Key where
 is:=rK
 hash:=Pn w
 inj:=λv a b ha hb=>by
  rcases dE ha with ⟨i,t,rfl,rfl⟩ | ⟨x,t,rfl,rfl⟩
  . rcases dE hb with ⟨j,u,rfl,e⟩ | ⟨y,u,rfl,e⟩
    . injection e with e1 _;rw [e1]
    . exact nomatch e
  . rcases dE hb with ⟨j,u,rfl,e⟩ | ⟨y,u,rfl,e⟩
    . exact nomatch e
    . injection e with e1 _;rw [e1]
 byValue:=λk v h=>by
  rcases dE h with ⟨i,t,rfl,rfl⟩ | ⟨x,t,rfl,rfl⟩<;>rfl
 pyHash:=λhv h=>by
  rcases dE hv with ⟨i,t,rfl,rfl⟩ | ⟨x,t,rfl,rfl⟩
  . exact wpAny_pyHash_int h
  . exact wpAny_pyHash_str h
 eqBool:=λhu hv h=>by
  rcases dE hu with ⟨i,t,rfl,rfl⟩ | ⟨x,t,rfl,rfl⟩
  . rcases dE hv with ⟨j,u,rfl,rfl⟩ | ⟨y,u,rfl,rfl⟩
    . rw [LW] at h;exact wpAny_eqBool_int h
    . rw [LV] at h;exact SeqAt.EqAt.int_str i t y u _ _ _ _ h
  . rcases dE hv with ⟨j,u,rfl,rfl⟩ | ⟨y,u,rfl,rfl⟩
    . rw [LU] at h;exact SeqAt.EqAt.str_int x t j u _ _ _ _ h
    . rw [LS] at h;exact wpAny_eqBool_str h
 «strs»:=λk x t v h=>by
  rcases dE h with ⟨i,u,rfl,e⟩ | ⟨y,u,rfl,e⟩
  . exact nomatch e
  . injection e with e1 _;subst e1;cases v<;>rfl
def vG (prog:aR) (w:bB) (i:Int) (t:Tok):(dh prog w).is (.inl i) (.int i t) = true:=AR i t
def vF (prog:aR) (w:bB) (x:Str) (t:Tok):(dh prog w).is (.inr x) (.str x t) = true:=AQ x t
end L2
namespace L2
open PySem PySem.Spec PyProof.Rows
set_option genInjectivity true in
inductive V where
 | non | bl (b:Bool) | int (i:Int) | str (x:Str) | ref (a:au) | ty (n:String)
 deriving DecidableEq
def RelV:V->ag->Prop
 | .non,u=>u = cZ
 | .bl b,u=>u = kg b
 | .int i,u=>∃ t,u = nZ i t
 | .str x,u=>∃ t,u = FG x t
 | .ref a,u=>u = bA a
 | .ty n,u=>u = Bu n
abbrev Vals:List V->List ag->Prop:=Paired RelV
def Vals.length {xs:List V} {us:List ag} (r:Vals xs us):xs.length = us.length:=Paired.length r
def Vals.get:∀ {xs:List V} {us:List ag} {i:Nat} {x:V},Vals xs us->xs[i]? = some x->∃ u,us[i]? = some u/\RelV x u
 | _,_,_,_,.nil,e=>by simp at e
 | _,_,0,_,.cons r _,e=>by simp at e;subst e;exact ⟨_,rfl,r⟩
 | _,_,i+1,x,.cons _ t,e=>by
   obtain ⟨u,h1,h2⟩:=Vals.get (i:=i) (x:=x) t (by simpa using e);exact ⟨u,by simpa using h1,h2⟩
def Vals.set {x:V} {u:ag} (r:RelV x u):∀ {xs:List V} {us:List ag} (i:Nat),Vals xs us->Vals (xs.set i x) (us.set i u)
 | _,_,_,.nil=>.nil
 | _,_,0,.cons _ t=>.cons r t
 | _,_,i+1,.cons q t=>.cons q (Vals.set r i t)
def Vals.append:∀ {xs ys:List V} {us ws:List ag},Vals xs us->Vals ys ws->Vals (xs++ys) (us++ws)
 | _,_,_,_,.nil,s=>s
 | _,_,_,_,.cons r t,s=>.cons r (Vals.append t s)
def Vals.take:∀ {xs:List V} {us:List ag} (n:Nat),Vals xs us->Vals (xs.take n) (us.take n)
 | _,_,0,_=>.nil
 | _,_,_+1,.nil=>.nil
 | _,_,n+1,.cons r t=>.cons r (Vals.take n t)
def Vals.drop:∀ {xs:List V} {us:List ag} (n:Nat),Vals xs us->Vals (xs.drop n) (us.drop n)
 | _,_,0,r=>r
 | _,_,_+1,.nil=>.nil
 | _,_,n+1,.cons _ t=>Vals.drop n t
def RelO:Option V->Option ag->Prop
 | some v,some u=>RelV v u
 | none,none=>True
 | _,_=>False
def KV {κ:Type}:List (κ × V)->List (κ × ag)->Prop:=Paired λ(p:κ × V) (q:κ × ag)=>p.1 = q.1/\RelV p.2 q.2
def kV:Key->V
 | .inl i=>.int i
 | .inr x=>.str x
inductive HO where
 | lst (xs:List V)
 | tup (xs:List V)
 | dK (kvs:List (Key × V)) | dT (kvs:List (List Key × V))
 | own (x:au)
 | frz (o:Obj) (u:HO)
 | tbl (ps:Array ag)
 | ext (φ:bH->Prop)
abbrev Hp:=au->Option HO
def upd (H:Hp) (a:au) (o:HO):Hp:=λb=>if b = a then some o else H b
def bL {H:Hp} {a:au} {o:HO}:upd H a o a = some o:=by unfold upd;rw [if_pos rfl]
def bh {H:Hp} {a b:au} {o:HO} (h:b≠a):upd H a o b = H b:=by unfold upd;rw [if_neg h]
def gc {H:Hp} {a b:au} {o:HO} (h:H a = some o) (h':H b = none):a≠b:=by
 intro e;subst e;rw [h] at h';cases h'
section
variable (P:aR) (w:bB)
def eR (H:Hp) (h:bH) (a:au):HO->Prop
 | .lst xs=>xs.length<=sizeLine/\∃ (its:List ag) (n:Nat),Vals xs its/\h.get? a = some { cls:=.type "list",data:=.seq its.toArray n }
 | .tup xs=>xs.length<=sizeLine/\∃ its:List ag,Vals xs its/\Ja h a its.toArray
 | .dK kvs=>kvs.length<=sizeLine/\(a == sysModules) = false/\∃ vs,KV kvs vs/\h.DictOf (dh P w) a vs
 | .dT kvs=>kvs.length<=sizeLine/\(a == sysModules) = false/\∃ xs:List (List Key × au × ag),
    Paired (λ(p:List Key × V) (q:List Key × au × ag)=>p.1 = q.1/\H q.2.1 = some (.tup (p.1.map kV))/\RelV p.2 q.2.2) kvs xs /\
    ∃ o es ep,h.get? a = some o/\o.ExactDict/\o.data = .dict es ep/\es.toList = xs.map (entryOfKey (tupleKind (dh P w)))/\(xs.map (·.1)).Nodup
 | .own _=>∃ o,h.get? a = some o
 | .frz o u=>h.get? a = some o/\eR H h a u
 | .tbl ps=>h.get? a = some { cls:=.none,data:=.fields ps }
 | .ext φ=>φ h/\(∃ o,h.get? a = some o)/\∀ h1 h2:bH,φ h1->(∀ o,h1.get? a = some o->h2.get? a = some o)->φ h2
def HOk (H:Hp) (h:bH):Prop:=∀ a o,H a = some o->eR P w H h a o
end
section
variable {P:aR} {w:bB} {H H':Hp} {h h':bH} {a:au} {o:HO}
def eR.lt (x:eR P w H h a o):a < h.objs.size:=by
 cases o with
 | lst xs=>obtain ⟨_,_,_,_,e⟩:=x;exact aH e
 | tup xs=>obtain ⟨_,_,_,p⟩:=x;exact p.lt
 | dK kvs=>obtain ⟨_,_,_,_,o,_,_,e,_⟩:=x;exact aH e
 | dT kvs=>obtain ⟨_,_,_,_,o,_,_,e,_⟩:=x;exact aH e
 | own y=>obtain ⟨_,e⟩:=x;exact aH e
 | frz ob u=>obtain ⟨e,_⟩:=x;exact aH e
 | tbl ps=>exact aH (show h.get? a = some _ from x)
 | ext φ=>obtain ⟨_,⟨_,e⟩,_⟩:=x;exact aH e
def Paired.mapP {α β:Type} {F G:α->β->Prop}:∀ {l₁:List α} {l₂:List β},Paired F l₁ l₂->(∀ a b,F a b->G a b)->Paired G l₁ l₂
 | _,_,.nil,_=>.nil
 | _,_,.cons r t,f=>.cons (f _ _ r) (Paired.mapP t f)
def eR.stay (x:eR P w H h a o) (k:∀ b u,(b = a\/H b = some (.own a))->h.get? b = some u->h'.get? b = some u)
 (ho:∀ b,H b = some (.own a)->H' b = some (.own a)) (ht:∀ b xs,H b = some (.tup xs)->H' b = some (.tup xs)):eR P w H' h' a o:=by
 induction o with
 | lst xs=>obtain ⟨z,its,n,r,e⟩:=x;exact ⟨z,its,n,r,k _ _ (.inl rfl) e⟩
 | tup xs=>obtain ⟨z,its,r,ob,e,c⟩:=x;exact ⟨z,its,r,ob,k _ _ (.inl rfl) e,c⟩
 | dK kvs=>obtain ⟨z,y,vs,r,ob,es,ep,e,c⟩:=x;exact ⟨z,y,vs,r,ob,es,ep,k _ _ (.inl rfl) e,c⟩
 | dT kvs =>
   obtain ⟨z,y,xs,r,ob,es,ep,e,c⟩:=x
   exact ⟨z,y,xs,Paired.mapP r λp q z=>⟨z.1,ht _ _ z.2.1,z.2.2⟩,ob,es,ep,k _ _ (.inl rfl) e,c⟩
 | own y=>obtain ⟨ob,e⟩:=x;exact ⟨ob,k _ _ (.inl rfl) e⟩
 | frz ob u ih=>obtain ⟨e,q⟩:=x;exact ⟨k _ _ (.inl rfl) e,ih q⟩
 | tbl ps =>
   have e:h.get? a = some { cls:=.none,data:=.fields ps }:=x;show h'.get? a = some { cls:=.none,data:=.fields ps }
   exact k a _ (.inl rfl) e
 | ext φ=>obtain ⟨p,⟨o,e⟩,st⟩:=x;exact ⟨st _ _ p λo q=>k _ _ (.inl rfl) q,⟨o,k _ _ (.inl rfl) e⟩,st⟩
def HOk.lt (x:HOk P w H h) (e:H a = some o):a < h.objs.size:=(x a o e).lt
def HOk.fresh (x:HOk P w H h) (e:h.objs.size<=a):H a = none:=by
 cases q:H a with
 | none=>rfl
 | some u=>exact absurd (aZ (x.lt q) e) (bV _)
def HOk.kept (x:HOk P w H h) (k:∀ b u,h.get? b = some u->h'.get? b = some u):HOk P w H h':=λa o e =>
 (x a o e).stay (λb u _ q=>k b u q) (λ_ q=>q) λ_ _ q=>q
def HOk.laid (x:HOk P w H h) (k:∀ b u,h.get? b = some u->h'.get? b = some u) (hp:h.objs.size<=a) (new:eR P w (upd H a o) h' a o):HOk P w (upd H a o) h':=λb u e=>by
 have hn:=x.fresh hp;by_cases hb:b = a
 . subst hb;rw [bL] at e;cases e;exact new
 . rw [bh hb] at e;exact (x b u e).stay (λc v _ q=>k c v q) (λc q=>by rw [bh (gc q hn)];exact q) λc xs q=>by rw [bh (gc q hn)];exact q
end
def Rd (H:Hp) (a:au) (u:HO):Prop:=H a = some u\/∃ o,H a = some (.frz o u)
def Rd.ok {P:aR} {w:bB} {H:Hp} {h:bH} {a:au} {u:HO} (r:Rd H a u) (x:HOk P w H h):eR P w H h a u:=by
 rcases r with r | ⟨o,r⟩
 . exact x a u r
 . obtain ⟨_,q⟩:=x a _ r;exact q
def Mut:Option HO->Prop
 | some (.lst _)=>True
 | some (.dK _)=>True
 | some (.dT _)=>True
 | some (.ext _)=>True
 | _=>False
section
variable {P:aR} {w:bB} {H:Hp} {h h':bH} {x e:au} {o':HO}
def HOk.write (ok:HOk P w H h) (mu:Mut (H x)) (he:e = x\/H e = some (.own x)) (k:∀ b u,b≠e->h.get? b = some u->h'.get? b = some u) (heo:∃ u,h'.get? e = some u)
 (new:eR P w (upd H x o') h' x o'):HOk P w (upd H x o') h':=λb u q=>by
 have nown:∀ c y,H c = some (.own y)->c≠x:=λc y r z=>by subst z;rw [r] at mu;exact mu
 have ntup:∀ c xs,H c = some (.tup xs)->c≠x:=λc xs r z=>by subst z;rw [r] at mu;exact mu
 by_cases hb:b = x
 . subst hb;rw [bL] at q;cases q;exact new
 . rw [bh hb] at q;by_cases hbe:b = e
   . have q':H b = some (.own x):=by
      rcases he with z | z
      . exact absurd (hbe.trans z) hb
      . rw [hbe];exact z
     rw [q] at q';cases q';obtain ⟨v,hv⟩:=heo;exact ⟨v,by rw [hbe];exact hv⟩
   . refine (ok b u q).stay (λc v hc r=>k c v ?_ r) (λc r=>by rw [bh (nown c b r)];exact r) λc xs r=>by rw [bh (ntup c xs r)];exact r
     rcases hc with rfl | hc
     . exact hbe
     . rintro rfl;rcases he with z | z
       . exact nown c b hc z
       . rw [hc] at z;cases z;exact hb rfl
end
structure Un (fs ex:List au) (H H':Hp) (h h':bH):Prop where
 keep:∀ b o,h.get? b = some o->H b = none->b∉fs->b∉ex->h'.get? b = some o
 slot:∀ b o,h.get? b = some o->H b = none->b∈fs->b∉ex->∃ sl,h'.get? b = some { o with slots:=sl }
 free:∀ b o,h.get? b = some o->H b = none->b∉ex->H' b = none
 there:∀ b o,h.get? b = some o->b∉ex->∃ o',h'.get? b = some o'
 tups:∀ b xs,H b = some (.tup xs)->H' b = some (.tup xs)
 frzs:∀ b o u,H b = some (.frz o u)->H' b = some (.frz o u)
 tbls:∀ b ps,H b = some (.tbl ps)->∃ more,H' b = some (.tbl (ps++more))
section
variable {fs fs' ex ex':List au} {H H1 H2:Hp} {h h1 h2 h':bH} {a x e:au} {o:HO}
def Un.any (u:Un fs ex H H1 h h1) (q:h.get? b = some ob) (n:H b = none) (hx:b∉ex):∃ sl,h1.get? b = some { ob with slots:=sl }:=by
 by_cases hb:b∈fs
 . exact u.slot b ob q n hb hx
 . exact ⟨ob.slots,u.keep b ob q n hb hx⟩
def Un.kept (k:∀ b u,h.get? b = some u->h'.get? b = some u):Un fs ex H H h h' :=
 ⟨λb ob q _ _ _=>k b ob q,λb ob q _ _ _=>⟨ob.slots,k b ob q⟩,λ_ _ _ n _=>n,λb ob q _=>⟨ob,k b ob q⟩,λ_ _ q=>q,λ_ _ _ q=>q,λ_ ps q=>⟨#[],by rw [q];simp⟩⟩
def Un.refl:Un fs ex H H h h:=Un.kept λ_ _ q=>q
def Un.laid (k:∀ b u,h.get? b = some u->h'.get? b = some u) (hp:h.objs.size<=a) (hn:H a = none):Un fs ex H (upd H a o) h h' where
 keep:=λb u q _ _ _=>k b u q
 slot:=λb u q _ _ _=>⟨u.slots,k b u q⟩
 free:=λb u q n _=>by rw [bh (aQ (aZ (aH q) hp))];exact n
 there:=λb u q _=>⟨u,k b u q⟩
 tups:=λb xs q=>by rw [bh (gc q hn)];exact q
 frzs:=λb u xs q=>by rw [bh (gc q hn)];exact q
 tbls:=λb ps q=>⟨#[],by rw [bh (gc q hn),q];simp⟩
def Un.write (mu:Mut (H x)) (he:e = x\/H e = some (.own x)) (k:∀ b u,b≠e->h.get? b = some u->h'.get? b = some u) (heo:∃ u,h'.get? e = some u):Un fs ex H (upd H x o) h h':=by
 have hx:∀ b,H b = none->b≠x:=λb n z=>by subst z;rw [n] at mu;exact mu
 have hb:∀ b,H b = none->b≠e:=λb n z=>by
  subst z;rcases he with r | r
  . exact hx b n r
  . rw [n] at r;cases r
 have hm:∀ b u,H b = some u->¬ Mut (some u)->b≠x:=λb u q nm z=>by subst z;rw [q] at mu;exact nm mu
 refine ⟨λb u q n _ _=>k b u (hb b n) q,λb u q n _ _=>⟨u.slots,k b u (hb b n) q⟩,λb u q n _=>by rw [bh (hx b n)];exact n,λb u q _=>?_,
  λb xs q=>by rw [bh (hm b _ q λz=>z)];exact q,λb u xs q=>by rw [bh (hm b _ q λz=>z)];exact q,λb ps q=>⟨#[],by rw [bh (hm b _ q λz=>z),q];simp⟩⟩
 by_cases hbe:b = e
 . subst hbe;exact heo
 . exact ⟨u,k b u hbe q⟩
end
def trk (h:bH) (H:Hp):List au:=(bK h.objs.size).filter λa=>(H a).isSome
def qI (h:bH) (H:Hp):bH:=PySem.W.hideAll h (trk h H)
def AW (h:bH) (H:Hp):(qI h H).objs.size = h.objs.size:=PySem.W.hideAll_size _ _
def EL (e:h.get? b = some o) (n:H b = none):(qI h H).get? b = some o :=
 PySem.W.hideAll_get _ e λhm=>by
  have q:(H b).isSome = true:=(cn.mp hm).2;rw [n] at q;simp at q
def HZ (e:(qI h H).get? b = some o):h.get? b = some o/\H b = none:=by
 have e':h.get? b = some o:=PySem.W.of_hideAll (trk h H) e;refine ⟨e',?_⟩
 cases q:H b with
 | none=>rfl
 | some x =>
   have hm:b∈trk h H:=cn.mpr ⟨dS.mpr (aH e'),by simp [q]⟩;have z:(qI h H).get? b = none:=PySem.W.hideAll_none (trk h H) hm;rw [z] at e;cases e
end L2
namespace L2
open PySem PySem.Spec PyProof.Rows
structure Mod (K:PySem.W.Frag) (mg:Str->Option ag) (base:bH):Prop where
 kin:K.In base
 glob:base.Ns mainGlobals mg
 blt:∃ mb,base.Ns builtinsNs mb/\∀ x:Str,x≠"__name__"->mb x = bootBuiltins x
 nolimit:base.NoLimit
structure Cx where
 prog:aR
 w:bB
 K:PySem.W.Frag
 mg:Str->Option ag
 base:bH
 A:bo
 N:List Str
 s₀:aj
 H₀:Hp
 env:Env
 outer:List Env
 stack:List Env
 ex:List au
 fn:Str->Bool
 calm:Bool
 pn:List (au × Obj)
 xe:ag->aj->Prop
def frs (l:List Env):List au:=l.filterMap (·.frame)
noncomputable abbrev Cx.fs (X:Cx):List au:=frs X.outer
def Vis (sc:fh) (x:Str):Prop:=sc.names.lookup x = some .local\/sc.names.lookup x = some .cell\/sc.names.lookup x = some .free
def Loc (sc:fh) (x:Str):Prop:=sc.names.lookup x = some .local\/sc.names.lookup x = some .cell
def Look (env:Env) (h:bH) (m:Str->Option ag) (x:Str) (u:ag):Prop :=
 (env.kindOf x = some .local/\m x = some u)\/((env.kindOf x = some .cell\/env.kindOf x = some .free)/\∃ c,env.cells.lookup x = some c/\h.IsCell c (some u))
structure Cx.Ok (X:Cx):Prop where
 mod:Mod X.K X.mg X.base
 kind:X.env.scope.kind = .function
 glob:X.env.globals = mainGlobals
 blt:X.env.builtins = builtinsNs
 above:X.s₀.heap.objs.size<=X.env.locals
 inj:∀ x y c,X.env.cells.lookup x = some c->X.env.cells.lookup y = some c->x = y
 has:∀ x,(X.env.kindOf x = some .cell\/X.env.kindOf x = some .free)->∃ c,X.env.cells.lookup x = some c
 cab:∀ x c,X.fn x = true->X.env.cells.lookup x = some c->X.s₀.heap.objs.size<=c
 hd:X.calm = true->X.A.handled = none
 frames:X.A.frames = some X.stack
 stk:X.stack = X.outer\/(X.stack = X.env::X.outer/\X.env.frame = some X.env.locals)
 exf:∀ b∈X.ex,b≠X.env.locals/\∀ x c,X.env.cells.lookup x = some c->c≠b
 bs:∀ b o,X.base.get? b = some o->X.s₀.heap.get? b = some o/\X.H₀ b = none
 bsz:X.base.objs.size<=X.s₀.heap.objs.size
 noex:∀ b o,X.base.get? b = some o->b∉X.ex
 exfs:∀ b∈X.ex,b∉X.fs
 funs:X.s₀.heap.FunFrames X.base X.outer
 frf:∀ b∈X.fs,X.H₀ b = none
structure Inv (X:Cx) (pins:List (au × Obj)) (σ:List (Option V)) (H:Hp) (s:aj):Prop where
 ok:X.Ok
 os:s.os = X.s₀.os
 bare:km s.gens
 base:Un X.fs X.ex X.H₀ H X.s₀.heap s.heap
 loc:∃ m,s.heap.Ns X.env.locals m/\∀ (i:Nat) (x:Str) (v:V),X.N[i]? = some x->σ[i]? = some (some v)->Vis X.env.scope x->∃ u,RelV v u/\Look X.env s.heap m x u
 cell:∀ x c,X.env.cells.lookup x = some c->∃ v,s.heap.IsCell c v
 free:H X.env.locals = none
 freeC:∀ x c,X.env.cells.lookup x = some c->H c = none
 pin:∀ p∈X.pn++pins,s.heap.get? p.1 = some p.2/\H p.1 = none/\p.1≠X.env.locals/\p.1∉X.fs/\∀ v,p.2.data≠.cell v
 hok:HOk X.prog X.w H s.heap
 len:σ.length = X.N.length
section
variable {X:Cx} {pins:List (au × Obj)} {σ:List (Option V)} {H H':Hp} {s:aj} {h':bH}
def Cx.Ok.nofr (ok:X.Ok) (e:X.base.get? b = some o):b∉X.fs:=λhb=>by
 have:=(ok.funs.mem hb).1;rw [e] at this;cases this
def Inv.bs (I:Inv X pins σ H s):∀ b o,X.base.get? b = some o->s.heap.get? b = some o/\H b = none:=λb o e =>
 ⟨I.base.keep b o (I.ok.bs b o e).1 (I.ok.bs b o e).2 (I.ok.nofr e) (I.ok.noex b o e),I.base.free b o (I.ok.bs b o e).1 (I.ok.bs b o e).2 (I.ok.noex b o e)⟩
def Inv.bk (I:Inv X pins σ H s):∀ b o,X.base.get? b = some o->s.heap.get? b = some o:=λb o e=>(I.bs b o e).1
def Inv.mod (I:Inv X pins σ H s):Mod X.K X.mg X.base:=I.ok.mod
def Inv.kIn (I:Inv X pins σ H s):X.K.In s.heap:=I.ok.mod.kin.keeps I.bk
def Inv.lt (I:Inv X pins σ H s):X.env.locals < s.heap.objs.size:=let ⟨_,hn,_⟩:=I.loc;hn.lt
def Inv.sz (I:Inv X pins σ H s):X.s₀.heap.objs.size<=s.heap.objs.size:=bx I.ok.above (iG I.lt)
def Inv.nofs (I:Inv X pins σ H s) (h:s.heap.objs.size<=a):a∉X.fs:=λhb=>by
 obtain ⟨_,o,ho,_⟩:=I.ok.funs.mem hb;exact absurd (aZ (aH ho) (bx I.sz h)) (bV _)
def Inv.cne (I:Inv X pins σ H s):∀ x c,X.env.cells.lookup x = some c->c≠X.env.locals:=λx c e z=>by
 obtain ⟨v,o,ho,hd⟩:=I.cell x c e;obtain ⟨m,⟨o',es,ep,ho',hd',_⟩,_⟩:=I.loc;rw [z,ho'] at ho;cases ho;rw [hd'] at hd;cases hd
def Inv.funs (I:Inv X pins σ H s):s.heap.FunFrames X.base X.outer:=by
 have all:∀ (l:List Env),(∀ b∈frs l,b∈X.fs)->X.s₀.heap.FunFrames X.base l->s.heap.FunFrames X.base l:=by
  intro l
  induction l with
  | nil=>intro _ _;trivial
  | cons env r ih =>
    intro hs hl;obtain ⟨hk,⟨L,o,hf,hn,ho,hd⟩,hr⟩:=hl;have hL:L∈X.fs:=hs L (by unfold frs;rw [bW,hf];exact av);obtain ⟨sl,e⟩:=I.base.slot L o ho (I.ok.frf L hL) hL λz=>I.ok.exfs L z hL;exact ⟨hk,⟨L,_,hf,hn,e,hd⟩,ih (λb hb=>hs b (by unfold frs;rw [bW,hf];exact ai _ hb)) hr⟩
 exact all X.outer (λ_ hb=>hb) I.ok.funs
def Inv.stack (I:Inv X pins σ H s):s.heap.FunFrames X.base X.stack:=by
 rcases I.ok.stk with e | ⟨e,hf⟩
 . rw [e];exact I.funs
 . rw [e];obtain ⟨m,hn,_⟩:=I.loc;refine .cons (by rw [I.ok.kind];decide) hf hn ?_ I.funs;exact zR (bx I.ok.bsz I.ok.above)
def Inv.stkSub (I:Inv X pins σ H s):∀ b∈frs X.stack,b∈X.env.locals::X.fs:=λb hb=>by
 rcases I.ok.stk with e | ⟨e,hf⟩
 . rw [e] at hb;exact ai _ hb
 . rw [e] at hb;unfold frs at hb;rw [bW,hf] at hb;exact hb
def Inv.stkFree (I:Inv X pins σ H s):∀ b∈frs X.stack,H b = none:=λb hb=>by
 rcases aD.mp (I.stkSub b hb) with e | hb
 . rw [e];exact I.free
 . obtain ⟨_,o,ho,_⟩:=I.ok.funs.mem hb;exact I.base.free b o ho (I.ok.frf b hb) λz=>I.ok.exfs b z hb
def Inv.step {g':Array qS} {t':Nat} {d':Drawn} {ch:List au} (I:Inv X pins σ H s)
 (hch:∀ b∈ch,(b∈X.ex\/X.s₀.heap.objs.size<=b)/\b≠X.env.locals/\(∀ x c,X.env.cells.lookup x = some c->c≠b)/\∀ p∈X.pn++pins,p.1≠b)
 (keep:∀ b o,b≠X.env.locals->b∉X.fs->b∉ch->s.heap.get? b = some o->H b = none->h'.get? b = some o)
 (slot:∀ b o,b≠X.env.locals->b∈X.fs->b∉ch->s.heap.get? b = some o->H b = none->∃ sl,h'.get? b = some { o with slots:=sl }) (free:∀ b o,b∉ch->s.heap.get? b = some o->H b = none->H' b = none)
 (there:∀ b o,b∉ch->s.heap.get? b = some o->∃ o',h'.get? b = some o')
 (tups:∀ b xs,H b = some (.tup xs)->H' b = some (.tup xs)) (frzs:∀ b o u,H b = some (.frz o u)->H' b = some (.frz o u)) (tbls:∀ b ps,H b = some (.tbl ps)->∃ more,H' b = some (.tbl (ps++more)))
 (ns:∀ m,s.heap.Ns X.env.locals m->h'.Ns X.env.locals m) (hok:HOk X.prog X.w H' h') (hg:km g') :
 Inv X pins σ H' { s with heap:=h',gens:=g',drawn:=d',toks:=t' }:=by
 have neL:∀ b o,X.s₀.heap.get? b = some o->b≠X.env.locals:=λb o e=>aQ (aZ (aH e) I.ok.above)
 have neC:∀ b o,X.s₀.heap.get? b = some o->b∉X.ex->b∉ch:=λb o e hx hb=>by
  rcases (hch b hb).1 with z | z
  . exact hx z
  . exact absurd (aZ (aH e) z) (bV _)
 have cellK:∀ x c,X.env.cells.lookup x = some c->∀ v,s.heap.IsCell c v->h'.IsCell c v:=λx c e v zz=>by
  obtain ⟨o,ho,hd⟩:=zz;have nch:c∉ch:=λz=>(hch c z).2.2.1 x c e rfl;by_cases hc:c∈X.fs
  . obtain ⟨sl,q⟩:=slot c o (I.cne x c e) hc nch ho (I.freeC x c e);exact ⟨_,q,hd⟩
  . exact ⟨o,keep c o (I.cne x c e) hc nch ho (I.freeC x c e),hd⟩
 refine ⟨I.ok,I.os,hg,⟨λb o e n hb hx=>?_,λb o e n hb hx=>?_,λb o e n hx=>?_,λb o e hx=>?_,λb xs e=>tups b xs (I.base.tups b xs e),λb o xs e=>frzs b o xs (I.base.frzs b o xs e),λb ps e=>?_⟩,?_,λx c e=>?_,?_,λx c e=>?_,λp hp=>?_,hok,I.len⟩
 . exact keep b o (neL b o e) hb (neC b o e hx) (I.base.keep b o e n hb hx) (I.base.free b o e n hx)
 . obtain ⟨sl,e1⟩:=I.base.slot b o e n hb hx;obtain ⟨sl',e2⟩:=slot b _ (neL b o e) hb (neC b o e hx) e1 (I.base.free b o e n hx);exact ⟨sl',e2⟩
 . obtain ⟨o',e1⟩:=I.base.there b o e hx;exact free b o' (neC b o e hx) e1 (I.base.free b o e n hx)
 . obtain ⟨o',e1⟩:=I.base.there b o e hx;exact there b o' (neC b o e hx) e1
 . obtain ⟨m1,e1⟩:=I.base.tbls b ps e;obtain ⟨m2,e2⟩:=tbls b _ e1;exact ⟨m1++m2,by rw [e2,Array.append_assoc]⟩
 . obtain ⟨m,hn,hl⟩:=I.loc;refine ⟨m,ns m hn,λi x v e1 e2 e3=>?_⟩;obtain ⟨u,r,l⟩:=hl i x v e1 e2 e3;refine ⟨u,r,?_⟩;rcases l with l | ⟨k,c,e,z⟩
   . exact .inl l
   . exact .inr ⟨k,c,e,cellK x c e _ z⟩
 . obtain ⟨v,z⟩:=I.cell x c e;exact ⟨v,cellK x c e v z⟩
 . obtain ⟨m,⟨o,_,_,ho,_⟩,_⟩:=I.loc;exact free _ o (λz=>(hch _ z).2.1 rfl) ho I.free
 . obtain ⟨v,o,ho,hd⟩:=I.cell x c e;exact free c o (λz=>(hch c z).2.2.1 x c e rfl) ho (I.freeC x c e)
 . obtain ⟨e,n,ne,nf,d⟩:=I.pin p hp;have nch:p.1∉ch:=λz=>(hch p.1 z).2.2.2 p hp rfl;exact ⟨keep p.1 p.2 ne nf nch e n,free p.1 p.2 nch e n,ne,nf,d⟩
def Inv.un {t':Nat} (I:Inv X pins σ H s) (u:Un X.fs [] H H' s.heap h') (hok:HOk X.prog X.w H' h'):Inv X pins σ H' { s with heap:=h',toks:=t' }:=by
 obtain ⟨m,⟨o,es,ep,ho,r⟩,_⟩:=id I.loc;obtain ⟨sl,hL⟩:=u.any ho I.free ↥0
 exact I.step (g':=s.gens) (d':=s.drawn) (ch:=[]) (λ_ z=>nomatch z) (λb o _ hb _ e n=>u.keep b o e n hb ↥0) (λb o _ hb _ e n=>u.slot b o e n hb ↥0) (λb o _ e n=>u.free b o e n ↥0) (λb o _ e=>u.there b o e ↥0) u.tups u.frzs u.tbls (λm' hm=>by
  obtain ⟨o',es',ep',ho',r'⟩:=hm;rw [ho] at ho';cases ho';exact ⟨_,es',ep',hL,r'⟩) hok I.bare
def Inv.call {g':Array qS} {t':Nat} {d':Drawn} {ch:List au} (I:Inv X pins σ H s) (u:Un (frs X.stack) ch H H' s.heap h') (hok:HOk X.prog X.w H' h') (hg:km g')
 (hch:∀ b∈ch,(b∈X.ex\/X.s₀.heap.objs.size<=b)/\b≠X.env.locals/\(∀ x c,X.env.cells.lookup x = some c->c≠b)/\∀ p∈X.pn++pins,p.1≠b) :
 Inv X pins σ H' { s with heap:=h',gens:=g',drawn:=d',toks:=t' }:=by
 obtain ⟨m,⟨o,es,ep,ho,r⟩,_⟩:=id I.loc;obtain ⟨sl,hL⟩:=u.any ho I.free λz=>(hch _ z).2.1 rfl
 exact I.step (ch:=ch) hch (λb o hL hb hc e n=>u.keep b o e n (λz=>(aD.mp (I.stkSub b z)).elim hL hb) hc) (λb o _ _ hc e n=>u.any e n hc) (λb o hc e n=>u.free b o e n hc) (λb o hc e=>u.there b o e hc) u.tups u.frzs u.tbls (λm' hm=>by
  obtain ⟨o',es',ep',ho',r'⟩:=hm;rw [ho] at ho';cases ho';exact ⟨_,es',ep',hL,r'⟩) hok hg
def Inv.turned {t':Nat} {it:au} (I:Inv X pins σ H s) (k:∀ b o,b≠it->s.heap.get? b = some o->h'.get? b = some o) (hn:H it = none) (hL:it≠X.env.locals)
 (h1:it∈X.ex\/X.s₀.heap.objs.size<=it) (h2:∀ x c,X.env.cells.lookup x = some c->c≠it) (h3:∀ p∈X.pn++pins,p.1≠it):Inv X pins σ H { s with heap:=h',toks:=t' }:=by
 have nit:∀ b u,H b = some u->b≠it:=λb u e z=>by rw [z,hn] at e;cases e
 refine I.step (g':=s.gens) (d':=s.drawn) (ch:=[it]) (λb hb=>?_) (λb o _ _ hc e _=>k b o (λz=>hc (by simp [z])) e) (λb o _ _ hc e _=>⟨o.slots,k b o (λz=>hc (by simp [z])) e⟩) (λ_ _ _ _ n=>n)
  (λb o hc e=>⟨o,k b o (λz=>hc (by simp [z])) e⟩) (λ_ _ e=>e) (λ_ _ _ e=>e) (λb ps e=>⟨#[],by rw [e];simp⟩) (λm hm=>?_) (λb u e=>?_) I.bare
 . have e:b = it:=by simpa using hb
   subst e;exact ⟨h1,hL,h2,h3⟩
 . obtain ⟨o,es,ep,ho,r⟩:=hm;exact ⟨o,es,ep,k _ o (Ne.symm hL) ho,r⟩
 . refine (I.hok b u e).stay (λc v hc q=>k c v ?_ q) (λ_ q=>q) λ_ _ q=>q;rcases hc with z | z
   . rw [z];exact nit b u e
   . exact nit c _ z
def Inv.tok (I:Inv X pins σ H s) (t:Nat):Inv X pins σ H { s with toks:=t }:=I.un (h':=s.heap) (t':=t) Un.refl I.hok
def Inv.kept {t':Nat} (I:Inv X pins σ H s) (k:∀ b u,s.heap.get? b = some u->h'.get? b = some u):Inv X pins σ H { s with heap:=h',toks:=t' }:=I.un (Un.kept k) (I.hok.kept k)
def Inv.laid {a:au} {o:HO} {t':Nat} (I:Inv X pins σ H s) (k:∀ b u,s.heap.get? b = some u->h'.get? b = some u) (hp:s.heap.objs.size<=a) (new:eR X.prog X.w (upd H a o) h' a o) :
 Inv X pins σ (upd H a o) { s with heap:=h',toks:=t' }:=I.un (Un.laid k hp (I.hok.fresh hp)) (I.hok.laid k hp new)
def Inv.write (I:Inv X pins σ H s) (mu:Mut (H x)) (he:e = x\/H e = some (.own x)) (k:∀ b u,b≠e->s.heap.get? b = some u->h'.get? b = some u) (heo:∃ u,h'.get? e = some u)
 (new:eR X.prog X.w (upd H x o) h' x o):Inv X pins σ (upd H x o) { s with heap:=h',toks:=t' }:=I.un (Un.write mu he k heo) (I.hok.write mu he k heo new)
def Inv.pins_of (I:Inv X pins σ H s) (h:∀ p∈pins',s.heap.get? p.1 = some p.2/\H p.1 = none/\p.1≠X.env.locals/\p.1∉X.fs/\∀ v,p.2.data≠.cell v):Inv X pins' σ H s :=
 ⟨I.ok,I.os,I.bare,I.base,I.loc,I.cell,I.free,I.freeC,λp hp=>(aN.mp hp).elim (λz=>I.pin p (bb _ z)) (h p),I.hok,I.len⟩
def vE {N:List Str} (hN:N.Nodup) {i j:Nat} {x:Str} (a:N[i]? = some x) (b:N[j]? = some x):i = j:=by
 obtain ⟨h1,e1⟩:=aE.mp a;obtain ⟨h2,e2⟩:=aE.mp b;exact (List.getElem_inj hN).mp (e1.trans e2.symm)
def An {M:Model} {A:bo} {E:ag->aj->Prop} {i:Nat} {x:Str} {v:V} {u:ag} {Q:Unit->aj->Prop} (I:Inv X pins σ H s) (hN:X.N.Nodup) (hi:X.N[i]? = some x) (hx:Loc X.env.scope x) (r:RelV v u)
 (h:∀ s',Inv X pins (σ.set i (some v)) H s'->(∃ a,iC a s.heap s'.heap/\(a = X.env.locals\/X.env.cells.lookup x = some a))->Q () s') (hf:X.fn x = true\/X.env.scope.names.lookup x = some .local:=by first | exact .inl rfl | exact .inr rfl | assumption):wpAny M A (storeName X.env x u) Q E s:=by
 obtain ⟨m,hn,hl⟩:=id I.loc;have hcls:(X.env.scope.kind == .class || (X.env.scope.kind == .module && X.env.locals != X.env.globals)) = false:=by rw [I.ok.kind];rfl
 have hiσ:i < σ.length:=by rw [I.len];exact (aE.mp hi).1
 have cne:=I.cne
 have tracked:∀ {a:au} {h':bH},(∃ o,s.heap.get? a = some o/\H a = none)->iC a s.heap h'->HOk X.prog X.w H h':=λ{a h'} ha hs b ob e=>by
  obtain ⟨_,_,hfree⟩:=ha;refine (I.hok b ob e).stay (λc w' hc q=>(hs.2 c ?_).trans q) (λ_ q=>q) λ_ _ q=>q;rintro rfl;rcases hc with rfl | hc
  . rw [hfree] at e;cases e
  . rw [hfree] at hc;cases hc
 rcases hx with hk | hk
 . refine wpAny_storeName_local hk hn (λh' hn' hs=>?_) hcls;obtain ⟨oL,_,_,hoL,_⟩:=id hn;refine h _ ⟨I.ok,I.os,I.bare,⟨λb o e n hb hx=>?_,λb o e n hb hx=>?_,I.base.free,λb o e hx=>?_,I.base.tups,I.base.frzs,I.base.tbls⟩,⟨_,hn',λj y v' e1 e2 e3=>?_⟩,λy c e=>?_,I.free,I.freeC,λp hp=>?_,tracked ⟨oL,hoL,I.free⟩ hs,by simpa using I.len⟩ ⟨_,hs,.inl rfl⟩
   . exact (hs.2 b (aQ (aZ (aH e) I.ok.above))).trans (I.base.keep b o e n hb hx)
   . obtain ⟨sl,e1⟩:=I.base.slot b o e n hb hx;exact ⟨sl,(hs.2 b (aQ (aZ (aH e) I.ok.above))).trans e1⟩
   . obtain ⟨o',e1⟩:=I.base.there b o e hx;exact ⟨o',(hs.2 b (aQ (aZ (aH e) I.ok.above))).trans e1⟩
   . by_cases hj:j = i
     . subst hj;rw [hi] at e1;cases e1;rw [bQ hiσ] at e2;cases e2;exact ⟨u,r,.inl ⟨hk,↥0⟩⟩
     . rw [aO (Ne.symm hj)] at e2;obtain ⟨u',r',q⟩:=hl j y v' e1 e2 e3;refine ⟨u',r',?_⟩;rcases q with ⟨k,e⟩ | ⟨k,c,e,z⟩
       . refine .inl ⟨k,?_⟩;have:y≠x:=λe=>hj (vE hN e1 (e▸hi));simp [this,e]
       . exact .inr ⟨k,c,e,z.sameBut hs (cne y c e)⟩
   . obtain ⟨w',z⟩:=I.cell y c e;exact ⟨w',z.sameBut hs (cne y c e)⟩
   . obtain ⟨e,n,ne,nf,d⟩:=I.pin p hp;exact ⟨(hs.2 p.1 ne).trans e,n,ne,nf,d⟩
 . have hfn:X.fn x = true:=by
    rcases hf with z | z
    . exact z
    . rw [z] at hk;cases hk
   obtain ⟨c,hc⟩:=I.ok.has x (.inl hk);obtain ⟨w',z⟩:=I.cell x c hc;refine wpAny_storeName_cell I.ok.kind hk hc z (λh' hc' hs=>?_);obtain ⟨oc,hoc,hocd⟩:=id z;refine h { s with heap:=h' } ⟨I.ok,I.os,I.bare,⟨λb o e n hb hx=>?_,λb o e n hb hx=>?_,I.base.free,λb o e hx=>?_,I.base.tups,I.base.frzs,I.base.tbls⟩,⟨m,hn.sameBut hs (Ne.symm (cne x c hc)),λj y v' e1 e2 e3=>?_⟩,λy c' e=>?_,I.free,I.freeC,λp hp=>?_,tracked ⟨oc,hoc,I.freeC x c hc⟩ hs,by simpa using I.len⟩ ⟨c,hs,.inr hc⟩
   . exact (hs.2 b (aQ (aZ (aH e) (I.ok.cab x c hfn hc)))).trans (I.base.keep b o e n hb hx)
   . obtain ⟨sl,e1⟩:=I.base.slot b o e n hb hx;exact ⟨sl,(hs.2 b (aQ (aZ (aH e) (I.ok.cab x c hfn hc)))).trans e1⟩
   . obtain ⟨o',e1⟩:=I.base.there b o e hx;exact ⟨o',(hs.2 b (aQ (aZ (aH e) (I.ok.cab x c hfn hc)))).trans e1⟩
   . by_cases hj:j = i
     . subst hj;rw [hi] at e1;cases e1;rw [bQ hiσ] at e2;cases e2;exact ⟨u,r,.inr ⟨.inl hk,c,hc,hc'⟩⟩
     . rw [aO (Ne.symm hj)] at e2;obtain ⟨u',r',q⟩:=hl j y v' e1 e2 e3;refine ⟨u',r',?_⟩;rcases q with q | ⟨k,c',e,z'⟩
       . exact .inl q
       . refine .inr ⟨k,c',e,z'.sameBut hs ?_⟩;rintro rfl;exact hj (vE hN e1 (I.ok.inj _ _ _ e hc▸hi))
   . by_cases hcc:c' = c
     . subst hcc;exact ⟨_,hc'⟩
     . obtain ⟨w2,z2⟩:=I.cell y c' e;exact ⟨w2,z2.sameBut hs hcc⟩
   . obtain ⟨e,n,ne,nf,d⟩:=I.pin p hp;refine ⟨(hs.2 p.1 ?_).trans e,n,ne,nf,d⟩;intro q;rw [q,hoc] at e;have q':oc = p.2:=bY e;exact d w' (by rw [<- q'];exact hocd)
def kr (I:Inv X pins σ H s) (hN:X.N.Nodup) (hi:X.N[i]? = some x) (hx:Loc X.env.scope x) (r:RelV v u)
 (h:∀ s',Inv X pins (σ.set i (some v)) H s'->Q () s') (hf:X.fn x = true\/X.env.scope.names.lookup x = some .local:=by first | exact .inl rfl | exact .inr rfl | assumption):wpAny M A (storeName X.env x u) Q E s :=
 An I hN hi hx r (λs' I' _=>h s' I') hf
def Inv.call' (I:Inv X pins σ H s) (ho:s'.os = s.os) (u:Un (frs X.stack) ch H H' s.heap s'.heap) (hok:HOk X.prog X.w H' s'.heap) (hg:km s'.gens)
 (hch:∀ b∈ch,(b∈X.ex\/X.s₀.heap.objs.size<=b)/\b≠X.env.locals/\(∀ x c,X.env.cells.lookup x = some c->c≠b)/\∀ p∈X.pn++pins,p.1≠b):Inv X pins σ H' s':=by
 obtain ⟨h',g',d',t',o'⟩:=s';have e:o' = s.os:=ho;subst e;exact I.call (g':=g') (t':=t') (d':=d') u hok hg hch
end
abbrev XK:=ag->Option au->Hp->Prop
abbrev St:=List (Option V)
abbrev VK:=V->Hp->Prop
abbrev TE:=St->Hp->VK->Prop
abbrev TT:=St->Hp->(Bool->Hp->Prop)->Prop
abbrev TA:=St->Hp->(List V->Hp->Prop)->Prop
structure Ends where
 nx:St->Hp->Prop
 rt:VK
 bk:St->Hp->Prop:=λ_ _=>False
 ct:St->Hp->Prop:=λ_ _=>False
abbrev TS:=Ends->St->Hp->Prop
def EP (X:Cx) (pins:List (au × Obj)) (σ:St) (Q:VK) (u:ag) (s':aj):Prop:=∃ v H',Inv X pins σ H' s'/\RelV v u/\Q v H'
def TP (X:Cx) (pins:List (au × Obj)) (σ:St) (Q:Bool->Hp->Prop) (b:Bool) (s':aj):Prop:=∃ H',Inv X pins σ H' s'/\Q b H'
def AP (X:Cx) (pins:List (au × Obj)) (σ:St) (Q:List V->Hp->Prop) (us:List ag) (s':aj):Prop:=∃ vs H',Inv X pins σ H' s'/\Vals vs us/\Q vs H'
def SP (X:Cx) (pins:List (au × Obj)) (D:Ends) (f:Flow) (s':aj):Prop :=
 match f with
 | .next=>∃ σ' H',Inv X pins σ' H' s'/\D.nx σ' H'
 | .brk=>∃ σ' H',Inv X pins σ' H' s'/\D.bk σ' H'
 | .cont=>∃ σ' H',Inv X pins σ' H' s'/\D.ct σ' H'
 | .ret u=>∃ v σ' H',Inv X pins σ' H' s'/\RelV v u/\D.rt v H'
def PE (X:Cx) (e:aI) (t:TE):Prop :=
 ∀ (pins:List (au × Obj)) (s:aj) (σ:St) (H:Hp) (Q:VK),Inv X pins σ H s->t σ H Q->wpAny (model X.prog X.w) X.A (eval e X.env) (EP X pins σ Q) X.xe s
def PT (X:Cx) (e:aI) (t:TT):Prop :=
 ∀ (pins:List (au × Obj)) (s:aj) (σ:St) (H:Hp) (Q:Bool->Hp->Prop),Inv X pins σ H s->t σ H Q->wpAny (model X.prog X.w) X.A (isTrue e X.env (eval e X.env)) (TP X pins σ Q) X.xe s
def PW (X:Cx) (e:aI) (t:TT):Prop :=
 ∀ (whole:Sem ag) (pins:List (au × Obj)) (s:aj) (σ:St) (H:Hp) (Q:Bool->Hp->Prop),Inv X pins σ H s->t σ H Q->wpAny (model X.prog X.w) X.A (isTrue e X.env whole) (TP X pins σ Q) X.xe s
def PW.pt {X:Cx} {e:aI} {t:TT} (h:PW X e t):PT X e t:=h _
def PA (X:Cx) (es:List aI) (t:TA):Prop :=
 ∀ (pos:Pos) (pins:List (au × Obj)) (s:aj) (σ:St) (H:Hp) (Q:List V->Hp->Prop),Inv X pins σ H s->t σ H Q->wpAny (model X.prog X.w) X.A (spliced (backTo pos (starEach es X.env))) (AP X pins σ Q) X.xe s
def PS (X:Cx) (st:bw) (t:TS):Prop :=
 ∀ (pins:List (au × Obj)) (s:aj) (σ:St) (H:Hp) (D:Ends),Inv X pins σ H s->t D σ H->wpAny (model X.prog X.w) X.A (exec st X.env) (SP X pins D) X.xe s
def PSs (X:Cx) (st:List bw) (t:TS):Prop :=
 ∀ (pins:List (au × Obj)) (s:aj) (σ:St) (H:Hp) (D:Ends),Inv X pins σ H s->t D σ H->wpAny (model X.prog X.w) X.A (execs st X.env) (SP X pins D) X.xe s
def thn {α:Type} {t:Sem α} {Q Q':α->aj->Prop} {M:Model} {A:bo} {E:ag->aj->Prop} {s:aj} (h:wpAny M A t Q E s) (hQ:∀ a s,Q a s->Q' a s):wpAny M A t Q' E s:=cg h hQ λ_ _ x=>x
end L2
namespace L2
open PySem PySem.Spec PyProof.Rows
section
variable {X:Cx}
def CG (i:Nat):TE:=λσ H Q=>∃ v,σ[i]? = some (some v)/\Q v H
def tC (v:V):TE:=λ_ H Q=>Q v H
def ij (hN:X.N[i]? = some x) (hv:Vis X.env.scope x) (hd:(x == ("__debug__":Str)) = false:=by decide) (hcd:(x == ("__classdict__":Str)) = false:=by decide):PE X (.Name x pos) (CG i):=by
 intro pins s σ H Q I h;obtain ⟨v,e,h⟩:=h;obtain ⟨m,hn,hl⟩:=I.loc;obtain ⟨u,r,l⟩:=hl i x v hN e hv;have fin:EP X pins σ Q u s:=⟨v,H,I,r,h⟩;rcases l with ⟨hk,hm⟩ | ⟨hk,c,hc,hcell⟩
 . exact MW (IT I.ok.kind hk hn hm fin) hd
 . rcases hk with hk | hk
   . exact MW (Jz I.ok.kind hk hc hcell fin) hd
   . exact MW (wpAny_loadName_free I.ok.kind hk hc hcell fin hcd) hd
def DM:PE X (.Constant (.int i) j pos) (tC (.int i)):=λ_ _ _ H _ I h=>wpAny_Constant_int ⟨.int i,H,I.tok _,⟨_,rfl⟩,h⟩
def Od:PE X (.Constant (.bool b) j pos) (tC (.bl b)):=λ_ _ _ H _ I h=>Constant_bool ⟨.bl b,H,I,rfl,h⟩
def Lh:PE X (.Constant .none j pos) (tC .non):=λ_ _ _ H _ I h=>Constant_none ⟨.non,H,I,rfl,h⟩
def DJ:PE X (.Constant (.str x) j pos) (tC (.str x)):=λ_ _ _ H _ I h=>Calls.Constant_str ⟨.str x,H,I.tok _,⟨_,rfl⟩,h⟩
def Gl (X:Cx) (x:Str):Prop:=X.env.kindOf x = some .globalImplicit
def kN (I:Inv X pins σ H s) (hg:Gl X x) (hm:X.mg x = some u) (h:Q u s)
 (hd:(x == ("__debug__":Str)) = false:=by decide):wpAny (model X.prog X.w) X.A (eval (.Name x pos) X.env) Q E s :=
 qT I.ok.kind hg (Calls.loadGlobal_global (by rw [I.ok.glob];exact I.mod.glob.keeps I.bk) hm h) hd
def qe {E:ag->aj->Prop} {pins:List (au × Obj)} {s:aj} {σ:St} {H:Hp} {x:Str} {u:ag} {pos:Pos} {Q:ag->aj->Prop} (I:Inv X pins σ H s) (hg:Gl X x) (hm:X.mg x = none) (hv:bootBuiltins x = some u) (h:Q u s)
 (hn:x≠"__name__":=by decide) (hd:(x == ("__debug__":Str)) = false:=by decide):wpAny (model X.prog X.w) X.A (eval (.Name x pos) X.env) Q E s:=by
 obtain ⟨mb,h1,h2⟩:=I.mod.blt;exact qT I.ok.kind hg (Calls.loadGlobal_builtin (by rw [I.ok.glob];exact I.mod.glob.keeps I.bk) hm (by rw [I.ok.blt];exact h1.keeps I.bk) ((h2 x hn).trans hv) h) hd
def HF (hg:Gl X x) (hm:X.mg x = some u) (r:RelV v u) (hd:(x == ("__debug__":Str)) = false:=by decide):PE X (.Name x pos) (tC v) :=
 λ_ _ _ H _ I h=>kN I hg hm ⟨v,H,I,r,h⟩ hd
def yR (hg:Gl X x) (hm:X.mg x = none) (hv:bootBuiltins x = some u) (r:RelV v u) (hn:x≠"__name__":=by decide) (hd:(x == ("__debug__":Str)) = false:=by decide):PE X (.Name x pos) (tC v) :=
 λ_ _ _ H _ I h=>qe I hg hm hv ⟨v,H,I,r,h⟩ hn hd
variable {a b:aI} {ta tb:TE} {pos:Pos}
def tB (t:TE):TT:=λσ H Q=>t σ H λx H1=>∃ c,x = .bl c/\Q c H1
def DB {e:aI} {t:TE} (h:PE X e t) (he:∀ whole,isTrue e X.env whole = (do let v <- whole;standAt e.pos;holding [v] (truthy v)):=by intro _;rfl):PT X e (tB t):=by
 intro pins s σ H Q I hw;refine isTrue_plain (thn (h pins s σ H _ I hw) λv s1 ⟨x,H1,I1,r1,q1⟩=>?_) (he _);obtain ⟨d,rfl,q⟩:=q1;cases r1;exact cM ⟨H1,I1,q⟩
variable {tA tB':TT} {rest:List aI}
def Pa (t u:TT):TT:=λσ H Q=>t σ H λc H1=>if c = true then u σ H1 Q else Q false H1
def tOr (t u:TT):TT:=λσ H Q=>t σ H λc H1=>if c = true then Q true H1 else u σ H1 Q
def OU (t:TT):TT:=λσ H Q=>t σ H λc H1=>Q (!c) H1
def Hu (ha:PT X a tA):PW X (.BoolOp .And [a] pos) tA:=by
 intro wh pins s σ H Q I h;refine isTrue_and (thn (ha pins s σ H Q I h) λc s1 e=>?_)
 cases c with
 | true=>exact isTrue_and_nil e
 | false=>exact e
def KR (ha:PT X a tA):PW X (.BoolOp .Or [a] pos) tA:=by
 intro wh pins s σ H Q I h;refine isTrue_or (thn (ha pins s σ H Q I h) λc s1 e=>?_)
 cases c with
 | false=>exact isTrue_or_nil e
 | true=>exact e
def KS (ha:PT X a tA) (hb:PW X (.BoolOp .And (b::rest) pos) tB'):PW X (.BoolOp .And (a::b::rest) pos) (Pa tA tB'):=by
 intro wh pins s σ H Q I h;refine isTrue_and (thn (ha pins s σ H _ I h) λc s1 ⟨H1,I1,q1⟩=>?_)
 cases c with
 | true=>exact hb wh pins s1 σ H1 Q I1 q1
 | false=>exact ⟨H1,I1,q1⟩
def NZ (ha:PT X a tA) (hb:PW X (.BoolOp .Or (b::rest) pos) tB'):PW X (.BoolOp .Or (a::b::rest) pos) (tOr tA tB'):=by
 intro wh pins s σ H Q I h;refine isTrue_or (thn (ha pins s σ H _ I h) λc s1 ⟨H1,I1,q1⟩=>?_)
 cases c with
 | true=>exact ⟨H1,I1,q1⟩
 | false=>exact hb wh pins s1 σ H1 Q I1 q1
def KU (ha:PT X a tA):PT X (.UnaryOp .Not a pos) (OU tA):=by
 intro pins s σ H Q I h;exact isTrue_not (ha pins s σ H (λc H1=>Q (!c) H1) I h)
def NI (ta tb:TE):TE:=λσ H Q=>ta σ H λx H1=>∃ c,x = .bl c/\if c = true then tb σ H1 Q else Q (.bl false) H1
def OT (ta tb:TE):TE:=λσ H Q=>ta σ H λx H1=>∃ c,x = .bl c/\if c = true then Q (.bl true) H1 else tb σ H1 Q
def NC (ta:TE):TE:=λσ H Q=>ta σ H λx H1=>∃ c,x = .bl c/\Q (.bl (!c)) H1
def DK (h:PE X a t):PE X (.BoolOp op [a] pos) t:=λpins s σ H Q I hw=>BoolOp_one (h pins s σ H Q I hw)
def Lj (ha:PE X a ta) (hb:PE X (.BoolOp .And (b::rest) pos) tb):PE X (.BoolOp .And (a::b::rest) pos) (NI ta tb):=by
 intro pins s σ H Q I h;refine BoolOp_and (thn (ha pins s σ H _ I h) λv s1 ⟨x,H1,I1,r1,q1⟩=>?_);obtain ⟨c,rfl,q1⟩:=q1;cases r1;refine cM ?_
 cases c with
 | true=>exact hb pins s1 σ H1 Q I1 q1
 | false=>exact ⟨.bl false,H1,I1,rfl,q1⟩
def Ob (ha:PE X a ta) (hb:PE X (.BoolOp .Or (b::rest) pos) tb):PE X (.BoolOp .Or (a::b::rest) pos) (OT ta tb):=by
 intro pins s σ H Q I h;refine BoolOp_or (thn (ha pins s σ H _ I h) λv s1 ⟨x,H1,I1,r1,q1⟩=>?_);obtain ⟨c,rfl,q1⟩:=q1;cases r1;refine cM ?_
 cases c with
 | false=>exact hb pins s1 σ H1 Q I1 q1
 | true=>exact ⟨.bl true,H1,I1,rfl,q1⟩
def Lg (ha:PE X a ta):PE X (.UnaryOp .Not a pos) (NC ta):=by
 intro pins s σ H Q I h;refine UnaryOp_ (thn (ha pins s σ H _ I h) λv s1 ⟨x,H1,I1,r1,q1⟩=>?_);obtain ⟨c,rfl,q1⟩:=q1;cases r1;exact not_of (cM ⟨.bl (!c),H1,I1,rfl,q1⟩)
def tIf (t:TT) (ta tb:TE):TE:=λσ H Q=>t σ H λc H1=>if c = true then ta σ H1 Q else tb σ H1 Q
def DN {c:aI} (hc:PT X c tA) (ha:PE X a ta) (hb:PE X b tb):PE X (.IfExp c a b pos) (tIf tA ta tb):=by
 intro pins s σ H Q I h;refine wpAny_IfExp (thn (hc pins s σ H _ I h) λd s1 ⟨H1,I1,q1⟩=>?_)
 cases d with
 | true=>exact ha pins s1 σ H1 Q I1 q1
 | false=>exact hb pins s1 σ H1 Q I1 q1
end
end L2
namespace L2
open PySem PySem.Spec PyProof.Rows
def SqL (K:PySem.W.Frag) (H:Hp) (a:au) (xs:List V):Prop :=
 Rd H a (.lst xs) \/
  ∃ (o:Obj) (its:Array ag) (n:Nat),K.lookup a = some o/\o.cls = .type "list"/\o.dict = none/\o.data = .seq its n/\its.size<=sizeLine/\Vals xs its.toList
def SqT (K:PySem.W.Frag) (H:Hp) (a:au) (xs:List V):Prop :=
 Rd H a (.tup xs) \/
  ∃ (o:Obj) (its:Array ag) (n:Nat),K.lookup a = some o/\o.cls = .type "tuple"/\o.data = .seq its n/\its.size<=sizeLine/\Vals xs its.toList
def Px:ag->Option V
 | .none=>some .non
 | .bool b=>some (.bl b)
 | .int i _=>some (.int i)
 | .str x _=>some (.str x)
 | .ref a=>some (.ref a)
 | .type n=>some (.ty n)
 | _=>none
def RelV.abs (r:RelV x u):Px u = some x:=by
 cases x with
 | non=>cases r;rfl
 | bl _=>cases r;rfl
 | int _=>obtain ⟨t,rfl⟩:=r;rfl
 | str _=>obtain ⟨t,rfl⟩:=r;rfl
 | ref _=>cases r;rfl
 | ty _=>cases r;rfl
def RelV.inj {x y:V} {u:ag} (r:RelV x u) (q:RelV y u):x = y:=bY (r.abs.symm.trans q.abs)
def Vals.inj:∀ {xs ys:List V} {us:List ag},Vals xs us->Vals ys us->xs = ys
 | _,_,_,.nil,.nil=>rfl
 | _,_,_,.cons r t,.cons r' t'=>by rw [r.inj r',Vals.inj t t']
section
variable {X:Cx} {pins:List (au × Obj)} {σ:St} {H:Hp} {s:aj} {a:au} {xs ys:List V}
def SqL.of {K:PySem.W.Frag} (h:H a = some (.lst xs)):SqL K H a xs:=.inl (.inl h)
def SqT.of {K:PySem.W.Frag} (h:H a = some (.tup xs)):SqT K H a xs:=.inl (.inl h)
def Inv.list (I:Inv X pins σ H s) (h:SqL X.K H a xs):∃ its:List ag,Vals xs its/\PlainL s.heap a its.toArray/\xs.length<=sizeLine:=by
 rcases h with h | ⟨o,its,n,hk,hc,hd,hs,hz,r⟩
 . obtain ⟨z,its,n,r,e⟩:=h.ok I.hok;exact ⟨its,r,⟨_,n,e,rfl,rfl,rfl⟩,z⟩
 . refine ⟨its.toList,r,⟨o,n,I.kIn a o hk,hc,hd,by simpa using hs⟩,?_⟩;have e:=r.length;simp only [fw] at e
   lia
def Inv.tuple (I:Inv X pins σ H s) (h:SqT X.K H a xs):∃ its:List ag,Vals xs its/\Ja s.heap a its.toArray/\xs.length<=sizeLine:=by
 rcases h with h | ⟨o,its,n,hk,hc,hs,hz,r⟩
 . obtain ⟨z,its,r,p⟩:=h.ok I.hok;exact ⟨its,r,p,z⟩
 . refine ⟨its.toList,r,⟨o,I.kIn a o hk,hc,n,by simpa using hs⟩,?_⟩;have e:=r.length;simp only [fw] at e
   lia
def Inv.list_inj (I:Inv X pins σ H s) (h:SqL X.K H a xs) (h':SqL X.K H a ys):xs = ys:=by
 obtain ⟨its,r,⟨o,n,e,_,_,d⟩,_⟩:=I.list h;obtain ⟨its',r',⟨o',n',e',_,_,d'⟩,_⟩:=I.list h';rw [e] at e';cases e';rw [d] at d';injection d' with d1 _;have:its = its':=by simpa using congrArg Array.toList d1
 subst this;exact r.inj r'
def Inv.tuple_inj (I:Inv X pins σ H s) (h:SqT X.K H a xs) (h':SqT X.K H a ys):xs = ys:=by
 obtain ⟨its,r,⟨o,e,_,n,d⟩,_⟩:=I.tuple h;obtain ⟨its',r',⟨o',e',_,n',d'⟩,_⟩:=I.tuple h';rw [e] at e';cases e';rw [d] at d';injection d' with d1 _;have:its = its':=by simpa using congrArg Array.toList d1
 subst this;exact r.inj r'
end
abbrev Cx.wish (X:Cx) (E:ag->aj->Prop):Cx:={ X with xe:=E }
abbrev Cx.nox (X:Cx):Cx:=X.wish λ_ _=>False
def Cx.Ok.wish {X:Cx} (ok:X.Ok) (E:ag->aj->Prop):(X.wish E).Ok :=
 ⟨ok.mod,ok.kind,ok.glob,ok.blt,ok.above,ok.inj,ok.has,ok.cab,ok.hd,ok.frames,ok.stk,ok.exf,ok.bs,ok.bsz,ok.noex,ok.exfs,ok.funs,ok.frf⟩
def Cx.Ok.unwish {X:Cx} {E:ag->aj->Prop} (ok:(X.wish E).Ok):X.Ok :=
 ⟨ok.mod,ok.kind,ok.glob,ok.blt,ok.above,ok.inj,ok.has,ok.cab,ok.hd,ok.frames,ok.stk,ok.exf,ok.bs,ok.bsz,ok.noex,ok.exfs,ok.funs,ok.frf⟩
section
variable {X:Cx} {pins:List (au × Obj)} {σ:St} {H:Hp} {s:aj} {E:ag->aj->Prop}
def Inv.wish (I:Inv X pins σ H s) (E:ag->aj->Prop):Inv (X.wish E) pins σ H s:=⟨I.ok.wish E,I.os,I.bare,I.base,I.loc,I.cell,I.free,I.freeC,I.pin,I.hok,I.len⟩
def Inv.unwish (I:Inv (X.wish E) pins σ H s):Inv X pins σ H s:=⟨I.ok.unwish,I.os,I.bare,I.base,I.loc,I.cell,I.free,I.freeC,I.pin,I.hok,I.len⟩
def SP.unwish {D:Ends} {f:Flow} {s':aj} (h:SP (X.wish E) pins D f s'):SP X pins D f s':=by
 cases f with
 | next=>obtain ⟨σ',H',I,q⟩:=h;exact ⟨σ',H',I.unwish,q⟩
 | brk=>obtain ⟨σ',H',I,q⟩:=h;exact ⟨σ',H',I.unwish,q⟩
 | cont=>obtain ⟨σ',H',I,q⟩:=h;exact ⟨σ',H',I.unwish,q⟩
 | ret u=>obtain ⟨v,σ',H',I,r,q⟩:=h;exact ⟨v,σ',H',I.unwish,r,q⟩
def PT.nox {e:aI} {t:TT} (h:PT X.nox e t):PT X e t:=λpins s σ H Q I hw =>
 cg (h pins s σ H Q (I.wish _) hw) (λ_ _ ⟨H',I',q⟩=>⟨H',I'.unwish,q⟩) λ_ _ z=>bX z
def PSs.nox {st:List bw} {t:TS} (h:PSs X.nox st t):PSs X st t:=λpins s σ H D I hw =>
 cg (h pins s σ H D (I.wish _) hw) (λ_ _ q=>q.unwish) λ_ _ z=>bX z
end
section
variable {X:Cx} {st:bw} {rest:List bw} {t u:TS} {e:aI} {te:TE} {pos:Pos}
def Jc:TS:=λD σ H=>D.nx σ H
def NA (t u:TS):TS:=λD σ H=>t { D with nx:=u D } σ H
def oE:PSs X [] Jc:=λ_ _ σ H _ I h=>jd ⟨σ,H,I,h⟩
def ma (h1:PS X st t) (h2:PSs X rest u):PSs X (st::rest) (NA t u):=by
 intro pins s σ H D I h;refine wpAny_execs_cons (thn (h1 pins s σ H { D with nx:=u D } I h) λf s1 q=>?_)
 cases f with
 | next =>
   obtain ⟨σ',H',I',q⟩:=q
   exact h2 pins s1 σ' H' D I' q
 | ret v=>exact q
 | brk=>exact q
 | cont=>exact q
def Inv.quiet {pins:List (au × Obj)} {σ:St} {H:Hp} {s:aj} (I:Inv X pins σ H s):interactive X.env = false:=by simp [interactive,I.ok.kind]
def ND (te:TE):TS:=λD σ H=>te σ H λ_ H1=>D.nx σ H1
def sZ (he:PE X e te) (hs:swapsWith e none pos.line X.env = pure false:=by rfl):PS X (.Expr e pos) (ND te):=by
 intro pins s σ H D I h;exact wpAny_Expr_any (thn (he pins s σ H _ I h) λv s1 ⟨x,H1,I1,r1,q1⟩=>⟨σ,H1,I1,q1⟩) I.quiet hs
def OS (te:TE):TS:=λD σ H=>te σ H D.rt
def xC (he:PE X e te):PS X (.Return (some e) pos) (OS te):=by
 intro pins s σ H D I h;exact wpAny_Return_some (thn (he pins s σ H _ I h) λv s1 ⟨x,H1,I1,r1,q1⟩=>⟨x,σ,H1,I1,r1,q1⟩)
def OW (c:TT) (t u:TS):TS:=λD σ H=>c σ H λb H1=>if b = true then t D σ H1 else u D σ H1
def Jh {c:aI} {a b:List bw} {tc:TT} (hc:PT X c tc) (ha:PSs X a t) (hb:PSs X b u):PS X (.If c a b pos) (OW tc t u):=by
 intro pins s σ H D I h;refine wpAny_If (thn (hc pins s σ H _ I h) λd s1 ⟨H1,I1,q1⟩=>?_)
 cases d with
 | true=>exact ha pins s1 σ H1 D I1 q1
 | false=>exact hb pins s1 σ H1 D I1 q1
def Kl:TS:=λ_ _ _=>False
def DD:PS X st Kl:=λ_ _ _ _ _ _ h=>h.elim
end
abbrev TG:=V->St->Hp->(St->Hp->Prop)->Prop
abbrev TGs:=List V->St->Hp->(St->Hp->Prop)->Prop
def PG (X:Cx) (target:aI) (t:TG):Prop :=
 ∀ (pins:List (au × Obj)) (s:aj) (σ:St) (H:Hp) (v:V) (u:ag) (Q:St->Hp->Prop),Inv X pins σ H s->RelV v u->t v σ H Q ->
  wpAny (model X.prog X.w) X.A (assign target X.env u) (λ_ s'=>∃ σ' H',Inv X pins σ' H' s'/\Q σ' H') X.xe s
def PGs (X:Cx) (ts:List aI) (t:TGs):Prop :=
 ∀ (pins:List (au × Obj)) (s:aj) (σ:St) (H:Hp) (vs:List V) (us:List ag) (Q:St->Hp->Prop),Inv X pins σ H s->Vals vs us->t vs σ H Q ->
  wpAny (model X.prog X.w) X.A (assignInOrder ((assignEach ts X.env).map (·.2)) us) (λ_ s'=>∃ σ' H',Inv X pins σ' H' s'/\Q σ' H') X.xe s
abbrev MS:=V->V->V->Hp->(Hp->Prop)->Prop
def ON (X:Cx) (t:MS):Prop :=
 ∀ (pins:List (au × Obj)) (s:aj) (σ:St) (H:Hp) (o i v:V) (ov iv u:ag) (Q:Hp->Prop),Inv X pins σ H s->RelV o ov->RelV i iv->RelV v u->t o i v H Q ->
  wpAny (model X.prog X.w) X.A (setItem ov iv u) (λ_ s'=>∃ H',Inv X pins σ H' s'/\Q H') X.xe s
abbrev TIp:=V->V->Hp->VK->Prop
def PIp (X:Cx) (op:iE) (t:TIp):Prop :=
 ∀ (pins:List (au × Obj)) (s:aj) (σ:St) (H:Hp) (x y:V) (v u:ag) (Q:VK),Inv X pins σ H s->RelV x v->RelV y u->t x y H Q ->
  wpAny (model X.prog X.w) X.A (inplaceOp op v u) (EP X pins σ Q) X.xe s
section
variable {X:Cx} {pos:Pos}
def vR (i:Nat):TG:=λv σ H Q=>Q (σ.set i (some v)) H
def tj (hN:X.N.Nodup) (hi:X.N[i]? = some x) (hx:Loc X.env.scope x) (hf:X.fn x = true\/X.env.scope.names.lookup x = some .local:=by first | exact .inl rfl | exact .inr rfl | assumption):PG X (.Name x pos) (vR i):=by
 intro pins s σ H v u Q I r h;exact Nd (kr I hN hi hx r (λs' I'=>⟨_,H,I',h⟩) hf)
def OC:TGs:=λvs σ H Q=>vs = []/\Q σ H
def Js (t:TG) (u:TGs):TGs:=λvs σ H Q=>∃ v r,vs = v::r/\t v σ H λσ' H'=>u r σ' H' Q
def HC:PGs X [] OC:=by
 intro pins s σ H vs us Q I r h;obtain ⟨e,h⟩:=h;subst e;cases r;exact assignInOrder_nil ⟨σ,H,I,h⟩
def DI {e:aI} {es:List aI} {t:TG} {u:TGs} (h1:PG X e t) (h2:PGs X es u)
 (hs:(assignEach (e::es) X.env).map (·.2) = assign e X.env::(assignEach es X.env).map (·.2):=by rfl):PGs X (e::es) (Js t u):=by
 intro pins s σ H vs us Q I r h;obtain ⟨v,vr,e1,h⟩:=h;subst e1
 cases r with
 | cons r rr =>
   rw [hs];refine assignInOrder_cons (thn (h1 pins s σ H _ _ _ I r h) λ_ s1 ⟨σ1,H1,I1,q1⟩=>?_);exact h2 pins s1 σ1 H1 _ _ Q I1 rr q1
def Pq (K:PySem.W.Frag) (n:Nat) (t:TGs):TG:=λv σ H Q=>∃ a xs,v = .ref a/\SqT K H a xs/\xs.length = n/\t xs σ H Q
def Ld (hc:X.calm = true) (h:PGs X es t)
 (hn:(assignEach es X.env).length = n:=by rfl) (hst:(assignEach es X.env).findIdx? (·.1) = none:=by rfl):PG X (.Tuple es k pos) (Pq X.K n t):=by
 intro pins s σ H v u Q I r hw;obtain ⟨a,xs,e1,hq,hl,hw⟩:=hw;subst e1;cases r;obtain ⟨its,rv,ht,hz⟩:=I.tuple hq;refine assign_Tuple_tuple (I.ok.hd hc) ht (by simp [hn,<- hl,rv.length]) hst λh' hx=>?_;have I1:Inv X pins σ H { s with heap:=h' }:=I.kept (t':=s.toks) λb o e=>hx b o (aQ (aH e)) e;exact h pins _ σ H xs _ Q I1 (by simpa using rv) hw
def Pr (to ti:TE) (t:MS):TG:=λv σ H Q=>to σ H λo H1=>ti σ H1 λi H2=>t o i v H2 λH3=>Q σ H3
def Le {o i:aI} {to ti:TE} {t:MS} (ho:PE X o to) (hi:PE X i ti) (hs:ON X t)
 (ha:∀ v,assign (.Subscript o i pos) X.env v = (do
   let ov <- holding [v] (eval o X.env)
   let iv <- holding [v,ov] (eval i X.env)
   standAt pos
   holding [v,ov,iv] (setItem ov iv v)
   release [v,ov,iv] []):=by intro _;rfl):PG X (.Subscript o i pos) (Pr to ti t):=by
 intro pins s σ H v u Q I r h;rw [ha];refine ah (eC (thn (ho pins s σ H _ I h) λov s1 ⟨x,H1,I1,r1,q1⟩=>?_));refine ah (eC (thn (hi pins s1 σ H1 _ I1 q1) λiv s2 ⟨y,H2,I2,r2,q2⟩=>?_));refine ah (oW (ah (eC (thn (hs pins s2 σ H2 x y v ov iv u _ I2 r1 r2 r q2) λ_ s3 ⟨H3,I3,q3⟩=>?_))));exact wpAny_release ⟨σ,H3,I3,q3⟩
def Gv (te:TE) (g:TG):TS:=λD σ H=>te σ H λx H1=>g x σ H1 D.nx
def DG {tg e:aI} {te:TE} {g:TG} (he:PE X e te) (hg:PG X tg g) (hs:swapsWithSole [tg] e pos.line X.env = pure false:=by rfl) (hw:swappedStores [tg] e X.env = pure none:=by rfl)
 (h1:(assignEach [tg] X.env).map (·.2) = [assign tg X.env]:=by rfl):PS X (.Assign [tg] e pos) (Gv te g):=by
 intro pins s σ H D I h;refine wpAny_Assign_stores (thn (he pins s σ H _ I h) λv s1 ⟨x,H1,I1,r1,q1⟩=>?_) hs hw;rw [h1];exact thn (hg pins s1 σ H1 x v _ I1 r1 q1) λ_ s2 q=>q
def sY {i:Nat} {x:Str} {e:aI} {te:TE} {pos':Pos} (hN:X.N.Nodup) (hi:X.N[i]? = some x) (hx:Loc X.env.scope x) (he:PE X e te) (hs:swapsWith e (some (.Name x pos')) pos.line X.env = pure false:=by rfl) (hf:X.fn x = true\/X.env.scope.names.lookup x = some .local:=by first | exact .inl rfl | exact .inr rfl | assumption) :
 PS X (.Assign [.Name x pos'] e pos) (Gv te (vR i)):=by
 intro pins s σ H D I h;refine wpAny_Assign_Name (thn (he pins s σ H _ I h) λv s1 ⟨y,H1,I1,r1,q1⟩=>?_) hs;exact kr I1 hN hi hx r1 (λs2 I2=>⟨_,H1,I2,q1⟩) hf
def OZ (i:Nat) (te:TE) (ti:TIp):TS:=λD σ H=>∃ x,σ[i]? = some (some x)/\te σ H λy H1=>ti x y H1 λz H2=>D.nx (σ.set i (some z)) H2
def KZ {i:Nat} {x:Str} {e:aI} {te:TE} {op:iE} {ti:TIp} {pos':Pos} (hN:X.N.Nodup) (hi:X.N[i]? = some x) (hx:Loc X.env.scope x) (he:PE X e te) (ho:PIp X op ti) (hf:X.fn x = true\/X.env.scope.names.lookup x = some .local:=by first | exact .inl rfl | exact .inr rfl | assumption) :
 PS X (.AugAssign (.Name x pos') op e pos) (OZ i te ti):=by
 intro pins s σ H D I h;obtain ⟨v,e1,h⟩:=h;obtain ⟨m,hn,hl⟩:=I.loc;have vis:Vis X.env.scope x:=by rcases hx with k | k;exact .inl k;exact .inr (.inl k)
 obtain ⟨u,r,l⟩:=hl i x v hi e1 vis;refine wpAny_AugAssign_Name ?_
 have go:wpAny (model X.prog X.w) X.A (eval e X.env) (λw s₂=>wpAny (model X.prog X.w) X.A (inplaceOp op u w) (λr s₃=>wpAny (model X.prog X.w) X.A (storeName X.env x r) (λ_=>SP X pins D .next) X.xe s₃) X.xe s₂) X.xe s:=by
  refine thn (he pins s σ H _ I h) λw s1 zz=>?_;obtain ⟨y,H1,I1,r1,q1⟩:=zz;refine thn (ho pins s1 σ H1 v y u w _ I1 r r1 q1) λz s2 zz=>?_;obtain ⟨zv,H2,I2,r2,q2⟩:=zz;exact kr I2 hN hi hx r2 (λs3 I3=>⟨_,H2,I3,q2⟩) hf
 rcases l with ⟨hk,hm⟩ | ⟨hk,c,hc,hcell⟩
 . exact IT I.ok.kind hk hn hm go
 . rcases hk with hk | hk
   . exact Jz I.ok.kind hk hc hcell go
   . rcases hx with k | k
     . have:X.env.scope.names.lookup x = some .free:=hk;rw [k] at this;cases this
     . have:X.env.scope.names.lookup x = some .free:=hk;rw [k] at this;cases this
def ipI (f:Int->Int->Int):TIp:=λx y H Q=>∃ i j,x = .int i/\y = .int j/\Q (.int (f i j)) H
def Mf:PIp X .Add (ipI λi j=>i+j):=by
 intro pins s σ H x y v u Q I r1 r2 h;obtain ⟨i,j,e1,e2,q⟩:=h;subst e1;subst e2;obtain ⟨t,rfl⟩:=r1;obtain ⟨t',rfl⟩:=r2;exact iadd_int ⟨.int _,H,I.tok _,⟨_,rfl⟩,q⟩
end
section
variable {X:Cx} {pos:Pos}
def Kk (c:TT) (tb:TS):TS:=λD σ H=>∃ W:Nat->St->Hp->Prop,(∃ m,W m σ H)/\∀ m σ H,W m σ H ->
 c σ H λb H1=>if b = true then ∃ N:St->Hp->Prop,(∀ σ' H',N σ' H'->∃ m',m' < m/\W m' σ' H')/\tb { D with nx:=N,ct:=N,bk:=D.nx } σ H1 else D.nx σ H1
def vv {c:aI} {body:List bw} {tc:TT} {tb:TS} (hp:lh (model X.prog X.w) X.A X.env X.xe) (hc:PT X c tc) (hb:PSs X body tb):PS X (.While c body [] pos) (Kk tc tb):=by
 intro pins s σ H D I h;obtain ⟨W,⟨m0,w0⟩,turn⟩:=h;refine wpAny_While (codeAny_whileLoop (λn s'=>∃ σ' H',Inv X pins σ' H' s'/\W n σ' H') ?_ m0 ⟨σ,H,I,w0⟩);rintro n s1 ⟨σ1,H1,I1,w1⟩;refine fg hp (thn (hc pins s1 σ1 H1 _ I1 (turn n σ1 H1 w1)) λb s2 ⟨H2,I2,q2⟩=>?_)
 cases b with
 | true =>
   obtain ⟨N,hN,q2⟩:=q2;rw [if_pos rfl];refine fg hp (thn (hb pins s2 σ1 H2 _ I2 q2) λf s3 q3=>?_)
   cases f with
   | next =>
     obtain ⟨σ3,H3,I3,n3⟩:=q3;obtain ⟨m',hm,w3⟩:=hN σ3 H3 n3
     exact ⟨m',hm,σ3,H3,I3,w3⟩
   | cont =>
     obtain ⟨σ3,H3,I3,n3⟩:=q3;obtain ⟨m',hm,w3⟩:=hN σ3 H3 n3
     exact ⟨m',hm,σ3,H3,I3,w3⟩
   | brk=>exact q3
   | ret v=>exact q3
 | false =>
   rw [if_neg ak];exact jd ⟨σ1,H2,I2,q2⟩
end
structure It where
 go:Nat->Hp->Prop
 yld:Nat->Hp->V->Hp->Prop
 stop:Nat->Hp->Prop
def kf (X:Cx) (pins:List (au × Obj)) (H:Hp) (b:au):Prop :=
 H b = none/\b≠X.env.locals/\b∉X.fs/\(b∈X.ex\/X.s₀.heap.objs.size<=b)/\(∀ x c,X.env.cells.lookup x = some c->c≠b)/\∀ p∈X.pn++pins,p.1≠b
def Inv.fpOk (I:Inv X pins σ H s) (hb:s.heap.objs.size<=b) (hn:H' b = none):kf X pins H' b:=by
 refine ⟨hn,fu (aZ I.lt hb),I.nofs hb,.inr (bx I.sz hb),λx c e z=>?_,λp hp z=>?_⟩
 . obtain ⟨v,q⟩:=I.cell x c e;exact absurd (aZ q.lt (by rw [z];exact hb)) (bV _)
 . exact absurd (aZ (aH (I.pin p hp).1) (by rw [z];exact hb)) (bV _)
structure Turn (P:aR) (w:bB) (K:PySem.W.Frag) (tg:aI) (J:It) (fp:List au) (it:au) (tn:Nat->bH->Prop):Prop where
 mem:it∈fp
 obj:∀ i h,tn i h->∀ b∈fp,∃ o,h.get? b = some o/\∀ v,o.data≠.cell v
 keep:∀ i h h',tn i h->(∀ b∈fp,∀ o,h.get? b = some o->h'.get? b = some o)->tn i h'
 item:∀ (X:Cx),X.prog = P->X.w = w->X.K = K->X.calm = true->∀ (i:Nat) (pins:List (au × Obj)) (s:aj) (σ:St) (H:Hp) (E:ag->aj->Prop),Inv X pins σ H s->(∀ b∈fp,kf X pins H b)->tn i s.heap->J.go i H ->
  wpAny (model P w) X.A (pyNext (.ref it)) (λr s1=>∃ u,r = some u /\
   wpAny (model P w) X.A (letOwnedTupleGo tg (.ref it) u) (λ_ s2=>∃ x H',Inv X pins σ H' s2/\RelV x u/\J.yld i H x H'/\tn (i+1) s2.heap/\∀ b∈fp,H' b = none) E s1) E s
 done:∀ (X:Cx),X.prog = P->X.w = w->X.K = K->X.calm = true->∀ (i:Nat) (pins:List (au × Obj)) (s:aj) (σ:St) (H:Hp) (E:ag->aj->Prop),Inv X pins σ H s->(∀ b∈fp,kf X pins H b)->tn i s.heap->J.stop i H ->
  wpAny (model P w) X.A (pyNext (.ref it)) (λr s1=>r = none/\Inv X pins σ H s1) E s
 self:∀ (A:bo) (i:Nat) (s:aj) (Q:ag->aj->Prop) (E:ag->aj->Prop),tn i s.heap->Q (.ref it) s->wpAny (model P w) A (pyIter (.ref it)) Q E s
abbrev TI:=St->Hp->(It->Hp->Prop)->Prop
def PIE (X:Cx) (pins:List (au × Obj)) (σ:St) (tg:aI) (R:It->Hp->Prop) (itv:ag) (s2:aj):Prop :=
 ∃ (it:au) (fp:List au) (tn:Nat->bH->Prop) (J:It) (H':Hp),itv = .ref it/\Inv X pins σ H' s2/\Turn X.prog X.w X.K tg J fp it tn/\tn 0 s2.heap/\(∀ b∈fp,kf X pins H' b)/\R J H'
def PI (X:Cx) (tg iter:aI) (wi:TI):Prop :=
 ∀ (pins:List (au × Obj)) (s:aj) (σ:St) (H:Hp) (R:It->Hp->Prop),Inv X pins σ H s->wi σ H R ->
  wpAny (model X.prog X.w) X.A (eval iter X.env) (λv s1=>wpAny (model X.prog X.w) X.A (pyIter v) (PIE X pins σ tg R) X.xe s1) X.xe s
def zt (ho:s.heap.get? it = some o) (hc:o.cls = .type n) (hd:o.data = .fields vs)
 (hn:["enumerate","zip","dict_itemiterator","dict_reverseitemiterator","odict_iterator","itertools.zip_longest","itertools.pairwise"].contains n = false) (hQ:Q () s):wpAny M A (letOwnedTupleGo tg (.ref it) u) Q E s:=by
 unfold letOwnedTupleGo
 cases tg<;>first
  | exact aJ hQ
  | (cases u<;>first
      | exact aJ hQ
      | (refine ah (wpAny_load ho ?_)
         rw [hc,hd];show wpAny M A (if (["enumerate","zip","dict_itemiterator","dict_reverseitemiterator","odict_iterator","itertools.zip_longest","itertools.pairwise"].contains n && vs[0]? == some (rawInt _)) = true then _ else _) Q E s;rw [if_neg (by intro h;rw [hn,Bool.false_and] at h;cases h)];exact aJ hQ))
def Itl (K:PySem.W.Frag) (a:au):It :=
 ⟨λi H=>∃ xs x,SqL K H a xs/\xs[i]? = some x,λi H x H'=>H' = H/\∀ xs,SqL K H a xs->xs[i]? = some x,λi H=>∃ xs,SqL K H a xs/\xs.length<=i⟩
def Itt (K:PySem.W.Frag) (a:au):It :=
 ⟨λi H=>∃ xs x,SqT K H a xs/\xs[i]? = some x,λi H x H'=>H' = H/\∀ xs,SqT K H a xs->xs[i]? = some x,λi H=>∃ xs,SqT K H a xs/\xs.length<=i⟩
def Itr (lo:Int) (n:Nat):It:=⟨λi _=>i < n,λi H x H'=>H' = H/\x = .int (lo+i),λi _=>n<=i⟩
def Aj {P:aR} {w:bB} {K:PySem.W.Frag} {tg:aI} (a it:au):Turn P w K tg (Itl K a) [it] it (λi h=>h.IsListIter it a i) where
 mem:=by simp
 obj:=λi h st b hb=>by
  have e:b = it:=by simpa using hb
  subst e;obtain ⟨o,e,c,d⟩:=st;exact ⟨o,e,λv z=>by rw [d] at z;cases z⟩
 keep:=λi h h' st k=>st.at λo e=>k it ↥0 o e
 item:=by
  intro X hP hw hK hc i pins s σ H E I hf st hg;subst hP hw hK;obtain ⟨xs,x,hq,hx⟩:=hg;obtain ⟨its,rv,p,hz⟩:=I.list hq;obtain ⟨u,hu,ru⟩:=rv.get hx;obtain ⟨f0,f1,f2,f3,f4,f5⟩:=hf it ↥0;refine wpAny_pyNext_list_item st p.isList (x:=u) (by simpa using hu) λh' st' sb=>?_;have I1:Inv X pins σ H { s with heap:=h' }:=I.turned (t':=s.toks) (λb o hb e=>(sb.2 b hb).trans e) f0 f1 f3 f4 f5;obtain ⟨o,e,c,d⟩:=id st';exact ⟨u,rfl,zt (s:={ s with heap:=h' }) e c d ⇑0 ⟨x,H,I1,ru,⟨rfl,λys hy=>by rw [I.list_inj hy hq];exact hx⟩,st',λb hb=>(hf b hb).1⟩⟩
 done:=by
  intro X hP hw hK hc i pins s σ H E I hf st hg;subst hP hw hK;obtain ⟨xs,hq,hx⟩:=hg;obtain ⟨its,rv,p,hz⟩:=I.list hq;obtain ⟨f0,f1,f2,f3,f4,f5⟩:=hf it ↥0;have hl:=rv.length;exact wpAny_pyNext_list_end (I.ok.hd hc) st p.isList (by simp;lia) λh' eb=>⟨rfl,I.turned (t':=s.toks) (λb o hb e=>eb b o hb e) f0 f1 f3 f4 f5⟩
 self:=λ_ _ _ _ _ st h=>wpAny_pyIter_listiter st h
def xk {P:aR} {w:bB} {K:PySem.W.Frag} {tg:aI} (a it:au):Turn P w K tg (Itt K a) [it] it (λi h=>h.IsTupleIter it a i) where
 mem:=by simp
 obj:=λi h st b hb=>by
  have e:b = it:=by simpa using hb
  subst e;obtain ⟨o,e,c,d⟩:=st;exact ⟨o,e,λv z=>by rw [d] at z;cases z⟩
 keep:=λi h h' st k=>st.at λo e=>k it ↥0 o e
 item:=by
  intro X hP hw hK hc i pins s σ H E I hf st hg;subst hP hw hK;obtain ⟨xs,x,hq,hx⟩:=hg;obtain ⟨its,rv,p,hz⟩:=I.tuple hq;obtain ⟨u,hu,ru⟩:=rv.get hx;obtain ⟨f0,f1,f2,f3,f4,f5⟩:=hf it ↥0;refine wpAny_pyNext_tuple_item st (show s.heap.IsTuple a its.toArray from p) (x:=u) (by simpa using hu) λh' st' sb=>?_;have I1:Inv X pins σ H { s with heap:=h' }:=I.turned (t':=s.toks) (λb o hb e=>(sb.2 b hb).trans e) f0 f1 f3 f4 f5;obtain ⟨o,e,c,d⟩:=id st';exact ⟨u,rfl,zt (s:={ s with heap:=h' }) e c d ⇑0 ⟨x,H,I1,ru,⟨rfl,λys hy=>by rw [I.tuple_inj hy hq];exact hx⟩,st',λb hb=>(hf b hb).1⟩⟩
 done:=by
  intro X hP hw hK hc i pins s σ H E I hf st hg;subst hP hw hK;obtain ⟨xs,hq,hx⟩:=hg;obtain ⟨its,rv,p,hz⟩:=I.tuple hq;obtain ⟨f0,f1,f2,f3,f4,f5⟩:=hf it ↥0;have hl:=rv.length;exact wpAny_pyNext_tuple_end (I.ok.hd hc) st (show s.heap.IsTuple a its.toArray from p) (by simp;lia) λh' eb=>⟨rfl,I.turned (t':=s.toks) (λb o hb e=>eb b o hb e) f0 f1 f3 f4 f5⟩
 self:=λ_ _ _ _ _ st h=>wpAny_pyIter_tupleiter st h
def xl {P:aR} {w:bB} {K:PySem.W.Frag} {tg:aI} (it:au) (lo:Int) (n:Nat):Turn P w K tg (Itr lo n) [it] it (λi h=>IsRangeIter h it (lo+(i:Nat) * 1) ((n:Int) - (i:Nat)) 1) where
 mem:=by simp
 obj:=λi h st b hb=>by
  have e:b = it:=by simpa using hb
  subst e
  exact ⟨_,st,λv z=>by
   have z':Data.fields _ = Data.cell v:=z;cases z'⟩
 keep:=λi h h' st k=>k it ↥0 _ st
 item:=by
  intro X hP hw hK hc i pins s σ H E I hf st hg;subst hP hw hK;obtain ⟨f0,f1,f2,f3,f4,f5⟩:=hf it ↥0;have W:=Walks.range (prog:=X.prog) (w:=X.w) (I.ok.hd hc) it lo 1 n;refine W.item i s _ _ hg st λv h' tk hv st' kk=>?_;obtain ⟨t,rfl⟩:=hv;have I1:Inv X pins σ H { s with heap:=h',toks:=tk }:=I.turned (λb o hb e=>kk b o (by simpa using hb) e) f0 f1 f3 f4 f5;refine ⟨_,rfl,zt (s:={ s with heap:=h',toks:=tk }) (n:="range_iterator") st' rfl rfl ⇑0 ⟨.int (lo+i),H,I1,⟨t,?_⟩,⟨rfl,rfl⟩,st',λb hb=>(hf b hb).1⟩⟩;rw [Int.mul_one]
 done:=by
  intro X hP hw hK hc i pins s σ H E I hf st hg;subst hP hw hK;obtain ⟨f0,f1,f2,f3,f4,f5⟩:=hf it ↥0;exact wpAny_pyNext_range_end (I.ok.hd hc) st (by have:n<=i:=hg;lia) λh' eb=>⟨rfl,I.turned (t':=s.toks) (λb o hb e=>eb b o hb e) f0 f1 f3 f4 f5⟩
 self:=λ_ _ _ _ _ st h=>wpAny_pyIter_rangeiter st h
end L2
namespace L2
open PySem PySem.Spec PyProof.Rows
section
variable {X:Cx} {tg:aI}
def Dp {pins:List (au × Obj)} {σ:St} {H:Hp} {s:aj} {R:It->Hp->Prop} {E:ag->aj->Prop} {lo hi:Int} {t u v:Tok} {tk:Nat} (I:Inv X pins σ H s) (h1:-(2 ^ 62)<=lo) (h2:lo < 2 ^ 62) (h3:-(2 ^ 62)<=hi) (h4:hi < 2 ^ 62)
 (q:R (Itr lo (hi - lo).toNat) H):wpAny (model X.prog X.w) X.A (pyIter (.ref s.heap.objs.size)) (PIE X pins σ tg R) E { s with heap:=s.heap.push { cls:=.type "range",data:=.fields #[.int lo t,.int hi u,.int 1 v] },toks:=tk }:=by
 refine wpAny_pyIter_range (IsRange.new ..) (small_one h1 h2 h3 h4) ?_;have I1:Inv X pins σ H { s with heap:=s.heap.push { cls:=.type "range",data:=.fields #[.int lo t,.int hi u,.int 1 v] },toks:=tk }:=I.kept λb o e=>ao _ e
 refine ⟨(s.heap.push { cls:=.type "range",data:=.fields #[.int lo t,.int hi u,.int 1 v] }).objs.size,[(s.heap.push { cls:=.type "range",data:=.fields #[.int lo t,.int hi u,.int 1 v] }).objs.size],_,_,H,rfl,
  I1.kept (t':=tk) λb o e=>ao _ e,xl _ lo (hi - lo).toNat,?_,λb hb=>?_,q⟩
 . have e1:lo+((0:Nat):Int) * 1 = lo:=by simp
   have e2:(((hi - lo).toNat:Nat):Int) - ((0:Nat):Int) = Builtin.Range.rangeSize lo hi 1:=by rw [rangeSize_one];split<;>lia
   show IsRangeIter _ _ (lo+((0:Nat):Int) * 1) ((((hi - lo).toNat:Nat):Int) - ((0:Nat):Int)) 1;rw [e1,e2];exact aS _ rfl
 . have e:b = (s.heap.push { cls:=.type "range",data:=.fields #[.int lo t,.int hi u,.int 1 v] }).objs.size:=by simpa using hb
   subst e;exact I1.fpOk (aA _) (I1.hok.fresh (aA _))
def OA (ta:TA):TI:=λσ H R=>ta σ H λvs H1=>∃ j:Int,vs = [.int j]/\-(2 ^ 62)<=j/\j < 2 ^ 62/\R (Itr 0 j.toNat) H1
def AE {a:aI} {ta:TA} {p pos:Pos} (hg:Gl X "range") (hm:X.mg "range" = none) (ha:PA X [a] ta) (hs:starEach [a] X.env = [(false,eval a X.env)]:=by rfl):PI X tg (.Call (.Name "range" p) [a] [] pos) (OA ta):=by
 intro pins s σ H R I h;refine Call_ (qe I hg hm boot_range (gy (thn (ha pos pins s σ H _ I h) λus s1 ⟨vs,H1,I1,r1,q1⟩=>?_) hs rfl));obtain ⟨j,e,q1,q2,q⟩:=q1;subst e
 cases r1 with
 | cons r rr =>
   cases rr;obtain ⟨t,rfl⟩:=r;exact call_range_1 (Dp I1 ∅ ∅ q1 q2 (by simpa using q))
def OX (wi:TI) (g:TG) (tb:TS):TS:=λD σ H=>wi σ H λJ H1=>∃ W:Nat->Nat->St->Hp->Prop,(∃ m,W 0 m σ H1)/\∀ i m σ H,W i m σ H ->
 (J.stop i H/\D.nx σ H)\/(J.go i H/\∃ N:St->Hp->Prop,(∀ σ' H',N σ' H'->∃ m',m' < m/\W (i+1) m' σ' H')/\∀ x H',J.yld i H x H'->g x σ H' λσ2 H2=>tb { D with nx:=N,ct:=N,bk:=D.nx } σ2 H2)
def pS (fp:List au) (h:bH):List (au × Obj):=fp.filterMap λb=>(h.get? b).map λo=>(b,o)
def jF (hb:b∈fp) (e:h.get? b = some o):(b,o)∈pS fp h:=BE.mpr ⟨b,hb,by rw [e];rfl⟩
def AL (hp:p∈pS fp h):p.1∈fp/\h.get? p.1 = some p.2:=by
 obtain ⟨b,hb,e⟩:=BE.mp hp
 cases q:h.get? b with
 | none=>rw [q] at e;cases e
 | some o =>
   rw [q] at e;have e':(b,o) = p:=bY e;subst e';exact ⟨hb,q⟩
def Inv.pinned (I:Inv X pins σ H s) (hf:∀ b∈fp,kf X pins H b) (ho:∀ b∈fp,∃ o,s.heap.get? b = some o/\∀ v,o.data≠.cell v):Inv X (pins++pS fp s.heap) σ H s :=
 I.pins_of λp hp=>(aN.mp hp).elim (λz=>I.pin p (aM _ z)) λz=>by
  obtain ⟨hb,e⟩:=AL z;obtain ⟨f0,f1,f2,_⟩:=hf p.1 hb;obtain ⟨o,e',d⟩:=ho p.1 hb;rw [e] at e';cases e';exact ⟨e,f0,f1,f2,d⟩
def Inv.unpinned (I:Inv X (pins++pl) σ H s):Inv X pins σ H s:=I.pins_of λp hp=>I.pin p (aM _ (bb _ hp))
def DF (hp:lh (model X.prog X.w) X.A X.env X.xe) (hc:X.calm = true) (hi:PI X tg iter wi) (hg:PG X tg g) (hb:PSs X body tb)
 (hs:∀ x,foldedSetIterable iter X.env x = pure x:=by intro _;rfl):PS X (.For tg iter body [] pos) (OX wi g tb):=by
 intro pins s σ H D I h;refine wpAny_For (thn (hi pins s σ H _ I h) λv s1 h1=>thn h1 λitv s2 h2=>?_) hs;obtain ⟨it,fp,tn,J,H2,e,I2,T,st2,f2,W,⟨m0,w0⟩,turn⟩:=h2;subst e
 -- what stays true of the iterator's objects through the loop
 have stat:∀ {H':Hp},(∀ b∈fp,H' b = none)->∀ b∈fp,kf X pins H' b:=λhn b hb=>⟨hn b hb,(f2 b hb).2⟩;refine codeAny_forLoop_any (λn s'=>∃ i σ' H',Inv X pins σ' H' s'/\tn i s'.heap/\(∀ b∈fp,H' b = none)/\W i n σ' H') ?_ m0 ⟨0,σ,H2,I2,st2,λb hb=>(f2 b hb).1,w0⟩;rintro n s3 ⟨i,σ3,H3,I3,st3,fr3,w3⟩;rcases turn i n σ3 H3 w3 with ⟨stop,qn⟩ | ⟨go,N,hN,step⟩
 . refine fg hp (thn (T.done X rfl rfl rfl hc i pins s3 σ3 H3 X.xe I3 (stat fr3) st3 stop) λr s4 ⟨hr,I4⟩=>?_);subst hr;exact jd ⟨σ3,H3,I4,qn⟩
 . refine fg hp (thn (T.item X rfl rfl rfl hc i pins s3 σ3 H3 X.xe I3 (stat fr3) st3 go) λr s4 ⟨u,hr,h4⟩=>?_);subst hr;refine fg hp (thn h4 λ_ s5 ⟨x,H5,I5,r5,y5,st5,fr5⟩=>?_);have I5':=I5.pinned (stat fr5) (T.obj _ _ st5);refine fg hp (thn (hg _ s5 σ3 H5 x u _ I5' r5 (step x H5 y5)) λ_ s6 ⟨σ6,H6,I6,q6⟩=>?_);refine fg hp (thn (hb _ s6 σ6 H6 _ I6 q6) λf s7 q7=>?_)
   have again:∀ {σ7:St} {H7:Hp},Inv X (pins++pS fp s5.heap) σ7 H7 s7->N σ7 H7->∃ m,m < n/\∃ i σ' H',Inv X pins σ' H' s7/\tn i s7.heap/\(∀ b∈fp,H' b = none)/\W i m σ' H':=λ{σ7 H7} I7 n7=>by
    obtain ⟨m',hm,w7⟩:=hN σ7 H7 n7;refine ⟨m',hm,i+1,σ7,H7,I7.unpinned,T.keep _ _ _ st5 λb hb o e=>(I7.pin (b,o) (aM _ (aM _ (jF hb e)))).1,λb hb=>?_,w7⟩;obtain ⟨o,e,d⟩:=T.obj _ _ st5 b hb;exact (I7.pin (b,o) (aM _ (aM _ (jF hb e)))).2.1
   cases f with
   | next=>obtain ⟨σ7,H7,I7,n7⟩:=q7;exact again I7 n7
   | cont=>obtain ⟨σ7,H7,I7,n7⟩:=q7;exact again I7 n7
   | brk=>obtain ⟨σ7,H7,I7,q7⟩:=q7;exact ⟨σ7,H7,I7.unpinned,q7⟩
   | ret v=>obtain ⟨x7,σ7,H7,I7,r7,q7⟩:=q7;exact ⟨x7,σ7,H7,I7.unpinned,r7,q7⟩
end
end L2
namespace L2
open PySem PySem.Spec PyProof.Rows
abbrev R2:=V->V->Hp->VK->Prop
def OpR (X:Cx) (f:ag->ag->Sem ag) (r:R2):Prop :=
 ∀ (pins:List (au × Obj)) (s:aj) (σ:St) (H:Hp) (x y:V) (v u:ag) (Q:VK),Inv X pins σ H s->RelV x v->RelV y u->r x y H Q ->
  wpAny (model X.prog X.w) X.A (f v u) (EP X pins σ Q) X.xe s
def UnR (X:Cx) (f:ag->Sem ag) (r:V->Hp->VK->Prop):Prop :=
 ∀ (pins:List (au × Obj)) (s:aj) (σ:St) (H:Hp) (x:V) (v:ag) (Q:VK),Inv X pins σ H s->RelV x v->r x H Q ->
  wpAny (model X.prog X.w) X.A (f v) (EP X pins σ Q) X.xe s
def bU (X:Cx) (f:ag) (r:List V->Hp->VK->Prop):Prop :=
 ∀ (pins:List (au × Obj)) (s:aj) (σ:St) (H:Hp) (xs:List V) (us:List ag) (Q:VK),Inv X pins σ H s->Vals xs us->r xs H Q ->
  wpAny (model X.prog X.w) X.A (call f us) (EP X pins σ Q) X.xe s
def Py (X:Cx) (r:V->Hp->(Bool->Hp->Prop)->Prop):Prop :=
 ∀ (pins:List (au × Obj)) (s:aj) (σ:St) (H:Hp) (x:V) (v:ag) (Q:Bool->Hp->Prop),Inv X pins σ H s->RelV x v->r x H Q ->
  wpAny (model X.prog X.w) X.A (truthy v) (TP X pins σ Q) X.xe s
def tOp (r:R2) (ta tb:TE):TE:=λσ H Q=>ta σ H λx H1=>tb σ H1 λy H2=>r x y H2 Q
def tUn (r:V->Hp->VK->Prop) (ta:TE):TE:=λσ H Q=>ta σ H λx H1=>r x H1 Q
def rI (C:Int->Int->Prop) (g:Int->Int->V):R2:=λx y H Q=>∃ i j,x = .int i/\y = .int j/\C i j/\Q (g i j) H
def rI0 (g:Int->Int->V):R2:=λx y H Q=>∃ i j,x = .int i/\y = .int j/\Q (g i j) H
def rU (g:Int->V):V->Hp->VK->Prop:=λx H Q=>∃ i,x = .int i/\Q (g i) H
section
variable {X:Cx} {a b c:aI} {ta tb tc:TE} {pos:Pos}
def ML (ha:PE X a ta) (hb:PE X b tb) {pins:List (au × Obj)} {s:aj} {σ:St} {H:Hp} {R:V->V->Hp->Prop} (I:Inv X pins σ H s)
 (h:ta σ H λx H1=>tb σ H1 λy H2=>R x y H2) {Q:ag->aj->Prop} {f:ag->ag->Sem ag}
 (hf:∀ v u s2 x y H2,Inv X pins σ H2 s2->RelV x v->RelV y u->R x y H2->wpAny (model X.prog X.w) X.A (f v u) Q X.xe s2) :
 wpAny (model X.prog X.w) X.A (eval a X.env) (λv s₁=>wpAny (model X.prog X.w) X.A (eval b X.env) (λu s₂=>wpAny (model X.prog X.w) X.A (f v u) Q X.xe s₂) X.xe s₁) X.xe s:=by
 refine thn (ha pins s σ H _ I h) λv s1 zz=>?_;obtain ⟨x,H1,I1,r1,q1⟩:=zz;refine thn (hb pins s1 σ H1 _ I1 q1) λu s2 zz=>?_;obtain ⟨y,H2,I2,r2,q2⟩:=zz;exact hf v u s2 x y H2 I2 r1 r2 q2
def rq {op:iE} {r:R2} (ho:OpR X (binaryOp op) r) (ha:PE X a ta) (hb:PE X b tb):PE X (.BinOp a op b pos) (tOp r ta tb):=by
 intro pins s σ H Q I h;exact wpAny_BinOp (ML ha hb I h λv u s2 x y H2 I2 rx ry q=>ho pins s2 σ H2 x y v u Q I2 rx ry q)
def Oa (ho:UnR X (unaryOp op) r) (ha:PE X a ta):PE X (.UnaryOp op a pos) (tUn r ta):=by
 intro pins s σ H Q I h;exact UnaryOp_ (thn (ha pins s σ H _ I h) λv s1 ⟨x,H1,I1,r1,q1⟩=>ho pins s1 σ H1 x v Q I1 r1 q1)
def opI {f:ag->ag->Sem ag} {C:Int->Int->Prop} {g:Int->Int->Int}
 (rule:∀ (i j:Int) (t u:Tok) (s:aj) (Q:ag->aj->Prop) (E:ag->aj->Prop),C i j->Q (.int (g i j) s.toks) { s with toks:=s.toks+1 }->wpAny (model X.prog X.w) X.A (f (.int i t) (.int j u)) Q E s) :
 OpR X f (rI C λi j=>.int (g i j)):=by
 intro pins s σ H x y v u Q I rx ry h;obtain ⟨i,j,rfl,rfl,hc,q⟩:=h;obtain ⟨t,rfl⟩:=rx;obtain ⟨t',rfl⟩:=ry;exact rule i j t t' s _ _ hc ⟨.int (g i j),H,I.tok _,⟨_,rfl⟩,q⟩
def Oh {f:ag->ag->Sem ag} {g:Int->Int->Int}
 (rule:∀ (i j:Int) (t u:Tok) (s:aj) (Q:ag->aj->Prop) (E:ag->aj->Prop),Q (.int (g i j) s.toks) { s with toks:=s.toks+1 }->wpAny (model X.prog X.w) X.A (f (.int i t) (.int j u)) Q E s) :
 OpR X f (rI0 λi j=>.int (g i j)):=by
 intro pins s σ H x y v u Q I rx ry h;obtain ⟨i,j,rfl,rfl,q⟩:=h;obtain ⟨t,rfl⟩:=rx;obtain ⟨t',rfl⟩:=ry;exact rule i j t t' s _ _ ⟨.int (g i j),H,I.tok _,⟨_,rfl⟩,q⟩
def Oi {f:ag->ag->Sem ag} {g:Int->Int->Bool}
 (rule:∀ (i j:Int) (t u:Tok) (s:aj) (Q:ag->aj->Prop) (E:ag->aj->Prop),Q (.bool (g i j)) s->wpAny (model X.prog X.w) X.A (f (.int i t) (.int j u)) Q E s) :
 OpR X f (rI0 λi j=>.bl (g i j)):=by
 intro pins s σ H x y v u Q I rx ry h;obtain ⟨i,j,rfl,rfl,q⟩:=h;obtain ⟨t,rfl⟩:=rx;obtain ⟨t',rfl⟩:=ry;exact rule i j t t' s _ _ ⟨.bl (g i j),H,I,rfl,q⟩
def PB (i j:Int):Prop:=0<=j/\j<=1000000/\i.natAbs < 2 ^ 64
def Ly:OpR X (binaryOp .Add) (rI0 λi j=>.int (i+j)):=Oh λ_ _ _ _ _ _ _ q=>add_int q
def Ln:OpR X (binaryOp .Sub) (rI0 λi j=>.int (i - j)):=Oh λ_ _ _ _ _ _ _ q=>sub_int q
def Lq:OpR X (binaryOp .Mod) (rI (λ_ j=>0 < j) λi j=>.int (i % j)):=opI λi j _ _ _ _ _ hc q=>by
 have h1:(0:Int) < j:=hc;exact mod_int' ∅ (by rw [Int.fmod_eq_emod_of_nonneg i ∅];exact q)
def Lo:OpR X (binaryOp .Pow) (rI PB λi j=>.int (i ^ j.toNat)):=opI λ_ _ _ _ _ _ _ hc q=>pow_int_small hc.1 hc.2.1 hc.2.2 q
def unI {f:ag->Sem ag} {g:Int->Int}
 (rule:∀ (i:Int) (t:Tok) (s:aj) (Q:ag->aj->Prop) (E:ag->aj->Prop),Q (.int (g i) s.toks) { s with toks:=s.toks+1 }->wpAny (model X.prog X.w) X.A (f (.int i t)) Q E s) :
 UnR X f (rU λi=>.int (g i)):=by
 intro pins s σ H x v Q I rx h;obtain ⟨i,rfl,q⟩:=h;obtain ⟨t,rfl⟩:=rx;exact rule i t s _ _ ⟨.int (g i),H,I.tok _,⟨_,rfl⟩,q⟩
def Ki:UnR X (unaryOp .USub) (rU λi=>.int (-i)):=unI λ_ _ _ _ _ q=>neg_int q
end
def Pe:V->V->Bool
 | .non,.non=>true | .non,.int _=>true | .int _,.non=>true | .non,.bl _=>true | .bl _,.non=>true | .non,.str _=>true | .str _,.non=>true
 | .int _,.int _=>true | .bl _,.bl _=>true | .str _,.str _=>true
 | .int _,.str _=>true | .str _,.int _=>true | .bl _,.str _=>true | .str _,.bl _=>true
 | _,_=>false
def rEq:R2:=λx y H Q=>Pe x y = true/\Q (.bl (decide (x = y))) H
def IE:decide (V.int i = V.int j) = (i == j):=by
 rw [cL];simp
def Mp:decide (V.bl i = V.bl j) = (i == j):=by
 rw [cL];simp
def ID:decide (V.str i = V.str j) = (i == j):=by
 rw [cL];simp
section
variable {X:Cx} {a b c:aI} {ta tb tc:TE} {pos:Pos}
def eX (I:Inv X pins σ H s) (q:Q (.bl k) H) (e:k = k'):EP X pins σ Q (.bool k') s:=by
 subst e;exact ⟨.bl k,H,I,rfl,q⟩
def Og:OpR X (compareOp .Eq) rEq:=by
 intro pins s σ H x y v u Q I rx ry h;obtain ⟨hs,q⟩:=h
 cases x with
 | non =>
   cases rx
   cases y with
   | non=>cases ry;exact PySem.EqNone.eq_none_none (eX I q ↥0)
   | bl j=>cases ry;exact PySem.EqNone.eq_none_bool (eX I q ↥0)
   | int j=>obtain ⟨t',rfl⟩:=ry;exact PySem.EqNone.eq_none_int (eX I q ↥0)
   | str j=>obtain ⟨t',rfl⟩:=ry;exact PySem.EqNone.eq_none_str (eX I q ↥0)
   | _=>exact absurd (show false = true from hs) ak
 | bl i =>
   cases rx
   cases y with
   | non=>cases ry;exact PySem.EqNone.eq_bool_none (eX I q ↥0)
   | bl j=>cases ry;exact eq_bool (eX I q Mp)
   | str j=>obtain ⟨t',rfl⟩:=ry;exact PySem.EqMixed.eq_bool_str (eX I q ↥0)
   | _=>exact absurd (show false = true from hs) ak
 | int i =>
   obtain ⟨t,rfl⟩:=rx
   cases y with
   | non=>cases ry;exact PySem.EqNone.eq_int_none (eX I q ↥0)
   | int j=>obtain ⟨t',rfl⟩:=ry;exact eq_int (eX I q IE)
   | str j=>obtain ⟨t',rfl⟩:=ry;exact PySem.EqMixed.eq_int_str (eX I q ↥0)
   | _=>exact absurd (show false = true from hs) ak
 | str i =>
   obtain ⟨t,rfl⟩:=rx
   cases y with
   | non=>cases ry;exact PySem.EqNone.eq_str_none (eX I q ↥0)
   | bl j=>cases ry;exact PySem.EqMixed.eq_str_bool (eX I q ↥0)
   | int j=>obtain ⟨t',rfl⟩:=ry;exact PySem.EqMixed.eq_str_int (eX I q ↥0)
   | str j=>obtain ⟨t',rfl⟩:=ry;exact eq_str (eX I q ID)
   | _=>exact absurd (show false = true from hs) ak
 | _=>cases y<;>exact absurd (show false = true from hs) ak
def Oe:OpR X (compareOp .LtE) (rI0 λi j=>.bl (decide (i<=j))):=Oi λ_ _ _ _ _ _ _ q=>le_int q
def Of:OpR X (compareOp .Gt) (rI0 λi j=>.bl (decide (j < i))):=Oi λ_ _ _ _ _ _ _ q=>gt_int q
def AI:OpR X (compareOp .In) (λx y H Q=>∃ i j,x = .str i/\y = .str j/\Q (.bl (!(pf j i 0 j.length 1).isEmpty)) H):=by
 intro pins s σ H x y v u Q I rx ry h;obtain ⟨i,j,rfl,rfl,q⟩:=h;obtain ⟨t,rfl⟩:=rx;obtain ⟨t',rfl⟩:=ry;exact in_str (eX I q rfl)
def Lu:OpR X (compareOp .Is) (λx y H Q=>y = .non/\Q (.bl (decide (x = .non))) H):=by
 intro pins s σ H x y v u Q I rx ry h;obtain ⟨rfl,q⟩:=h;cases ry;refine is_none_gen (eX I q ?_)
 cases x<;>first
  | (cases rx;rfl)
  | (obtain ⟨t,rfl⟩:=rx;rfl)
def HL:OpR X (compareOp .IsNot) (λx y H Q=>y = .non/\Q (.bl (!decide (x = .non))) H):=by
 intro pins s σ H x y v u Q I rx ry h;obtain ⟨rfl,q⟩:=h;cases ry;refine isnot_none_gen (eX I q ?_)
 cases x<;>first
  | (cases rx;rfl)
  | (obtain ⟨t,rfl⟩:=rx;rfl)
def OpR.or {f:ag->ag->Sem ag} {r r':R2} (h:OpR X f r) (h':OpR X f r'):OpR X f (λx y H Q=>r x y H Q\/r' x y H Q):=by
 intro pins s σ H x y v u Q I rx ry q;rcases q with q | q
 . exact h pins s σ H x y v u Q I rx ry q
 . exact h' pins s σ H x y v u Q I rx ry q
def HI {op:CmpOp} {r:R2} (ho:OpR X (compareOp op) r) (ha:PE X a ta) (hb:PE X b tb) (hm:behindInMarks op b = false):PE X (.Compare a [op] [b] pos) (tOp r ta tb):=by
 intro pins s σ H Q I h;exact wpAny_Compare1 (ML ha hb I h λv u s2 x y H2 I2 rx ry q=>ho pins s2 σ H2 x y v u Q I2 rx ry q) hm
def Ny (t:TE):TT:=λσ H Q=>t σ H λx H'=>∃ k,x = .bl k/\Q k H'
def Hy (ho:OpR X (compareOp op) r) (ha:PE X a ta) (hb:PE X b tb) (hm:behindInMarks op b = false):PT X (.Compare a [op] [b] pos) (Ny (tOp r ta tb)):=by
 intro pins s σ H Q I h
 refine wpAny_isTrue_Compare1 (thn (ha pins s σ H _ I h) λv s1 ⟨x,H1,I1,r1,q1⟩=>thn (hb pins s1 σ H1 _ I1 q1) λu s2 ⟨y,H2,I2,r2,q2⟩ =>
  thn (ho pins s2 σ H2 x y v u _ I2 r1 r2 q2) λc s3 ⟨z,H3,I3,r3,k,e,q3⟩=>?_) hm
 subst e;cases r3;exact cM ⟨H3,I3,q3⟩
def MR (K:PySem.W.Frag) (x:V) (H:Hp) (k:Bool):Prop :=
 match x with
 | .non=>k = false
 | .bl b=>k = b
 | .int i=>k = (i != 0)
 | .str y=>y.length<=sizeLine/\k = ((y.length:Int) != 0)
 | .ref p=>(∃ xs,SqL K H p xs/\k = !xs.isEmpty)\/(∃ xs,SqT K H p xs/\k = !xs.isEmpty)\/∃ kvs,H p = some (.dK kvs)/\k = !kvs.isEmpty
 | _=>False
def xQ {κ:Type} {kvs:List (κ × V)} {vs:List (κ × ag)} (r:KV kvs vs):(!vs.isEmpty) = !kvs.isEmpty:=by
 cases r<;>rfl
def qf {xs:List V} {its:List ag} (r:Vals xs its):(!its.toArray.isEmpty) = !xs.isEmpty:=by
 cases r<;>simp
def lI:(sizeLine:Nat) < 2 ^ 63:=by rw [eU];decide
def Kj:Py X (λx H Q=>∃ k,MR X.K x H k/\Q k H):=by
 intro pins s σ H x v Q I rx h;obtain ⟨k,e,q⟩:=h;have hl:=lI;have hs:sizeLine = 16777216:=eU
 cases x with
 | non =>
   cases rx;have e':k = false:=e;subst e'
   exact truthy_none ⟨H,I,q⟩
 | bl b =>
   cases rx;have e':k = b:=e;subst e'
   exact cM ⟨H,I,q⟩
 | int i =>
   obtain ⟨t,rfl⟩:=rx;have e':k = (i != 0):=e;subst e'
   exact PySem.P.truthy_int ⟨H,I,q⟩
 | str y =>
   obtain ⟨t,rfl⟩:=rx;obtain ⟨hy,e'⟩:y.length<=sizeLine/\k = ((y.length:Int) != 0):=e;subst e'
   exact PySem.P.truthy_str ∅ ⟨H,I.tok _,q⟩
 | ref p =>
   cases rx;have e':(∃ xs,SqL X.K H p xs/\k = !xs.isEmpty)\/(∃ xs,SqT X.K H p xs/\k = !xs.isEmpty)\/∃ kvs,H p = some (.dK kvs)/\k = !kvs.isEmpty:=e;rcases e' with ⟨xs,hx,e'⟩ | ⟨xs,hx,e'⟩ | ⟨kvs,hx,e'⟩
   . subst e';obtain ⟨its,r,pl,hz⟩:=I.list hx;have hlen:=r.length;exact wpAny_truthy_list pl.isList (by simp only [aF];lia) ⟨H,I.tok _,by rw [qf r];exact q⟩
   . subst e';obtain ⟨its,r,pl,hz⟩:=I.tuple hx;have hlen:=r.length;exact truthy_tuple pl (by simp only [aF];lia) ⟨H,I.tok _,by rw [qf r];exact q⟩
   . subst e';obtain ⟨hz,hS,vs,r,m⟩:kvs.length<=sizeLine/\(p == sysModules) = false/\∃ vs,KV kvs vs/\s.heap.DictOf (dh X.prog X.w) p vs:=I.hok p _ hx;have hlen:kvs.length = vs.length:=Paired.length r
     exact wpAny_truthy_dict hS m ∅ ⟨H,I.tok _,by rw [xQ r];exact q⟩
 | _=>exact (show False from e).elim
def pO (ha:PE X a ta) (he:∀ whole,isTrue a X.env whole = (do let v <- whole;standAt a.pos;holding [v] (truthy v))) :
 PT X a (λσ H Q=>ta σ H λx H'=>∃ k,MR X.K x H' k/\Q k H'):=by
 intro pins s σ H Q I h;exact isTrue_plain (thn (ha pins s σ H _ I h) λv s1 ⟨x,H1,I1,r1,q1⟩=>Kj pins s1 σ H1 x v Q I1 r1 q1) (he _)
def xG:OpR X (binaryOp .Add) (λx y H Q=>∃ i j,x = .str i/\y = .str j/\i.length+j.length<=sizeLine/\Q (.str (i++j)) H):=by
 intro pins s σ H x y v u Q I rx ry h;obtain ⟨i,j,rfl,rfl,hz,q⟩:=h;obtain ⟨t,rfl⟩:=rx;obtain ⟨t',rfl⟩:=ry;exact add_str (λt' tk=>⟨.str (i++j),H,I.tok _,⟨_,rfl⟩,q⟩) hz
def vals1 (r:Vals [x] us):∃ u,us = [u]/\RelV x u:=by
 cases r with
 | cons r1 r2=>cases r2;exact ⟨_,rfl,r1⟩
def vals2 (r:Vals [x,y] us):∃ u w',us = [u,w']/\RelV x u/\RelV y w':=by
 cases r with
 | cons r1 r2 =>
   cases r2 with
   | cons r3 r4=>cases r4;exact ⟨_,_,rfl,r1,r3⟩
def Bk (hc:X.calm = true):bU X (.builtin "max") (λxs H Q=>∃ i j,xs = [.int i,.int j]/\Q (.int (if j > i then j else i)) H):=by
 intro pins s σ H xs us Q I r h;obtain ⟨i,j,rfl,q⟩:=h;obtain ⟨u,w',rfl,⟨t,rfl⟩,⟨t',rfl⟩⟩:=vals2 r;refine max_two_ints (I.ok.hd hc) λh' tk k=>⟨_,H,I.kept k,?_,q⟩;by_cases hj:j > i
 . rw [if_pos hj,if_pos hj];exact ⟨_,rfl⟩
 . rw [if_neg hj,if_neg hj];exact ⟨_,rfl⟩
def Bi (hc:X.calm = true):bU X (.builtin "min") (λxs H Q=>∃ i j,xs = [.int i,.int j]/\Q (.int (if j < i then j else i)) H):=by
 intro pins s σ H xs us Q I r h;obtain ⟨i,j,rfl,q⟩:=h;obtain ⟨u,w',rfl,⟨t,rfl⟩,⟨t',rfl⟩⟩:=vals2 r;refine min_two_ints (I.ok.hd hc) λh' tk k=>⟨_,H,I.kept k,?_,q⟩;by_cases hj:j < i
 . rw [if_pos hj,if_pos hj];exact ⟨_,rfl⟩
 . rw [if_neg hj,if_neg hj];exact ⟨_,rfl⟩
def Bm:bU X (.type "int") (λxs H Q=>(∃ i,xs = [.int i]/\Q (.int i) H)\/∃ k,xs = [.bl k]/\Q (.int (if k then 1 else 0)) H):=by
 intro pins s σ H xs us Q I r h;rcases h with ⟨i,rfl,q⟩ | ⟨k,rfl,q⟩
 . obtain ⟨u,rfl,t,rfl⟩:=vals1 r;exact call_int_int ⟨.int i,H,I,⟨_,rfl⟩,q⟩
 . obtain ⟨u,rfl,r1⟩:=vals1 r;cases r1;exact call_int_bool ⟨.int (if k then 1 else 0),H,I.tok _,⟨_,rfl⟩,q⟩
end
end L2
namespace L2
open PySem PySem.Spec PyProof.Rows
structure PC (h:bH) (x dx C:au) (mA:Str->Option ag):Prop where
 obj:h.get? x = some (PySem.W.instObj C dx)
 ns:h.Ns1 dx mA
 ne:dx≠x
section
variable {prog:aR} {w:bB} {A:bo} {E:ag->aj->Prop} {s:aj} {K:PySem.W.Frag} {x dx C f:au} {mA:Str->Option ag} {name:Str} {v:ag}
end
def RelO.some_of (r:RelO (some v) o):∃ u,o = some u/\RelV v u:=by
 cases o with
 | none=>exact (show False from r).elim
 | some u=>exact ⟨u,rfl,r⟩
def RelO.none_of (r:RelO none o):o = none:=by
 cases o with
 | none=>rfl
 | some u=>exact (show False from r).elim
section
variable {P:aR} {w:bB} {H H':Hp} {h h':bH} {a C dx:au} {fs fs':List (Str × V)}
end
structure Cls (K:PySem.W.Frag) (C:au):Prop where
 pg:PySem.W.plainGet K C Str.empty = true
 hd:PySem.W.hasDictIn K C = true
 po:PySem.W.plainOver K C = true
 sa:PySem.W.findIn K (.ref C) "__setattr__" = some (some (.builtin "object.__setattr__"))
structure Con (K:PySem.W.Frag) (C:au) (f:Str) (v:V) (u:ag):Prop where
 at_:PySem.W.findIn K (.ref C) f = some (some u)
 rel:RelV v u
 get:PySem.W.specialIn K u "__get__" = some none
 cp:PySem.W.copiedNames.contains f = false
structure Meth (K:PySem.W.Frag) (C:au) (m:Str) (f:au):Prop where
 at_:PySem.W.findIn K (.ref C) m = some (some (.ref f))
 fn:PySem.W.isFn K (.ref f) = true
 kp:PySem.W.keepIn K (.ref f) = true
section
variable {X:Cx} {pins:List (au × Obj)} {σ:St} {H:Hp} {s:aj} {a C dx:au} {fs:List (Str × V)} {f:Str} {v:V} {A:bo} {E:ag->aj->Prop}
end
section
variable {X:Cx} {o e value:aI} {f:Str} {pos pos' tpos:Pos} {ta tv:TE}
end
section
variable {X:Cx} {pins:List (au × Obj)} {σ:St} {H:Hp} {s:aj} {A:bo} {E:ag->aj->Prop} {Q:ag->aj->Prop} {c:ag} {b:Bool}
inductive uB (K:PySem.W.Frag) (H:Hp):V->ag->Prop where
 | non:uB K H .non (.type "NoneType")
 | bl (x:Bool):uB K H (.bl x) (.type "bool")
 | int (i:Int):uB K H (.int i) (.type "int")
 | str (x:Str):uB K H (.str x) (.type "str")
 | lst {a:au} {xs:List V} (e:H a = some (.lst xs)):uB K H (.ref a) (.type "list")
 | frz {a:au} {o:Obj} {xs:List V} (e:H a = some (.frz o (.lst xs))):uB K H (.ref a) (.type "list")
 | tup {a:au} {xs:List V} (e:H a = some (.tup xs)):uB K H (.ref a) (.type "tuple")
 | dK {a:au} {kvs:List (Key × V)} (e:H a = some (.dK kvs)):uB K H (.ref a) (.type "dict")
 | dT {a:au} {kvs:List (List Key × V)} (e:H a = some (.dT kvs)):uB K H (.ref a) (.type "dict")
end
end L2
namespace L2
open PySem PySem.Spec PyProof.Rows
structure ke (k:Nat) (A:bo):Prop where
 hd:A.handled = none
 dp:A.depth+3 * k+5 < recursionLimit
 un:A.units+16 * k+200 < cLine
def ke.deeper {k:Nat} {A:bo} (r:ke (k+1) A) (env:Env):ke k (A.deeper env) :=
 ⟨r.hd,by have:=r.dp;show A.depth+1+3 * k+5 < _;lia,by have:=r.un;show A.units+3+16 * k+200 < _;lia⟩
def ke.depth {k:Nat} {A:bo} (r:ke k A):A.depth < recursionLimit:=by have:=r.dp;lia
def CH:TA:=λ_ H Q=>Q [] H
def nD (ta:TE) (tr:TA):TA:=λσ H Q=>ta σ H λx H1=>tr σ H1 λxs H2=>Q (x::xs) H2
section
variable {X:Cx} {e:aI} {es:List aI} {te:TE} {t:TA} {pos:Pos}
def jC:PA X [] CH:=λ_ _ _ _ H Q I h=>nA ⟨[],H,I,.nil,h⟩
def fb (ha:PE X e te) (hr:PA X es t) (hs:starEach (e::es) X.env = (false,eval e X.env)::starEach es X.env:=by rfl):PA X (e::es) (nD te t):=by
 intro pos pins s σ H Q I h;rw [hs];show wpAny _ _ (spliced ((false,eval e X.env)::backTo pos (starEach es X.env))) _ _ s;refine fM (thn (ha pins s σ H _ I h) λu s1 ⟨x,H1,I1,r1,q1⟩=>?_);exact thn (hr pos pins s1 σ H1 _ I1 q1) λus s2 ⟨xs,H2,I2,r2,q2⟩=>⟨x::xs,H2,I2,.cons r1 r2,q2⟩
def OQ (t:TA):TE:=λσ H Q=>t σ H λxs H1=>xs.length<=sizeLine/\∀ p,H1 p = none->Q (.ref p) (upd H1 p (.tup xs))
def OV (t:TA):TE:=λσ H Q=>t σ H λxs H1=>xs.length<=sizeLine/\∀ p,H1 p = none->Q (.ref p) (upd H1 p (.lst xs))
def xE (h:PA X es t):PE X (.Tuple es x1 pos) (OQ t):=by
 intro pins s σ H Q I hq;refine wpAny_Tuple_spliced (thn (h pos pins s σ H _ I hq) λus s1 ⟨xs,H1,I1,r,z,q⟩=>⟨by rw [<- r.length];exact z,?_⟩);have hf:H1 s1.heap.objs.size = none:=I1.hok.fresh (aA _);refine ⟨.ref s1.heap.objs.size,upd H1 s1.heap.objs.size (.tup xs),I1.laid (t':=s1.toks) (λb u e=>ao _ e) (aA _) ?_,rfl,q _ hf⟩;exact ⟨z,us,r,⟨_,aS _ rfl,rfl,_,rfl⟩⟩
def xF (h:PA X es t):PE X (.List es pos) (OV t):=by
 intro pins s σ H Q I hq;refine wpAny_List_spliced (thn (h pos pins s σ H _ I hq) λus s1 ⟨xs,H1,I1,r,z,q⟩=>⟨by rw [<- r.length];exact z,?_⟩);have hf:H1 s1.heap.objs.size = none:=I1.hok.fresh (aA _);refine ⟨.ref s1.heap.objs.size,upd H1 s1.heap.objs.size (.lst xs),I1.laid (t':=s1.toks) (λb u e=>ao _ e) (aA _) ?_,rfl,q _ hf⟩;exact ⟨z,us,0,r,aS _ rfl⟩
end
abbrev Sp:=List V->Hp->VK->XK->Prop
abbrev CXT:=List Env->Hp->aj->XK->ag->aj->Prop
structure IQ (P:aR) (w:bB) (K:PySem.W.Frag) (mg:Str->Option ag) (base:bH) (A:bo) (outer:List Env) (s:aj) (H:Hp):Prop where
 frames:A.frames = some outer
 mod:Mod K mg base
 bs:∀ b o,base.get? b = some o->s.heap.get? b = some o/\H b = none
 bsz:base.objs.size<=s.heap.objs.size
 funs:s.heap.FunFrames base outer
 frf:∀ b∈frs outer,H b = none
 hok:HOk P w H s.heap
 bare:km s.gens
def CE (outer:List Env) (P:aR) (w:bB) (H:Hp) (s:aj) (Q:VK) (u:ag) (s':aj):Prop :=
 ∃ v H',s'.os = s.os/\km s'.gens/\Un (frs outer) [] H H' s.heap s'.heap/\HOk P w H' s'.heap/\RelV v u/\Q v H'
def CR (CX:CXT) (outer:List Env) (P:aR) (w:bB) (H:Hp) (s:aj) (Q:VK) (E:XK) (r:Na) (s':aj):Prop :=
 match r with
 | .ok (.ret u)=>CE outer P w H s Q u s'
 | .ok _=>False
 | .error e=>CX outer H s E e s'
structure gh (P:aR) (w:bB) (K:PySem.W.Frag) (mg:Str->Option ag) (base:bH) (CX:CXT) (k:Nat) (f:au) (fd:dQ) (ps:List Str) (sp:Sp):Prop where
 len:∀ vs H Q E,sp vs H Q E->vs.length = ps.length
 run:∀ (A:bo) (outer:List Env) (s:aj) (H:Hp) (args:Args) (us:List ag) (vs:List V) (Q:VK) (E:XK),ke k A->IQ P w K mg base A outer s H->BindsTo s fd args (ps.zip us)->Vals vs us->sp vs H Q E ->
  codeAny (model P w) A (.call (.ref f) args) (CR CX outer P w H s Q E) s
section
variable {X:Cx} {pins:List (au × Obj)} {σ:St} {H:Hp} {s s':aj}
def Inv.env0 (I:Inv X pins σ H s):IQ X.prog X.w X.K X.mg X.base X.A X.stack s H :=
 ⟨I.ok.frames,I.ok.mod,I.bs,bx I.ok.bsz I.sz,I.stack,I.stkFree,I.hok,I.bare⟩
def Inv.after (I:Inv X pins σ H s) (h:CE X.stack X.prog X.w H s Q u s'):EP X pins σ Q u s':=by
 obtain ⟨v,H',os,bare,un,hok,r,q⟩:=h;obtain ⟨hh,g,d,t,os'⟩:=s';obtain rfl:os' = s.os:=os;exact ⟨v,H',I.call (h':=hh) (g':=g) (d':=d) (t':=t) (ch:=[]) un hok bare (λb z=>absurd z ↥0),r,q⟩
end
def NH (sp:Sp) (dvs:List V) (E:XK) (t:TA):TE:=λσ H Q=>t σ H λvs H1=>sp (vs++dvs) H1 Q E
def Binds (K:PySem.W.Frag) (fd:dQ) (ps:List Str) (ds:List ag):Prop :=
 ∀ (s:aj) (us:List ag),K.In s.heap->(us++ds).length = ps.length->BindsTo s fd ⟨us,[]⟩ (ps.zip (us++ds))
def Binds.all {K:PySem.W.Frag} {fd:dQ} {ps:List Str} (h:∀ us:List ag,us.length = ps.length->bindArgs fd ⟨us,[]⟩ = pure (ps.zip us)):Binds K fd ps []:=λs us _ hl=>by
 rw [cq] at hl |-;exact .of_eq (h us hl)
def Passes (CX:CXT) (X:Cx) (E:XK):Prop:=∀ (pins:List (au × Obj)) (σ:St) (H:Hp) (s:aj) (e:ag) (s':aj),Inv X pins σ H s->CX X.stack H s E e s'->X.xe e s'
section
variable {X:Cx} {CX:CXT} {k:Nat} {f C:au} {fd:dQ} {ps:List Str} {sp:Sp} {dvs:List V} {ds:List ag} {E:XK} {x m:Str} {p pos apos:Pos} {e o:aI} {es:List aI} {ta:TE} {t:TA}
def KG (F:gh X.prog X.w X.K X.mg X.base CX k f fd ps sp) (hr:ke k X.A) (hb:Binds X.K fd ps ds) (hd:Vals dvs ds) (hx:Passes CX X E)
 (I:Inv X pins σ H s) (r:Vals vs us) (h:sp (vs++dvs) H Q E):wpAny (model X.prog X.w) X.A (call (.ref f) us) (EP X pins σ Q) X.xe s:=by
 have r2:Vals (vs++dvs) (us++ds):=r.append hd;have hl:(us++ds).length = ps.length:=by rw [<- r2.length];exact F.len _ _ _ _ h
 refine wpAny_call (qO (F.run X.A X.stack s H ⟨us,[]⟩ (us++ds) (vs++dvs) Q E hr I.env0 (hb s us I.kIn hl) r2 h) λr s' hq=>?_)
 cases r with
 | error e=>exact hx pins σ H s e s' I hq
 | ok fl =>
   cases fl with
   | ret u=>exact I.after hq
   | next=>exact bX hq
   | brk=>exact bX hq
   | cont=>exact bX hq
def yQ (F:gh X.prog X.w X.K X.mg X.base CX k f fd ps sp) (hr:ke k X.A) (hg:Gl X x) (hm:X.mg x = some (.ref f)) (hk:PySem.W.keepIn X.K (.ref f) = true) (hb:Binds X.K fd ps ds) (hd:Vals dvs ds) (hx:Passes CX X E)
 (ha:PA X (e::es) t) (hdb:(x == ("__debug__":Str)) = false:=by decide) (he:starEach (e::es) X.env = (false,eval e X.env)::starEach es X.env:=by rfl) (hpl:(backTo pos (starEach es X.env)).any (·.1) = false:=by rfl) :
 PE X (.Call (.Name x p) (e::es) [] pos) (NH sp dvs E t):=by
 intro pins s σ H Q I h;refine jV (kN I hg hm ?_ hdb);refine PySem.W.callWith_K (h₀:=X.base) I.ok.mod.kin hk (thn (ha pos pins s σ H _ I h) λus s1 ⟨vs,H1,I1,r,q⟩=>⟨I1.kIn,?_⟩) he hpl;exact KG F hr hb hd hx I1 r q
structure Mk (K:PySem.W.Frag) (C f:au):Prop where
 makes:PySem.W.makesIn K C = true
 init:PySem.W.findIn K (.ref C) "__init__" = some (some (.ref f))
 fn:PySem.W.isFn K (.ref f) = true
 kp:PySem.W.keepIn K (.ref C) = true
end
section
variable {X:Cx} {CX:CXT} {k:Nat} {f C:au} {fd:dQ} {ps ks:List Str} {sp:Sp} {E:XK} {x m:Str} {p pos apos kpos:Pos} {e o:aI} {es:List aI} {kws:List fL} {te ta:TE} {t tk:TA} {nm:Option Str}
structure Pz (K:PySem.W.Frag) (fd:dQ) (ps ks:List Str) (g:List ag->List ag->List ag) (gV:List V->List V->List V):Prop where
 to:∀ (s:aj) (us ws:List ag),K.In s.heap->(g us ws).length = ps.length->BindsTo s fd ⟨us,ks.zip ws⟩ (ps.zip (g us ws))
 rel:∀ {vs:List V} {us:List ag} {zs:List V} {ws:List ag},Vals vs us->Vals zs ws->Vals (gV vs zs) (g us ws)
variable {g:List ag->List ag->List ag} {gV:List V->List V->List V}
end
structure kW (N P:List Str) (sc:fh):Prop where
 kind:sc.kind = .function
 co:sc.isCoroutine = false
 gen:sc.isGenerator = false
 nd:N.Nodup
 pre:N.take P.length = P
 par:∀ x∈P,sc.names.lookup x = some .local\/sc.names.lookup x = some .cell
 nofree:∀ y∈sc.names,y.2≠.free
def rW {kindOf:Str->Option jW} {x:Str}:∀ {binds:List (Str × ag)} {m:Str->Option ag},(∀ v,(x,v)∉binds)->bindL kindOf binds m x = m x
 | [],_,_=>rfl
 | (n,v)::r,m,h=>by
   unfold bindL;rw [rW λw hw=>h w (ai _ hw)];split
   . have:x≠n:=by rintro rfl;exact h v av
     simp [this]
   . rfl
def rY {kindOf:Str->Option jW} {x:Str}:∀ {binds:List (Str × ag)} {m:Str->Option ag},(∀ v,(x,v)∉binds)->bindC kindOf binds m x = m x
 | [],_,_=>rfl
 | (n,v)::r,m,h=>by
   unfold bindC;rw [rY λw hw=>h w (ai _ hw)];split
   . rfl
   . have:x≠n:=by rintro rfl;exact h v av
     simp [this]
def rX {kindOf:Str->Option jW} {x:Str} {v:ag}:∀ {P:List Str} {vs:List ag} {i:Nat} {m:Str->Option ag},P.Nodup->P[i]? = some x->vs[i]? = some v->kindOf x = some .local ->
 bindL kindOf (P.zip vs) m x = some v
 | [],_,_,_,_,h,_,_=>by simp at h
 | _::_,[],_,_,_,_,h,_=>by simp at h
 | p::P,w::vs,0,m,nd,h1,h2,hk=>by
   simp at h1 h2;subst h1;subst h2;show bindL kindOf ((p,w)::P.zip vs) m p = _;unfold bindL;rw [rW λv hv=>(da.mp nd).1 (qC hv).1,if_pos hk]
   simp
 | p::P,w::vs,i+1,m,nd,h1,h2,hk=>by
   show bindL kindOf ((p,w)::P.zip vs) m x = _;unfold bindL;exact rX (i:=i) (da.mp nd).2 (by simpa using h1) (by simpa using h2) hk
def rZ {kindOf:Str->Option jW} {x:Str} {v:ag}:∀ {P:List Str} {vs:List ag} {i:Nat} {m:Str->Option ag},P.Nodup->P[i]? = some x->vs[i]? = some v->kindOf x≠some .local ->
 bindC kindOf (P.zip vs) m x = some v
 | [],_,_,_,_,h,_,_=>by simp at h
 | _::_,[],_,_,_,_,h,_=>by simp at h
 | p::P,w::vs,0,m,nd,h1,h2,hk=>by
   simp at h1 h2;subst h1;subst h2;show bindC kindOf ((p,w)::P.zip vs) m p = _;unfold bindC;rw [rY λv hv=>(da.mp nd).1 (qC hv).1,if_neg hk]
   simp
 | p::P,w::vs,i+1,m,nd,h1,h2,hk=>by
   show bindC kindOf ((p,w)::P.zip vs) m x = _;unfold bindC;exact rZ (i:=i) (da.mp nd).2 (by simpa using h1) (by simpa using h2) hk
def start (N:List Str) (vs:List V):St:=vs.map some++aU (N.length - vs.length) none
def kD (CX:CXT) (P:aR) (w:bB) (K:PySem.W.Frag) (mg:Str->Option ag) (base:bH) (N:List Str) (qual:Str) (scope:fh) (f:au) (cd:ag) (A:bo) (outer:List Env) (s:aj) (H:Hp) (E:XK):Cx where
 prog:=P
 w:=w
 K:=K
 mg:=mg
 base:=base
 A:=A.deeper (envOfC qual scope s.heap.objs.size f cd)
 N:=N
 s₀:=s
 H₀:=H
 env:=envOfC qual scope s.heap.objs.size f cd
 outer:=outer
 stack:=envOfC qual scope s.heap.objs.size f cd::outer
 ex:=[]
 calm:=true
 fn:=λ_=>true
 pn:=[]
 xe:=λe s'=>wpAny (model P w) (A.deeper (envOfC qual scope s.heap.objs.size f cd)) (leaving (envOfC qual scope s.heap.objs.size f cd) e) (λ_ s''=>CX outer H s E e s'') (λe' s''=>CX outer H s E e' s'') s'
def wu {sc:fh} {n:Nat} {x:Str} (h:sc.names.lookup x = some .cell):∃ c,(cellsFrom n sc.names []).lookup x = some c:=by
 have q:=PySem.W.cellsFrom_some sc.names n [] (.inl h);exact je.mp q
def AV {CX:CXT} {P:aR} {w:bB} {K:PySem.W.Frag} {mg:Str->Option ag} {base:bH} {N ps:List Str} {qual:Str} {scope:fh} {f:au} {cd:ag} {A:bo} {outer:List Env} {s s1:aj} {H:Hp} {E:XK} {us:List ag} {vs:List V}
 (S:kW N ps scope) (hd:A.handled = none) (e0:IQ P w K mg base A outer s H) (hl:vs.length = ps.length) (r:Vals vs us)
 (x:InCallC s s.heap.objs.size (bindL (envOfC qual scope s.heap.objs.size f cd).kindOf (ps.zip us) λ_=>none) (cellsFrom (s.heap.objs.size+1) scope.names []) (bindC (envOfC qual scope s.heap.objs.size f cd).kindOf (ps.zip us) λ_=>none) s1) :
 Inv (kD CX P w K mg base N qual scope f cd A outer s H E) [] (start N vs) H s1:=by
 have hpl:ps.length<=N.length:=by have:=congrArg lz S.pre;rw [dk] at this;lia
 obtain ⟨h1,tk,rfl,hk⟩:=x.done;have noA:∀ b:au,b∉(kD CX P w K mg base N qual scope f cd A outer s H E).ex:=λb z=>absurd (show b∈([]:List au) from z) ↥0
 refine ⟨⟨e0.mod,S.kind,rfl,rfl,aA _,λy z c h1 h2=>?_,λy hy=>?_,λy c _ h=>?_,λ_=>hd,Around.frames_deeper e0.frames,.inr ⟨rfl,rfl⟩,λb z=>absurd z (noA b),e0.bs,e0.bsz,λb _ _=>noA b,λb z=>absurd z (noA b),e0.funs,e0.frf⟩,
  rfl,e0.bare,Un.kept hk,⟨_,x.toInCall.ns,λi y v h1 h2 h3=>?_⟩,λy c h=>⟨_,x.cell y c h⟩,e0.hok.fresh (aA _),λy c h=>?_,λp hp=>absurd (show p∈([]:List (au × Obj)) from hp) ↥0,e0.hok.kept hk,?_⟩
 . exact name_of_addr x.apart (PySem.mem_of_lookup h1) (PySem.mem_of_lookup h2)
 . have hy:scope.names.lookup y = some .cell\/scope.names.lookup y = some .free:=hy;rcases hy with hy | hy
   . exact wu hy
   . exact absurd rfl (S.nofree _ (PySem.mem_of_lookup hy))
 . exact iG (x.above y c (PySem.mem_of_lookup h))
 . have hi:i < vs.length:=by
    unfold start at h2;by_cases hi:i < vs.length
    . exact hi
    . rw [bD (by simpa using hi)] at h2;rw [fV] at h2;split at h2<;>cases h2
   have ha:vs[i]? = some v:=by
    unfold start at h2;rw [bI (by simpa using hi),bj] at h2
    cases e:vs[i]? with
    | none=>rw [e] at h2;cases h2
    | some a=>rw [e] at h2;cases h2;rfl
   obtain ⟨u,hu,rv⟩:=r.get ha
   have hp:ps[i]? = some y:=by
    rw [<- S.pre,dN ∅];exact h1
   have ndP:ps.Nodup:=by rw [<- S.pre];exact S.nd.sublist (List.take_sublist _ _)
   refine ⟨u,rv,?_⟩;rcases S.par y (cU hp) with k | k
   . exact .inl ⟨k,rX ndP hp hu k⟩
   . obtain ⟨c,e⟩:=wu (n:=s.heap.objs.size+1) k;refine .inr ⟨.inl k,c,e,?_⟩;have q:=x.cell y c e;rw [rZ ndP hp hu (by show scope.names.lookup y≠_;rw [k];decide)] at q;exact q
 . exact e0.hok.fresh (iG (x.above y c (PySem.mem_of_lookup h)))
 . unfold start;show _ = N.length;rw [ay,aw,gE]
   lia
def Jt {CX:CXT} {P:aR} {w:bB} {K:PySem.W.Frag} {mg:Str->Option ag} {base:bH} {k:Nat} {f:au} {name qual:Str} {params:uG} {body:List bw} {scope:fh} {dV kV doc pm cdv ct oc:ag} {an od:Option au}
 {osl:Array (Option ag)} {N ps:List Str} {sp:Sp} (lk:K.lookup f = some ⟨oc,od,.func (PySem.W.fnOf name qual params body scope dV kV doc pm an cdv ct),osl⟩) (hcd:PySem.W.codeIn K cdv qual = true) (S:kW N ps scope)
 (len:∀ vs H Q E,sp vs H Q E->vs.length = ps.length)
 (hbody:∀ (A:bo) (outer:List Env) (s:aj) (H:Hp) (vs:List V) (Q:VK) (E:XK),ke k (A.deeper (envOfC qual scope s.heap.objs.size f cdv))->sp vs H Q E ->
   ∃ t,PSs (kD CX P w K mg base N qual scope f cdv A outer s H E) body t/\t { nx:=λ_ H'=>Q .non H',rt:=Q } (start N vs) H) :
 gh P w K mg base CX (k+1) f (PySem.W.fnOf name qual params body scope dV kV doc pm an cdv ct) ps sp:=by
 refine ⟨len,λA outer s H args us vs Q E hr e0 hb r hsp=>?_⟩;have hl:=len _ _ _ _ hsp;have KX:K.In s.heap:=e0.mod.kin.keeps λb o e=>(e0.bs b o e).1;have lim:s.heap.NoLimit:=e0.mod.nolimit.keeps λb o e=>(e0.bs b o e).1
 have hkind:∀ y∈ps.zip us,scope.names.lookup y.1 = some .local\/(scope.names.lookup y.1 = some .cell/\((cellsFrom (s.heap.objs.size+1) scope.names []).lookup y.1).isSome = true):=λ⟨n,v⟩ hy=>by
  rcases S.par n (qC hy).1 with q | q
  . exact .inl q
  . exact .inr ⟨q,PySem.W.cellsFrom_some _ _ _ (.inl q)⟩
 refine codeAny_call_function hr.depth (KX _ _ lk) rfl S.co S.gen rfl (PySem.W.codeRec_of KX hcd) (hb _ _ _ _ ?_);refine wpAny_newFunctionEnv_cells S.kind hkind λenv he s1 x=>?_;subst he;refine ⟨lim.keeps x.toInCall.keep,codeAny_func ?_⟩;obtain ⟨t,ht,hq⟩:=hbody A outer s H vs Q E (hr.deeper _) hsp;have I:Inv (kD CX P w K mg base N qual scope f cdv A outer s H E) [] (start N vs) H s1:=AV S hr.hd e0 hl r x;refine cg (ht [] s1 (start N vs) H _ I hq) (λfl s' hs=>?_) λe s' hs=>hs
 have fin:∀ {σ':St} {H':Hp} {v:V} {u:ag},Inv (kD CX P w K mg base N qual scope f cdv A outer s H E) [] σ' H' s'->RelV v u->Q v H'->CE outer P w H s Q u s' :=
  λ{σ' H' v u} J rv q=>⟨v,H',J.os,J.bare,J.base,J.hok,rv,q⟩
 cases fl with
 | ret u =>
   obtain ⟨v,σ',H',J,rv,q⟩:=hs
   exact fin J rv q
 | next =>
   obtain ⟨σ',H',J,q⟩:=hs
   exact fin (v:=V.non) (u:=cZ) J rfl q
 | brk =>
   obtain ⟨_,_,_,q⟩:=hs
   exact bX q
 | cont =>
   obtain ⟨_,_,_,q⟩:=hs;exact bX q
end L2
namespace L2
open PySem PySem.Spec PyProof.Rows
section
variable {X:Cx} {x:Str} {p pos:Pos} {e:aI} {es:List aI} {t:TA} {id T:String} {r:List V->Hp->VK->Prop}
def tCB (r:List V->Hp->VK->Prop) (t:TA):TE:=λσ H Q=>t σ H λvs H1=>r vs H1 Q
def fq (hc:bU X (.builtin id) r) (hg:Gl X x) (hm:X.mg x = none) (hv:bootBuiltins x = some (.builtin id)) (ha:PA X (e::es) t) (hn:x≠"__name__":=by decide) (hdb:(x == ("__debug__":Str)) = false:=by decide)
 (he:starEach (e::es) X.env = (false,eval e X.env)::starEach es X.env:=by rfl) (hpl:(backTo pos (starEach es X.env)).any (·.1) = false:=by rfl):PE X (.Call (.Name x p) (e::es) [] pos) (tCB r t):=by
 intro pins s σ H Q I h;refine jV (qe I hg hm hv ?_ hn hdb);exact PyProof.Rows.callWith_builtin1 (thn (ha pos pins s σ H _ I h) λus s1 ⟨vs,H1,I1,r1,q1⟩=>hc pins s1 σ H1 vs us Q I1 r1 q1) he hpl
def kJ (hc:bU X (.type T) r) (hg:Gl X x) (hm:X.mg x = none) (hv:bootBuiltins x = some (.type T)) (ha:PA X (e::es) t) (hn:x≠"__name__":=by decide) (hdb:(x == ("__debug__":Str)) = false:=by decide)
 (he:starEach (e::es) X.env = (false,eval e X.env)::starEach es X.env:=by rfl) (hpl:(backTo pos (starEach es X.env)).any (·.1) = false:=by rfl):PE X (.Call (.Name x p) (e::es) [] pos) (tCB r t):=by
 intro pins s σ H Q I h;refine jV (qe I hg hm hv ?_ hn hdb);exact gy (thn (ha pos pins s σ H _ I h) λus s1 ⟨vs,H1,I1,r1,q1⟩=>hc pins s1 σ H1 vs us Q I1 r1 q1) he hpl
end
end L2
namespace HT
open PySem PyProof.Rows
section
open PySem.SeqAt
open PySem.AutoSeq1 (wpAny_loadPart')
open PySem.MeetsSeq PySem.MeetsSeq2 PySem.MeetsSeq3
end
section
variable {prog:aR} {w:bB} {A:bo} {E:ag->aj->Prop} {s:aj}
def cat_tup (ht:Ja s.heap t vs.toArray) (hb:Ja s.heap b ws.toArray) (hv:vs≠[])
 (h1:ws = []->Q (.ref t) s) (h2:ws≠[]->Q (.ref s.heap.objs.size) { s with heap:=s.heap.push { cls:=.type "tuple",data:=.seq (vs++ws).toArray } })
 (hsz:vs.length+ws.length<=sizeLine):wpAny (model prog w) A (binaryOp .Add (.ref t) (.ref b)) Q E s:=by
 obtain ⟨⟨cls,dd,data,sl⟩,ho,hc,n,hd⟩:=id ht;obtain ⟨⟨cls2,dd2,data2,sl2⟩,ho2,hc2,n2,hd2⟩:=id hb;simp only at hc hd hc2 hd2;subst hc hd hc2 hd2;have e:vs.toArray++ws.toArray = (vs++ws).toArray:=by simp
 by_cases hw:ws = []
 . exact FC ⟨_,ho,rfl⟩ ⟨_,ho2,rfl⟩ uC Bs PySem.F.slot_tuple_add PySem.F.entry_tuple_add (PySem.F.args_tuple_add_2 _ _)
    (tuple_addW1 t b vs.toArray ws.toArray n n2 dd dd2 sl sl2 (by simpa using hv) (by simp [hw])) ⟨ho,ho2,h1 hw⟩
 . refine FC ⟨_,ho,rfl⟩ ⟨_,ho2,rfl⟩ uC Bs PySem.F.slot_tuple_add PySem.F.entry_tuple_add (PySem.F.args_tuple_add_2 _ _)
    (tuple_addW2 t b vs.toArray ws.toArray n n2 dd dd2 sl sl2 (by simpa using hv) (by simpa using hw) (by rw [aF,aF];exact hsz)) ⟨ho,ho2,?_⟩
   rw [e];exact h2 hw
def sIx (n d:Nat):Option Int->Nat
 | none=>d
 | some v=>if v < 0 then (v+(n:Int)).toNat else min v.toNat n
def KD (n d:Nat) (hd:d<=n) (o:Option Int):sIx n d o<=n:=by
 cases o with
 | none=>exact hd
 | some v =>
   show (if v < 0 then (v+(n:Int)).toNat else min v.toNat n)<=n;by_cases hv:v < 0
   . rw [if_pos hv];lia
   . rw [if_neg hv];exact qz _ _
def zL (v:Int) (n d:Nat):(if v < 0 then max (v+(n:Int)) 0 else min v (n:Int)) = ((sIx n d (some v):Nat):Int):=by
 show (if v < 0 then max (v+(n:Int)) 0 else min v (n:Int)) = (((if v < 0 then (v+(n:Int)).toNat else min v.toNat n):Nat):Int);by_cases hv:v < 0
 . simp only [if_pos hv];lia
 . simp only [if_neg hv];lia
def yf (lo hi:Option Int) (n:Nat):gN lo hi 1 (n:Int) = (((sIx n 0 lo:Nat):Int),((sIx n n hi:Nat):Int)):=by
 have h1:¬ ((1:Int) < 0):=by lia
 unfold gN;simp only [h1,if_false];refine Prod.ext ?_ ?_
 . cases lo with
   | none=>rfl
   | some v=>exact zL v n 0
 . cases hi with
   | none=>rfl
   | some v=>exact zL v n n
def xD (i j:Nat):eS (i:Int) (j:Int) 1 = j - i:=by
 unfold eS;have h1:(1:Int) > 0:=by lia
 simp only [h1,if_true,Int.ediv_one];split<;>lia
def pK {v:ag} {o:Option Int} {Q:Option Int->aj->Prop} (p:qB v o) (h:Q o s):wpAny (model prog w) A (Builtin.Slice.slicePartIndex v) Q E s:=by
 cases p with
 | none=>exact slicePart_none h
 | int i t=>exact slicePart_int h
def mQ {sl:au} {vl vu:ag} {lo hi:Option Int} {n:Nat} {Q:Int × Int × Nat->aj->Prop} (hs:s.heap.IsSliceOf sl vl vu .none) (pl:qB vl lo) (pu:qB vu hi)
 (h:Q (((sIx n 0 lo:Nat):Int),1,sIx n n hi - sIx n 0 lo) s):wpAny (model prog w) A (mG (.ref sl) (pure (n:Int))) Q E s:=by
 obtain ⟨os,hos,hcs,hds⟩:=id hs;unfold mG Builtin.Slice.sliceFields;refine ah (ah (cG hos hds (x:=vl) rfl (ah (cG hos hds (x:=vu) rfl (ah (cG hos hds (x:=.none) rfl (aJ ?_)))))));refine ah (slicePart_none ?_);show wpAny _ _ (if ((1:Int) == 0) = true then _ else _) _ _ s;rw [if_neg ⇑0];refine ah (pK pl (ah (pK pu (ah (aJ ?_)))));show wpAny _ _ (match gN lo hi 1 (n:Int) with | (lo,hi)=>pure (lo,(1:Int),eS lo hi 1)) _ _ s;rw [yf lo hi n];show wpAny _ _ (pure (((sIx n 0 lo:Nat):Int),(1:Int),eS ((sIx n 0 lo:Nat):Int) ((sIx n n hi:Nat):Int) 1)) _ _ s;rw [xD];exact aJ h
def DH (xs:Array ag) (i k:Nat):((bK k).filterMap λ(m:Nat)=>xs[((i:Int)+(m:Int) * 1).toNat]?).toArray = ((xs.toList.drop i).take k).toArray:=by
 have e:(λ(m:Nat)=>xs[((i:Int)+(m:Int) * 1).toNat]?) = λm=>xs[i+m]? := by
  funext m
  have:((i:Int)+(m:Int) * 1).toNat = i+m:=by lia
  rw [this]
 rw [e];have:=pick_run xs i k;rw [List.filterMap_map] at this;have e2:((λx=>xs[x]?) ∘ λx=>i+x) = λm=>xs[i+m]? := rfl;rw [e2] at this;rw [this]
def getItem_tuple_cut {t sl:au} {items:Array ag} {vl vu:ag} {lo hi:Option Int} {Q:ag->aj->Prop} (ht:Ja s.heap t items) (hs:s.heap.IsSliceOf sl vl vu .none) (pl:qB vl lo) (pu:qB vu hi)
 (hw:¬ (sIx items.size 0 lo = 0/\sIx items.size items.size hi = items.size))
 (h:Q (.ref s.heap.objs.size) { s with heap:=s.heap.push { cls:=.type "tuple",data:=.seq ((items.toList.drop (sIx items.size 0 lo)).take (sIx items.size items.size hi - sIx items.size 0 lo)).toArray } })
 (hsz:items.size<=sizeLine):wpAny (model prog w) A (getItem (.ref t) (.ref sl)) Q E s:=by
 have htake:sizeOk (.seq ((items.toList.drop (sIx items.size 0 lo)).take (sIx items.size items.size hi - sIx items.size 0 lo)).toArray):=by
  show ((items.toList.drop (sIx items.size 0 lo)).take (sIx items.size items.size hi - sIx items.size 0 lo)).toArray.size<=sizeLine;rw [aF,dk,pb,fw];omega
 have hj:sIx items.size items.size hi<=items.size:=KD _ _ (aA _) hi;obtain ⟨os,hos,hcs,hds⟩:=id hs;have hTs:s.TypeIs (.ref sl) "slice":=⟨os,hos,hcs⟩;unfold getItem
 try with_reducible refine eC ?_
 first | refine ah (aJ ?_) | skip
 refine ah (wpAny_sequenceKey ht.typeIs ⇑0 ?_)
 refine ah (eO (name:=kF "__getitem__") ht.typeIs lg
  (fJ lg ht.typeIs entry_tuple_getitem ?_ (args_tuple_getitem _ _)))
 show wpAny _ _ (Builtin.Tuple.tupleItemsOf (.ref t) >>= _) _ _ s;refine ah (tupleItemsOf_ ht ?_);refine ah (wpAny_typeOf hTs ?_);rw [if_pos ⇑0];refine ah (mQ hs pl pu ?_)
 have hno:¬ ((((sIx items.size 0 lo:Nat):Int) == 0 && (1:Int) == 1 && (sIx items.size items.size hi - sIx items.size 0 lo) == items.size) = true):=by
  intro q;rw [aa,aa] at q;have q1:((sIx items.size 0 lo:Nat):Int) = 0:=eq_of_beq q.1.1;have q2:sIx items.size items.size hi - sIx items.size 0 lo = items.size:=eq_of_beq q.2;exact hw ⟨by omega,by omega⟩
 show wpAny _ _ (if (((sIx items.size 0 lo:Nat):Int) == 0 && (1:Int) == 1 && (sIx items.size items.size hi - sIx items.size 0 lo) == items.size) = true then _ else _) _ _ s;rw [if_neg hno,DH]
 first
  | exact ah (m:=eY _) (cN (aJ ⟨_,rfl,aJ h⟩) htake)
  | exact ah (m:=eY _) (cN (ah (aJ (aJ ⟨_,rfl,aJ h⟩))) htake)
  | exact ah (ah (m:=eY _) (cN (aJ (aJ ⟨_,rfl,aJ h⟩)) htake))
  | exact ah (ah (m:=eY _) (cN (aJ ⟨_,rfl,aJ h⟩) htake))
end
end HT
namespace L2
open PySem PySem.Spec PyProof.Rows
abbrev TO:=St->Hp->(Option Int->Hp->Prop)->Prop
def PO (X:Cx) (e:Option aI) (t:TO):Prop :=
 ∀ (pins:List (au × Obj)) (s:aj) (σ:St) (H:Hp) (Q:Option Int->Hp->Prop),Inv X pins σ H s->t σ H Q ->
  wpAny (model X.prog X.w) X.A (evalPart e X.env) (λu s'=>∃ o H',Inv X pins σ H' s'/\qB u o/\Q o H') X.xe s
def Gu:TO:=λ_ H Q=>Q none H
def NB (t:TE):TO:=λσ H Q=>t σ H λx H1=>∃ i,x = .int i/\Q (some i) H1
section
variable {X:Cx} {e:aI} {te:TE} {lo hi:Option aI} {tl th:TO} {pos p2:Pos}
def HB:PO X none Gu:=by
 intro pins s σ H Q I h;rw [evalPart_none];exact aJ ⟨none,H,I,.none,h⟩
def HA (h:PE X e te):PO X (some e) (NB te):=by
 intro pins s σ H Q I hw;rw [evalPart_some];refine thn (h pins s σ H _ I hw) λu s1 zz=>?_;obtain ⟨x,H1,I1,r1,q1⟩:=zz;obtain ⟨i,rfl,q⟩:=q1;obtain ⟨t,rfl⟩:=r1;exact ⟨some i,H1,I1,.int i t,q⟩
def SlR (X:Cx) (r:V->Option Int->Option Int->Hp->VK->Prop):Prop :=
 ∀ (pins:List (au × Obj)) (s:aj) (σ:St) (H:Hp) (x:V) (v vl vu:ag) (lo hi:Option Int) (sl:au) (Q:VK),Inv X pins σ H s->RelV x v->s.heap.IsSliceOf sl vl vu .none->qB vl lo->qB vu hi->r x lo hi H Q ->
  ∃ T id,typeLookup (.type T) "__getitem__" = pure (some (.builtin id))/\s.TypeIs v T/\wpAny (model X.prog X.w) X.A (getItem v (.ref sl)) (EP X pins σ Q) X.xe s
def SlR.or {r r':V->Option Int->Option Int->Hp->VK->Prop} (h:SlR X r) (h':SlR X r'):SlR X (λx lo hi H Q=>r x lo hi H Q\/r' x lo hi H Q):=by
 intro pins s σ H x v vl vu lo hi sl Q I rx hs pl pu q;rcases q with q | q
 . exact h pins s σ H x v vl vu lo hi sl Q I rx hs pl pu q
 . exact h' pins s σ H x v vl vu lo hi sl Q I rx hs pl pu q
def tSl (r:V->Option Int->Option Int->Hp->VK->Prop) (te:TE) (tl th:TO):TE:=λσ H Q=>te σ H λx H1=>tl σ H1 λl H2=>th σ H2 λu H3=>r x l u H3 Q
def vx (hr:SlR X r) (he:PE X e te) (hl:PO X lo tl) (hu:PO X hi th):PE X (.Subscript e (.Slice lo hi none p2) pos) (tSl r te tl th):=by
 intro pins s σ H Q I h;refine MZ (thn (he pins s σ H _ I h) λv s1 ⟨x,H1,I1,r1,q1⟩=>?_);refine wpAny_Slice (thn (hl pins s1 σ H1 _ I1 q1) λvl s2 ⟨l,H2,I2,pl,q2⟩=>thn (hu pins s2 σ H2 _ I2 q2) λvu s3 ⟨u,H3,I3,pu,q3⟩=>?_);rw [evalPart_none];refine aJ ?_;have I4:Inv X pins σ H3 { s3 with heap:=s3.heap.push { cls:=.type "slice",data:=.fields #[vl,vu,.none] } }:=I3.kept (t':=s3.toks) λb ob q=>ao _ q;obtain ⟨T,id,hT,ht,hg⟩:=hr pins { s3 with heap:=s3.heap.push { cls:=.type "slice",data:=.fields #[vl,vu,.none] } } σ H3 x v vl vu l u s3.heap.objs.size Q I4 r1 (Heap.IsSliceOf.new ..) pl pu q3;show wpAny (model X.prog X.w) X.A (subscriptTail e (.Slice lo hi none p2) v (.ref s3.heap.objs.size)) (EP X pins σ Q) X.xe { s3 with heap:=s3.heap.push { cls:=.type "slice",data:=.fields #[vl,vu,.none] } };exact tail_any (ops:=[.ref s3.heap.objs.size,v]) ht hT hg (by with_unfolding_all rfl)
def qJ (xs:List V) (lo hi:Option Int):List V:=(xs.drop (HT.sIx xs.length 0 lo)).take (HT.sIx xs.length xs.length hi - HT.sIx xs.length 0 lo)
def nO (xs:List V) (lo hi:Option Int):(qJ xs lo hi).length<=xs.length:=by
 unfold qJ;rw [dk,pb]
 lia
def Ph (K:PySem.W.Frag):V->Option Int->Option Int->Hp->VK->Prop:=λx lo hi H Q=>∃ a xs,x = .ref a/\SqT K H a xs /\
 ¬ (HT.sIx xs.length 0 lo = 0/\HT.sIx xs.length xs.length hi = xs.length)/\∀ p,H p = none->Q (.ref p) (upd H p (.tup (qJ xs lo hi)))
def Ky:SlR X (Ph X.K):=by
 intro pins s σ H x v vl vu lo hi sl Q I rx hs pl pu h;obtain ⟨a,xs,rfl,hx,hw,q⟩:=h;cases rx;obtain ⟨its,r,ht,hz⟩:=I.tuple hx;have hlen:its.toArray.size = xs.length:=by rw [aF];exact r.length.symm
 refine ⟨"tuple",_,PyProof.Rows.slot_tuple_getitem.lookup,ht.typeIs,?_⟩;refine HT.getItem_tuple_cut ht hs pl pu (by rw [hlen];exact hw) ?_ (by rw [hlen];exact hz);rw [hlen];refine ⟨.ref s.heap.objs.size,_,I.laid (t':=s.toks) (o:=.tup (qJ xs lo hi)) (λb ob q=>ao _ q) (aA _) ?_,rfl,q _ (I.hok.fresh (aA _))⟩;exact ⟨bx (nO xs lo hi) hz,_,(r.drop (HT.sIx xs.length 0 lo)).take (HT.sIx xs.length xs.length hi - HT.sIx xs.length 0 lo),FN _ _⟩
def NY (K:PySem.W.Frag):R2:=λx y H Q=>∃ a b xs ys,x = .ref a/\y = .ref b/\SqT K H a xs/\SqT K H b ys/\xs≠[]/\xs.length+ys.length<=sizeLine /\
 (ys = []->Q (.ref a) H)/\(ys≠[]->∀ p,H p = none->Q (.ref p) (upd H p (.tup (xs++ys))))
def Vals.nil_iff (r:Vals xs us):us = []↔xs = []:=by
 cases r with
 | nil=>simp
 | cons _ _=>simp
def HQ:OpR X (binaryOp .Add) (NY X.K):=by
 intro pins s σ H x y v u Q I rx ry h;obtain ⟨a,b,xs,ys,rfl,rfl,ha,hb,hx,hz,q1,q2⟩:=h;cases rx;cases ry;obtain ⟨its,r1,p1,_⟩:=I.tuple ha;obtain ⟨its2,r2,p2,_⟩:=I.tuple hb;refine HT.cat_tup p1 p2 (λz=>hx (r1.nil_iff.mp z)) (λz=>⟨.ref a,H,I,rfl,q1 (r2.nil_iff.mp z)⟩) (λz=>?_) (by rw [<- r1.length,<- r2.length];exact hz);refine ⟨.ref s.heap.objs.size,_,I.laid (t':=s.toks) (o:=.tup (xs++ys)) (λb ob q=>ao _ q) (aA _) ?_,rfl,q2 (λw=>z (r2.nil_iff.mpr w)) _ (I.hok.fresh (aA _))⟩;exact ⟨by rw [ay];exact hz,_,r1.append r2,FN _ _⟩
end
end L2
namespace L2
open PySem PySem.Spec PyProof.Rows
def ixN (n:Nat) (i:Int):Option Nat:=if 0<=i then (if i < n then some i.toNat else none) else if -(n:Int)<=i then some (i+n).toNat else none
def atI {α:Type} (xs:List α) (i:Int):Option α:=(ixN xs.length i).bind λj=>xs[j]?
def zj (h:ixN n i = some j):seqIndex? i n = some j/\j < n/\-(n:Int)<=i/\i < n:=by
 unfold ixN at h;by_cases h0:0<=i
 . rw [if_pos h0] at h;by_cases h1:i < n
   . rw [if_pos h1] at h;have e:i.toNat = j:=bY h;exact ⟨by rw [IU h0 h1,e],∅,∅,h1⟩
   . rw [if_neg h1] at h;cases h
 . rw [if_neg h0] at h;by_cases h1:-(n:Int)<=i
   . rw [if_pos h1] at h;have e:(i+n).toNat = j:=bY h;exact ⟨by rw [FA ∅ h1,e],∅,h1,∅⟩
   . rw [if_neg h1] at h;cases h
def uA {α:Type} {xs:List α} {i:Int} {v:α} (h:atI xs i = some v):∃ j,seqIndex? i xs.length = some j/\xs[j]? = some v/\j < xs.length/\-(xs.length:Int)<=i/\i < xs.length:=by
 unfold atI at h
 cases e:ixN xs.length i with
 | none=>rw [e] at h;cases h
 | some j =>
   rw [e] at h;obtain ⟨h1,h2,h3,h4⟩:=zj e;exact ⟨j,h1,h,h2,h3,h4⟩
def atI_nat {α:Type} {xs:List α} {j:Nat} {v:α} (h:xs[j]? = some v):atI xs (j:Int) = some v:=by
 have hj:j < xs.length:=(aE.mp h).1
 have e:ixN xs.length (j:Int) = some j:=by
  unfold ixN;rw [if_pos ∅,if_pos ∅];simp
 unfold atI;rw [e];exact h
def PlainIx (b:aI):Prop:=∀ o i,subscripted b false o i = operate [o,i] (getItem o i)
def IxR (X:Cx) (r:R2):Prop :=
 ∀ (value slice:aI) (pins:List (au × Obj)) (s:aj) (σ:St) (H:Hp) (x y:V) (v u:ag) (Q:VK),Inv X pins σ H s->RelV x v->RelV y u->r x y H Q ->
  subscripted slice false v u = operate [v,u] (getItem v u)->wpAny (model X.prog X.w) X.A (subscriptTail value slice v u) (EP X pins σ Q) X.xe s
def MtR (X:Cx) (id:String) (r:V->List V->Hp->VK->Prop):Prop :=
 ∀ (pins:List (au × Obj)) (s:aj) (σ:St) (H:Hp) (x:V) (xs:List V) (v:ag) (us:List ag) (Q:VK),Inv X pins σ H s->RelV x v->Vals xs us->r x xs H Q ->
  wpAny (model X.prog X.w) X.A (call (.builtin id) (v::us)) (EP X pins σ Q) X.xe s
section
variable {X:Cx} {a b:aI} {ta tb:TE} {pos:Pos}
def IxR.or {r r':R2} (h:IxR X r) (h':IxR X r'):IxR X (λx y H Q=>r x y H Q\/r' x y H Q):=by
 intro value slice pins s σ H x y v u Q I rx ry q hs;rcases q with q | q
 . exact h value slice pins s σ H x y v u Q I rx ry q hs
 . exact h' value slice pins s σ H x y v u Q I rx ry q hs
def Oc (hr:IxR X r) (ha:PE X a ta) (hb:PE X b tb) (hs:PlainIx b):PE X (.Subscript a b pos) (tOp r ta tb):=by
 intro pins s σ H Q I h;exact MZ (ML ha hb I h λv u s2 x y H2 I2 rx ry q=>hr a b pins s2 σ H2 x y v u Q I2 rx ry q (hs _ _))
def NX (K:PySem.W.Frag):R2:=λx y H Q=>∃ p xs i v,x = .ref p/\y = .int i/\SqL K H p xs/\atI xs i = some v/\Q v H
def NV (K:PySem.W.Frag):R2:=λx y H Q=>∃ p xs i v,x = .ref p/\y = .int i/\SqT K H p xs/\atI xs i = some v/\Q v H
def NW:R2:=λx y H Q=>∃ z i c,x = .str z/\y = .int i/\z.length<=sizeLine/\atI z.cps.toList i = some c/\Q (.str ⟨#[c]⟩) H
def Im:IxR X (NX X.K):=by
 intro value slice pins s σ H x y v u Q I rx ry h hs;obtain ⟨p,xs,i,z,rfl,rfl,hq,he,q⟩:=h;cases rx;obtain ⟨t,rfl⟩:=ry;obtain ⟨its,r,pl,hz⟩:=I.list hq;obtain ⟨j,h1,h2,h3,h4,h5⟩:=uA he;obtain ⟨w,ew,rw'⟩:=r.get h2;have hl:=r.length;have hn:=lI;have fin:EP X pins σ Q w s:=⟨z,H,I,rw',q⟩;by_cases h0:0<=i
 . have hj:i.toNat = j:=by
    rw [IU h0 h5] at h1;exact bY h1
   exact item_listR pl.isList h0 ∅ (by rw [hj];simpa using ew) fin hs
 . have hj:(i+(its.toArray.size:Int)).toNat = j:=by
    rw [FA ∅ h4] at h1;rw [aF,<- hl];exact bY h1
   exact Fy (x:=w) pl.isList.typeIs slot_list_getitem.lookup
    (wpAny_getItem_list_neg (Q:=λr s'=>r = w/\EP X pins σ Q r s') pl.isList ∅ (by rw [aF]<;>lia) ∅ (by rw [hj];simpa using ew) ⟨rfl,fin⟩) hs
def LX:IxR X (NV X.K):=by
 intro value slice pins s σ H x y v u Q I rx ry h hs;obtain ⟨p,xs,i,z,rfl,rfl,hq,he,q⟩:=h;cases rx;obtain ⟨t,rfl⟩:=ry;obtain ⟨its,r,pl,hz⟩:=I.tuple hq;obtain ⟨j,h1,h2,h3,h4,h5⟩:=uA he;obtain ⟨w,ew,rw'⟩:=r.get h2;have hl:=r.length;have hn:=lI;have fin:EP X pins σ Q w s:=⟨z,H,I,rw',q⟩
 exact Fy (x:=w) pl.typeIs slot_tuple_getitem.lookup
  (getItem_tuple (j:=j) (Q:=λr s'=>r = w/\EP X pins σ Q r s') pl ∅ ∅ (by rw [aF,<- hl];exact h1) (by simpa using ew) ⟨rfl,fin⟩) hs
def LY:IxR X NW:=by
 intro value slice pins s σ H x y v u Q I rx ry h hs;obtain ⟨z,i,c,rfl,rfl,hz,he,q⟩:=h;obtain ⟨t,rfl⟩:=rx;obtain ⟨t',rfl⟩:=ry;obtain ⟨j,h1,h2,h3,h4,h5⟩:=uA he;have hl:z.cps.toList.length = z.length:=by simp [Str.length]
 rw [hl] at h1 h4 h5;have hn:=lI
 exact tail_any (yh s z t) slot_str_getitem.lookup (getItem_str (c:=c) (by
  have e1:decide (i < -(2 ^ 63:Int)) = false:=decide_eq_false ∅;have e2:decide (i ≥ 2 ^ 63) = false:=decide_eq_false ∅;rw [e1,e2,Bool.or_false]) (by rw [h1];simpa using h2) ⟨.str ⟨#[c]⟩,H,I.tok _,⟨_,rfl⟩,q⟩) hs
def rIx (K:PySem.W.Frag):R2:=λx y H Q=>NX K x y H Q\/NV K x y H Q\/NW x y H Q
def LZ:IxR X (rIx X.K):=Im.or (LX.or LY)
def xN (its:List ag) (n j:Nat) (u:ag):cJ (·.setIfInBounds j u) { cls:=.type "list",data:=.seq its.toArray n } = { cls:=.type "list",data:=.seq (its.set j u).toArray n }:=by
 simp [cJ]
def Inv.lst {pins:List (au × Obj)} {σ:St} {H:Hp} {s:aj} {p:au} {xs:List V} (I:Inv X pins σ H s) (h:H p = some (.lst xs)) :
 ∃ (its:List ag) (n:Nat),Vals xs its/\s.heap.get? p = some { cls:=.type "list",data:=.seq its.toArray n }/\xs.length<=sizeLine:=by
 obtain ⟨z,its,n,r,e⟩:=I.hok p _ h;exact ⟨its,n,r,e,z⟩
def Inv.lstUpd {pins:List (au × Obj)} {σ:St} {H:Hp} {s:aj} {p:au} {xs ys:List V} {its its':List ag} {n n':Nat} {f:Obj->Obj} (I:Inv X pins σ H s) (h:H p = some (.lst xs))
 (ho:s.heap.get? p = some { cls:=.type "list",data:=.seq its.toArray n }) (hf:f { cls:=.type "list",data:=.seq its.toArray n } = { cls:=.type "list",data:=.seq its'.toArray n' }) (r:Vals ys its') (hz:ys.length<=sizeLine) (t:Nat) :
 Inv X pins σ (upd H p (.lst ys)) { s with heap:=s.heap.update p f,toks:=t }:=by
 have e:(s.heap.update p f).get? p = some { cls:=.type "list",data:=.seq its'.toArray n' }:=by
  rw [gI f ho (by rw [hf]<;>rfl),hf]
 refine I.write (x:=p) (e:=p) (by rw [h];trivial) (.inl rfl) (λb u hb q=>(eL _ _ (Ne.symm hb)).trans q) ⟨_,e⟩ ?_;exact ⟨hz,its',n',r,e⟩
def NU:V->V->V->Hp->(Hp->Prop)->Prop:=λo i v H Q=>∃ p xs k j,o = .ref p/\i = .int k/\H p = some (.lst xs)/\ixN xs.length k = some j/\Q (upd H p (.lst (xs.set j v)))
def set_list:ON X NU:=by
 intro pins s σ H o i v ov iv u Q I ro ri rv h;obtain ⟨p,xs,k,j,rfl,rfl,hp,hj,q⟩:=h;cases ro;obtain ⟨t,rfl⟩:=ri;obtain ⟨its,n,r,ho,hz⟩:=I.lst hp;obtain ⟨h1,h2,h3,h4⟩:=zj hj;have hl:=r.length;have hn:=lI
 have I':Inv X pins σ (upd H p (.lst (xs.set j v))) { s with heap:=s.heap.update p (cJ (·.setIfInBounds j u)) } :=
  I.lstUpd hp ho (xN its n j u) (r.set rv j) (by rw [bu];exact hz) s.toks
 by_cases h0:0<=k
 . have hk:k.toNat = j:=by
    rw [IU h0 h4] at h1;exact bY h1
   exact PySem.W.ki_setAt ho h0 ∅ (by rw [aF,<- hl];exact h4) (by rw [hk];exact ⟨_,I',q⟩)
 . have hk:(k+(its.toArray.size:Int)).toNat = j:=by
    rw [FA ∅ h3] at h1;rw [aF,<- hl];exact bY h1
   exact PySem.W.ki_setBack ho ∅ (by rw [aF,<- hl];exact h3) ∅ (by rw [hk];exact ⟨_,I',q⟩)
def sR (lo hi:Option Int) (n:Nat):(sliceBounds lo hi none n).1 = ((HT.sIx n 0 lo:Nat):Int)/\(sliceBounds lo hi none n).2.1 = ((HT.sIx n n hi:Nat):Int)/\(sliceBounds lo hi none n).2.2 = 1:=by
 refine ⟨?_,?_,rfl⟩
 . cases lo with
   | none=>simp [sliceBounds,HT.sIx]
   | some i =>
     simp only [sliceBounds,HT.sIx,BD,show (1:Int) > 0 by decide,if_true];by_cases h:i < 0
     . simp only [h,if_true]<;>lia
     . simp only [h,if_false]<;>lia
 . cases hi with
   | none=>simp [sliceBounds,HT.sIx]
   | some i =>
     simp only [sliceBounds,HT.sIx,BD,show (1:Int) > 0 by decide,if_true];by_cases h:i < 0
     . simp only [h,if_true]<;>lia
     . simp only [h,if_false]<;>lia
def qF (its:List ag) (lo hi:Option Int):slicePick its.toArray lo hi none = ((its.drop (HT.sIx its.length 0 lo)).take (HT.sIx its.length its.length hi - HT.sIx its.length 0 lo)).toArray:=by
 obtain ⟨h1,h2,h3⟩:=sR lo hi its.toArray.size;unfold slicePick;rw [h1,h2,h3];simp only [sliceRange_one,pick_run,aF]<;>rfl
def Pk (K:PySem.W.Frag):V->Option Int->Option Int->Hp->VK->Prop:=λx lo hi H Q=>∃ a xs,x = .ref a/\SqL K H a xs/\∀ p,H p = none->Q (.ref p) (upd H p (.lst (qJ xs lo hi)))
def yG:SlR X (Pk X.K):=by
 intro pins s σ H x v vl vu lo hi sl Q I rx hs pl pu h;obtain ⟨a,xs,rfl,hx,q⟩:=h;cases rx;obtain ⟨its,r,ht,hz⟩:=I.list hx;have hlen:=r.length;refine ⟨"list",_,slot_list_getitem.lookup,ht.isList.typeIs,?_⟩;refine wpAny_getItem_list_slice ht.isList hs pl pu .none ↥0 ?_ (by rw [aF]<;>lia);rw [qF,<- hlen];refine ⟨.ref s.heap.objs.size,_,I.laid (t':=s.toks) (o:=.lst (qJ xs lo hi)) (λb ob q=>ao _ q) (aA _) ?_,rfl,q _ (I.hok.fresh (aA _))⟩;exact ⟨bx (nO xs lo hi) hz,_,0,(r.drop (HT.sIx xs.length 0 lo)).take (HT.sIx xs.length xs.length hi - HT.sIx xs.length 0 lo),aS _ rfl⟩
def uz:bU X (.builtin "len") (λxs H Q=>∃ p ys,xs = [.ref p]/\(SqL X.K H p ys\/SqT X.K H p ys)/\Q (.int ys.length) H):=by
 intro pins s σ H xs us Q I r h;obtain ⟨p,ys,rfl,hq,q⟩:=h;obtain ⟨u,rfl,rx⟩:=vals1 r;cases rx;have hn:=lI;rcases hq with hq | hq
 . obtain ⟨its,r',pl,hz⟩:=I.list hq;have hlen:=r'.length;exact Calls.call_len_list pl.isList (by simp only [aF]<;>lia) ⟨.int ys.length,H,I.tok _,⟨s.toks+1,by rw [aF,hlen]⟩,q⟩
 . obtain ⟨its,r',pl,hz⟩:=I.tuple hq;have hlen:=r'.length;exact len_tuple pl (by simp only [aF]<;>lia) ⟨.int ys.length,H,I.tok _,⟨s.toks+1,by rw [aF,hlen]⟩,q⟩
def uy:bU X (.builtin "len") (λxs H Q=>∃ z,xs = [.str z]/\z.length<=sizeLine/\Q (.int z.length) H):=by
 intro pins s σ H xs us Q I r h;obtain ⟨z,rfl,hz,q⟩:=h;obtain ⟨u,rfl,t,rfl⟩:=vals1 r;have hn:=lI;exact len_str ∅ ⟨.int z.length,H,I.tok _,⟨_,rfl⟩,q⟩
def bU.or {f:ag} {r r':List V->Hp->VK->Prop} (h:bU X f r) (h':bU X f r'):bU X f (λxs H Q=>r xs H Q\/r' xs H Q):=by
 intro pins s σ H xs us Q I rs q;rcases q with q | q
 . exact h pins s σ H xs us Q I rs q
 . exact h' pins s σ H xs us Q I rs q
def mC:bU X (.type "list") (λxs H Q=>∃ p ys,xs = [.ref p]/\(SqL X.K H p ys\/SqT X.K H p ys)/\∀ l,H l = none->Q (.ref l) (upd H l (.lst ys))):=by
 intro pins s σ H xs us Q I r h;obtain ⟨p,ys,rfl,hq,q⟩:=h;obtain ⟨u,rfl,rx⟩:=vals1 r;cases rx
 have fin:∀ (its:List ag),Vals ys its->ys.length<=sizeLine->∀ (h':bH) (c':Nat),(∀ b o',s.heap.get? b = some o'->h'.get? b = some o') ->
  h'.get? s.heap.objs.size = some { cls:=.type "list",dict:=none,data:=.seq its.toArray c',slots := #[] }->EP X pins σ Q (.ref s.heap.objs.size) { s with heap:=h' }:=λits r' hz h' c' kp e =>
  ⟨.ref s.heap.objs.size,_,I.laid (t':=s.toks) kp (aA _) (show eR X.prog X.w _ h' _ (.lst ys) from ⟨hz,its,c',r',e⟩),rfl,q _ (I.hok.fresh (aA _))⟩
 rcases hq with hq | hq
 . obtain ⟨its,r',pl,hz⟩:=I.list hq;have hlen:=r'.length;obtain ⟨o,ho,hc,n,hd⟩:=pl.isList;exact call_list_seq p (.inl rfl) ho hc hd (λh' c' kp e=>fin its r' hz h' c' kp e) (by simp only [aF]<;>lia)
 . obtain ⟨its,r',pl,hz⟩:=I.tuple hq;have hlen:=r'.length;obtain ⟨o,ho,hc,n,hd⟩:=pl;exact call_list_seq p (.inr rfl) ho hc hd (λh' c' kp e=>fin its r' hz h' c' kp e) (by simp only [aF]<;>lia)
def qM:bU X (.type "tuple") (λxs H Q=>∃ p ys,xs = [.ref p]/\((SqL X.K H p ys/\∀ l,H l = none->Q (.ref l) (upd H l (.tup ys)))\/(SqT X.K H p ys/\Q (.ref p) H))):=by
 intro pins s σ H xs us Q I r h;obtain ⟨p,ys,rfl,h⟩:=h;obtain ⟨u,rfl,rx⟩:=vals1 r;cases rx;rcases h with ⟨hq,q⟩ | ⟨hq,q⟩
 . obtain ⟨its,r',pl,hz⟩:=I.list hq;have hlen:=r'.length;refine call_tuple_list pl.isList (λh' kp=>?_) (by simp only [aF]<;>lia);have I1:Inv X pins σ H { s with heap:=h' }:=I.kept (t':=s.toks) kp
   have I2:Inv X pins σ (upd H h'.objs.size (.tup ys)) { s with heap:=h'.push { cls:=.type "tuple",data:=.seq its.toArray } } :=
    I1.laid (t':=s.toks) (λb o e=>ao _ e) (aA _) (show eR X.prog X.w _ _ _ (.tup ys) from ⟨hz,its,r',FN _ _⟩)
   exact ⟨.ref h'.objs.size,_,I2,rfl,q _ (I1.hok.fresh (aA _))⟩
 . obtain ⟨its,r',pl,hz⟩:=I.tuple hq;exact call_tuple_same pl ⟨.ref p,H,I,rfl,q⟩
def tyV (K:PySem.W.Frag) (T:String) (x:V) (H:Hp):Prop:=match x with
 | .str _=>T = "str"
 | .int _=>T = "int"
 | .ref p=>(T = "list"/\∃ xs,SqL K H p xs)\/(T = "tuple"/\∃ o,K.lookup p = some o/\o.cls = .type "tuple"/\o.dict = none) \/
    (T = "dict"/\((∃ kvs,H p = some (.dK kvs))\/∃ kvs,H p = some (.dT kvs)))
 | _=>False
def Cz (I:Inv X pins σ H s) (r:RelV x v) (ty:tyV X.K T x H) :
 s.TypeIs v T/\∀ a,v = .ref a->∃ ob,s.heap.get? a = some ob/\ob.dict = none:=by
 cases x with
 | str z =>
   obtain ⟨t,rfl⟩:=r;cases (show T = "str" from ty)
   exact ⟨yh s z t,λ_ e=>nomatch e⟩
 | int i =>
   obtain ⟨t,rfl⟩:=r;cases (show T = "int" from ty)
   exact ⟨typeIs_int s i t,λ_ e=>nomatch e⟩
 | ref p =>
   cases r;rcases ty with ⟨rfl,xs,hq⟩ | ⟨rfl,o,hk,hc,hd⟩ | ⟨rfl,hk⟩
   . obtain ⟨its,_,pl,_⟩:=I.list hq;refine ⟨pl.isList.typeIs,λa e=>?_⟩;cases e;obtain ⟨o,n,e,c,hd,_⟩:=pl;exact ⟨o,e,hd⟩
   . refine ⟨⟨o,I.kIn p o hk,hc⟩,λa e=>?_⟩;cases e;exact ⟨o,I.kIn _ o hk,hd⟩
   . have z:∃ o,s.heap.get? p = some o/\o.ExactDict:=by
      rcases hk with ⟨kvs,hk⟩ | ⟨kvs,hk⟩
      . obtain ⟨_,_,_,_,o,_,_,e,ex,_⟩:=I.hok p _ hk;exact ⟨o,e,ex⟩
      . obtain ⟨_,_,_,_,o,_,_,e,ex,_⟩:=I.hok p _ hk;exact ⟨o,e,ex⟩
     obtain ⟨o,e,ex⟩:=z;refine ⟨⟨o,e,ex.1⟩,λa e2=>?_⟩;cases e2
     exact ⟨o,e,ex.2.1⟩
 | _=>exact bX ty
def OY (K:PySem.W.Frag) (T:String) (r:V->List V->Hp->VK->Prop) (to:TE):TE:=λσ H Q=>to σ H λx H1=>tyV K T x H1/\r x [] H1 Q
def tBM (K:PySem.W.Frag) (T:String) (r:V->List V->Hp->VK->Prop) (to:TE) (t:TA):TE:=λσ H Q=>to σ H λx H1=>tyV K T x H1/\t σ H1 λxs H2=>r x xs H2 Q
variable {o e:aI} {es:List aI} {to:TE} {t:TA} {name:Str} {apos cpos:Pos} {T id:String} {r:V->List V->Hp->VK->Prop}
def DR (pa:Nb T) (slot:Slot T name id) (hty:typeOf (.builtin id) = pure (.type "method_descriptor")) (hm:MtR X id r) (ho:PE X o to)
 (hbase:attributeBase o name X.env (eval o X.env) = eval o X.env:=by rfl) (hline:(apos.endLine == cpos.line) = true:=by rfl):PE X (.Call (.Attribute o name apos) [] [] cpos) (OY X.K T r to):=by
 intro pins s σ H Q I h;refine wpAny_Call_method0_late hbase hline (thn (ho pins s σ H _ I h) λv s1 ⟨x,H1,I1,r1,ty,q1⟩=>?_);obtain ⟨h1,h2⟩:=Cz I1 r1 ty;exact ⟨T,id,pa,slot,hty,h1,h2,fW rfl (PySem.evalArgs_none (hm pins s1 σ H1 x [] v [] Q I1 r1 .nil q1))⟩
def DS (pa:Nb T) (slot:Slot T name id) (hty:typeOf (.builtin id) = pure (.type "method_descriptor")) (hm:MtR X id r) (ho:PE X o to) (ha:PA X (e::es) t)
 (hbase:attributeBase o name X.env (eval o X.env) = eval o X.env:=by rfl)
 (hfew:((backTo cpos (starEach (e::es) X.env)).all (λx=>!x.1) && (backToKw cpos (keywordEach [] X.env)).all (λx=>x.1.isSome)
   && decide ((e::es).length+([]:List fL).length+(if ([]:List fL).isEmpty then 0 else 1) < 30)) = true:=by rfl)
 (hline:(apos.endLine == cpos.line) = true:=by rfl) (hs:starEach (e::es) X.env = (false,eval e X.env)::starEach es X.env:=by rfl) (hplain:(backTo cpos (starEach es X.env)).any (·.1) = false:=by rfl) :
 PE X (.Call (.Attribute o name apos) (e::es) [] cpos) (tBM X.K T r to t):=by
 intro pins s σ H Q I h;refine wpAny_Call_method_late hbase hfew hline rfl (thn (ho pins s σ H _ I h) λv s1 ⟨x,H1,I1,r1,ty,q1⟩=>?_);obtain ⟨h1,h2⟩:=Cz I1 r1 ty;refine ⟨T,id,pa,slot,hty,h1,h2,?_⟩;have hA:=ha cpos pins s1 σ H1 _ I1 q1;rw [hs] at hA |-;refine fW (by show (false || (backTo cpos (starEach es X.env)).any (·.1)) = false;rw [hplain]<;>rfl) (gM ?_);exact thn hA λus s2 ⟨vs,H2,I2,r2,q2⟩=>hm pins s2 σ H2 x vs v us Q I2 r1 r2 q2
end
end L2
namespace L2
open PySem PySem.Spec PyProof.Rows
def MtM (X:Cx) (id:String) (r:V->List V->Hp->VK->Prop):Prop :=
 ∀ (pins:List (au × Obj)) (s:aj) (σ:St) (H:Hp) (x:V) (xs:List V) (v:ag) (us:List ag) (Q:VK),Inv X pins σ H s->RelV x v->Vals xs us->r x xs H Q ->
  wpAny (model X.prog X.w) X.A (call (.builtin id) (v::us)) (EP X pins σ Q) X.xe s
def Vals.one:∀ {x:V} {us:List ag},Vals [x] us->∃ u,us = [u]/\RelV x u
 | _,_,.cons r .nil=>⟨_,rfl,r⟩
def Vals.two (h:Vals [x,y] us):∃ u v,us = [u,v]/\RelV x u/\RelV y v:=by
 cases h with
 | cons r t =>
   obtain ⟨u,rfl,q⟩:=Vals.one t;exact ⟨_,_,rfl,r,q⟩
def Vals.zero:∀ {us:List ag},Vals [] us->us = []
 | _,.nil=>rfl
def Vals.dropLast (h:Vals xs us):Vals xs.dropLast us.dropLast:=by
 induction h with
 | nil=>exact .nil
 | cons r t ih =>
   cases t with
   | nil=>exact .nil
   | cons q t'=>exact .cons r ih
def xS {α:Type} (l:List α):l.eraseIdx (l.length - 1) = l.dropLast:=by
 induction l with
 | nil=>rfl
 | cons a r ih =>
   cases r with
   | nil=>rfl
   | cons b r =>
     have e:(a::b::r).length - 1 = ((b::r).length - 1)+1:=by
      have h1:(a::b::r).length = r.length+2:=rfl;have h2:(b::r).length = r.length+1:=rfl
      lia
     rw [e,List.eraseIdx_cons_succ,ih]
     all_goals rfl
section
variable {X:Cx} {pins:List (au × Obj)} {σ:St} {H:Hp} {s:aj} {l b:au} {xs ys zs:List V}
def Inv.lset {its its':List ag} {n:Nat} {f:Array ag->Array ag} {t':Nat} (I:Inv X pins σ H s) (hH:H l = some (.lst xs))
 (e:s.heap.get? l = some { cls:=.type "list",data:=.seq its.toArray n }) (hf:f its.toArray = its'.toArray) (hv:Vals ys its') (hz:ys.length<=sizeLine) :
 Inv X pins σ (upd H l (.lst ys)) { s with heap:=s.heap.update l (cJ f),toks:=t' }:=by
 have q:=PySem.IsL.update e f;rw [hf] at q;refine I.write (x:=l) (e:=l) (by rw [hH];exact trivial) (.inl rfl) (λb' u hb hu=>(eL s.heap (cJ f) (Ne.symm hb)).trans hu) ⟨_,q⟩ ?_;exact ⟨hz,its',_,hv,q⟩
def Inv.lnew (I:Inv X pins σ H s) (hv:Vals ys its) (hz:ys.length<=sizeLine) :
 Inv X pins σ (upd H s.heap.objs.size (.lst ys)) { s with heap:=s.heap.push { cls:=.type "list",data:=.seq its.toArray },toks:=t' } :=
 I.laid (λ_ _ q=>ao _ q) (aA _) ⟨hz,its,0,hv,aS _ rfl⟩
def Inv.fresh (I:Inv X pins σ H s):H s.heap.objs.size = none:=I.hok.fresh (aA _)
def Inv.lstM (I:Inv X pins σ H s) (hH:H l = some (.lst xs)):xs.length<=sizeLine/\∃ (its:List ag) (n:Nat),Vals xs its/\xs.length = its.length/\s.heap.get? l = some { cls:=.type "list",data:=.seq its.toArray n }:=by
 obtain ⟨z,its,n,r,e⟩:=I.hok l _ hH;exact ⟨z,its,n,r,r.length,e⟩
end
section
variable {X:Cx}
def Hr:V->List V->Hp->VK->Prop:=λx vs H Q=>∃ l xs y,x = .ref l/\vs = [y]/\H l = some (.lst xs)/\xs.length < sizeLine/\Q .non (upd H l (.lst (xs++[y])))
def mT:MtM X "list.append" Hr:=by
 intro pins s σ H x vs v us Q I rx rv h;obtain ⟨l,xs,y,rfl,rfl,hH,hz,q⟩:=h;cases rx;obtain ⟨u,rfl,ru⟩:=rv.one;obtain ⟨z,its,n,r,hl,e⟩:=I.lstM hH;refine MY F.slot_list_append ⟨_,e,rfl⟩ F.entry_list_append (F.args_list_append_2 _ _) (PySem.list_append l its.toArray n u (by rw [aF];lia)) ⟨e,?_⟩;refine ⟨.non,_,I.lset (its':=its++[u]) hH e ↥0 (r.append (.cons ru .nil)) ?_,rfl,q⟩;rw [ay,kY]
 lia
def Pl:V->List V->Hp->VK->Prop:=λx vs H Q=>∃ l xs y,x = .ref l/\vs = []/\H l = some (.lst xs)/\xs[xs.length - 1]? = some y/\Q y (upd H l (.lst xs.dropLast))
def LK:MtM X "list.pop" Pl:=by
 intro pins s σ H x vs v us Q I rx rv h;obtain ⟨l,xs,y,rfl,rfl,hH,hy,q⟩:=h;cases rx;have hus:=rv.zero;subst hus;obtain ⟨z,its,n,r,hl,e⟩:=I.lstM hH;obtain ⟨u,hu,ru⟩:=r.get hy
 have hy':its.toArray[its.toArray.size - 1]? = some u:=by
  show its.toArray[its.length - 1]? = some u;rw [<- Array.getElem?_toList,<- hl];exact hu
 refine MY F.slot_list_pop ⟨_,e,rfl⟩ F.entry_list_pop (F.args_list_pop_1 _) (MeetsSeq.list_pop_last l its.toArray n u hy' (by rw [aF];lia)) ⟨e,?_⟩;refine ⟨y,_,I.lset (its':=its.dropLast) hH e ?_ r.dropLast ?_,ru,q⟩
 . show its.toArray.eraseIdxIfInBounds (its.toArray.size - 1) = its.dropLast.toArray;rw [aF,List.eraseIdxIfInBounds_toArray,xS]
 . rw [List.length_dropLast]
   lia
end
section
variable {prog:aR} {w:bB} {A:bo} {E:ag->aj->Prop} {s:aj}
end
section
variable {X:Cx}
end
end L2
namespace Att
open PySem PySem.W PySem.Calls PyProof.Rows
def nX:∀ (ns:List Int) (vs:List ag),WellAll P h vs (ns.map WData.int)->FO vs ns:=by
 intro ns
 induction ns with
 | nil =>
   intro vs w;rw [eK] at w;cases w
   exact .nil
 | cons n ns ih =>
   intro vs w;rw [az] at w
   cases w with
   | cons a b =>
     cases a;exact .cons _ _ (ih _ b)
def Az {l:OpenLaw} {n:Nat} (hn:l.most = some n) {P:Params} {h:bH} {args:List WData} {vals:List ag}
 (hpre:l.row.toRowW.claim.pre args = true) (hwl:WellAll P h vals args) :
 ∃ a vs ns,vals = [bA a]/\args = [WData.list (ns.map WData.int)]/\h.get? a = some { cls:=.type "list",data:=.seq vs.toArray }/\FO vs ns/\ns.length<=n:=by
 have hsh:WShape.hasAll [] args [.list .int] = true:=(pre_splitW hpre).1;have hc:l.pre.holds [] { args:=args } = true:=(pre_splitW hpre).2;obtain ⟨d,r,rfl,h1,h2⟩:=hasAllW_cons hsh;obtain rfl:=hasAllW_nil h2;obtain ⟨xs,rfl,h3⟩:=hasW_list h1;obtain ⟨ns,rfl⟩:=items_int h3
 have hlen:ns.length<=n:=by
  unfold OpenLaw.pre at hc
  have h4:(WTm.not (.lt (.lit (.int (n:Int))) (.len (.arg 0)))).holds [] { args:=[.list (ns.map .int)] } = true:=by
   have h4:=(holds_andW hc).1;rw [hn] at h4;exact h4
  have h5:=condW_of h4 (w_not (w_lt w_lit (w_len_list (w_arg rfl))));rw [aw] at h5;refine Nat.le_of_not_lt λq=>?_;have q':(n:Int) < ((ns.length:Nat):Int):=by lia
  first
   | (rw [decide_eq_true q'] at h5;exact absurd h5 ⇑0)
   | (simp at h5;lia)
 cases hwl with
 | cons w1 w2 =>
   cases w2
   cases w1 with
   | list ho hall=>exact ⟨_,_,ns,rfl,rfl,ho,nX ns _ hall,hlen⟩
def AD (l:OpenLaw) (args:List WData):l.row.toRowW.claim.post args (.bool true) args = true :=
 postW_of (r:=l.row.toRowW) (X:=(true == true))
  (show WShape.has [] (.bool true) .bool = true by first | rfl | decide | simp [WShape.has,WShape.arms,WShape.armsAll])
  (show (WTm.eq .res (.lit (.bool true))).value [] { args:=args,res:=some (.bool true),after:=args } = some (.bool (true == true)) from w_eq_bool (w_res rfl) w_lit) rfl
def attach_call {l:OpenLaw} {n:Nat} {q:aR} {loose:List Str} {XP:(Str->Option ag)->bH->Prop} {YP:bB->bH->Prop} {d:DefRec}
 (hn:l.most = some n) (hdf:d.params.defaults = [])
 (call:∀ (w:bB) (s₀ s₁:aj) (mg mb:Str->Option ag) (fa:au) (o:Obj) (pm cd doc:ag) (a:au) (vs:List ag) (ns:List Int),
   Ground q loose [] XP w s₀ mg mb s₁.heap->YP w s₁.heap ->
   s₁.heap.get? fa = some o->o.data = .func (docDef d.name d.params d.body d.scope pm cd doc)->s₁.heap.CodeRec cd d.name->mg d.name = some (.ref fa) ->
   s₁.heap.get? a = some { cls:=.type "list",data:=.seq vs.toArray }->FO vs ns->ns.length<=n->s₁.gens = #[] ->
   codeAny (model l.prog w) callerA (.call (.ref fa) ⟨[.ref a],[]⟩) (λr s'=>r = .ok (.ret (.bool true))/\OldK s₁.heap s'.heap/\s'.os = s₁.os/\km s'.gens) s₁) :
 WalkO q loose XP YP l.row.toRowW d [] (λf vs=>PySem.call f vs):=by
 intro w s₀ s₁ mg mb G Y fa o pm cd doc dV kV ho hd hcd hD hmg hg args vals as hpre hlay hrd hwl hlo;obtain rfl:dV = .none:=Dflts.none hD hdf;obtain rfl:kV = .none:=Dflts.noKw hD;obtain ⟨a,vs,ns,rfl,rfl,hobj,hints,hlen⟩:=Az hn hpre hwl;refine enter_call (qO (call w s₀ s₁ mg mb fa o pm cd doc a vs ns G Y ho (fd_plain hd) hcd hmg hobj hints hlen hg) λr s' hq=>?_);obtain ⟨rfl,h2,h3,h4⟩:=hq;exact ⟨.inl ⟨.bool true,.bool true,[],rfl,λ_=>rfl,.bool true,AD l _,λ_=>⟨List.Pairwise.nil,λ_ hm=>(nomatch hm)⟩⟩,h2,h3,h4⟩
section
variable {prog:aR} {w:bB} {A:bo} {E:ag->aj->Prop} {s:aj} {K:Frag}
end
end Att
namespace L2
open PySem PySem.Spec PyProof.Rows
def qY:∀ {vs:List ag} {ns:List Int},FO vs ns->Vals (ns.map V.int) vs
 | _,_,.nil=>.nil
 | _,_,.cons n t h=>.cons ⟨t,rfl⟩ (qY h)
end L2
namespace L2
open PySem PySem.Spec PyProof.Rows
end L2
namespace L2
open PySem PySem.Spec PyProof.Rows
def eQ (s:bw):uG:=match s with
 | .FunctionDef _ a _ _ _ _ _ _ _ _=>a
 | _=>{ posonlyargs:=[],args:=[],vararg:=none,kwonlyargs:=[],kw_defaults:=[],kwarg:=none,defaults:=[] }
def cT (s:bw):List bw:=match s with
 | .FunctionDef _ _ b _ _ _ _ _ _ _=>b
 | _=>[]
def aY (s:bw):fh:=match s with
 | .FunctionDef _ _ _ _ _ _ sc _ _ _=>sc
 | _=>{ kind:=.function,names:=[],isGenerator:=false,isCoroutine:=false }
abbrev CX0:CXT:=λ_ _ _ _ _ _=>False
abbrev E0:XK:=λ_ _ _=>False
def Jj:Passes CX0 X E0:=λ_ _ _ _ _ _ _ h=>h.elim
structure Fun (K:PySem.W.Frag) (x qual:Str) (st:bw) (f:au) (fd:dQ):Prop where
 ex:∃ (oc:ag) (od:Option au) (dV kV doc pm:ag) (an:Option au) (cdv ct:ag) (osl:Array (Option ag)),
  fd = PySem.W.fnOf x qual (eQ st) (cT st) (aY st) dV kV doc pm an cdv ct/\K.lookup f = some ⟨oc,od,.func fd,osl⟩/\PySem.W.codeIn K cdv qual = true
 kp:PySem.W.keepIn K (.ref f) = true
section
variable {P:aR} {w:bB} {K:PySem.W.Frag} {mg:Str->Option ag} {base:bH}
def ud {x qual:Str} {st:bw} {f:au} {oc:ag} {od an:Option au} {osl:Array (Option ag)} {dV kV doc pm cdv ct:ag} (l:K.lookup f = some ⟨oc,od,.func (PySem.W.fnOf x qual (eQ st) (cT st) (aY st) dV kV doc pm an cdv ct),osl⟩)
 (c:PySem.W.codeIn K cdv qual = true) (k:PySem.W.keepIn K (.ref f) = true):Fun K x qual st f (PySem.W.fnOf x qual (eQ st) (cT st) (aY st) dV kV doc pm an cdv ct):=⟨⟨oc,od,dV,kV,doc,pm,an,cdv,ct,osl,rfl,l,c⟩,k⟩
end
section
variable {X:Cx}
end
def AU {A B:Prop} (h:B):if false = true then A else B:=by
 rw [if_neg ak];exact h
def AS {A B:Prop} (h:A):if true = true then A else B:=by
 rw [if_pos rfl];exact h
def fI (H H':Hp):Prop:=∀ b o,H b = some o->H' b = some o
def fI.refl (H:Hp):fI H H:=λ_ _ h=>h
end L2
end
section
namespace L2
open PySem PySem.Spec PyProof.Rows
section
variable {κ:Type} [DecidableEq κ]
def hZ (kvs:List (κ × V)) (k:κ):Option V:=(kvs.find? λkv=>decide (kv.1 = k)).map (·.2)
def putK (kvs:List (κ × V)) (k:κ) (v:V):List (κ × V) :=
 if (kvs.any λkv=>decide (kv.1 = k)) = true then kvs.map (λkv=>if kv.1 = k then (kv.1,v) else kv) else kvs++[(k,v)]
def kq {p:κ × V} {r:List (κ × V)} {k:κ} (e:p.1 = k):hZ (p::r) k = some p.2:=by simp [hZ,fK,e]
def jj {p:κ × V} {r:List (κ × V)} {k:κ} (e:¬ p.1 = k):hZ (p::r) k = hZ r k:=by simp [hZ,fK,e]
def uU (k:κ):∀ kvs:List (κ × V),(kvs.any λkv=>decide (kv.1 = k)) = (hZ kvs k).isSome
 | []=>rfl
 | p::r=>by
   rw [eT];by_cases e:p.1 = k
   . simp only [kq e,decide_eq_true e,nU,Option.isSome_some]
   . rw [jj e,decide_eq_false e,uI];exact uU k r
def nG (kvs:List (κ × V)) (k:κ) (v:V):(putK kvs k v).length<=kvs.length+1:=by
 unfold putK;split
 . rw [aw];lia
 . rw [ay,aG,bf];lia
def DA {kvs:List (κ × V)} {k:κ} (v:V) (h:hZ kvs k = none):putK kvs k v = kvs++[(k,v)]:=by
 unfold putK;rw [uU,h];exact if_neg ⇑0
def RelO.getD {o:Option V} {u:Option ag} {d:V} {d':ag} (r:RelO o u) (rd:RelV d d'):RelV (o.getD d) (u.getD d'):=by
 cases o with
 | none=>cases u with
   | none=>exact rd
   | some _=>exact (show False from r).elim
 | some _=>cases u with
   | none=>exact (show False from r).elim
   | some _=>exact r
def KV.val {kvs:List (κ × V)} {vs:List (κ × ag)} (r:KV kvs vs) (k:κ):RelO (hZ kvs k) (valueAt vs k):=by
 unfold KV at r
 induction r with
 | nil=>exact fk
 | @cons p q ps qs h t ih =>
   obtain ⟨h1,h2⟩:=h;by_cases e:p.1 = k
   . have e':q.1 = k:=h1.symm.trans e;have b:valueAt (q::qs) k = some q.2:=by simp [valueAt,fK,e']
     rw [kq e,b];exact h2
   . have e':¬ q.1 = k:=λz=>e (h1.trans z);have b:valueAt (q::qs) k = valueAt qs k:=by simp [valueAt,fK,e']
     rw [jj e,b];exact ih
def KV.any {kvs:List (κ × V)} {vs:List (κ × ag)} (r:KV kvs vs) (k:κ):(kvs.any λkv=>decide (kv.1 = k)) = vs.any λkv=>decide (kv.1 = k):=by
 unfold KV at r
 induction r with
 | nil=>rfl
 | cons h t ih=>rw [eT,eT,ih,h.1]
def KV.repl {kvs:List (κ × V)} {vs:List (κ × ag)} (r:KV kvs vs) (k:κ) {y:V} {u:ag} (ry:RelV y u) :
 KV (kvs.map λkv=>if kv.1 = k then (kv.1,y) else kv) (vs.map λkv=>if kv.1 = k then (kv.1,u) else kv):=by
 unfold KV at r |-
 induction r with
 | nil=>exact .nil
 | @cons p q ps qs h t ih =>
   rw [az,az];refine .cons ?_ ih;obtain ⟨h1,h2⟩:=h;by_cases e:p.1 = k
   . rw [if_pos e,if_pos (h1.symm.trans e)];exact ⟨h1,ry⟩
   . rw [if_neg e,if_neg (λz=>e (h1.trans z))];exact ⟨h1,h2⟩
def KV.put {kvs:List (κ × V)} {vs:List (κ × ag)} (r:KV kvs vs) (k:κ) {y:V} {u:ag} (ry:RelV y u):KV (putK kvs k y) (stored vs k u):=by
 unfold putK stored;rw [r.any k];by_cases e:(vs.any λkv=>decide (kv.1 = k)) = true
 . rw [if_pos e,if_pos e];exact r.repl k ry
 . rw [if_neg e,if_neg e];exact Paired.snoc r ⟨rfl,ry⟩
def KV.length {kvs:List (κ × V)} {vs:List (κ × ag)} (r:KV kvs vs):kvs.length = vs.length:=Paired.length r
end
def vP {P:aR} {w:bB} {k:Key} {u:ag} (r:RelV (kV k) u):(dh P w).is k u = true:=by
 cases k with
 | inl i=>obtain ⟨t,e⟩:=(show ∃ t,u = nZ i t from r);subst e;exact vG P w i t
 | inr x=>obtain ⟨t,e⟩:=(show ∃ t,u = FG x t from r);subst e;exact vF P w x t
def rL {P:aR} {w:bB}:∀ {ks:List Key} {us:List ag},Vals (ks.map kV) us->ItemsAre (dh P w) ks us
 | [],_,r=>by rw [eK] at r;cases r;exact .nil
 | k::ks,_,r=>by
   rw [az] at r
   cases r with
   | cons h t=>exact .cons (vP h) (rL t)
abbrev KT (H:Hp):List (List Key × V)->List (List Key × au × ag)->Prop:=Paired λp q=>p.1 = q.1/\H q.2.1 = some (.tup (p.1.map kV))/\RelV p.2 q.2.2
def KT.val {H:Hp} {kvs:List (List Key × V)} {xs:List (List Key × au × ag)} (r:KT H kvs xs) (k:List Key):RelO (hZ kvs k) ((atKey xs k).map (·.2)):=by
 induction r with
 | nil=>exact fk
 | @cons p q ps qs h t ih =>
   obtain ⟨h1,_,h2⟩:=h;by_cases e:p.1 = k
   . have e':q.1 = k:=h1.symm.trans e;have b:atKey (q::qs) k = some q.2:=by simp [atKey,fK,e']
     rw [kq e,b];exact h2
   . have e':¬ q.1 = k:=λz=>e (h1.trans z);have b:atKey (q::qs) k = atKey qs k:=by simp [atKey,fK,e']
     rw [jj e,b];exact ih
section
variable {P:aR} {w:bB} {H:Hp} {h:bH} {a:au}
def Jg {u:HO} (ok:HOk P w H h) (e:Rd H a u):eR P w H h a u:=e.ok ok
def vY {kvs:List (Key × V)} (ok:HOk P w H h) (e:Rd H a (.dK kvs)):kvs.length<=sizeLine/\(a == sysModules) = false/\∃ vs,KV kvs vs/\h.DictOf (dh P w) a vs :=
 show eR P w H h a (.dK kvs) from Jg ok e
def Ju {kvs:List (Key × V)} (ok:HOk P w H h) (e:H a = some (.dK kvs)):kvs.length<=sizeLine/\(a == sysModules) = false/\∃ vs,KV kvs vs/\h.DictOf (dh P w) a vs:=vY ok (.inl e)
def xO {ks:List Key} (ok:HOk P w H h) (e:H a = some (.tup (ks.map kV))):(tupleKind (dh P w)).is h ks a:=by
 obtain ⟨_,its,r,o,h1,h2,n,h3⟩:=(show eR P w H h a (.tup (ks.map kV)) from ok a _ e);exact ⟨o,its.toArray,n,h1,h2,h3,by simpa using rL r⟩
def zE {kvs:List (List Key × V)} (ok:HOk P w H h) (e:Rd H a (.dT kvs)):kvs.length<=sizeLine/\(a == sysModules) = false /\
 ∃ xs,KT H kvs xs/\h.DictOfH (tupleKind (dh P w)) a xs:=by
 obtain ⟨z,y,xs,r,o,es,ep,h1,h2,h3,h4,h5⟩:=(show eR P w H h a (.dT kvs) from Jg ok e);refine ⟨z,y,xs,r,o,es,ep,h1,h2,h3,h4,λx hx=>?_,h5⟩
 have all:∀ {l:List (List Key × V)} {m:List (List Key × au × ag)},KT H l m->∀ x∈m,(tupleKind (dh P w)).is h x.1 x.2.1:=by
  intro l m q
  induction q with
  | nil=>intro x hx;exact nomatch hx
  | @cons p q ps qs hq t ih =>
    intro x hx;rcases aD.mp hx with e | hx
    . subst e;exact xO ok (by rw [<- hq.1];exact hq.2.1)
    . exact ih x hx
 exact all r x hx
end
def DGet (H:Hp) (a:au) (y:V) (r:Option V):Prop :=
 (∃ kvs k,Rd H a (.dK kvs)/\y = kV k/\r = hZ kvs k)\/∃ kvs k b,Rd H a (.dT kvs)/\y = .ref b/\H b = some (.tup (k.map kV))/\r = hZ kvs k
section
variable {X:Cx} {pins:List (au × Obj)} {σ:St} {H:Hp} {s:aj} {a:au} {y v:V} {u r:ag} {o:Option V} {A:bo} {E:ag->aj->Prop}
def Inv.big (I:Inv X pins σ H s):sysModules < s.heap.objs.size:=by
 have h:mainGlobals < s.heap.objs.size:=(I.mod.glob.keeps I.bk).lt;exact oa ⇑0 h
def Bb {Q:ag->aj->Prop} (hu:A.units+1 < cLine) (I:Inv X pins σ H s) (g:DGet H a y (some v)) (ry:RelV y u) (h:∀ w' s',Inv X pins σ H s'->RelV v w'->Q w' s') :
 wpAny (model X.prog X.w) A (getItem (.ref a) u) Q E s:=by
 rcases g with ⟨kvs,k,e,ey,l⟩ | ⟨kvs,k,b,e,ey,eb,l⟩
 . subst ey;obtain ⟨z,hd,vs,rel,dd⟩:=vY I.hok e;obtain ⟨w',hw,rw'⟩:=RelO.some_of (v:=v) (o:=valueAt vs k) (by rw [l];exact rel.val k);exact wpAny_getItem_of (vP ry) dd.mapOf hw (h w' _ (I.tok _) rw')
 . subst ey;cases (show u = bA b from ry);obtain ⟨z,hd,xs,rel,dd⟩:=zE I.hok e;obtain ⟨w',hw,rw'⟩:=RelO.some_of (v:=v) (o:=(atKey xs k).map (·.2)) (by rw [l];exact rel.val k);obtain ⟨p,hp,hp2⟩:=aL.mp hw;refine wpAny_getItem_heap (MX hu) (xO I.hok eb) dd hp ?_;rw [hp2];exact h w' _ (I.tok _) rw'
def zG {h':bH} {t':Nat} {ob:HO} (I:Inv X pins σ H s) (mu:Mut (H a)) (hs:iC a s.heap h') (he:∃ q,h'.get? a = some q) (new:eR X.prog X.w (upd H a ob) h' a ob) :
 Inv X pins σ (upd H a ob) { s with heap:=h',toks:=t' } :=
 I.write (x:=a) (e:=a) mu (.inl rfl) (λb q hb z=>(hs.2 b hb).trans z) he new
def EW {P:aR} {w:bB} {H':Hp} {h':bH} {kvs:List (Key × V)} {vs:List (Key × ag)} (z:kvs.length<=sizeLine) (hd:(a == sysModules) = false) (rel:KV kvs vs) (dd:h'.DictOf (dh P w) a vs) :
 eR P w H' h' a (.dK kvs):=⟨z,hd,vs,rel,dd⟩
end
section
variable {X:Cx} {pins:List (au × Obj)} {σ:St} {H:Hp} {s:aj} {a:au} {kvs:List (Key × V)} {k:Key} {u:ag} {A:bo} {E:ag->aj->Prop}
end
def MT (i:aI):Prop:=∀ ov iv,subscripted i false ov iv = operate [ov,iv] (getItem ov iv)
def Gy {prog:aR} {w:bB} {A:bo} {E:ag->aj->Prop} {s:aj} {env:Env} {value slice:aI} {pos:Pos} {T id:String} {Q:ag->aj->Prop}
 (hl:typeLookup (.type T) "__getitem__" = pure (some (.builtin id))) (hs:MT slice)
 (h:wpAny (model prog w) A (eval value env) (λo s₁=>wpAny (model prog w) A (eval slice env) (λi s₂=>s₂.TypeIs o T/\wpAny (model prog w) A (getItem o i) Q E s₂) E s₁) E s) :
 wpAny (model prog w) A (eval (.Subscript value slice pos) env) Q E s:=by
 refine MZ (cg h (λo s₁ h₁=>cg h₁ (λi s₂ h₂=>?_) λ_ _ x=>x) λ_ _ x=>x);obtain ⟨hT,h₂⟩:=h₂;unfold subscriptTail;refine ah ?_;rw [getitemInPython_of_ne hT.not_modules];refine ah (wpAny_specialOf hT hl ?_)
 have fin:wpAny (model prog w) A (subscripted slice false o i) (λr s₃=>wpAny (model prog w) A (letTemporaryGo value o r >>= λ_=>pure r) Q E s₃) E s₂:=by
  rw [hs o i];exact wpAny_operating (cg h₂ (λr s₃ h₃=>ah (wpAny_letTemporaryGo (aJ h₃))) λ_ _ x=>x)
 first
  | exact aJ (ah fin)
  | exact ah (aJ (ah fin))
  | exact ah fin
def wa {X:Cx} {pins:List (au × Obj)} {σ:St} {H:Hp} {s:aj} {a:au} {y:V} {o:Option V} (I:Inv X pins σ H s) (g:DGet H a y o):s.TypeIs (.ref a) "dict":=by
 rcases g with ⟨kvs,k,e,_,_⟩ | ⟨kvs,k,b,e,_,_,_⟩
 . obtain ⟨_,_,vs,_,dd⟩:=vY I.hok e;exact dd.typeIs
 . obtain ⟨_,_,xs,_,dd⟩:=zE I.hok e;exact dd.typeIs
def NG (td ty:TE):TE:=λσ H Q=>td σ H λx H1=>ty σ H1 λy H2=>∃ a v,x = .ref a/\DGet H2 a y (some v)/\Q v H2
section
variable {X:Cx} {o i e value:aI} {pos pos' tpos:Pos} {td ty tv:TE}
def HH (hu:X.A.units+1 < cLine) (ho:PE X o td) (hi:PE X i ty) (hs:MT i):PE X (.Subscript o i pos) (NG td ty):=by
 intro pins s σ H Q I h;refine Gy PySem.F.slot_dict_getitem.lookup hs (thn (ho pins s σ H _ I h) λu s1 ⟨x,H1,I1,rx,q1⟩=>thn (hi pins s1 σ H1 _ I1 q1) λiv s2 ⟨y,H2,I2,ry,a,v,ex,g,q2⟩=>?_);subst ex;obtain rfl:u = bA a:=rx;exact ⟨wa I2 g,Bb hu I2 g ry λw' s3 I3 rw'=>⟨v,H2,I3,rw',q2⟩⟩
end
def vZ {P:aR} {w:bB} {H:Hp} (h:bH) (hb:sysModules < h.objs.size):eR P w H (h.push { cls:=.type "dict",data:=.dict #[] }) h.objs.size (.dK []) :=
 ⟨cA _,beq_eq_false_iff_ne.mpr (Ne.symm (aQ hb)),[],.nil,Heap.DictOf.new h⟩
def Km:TE:=λ_ H Q=>∀ p,H p = none->Q (.ref p) (upd H p (.dK []))
section
variable {X:Cx} {pos:Pos}
def DO:PE X (.Dict [] [] pos) Km:=λpins s σ H Q I h =>
 wpAny_Dict_empty ⟨.ref s.heap.objs.size,_,I.laid (a:=s.heap.objs.size) (o:=.dK []) (t':=s.toks) (λ_ _ q=>ao _ q) (aA _) (vZ s.heap I.big),rfl,h _ (I.hok.fresh (aA _))⟩
end
def xt:List (TE × TE)->St->Hp->(List (V × V)->Hp->Prop)->Prop
 | [],_,H,Q=>Q [] H
 | (tk,tv)::r,σ,H,Q=>tk σ H λx H1=>tv σ H1 λy H2=>xt r σ H2 λps H3=>Q ((x,y)::ps) H3
abbrev VV:List (V × V)->List (ag × ag)->Prop:=Paired λp q=>RelV p.1 q.1/\RelV p.2 q.2
def PPs (X:Cx) (pos:Pos) (keys:List (Option aI)) (values:List aI) (trs:List (TE × TE)):Prop :=
 ∀ (pins:List (au × Obj)) (s:aj) (σ:St) (H:Hp) (Q:List (V × V)->Hp->Prop),Inv X pins σ H s->xt trs σ H Q ->
  wpAny (model X.prog X.w) X.A (evalPairs (pairTrees keys values X.env pos)) (λvs s'=>∃ ps H',Inv X pins σ H' s'/\VV ps vs/\Q ps H') X.xe s
def Hz {X:Cx} {pos:Pos}:PPs X pos [] [] []:=λpins s σ H Q I h=>pairTrees_nil_walk ⟨[],H,I,.nil,h⟩
def vw {X:Cx} {pos:Pos} {k v:aI} {ks:List (Option aI)} {vs:List aI} {tk tv:TE} {trs:List (TE × TE)} (hk:PE X k tk) (hv:PE X v tv) (hr:PPs X pos ks vs trs) :
 PPs X pos (some k::ks) (v::vs) ((tk,tv)::trs):=λpins s σ H Q I h =>
 pairTrees_cons_walk (thn (hk pins s σ H _ I h) λu s1 ⟨x,H1,I1,rx,q1⟩=>thn (hv pins s1 σ H1 _ I1 q1) λw2 s2 ⟨y,H2,I2,ry,q2⟩ =>
  thn (hr pins s2 σ H2 _ I2 q2) λws s3 ⟨ps,H3,I3,rel,q3⟩=>⟨(x,y)::ps,H3,I3,.cons ⟨rx,ry⟩ rel,q3⟩)
def mU (kvs more:List (Key × V)):List (Key × V):=more.foldl (λacc kv=>putK acc kv.1 kv.2) kvs
def KV.merge:∀ {more:List (Key × V)} {rs:List (Key × ag)} {kvs:List (Key × V)} {vs:List (Key × ag)},KV more rs->KV kvs vs->KV (mU kvs more) (merged vs rs):=by
 intro more rs kvs vs r;unfold KV at r
 induction r generalizing kvs vs with
 | nil=>intro q;exact q
 | @cons p q ps qs h t ih =>
   intro r0
   have e:KV (putK kvs p.1 p.2) (stored vs q.1 q.2):=by
    have:=r0.put p.1 h.2;rw [<- h.1];exact this
   exact ih e
def lu:∀ (more kvs:List (Key × V)),(mU kvs more).length<=kvs.length+more.length
 | [],kvs=>by show kvs.length<=kvs.length+0;lia
 | p::r,kvs=>by
   have h1:=lu r (putK kvs p.1 p.2);have h2:=nG kvs p.1 p.2;show (mU (putK kvs p.1 p.2) r).length<=_;rw [aG];lia
def qu {P:aR} {w:bB}:∀ {kvs:List (Key × V)} {ws:List (ag × ag)},VV (kvs.map λkv=>(kV kv.1,kv.2)) ws->∃ rs,Carries (dh P w) ws rs/\KV kvs rs
 | [],_,r=>by rw [eK] at r;cases r;exact ⟨[],fk,.nil⟩
 | p::kvs,_,r=>by
   rw [az] at r
   cases r with
   | @cons a b as bs h t =>
     obtain ⟨rs,c,q⟩:=qu (P:=P) (w:=w) t;obtain ⟨b1,b2⟩:=b;exact ⟨(p.1,b2)::rs,⟨vP h.1,rfl,c⟩,.cons ⟨rfl,h.2⟩ q⟩
def NF (trs:List (TE × TE)):TE:=λσ H Q=>∀ p,H p = none->xt trs σ (upd H p (.dK [])) λps H2=>H2 p = some (.dK [])/\∃ kvs:List (Key × V),ps = kvs.map (λkv=>(kV kv.1,kv.2))/\kvs.length<=15/\Q (.ref p) (upd H2 p (.dK (mU [] kvs)))
def HG {X:Cx} {pos:Pos} {keys:List (Option aI)} {values:List aI} {trs:List (TE × TE)} (h:PPs X pos keys values trs) (hall:keys.all (·.isSome) = true) (hl:keys.length = values.length) (h0:keys≠[])
 (h15:keys.length<=15):PE X (.Dict keys values pos) (NF trs):=by
 intro pins s σ H Q I q;have hn:=I.hok.fresh (aA s.heap.objs.size);have I1:=I.laid (a:=s.heap.objs.size) (o:=.dK []) (h':=s.heap.push { cls:=.type "dict",data:=.dict #[] }) (t':=s.toks) (λ_ _ q=>ao _ q) (aA _) (vZ s.heap I.big);refine wpAny_Dict_walk (knd:=dh X.prog X.w) hall hl h0 h15 (thn (h pins _ σ _ _ I1 (q _ hn)) λws s2 ⟨ps,H2,I2,rel,e,kvs,ep,lk,q2⟩=>?_);subst ep;obtain ⟨rs,c,rk⟩:=qu (P:=X.prog) (w:=X.w) rel;obtain ⟨z,hd,vs0,r0,dd⟩:=Ju I2.hok e;cases r0;refine ⟨rs,c,dd,λh' dd' hs=>⟨.ref s.heap.objs.size,_,?_,rfl,q2⟩⟩
 have hz:(mU [] kvs).length<=sizeLine:=by
  have h1:=lu kvs [];rw [bf] at h1;rw [eU];lia
 have he:∃ q,h'.get? s.heap.objs.size = some q:=let ⟨q,_,_,hq,_⟩:=dd';⟨q,hq⟩
 exact zG I2 (by rw [e];exact fk) hs he (EW hz hd (rk.merge .nil) dd')
structure M1 (X:Cx) (o:aI) (m:Str) (apos:Pos) (e:aI) (cpos:Pos):Prop where
 base:attributeBase o m X.env (eval o X.env) = eval o X.env
 few:((backTo cpos (starEach [e] X.env)).all (λx=>!x.1) && (backToKw cpos (keywordEach [] X.env)).all (λx=>x.1.isSome)
  && decide (([e]:List aI).length+([]:List fL).length+(if ([]:List fL).isEmpty then 0 else 1) < 30)) = true
 line:(apos.endLine == cpos.line) = true
 trees:backTo cpos (starEach [e] X.env) = [(false,eval e X.env)]
structure M2 (X:Cx) (o:aI) (m:Str) (apos:Pos) (e f:aI) (cpos:Pos):Prop where
 base:attributeBase o m X.env (eval o X.env) = eval o X.env
 few:((backTo cpos (starEach [e,f] X.env)).all (λx=>!x.1) && (backToKw cpos (keywordEach [] X.env)).all (λx=>x.1.isSome)
  && decide (([e,f]:List aI).length+([]:List fL).length+(if ([]:List fL).isEmpty then 0 else 1) < 30)) = true
 line:(apos.endLine == cpos.line) = true
 trees:backTo cpos (starEach [e,f] X.env) = [(false,eval e X.env),(false,eval f X.env)]
def IsD (H:Hp) (a:au):Prop:=(∃ kvs,Rd H a (.dK kvs))\/∃ kvs,Rd H a (.dT kvs)
def EF {X:Cx} {pins:List (au × Obj)} {σ:St} {H:Hp} {s:aj} {a:au} (I:Inv X pins σ H s) (d:IsD H a) :
 s.TypeIs (.ref a) "dict"/\(∀ b,bA a = .ref b->∃ ob,s.heap.get? b = some ob/\ob.dict = none)/\(a == sysModules) = false:=by
 rcases d with ⟨kvs,e⟩ | ⟨kvs,e⟩
 . obtain ⟨_,hd,vs,_,dd⟩:=vY I.hok e;refine ⟨dd.typeIs,λb q=>?_,hd⟩;cases q;obtain ⟨ob,_,_,h1,h2,_⟩:=dd;exact ⟨ob,h1,h2.2.1⟩
 . obtain ⟨_,hd,xs,_,dd⟩:=zE I.hok e;refine ⟨dd.typeIs,λb q=>?_,hd⟩;cases q;obtain ⟨ob,_,_,h1,h2,_⟩:=dd;exact ⟨ob,h1,h2.2.1⟩
section
variable {X:Cx} {pins:List (au × Obj)} {σ:St} {H:Hp} {s:aj} {a:au} {y d:V} {u r:ag} {o:Option V} {A:bo} {E:ag->aj->Prop}
def Mq {Q:ag->aj->Prop} (hu:A.units+1 < cLine) (I:Inv X pins σ H s) (g:DGet H a y o) (ry:RelV y u) (rd:RelV d r) (h:∀ w' s',Inv X pins σ H s'->RelV (o.getD d) w'->Q w' s') :
 wpAny (model X.prog X.w) A (call (.builtin "dict.get") [.ref a,u,r]) Q E s:=by
 rcases g with ⟨kvs,k,e,ey,l⟩ | ⟨kvs,k,b,e,ey,eb,l⟩
 . subst ey;obtain ⟨z,hd,vs,rel,dd⟩:=vY I.hok e;refine FF PySem.F.slot_dict_get dd.typeIs PySem.F.entry_dict_get (PySem.F.args_dict_get_3 _ _ _) (meets_dict_get_default (dh X.prog X.w) a (vP ry) hd r) ⟨_,dd.mapOf,h _ _ (I.tok _) ?_⟩;rw [l];exact (rel.val k).getD rd
 . subst ey;cases (show u = bA b from ry);obtain ⟨z,hd,xs,rel,dd⟩:=zE I.hok e;refine FF PySem.F.slot_dict_get dd.typeIs PySem.F.entry_dict_get (PySem.F.args_dict_get_3 _ _ _) (meetsH_dict_get_default (tupleKind (dh X.prog X.w)) a b hd r) ⟨MX hu,k,xs,xO I.hok eb,dd,h _ _ (I.tok _) ?_⟩;rw [l];exact (rel.val k).getD rd
end
def Kn (td ty tx:TE):TE:=λσ H Q=>td σ H λx H1=>∃ a,x = .ref a/\IsD H1 a/\ty σ H1 λy H2=>tx σ H2 λz H3=>∃ o,DGet H3 a y o/\Q (o.getD z) H3
section
variable {X:Cx} {o e f:aI} {apos cpos:Pos} {td ty tx:TE}
def DP (hu:X.A.units+1 < cLine) (ho:PE X o td) (he:PE X e ty) (hf:PE X f tx) (m:M2 X o "get" apos e f cpos):PE X (.Call (.Attribute o "get" apos) [e,f] [] cpos) (Kn td ty tx):=by
 intro pins s σ H Q I h;refine Nf m.base m.few m.line PySem.F.plainAttrs_dict PySem.F.slot_dict_get PySem.F.type_dict_get (thn (ho pins s σ H _ I h) λu s1 ⟨x,H1,I1,rx,a,ex,d,q1⟩=>?_);subst ex;obtain rfl:u = bA a:=rx;obtain ⟨t1,t2,_⟩:=EF I1 d;refine ⟨t1,t2,?_⟩;rw [m.trees]
 refine fW rfl (gM (fM (thn (he pins s1 σ H1 _ I1 q1) λiv s2 ⟨y,H2,I2,ry,q2⟩ =>
  fM (thn (hf pins s2 σ H2 _ I2 q2) λfv s3 ⟨z,H3,I3,rz,ov,g,q3⟩=>nA ?_))))
 exact Mq hu I3 g ry rz λw' s4 I4 rw'=>⟨_,H3,I4,rw',q3⟩
end
section
variable {X:Cx} {pins:List (au × Obj)} {σ:St} {H:Hp} {s:aj} {a:au} {kvs:List (Key × V)} {A:bo} {E:ag->aj->Prop}
end
section
variable {X:Cx} {pins:List (au × Obj)} {σ:St} {H:Hp} {s:aj} {a:au} {y:V} {u:ag} {A:bo} {E:ag->aj->Prop}
end
abbrev TU:=St->Hp->(St->Hp->Prop)->Prop
def PU (X:Cx) (m:Sem Unit) (t:TU):Prop :=
 ∀ (pins:List (au × Obj)) (s:aj) (σ:St) (H:Hp) (Q:St->Hp->Prop),Inv X pins σ H s->t σ H Q ->
  wpAny (model X.prog X.w) X.A m (λ_ s'=>∃ σ' H',Inv X pins σ' H' s'/\Q σ' H') X.xe s
def PTs (X:Cx) (ifs:List aI) (t:TT):Prop :=
 ∀ (pins:List (au × Obj)) (s:aj) (σ:St) (H:Hp) (Q:Bool->Hp->Prop),Inv X pins σ H s->t σ H Q ->
  wpAny (model X.prog X.w) X.A (forIn ifs true λc r=>if r = true then do let ok <- isTrue c X.env (eval c X.env);pure (jv ok) else pure (jv r)) (TP X pins σ Q) X.xe s
section
variable {X:Cx}
def Hx:PTs X [] (λ_ H Q=>Q true H):=λpins s σ H Q I h=>wpAny_tests_nil ⟨H,I,h⟩
def Hw (hc:PT X c t):PTs X [c] t:=λpins s σ H Q I h=>wpAny_tests_one (hc pins s σ H Q I h)
def tLp (J:It) (g:TG) (tt:TT) (tb:TU):TU:=λσ H Q=>∃ W:Nat->Nat->St->Hp->Prop,(∃ m,W 0 m σ H)/\∀ i m σ H,W i m σ H ->
 (J.stop i H/\Q σ H)\/(J.go i H/\∀ x H',J.yld i H x H'->g x σ H' λσ2 H2=>tt σ2 H2 λb H3 =>
   if b = true then tb σ2 H3 λσ4 H4=>∃ m',m' < m/\W (i+1) m' σ4 H4 else ∃ m',m' < m/\W (i+1) m' σ2 H3)
def Jv
 (hx:X.xe = λ_ _=>False) (hc:X.calm = true)
 (hq:(Code.compLoop e d (.ref it) acc X.env).quiet = true)
 (hden:(model X.prog X.w).den (.compLoop e d (.ref it) acc X.env) = (compTurn e d (.ref it) acc X.env).onRaise (λx=>do noteFrame x X.env;theTreesLotGoes x))
 (hund:X.A.under (.compLoop e d (.ref it) acc X.env) = X.A)
 (hturn:compTurn e d (.ref it) acc X.env = (do
   standAt ip
   match <- pyNext (.ref it) with
   | none=>pure (.done .next)
   | some v =>
     letOwnedTupleGo tg (.ref it) v
     assign tg X.env v
     let mut ok:=true
     for c in ifs do
      if ok then ok <- isTrue c X.env (eval c X.env)
     if ok then body
     again (.compLoop e d (.ref it) acc X.env)))
 (T:Turn X.prog X.w X.K tg J fp it tn) (hg:PG X tg g) (ht:PTs X ifs tt) (hb:PU X body tb) {R:Na->aj->Prop}
 {pins:List (au × Obj)} {s:aj} {σ:St} {H:Hp} {Q:St->Hp->Prop} (I:Inv X pins σ H s) (st:tn 0 s.heap) (f:∀ b∈fp,kf X pins H b) (h:tLp J g tt tb σ H Q)
 (hR:∀ s' σ' H',Inv X pins σ' H' s'->Q σ' H'->R (.ok .next) s'):codeAny (model X.prog X.w) X.A (.compLoop e d (.ref it) acc X.env) R s:=by
 obtain ⟨W,⟨m0,w0⟩,turn⟩:=h;have stat:∀ {H':Hp},(∀ b∈fp,H' b = none)->∀ b∈fp,kf X pins H' b:=λhn b hb=>⟨hn b hb,(f b hb).2⟩;refine codeAny_loop hq (λn s'=>∃ i σ' H',Inv X pins σ' H' s'/\tn i s'.heap/\(∀ b∈fp,H' b = none)/\W i n σ' H') ?_ m0 ⟨0,σ,H,I,st,λb hb=>(f b hb).1,w0⟩;rintro n s3 ⟨i,σ3,H3,I3,st3,fr3,w3⟩;rw [hden,hund,hturn];refine wpAny_noted ?_
 have cut:∀ {α:Type} {m:Sem α} {Q:α->aj->Prop} {s:aj} {E':ag->aj->Prop},wpAny (model X.prog X.w) X.A m Q X.xe s->wpAny (model X.prog X.w) X.A m Q E' s:=λz=>by
  rw [hx] at z;exact wpAny_noRaise z
 refine ah (oW (ah ?_));rcases turn i n σ3 H3 w3 with ⟨stop,qn⟩ | ⟨go,step⟩
 . refine cut (thn (T.done X rfl rfl rfl hc i pins s3 σ3 H3 X.xe I3 (stat fr3) st3 stop) λr s4 ⟨hr,I4⟩=>?_);subst hr;exact aJ (hR s4 σ3 H3 I4 qn)
 . refine cut (thn (T.item X rfl rfl rfl hc i pins s3 σ3 H3 X.xe I3 (stat fr3) st3 go) λr s4 ⟨u,hr,h4⟩=>?_);subst hr;refine ah (cut (thn h4 λ_ s5 ⟨x,H5,I5,r5,y5,st5,fr5⟩=>?_));have I5':=I5.pinned (stat fr5) (T.obj _ _ st5);refine ah (cut (thn (hg _ s5 σ3 H5 x u _ I5' r5 (step x H5 y5)) λ_ s6 ⟨σ6,H6,I6,q6⟩=>?_))
   have again:∀ {σ7:St} {H7:Hp} {s7:aj},Inv X (pins++pS fp s5.heap) σ7 H7 s7->(∃ m',m' < n/\W (i+1) m' σ7 H7)->∃ m,m < n/\∃ i σ' H',Inv X pins σ' H' s7/\tn i s7.heap/\(∀ b∈fp,H' b = none)/\W i m σ' H':=λ{σ7 H7 s7} I7 n7=>by
    obtain ⟨m',hm,w7⟩:=n7;refine ⟨m',hm,i+1,σ7,H7,I7.unpinned,T.keep _ _ _ st5 λb hb o e=>(I7.pin (b,o) (aM _ (aM _ (jF hb e)))).1,λb hb=>?_,w7⟩;obtain ⟨o,e,d⟩:=T.obj _ _ st5 b hb;exact (I7.pin (b,o) (aM _ (aM _ (jF hb e)))).2.1
   refine ah (cut (thn (ht _ s6 σ6 H6 _ I6 q6) λok s7 ⟨H7,I7,q7⟩=>?_))
   cases ok with
   | false =>
     rw [if_neg ak] at q7
     exact aJ ⟨rfl,again I7 q7⟩
   | true =>
     rw [if_pos rfl] at q7;refine ah (cut (thn (hb _ s7 σ6 H7 _ I7 q7) λ_ s8 ⟨σ8,H8,I8,q8⟩=>?_));exact aJ ⟨rfl,again I8 q8⟩
end
def iy (env:Env):List (Str × jW)->List (Str × au)->List (Str × au)
 | [],cs=>cs
 | (n,k)::r,cs=>iy env r (if k == .free then (n,(env.cells.lookup n).getD 0)::cs else cs)
def zK:∀ (names:List (Str × jW)) (cs:List (Str × au)),(∀ x,(x,bR)∈names->∃ c,env.cells.lookup x = some c) ->
 (forIn names cs λx r=>match x with | (name,kind)=>(do
   if (kind == bR) = true then do
    let y <- cellOf env name
    pure (jv ((name,y)::r))
   else pure (jv r):Sem (ForInStep (List (Str × au))))) = (pure (iy env names cs):Sem (List (Str × au)))
 | [],cs,_=>rfl
 | (n,k)::r,cs,h=>by
   have ih:=λcs=>zK (env:=env) r cs λx hx=>h x (ai _ hx);rw [qD];by_cases hk:k = .free
   . subst hk;obtain ⟨c,e⟩:=h n av;have e2:cellOf env n = pure c:=by unfold cellOf;rw [e]
     simp only [beq_self_eq_true,if_true,e2,pure_bind,iy,e,Option.getD_some];exact ih _
   . have hb:(k == bR) = false:=by simpa using hk
     simp only [hb,dq,if_false,pure_bind,iy];exact ih _
def Fg (h:∀ x,(x,bR)∈scope.names->∃ c,env.cells.lookup x = some c):closureFor scope env = pure (iy env scope.names []):=by
 have q:=zK (env:=env) scope.names [] h;unfold closureFor;rw [<- bind_pure (pure (iy env scope.names []):Sem _),<- q]
def uq:∀ (names:List (Str × jW)) (cs:List (Str × au)),(∀ x,(x,bR)∈names->∃ c,env.cells.lookup x = some c)->∀ p∈iy env names cs,p∈cs\/env.cells.lookup p.1 = some p.2
 | [],cs,_,p,hp=>.inl hp
 | (n,k)::r,cs,h,p,hp=>by
   unfold iy at hp;have ih:=uq (env:=env) r _ (λx hx=>h x (ai _ hx)) p hp;rcases ih with ih | ih
   . by_cases hk:k = .free
     . subst hk;rw [if_pos ↥0] at ih;rcases aD.mp ih with rfl | ih
       . obtain ⟨c,e⟩:=h n av;right;rw [e];rfl
       . exact .inl ih
     . rw [if_neg (by simpa using hk)] at ih;exact .inl ih
   . exact .inr ih
def ur:∀ (names:List (Str × jW)) (cs:List (Str × au)) (x:Str),((x,bR)∈names\/∃ c,(x,c)∈cs)->∃ c,(x,c)∈iy env names cs
 | [],cs,x,h=>by
   rcases h with h | h
   . cases h
   . exact h
 | (n,k)::r,cs,x,h=>by
   unfold iy;refine ur (env:=env) r _ x ?_;rcases h with h | ⟨c,h⟩
   . rcases aD.mp h with e | h
     . cases e;right;rw [if_pos ↥0];exact ⟨_,av⟩
     . exact .inl h
   . right;split
     . exact ⟨c,ai _ h⟩
     . exact ⟨c,h⟩
def iY {α:Type}:∀ {l:List (Str × α)} {x:Str} {c:α},(x,c)∈l->∃ d,l.lookup x = some d
 | [],_,_,h=>by cases h
 | (y,d)::r,x,c,h=>by
   rw [cQ]
   cases e:x == y with
   | true=>exact ⟨d,rfl⟩
   | false =>
     rcases aD.mp h with q | q
     . cases q;simp at e
     . exact iY q
structure qw (X:Cx) (scope:fh):Prop where
 kind:scope.kind = .function
 nocell:∀ y∈scope.names,y.2≠.cell
 names:∀ y∈scope.names,y.2 = .local->scope.names.lookup y.1 = some .local
 free:∀ x,(x,bR)∈scope.names->X.env.kindOf x = some .cell\/X.env.kindOf x = some .free
def cxC (X:Cx) (scope:fh) (cl:List (Str × au)) (C:au) (Nc:List Str) (s:aj) (H:Hp) (fp:List au):Cx :=
 { X with N:=Nc,s₀:=s,H₀:=H,env:=compEnvC scope cl C X.env,outer:=X.stack,ex:=fp,fn:=λ_=>false,pn:=[],xe:=λ_ _=>False }
def ie {scope:fh} {env:Env}:∀ (names:List (Str × jW)) (x:Str),
 (names.map λ(n,k)=>if (k == bR && env.scope.kind == .function && env.kindOf n == some .cell) then (n,ll) else (n,k)).lookup x =
   (names.lookup x).map λk=>if (k == bR && env.scope.kind == .function && env.kindOf x == some .cell) then ll else k
 | [],x=>rfl
 | (n,k)::r,x=>by
   have ih:=ie (scope:=scope) (env:=env) r x;rw [az]
   cases hx:x == n with
   | true =>
     have e:x = n:=by simpa using hx
     subst e;by_cases hc:(k == bR && env.scope.kind == .function && env.kindOf x == some .cell) = true
     . simp only [hc,if_true,cQ,beq_self_eq_true,eJ]
     . simp only [hc,if_false,cQ,beq_self_eq_true,eJ,dq]
   | false =>
     by_cases hc:(k == bR && env.scope.kind == .function && env.kindOf n == some .cell) = true
     . simp only [hc,if_true,cQ,hx];exact ih
     . simp only [hc,if_false,cQ,hx,dq];exact ih
def nh {scope:fh} {env:Env} {cl:List (Str × au)} {C:au} (x:Str):(compEnvC scope cl C env).kindOf x =
 (scope.names.lookup x).map λk=>if (k == bR && env.scope.kind == .function && env.kindOf x == some .cell) then ll else k:=ie (scope:=scope) (env:=env) scope.names x
def qK (nc:∀ y∈scope.names,y.2≠.cell) (h:(compEnvC scope cl C env).kindOf x = some .cell\/(compEnvC scope cl C env).kindOf x = some .free) :
 scope.names.lookup x = some .free:=by
 rw [nh] at h
 cases e:scope.names.lookup x with
 | none=>rw [e] at h;simp at h
 | some k =>
   rw [e] at h;have hm:=PySem.mem_of_lookup e;have:=nc _ hm;simp only [eJ] at h;cases k<;>simp_all
def rM {X:Cx} {scope:fh} {C:au} {Nc:List Str} {s:aj} {h1:bH} {t1:Nat} {H:Hp} {fp:List au} {pins:List (au × Obj)} {σ:St}
 (S:qw X scope) (I:Inv X pins σ H s) (hf:∀ b∈fp,kf X pins H b) (hfl:∀ b∈fp,b < s.heap.objs.size) (hC:C = s.heap.objs.size) (hns:h1.Ns C λ_=>none) (hk:∀ b o,s.heap.get? b = some o->h1.get? b = some o)
 (hN:∀ i x,i < X.N.length->Nc[i]? = some x->Vis scope x->X.N[i]? = some x/\scope.names.lookup x = some .free) (hl:X.N.length<=Nc.length) :
 Inv (cxC X scope (iy X.env scope.names []) C Nc s H fp) [] (σ++aU (Nc.length - X.N.length) none) H { s with heap:=h1,toks:=t1 }:=by
 have hcl:∀ x,(x,bR)∈scope.names->∃ c,X.env.cells.lookup x = some c:=λx hx=>I.ok.has x (S.free x hx)
 have hlk:∀ x c,(iy X.env scope.names []).lookup x = some c->X.env.cells.lookup x = some c:=λx c e=>by
  have:=uq scope.names [] hcl _ (PySem.mem_of_lookup e);rcases this with z | z
  . cases z
  . exact z
 subst hC
 have neC:∀ x c,(iy X.env scope.names []).lookup x = some c->c < s.heap.objs.size:=λx c e=>by
  obtain ⟨v,z⟩:=I.cell x c (hlk x c e);exact z.lt
 refine ⟨⟨I.ok.mod,S.kind,I.ok.glob,I.ok.blt,aA _,λx y c e1 e2=>I.ok.inj x y c (hlk x c e1) (hlk y c e2),λx hx=>?_,λx c z _=>absurd z ak,I.ok.hd,I.ok.frames,.inl rfl,λb hb=>⟨aQ (hfl b hb),λx c e=>(hf b hb).2.2.2.2.1 x c (hlk x c e)⟩,
  I.bs,bx I.ok.bsz I.sz,λb o e hb=>?_,λb hb hz=>?_,I.stack,I.stkFree⟩,rfl,I.bare,Un.kept hk,⟨_,hns,λi x v e1 e2 e3=>?_⟩,λx c e=>?_,I.hok.fresh (aA _),λx c e=>I.freeC x c (hlk x c e),λp hp=>absurd (show p∈([]:List (au × Obj)) from hp) ↥0,I.hok.kept hk,?_⟩
 . have q:=qK (cl:=iy X.env scope.names []) (C:=s.heap.objs.size) S.nocell hx;obtain ⟨c,hm⟩:=ur (env:=X.env) scope.names [] x (.inl (PySem.mem_of_lookup q));exact iY hm
 . obtain ⟨_,_,_,f3,_⟩:=hf b hb;rcases f3 with z | z
   . exact I.ok.noex b o e z
   . exact absurd (aZ (aH e) (bx I.ok.bsz z)) (bV _)
 . obtain ⟨_,f1,f2,_⟩:=hf b hb;rcases aD.mp (I.stkSub b hz) with q | q
   . exact f1 q
   . exact f2 q
 . have e1:Nc[i]? = some x:=e1
   have hi:i < X.N.length:=by
    by_cases hi:i < X.N.length
    . exact hi
    . rw [bD (by rw [I.len];omega),fV] at e2;split at e2<;>cases e2
   rw [bI (by rw [I.len];exact hi)] at e2
   have vis:Vis scope x:=by
    have e3:Vis (relabel scope X.env) x:=e3;unfold Vis relabel at e3;rw [ie (scope:=scope)] at e3;unfold Vis
    cases q:scope.names.lookup x with
    | none=>rw [q] at e3;simp at e3
    | some k =>
      rw [q] at e3;simp only [eJ] at e3;have:=S.nocell _ (PySem.mem_of_lookup q);cases k<;>simp_all
   obtain ⟨n1,n2⟩:=hN i x hi e1 vis;obtain ⟨m,hn,hl'⟩:=I.loc;have kd:=S.free x (PySem.mem_of_lookup n2)
   have visX:Vis X.env.scope x:=by
    rcases kd with z | z
    . exact .inr (.inl z)
    . exact .inr (.inr z)
   obtain ⟨u,r,l⟩:=hl' i x v n1 e2 visX;refine ⟨u,r,.inr ?_⟩;rcases l with ⟨k,_⟩ | ⟨k,c,ec,z⟩
   . rcases kd with z | z
     . rw [z] at k;cases k
     . rw [z] at k;cases k
   . obtain ⟨c',hm⟩:=ur (env:=X.env) scope.names [] x (.inl (PySem.mem_of_lookup n2));obtain ⟨c2,hc2⟩:=iY hm;have:=hlk x c2 hc2;rw [ec] at this;cases this;refine ⟨?_,c,hc2,?_⟩
     . show (compEnvC scope (iy X.env scope.names []) s.heap.objs.size X.env).kindOf x = some .cell\/(compEnvC scope (iy X.env scope.names []) s.heap.objs.size X.env).kindOf x = some .free;rw [nh,n2];simp only [eJ];split
       . exact .inl rfl
       . exact .inr rfl
     . obtain ⟨o,ho,hd⟩:=z;exact ⟨o,hk _ _ ho,hd⟩
 . obtain ⟨v,o,ho,hd⟩:=I.cell x c (hlk x c e);exact ⟨v,o,hk _ _ ho,hd⟩
 . show _ = Nc.length;rw [ay,gE,I.len];omega
def CI (D:au) (te:TE):TU:=λσ H Q=>te σ H λy H'=>∃ xs,H' D = some (.lst xs)/\xs.length < sizeLine/\Q σ (upd H' D (.lst (xs++[y])))
def yP (he:PE X elt te):PU X (do let _ <- call (.builtin "list.append") [.ref D,<- eval elt X.env]) (CI D te):=by
 intro pins s σ H Q I h;refine ah (thn (he pins s σ H _ I h) λu s1 ⟨y,H1,I1,r1,xs,hD,hz,q⟩=>?_);refine ah (thn (mT pins s1 σ H1 (.ref D) [y] (.ref D) [u] (λ_ H'=>Q σ H') I1 rfl (.cons r1 .nil) ⟨D,xs,y,rfl,rfl,hD,hz,q⟩) λ_ s2 ⟨_,H2,I2,_,q2⟩=>?_);exact aJ ⟨σ,H2,I2,q2⟩
def tLC (k:Nat) (wi:TI) (g:TG) (tt:TT) (te:TE):TE:=λσ H Q=>wi σ H λJ H1=>∀ D,H1 D = none ->
 tLp J g tt (CI D te) (σ++aU k none) (upd H1 D (.lst [])) λ_ H2=>Q (.ref D) H2
def qg
 (I:Inv X pins σ H s) (hf:∀ b∈fp,kf X pins H b) (hC:C = s.heap.objs.size) (J:Inv (cxC X scope cl C Nc s H fp) [] σ' H' s') (hs:iC C s'.heap h2):Inv X pins σ H' { s' with heap:=h2 }:=by
 have hok:HOk X.prog X.w H' h2:=λb ob e=>by
  refine (J.hok b ob e).stay (λc w' hc q=>(hs.2 c ?_).trans q) (λ_ q=>q) λ_ _ q=>q;rintro rfl;have fr:H' c = none:=J.free;rcases hc with rfl | hc
  . rw [fr] at e;cases e
  . rw [fr] at hc;cases hc
 have neC:∀ b o,s.heap.get? b = some o->b≠C:=λb o e=>by rw [hC];exact aQ (aH e)
 refine I.call' (s':={ s' with heap:=h2 }) (ch:=fp) J.os ⟨λb o e n hb hx=>?_,λb o e n hb hx=>?_,λb o e n hx=>J.base.free b o e n hx,λb o e hx=>?_,J.base.tups,J.base.frzs,J.base.tbls⟩ hok J.bare λb hb=>?_
 . exact (hs.2 b (neC b o e)).trans (J.base.keep b o e n hb hx)
 . obtain ⟨sl,z⟩:=J.base.slot b o e n hb hx;exact ⟨sl,(hs.2 b (neC b o e)).trans z⟩
 . obtain ⟨o',z⟩:=J.base.there b o e hx;exact ⟨o',(hs.2 b (neC b o e)).trans z⟩
 . obtain ⟨f0,f1,f2,f3,f4,f5⟩:=hf b hb;exact ⟨f3,f1,f4,f5⟩
def qi
 (S:qw X scope) (I:Inv X pins σ H s) (hf:∀ b∈fp,kf X pins H b) (hfl:∀ b∈fp,b < s.heap.objs.size) (hC:C = s.heap.objs.size) (hn:∀ b∈fp,H' b = none) :
 ∀ b∈fp,kf (cxC X scope (iy X.env scope.names []) C Nc s H fp) [] H' b:=λb hb=>by
 have hcl:∀ x,(x,bR)∈scope.names->∃ c,X.env.cells.lookup x = some c:=λx hx=>I.ok.has x (S.free x hx);obtain ⟨f0,f1,f2,f3,f4,f5⟩:=hf b hb;refine ⟨hn b hb,?_,λz=>?_,.inl hb,λx c e=>?_,λp hp=>absurd (show p∈([]:List (au × Obj)) from hp) ↥0⟩
 . show b≠C;rw [hC];exact aQ (hfl b hb)
 . rcases aD.mp (I.stkSub b z) with q | q
   . exact f1 q
   . exact f2 q
 . have:=uq scope.names [] hcl _ (PySem.mem_of_lookup e);rcases this with z | z
   . cases z
   . exact f4 x c z
def DL
 (hx:X.xe = λ_ _=>False) (hc:X.calm = true) (S:qw X scope) (hN:∀ i x,i < X.N.length->Nc[i]? = some x->Vis scope x->X.N[i]? = some x/\scope.names.lookup x = some .free) (hl:X.N.length<=Nc.length)
 (hi:PI X tg iter wi) (hg:∀ cl C s H fp,PG (cxC X scope cl C Nc s H fp) tg g) (ht:∀ cl C s H fp,PTs (cxC X scope cl C Nc s H fp) ifs tt) (he:∀ cl C s H fp,PE (cxC X scope cl C Nc s H fp) elt te)
 (hs:∀ x,foldedSetIterable iter X.env x = pure x):PE X (.ListComp elt [⟨tg,iter,ifs,0⟩] scope pos) (tLC (Nc.length - X.N.length) wi g tt te):=by
 intro pins s σ H Q I h;rw [eval_ListComp]
 have cutE:∀ {α:Type} {m:Sem α} {Q:α->aj->Prop} {s:aj} {E':ag->aj->Prop},wpAny (model X.prog X.w) X.A m Q X.xe s->wpAny (model X.prog X.w) X.A m Q E' s:=λz=>by
  rw [hx] at z;exact wpAny_noRaise z
 refine Br (use:=none) rfl hs (Fg λx hz=>I.ok.has x (S.free x hz)) S.kind S.names (thn (hi pins s σ H _ I h) λv s1 h1=>thn h1 λitv s2 h2=>?_);obtain ⟨it,fp,tn,J,H2,e,I2,T,st2,f2,q⟩:=h2;subst e;refine cN (hd:=by size_fits) ?_;have hfr:=I2.fresh;have I3:Inv X pins σ (upd H2 s2.heap.objs.size (.lst [])) { s2 with heap:=s2.heap.push { cls:=.type "list",data:=.seq ([]:List ag).toArray } }:=I2.lnew (t':=s2.toks) (its:=[]) .nil (cA _);have st3:tn 0 (s2.heap.push { cls:=.type "list",data:=.seq ([]:List ag).toArray }):=T.keep _ _ _ st2 λb _ o e=>ao _ e
 have fl3:∀ b∈fp,b < s2.heap.objs.size:=λb hb=>by
  obtain ⟨o,e,_⟩:=T.obj _ _ st2 b hb;exact aH e
 have ne3:∀ b∈fp,upd H2 s2.heap.objs.size (.lst []) b = none:=λb hb=>by rw [bh (aQ (fl3 b hb))];exact (f2 b hb).1
 have f3:∀ b∈fp,kf X pins (upd H2 s2.heap.objs.size (.lst [])) b:=λb hb=>⟨ne3 b hb,(f2 b hb).2⟩;have q3:=q s2.heap.objs.size hfr;generalize hH3:upd H2 s2.heap.objs.size (.lst []) = H3 at I3 ne3 f3 q3;generalize hs3:({ s2 with heap:=s2.heap.push { cls:=.type "list",data:=.seq ([]:List ag).toArray } }:aj) = s3 at I3;have hs3h:s3.heap = s2.heap.push { cls:=.type "list",data:=.seq ([]:List ag).toArray }:=by rw [<- hs3]
 rw [<- hs3h] at st3;have fl4:∀ b∈fp,b < s3.heap.objs.size:=λb hb=>by rw [hs3h,cV];exact eZ (fl3 b hb)
 refine IS S.nocell (by intro y hy;simp at hy) (λh1 hns hsb=>?_) S.kind;have keep1:∀ b o,s3.heap.get? b = some o->h1.get? b = some o:=λb o e=>hsb.extBut b o (aQ (aH e)) (ao _ e);have J0:=rM (h1:=h1) (t1:=s3.toks+([]:List (Str × ag)).length) S I3 f3 fl4 rfl (by simpa using hns) keep1 hN hl;have st4:tn 0 h1:=T.keep _ _ _ st3 λb _ o e=>keep1 b o e
 have loop:∀ s4:aj,s4 = { s3 with heap:=h1,toks:=s3.toks+([]:List (Str × ag)).length } ->
  codeAny (model X.prog X.w) X.A (.compLoop (.ListComp elt [⟨tg,iter,ifs,0⟩] scope pos) 0 (.ref it) (.ref s2.heap.objs.size) (compEnvC scope (iy X.env scope.names []) s3.heap.objs.size X.env))
   (compPost (model X.prog X.w) X.A X.xe none (EP X pins σ Q) (.ref s2.heap.objs.size) s3.heap.objs.size) s4:=by
  rintro s4 rfl
  refine Jv (X:=cxC X scope (iy X.env scope.names []) s3.heap.objs.size Nc s3 H3 fp) (ip:=iter.pos) (body:=(do let _ <- call (.builtin "list.append") [.ref s2.heap.objs.size,<- eval elt (compEnvC scope (iy X.env scope.names []) s3.heap.objs.size X.env)]))
   rfl hc rfl rfl rfl (by rw [compTurn_list]<;>rfl) T (hg _ _ _ _ _) (ht _ _ _ _ _) (yP (he _ _ _ _ _)) J0 st4 (qi S I3 f3 fl4 rfl ne3) q3 ?_
  intro s' σ' H' J' q';obtain ⟨m,hn,_⟩:=J'.loc;exact ⟨m,hn,λh2 hs2=>⟨.ref s2.heap.objs.size,H',qg I3 f3 rfl J' hs2,rfl,q'⟩⟩
 exact FE (loop _ rfl) (T.self _ _ _ _ _ st4 (loop _ rfl))
def DE
 (hx:X.xe = λ_ _=>False) (hc:X.calm = true) (S:qw X scope) (hN:∀ i x,i < X.N.length->Nc[i]? = some x->Vis scope x->X.N[i]? = some x/\scope.names.lookup x = some .free) (hl:X.N.length<=Nc.length)
 (hi:PI X tg iter wi) (hg:∀ cl C s H fp,PG (cxC X scope cl C Nc s H fp) tg g) (ht:∀ cl C s H fp,PTs (cxC X scope cl C Nc s H fp) ifs tt) (he:∀ cl C s H fp,PE (cxC X scope cl C Nc s H fp) elt te)
 (hs:∀ x,foldedSetIterable iter X.env x = pure x)
 (hNd:X.N.Nodup) (hy:X.N[i]? = some y) (hv:Loc X.env.scope y) (hf:X.fn y = true\/X.env.scope.names.lookup y = some .local)
 (hsw:swapsWith (.ListComp elt [⟨tg,iter,ifs,0⟩] scope pos) (some (.Name y py)) spos.line X.env = pure true) :
 PS X (.Assign [.Name y py] (.ListComp elt [⟨tg,iter,ifs,0⟩] scope pos) spos) (Gv (tLC (Nc.length - X.N.length) wi g tt te) (vR i)):=by
 intro pins s σ H Q I h;rw [exec_Assign_Name_used _ _ _ _ hsw];refine ah (oW (ah ?_));show wpAny _ X.A (do let _ <- comprehension (.ListComp elt [⟨tg,iter,ifs,0⟩] scope pos) scope X.env _ (newList []) false (eval iter X.env) (some (assign (.Name y py) X.env))) _ _ s
 refine ah (cg (Br (use:=some (assign (.Name y py) X.env)) (Q:=λ_ s'=>SP X pins Q .next s') rfl hs (Fg λx hz=>I.ok.has x (S.free x hz)) S.kind S.names
  (thn (hi pins s σ H _ I h) λv s1 h1=>thn h1 λitv s2 h2=>?_)) (λ_ s' hq=>aJ (aJ hq)) λ_ _ e=>e)
 obtain ⟨it,fp,tn,J,H2,e,I2,T,st2,f2,q⟩:=h2;subst e;refine cN (hd:=by size_fits) ?_;have hfr:=I2.fresh;have I3:Inv X pins σ (upd H2 s2.heap.objs.size (.lst [])) { s2 with heap:=s2.heap.push { cls:=.type "list",data:=.seq ([]:List ag).toArray } }:=I2.lnew (t':=s2.toks) (its:=[]) .nil (cA _);have st3:tn 0 (s2.heap.push { cls:=.type "list",data:=.seq ([]:List ag).toArray }):=T.keep _ _ _ st2 λb _ o e=>ao _ e
 have fl3:∀ b∈fp,b < s2.heap.objs.size:=λb hb=>by
  obtain ⟨o,e,_⟩:=T.obj _ _ st2 b hb;exact aH e
 have ne3:∀ b∈fp,upd H2 s2.heap.objs.size (.lst []) b = none:=λb hb=>by rw [bh (aQ (fl3 b hb))];exact (f2 b hb).1
 have f3:∀ b∈fp,kf X pins (upd H2 s2.heap.objs.size (.lst [])) b:=λb hb=>⟨ne3 b hb,(f2 b hb).2⟩;have q3:=q s2.heap.objs.size hfr;generalize hH3:upd H2 s2.heap.objs.size (.lst []) = H3 at I3 ne3 f3 q3;generalize hs3:({ s2 with heap:=s2.heap.push { cls:=.type "list",data:=.seq ([]:List ag).toArray } }:aj) = s3 at I3;have hs3h:s3.heap = s2.heap.push { cls:=.type "list",data:=.seq ([]:List ag).toArray }:=by rw [<- hs3]
 rw [<- hs3h] at st3;have fl4:∀ b∈fp,b < s3.heap.objs.size:=λb hb=>by rw [hs3h,cV];exact eZ (fl3 b hb)
 refine IS S.nocell (by intro y hy;simp at hy) (λh1 hns hsb=>?_) S.kind;have keep1:∀ b o,s3.heap.get? b = some o->h1.get? b = some o:=λb o e=>hsb.extBut b o (aQ (aH e)) (ao _ e);have J0:=rM (h1:=h1) (t1:=s3.toks+([]:List (Str × ag)).length) S I3 f3 fl4 rfl (by simpa using hns) keep1 hN hl;have st4:tn 0 h1:=T.keep _ _ _ st3 λb _ o e=>keep1 b o e
 have loop:∀ s4:aj,s4 = { s3 with heap:=h1,toks:=s3.toks+([]:List (Str × ag)).length } ->
  codeAny (model X.prog X.w) X.A (.compLoop (.ListComp elt [⟨tg,iter,ifs,0⟩] scope pos) 0 (.ref it) (.ref s2.heap.objs.size) (compEnvC scope (iy X.env scope.names []) s3.heap.objs.size X.env))
   (compPost (model X.prog X.w) X.A X.xe (some (assign (.Name y py) X.env)) (λ_ s'=>SP X pins Q .next s') (.ref s2.heap.objs.size) s3.heap.objs.size) s4:=by
  rintro s4 rfl
  refine Jv (X:=cxC X scope (iy X.env scope.names []) s3.heap.objs.size Nc s3 H3 fp) (ip:=iter.pos) (body:=(do let _ <- call (.builtin "list.append") [.ref s2.heap.objs.size,<- eval elt (compEnvC scope (iy X.env scope.names []) s3.heap.objs.size X.env)]))
   rfl hc rfl rfl rfl (by rw [compTurn_list]<;>rfl) T (hg _ _ _ _ _) (ht _ _ _ _ _) (yP (he _ _ _ _ _)) J0 st4 (qi S I3 f3 fl4 rfl ne3) q3 ?_
  intro s' σ' H' J' q';have hC:H' s3.heap.objs.size = none:=J'.free;obtain ⟨m,hn,_⟩:=J'.loc;have hn:s'.heap.Ns s3.heap.objs.size m:=hn
  -- the frame's state,the block's own names still there
  have I4:Inv X pins σ H' s':=qg I3 f3 rfl J' (Heap.SameBut.refl _ _);obtain ⟨oc,es,ep,ho,hd,hr⟩:=id hn;have above:X.s₀.heap.objs.size<=s3.heap.objs.size:=I3.sz;have hL:s3.heap.objs.size≠X.env.locals:=fu I3.lt;have hfs:s3.heap.objs.size∉X.fs:=I3.nofs (aA _)
  have I5:Inv X (pins++[(s3.heap.objs.size,oc)]) σ H' s':=I4.pins_of λp hp=>by
   rcases aN.mp hp with hp | hp
   . exact I4.pin p (aM _ hp)
   . have:p = (s3.heap.objs.size,oc):=by simpa using hp
     subst this;exact ⟨ho,hC,hL,hfs,λv z=>by rw [hd] at z;cases z⟩
  show wpAny _ _ (assign (.Name y py) X.env (.ref s2.heap.objs.size)) _ _ _;refine Nd (kr (v:=.ref s2.heap.objs.size) I5 hNd hy hv rfl (λs5 I6=>?_) hf);have hp6:=I6.pin (s3.heap.objs.size,oc) (aM _ (aM _ ↥0));refine ⟨m,⟨oc,es,ep,hp6.1,hd,hr⟩,λh' hsb'=>?_⟩;have I7:Inv X pins (σ.set i (some (.ref s2.heap.objs.size))) H' s5:=I6.unpinned;refine ⟨_,H',I7.turned (h':=h') (t':=s5.toks) (it:=s3.heap.objs.size) (λb o hb e=>(hsb'.2 b hb).trans e) hC hL (.inr above) (λx c e z=>?_) (λp hp z=>?_),q'⟩
  . obtain ⟨v,o,hoc,hdc⟩:=I3.cell x c e;have:=aH hoc;rw [z] at this;exact absurd this (bV _)
  . have hq:=(I3.pin p hp).1;have:=aH hq;rw [z] at this;exact absurd this (bV _)
 exact FE (loop _ rfl) (T.self _ _ _ _ _ st4 (loop _ rfl))
section
variable {X:Cx}
def Pj:V->Option Int->Option Int->Hp->VK->Prop:=λx lo hi H Q=>∃ t,x = .str t/\t.length<=sizeLine/\Q (.str (Txt.slice t lo hi)) H
def part_of {v:ag} {lo:Option Int} (h:qB v lo):∃ l:Option (Int × Tok),v = partValue l/\l.map (·.1) = lo:=by
 cases h with
 | none=>exact ⟨none,rfl,rfl⟩
 | int i t=>exact ⟨some (i,t),rfl,rfl⟩
def Kz:SlR X Pj:=by
 intro pins s σ H x v vl vu lo hi sl Q I rx hs pl pu h;obtain ⟨t,rfl,hz,q⟩:=h;obtain ⟨k,rfl⟩:=rx;obtain ⟨l,rfl,rfl⟩:=part_of pl;obtain ⟨u,rfl,rfl⟩:=part_of pu;refine ⟨"str",_,PySem.F.slot_str_getitem.lookup,yh _ _ _,wpAny_getItem_str_slice (l:=l) (u:=u) (st:=none) hs rfl ?_⟩;exact post_val_or_str ⟨bx (Txt.slice_le t _ _) hz,λt' k=>⟨.str _,H,I.tok _,⟨_,rfl⟩,q⟩⟩
end
end L2
end
section
namespace PP
open PySem PySem.W PyProof.Rows
def ans {α:Type} (lt:Nat->Nat->Bool):KasT α->α
 | .ret a=>a
 | .ask i j k=>ans lt (k (lt i j))
def dH {α β:Type} (lt:Nat->Nat->Bool) (f:α->KasT β):∀ t:KasT α,ans lt (t.bind f) = ans lt (f (ans lt t))
 | .ret a=>rfl
 | .ask i j k=>by
   show ans lt ((k (lt i j)).bind f) = _;rw [dH lt f (k (lt i j))];rfl
def fc {α:Type} (lt:Nat->Nat->Bool) (i j:Nat) (k:Bool->KasT α):ans lt (.ask i j k) = ans lt (k (lt i j)):=rfl
def gY {α:Type} (lt:Nat->Nat->Bool) (a:α):ans lt (.ret a) = a:=rfl
structure Ord (lt:Nat->Nat->Bool):Prop where
 as:∀ a b,lt a b = true->lt b a = false
 tr:∀ a b c,lt b a = false->lt c b = false->lt c a = false
section
variable {lt:Nat->Nat->Bool} (O:Ord lt)
def Up (lt:Nat->Nat->Bool) (p:Array Nat) (m:Nat):Prop:=∀ i j,i<=j->j < m->lt (p.getD j 0) (p.getD i 0) = false
def Dn' (lt:Nat->Nat->Bool) (p:Array Nat) (m:Nat):Prop:=∀ i j,i<=j->j < m->lt (p.getD i 0) (p.getD j 0) = false
include O
theorem Ord.refl (a:Nat):lt a a = false:=by
 cases h:lt a a with
 | false=>rfl
 | true=>have:=O.as a a h;rw [h] at this;cases this
theorem Up.one (p:Array Nat):Up lt p 1:=λi j h1 h2=>by
 have e1:j = 0:=by lia
 have e2:i = 0:=by lia
 subst e1;subst e2;exact O.refl _
theorem Up.more {p:Array Nat} {n:Nat} (h:Up lt p n) (hn:1<=n) (h2:lt (p.getD n 0) (p.getD (n - 1) 0) = false):Up lt p (n+1):=λi j h3 h4=>by
 by_cases e:j = n
 . subst e;by_cases e':i = j
   . subst e';exact O.refl _
   . exact O.tr _ _ _ (h i (j - 1) ∅ ∅) h2
 . exact h i j h3 ∅
theorem Dn'.more {p:Array Nat} {n:Nat} (h:Dn' lt p n) (hn:1<=n) (h2:lt (p.getD (n - 1) 0) (p.getD n 0) = false):Dn' lt p (n+1):=λi j h3 h4=>by
 by_cases e:j = n
 . subst e;by_cases e':i = j
   . subst e';exact O.refl _
   . exact O.tr _ _ _ h2 (h i (j - 1) ∅ ∅)
 . exact h i j h3 ∅
theorem yc (p:Array Nat):∀ (f n:Nat),1<=n->Up lt p n->n<=ans lt (kas_asc p f n)/\ans lt (kas_asc p f n)<=n+f/\Up lt p (ans lt (kas_asc p f n))/\(ans lt (kas_asc p f n) < n+f->lt (p.getD (ans lt (kas_asc p f n)) 0) (p.getD (ans lt (kas_asc p f n) - 1) 0) = true)
 | 0,n,_,h=>⟨aA _,aA _,h,λz=>absurd z (bV _)⟩
 | f+1,n,hn,h=>by
   unfold kas_asc;rw [fc]
   cases c:lt (p.getD n 0) (p.getD (n - 1) 0) with
   | true =>
     rw [if_pos rfl,gY]
     exact ⟨aA _,∅,h,λ_=>c⟩
   | false =>
     rw [if_neg ak];obtain ⟨a1,a2,a3,a4⟩:=yc p f (n+1) ∅ (h.more O hn c);exact ⟨∅,∅,a3,λz=>a4 ∅⟩
omit O in
theorem getD_eq (p:Array Nat) (k:Nat):p.getD k 0 = (p[k]?).getD 0:=by
 simp [Array.getD_eq_getD_getElem?]
omit O in
theorem iJ (hj:j<=p.size) (k:Nat):(kas_rev p i j).getD k 0 = if i<=k/\k < j then p.getD (i+j - 1 - k) 0 else p.getD k 0:=by
 rw [getD_eq,kas_rev,getElem?_mirror hj ((j - i) / 2) ∅ k];by_cases h:i<=k/\k < j
 . rw [if_pos h];by_cases h2:(i<=k/\k < i+(j - i) / 2)\/(j - (j - i) / 2<=k/\k < j)
   . rw [if_pos h2,getD_eq]
   . rw [if_neg h2,getD_eq];have:i+j - 1 - k = k:=by lia
     rw [this]
 . rw [if_neg h];by_cases h2:(i<=k/\k < i+(j - i) / 2)\/(j - (j - i) / 2<=k/\k < j)
   . exfalso;lia
   . rw [if_neg h2,getD_eq]
omit O in
theorem ic (p:Array Nat) (i j:Nat):(kas_rev p i j).size = p.size:=mirror_size _ _ _ _
omit O in
theorem eE (p:Array Nat) (i j:Nat):(kas_rev p i j).Perm p:=mirror_perm _ _ _ _
theorem Dn'.rev (h:Dn' lt p n) (hn:n<=p.size):Up lt (kas_rev p 0 n) n:=λi j h1 h2=>by
 rw [iJ hn,iJ hn,if_pos ⟨∅,h2⟩,if_pos ⟨∅,∅⟩];exact h _ _ ∅ ∅
def Eqv (lt:Nat->Nat->Bool) (p:Array Nat) (a b:Nat):Prop:=∀ i j,a<=i->i < b->a<=j->j < b->lt (p.getD i 0) (p.getD j 0) = false
theorem Dn'.turn (h:Dn' lt p n) (hn:n<=p.size) (e:Eqv lt p a n):Dn' lt (kas_rev p a n) n:=λi j h1 h2=>by
 rw [iJ hn,iJ hn];by_cases hi:a<=i
 . rw [if_pos ⟨hi,∅⟩,if_pos ⟨∅,h2⟩];exact e _ _ ∅ ∅ ∅ ∅
 . rw [if_neg ∅];by_cases hj:a<=j
   . rw [if_pos ⟨hj,h2⟩];exact h _ _ ∅ ∅
   . rw [if_neg ∅];exact h _ _ h1 h2
theorem oQ:∀ (f:Nat) (p:Array Nat) (n q:Nat),1<=n->q < n->n+f<=p.size->Dn' lt p n->Eqv lt p (n - (q+1)) n ->
 let r:=ans lt (kas_desc f p n q)
 r.1.size = p.size/\r.1.Perm p/\n<=r.2.1/\r.2.1<=n+f/\r.2.2 < r.2.1/\Dn' lt r.1 r.2.1/\Eqv lt r.1 (r.2.1 - (r.2.2+1)) r.2.1
 | 0,p,n,q,hn,hq,hz,h,e=>⟨rfl,cF _,aA _,aA _,hq,h,e⟩
 | f+1,p,n,q,hn,hq,hz,h,e=>by
   unfold kas_desc;rw [fc]
   cases c:lt (p.getD n 0) (p.getD (n - 1) 0) with
   | true =>
     rw [if_pos rfl];have c':=O.as _ _ c
     have one:∀ p':Array Nat,Eqv lt p' (n+1 - (0+1)) (n+1):=λp' i j h1 h2 h3 h4=>by
      have e1:i = j:=by lia
      rw [e1];exact O.refl _
     by_cases hq0:q > 0
     . rw [if_pos hq0]
       have hT:Dn' lt (kas_rev p (n - (q+1)) n) (n+1):=by
        refine (h.turn O ∅ e).more O hn ?_;rw [iJ ∅,iJ ∅,if_pos ⟨∅,∅⟩,if_neg ∅];exact O.tr _ _ _ c' (e _ _ ∅ ∅ ∅ ∅)
       obtain ⟨a1,a2,a3,a4,a5,a6,a7⟩:=oQ f (kas_rev p (n - (q+1)) n) (n+1) 0 ∅ ∅ (by rw [ic];lia) hT (one _);exact ⟨by rw [a1,ic],a2.trans (eE _ _ _),∅,∅,a5,a6,a7⟩
     . rw [if_neg hq0];obtain ⟨a1,a2,a3,a4,a5,a6,a7⟩:=oQ f p (n+1) 0 ∅ ∅ ∅ (h.more O hn c') (one _)
       exact ⟨a1,a2,∅,∅,a5,a6,a7⟩
   | false =>
     rw [if_neg ak,fc]
     cases d:lt (p.getD (n - 1) 0) (p.getD n 0) with
     | true =>
       rw [if_pos rfl,gY]
       exact ⟨rfl,cF _,aA _,IY _ _,hq,h,e⟩
     | false =>
       rw [if_neg ak]
       have hE:Eqv lt p (n+1 - (q+1+1)) (n+1):=λi j h1 h2 h3 h4=>by
        by_cases ei:i = n
        . subst ei;by_cases ej:j = i
          . subst ej;exact O.refl _
          . exact O.tr _ _ _ (e _ _ ∅ ∅ ∅ ∅) c
        . by_cases ej:j = n
          . subst ej;exact O.tr _ _ _ d (e _ _ ∅ ∅ ∅ ∅)
          . exact e _ _ ∅ ∅ ∅ ∅
       obtain ⟨a1,a2,a3,a4,a5,a6,a7⟩:=oQ f p (n+1) (q+1) ∅ ∅ ∅ (h.more O hn d) hE;exact ⟨a1,a2,∅,∅,a5,a6,a7⟩
theorem uZ (p:Array Nat) (n m:Nat) (hn:1<=n) (hm:n<=m) (hz:m<=p.size) (h:Dn' lt p n) :
 let r:=ans lt (kas_tail3 n m p)
 r.2.size = p.size/\r.2.Perm p/\1<=r.1/\r.1<=m/\Up lt r.2 r.1:=by
 unfold kas_tail3;rw [dH,gY];obtain ⟨a1,a2,a3,_⟩:=yc O (kas_rev p 0 n) (m - n) n hn (h.rev O ∅);exact ⟨ic _ _ _,eE _ _ _,∅,∅,a3⟩
theorem nM (p:Array Nat) (n m:Nat) (hn:1<=n) (hm:n < m) (hz:m<=p.size) (h:Dn' lt p (n+1)) :
 let r:=ans lt (kas_descPart n m p)
 r.2.size = p.size/\r.2.Perm p/\1<=r.1/\r.1<=m/\Up lt r.2 r.1:=by
 unfold kas_descPart;rw [dH]
 have one:Eqv lt p (n+1 - (0+1)) (n+1):=λi j h1 h2 h3 h4=>by
  have e1:i = j:=by lia
  rw [e1];exact O.refl _
 obtain ⟨a1,a2,a3,a4,a5,a6,a7⟩:=oQ O (m - (n+1)) p (n+1) 0 ∅ ∅ ∅ h one;generalize ans lt (kas_desc (m - (n+1)) p (n+1) 0) = r at a1 a2 a3 a4 a5 a6 a7;by_cases hq:r.2.2 > 0
 . rw [if_pos hq];obtain ⟨b1,b2,b3,b4,b5⟩:=uZ O (kas_rev r.1 (r.2.1 - (r.2.2+1)) r.2.1) r.2.1 m ∅ ∅ (by rw [ic];lia) (a6.turn O ∅ a7);exact ⟨by rw [b1,ic,a1],(b2.trans (eE _ _ _)).trans a2,b3,b4,b5⟩
 . rw [if_neg hq];obtain ⟨b1,b2,b3,b4,b5⟩:=uZ O r.1 r.2.1 m ∅ ∅ ∅ a6;exact ⟨by rw [b1,a1],b2.trans a2,b3,b4,b5⟩
theorem Fc (p:Array Nat) (m:Nat) (hm:1<=m) (hz:m<=p.size) :
 let r:=ans lt (kas_count m p)
 r.2.size = p.size/\r.2.Perm p/\1<=r.1/\r.1<=m/\Up lt r.2 r.1:=by
 unfold kas_count;rw [dH];obtain ⟨a1,a2,a3,a4⟩:=yc O p (m - 1) 1 (aA _) (Up.one O p);generalize ans lt (kas_asc p (m - 1) 1) = n at a1 a2 a3 a4;by_cases e:(n == m) = true
 . rw [if_pos e,gY];exact ⟨rfl,cF _,a1,∅,a3⟩
 . rw [if_neg e];have ne:n≠m:=λz=>e (by rw [z];simp);have c:=a4 ∅;by_cases h1:n > 1
   . rw [if_pos h1,fc]
     cases d:lt (p.getD 0 0) (p.getD (n - 1) 0) with
     | true =>
       rw [if_pos rfl,gY]
       exact ⟨rfl,cF _,a1,∅,a3⟩
     | false =>
       rw [if_neg ak]
       have hE:Eqv lt p 0 n:=λi j _ hi _ hj=>by
        have x1:lt (p.getD 0 0) (p.getD j 0) = false:=O.tr _ _ _ (a3 j (n - 1) ∅ ∅) d;exact O.tr _ _ _ x1 (a3 0 i ∅ hi)
       have hD:Dn' lt (kas_rev p 0 n) (n+1):=by
        refine (Dn'.turn O (p:=p) (n:=n) (a:=0) (λi j hi hj=>hE i j ∅ ∅ ∅ (by omega)) ∅ hE).more O a1 ?_;rw [iJ ∅,iJ ∅,if_pos ⟨∅,∅⟩,if_neg ∅];exact O.tr _ _ _ (O.as _ _ c) (hE _ _ ∅ ∅ ∅ ∅)
       obtain ⟨b1,b2,b3,b4,b5⟩:=nM O (kas_rev p 0 n) n m a1 ∅ (by rw [ic];omega) hD;exact ⟨by rw [b1,ic],b2.trans (eE _ _ _),b3,b4,b5⟩
   . rw [if_neg h1];have e1:n = 1:=by lia
     subst e1
     have hD:Dn' lt p (1+1):=by
      refine Dn'.more O (n:=1) (λi j h1 h2=>?_) (aA _) (O.as _ _ c);have e1:i = j:=by lia
      rw [e1];exact O.refl _
     exact nM O p 1 m (aA _) ∅ hz hD
theorem pQ (p:Array Nat) (k:Nat) (h:Up lt p k):∀ (f l r:Nat),l<=r->r<=k->r - l<=f->(∀ i,i < l->lt (p.getD k 0) (p.getD i 0) = false)->(∀ i,r<=i->i < k->lt (p.getD i 0) (p.getD k 0) = false) ->
 let x:=ans lt (kas_place p k f l r)
 x<=k/\(∀ i,i < x->lt (p.getD k 0) (p.getD i 0) = false)/\∀ i,x<=i->i < k->lt (p.getD i 0) (p.getD k 0) = false
 | 0,l,r,h1,h2,h3,h4,h5=>by
   have e:l = r:=by lia
   subst e
   exact ⟨h2,h4,h5⟩
 | f+1,l,r,h1,h2,h3,h4,h5=>by
   unfold kas_place;by_cases hlr:l ≥ r
   . rw [if_pos hlr,gY];have e:l = r:=by lia
     subst e;exact ⟨h2,h4,h5⟩
   . rw [if_neg hlr,fc]
     cases c:lt (p.getD k 0) (p.getD ((l+r) / 2) 0) with
     | true =>
       rw [if_pos rfl];refine pQ p k h f l ((l+r) / 2) ∅ ∅ ∅ h4 λi hi hk=>?_
       exact O.tr _ _ _ (O.as _ _ c) (h _ i (by omega) hk)
     | false =>
       rw [if_neg ak];refine pQ p k h f ((l+r) / 2+1) r ∅ h2 ∅ (λi hi=>?_) h5;exact O.tr _ _ _ (h i ((l+r) / 2) ∅ ∅) c
theorem Fs:∀ (f:Nat) (p:Array Nat) (k:Nat),k+f<=p.size->Up lt p k ->
 let r:=ans lt (kas_bin f p k)
 r.size = p.size/\r.Perm p/\Up lt r (k+f)
 | 0,p,k,_,h=>⟨rfl,cF _,h⟩
 | f+1,p,k,hz,h=>by
   unfold kas_bin;rw [dH];obtain ⟨a1,a2,a3⟩:=pQ O p k h k 0 k ∅ ∅ ∅ (λi hi=>by lia) (λi h1 h2=>by lia);generalize ans lt (kas_place p k k 0 k) = l at a1 a2 a3
   have bg:∀ t,(bubble p k (k - l)).getD t 0 = if t = l then p.getD k 0 else if l < t/\t<=k then p.getD (t - 1) 0 else p.getD t 0:=λt=>by
    rw [getD_eq,getElem?_bubble ∅ (k - l) ∅ t];have e1:k - (k - l) = l:=by lia
    rw [e1];by_cases h1:t = l
    . rw [if_pos h1,if_pos h1,getD_eq]
    . rw [if_neg h1,if_neg h1];by_cases h2:l < t/\t<=k
      . rw [if_pos h2,if_pos h2,getD_eq]
      . rw [if_neg h2,if_neg h2,getD_eq]
   have hU:Up lt (bubble p k (k - l)) (k+1):=λi j h1 h2=>by
    rw [bg i,bg j];by_cases i1:i = l
    . rw [if_pos i1];by_cases j1:j = l
      . rw [if_pos j1];exact O.refl _
      . rw [if_neg j1,if_pos ⟨∅,∅⟩];exact a3 _ ∅ ∅
    . rw [if_neg i1];by_cases i2:l < i/\i<=k
      . rw [if_pos i2,if_neg ∅,if_pos ⟨∅,∅⟩];exact h _ _ ∅ ∅
      . rw [if_neg i2];by_cases j1:j = l
        . rw [if_pos j1];exact a2 i ∅
        . rw [if_neg j1];by_cases j2:l < j/\j<=k
          . rw [if_pos j2];exact h _ _ ∅ ∅
          . rw [if_neg j2];exact h _ _ h1 ∅
   obtain ⟨b1,b2,b3⟩:=Fs f (bubble p k (k - l)) (k+1) (by rw [bubble_size];lia) hU;exact ⟨by rw [b1,bubble_size],b2.trans (IX _ _ _),by rw [show k+(f+1) = k+1+f by lia];exact b3⟩
theorem GB (n:Nat) (hn:1<=n) :
 let r:=ans lt (kas_sort n)
 r.size = n/\r.Perm (fo (bK n))/\Up lt r n:=by
 unfold kas_sort;rw [dH];have hs:(fo (bK n)).size = n:=by simp
 obtain ⟨a1,a2,a3,a4,a5⟩:=Fc O (fo (bK n)) n hn ∅;generalize ans lt (kas_count n (fo (bK n))) = r at a1 a2 a3 a4 a5;by_cases h:r.1 < n
 . rw [if_pos h];have e:max r.1 1 = r.1:=by lia
   rw [e];obtain ⟨b1,b2,b3⟩:=Fs O (n - r.1) r.2 r.1 ∅ a5;have e2:r.1+(n - r.1) = n:=by lia
   rw [e2] at b3;exact ⟨∅,b2.trans a2,b3⟩
 . rw [if_neg h,gY];have e:r.1 = n:=by lia
   exact ⟨∅,a2,by rw [<- e];exact a5⟩
end
end PP
end
section
namespace PP
open PySem
set_option genInjectivity true in
inductive D where
 | non | bl (b:Bool) | int (i:Int) | str (x:Str) | lst (ds:List D) | tup (ds:List D) | fn (k:Nat) (ds:List D) | dct (ks:List Str) (ds:List D)
 deriving Inhabited
mutual
noncomputable def eqD:D->D->Bool
 | .non,.non=>true
 | .bl a,.bl b=>a == b
 | .bl a,.int b=>(if a then 1 else 0) == b
 | .int a,.bl b=>a == (if b then 1 else 0)
 | .int a,.int b=>a == b
 | .str a,.str b=>a == b
 | .lst a,.lst b=>fm a b
 | .tup a,.tup b=>fm a b
 | _,_=>false
noncomputable def fm:List D->List D->Bool
 | [],[]=>true
 | x::xs,y::ys=>eqD x y && fm xs ys
 | _,_=>false
end
mutual
noncomputable def ltD:D->D->Option Bool
 | .int a,.int b=>some (decide (a < b))
 | .str a,.str b=>some (decide (a.cps.toList < b.cps.toList))
 | .tup a,.tup b=>dv a b
 | _,_=>none
noncomputable def dv:List D->List D->Option Bool
 | [],[]=>some false
 | [],_::_=>some true
 | _::_,[]=>some false
 | x::xs,y::ys=>if eqD x y = true then dv xs ys else ltD x y
end
mutual
noncomputable def dep:D->Nat
 | .lst ds | .tup ds=>cb ds+1
 | .fn _ _=>100000
 | .dct _ _=>100000
 | _=>0
noncomputable def cb:List D->Nat
 | []=>0
 | x::xs=>max (dep x) (cb xs)
end
mutual
noncomputable def lf:D->Bool
 | .lst _=>false
 | .fn _ _=>false
 | .dct _ _=>false
 | .tup ds=>lfL ds
 | _=>true
noncomputable def lfL:List D->Bool
 | []=>true
 | x::xs=>lf x && lfL xs
end
def flat:D->Bool
 | .non | .bl _ | .int _ | .str _=>true
 | _=>false
def tv:D->Option Bool
 | .non=>some false
 | .bl b=>some b
 | .int i=>some (i != 0)
 | .str x=>if x.length<=sizeLine then some ((x.length:Int) != 0) else none
 | .lst ds | .tup ds=>some (!ds.isEmpty)
 | .fn _ _=>none
 | .dct _ _=>none
inductive Op where
 | add | sub | mul | mod | fdiv | pow
 deriving DecidableEq
inductive Cop where
 | lt | le | gt | eq | ne | isin | notin | is | isnot
 deriving DecidableEq
inductive Blt where
 | len | min | max | toInt | toTup | toLst | all | any | sum | sorted | isList | isTup
 deriving DecidableEq
def rH (i j:Int):Bool:=(decide (-(2 ^ 64) < i) && decide (i < 2 ^ 64)) || (decide (-(2 ^ 64) < j) && decide (j < 2 ^ 64)) || (decide (i.natAbs < 2 ^ 200) && decide (j.natAbs < 2 ^ 200))
def qG (x:Str) (n:Nat):Str:=⟨(aU n x.cps.toList).flatten.toArray⟩
def MO:D->D->Option D
 | .int a,.int b=>some (.int (a+b))
 | .str a,.str b=>if a.length+b.length<=sizeLine then some (.str (a++b)) else none
 | .tup [],.tup b=>some (.tup b)
 | .tup (x::a),.tup b=>if (x::a).length+b.length<=sizeLine then some (.tup (x::a++b)) else none
 | .lst a,.lst b=>if a.length+b.length<=sizeLine then some (.lst (a++b)) else none
 | _,_=>none
def Bp:D->D->Option D
 | .int a,.int b=>some (.int (a+b))
 | _,_=>none
def Ko:D->D->Option D
 | .int a,.int b=>some (.int (a - b))
 | _,_=>none
def LJ:D->D->Option D
 | .int a,.int b=>if rH a b then some (.int (a * b)) else none
 | .str a,.int b=>if 0<=b/\b<=1000/\a.length<=1000 then some (.str (qG a b.toNat)) else none
 | _,_=>none
def LL:D->D->Option D
 | .int a,.int b=>if 0 < b then some (.int (a % b)) else none
 | _,_=>none
def EO:D->D->Option D
 | .int a,.int b=>if 0 < b/\b < 1000000000000000000000000000000000000000000000000000000000000 then some (.int (a / b)) else none
 | _,_=>none
def La:D->D->Option D
 | .int a,.int b=>if 0<=b/\b<=1000000/\a.natAbs < 2 ^ 64 then some (.int (a ^ b.toNat)) else none
 | _,_=>none
def opD:Op->D->D->Option D
 | .add=>MO | .sub=>Ko | .mul=>LJ | .mod=>LL | .fdiv=>EO | .pow=>La
def kin:D->D->Bool
 | .bl _,.bl _ | .int _,.int _ | .str _,.str _ | .lst _,.lst _ | .tup _,.tup _=>true
 | _,_=>false
def fU (a b:D):Bool:=kin a b && decide (min (dep a) (dep b)<=150) && decide (max (dep a) (dep b) < 100000)
def Om:D->D->Bool
 | .int _,.str _=>true
 | .str _,.int _=>true
 | _,_=>false
def Lm (p:Int->Int->Bool):D->D->Option Bool
 | .int a,.int b=>some (p a b)
 | _,_=>none
def LH (y x:Str):Bool:=!(pf y x 0 y.length 1).isEmpty
def inD (a:D):D->Option Bool
 | .lst ds=>if dep a<=150/\cb ds < 99999 then some (ds.any λy=>eqD y a) else none
 | .tup ds=>if dep a<=150/\cb ds < 99999 then some (ds.any λy=>eqD y a) else none
 | .str y=>match a with
   | .str x=>some (LH y x)
   | _=>none
 | _=>none
def iX (a b:D):Option Bool:=if min (dep a) (dep b)<=150/\max (dep a) (dep b) < 100000 then ltD a b else none
def fR (ds:List D) (i j:Nat):Bool:=(iX (ds.getD i .non) (ds.getD j .non)).getD false
def jX (ds:List D):List D:=if ds.length < 2 then ds else (ans (fR ds) (PySem.W.kas_sort ds.length)).toList.map λi=>ds.getD i .non
def bJ:D->Nat
 | .str _=>1
 | .int _=>2
 | .tup (.str _::_)=>3
 | .tup (.int _::_)=>4
 | _=>0
def sortable (ds:List D):Bool:=decide (ds.length < 64) && (ds.all λx=>bJ x != 0 && bJ x == bJ (ds.getD 0 .non)) && ds.all λx=>ds.all λy=>(iX x y).isSome
mutual
noncomputable def hb:D->Bool
 | .str _ | .int _=>true
 | .tup ds=>hbL ds
 | _=>false
noncomputable def hbL:List D->Bool
 | []=>true
 | d::ds=>hb d && hbL ds
end
def Md:D->Bool
 | .non=>true
 | _=>false
def isD (a:D):D->Option Bool
 | .non=>some (Md a)
 | .bl b=>match a with
   | .bl c=>some (c == b)
   | _=>none
 | _=>none
def leD:D->D->Option Bool
 | .int a,.int b=>some (decide (a<=b))
 | .str a,.str b=>some (!decide (b.cps.toList < a.cps.toList))
 | _,_=>none
def jT:Cop->D->D->Option Bool
 | .lt,x,y=>iX x y
 | .le,x,y=>leD x y
 | .gt,x,y=>Lm (λa b=>decide (b < a)) x y
 | .eq,a,b=>if fU a b then some (eqD a b) else if Om a b = true then some false else none
 | .ne,a,b=>if fU a b then some (!eqD a b) else none
 | .isin,a,y=>inD a y
 | .notin,a,y=>(inD a y).map (!·)
 | .is,a,y=>isD a y
 | .isnot,a,y=>(isD a y).map (!·)
def ixD:D->D->Option D
 | .lst ds,.int i=>L2.atI ds i
 | .tup ds,.int i=>L2.atI ds i
 | .str x,.int i=>if x.length<=sizeLine then (L2.atI x.cps.toList i).map λc=>.str ⟨#[c]⟩ else none
 | _,_=>none
def cutD (ds:List D) (lo hi:Option Int):List D:=(ds.drop (HT.sIx ds.length 0 lo)).take (HT.sIx ds.length ds.length hi - HT.sIx ds.length 0 lo)
def slD:D->Option Int->Option Int->Option D
 | .lst ds,lo,hi=>some (.lst (cutD ds lo hi))
 | .tup ds,lo,hi=>if HT.sIx ds.length 0 lo = 0/\HT.sIx ds.length ds.length hi = ds.length then none else some (.tup (cutD ds lo hi))
 | .str x,lo,hi=>if x.length<=sizeLine then some (.str (Txt.slice x lo hi)) else none
 | _,_,_=>none
def nJ:List D->Option (List Int)
 | []=>some []
 | .int i::r=>(nJ r).map (i::·)
 | _=>none
def Ii:List D->Option D
 | [.str x]=>if x.length<=sizeLine then some (.int x.length) else none
 | [.lst ds]=>some (.int ds.length)
 | [.tup ds]=>some (.int ds.length)
 | _=>none
def minD:List D->Option D
 | [.int i,.int j]=>some (.int (if j < i then j else i))
 | [.lst ds]=>if ds≠[]/\(ds.all λx=>ds.all λy=>(iX x y).isSome) = true then some (ds.getD (PySem.argBest (fR ds) (ds.length - 1)) .non) else none
 | _=>none
def uW:List Int->Int
 | []=>0
 | n::ns=>ns.foldl (λa b=>if b > a then b else a) n
def maxD:List D->Option D
 | [.int i,.int j]=>some (.int (if j > i then j else i))
 | [.lst ds]=>(nJ ds).bind λns=>if ns = [] then none else some (.int (uW ns))
 | _=>none
def sL:List D->Option D
 | [.int i]=>some (.int i)
 | [.bl b]=>some (.int (if b then 1 else 0))
 | [.str x]=>if x.length<=640 then (PySem.intText? x).map .int else none
 | _=>none
def sJ:List D->Option D
 | [.lst ds]=>some (.tup ds)
 | [.tup ds]=>some (.tup ds)
 | _=>none
def mO:List D->Option D
 | [.lst ds]=>some (.lst ds)
 | [.tup ds]=>some (.lst ds)
 | _=>none
def Gx:List D->Option D
 | [.lst ds]=>(nJ ds).map λns=>.int ns.sum
 | _=>none
def jb:List D->Option (List Bool)
 | []=>some []
 | .bl i::r=>(jb r).map (i::·)
 | _=>none
def IP:List D->Option D
 | [.lst ds]=>(jb ds).map λbs=>.bl (bs.all id)
 | _=>none
def IM:List D->Option D
 | [.lst ds]=>(jb ds).map λbs=>.bl (bs.any id)
 | _=>none
def om:List D->Option D
 | [.lst ds]=>if sortable ds = true then some (.lst (jX ds)) else none
 | _=>none
def gp:List D->Option D
 | [.lst _]=>some (.bl true)
 | [.fn _ _]=>none
 | [.dct _ _]=>none
 | [_]=>some (.bl false)
 | _=>none
def iZ:List D->Option D
 | [.tup _]=>some (.bl true)
 | [.fn _ _]=>none
 | [.dct _ _]=>none
 | [_]=>some (.bl false)
 | _=>none
def jU:Blt->List D->Option D
 | .len=>Ii | .min=>minD | .max=>maxD | .toInt=>sL | .toTup=>sJ | .toLst=>mO | .all=>IP | .any=>IM | .sum=>Gx | .sorted=>om
 | .isList=>gp | .isTup=>iZ
inductive Sl where
 | no | val (d:D) | own (ds:List D) | fnc (k:Nat) (cs:List D) | odc (ks:List Str) (ds:List D)
 deriving Inhabited
abbrev Loc:=List Sl
inductive Tg where
 | nm (i:Nat)
 | tp (is:List Nat)
inductive Mt | index
def mtD:Mt->D->D->Option D
 | .index,.lst ds,b=>if dep b<=150/\cb ds < 99999 then (ds.findIdx? λd=>eqD d b).map (λi:Nat=>D.int (i:Int)) else none
 | _,_,_=>none
mutual
inductive E where
 | var (i:Nat)
 | pk (i:Nat)
 | glob (g:Nat)
 | int (i:Int) | bl (b:Bool) | non | str (x:Str)
 | bin (op:Op) (a b:E)
 | cmp (op:Cop) (a b:E)
 | and (a b:E) | or (a b:E) | not (a:E) | neg (a:E)
 | ite (c a b:E)
 | tup (es:Es) | lst (es:Es)
 | ix (a b:E)
 | sl (a:E) (lo hi:Eo)
 | call (f:Nat) (es:Es)
 | calld (f:Nat) (es:Es)
 | blt (f:Blt) (es:Es)
 | pop (i:Nat)
 | bad
 | isdig (i:Nat)
 | dix (a b:E)
 | mt (m:Mt) (a b:E)
 | dgt (a b e:E)
 | comp (k:Nat) (tg:Tg) (src:It) (ifs:Eo) (elt:E)
inductive Es where
 | nil | cons (e:E) (es:Es)
inductive Eo where
 | no | yes (e:E)
inductive It where
 | rng (e:E) | sq (e:E) | zp (es:Es)
end
def get (δ:Loc) (i:Nat):Option D:=match δ[i]? with
 | some (.val d)=>some d
 | some (.own ds)=>some (.lst ds)
 | _=>none
def EN (δ:Loc) (i:Nat):Option D:=match δ[i]? with
 | some (.odc ks ds)=>some (.dct ks ds)
 | _=>get δ i
def demote (δ:Loc) (i:Nat):Loc:=match δ[i]? with
 | some (.own ds)=>δ.set i (.val (.lst ds))
 | some (.odc ks ds)=>δ.set i (.val (.dct ks ds))
 | _=>δ
def fQ (δ:Loc):Tg->D->Option Loc
 | .nm i,d=>if i < δ.length then some (δ.set i (.val d)) else none
 | .tp is,.tup ds=>if is.length = ds.length/\is.all (· < δ.length) = true then some ((is.zip ds).foldl (λδ p=>δ.set p.1 (.val p.2)) δ) else none
 | .tp is,.lst ds=>if is.length = ds.length/\is.all (· < δ.length) = true then some ((is.zip ds).foldl (λδ p=>δ.set p.1 (.val p.2)) δ) else none
 | _,_=>none
def Dl:D->Option (List D)
 | .lst ds=>some ds
 | .tup ds=>some ds
 | _=>none
def BK (xs ys:List D):List D:=(xs.zip ys).map λp=>.tup [p.1,p.2]
def zpD:List D->Option (List D)
 | [x,y]=>(Dl x).bind λxs=>(Dl y).map λys=>BK xs ys
 | _=>none
def items:D->Option (List D)
 | .lst ds=>some ds
 | .tup ds=>some ds
 | .str x=>if x.length<=sizeLine then some (x.cps.toList.map λc=>.str ⟨#[c]⟩) else none
 | _=>none
def lX (lo:Int) (n:Nat):List D:=(bK n).map λ(i:Nat)=>D.int (lo+i)
def mB (f:D->Loc->Option (Option D × Loc)):List D->Loc->Option (List D × Loc)
 | [],δ=>some ([],δ)
 | x::xs,δ=>do
   let (o,δ1) <- f x δ
   let (ys,δ2) <- mB f xs δ1
   return (match o with | some y=>y::ys | none=>ys,δ2)
def gP:List Str->List D->Str->Option D
 | k::ks,d::ds,x=>if k = x then some d else gP ks ds x
 | _,_,_=>none
def dG:List Str->List D->Str->D->List Str × List D
 | k::ks,d::ds,x,e=>if k = x then (k::ks,e::ds) else (k::(dG ks ds x e).1,d::(dG ks ds x e).2)
 | _,_,x,e=>([x],[e])
structure Cl where
 call:Nat->List D->Option D
 gl:List D
 hf:Nat->Bool
section
variable (cx:Cl)
mutual
noncomputable def evE:E->Loc->Option (D × Loc)
 | .var i,δ=>do return (<- EN δ i,demote δ i)
 | .pk i,δ=>do return (<- get δ i,δ)
 | .glob g,δ=>do return (<- cx.gl[g]?,δ)
 | .int i,δ=>some (.int i,δ)
 | .bl b,δ=>some (.bl b,δ)
 | .non,δ=>some (.non,δ)
 | .str x,δ=>some (.str x,δ)
 | .bin op a b,δ=>do
   let (x,δ1) <- evE a δ
   let (y,δ2) <- evE b δ1
   return (<- opD op x y,δ2)
 | .cmp op a b,δ=>do
   let (x,δ1) <- evE a δ
   let (y,δ2) <- evE b δ1
   return (.bl (<- jT op x y),δ2)
 | .and a b,δ=>do
   match <- evE a δ with
   | (.bl true,δ1)=>evE b δ1
   | (.bl false,δ1)=>some (.bl false,δ1)
   | _=>none
 | .or a b,δ=>do
   match <- evE a δ with
   | (.bl true,δ1)=>some (.bl true,δ1)
   | (.bl false,δ1)=>evE b δ1
   | _=>none
 | .not a,δ=>do
   match <- evE a δ with
   | (.bl b,δ1)=>some (.bl (!b),δ1)
   | _=>none
 | .neg a,δ=>do
   match <- evE a δ with
   | (.int i,δ1)=>some (.int (-i),δ1)
   | _=>none
 | .mt m a b,δ=>do
   let (x,δ1) <- evE a δ
   let (y,δ2) <- evE b δ1
   return (<- mtD m x y,δ2)
 | .dix a b,δ=>do
   let (x,δ1) <- evE a δ
   let (y,δ2) <- evE b δ1
   match x,y with
   | .dct ks ds,.str t=>(gP ks ds t).map λd=>(d,δ2)
   | _,_=>none
 | .dgt a b e,δ=>do
   let (x,δ1) <- evE a δ
   let (y,δ2) <- evE b δ1
   let (z,δ3) <- evE e δ2
   match x,y with
   | .dct ks ds,.str t=>some ((gP ks ds t).getD z,δ3)
   | _,_=>none
 | .ite c a b,δ=>do
   let (k,δ1) <- evT c δ
   if k then evE a δ1 else evE b δ1
 | .tup es,δ=>do
   let (ds,δ1) <- eh es δ
   if ds.length<=sizeLine then return (.tup ds,δ1) else none
 | .lst es,δ=>do
   let (ds,δ1) <- eh es δ
   if ds.length<=sizeLine then return (.lst ds,δ1) else none
 | .ix a b,δ=>do
   let (x,δ1) <- evE a δ
   let (y,δ2) <- evE b δ1
   return (<- ixD x y,δ2)
 | .sl a lo hi,δ=>do
   let (x,δ1) <- evE a δ
   let (l,δ2) <- evO lo δ1
   let (h,δ3) <- evO hi δ2
   return (<- slD x l h,δ3)
 | .call f es,δ=>do
   let (ds,δ1) <- eh es δ
   return (<- cx.call f ds,δ1)
 | .calld f es,δ=>do
   let (ds,δ1) <- eh es δ
   return (<- cx.call f (ds++[.non]),δ1)
 | .blt f es,δ=>do
   let (ds,δ1) <- eh es δ
   return (<- jU f ds,δ1)
 | .pop i,δ=>do
   match δ[i]? with
   | some (.own ds)=>match ds.getLast? with
     | some d=>some (d,δ.set i (.own ds.dropLast))
     | none=>none
   | _=>none
 | .bad,_=>none
 | .isdig i,δ=>do
   match <- get δ i with
   | .str x=>some (.bl (decide (x.length > 0) && x.cps.all eF),δ)
   | _=>none
 | .comp k tg src ifs elt,δ=>do
   let (ds,δ1) <- evI src δ
   let (ys,δ2) <- mB (λx δ0=>do
    let δ2 <- fQ (δ0++aU k .no) tg x
    let (b,δ3) <- evG ifs δ2
    if b then do
     let (y,δ4) <- evE elt δ3
     return (some y,δ4.take δ0.length)
    else return (none,δ3.take δ0.length)) ds δ1
   if ys.length<=sizeLine then return (.lst ys,δ2) else none
noncomputable def evT:E->Loc->Option (Bool × Loc)
 | .and a b,δ=>do
   let (k,δ1) <- evT a δ
   if k then evT b δ1 else some (false,δ1)
 | .or a b,δ=>do
   let (k,δ1) <- evT a δ
   if k then some (true,δ1) else evT b δ1
 | .not a,δ=>do
   let (k,δ1) <- evT a δ
   return (!k,δ1)
 | .cmp op a b,δ=>do
   let (x,δ1) <- evE a δ
   let (y,δ2) <- evE b δ1
   return (<- jT op x y,δ2)
 | .mt m a b,δ=>do
   let (x,δ1) <- evE a δ
   let (y,δ2) <- evE b δ1
   let d <- mtD m x y
   return (<- tv d,δ2)
 | .ix a b,δ=>do
   let (x,δ1) <- evE a δ
   let (y,δ2) <- evE b δ1
   let d <- ixD x y
   return (<- tv d,δ2)
 | .var i,δ=>do
   let d <- get δ i
   return (<- tv d,δ)
 | .pk i,δ=>do
   let d <- get δ i
   return (<- tv d,δ)
 | .call f es,δ=>do
   let (ds,δ1) <- eh es δ
   let d <- cx.call f ds
   return (<- tv d,δ1)
 | .blt f es,δ=>do
   let (ds,δ1) <- eh es δ
   let d <- jU f ds
   return (<- tv d,δ1)
 | _,_=>none
noncomputable def eh:Es->Loc->Option (List D × Loc)
 | .nil,δ=>some ([],δ)
 | .cons e es,δ=>do
   let (d,δ1) <- evE e δ
   let (ds,δ2) <- eh es δ1
   return (d::ds,δ2)
noncomputable def evO:Eo->Loc->Option (Option Int × Loc)
 | .no,δ=>some (none,δ)
 | .yes e,δ=>do
   match <- evE e δ with
   | (.int i,δ1)=>some (some i,δ1)
   | _=>none
noncomputable def evG:Eo->Loc->Option (Bool × Loc)
 | .no,δ=>some (true,δ)
 | .yes e,δ=>evT e δ
noncomputable def evI:It->Loc->Option (List D × Loc)
 | .rng e,δ=>do
   match <- evE e δ with
   | (.int j,δ1)=>if -(2 ^ 62)<=j/\j < 2 ^ 62 then some (lX 0 j.toNat,δ1) else none
   | _=>none
 | .sq e,δ=>do
   let (d,δ1) <- evE e δ
   return (<- items d,δ1)
 | .zp es,δ=>do
   let (ds,δ1) <- eh es δ
   return (<- zpD ds,δ1)
end
end
inductive Out where
 | nx (δ:Loc) | rt (d:D) (δ:Loc) | ro (d:D) (δ:Loc)
mutual
inductive S where
 | asg (tg:Tg) (e:E)
 | new (i:Nat) (e:E)
 | cmp (own:Bool) (i:Nat) (e:E)
 | aug (i:Nat) (op:Op) (e:E)
 | ret (e:E)
 | ifs (c:E) (a b:Ss)
 | for_ (tg:Tg) (src:It) (body:Ss)
 | while_ (c:E) (body:Ss)
 | append (i:Nat) (e:E)
 | setix (i:Nat) (j e:E)
 | newd (i:Nat)
 | opq (f:Cl->Loc->Option Out)
 | bad
inductive Ss where
 | nil | cons (s:S) (ss:Ss)
end
def forL (f:D->Loc->Option Out):List D->Loc->Option Out
 | [],δ=>some (.nx δ)
 | x::xs,δ=>match f x δ with
   | some (.nx δ1)=>forL f xs δ1
   | some (.rt d δ1)=>some (.rt d δ1)
   | some (.ro ds δ1)=>some (.ro ds δ1)
   | none=>none
def lB (c:Loc->Option (Bool × Loc)) (f:Loc->Option Out):Nat->Loc->Option Out
 | 0,_=>none
 | n+1,δ=>match c δ with
   | some (true,δ1)=>match f δ1 with
     | some (.nx δ2)=>lB c f n δ2
     | some (.rt d δ2)=>some (.rt d δ2)
     | some (.ro ds δ2)=>some (.ro ds δ2)
     | none=>none
   | some (false,δ1)=>some (.nx δ1)
   | none=>none
def tm:Nat:=1000000
section
variable (cx:Cl)
mutual
noncomputable def evS:S->Loc->Option Out
 | .asg tg e,δ=>do
   let (d,δ1) <- evE cx e δ
   return .nx (<- fQ δ1 tg d)
 | .new i e,δ=>do
   match <- evE cx e δ with
   | (.lst ds,δ1)=>if i < δ1.length then some (.nx (δ1.set i (.own ds))) else none
   | _=>none
 | .cmp own i e,δ=>do
   match <- evE cx e δ with
   | (.lst ds,δ1)=>if i < δ1.length then some (.nx (δ1.set i (if own then .own ds else .val (.lst ds)))) else none
   | _=>none
 | .aug i op e,δ=>do
   match δ[i]? with
   | some (.val x)=>do
     let (y,δ1) <- evE cx e δ
     match op with
     | .add=>(Bp x y).map λz=>.nx (δ1.set i (.val z))
     | _=>none
   | _=>none
 | .ret e,δ=>do
   let (d,δ1) <- evE cx e δ
   return .rt d δ1
 | .ifs c a b,δ=>do
   let (k,δ1) <- evT cx c δ
   if k then cY a δ1 else cY b δ1
 | .for_ tg src body,δ=>do
   let (ds,δ1) <- evI cx src δ
   forL (λx δ0=>match fQ δ0 tg x with
    | some δ2=>cY body δ2
    | none=>none) ds δ1
 | .while_ c body,δ=>lB (λδ0=>evT cx c δ0) (λδ0=>cY body δ0) 1000 δ
 | .append i e,δ=>match δ[i]? with
   | some (.own _)=>do
     let (d,δ1) <- evE cx e δ
     match δ1[i]? with
     | some (.own ds)=>if ds.length < sizeLine then some (.nx (δ1.set i (.own (ds++[d])))) else none
     | _=>none
   | _=>none
 | .setix i j e,δ=>do
   let (d,δ1) <- evE cx e δ
   match δ1[i]? with
   | some (.own _)=>do
     match <- evE cx j δ1 with
     | (.int k,δ2)=>match δ2[i]? with
       | some (.own ds)=>match L2.ixN ds.length k with
         | some m=>some (.nx (δ2.set i (.own (ds.set m d))))
         | none=>none
       | _=>none
     | _=>none
   | _=>none
 | .newd i,δ=>if i < δ.length then some (.nx (δ.set i (.odc [] []))) else none
 | .opq f,δ=>f cx δ
 | .bad,_=>none
noncomputable def cY:Ss->Loc->Option Out
 | .nil,δ=>some (.nx δ)
 | .cons s ss,δ=>match evS s δ with
   | some (.nx δ1)=>cY ss δ1
   | o=>o
end
end
structure Fd where
 name:Str
 ps:List Str
 loc:List Str
 body:Ss
 hf:Bool:=false
def outD:Option Out->Option D
 | some (.rt d _)=>some d
 | some (.ro d _)=>some d
 | some (.nx _)=>some .non
 | _=>none
def Lk:Option Out->Option D
 | some (.ro d _)=>some d
 | _=>none
def init (n:Nat) (ds:List D):Loc:=ds.map .val++aU (n - ds.length) .no
def hfs (G:List Fd) (f:Nat):Bool:=match G[f]? with
 | some fd=>fd.hf
 | none=>false
def Oz (n:Nat) (ds:List D) (k:Nat) (cs:List D):Loc:=ds.map .val++Sl.fnc k cs::aU (n - (ds.length+1)) .no
def entry (hf:Bool) (n:Nat) (ds:List D):Option Loc:=match hf with
 | false=>some (init n ds)
 | true=>match ds.getLast? with
   | some (.fn k cs)=>some (Oz n ds.dropLast k cs)
   | _=>none
def run (G:List Fd) (gl:List D):Nat->Nat->List D->Option D
 | 0,_,_=>none
 | n+1,f,ds=>match G[f]? with
   | some fd=>if ds.length = fd.ps.length then (match entry fd.hf (fd.ps++fd.loc).length ds with
     | some δ=>outD (cY ⟨run G gl n,gl,hfs G⟩ fd.body δ)
     | none=>none) else none
   | none=>match G[f - tm]? with
     | some fd=>if tm<=f/\ds.length = fd.ps.length then (match entry fd.hf (fd.ps++fd.loc).length ds with
       | some δ=>Lk (cY ⟨run G gl n,gl,hfs G⟩ fd.body δ)
       | none=>none) else none
     | none=>none
def bE:E->Bool
 | .pk _=>true
 | _=>false
mutual
noncomputable def np:E->Bool
 | .bin _ a b | .cmp _ a b | .and a b | .or a b | .ix a b | .dix a b | .mt _ a b=>np a && np b
 | .dgt a b e=>np a && np b && np e
 | .not a=>np a
 | .neg a=>np a
 | .ite c a b=>np c && np a && np b
 | .tup es | .lst es | .call _ es | .calld _ es | .blt _ es=>npS es
 | .sl a lo hi=>np a && npO lo && npO hi
 | .pop _=>false
 | .comp _ _ src ifs elt=>npI src && npO ifs && np elt
 | _=>true
noncomputable def npS:Es->Bool
 | .nil=>true
 | .cons e es=>np e && npS es
noncomputable def npO:Eo->Bool
 | .no=>true
 | .yes e=>np e
noncomputable def npI:It->Bool
 | .rng e=>np e
 | .sq e=>np e
 | .zp es=>npS es
end
end PP
example:PP.evE ⟨λ_ _=>none,[],λ_=>false⟩ (.bin .add (.int 1) (.int 2)) [] = some (.int 3,[]):=rfl
end
section
namespace PP
open PySem L2
def KLs (K:PySem.W.Frag) (a:au) (xs:List V):Prop:=∃ (its:Array ag) (n:Nat),K.lookup a = some ⟨.type "list",none,.seq its n,#[]⟩/\its.size<=sizeLine/\Vals xs its.toList
def Ls (K:PySem.W.Frag) (H:Hp) (F:au->Prop) (a:au) (xs:List V):Prop:=(Rd H a (.lst xs)/\¬ F a)\/KLs K a xs
def LsB (K:PySem.W.Frag) (H:Hp) (a:au) (xs:List V):Prop:=Rd H a (.lst xs)\/KLs K a xs
def Ls.b {K:PySem.W.Frag} {H:Hp} {F:au->Prop} {a:au} {xs:List V} (h:Ls K H F a xs):LsB K H a xs:=h.imp (·.1) id
def LsB.sq (h:LsB K H a xs):SqL K H a xs:=by
 rcases h with h | ⟨its,n,h1,h2,h3⟩
 . exact .inl h
 . exact .inr ⟨_,its,n,h1,rfl,rfl,rfl,h2,h3⟩
def Ls.sq (h:Ls K H F a xs):SqL K H a xs:=h.b.sq
def LsB.obj (I:Inv X pins σ H s) (h:LsB X.K H a xs) :
 ∃ (its:List ag) (n:Nat),Vals xs its/\s.heap.get? a = some { cls:=.type "list",data:=.seq its.toArray n }/\xs.length<=sizeLine:=by
 rcases h with h | ⟨its,n,h1,h2,h3⟩
 . obtain ⟨z,its,n,r,e⟩:=h.ok I.hok;exact ⟨its,n,r,e,z⟩
 . refine ⟨its.toList,n,h3,?_,?_⟩
   . have:=I.kIn a _ h1;simpa using this
   . have:=h3.length;rw [this];simpa using h2
def zk:List Str->List V->List (Key × V)
 | k::ks,v::vs=>(.inr k,v)::zk ks vs
 | _,_=>[]
mutual
noncomputable def Rel (K:PySem.W.Frag) (H:Hp) (F:au->Prop):D->V->Prop
 | .non,v=>v = .non
 | .bl b,v=>v = .bl b
 | .int i,v=>v = .int i
 | .str x,v=>v = .str x
 | .lst ds,v=>∃ a xs,v = .ref a/\Ls K H F a xs/\aK K H F ds xs
 | .tup ds,v=>∃ a xs,v = .ref a/\SqT K H a xs/\aK K H F ds xs
 | .fn _ _,_=>False
 | .dct ks ds,v=>∃ a vs,v = .ref a/\Rd H a (.dK (zk ks vs))/\¬ F a/\ks.Nodup/\ks.length = ds.length/\aK K H F ds vs
noncomputable def aK (K:PySem.W.Frag) (H:Hp) (F:au->Prop):List D->List V->Prop
 | [],xs=>xs = []
 | d::ds,xs=>∃ y ys,xs = y::ys/\Rel K H F d y/\aK K H F ds ys
end
def NT:HO->Prop
 | .tbl _=>False
 | _=>True
structure Sim (H H':Hp):Prop where
 nt:∀ b o,NT o->H b = some o->H' b = some o
 tb:∀ b ps,H b = some (.tbl ps)->∃ qs,H' b = some (.tbl qs)
def Sim.of (h:fI H H'):Sim H H':=⟨λb o _ e=>h b o e,λb ps e=>⟨ps,h b _ e⟩⟩
def Sim.refl (H:Hp):Sim H H:=⟨λb o _ e=>e,λb ps e=>⟨ps,e⟩⟩
def Sim.trans (a:Sim H H1) (b:Sim H1 H2):Sim H H2:=⟨λx o n e=>b.nt x o n (a.nt x o n e),λx ps e=>by
 obtain ⟨qs,e⟩:=a.tb x ps e;exact b.tb x qs e⟩
def Fz (H:Hp) (a:au) (o:Obj):Prop:=H a = some (.frz o (.ext λh=>h.get? a = some o))
structure Lam where
 qual:Str
 params:uG
 body:aI
 scope:fh
 ps:List Str
 caps:List Str
class Tbs where
 ts:List (au × Str)
 lams:List (Nat × Lam)
 gds:List (Str × List (Str × Int))
 dfs:List Nat
variable [Tbs]
def Mo:HO->Prop
 | .lst _=>True
 | .ext _=>True
 | .dK _=>True
 | _=>False
def flV:D->V
 | .bl b=>.bl b
 | .int i=>.int i
 | .str x=>.str x
 | _=>.non
def nv (H:Hp):List au->List D->Prop
 | [],ds=>ds = []
 | c::r,ds=>∃ d ds' o u,ds = d::ds'/\flat d = true/\Fz H c o/\o.data = .cell (some u)/\RelV (flV d) u/\nv H r ds'
def FnV (H:Hp) (k:Nat) (cs:List D) (a:au):Prop:=∃ (L:Lam) (pm ctv:ag) (c':au) (oc:Obj) (vs:Array ag) (tk:Tok) (cells:List au),
 Tbs.lams.lookup k = some L/\Fz H a (PySem.W.kla_obj "<lambda>" L.qual L.params L.body L.scope (L.caps.zip cells) pm c' ctv)/\Fz H c' oc/\oc.data = .fields vs/\vs[1]? = some (.str L.qual tk)/\cells.Nodup/\cells.length = L.caps.length/\nv H cells cs
def nv.keep {H H':Hp} (k:∀ a o,Fz H a o->Fz H' a o):∀ {cells:List au} {cs:List D},nv H cells cs->nv H' cells cs
 | [],_,h=>h
 | c::r,cs,h=>by
   obtain ⟨d,ds',o,u,e,h1,h2,h3,h4,h5⟩:=h;exact ⟨d,ds',o,u,e,h1,k _ _ h2,h3,h4,nv.keep k h5⟩
def FnV.keep {H H':Hp} (k:∀ a o,Fz H a o->Fz H' a o) {n:Nat} {cs:List D} {a:au} (h:FnV H n cs a):FnV H' n cs a:=by
 obtain ⟨L,pm,ctv,c',oc,vs,tk,cells,h1,h2,h3,h4,h5,h6,h7,h8⟩:=h;exact ⟨L,pm,ctv,c',oc,vs,tk,cells,h1,k _ _ h2,k _ _ h3,h4,h5,h6,h7,h8.keep k⟩
def kZ (H:Hp):Prop:=∀ t∈Tbs.ts,∃ ps,H t.1 = some (.tbl ps)/\TriplesOk ps.toList/\∀ pos cv,codeAmong pos ps.toList = some cv->∃ c o vs tk,cv = .ref c/\Fz H c o/\o.data = .fields vs/\vs[1]? = some (.str t.2 tk)
def kZ.keep {H H':Hp} (h:kZ H) (k:∀ b o,¬ Mo o->H b = some o->H' b = some o):kZ H':=λt ht=>by
 obtain ⟨ps,h1,h2,h3⟩:=h t ht;refine ⟨ps,k _ _ (λz=>z) h1,h2,λpos cv e=>?_⟩;obtain ⟨c,o,vs,tk,e1,e2,e3⟩:=h3 pos cv e;exact ⟨c,o,vs,tk,e1,k _ _ (λz=>z) e2,e3⟩
def FD (F:au->Prop) (H:Hp):Prop:=∀ b,F b->∃ o,H b = some o/\(Mo o\/(∃ ps,o = .tbl ps)/\∃ t∈Tbs.ts,t.1 = b)
def FD.not (fd:FD F H) (e:H a = some o) (n:¬ Mo o) (t:NT o):¬ F a:=λz=>by
 obtain ⟨u,e2,h⟩:=fd a z;rw [e] at e2;cases e2;rcases h with h | ⟨⟨ps,rfl⟩,_⟩
 . exact n h
 . exact t
def FD.none (fd:FD F H) (e:H a = Option.none):¬ F a:=λz=>by
 obtain ⟨u,e2,_⟩:=fd a z;rw [e] at e2;cases e2
def TF (F:au->Prop):Prop:=∀ t∈Tbs.ts,F t.1
structure Gh where
 h:Hp
 R:au->Prop
def Gh.free (G:Gh) (a:au):Prop:=G.h a = none/\¬ G.R a
def g0:Gh:=⟨λ_=>none,λ_=>False⟩
structure Step (G:Gh) (F:au->Prop) (H:Hp) (F':au->Prop) (H':Hp):Prop where
 keep:∀ b o,NT o->H b = some o->¬ F b->H' b = some o
 grow:∀ b,F' b->F b\/H b = none
 res:∀ b o,G.R b->F b->H b = some o->F' b/\H' b = some o
 tb:∀ b ps,H b = some (.tbl ps)->∃ qs,H' b = some (.tbl qs)
def Step.refl:Step G F H F H:=⟨λ_ _ _ h _=>h,λ_ h=>.inl h,λ_ _ _ h e=>⟨h,e⟩,λ_ ps e=>⟨ps,e⟩⟩
def Step.trans (a:Step G F H F1 H1) (b:Step G F1 H1 F2 H2):Step G F H F2 H2 where
 keep:=λx o t h n=>b.keep x o t (a.keep x o t h n) λz=>by
  rcases a.grow x z with q | q
  . exact n q
  . rw [h] at q;cases q
 grow:=λx h=>by
  rcases b.grow x h with q | q
  . exact a.grow x q
  . by_cases f:F x
    . exact .inl f
    . right
      cases e:H x with
      | none=>rfl
      | some o =>
        by_cases t:NT o
        . rw [a.keep x o t e f] at q;cases q
        . cases o<;>first | (exact absurd trivial t) | skip
          obtain ⟨qs,z⟩:=a.tb x _ e;rw [z] at q;cases q
 res:=λx o r h e=>by
  obtain ⟨h1,e1⟩:=a.res x o r h e;exact b.res x o r h1 e1
 tb:=λx ps e=>by
  obtain ⟨qs,e⟩:=a.tb x ps e;exact b.tb x qs e
def Step.of_same (h:fI H H'):Step G F H F H':=⟨λb o _ e _=>h b o e,λ_ h=>.inl h,λb o _ f e=>⟨f,h b o e⟩,λb ps e=>⟨ps,h b _ e⟩⟩
section
variable {K:PySem.W.Frag} {G:Gh} {H H':Hp} {F F':au->Prop}
def yK (t:NT u) (k:∀ b o,NT o->H b = some o->¬ F b->H' b = some o) (n:¬ F a) (h:Rd H a u):Rd H' a u:=by
 rcases h with h | ⟨o,h⟩
 . exact .inl (k a _ t h n)
 . exact .inr ⟨o,k a _ trivial h n⟩
def vg (fd:FD F H) (k:∀ b o,NT o->H b = some o->¬ F b->H' b = some o) (h:SqT K H a xs):SqT K H' a xs:=by
 rcases h with h | h
 . refine .inl (yK trivial k (λz=>?_) h);rcases h with h | ⟨o,h⟩
   . exact fd.not h (λz=>z) trivial z
   . exact fd.not h (λz=>z) trivial z
 . exact .inr h
def Ls.step {a:au} {xs:List V} (s:Step G F H F' H') (h:Ls K H F a xs):Ls K H' F' a xs:=by
 rcases h with ⟨h1,h2⟩ | h
 . refine .inl ⟨yK trivial s.keep h2 h1,λz=>?_⟩;rcases s.grow a z with q | q
   . exact h2 q
   . rcases h1 with h | ⟨o,h⟩
     . rw [h] at q;cases q
     . rw [h] at q;cases q
 . exact .inr h
def uc (fd:FD F H) (k:∀ b o,NT o->H b = some o->¬ F b->H' b = some o):∀ a o,Fz H a o->Fz H' a o:=λa o h=>by
 exact k a _ trivial h (fd.not h (λz=>z) trivial)
mutual
theorem Rel.step (fd:FD F H) (s:Step G F H F' H'):∀ (d:D) (v:V),Rel K H F d v->Rel K H' F' d v
 | .non,v,h=>by unfold Rel at h |-;exact h
 | .bl b,v,h=>by unfold Rel at h |-;exact h
 | .int i,v,h=>by unfold Rel at h |-;exact h
 | .str x,v,h=>by unfold Rel at h |-;exact h
 | .lst ds,v,h=>by
   unfold Rel at h |-;obtain ⟨a,xs,e,h1,h3⟩:=h
   exact ⟨a,xs,e,h1.step s,aK.step fd s ds xs h3⟩
 | .tup ds,v,h=>by
   unfold Rel at h |-;obtain ⟨a,xs,e,h1,h3⟩:=h
   exact ⟨a,xs,e,vg fd s.keep h1,aK.step fd s ds xs h3⟩
 | .fn _ _,v,h=>by unfold Rel at h;exact h.elim
 | .dct ks ds,v,h=>by
   unfold Rel at h |-;obtain ⟨a,vs,e,h1,h2,h3,h4,h5⟩:=h;refine ⟨a,vs,e,h1.elim (λh1=>.inl (s.keep a _ trivial h1 h2)) λ⟨o,h1⟩=>.inr ⟨o,s.keep a _ trivial h1 h2⟩,λz=>?_,h3,h4,aK.step fd s ds vs h5⟩;rcases s.grow a z with q | q
   . exact h2 q
   . rcases h1 with h1 | ⟨o,h1⟩<;>(rw [h1] at q;cases q)
theorem aK.step (fd:FD F H) (s:Step G F H F' H'):∀ (ds:List D) (xs:List V),aK K H F ds xs->aK K H' F' ds xs
 | [],xs,h=>by unfold aK at h |-;exact h
 | d::ds,xs,h=>by
   unfold aK at h |-;obtain ⟨y,ys,e,h1,h2⟩:=h;exact ⟨y,ys,e,Rel.step fd s d y h1,aK.step fd s ds ys h2⟩
end
def Rel.less (fd:FD F H) (hs:∀ b,F' b->F b) {d:D} {v:V} (h:Rel K H F d v):Rel K H F' d v :=
 Rel.step (G:=g0) fd ⟨λ_ _ _ h _=>h,λb z=>.inl (hs b z),λ_ _ r _ _=>r.elim,λ_ ps e=>⟨ps,e⟩⟩ d v h
def aK.less (fd:FD F H) (hs:∀ b,F' b->F b) {ds:List D} {xs:List V} (h:aK K H F ds xs):aK K H F' ds xs :=
 aK.step (G:=g0) fd ⟨λ_ _ _ h _=>h,λb z=>.inl (hs b z),λ_ _ r _ _=>r.elim,λ_ ps e=>⟨ps,e⟩⟩ ds xs h
mutual
theorem Rel.free (fd:FD F' H):∀ (d:D) (v:V),lf d = true->Rel K H F d v->Rel K H F' d v
 | .non,v,_,h=>by unfold Rel at h |-;exact h
 | .bl b,v,_,h=>by unfold Rel at h |-;exact h
 | .int i,v,_,h=>by unfold Rel at h |-;exact h
 | .str x,v,_,h=>by unfold Rel at h |-;exact h
 | .lst ds,v,l,h=>by unfold lf at l;cases l
 | .tup ds,v,l,h=>by
   unfold lf at l;unfold Rel at h |-;obtain ⟨a,xs,e,h1,h3⟩:=h
   exact ⟨a,xs,e,h1,aK.free fd ds xs l h3⟩
 | .fn _ _,v,l,h=>by unfold lf at l;cases l
 | .dct _ _,v,l,h=>by unfold lf at l;cases l
theorem aK.free (fd:FD F' H):∀ (ds:List D) (xs:List V),lfL ds = true->aK K H F ds xs->aK K H F' ds xs
 | [],xs,_,h=>by unfold aK at h |-;exact h
 | d::ds,xs,l,h=>by
   unfold lfL at l;rw [aa] at l;unfold aK at h |-;obtain ⟨y,ys,e,h1,h2⟩:=h;exact ⟨y,ys,e,Rel.free fd d y l.1 h1,aK.free fd ds ys l.2 h2⟩
end
def aK.length:∀ {ds:List D} {xs:List V},aK K H F ds xs->xs.length = ds.length
 | [],xs,h=>by unfold aK at h;subst h;rfl
 | d::ds,xs,h=>by
   unfold aK at h;obtain ⟨y,ys,e,_,h2⟩:=h;subst e;rw [aG,aG,aK.length h2]
def aK.get:∀ {ds:List D} {xs:List V} {i:Nat} {d:D},aK K H F ds xs->ds[i]? = some d->∃ v,xs[i]? = some v/\Rel K H F d v
 | [],_,_,_,_,e=>by simp at e
 | d::ds,xs,i,d',h,e=>by
   unfold aK at h;obtain ⟨y,ys,q,h1,h2⟩:=h;subst q
   cases i with
   | zero=>simp at e;subst e;exact ⟨y,rfl,h1⟩
   | succ i =>
     obtain ⟨v,h3,h4⟩:=aK.get (i:=i) h2 (by simpa using e);exact ⟨v,by simpa using h3,h4⟩
def aK.append:∀ {ds es:List D} {xs ys:List V},aK K H F ds xs->aK K H F es ys->aK K H F (ds++es) (xs++ys)
 | [],es,xs,ys,h,h'=>by unfold aK at h;subst h;exact h'
 | d::ds,es,xs,ys,h,h'=>by
   unfold aK at h;obtain ⟨y,zs,q,h1,h2⟩:=h;subst q;show aK K H F (d::(ds++es)) (y::(zs++ys));unfold aK;exact ⟨y,zs++ys,rfl,h1,aK.append h2 h'⟩
def aK.one (h:Rel K H F d v):aK K H F [d] [v]:=by
 unfold aK;exact ⟨v,[],rfl,h,by unfold aK;rfl⟩
def aK.nil:aK K H F [] []:=by unfold aK;rfl
def aK.cons {d:D} {v:V} {ds:List D} {xs:List V} (h:Rel K H F d v) (t:aK K H F ds xs):aK K H F (d::ds) (v::xs):=by
 unfold aK;exact ⟨v,xs,rfl,h,t⟩
def aK.take:∀ {ds:List D} {xs:List V} (n:Nat),aK K H F ds xs->aK K H F (ds.take n) (xs.take n)
 | [],xs,n,h=>by unfold aK at h;subst h;simp;exact aK.nil
 | d::ds,xs,0,h=>by simp;exact aK.nil
 | d::ds,xs,n+1,h=>by
   unfold aK at h;obtain ⟨y,ys,q,h1,h2⟩:=h;subst q;rw [Bw,Bw];exact aK.cons h1 (aK.take n h2)
def aK.drop:∀ {ds:List D} {xs:List V} (n:Nat),aK K H F ds xs->aK K H F (ds.drop n) (xs.drop n)
 | [],xs,n,h=>by unfold aK at h;subst h;simp;exact aK.nil
 | d::ds,xs,0,h=>h
 | d::ds,xs,n+1,h=>by
   unfold aK at h;obtain ⟨y,ys,q,h1,h2⟩:=h;subst q;rw [BB,BB];exact aK.drop n h2
def aK.set {d:D} {v:V} (r:Rel K H F d v):∀ {ds:List D} {xs:List V} (n:Nat),aK K H F ds xs->aK K H F (ds.set n d) (xs.set n v)
 | [],xs,n,h=>by unfold aK at h;subst h;simp;exact aK.nil
 | e::ds,xs,0,h=>by
   unfold aK at h;obtain ⟨y,ys,q,h1,h2⟩:=h;subst q
   exact aK.cons r h2
 | e::ds,xs,n+1,h=>by
   unfold aK at h;obtain ⟨y,ys,q,h1,h2⟩:=h;subst q;exact aK.cons h1 (aK.set r n h2)
def aK.dropLast (h:aK K H F ds xs):aK K H F ds.dropLast xs.dropLast:=by
 rw [yo,yo,h.length];exact h.take _
def aK.cut (lo hi:Option Int) (h:aK K H F ds xs):aK K H F (cutD ds lo hi) (qJ xs lo hi):=by
 unfold cutD qJ;rw [h.length];exact (h.drop _).take _
end
def cX (K:PySem.W.Frag) (H:Hp) (F:au->Prop) (d:D) (v:V):Prop:=Rel K H F d v\/∃ a xs ds,d = .lst ds/\v = .ref a/\H a = some (.lst xs)/\aK K H F ds xs
def RelM (m:Bool) (K:PySem.W.Frag) (H:Hp) (F:au->Prop) (d:D) (v:V):Prop:=if m = true then cX K H F d v else Rel K H F d v
def RelM.b {m:Bool} {K:PySem.W.Frag} {H:Hp} {F:au->Prop} {d:D} {v:V} (h:RelM m K H F d v):cX K H F d v:=by
 unfold RelM at h;split at h
 . exact h
 . exact .inl h
def cX.same {K:PySem.W.Frag} {G:Gh} {H H':Hp} {F F':au->Prop} {d:D} {v:V} (fd:FD F H) (s:Step G F H F' H') (k:Sim H H') (h:cX K H F d v):cX K H' F' d v:=by
 rcases h with h | ⟨a,xs,ds,e1,e2,h1,h2⟩
 . exact .inl (Rel.step fd s d v h)
 . exact .inr ⟨a,xs,ds,e1,e2,k.nt _ _ trivial h1,aK.step fd s ds xs h2⟩
def RelM.step {m:Bool} {K:PySem.W.Frag} {G:Gh} {H H':Hp} {F F':au->Prop} {d:D} {v:V} (fd:FD F H) (s:Step G F H F' H') (k:m = true->Sim H H') (h:RelM m K H F d v):RelM m K H' F' d v:=by
 cases m with
 | true=>exact cX.same fd s (k rfl) h
 | false=>exact Rel.step fd s d v h
def eB (K:PySem.W.Frag) (G:Gh) (F:au->Prop) (H:Hp) (o:Option (Option V)):Sl->Prop
 | .no=>True
 | .val d=>∃ v,o = some (some v)/\Rel K H F d v
 | .own ds=>∃ a xs,o = some (some (.ref a))/\F a/\G.free a/\H a = some (.lst xs)/\aK K H F ds xs
 | .fnc k cs=>∃ a,o = some (some (.ref a))/\FnV H k cs a
 | .odc ks ds=>∃ a vs,o = some (some (.ref a))/\F a/\G.free a/\H a = some (.dK (zk ks vs))/\ks.Nodup/\ks.length = ds.length/\aK K H F ds vs
def ow:Sl->Bool
 | .own _=>true
 | .odc _ _=>true
 | _=>false
structure Ok (K:PySem.W.Frag) (G:Gh) (F:au->Prop) (σ:St) (H:Hp) (δ:Loc):Prop where
 same:Sim G.h H
 fd:FD F H
 rf:∀ b,G.R b->F b
 rl:∀ b,G.R b->∃ o,H b = some o/\Mo o
 tf:TF F
 tabs:kZ H
 len:δ.length = σ.length
 sl:∀ (i:Nat) (s:Sl),δ[i]? = some s->eB K G F H σ[i]? s
 apart:∀ (i j:Nat) (s t:Sl) (a:au),δ[i]? = some s->δ[j]? = some t->ow s = true->ow t = true->σ[i]? = some (some (.ref a))->σ[j]? = some (some (.ref a))->i = j
section
variable {K:PySem.W.Frag} {G:Gh} {H H':Hp} {F F':au->Prop} {σ:St} {δ:Loc}
def eB.same {o:Option (Option V)} (fd:FD F H) (k:fI H H'):∀ {s:Sl},eB K G F H o s->eB K G F H' o s
 | .no,_=>trivial
 | .val d,h=>by
   obtain ⟨v,e,h⟩:=h
   exact ⟨v,e,Rel.step (G:=G) fd (Step.of_same k) d v h⟩
 | .own ds,h=>by
   obtain ⟨a,xs,e,h1,h2,h3,h4⟩:=h
   exact ⟨a,xs,e,h1,h2,k _ _ h3,aK.step (G:=G) fd (Step.of_same k) ds xs h4⟩
 | .fnc n cs,h=>by
   obtain ⟨a,e,h⟩:=h
   exact ⟨a,e,h.keep λa o z=>k _ _ z⟩
 | .odc ks ds,h=>by
   obtain ⟨a,xs,e,h1,h2,h3,h4,h5,h6⟩:=h;exact ⟨a,xs,e,h1,h2,k _ _ h3,h4,h5,aK.step (G:=G) fd (Step.of_same k) ds xs h6⟩
def FD.same (fd:FD F H) (k:fI H H'):FD F H':=λb h=>by
 obtain ⟨o,e,q⟩:=fd b h;exact ⟨o,k _ _ e,q⟩
def yH {P:au->Prop} (h:∀ b,P b->∃ o,H b = some o/\Mo o) (k:fI H H'):∀ b,P b->∃ o,H' b = some o/\Mo o:=λb z=>by
 obtain ⟨o,e,q⟩:=h b z;exact ⟨o,k _ _ e,q⟩
def Ok.same' (h:Ok K G F σ H δ) (k:fI H H'):Ok K G F σ H' δ :=
 ⟨h.same.trans (.of k),h.fd.same k,h.rf,yH h.rl k,h.tf,h.tabs.keep λb o _ e=>k b o e,h.len,λi s e=>(h.sl i s e).same h.fd k,h.apart⟩
def cC (h:H p = none) (o:HO):fI H (upd H p o):=λb u q=>by rw [bh (gc q h)];exact q
def eB.less {o:Option (Option V)} (fd:FD F H) (hs:∀ b,F' b->F b):∀ {s:Sl},(∀ a,ow s = true->o = some (some (.ref a))->F' a)->eB K G F H o s->eB K G F' H o s
 | .no,_,_=>trivial
 | .val d,_,h=>by
   obtain ⟨v,e,h⟩:=h
   exact ⟨v,e,Rel.less fd hs h⟩
 | .own ds,q,h=>by
   obtain ⟨a,xs,e,h1,h2,h3,h4⟩:=h
   exact ⟨a,xs,e,q a rfl e,h2,h3,aK.less fd hs h4⟩
 | .fnc n cs,_,h=>h
 | .odc ks ds,q,h=>by
   obtain ⟨a,xs,e,h1,h2,h3,h4,h5,h6⟩:=h;exact ⟨a,xs,e,q a rfl e,h2,h3,h4,h5,aK.less fd hs h6⟩
inductive RelO (K:PySem.W.Frag) (H:Hp) (F:au->Prop):D->HO->Prop
 | lst {ds:List D} {xs:List V}:aK K H F ds xs->RelO K H F (.lst ds) (.lst xs)
 | dct {ks:List Str} {ds:List D} {vs:List V}:ks.Nodup->ks.length = ds.length->aK K H F ds vs->RelO K H F (.dct ks ds) (.dK (zk ks vs))
def owS:D->Sl
 | .lst ds=>.own ds
 | .dct ks ds=>.odc ks ds
 | _=>.no
def HK {d d':D} (h:ow (owS d) = true) (e:owS d = owS d'):d = d':=by
 cases d<;>first | (cases h;done) | skip
 . cases d'<;>first | (cases e;rfl) | cases e
 . cases d'<;>first | (cases e;rfl) | cases e
def RelO.mo {d:D} {o:HO} (h:RelO K H F d o):Mo o/\ow (owS d) = true:=by
 cases h<;>exact ⟨trivial,rfl⟩
def RelO.step (fd:FD F H) (s:Step G F H F' H') {d:D} {o:HO} (h:RelO K H F d o):RelO K H' F' d o:=by
 cases h with
 | lst h=>exact .lst (aK.step fd s _ _ h)
 | dct h1 h2 h3=>exact .dct h1 h2 (aK.step fd s _ _ h3)
def RelO.sl {o:Option (Option V)} {a:au} {d:D} {u:HO} (e:o = some (some (.ref a))) (hF:F a) (hg:G.free a) (h:H a = some u) (r:RelO K H F d u):eB K G F H o (owS d):=by
 cases r with
 | lst r=>exact ⟨a,_,e,hF,hg,h,r⟩
 | dct h1 h2 h3=>exact ⟨a,_,e,hF,hg,h,h1,h2,h3⟩
def eB.ow {o:Option (Option V)} {s:Sl} (h:eB K G F H o s) (q:ow s = true):∃ a u d,o = some (some (.ref a))/\F a/\G.free a/\H a = some u/\RelO K H F d u/\s = owS d:=by
 cases s with
 | own ds =>
   obtain ⟨a,xs,e,h1,h2,h3,h4⟩:=h
   exact ⟨a,_,.lst ds,e,h1,h2,h3,.lst h4,rfl⟩
 | odc ks ds =>
   obtain ⟨a,xs,e,h1,h2,h3,h4,h5,h6⟩:=h
   exact ⟨a,_,.dct ks ds,e,h1,h2,h3,.dct h4 h5 h6,rfl⟩
 | _=>cases q
def eB.stay0 (fd:FD F H) (st:Step G' F H F' H') (k:∀ a u,o = some (some (.ref a))->F a->G.free a->H a = some u->F' a/\H' a = some u):∀ {s:Sl},eB K G F H o s->eB K G F' H' o s
 | .no,_=>trivial
 | .fnc n cs,h=>by
   obtain ⟨v,e,z⟩:=h
   exact ⟨v,e,z.keep (uc fd st.keep)⟩
 | .val d,h=>by
   obtain ⟨v,e,z⟩:=h
   exact ⟨v,e,Rel.step fd st d v z⟩
 | .own ds,h=>by
   obtain ⟨a,u,d,e,h1,h2,h3,h4,e5⟩:=eB.ow h rfl;rw [e5];obtain ⟨k1,k2⟩:=k a u e h1 h2 h3
   exact RelO.sl e k1 h2 k2 (h4.step fd st)
 | .odc ks ds,h=>by
   obtain ⟨a,u,d,e,h1,h2,h3,h4,e5⟩:=eB.ow h rfl;rw [e5];obtain ⟨k1,k2⟩:=k a u e h1 h2 h3;exact RelO.sl e k1 h2 k2 (h4.step fd st)
def eB.stay {o:Option (Option V)} (fd:FD F H) (st:Step G F H F' H') (k:∀ a u,o = some (some (.ref a))->F a->G.free a->H a = some u->F' a/\H' a = some u) {s:Sl} (h:eB K G F H o s):eB K G F' H' o s:=eB.stay0 fd st k h
def eB.free {G':Gh} {o:Option (Option V)} (k:∀ a,F a->G.free a->G'.free a):∀ {s:Sl},eB K G F H o s->eB K G' F H o s
 | .no,_=>trivial
 | .fnc n cs,h=>h
 | .val d,h=>h
 | .own ds,h=>by
   obtain ⟨a,xs,e,h1,h2,h3⟩:=h
   exact ⟨a,xs,e,h1,k a h1 h2,h3⟩
 | .odc ks ds,h=>by
   obtain ⟨a,xs,e,h1,h2,h3⟩:=h;exact ⟨a,xs,e,h1,k a h1 h2,h3⟩
def RelO.rel (fd:FD F H) (hs:∀ b,F' b->F b) {a:au} (n:¬ F' a) {d:D} {u:HO} (h:H a = some u) (r:RelO K H F d u):Rel K H F' d (.ref a):=by
 cases r with
 | lst r =>
   unfold Rel
   exact ⟨a,_,rfl,.inl ⟨.inl h,n⟩,aK.less fd hs r⟩
 | dct h1 h2 h3 =>
   unfold Rel;exact ⟨a,_,rfl,.inl h,n,h1,h2,aK.less fd hs h3⟩
def dX {α:Type} {l:List α} {i j:Nat} {x y:α} (hi:i < l.length) (q:(l.set i x)[j]? = some y):(j = i/\y = x)\/(j≠i/\l[j]? = some y):=by
 by_cases hj:j = i
 . subst hj;rw [bQ hi] at q;cases q;exact .inl ⟨rfl,rfl⟩
 . rw [aO (Ne.symm hj)] at q;exact .inr ⟨hj,q⟩
def Ok.demote (h:Ok K G F σ H δ) {i:Nat} {d:D} {a:au} (e:δ[i]? = some (owS d)) (eo:ow (owS d) = true) (ea:σ[i]? = some (some (.ref a))) :
 Ok K G (λb=>F b/\b≠a) σ H (δ.set i (.val d))/\Rel K H (λb=>F b/\b≠a) d (.ref a):=by
 have hi:i < δ.length:=(aE.mp e).1;obtain ⟨a',u,d',e1,h1,h2,h3,h4,ed⟩:=eB.ow (h.sl i _ e) eo;rw [ea] at e1;cases e1;have ed:=HK eo ed;subst ed;have hs:∀ b,(F b/\b≠a)->F b:=λb z=>z.1;have r:Rel K H (λb=>F b/\b≠a) d (.ref a):=RelO.rel h.fd hs (λz=>z.2 rfl) h3 h4
 have tf':TF λb=>F b/\b≠a:=λt ht=>⟨h.tf t ht,λw=>by
  obtain ⟨ps,e2,_⟩:=h.tabs t ht;rw [w,h3] at e2;cases e2;exact h4.mo.1⟩
 refine ⟨⟨h.same,λb z=>h.fd b z.1,λb z=>⟨h.rf b z,λw=>h2.2 (by rw [<- w];exact z)⟩,h.rl,tf',h.tabs,by rw [bu];exact h.len,λj s q=>?_,λj k s t b q1 q2 o1 o2 p1 p2=>?_⟩,r⟩
 . rcases dX hi q with ⟨rfl,rfl⟩ | ⟨hj,q⟩
   . exact ⟨.ref a,ea,r⟩
   . refine (h.sl j s q).less h.fd hs λb z zb=>?_;obtain ⟨b',u',d',e1,f1,_⟩:=eB.ow (h.sl j _ q) z;rw [zb] at e1;cases e1;exact ⟨f1,λw=>hj (h.apart j i _ _ a q e z eo (by rw [zb,w]) ea)⟩
 . rcases dX hi q1 with ⟨rfl,rfl⟩ | ⟨hj,q1⟩
   . cases o1
   . rcases dX hi q2 with ⟨rfl,rfl⟩ | ⟨hk,q2⟩
     . cases o2
     . exact h.apart j k s t b q1 q2 o1 o2 p1 p2
def Ok.set (h:Ok K G F σ H δ) {i:Nat} {d:D} {v:V} (hi:i < δ.length) (r:Rel K H F d v):Ok K G F (σ.set i (some v)) H (δ.set i (.val d)):=by
 have hi':i < σ.length:=by rw [<- h.len];exact hi
 refine ⟨h.same,h.fd,h.rf,h.rl,h.tf,h.tabs,by rw [bu,bu];exact h.len,λj s q=>?_,λj k s t b q1 q2 o1 o2 p1 p2=>?_⟩
 . rcases dX hi q with ⟨rfl,rfl⟩ | ⟨hj,q⟩
   . exact ⟨v,by rw [bQ hi'],r⟩
   . rw [aO (Ne.symm hj)];exact h.sl j s q
 . rcases dX hi q1 with ⟨rfl,rfl⟩ | ⟨hj,q1⟩
   . cases o1
   . rcases dX hi q2 with ⟨rfl,rfl⟩ | ⟨hk,q2⟩
     . cases o2
     . rw [aO (Ne.symm hj)] at p1;rw [aO (Ne.symm hk)] at p2;exact h.apart j k s t b q1 q2 o1 o2 p1 p2
def Ok.ownO (h:Ok K G F σ H δ) {i:Nat} {d:D} {u:HO} {p:au} (hi:i < δ.length) (hp:F p) (hg:G.free p) (e:H p = some u) (r:RelO K H F d u)
 (hn:∀ (j:Nat) s,δ[j]? = some s->ow s = true->σ[j]?≠some (some (.ref p))):Ok K G F (σ.set i (some (.ref p))) H (δ.set i (owS d)):=by
 have hi':i < σ.length:=by rw [<- h.len];exact hi
 refine ⟨h.same,h.fd,h.rf,h.rl,h.tf,h.tabs,by rw [bu,bu];exact h.len,λj s q=>?_,λj k s t b q1 q2 o1 o2 p1 p2=>?_⟩
 . rcases dX hi q with ⟨rfl,rfl⟩ | ⟨hj,q⟩
   . exact RelO.sl (by rw [bQ hi']) hp hg e r
   . rw [aO (Ne.symm hj)];exact h.sl j s q
 . rcases dX hi q1 with ⟨rfl,rfl⟩ | ⟨hj,q3⟩
   . rcases dX hi q2 with ⟨rfl,rfl⟩ | ⟨hk,q2⟩
     . rfl
     . rw [bQ hi'] at p1;rw [aO (Ne.symm hk)] at p2;cases p1;exact (hn k t q2 o2 p2).elim
   . rw [aO (Ne.symm hj)] at p1;rcases dX hi q2 with ⟨rfl,rfl⟩ | ⟨hk,q2⟩
     . rw [bQ hi'] at p2;cases p2;exact (hn j s q3 o1 p1).elim
     . rw [aO (Ne.symm hk)] at p2;exact h.apart j k s t b q3 q2 o1 o2 p1 p2
def Ok.own (h:Ok K G F σ H δ) {i:Nat} {ds:List D} {xs:List V} {p:au} (hi:i < δ.length) (hp:F p) (hg:G.free p) (e:H p = some (.lst xs)) (r:aK K H F ds xs)
 (hn:∀ (j:Nat) s,δ[j]? = some s->ow s = true->σ[j]?≠some (some (.ref p))):Ok K G F (σ.set i (some (.ref p))) H (δ.set i (.own ds)):=h.ownO (d:=.lst ds) hi hp hg e (.lst r) hn
def Ok.writeO (h:Ok K G F σ H δ) {i:Nat} {d d':D} {a:au} {u:HO} (e:δ[i]? = some (owS d)) (eo:ow (owS d) = true) (ea:σ[i]? = some (some (.ref a))) (r:RelO K H F d' u) :
 Ok K G F σ (upd H a u) (δ.set i (owS d'))/\Step G F H F (upd H a u):=by
 have hi:i < δ.length:=(aE.mp e).1;have e':=e;obtain ⟨a',x,d0,e1,h1,h2,h3,h4,_⟩:=eB.ow (h.sl i _ e) eo;rw [ea] at e1;cases e1
 have nt:NT x:=by
  have m:=h4.mo.1;cases x<;>first | trivial | exact m
 have st:Step G F H F (upd H a u):=⟨λb o _ q n=>by
  rw [bh (λz:b = a=>n (by rw [z];exact h1))];exact q,λb z=>.inl z,λb o r z e=>⟨z,by rw [bh (λw:b = a=>h2.2 (by rw [<- w];exact r))];exact e⟩,λb ps e=>⟨ps,by rw [bh (λw:b = a=>by rw [w,h3] at e;cases e;exact nt)];exact e⟩⟩
 have tb':kZ (upd H a u):=h.tabs.keep λb o n e=>by rw [bh (λw:b = a=>by rw [w,h3] at e;cases e;exact n h4.mo.1)];exact e
 refine ⟨⟨⟨λb o t q=>?_,λb ps q=>?_⟩,λb z=>?_,h.rf,λb z=>?_,h.tf,tb',by rw [bu];exact h.len,λj s q=>?_,λj k s t b q1 q2 o1 o2 p1 p2=>?_⟩,st⟩
 . have:=h.same.nt b o t q;rw [bh (λz:b = a=>by rw [z,h2.1] at q;cases q)];exact this
 . rw [bh (λz:b = a=>by rw [z,h2.1] at q;cases q)];exact h.same.tb b ps q
 . by_cases hb:b = a
   . subst hb;exact ⟨u,bL,.inl r.mo.1⟩
   . rw [bh hb];exact h.fd b z
 . by_cases hb:b = a
   . subst hb;exact ⟨u,bL,r.mo.1⟩
   . rw [bh hb];exact h.rl b z
 . rcases dX hi q with ⟨rfl,rfl⟩ | ⟨hj,q⟩
   . exact RelO.sl ea h1 h2 bL (r.step h.fd st)
   . cases eq:ow s with
     | true =>
       refine eB.stay h.fd st (λb v e f1 f2 f3=>⟨f1,?_⟩) (h.sl j s q);rw [bh (λw:b = a=>hj (h.apart j i _ _ a q e' eq eo (by rw [e,w]) ea))]
       exact f3
     | false =>
       have z:=h.sl j s q
       cases s with
       | no=>trivial
       | fnc n cs =>
         obtain ⟨v,e,z⟩:=z
         exact ⟨v,e,z.keep (uc h.fd st.keep)⟩
       | val d =>
         obtain ⟨v,e,z⟩:=z
         exact ⟨v,e,Rel.step h.fd st d v z⟩
       | own _=>cases eq
       | odc _ _=>cases eq
 . have un:∀ (m:Nat) (g:Sl),(δ.set i (owS d'))[m]? = some g->ow g = true->∃ g',δ[m]? = some g'/\ow g' = true:=λm g q o=>by
    rcases dX hi q with ⟨rfl,rfl⟩ | ⟨hj,q⟩
    . exact ⟨_,e,eo⟩
    . exact ⟨g,q,o⟩
   obtain ⟨g1,q1,o1⟩:=un j _ q1 o1;obtain ⟨g2,q2,o2⟩:=un k _ q2 o2;exact h.apart j k g1 g2 b q1 q2 o1 o2 p1 p2
def Ok.write (h:Ok K G F σ H δ) (e:δ[i]? = some (.own ds)) (ea:σ[i]? = some (some (.ref a))) (r:aK K H F es ys) :
 Ok K G F σ (upd H a (.lst ys)) (δ.set i (.own es))/\Step G F H F (upd H a (.lst ys)):=h.writeO (d:=.lst ds) (d':=.lst es) e rfl ea (.lst r)
def Mo.nt {o:HO} (m:Mo o):NT o:=by
 cases o<;>first | trivial | exact m
def Step.of_sim (rl:∀ b,G.R b->∃ o,H b = some o/\Mo o) (k:Sim H H'):Step G F H F H':=⟨λb o t e _=>k.nt b o t e,λb z=>.inl z,λb o r f e=>⟨f,by
 obtain ⟨u,e2,m⟩:=rl b r;rw [e] at e2;cases e2;exact k.nt b _ m.nt e⟩,k.tb⟩
def Ok.call (h:Ok K G F σ H δ) (k:Sim H H') (t:kZ H'):Ok K G F σ H' δ/\Step G F H F H':=by
 have st:Step G F H F H':=Step.of_sim h.rl k;refine ⟨⟨h.same.trans k,λb z=>?_,h.rf,λb z=>?_,h.tf,t,h.len,λi s e=>?_,h.apart⟩,st⟩
 . obtain ⟨o,e,m⟩:=h.fd b z;rcases m with m | ⟨⟨ps,rfl⟩,t⟩
   . exact ⟨o,k.nt _ _ m.nt e,.inl m⟩
   . obtain ⟨qs,e⟩:=k.tb b ps e;exact ⟨_,e,.inr ⟨⟨qs,rfl⟩,t⟩⟩
 . obtain ⟨o,e,m⟩:=h.rl b z;exact ⟨o,k.nt _ _ m.nt e,m⟩
 . cases eq:ow s with
   | true =>
     obtain ⟨_,_,_,_,_,_,h3,h4,_⟩:=eB.ow (h.sl i s e) eq;refine eB.stay h.fd st (λb v e2 f1 f2 f3=>⟨f1,?_⟩) (h.sl i s e);obtain ⟨o,e3,m⟩:=h.fd b f1;rw [f3] at e3;cases e3;rcases m with m | ⟨⟨ps,rfl⟩,t,ht,eb⟩
     . exact k.nt _ _ m.nt f3
     . exfalso;obtain ⟨c,w,d,e5,_,_,e7,r7,_⟩:=eB.ow (h.sl i s e) eq;rw [e2] at e5;cases e5;rw [f3] at e7;cases e7
       exact r7.mo.1
   | false =>
     have q:=h.sl i s e
     cases s with
     | no=>trivial
     | fnc n cs =>
       obtain ⟨v,e,r⟩:=q
       exact ⟨v,e,r.keep (uc h.fd st.keep)⟩
     | val d =>
       obtain ⟨v,e,r⟩:=q
       exact ⟨v,e,Rel.step h.fd st d v r⟩
     | own _=>cases eq
     | odc _ _=>cases eq
end
end PP
end
section
namespace PP
open PySem L2 PyProof.Rows PySem.SeqAt
variable [Tbs]
def AY (xs:List (Array Nat)):∀ a:Array Nat,(xs.foldl (·++·) a).toList = a.toList++(xs.map (·.toList)).flatten:=by
 induction xs with
 | nil=>intro a;simp
 | cons x r ih=>intro a;rw [kG,ih];simp
def Ia (x:Str) (n:Int) (h:0<=n):Txt.mul x n = qG x n.toNat:=by
 unfold Txt.mul qG;by_cases h1:n < 1
 . have:n = 0:=by lia
   subst this;rfl
 . rw [if_neg h1];by_cases h2:(n == 1 || x.length == 0) = true
   . rw [if_pos h2];rw [cK] at h2;rcases h2 with h2 | h2
     . have:n = 1:=by simpa using h2
       subst this;simp
     . have e:x.cps = #[]:=by
        have:x.cps.size = 0:=by simpa [Str.length] using h2
        exact Array.eq_empty_of_size_eq_zero this
       cases x;simp at e;subst e;simp
   . rw [if_neg h2];congr 1;apply Array.ext';rw [AY];simp
def HM:OpR X (binaryOp .Mult) (λx y H Q=>∃ i n,x = .str i/\y = .int n/\(0<=n/\n<=1000/\i.length<=1000)/\Q (.str (qG i n.toNat)) H):=by
 intro pins s σ H x y v u Q I rx ry h;obtain ⟨i,n,rfl,rfl,⟨h1,h2,h3⟩,q⟩:=h;obtain ⟨t,rfl⟩:=rx;obtain ⟨t',rfl⟩:=ry;refine SB.mul ⟨?_,λa _ b=>?_,λa _=>?_⟩ λt' k=>?_
 . simp;lia
 . have:(1000:Int)<=(2 ^ 63 - 1) / n:=by rw [Int.le_ediv_iff_mul_le ∅];lia
   lia
 . have:i.length * n.toNat<=1000 * 1000:=Nat.mul_le_mul h3 ∅;have z:=eU;unfold Builtin.Str.tooLong;simp
   lia
 . rw [Ia i n h1];exact ⟨.str _,H,I.tok _,⟨_,rfl⟩,q⟩
mutual
noncomputable def RdV (h:bH):D->ag->Prop
 | .non,u=>u = .none
 | .bl b,u=>u = .bool b
 | .int i,u=>∃ t,u = .int i t
 | .str x,u=>∃ t,u = .str x t
 | .lst ds,u=>∃ a its,u = .ref a/\h.IsList a its/\RdL h ds its.toList
 | .tup ds,u=>∃ a its,u = .ref a/\h.IsTuple a its/\RdL h ds its.toList
 | .fn _ _,_=>False
 | .dct _ _,_=>False
noncomputable def RdL (h:bH):List D->List ag->Prop
 | [],us=>us = []
 | d::ds,us=>∃ w ws,us = w::ws/\RdV h d w/\RdL h ds ws
end
mutual
theorem Dm (I:Inv X pins σ H s):∀ (d:D) (v:V) (u:ag),Rel X.K H F d v->RelV v u->dep d < 100000->RdV s.heap d u
 | .non,v,u,h,r,_=>by unfold Rel at h;subst h;unfold RdV;exact r
 | .bl b,v,u,h,r,_=>by unfold Rel at h;subst h;unfold RdV;exact r
 | .int b,v,u,h,r,_=>by unfold Rel at h;subst h;unfold RdV;exact r
 | .str b,v,u,h,r,_=>by unfold Rel at h;subst h;unfold RdV;exact r
 | .lst ds,v,u,h,r,hd=>by
   unfold dep at hd;unfold Rel at h;obtain ⟨a,xs,e,h1,h3⟩:=h;subst e;cases (show u = bA a from r);obtain ⟨its,rv,p,hz⟩:=I.list h1.sq;unfold RdV
   exact ⟨a,its.toArray,rfl,p.isList,mR I ds xs its h3 rv ∅⟩
 | .tup ds,v,u,h,r,hd=>by
   unfold dep at hd;unfold Rel at h;obtain ⟨a,xs,e,h1,h3⟩:=h;subst e;cases (show u = bA a from r);obtain ⟨its,rv,p,hz⟩:=I.tuple h1;unfold RdV
   exact ⟨a,its.toArray,rfl,p,mR I ds xs its h3 rv ∅⟩
 | .fn _ _,v,u,h,r,_=>by unfold Rel at h;exact h.elim
 | .dct _ _,v,u,h,r,hd=>by unfold dep at hd;exact absurd hd (bV _)
theorem mR (I:Inv X pins σ H s):∀ (ds:List D) (xs:List V) (us:List ag),aK X.K H F ds xs->Vals xs us->cb ds < 100000->RdL s.heap ds us
 | [],xs,us,h,r,_=>by unfold aK at h;subst h;cases r;unfold RdL;rfl
 | d::ds,xs,us,h,r,hd=>by
   unfold cb at hd;unfold aK at h;obtain ⟨y,ys,e,h1,h2⟩:=h;subst e
   cases r with
   | cons r1 r2 =>
     unfold RdL;exact ⟨_,_,rfl,Dm I d y _ h1 r1 ∅,mR I ds ys _ h2 r2 ∅⟩
end
def eN (I:Inv X pins σ H s) (h:cX X.K H F d v) (r:RelV v u) (hd:dep d < 100000):RdV s.heap d u:=by
 rcases h with h | ⟨a,xs,ds,rfl,rfl,h1,h2⟩
 . exact Dm I d v u h r hd
 . cases (show u = bA a from r);obtain ⟨its,rv,p,hz⟩:=I.list (.inl (.inl h1));unfold RdV;unfold dep at hd;exact ⟨a,its.toArray,rfl,p.isList,mR I ds xs its h2 rv ∅⟩
mutual
theorem RdV.inj:∀ (d e:D) (u:ag),RdV h d u->RdV h e u->d = e
 | .non,e,u,a,b=>by
   unfold RdV at a;subst a
   cases e<;>unfold RdV at b<;>first | rfl | (obtain ⟨_,_,b,_⟩:=b;cases b;done) | (obtain ⟨_,b⟩:=b;cases b;done) | (cases b;done)
 | .bl x,e,u,a,b=>by
   unfold RdV at a;subst a
   cases e<;>unfold RdV at b<;>first | (cases b;rfl) | (obtain ⟨_,_,b,_⟩:=b;cases b;done) | (obtain ⟨_,b⟩:=b;cases b;done) | (cases b;done)
 | .int x,e,u,a,b=>by
   unfold RdV at a;obtain ⟨t,a⟩:=a;subst a
   cases e<;>unfold RdV at b<;>first | (obtain ⟨_,_,b,_⟩:=b;cases b;done) | (obtain ⟨_,b⟩:=b;cases b;rfl) | (obtain ⟨_,b⟩:=b;cases b;done) | (cases b;done)
 | .str x,e,u,a,b=>by
   unfold RdV at a;obtain ⟨t,a⟩:=a;subst a
   cases e<;>unfold RdV at b<;>first | (obtain ⟨_,_,b,_⟩:=b;cases b;done) | (obtain ⟨_,b⟩:=b;cases b;rfl) | (obtain ⟨_,b⟩:=b;cases b;done) | (cases b;done)
 | .lst ds,e,u,a,b=>by
   unfold RdV at a;obtain ⟨l,its,a,h1,h2⟩:=a;subst a
   cases e with
   | lst es =>
     unfold RdV at b;obtain ⟨l',its',b,k1,k2⟩:=b;cases b;obtain ⟨o,g1,g2,n,g3⟩:=h1;obtain ⟨o',f1,f2,n',f3⟩:=k1;rw [g1] at f1;cases f1;rw [g3] at f3;cases f3
     rw [RdL.inj ds es _ h2 k2]
   | tup es =>
     unfold RdV at b;obtain ⟨l',its',b,k1,k2⟩:=b;cases b;obtain ⟨o,g1,g2,_⟩:=h1;obtain ⟨o',f1,f2,_⟩:=k1;rw [g1] at f1;cases f1
     rw [g2] at f2;injection f2 with f2;exact absurd f2 ⇑0
   | _=>unfold RdV at b;first | (obtain ⟨_,b⟩:=b;cases b) | cases b
 | .tup ds,e,u,a,b=>by
   unfold RdV at a;obtain ⟨l,its,a,h1,h2⟩:=a;subst a
   cases e with
   | tup es =>
     unfold RdV at b;obtain ⟨l',its',b,k1,k2⟩:=b;cases b;obtain ⟨o,g1,g2,n,g3⟩:=h1;obtain ⟨o',f1,f2,n',f3⟩:=k1;rw [g1] at f1;cases f1;rw [g3] at f3;cases f3
     rw [RdL.inj ds es _ h2 k2]
   | lst es =>
     unfold RdV at b;obtain ⟨l',its',b,k1,k2⟩:=b;cases b;obtain ⟨o,g1,g2,_⟩:=h1;obtain ⟨o',f1,f2,_⟩:=k1;rw [g1] at f1;cases f1
     rw [g2] at f2;injection f2 with f2;exact absurd f2 ⇑0
   | _=>unfold RdV at b;first | (obtain ⟨_,b⟩:=b;cases b) | cases b
 | .fn _ _,e,u,a,b=>by unfold RdV at a;exact a.elim
 | .dct _ _,e,u,a,b=>by unfold RdV at a;exact a.elim
theorem RdL.inj:∀ (ds es:List D) (us:List ag),RdL h ds us->RdL h es us->ds = es
 | [],es,us,a,b=>by
   unfold RdL at a;subst a
   cases es with
   | nil=>rfl
   | cons e es=>unfold RdL at b;obtain ⟨_,_,b,_⟩:=b;cases b
 | d::ds,es,us,a,b=>by
   unfold RdL at a;obtain ⟨w,ws,a,h1,h2⟩:=a;subst a
   cases es with
   | nil=>unfold RdL at b;cases b
   | cons e es =>
     unfold RdL at b;obtain ⟨_,_,b,k1,k2⟩:=b;cases b;rw [RdV.inj d e w h1 k1,RdL.inj ds es ws h2 k2]
end
mutual
theorem iw:∀ d:D,dep d < 100000->eqD d d = true
 | .non,_=>by unfold eqD;rfl
 | .bl b,_=>by unfold eqD;simp
 | .int b,_=>by unfold eqD;simp
 | .str b,_=>by unfold eqD;simp
 | .lst ds,h=>by unfold eqD;exact mZ ds (by unfold dep at h;lia)
 | .tup ds,h=>by unfold eqD;exact mZ ds (by unfold dep at h;lia)
 | .fn _ _,h=>by unfold dep at h;lia
 | .dct _ _,h=>by unfold dep at h;lia
theorem mZ:∀ ds:List D,cb ds < 100000->fm ds ds = true
 | [],_=>by unfold fm;rfl
 | d::ds,h=>by
   unfold cb at h;unfold fm;rw [iw d ∅,mZ ds ∅];rfl
end
def pairD (ds es:List D) (j:Nat):Bool:=match ds[j]?,es[j]? with
 | some x,some y=>eqD x y
 | _,_=>false
def kK:∀ (ds es:List D),(bK (min ds.length es.length)).all (pairD ds es) = true/\ds.length = es.length↔fm ds es = true
 | [],[]=>by unfold fm;simp
 | [],_::_=>by unfold fm;simp
 | _::_,[]=>by unfold fm;simp
 | d::ds,e::es=>by
   have ih:=kK ds es;have e1:min (d::ds).length (e::es).length = min ds.length es.length+1:=by simp only [aG];lia
   rw [e1,List.range_succ_eq_map,mF,List.all_map];have e2:(pairD (d::ds) (e::es) ∘ Nat.succ) = pairD ds es:=by funext j;simp [pairD]
   rw [e2];unfold fm;rw [aa,aa,<- ih];have e3:pairD (d::ds) (e::es) 0 = eqD d e:=rfl;rw [e3];simp only [aG];constructor
   . rintro ⟨⟨a,b⟩,c⟩;exact ⟨a,b,∅⟩
   . rintro ⟨a,b,c⟩;exact ⟨⟨a,b⟩,∅⟩
def qo (h:ds.length = es.length):(bK ds.length).all (pairD ds es) = fm ds es:=by
 have q:=kK ds es;rw [<- h,yk] at q;rw [cL];rw [<- q];simp
def ui (h:ds.length≠es.length):fm ds es = false:=by
 have q:=kK ds es;rw [cI];intro z;exact h (q.mpr z).2
def ng (ds es:List D):((bK (min ds.length es.length)).all (pairD ds es) && ds.length == es.length) = fm ds es:=by
 have q:=kK ds es;rw [cL,aa,<- q];simp
def RdL.length:∀ {ds:List D} {us:List ag},RdL h ds us->us.length = ds.length
 | [],us,a=>by unfold RdL at a;subst a;rfl
 | d::ds,us,a=>by
   unfold RdL at a;obtain ⟨w,ws,a,_,h2⟩:=a;subst a;rw [aG,aG,RdL.length h2]
def mm1 (a b c d:Nat):min a c<=min (max a b) (max c d):=Nat.le_min.mpr ⟨bx (JB _ _) (kX _ _),bx (qz _ _) (kX _ _)⟩
def mm2 (a b c d:Nat):min b d<=min (max a b) (max c d):=Nat.le_min.mpr ⟨bx (JB _ _) (kh _ _),bx (qz _ _) (kh _ _)⟩
mutual
theorem uj:∀ (a b:D) (A:bo) (s:aj) (u v:ag),RdV s.heap a u->RdV s.heap b v->A.units+min (dep a) (dep b) < cLine->EqAt A s u v (eqD a b)
 | .non,b,A,s,u,v,ra,rb,hu=>by
   unfold RdV at ra;subst ra
   cases b with
   | non=>unfold RdV at rb;subst rb;unfold eqD;exact FY _
   | bl b=>unfold RdV at rb;subst rb;unfold eqD;exact EqAt.none_bool b
   | int b=>unfold RdV at rb;obtain ⟨t,rfl⟩:=rb;unfold eqD;exact EqAt.none_int b t
   | str b=>unfold RdV at rb;obtain ⟨t,rfl⟩:=rb;unfold eqD;exact EqAt.none_str b t
   | lst ds=>unfold RdV at rb;obtain ⟨l,its,rfl,h1,h2⟩:=rb;unfold eqD;exact EqAt.none_list h1 ∅
   | tup ds=>unfold RdV at rb;obtain ⟨l,its,rfl,h1,h2⟩:=rb;unfold eqD;exact EqAt.none_tuple h1 ∅
   | fn _ _=>unfold RdV at rb;exact rb.elim
   | dct _ _=>unfold RdV at rb;exact rb.elim
 | .bl a,b,A,s,u,v,ra,rb,hu=>by
   unfold RdV at ra;subst ra
   cases b with
   | non=>unfold RdV at rb;subst rb;unfold eqD;exact EqAt.bool_none a
   | bl b=>unfold RdV at rb;subst rb;unfold eqD;exact EqAt.bool_bool a b
   | int b=>unfold RdV at rb;obtain ⟨t,rfl⟩:=rb;unfold eqD;exact EqAt.bool_int a b t
   | str b=>unfold RdV at rb;obtain ⟨t,rfl⟩:=rb;unfold eqD;exact EqAt.bool_str a b t
   | lst ds=>unfold RdV at rb;obtain ⟨l,its,rfl,h1,h2⟩:=rb;unfold eqD;exact EqAt.bool_list a h1 ∅
   | tup ds=>unfold RdV at rb;obtain ⟨l,its,rfl,h1,h2⟩:=rb;unfold eqD;exact EqAt.bool_tuple a h1 ∅
   | fn _ _=>unfold RdV at rb;exact rb.elim
   | dct _ _=>unfold RdV at rb;exact rb.elim
 | .int a,b,A,s,u,v,ra,rb,hu=>by
   unfold RdV at ra;obtain ⟨t',rfl⟩:=ra
   cases b with
   | non=>unfold RdV at rb;subst rb;unfold eqD;exact EqAt.int_none a t'
   | bl b=>unfold RdV at rb;subst rb;unfold eqD;exact EqAt.int_bool a t' b
   | int b=>unfold RdV at rb;obtain ⟨t,rfl⟩:=rb;unfold eqD;exact EqAt.int_int a t' b t
   | str b=>unfold RdV at rb;obtain ⟨t,rfl⟩:=rb;unfold eqD;exact EqAt.int_str a t' b t
   | lst ds=>unfold RdV at rb;obtain ⟨l,its,rfl,h1,h2⟩:=rb;unfold eqD;exact EqAt.int_list a t' h1 ∅
   | tup ds=>unfold RdV at rb;obtain ⟨l,its,rfl,h1,h2⟩:=rb;unfold eqD;exact EqAt.int_tuple a t' h1 ∅
   | fn _ _=>unfold RdV at rb;exact rb.elim
   | dct _ _=>unfold RdV at rb;exact rb.elim
 | .str a,b,A,s,u,v,ra,rb,hu=>by
   unfold RdV at ra;obtain ⟨t',rfl⟩:=ra
   cases b with
   | non=>unfold RdV at rb;subst rb;unfold eqD;exact EqAt.str_none a t'
   | bl b=>unfold RdV at rb;subst rb;unfold eqD;exact EqAt.str_bool a t' b
   | int b=>unfold RdV at rb;obtain ⟨t,rfl⟩:=rb;unfold eqD;exact EqAt.str_int a t' b t
   | str b=>unfold RdV at rb;obtain ⟨t,rfl⟩:=rb;unfold eqD;exact EqAt.str_str a t' b t
   | lst ds=>unfold RdV at rb;obtain ⟨l,its,rfl,h1,h2⟩:=rb;unfold eqD;exact EqAt.str_list a t' h1 ∅
   | tup ds=>unfold RdV at rb;obtain ⟨l,its,rfl,h1,h2⟩:=rb;unfold eqD;exact EqAt.str_tuple a t' h1 ∅
   | fn _ _=>unfold RdV at rb;exact rb.elim
   | dct _ _=>unfold RdV at rb;exact rb.elim
 | .lst ds,b,A,s,u,v,ra,rb,hu=>by
   have ra':=ra;unfold RdV at ra;obtain ⟨l,its,rfl,h1,h2⟩:=ra
   cases b with
   | non=>unfold RdV at rb;subst rb;unfold eqD;exact EqAt.list_none h1 ∅
   | bl b=>unfold RdV at rb;subst rb;unfold eqD;exact EqAt.list_bool b h1 ∅
   | int b=>unfold RdV at rb;obtain ⟨t,rfl⟩:=rb;unfold eqD;exact EqAt.list_int b t h1 ∅
   | str b=>unfold RdV at rb;obtain ⟨t,rfl⟩:=rb;unfold eqD;exact EqAt.list_str b t h1 ∅
   | tup es=>unfold RdV at rb;obtain ⟨l',its',rfl,k1,k2⟩:=rb;unfold eqD;exact EqAt.list_tuple h1 k1 ∅
   | lst es =>
     have rb':=rb;unfold RdV at rb;obtain ⟨l',its',rfl,k1,k2⟩:=rb;by_cases hl:l = l'
     . subst hl;have e:=RdV.inj _ _ _ ra' rb';cases e;have hd:dep (.lst ds) < 100000:=by rw [yk] at hu;have:cLine = 9900:=rfl;lia
       rw [iw _ hd];exact FY _
     . unfold eqD;have n1:its.size = ds.length:=by simpa using h2.length
       have n2:its'.size = es.length:=by simpa using k2.length
       have he:∀ j (j1:j < its.size) (j2:j < its'.size),EqAt A.in1 s its[j] its'[j] (pairD ds es j):=λj j1 j2=>by
        have q:=jN ds es A.in1 s its.toList its'.toList h2 k2 (by show A.units+1+_ < _;unfold dep at hu;lia) j (by simpa using j1) (by simpa using j2);simpa using q
       refine EqAt.of_refs hl ?_;by_cases hsz:its.size = its'.size
       . rw [<- qo (by lia:ds.length = es.length),<- n1];exact RcAt.lists h1 k1 hsz ∅ he
       . rw [ui (by lia:ds.length≠es.length)]
         exact RcAt.lists_lengths h1 k1 (by simpa using hsz) ∅
   | fn _ _=>unfold RdV at rb;exact rb.elim
   | dct _ _=>unfold RdV at rb;exact rb.elim
 | .tup ds,b,A,s,u,v,ra,rb,hu=>by
   have ra':=ra;unfold RdV at ra;obtain ⟨l,its,rfl,h1,h2⟩:=ra
   cases b with
   | non=>unfold RdV at rb;subst rb;unfold eqD;exact EqAt.tuple_none h1 ∅
   | bl b=>unfold RdV at rb;subst rb;unfold eqD;exact EqAt.tuple_bool b h1 ∅
   | int b=>unfold RdV at rb;obtain ⟨t,rfl⟩:=rb;unfold eqD;exact EqAt.tuple_int b t h1 ∅
   | str b=>unfold RdV at rb;obtain ⟨t,rfl⟩:=rb;unfold eqD;exact EqAt.tuple_str b t h1 ∅
   | lst es=>unfold RdV at rb;obtain ⟨l',its',rfl,k1,k2⟩:=rb;unfold eqD;exact EqAt.tuple_list h1 k1 ∅
   | tup es =>
     have rb':=rb;unfold RdV at rb;obtain ⟨l',its',rfl,k1,k2⟩:=rb;by_cases hl:l = l'
     . subst hl;have e:=RdV.inj _ _ _ ra' rb';cases e;have hd:dep (.tup ds) < 100000:=by rw [yk] at hu;have:cLine = 9900:=rfl;lia
       rw [iw _ hd];exact FY _
     . unfold eqD;have n1:its.size = ds.length:=by simpa using h2.length
       have n2:its'.size = es.length:=by simpa using k2.length
       have he:∀ j (j1:j < its.size) (j2:j < its'.size),EqAt A.in1 s its[j] its'[j] (pairD ds es j):=λj j1 j2=>by
        have q:=jN ds es A.in1 s its.toList its'.toList h2 k2 (by show A.units+1+_ < _;unfold dep at hu;lia) j (by simpa using j1) (by simpa using j2);simpa using q
       refine EqAt.of_refs hl ?_;rw [<- ng,<- n1,<- n2]
       exact RcAt.tuples h1 k1 ∅ he
   | fn _ _=>unfold RdV at rb;exact rb.elim
   | dct _ _=>unfold RdV at rb;exact rb.elim
 | .fn _ _,b,A,s,u,v,ra,rb,hu=>by unfold RdV at ra;exact ra.elim
 | .dct _ _,b,A,s,u,v,ra,rb,hu=>by unfold RdV at ra;exact ra.elim
theorem jN:∀ (ds es:List D) (A:bo) (s:aj) (us vs:List ag),RdL s.heap ds us->RdL s.heap es vs->A.units+min (cb ds) (cb es) < cLine->∀ j (h1:j < us.length) (h2:j < vs.length),EqAt A s us[j] vs[j] (pairD ds es j)
 | [],_,_,_,us,_,ra,_,_,j,h1,_=>by unfold RdL at ra;subst ra;exact absurd h1 (JA _)
 | _::_,[],_,_,_,vs,_,rb,_,j,_,h2=>by unfold RdL at rb;subst rb;exact absurd h2 (JA _)
 | d::ds,e::es,A,s,us,vs,ra,rb,hu,j,h1,h2=>by
   unfold RdL at ra rb;obtain ⟨w,ws,rfl,a1,a2⟩:=ra;obtain ⟨w',ws',rfl,b1,b2⟩:=rb;unfold cb at hu
   cases j with
   | zero=>exact uj d e A s w w' a1 b1 (dA (fD (mm1 _ _ _ _) _) hu)
   | succ j =>
     have q:=jN ds es A s ws ws' a2 b2 (dA (fD (mm2 _ _ _ _) _) hu) j (by simpa using h1) (by simpa using h2);simpa [pairD] using q
end
def zM (h:i.natAbs < 2 ^ 200):sj i<=2 ^ 20:=by
 unfold sj;split
 . exact cA _
 . rename_i h0;have:i.natAbs.log2 < 200:=(Nat.log2_lt (by simpa using h0)).mpr h;have:(200:Nat)<=2 ^ 20:=by decide
   lia
def Ib (h:rH i j = true):IntMulOk i j:=by
 unfold rH at h;simp only [cK,aa,decide_eq_true_eq] at h;rcases h with (h | h) | h
 . exact .of_left (intBits_le_64 h.1 h.2)
 . exact .of_right (intBits_le_64 h.1 h.2)
 . exact .of_bits (zM h.1) (zM h.2)
def HN:OpR X (binaryOp .Mult) (rI IntMulOk λi j=>.int (i * j)):=opI λ_ _ _ _ _ _ _ hc q=>PyProof.Rows.mul_int q hc
def DT:OpR X (binaryOp .FloorDiv) (rI (λ_ j=>0 < j/\j < 1000000000000000000000000000000000000000000000000000000000000) λi j=>.int (i / j)):=opI λi j _ _ _ _ _ hc q=>by
 have h1:(0:Int) < j:=hc.1;have h2:j < 1000000000000000000000000000000000000000000000000000000000000:=hc.2;refine PyProof.Rows.floordiv_int ∅ (by rw [Int.fdiv_eq_ediv_of_nonneg i ∅];exact q) (.inl (PyProof.noPylong_of_log2 ?_));exact oa ((Nat.log2_lt (k:=200) ∅).mpr (aZ (show j.natAbs < 1000000000000000000000000000000000000000000000000000000000000 by lia) ⇑0)) ⇑0
section
variable {X:Cx}
def Lx (hu:X.A.units+200 < cLine):OpR X (compareOp .Eq) (λx y H Q=>∃ F a b,cX X.K H F a x/\cX X.K H F b y/\fU a b = true/\Q (.bl (eqD a b)) H):=by
 intro pins s σ H x y v u Q I rx ry h;obtain ⟨F,a,b,ha,hb,hk,q⟩:=h;unfold fU at hk;rw [aa,aa] at hk;obtain ⟨⟨hk,hd⟩,hm⟩:=hk;replace hd:=of_decide_eq_true hd;replace hm:=of_decide_eq_true hm;have ra:=eN I ha rx ∅;have rb:=eN I hb ry ∅;have fin:∀ k:Bool,k = eqD a b->EP X pins σ Q (.bool k) s:=λk e=>⟨.bl k,H,I,rfl,by rw [e];exact q⟩
 cases a<;>cases b<;>first
  | (exact absurd (show false = true from hk) ak)
  | skip
 . unfold RdV at ra rb;subst ra;subst rb;exact RcAt.bool_bool _ _ _ _ _ _ (fin _ (by unfold eqD;rfl))
 . unfold RdV at ra rb;obtain ⟨t,rfl⟩:=ra;obtain ⟨t',rfl⟩:=rb;exact RcAt.int_int _ _ _ _ _ _ _ _ (fin _ (by unfold eqD;rfl))
 . unfold RdV at ra rb;obtain ⟨t,rfl⟩:=ra;obtain ⟨t',rfl⟩:=rb;exact RcAt.str_str _ _ _ _ _ _ _ _ (fin _ (by unfold eqD;rfl))
 . rename_i ds es;unfold RdV at ra rb;obtain ⟨l,its,rfl,h1,h2⟩:=ra;obtain ⟨l',its',rfl,k1,k2⟩:=rb;have n1:its.size = ds.length:=by simpa using h2.length
   have n2:its'.size = es.length:=by simpa using k2.length
   have he:∀ j (j1:j < its.size) (j2:j < its'.size),EqAt X.A.in1 s its[j] its'[j] (pairD ds es j):=λj j1 j2=>by
    have q:=jN ds es X.A.in1 s its.toList its'.toList h2 k2 (by show X.A.units+1+_ < _;unfold dep at hd;lia) j (by simpa using j1) (by simpa using j2);simpa using q
   by_cases hsz:its.size = its'.size
   . refine eq_listAt h1 k1 hsz ∅ he (fin _ ?_);unfold eqD;rw [n1];exact qo ∅
   . refine eq_list_lengthsAt h1 k1 (by simpa using hsz) ∅ (fin _ ?_);unfold eqD;exact (ui ∅).symm
 . rename_i ds es;unfold RdV at ra rb;obtain ⟨l,its,rfl,h1,h2⟩:=ra;obtain ⟨l',its',rfl,k1,k2⟩:=rb;have n1:its.size = ds.length:=by simpa using h2.length
   have n2:its'.size = es.length:=by simpa using k2.length
   have he:∀ j (j1:j < its.size) (j2:j < its'.size),EqAt X.A.in1 s its[j] its'[j] (pairD ds es j):=λj j1 j2=>by
    have q:=jN ds es X.A.in1 s its.toList its'.toList h2 k2 (by show X.A.units+1+_ < _;unfold dep at hd;lia) j (by simpa using j1) (by simpa using j2);simpa using q
   refine eq_tupleAt h1 k1 ∅ he (fin _ ?_);unfold eqD;rw [n1,n2];exact ng ds es
def Lp (hu:X.A.units+200 < cLine):OpR X (compareOp .NotEq) (λx y H Q=>∃ F a b,cX X.K H F a x/\cX X.K H F b y/\fU a b = true/\Q (.bl (!eqD a b)) H):=by
 intro pins s σ H x y v u Q I rx ry h;obtain ⟨F,a,b,ha,hb,hk,q⟩:=h;unfold fU at hk;rw [aa,aa] at hk;obtain ⟨⟨hk,hd⟩,hm⟩:=hk;replace hd:=of_decide_eq_true hd;replace hm:=of_decide_eq_true hm;have ra:=eN I ha rx ∅;have rb:=eN I hb ry ∅;have fin:∀ k:Bool,k = (!eqD a b)->EP X pins σ Q (.bool k) s:=λk e=>⟨.bl k,H,I,rfl,by rw [e];exact q⟩
 cases a<;>cases b<;>first
  | (exact absurd (show false = true from hk) ak)
  | skip
 . unfold RdV at ra rb;subst ra;subst rb;exact RcNeAt.bool_bool _ _ _ _ _ _ (fin _ (by unfold eqD;rfl))
 . unfold RdV at ra rb;obtain ⟨t,rfl⟩:=ra;obtain ⟨t',rfl⟩:=rb;exact RcNeAt.int_int _ _ _ _ _ _ _ _ (fin _ (by unfold eqD;rfl))
 . unfold RdV at ra rb;obtain ⟨t,rfl⟩:=ra;obtain ⟨t',rfl⟩:=rb;exact RcNeAt.str_str _ _ _ _ _ _ _ _ (fin _ (by unfold eqD;rfl))
 . rename_i ds es;unfold RdV at ra rb;obtain ⟨l,its,rfl,h1,h2⟩:=ra;obtain ⟨l',its',rfl,k1,k2⟩:=rb;have n1:its.size = ds.length:=by simpa using h2.length
   have n2:its'.size = es.length:=by simpa using k2.length
   have he:∀ j (j1:j < its.size) (j2:j < its'.size),EqAt X.A.in1 s its[j] its'[j] (pairD ds es j):=λj j1 j2=>by
    have q:=jN ds es X.A.in1 s its.toList its'.toList h2 k2 (by show X.A.units+1+_ < _;unfold dep at hd;lia) j (by simpa using j1) (by simpa using j2);simpa using q
   by_cases hsz:its.size = its'.size
   . refine RcNeAt.lists h1 k1 hsz ∅ he _ _ _ _ (fin _ ?_);unfold eqD;rw [n1,qo ∅]
   . refine RcNeAt.lists_lengths h1 k1 (by simpa using hsz) ∅ _ _ _ _ (fin _ ?_);unfold eqD;rw [ui ∅];rfl
 . rename_i ds es;unfold RdV at ra rb;obtain ⟨l,its,rfl,h1,h2⟩:=ra;obtain ⟨l',its',rfl,k1,k2⟩:=rb;have n1:its.size = ds.length:=by simpa using h2.length
   have n2:its'.size = es.length:=by simpa using k2.length
   have he:∀ j (j1:j < its.size) (j2:j < its'.size),EqAt X.A.in1 s its[j] its'[j] (pairD ds es j):=λj j1 j2=>by
    have q:=jN ds es X.A.in1 s its.toList its'.toList h2 k2 (by show X.A.units+1+_ < _;unfold dep at hd;lia) j (by simpa using j1) (by simpa using j2);simpa using q
   refine RcNeAt.tuples h1 k1 ∅ he _ _ _ _ (fin _ ?_);unfold eqD;rw [n1,n2,ng ds es]
open Classical in
def isEq (h:bH) (a:D) (u:ag):Bool:=if ∃ d,RdV h d u/\eqD d a = true then true else false
def tV (r:RdV h d u):isEq h a u = eqD d a:=by
 unfold isEq
 cases e:eqD d a with
 | true=>rw [if_pos ⟨d,r,e⟩]
 | false =>
   rw [if_neg];rintro ⟨d',r',e'⟩;rw [RdV.inj d d' u r r',e'] at e;cases e
def kE:∀ {ds:List D} {us:List ag},RdL h ds us->us.any (isEq h a) = ds.any λd=>eqD d a
 | [],us,r=>by unfold RdL at r;subst r;rfl
 | d::ds,us,r=>by
   unfold RdL at r;obtain ⟨w,ws,rfl,h1,h2⟩:=r;rw [eT,eT,tV h1,kE h2]
def jm (rv:RdV s.heap a v) (hu:A.units+dep a < cLine):∀ {ds:List D} {us:List ag},RdL s.heap ds us->∀ u∈us,EqAt A s u v (isEq s.heap a u)
 | [],us,r=>λu hm=>by unfold RdL at r;subst r;cases hm
 | d::ds,us,r=>λu hm=>by
   unfold RdL at r;obtain ⟨w,ws,rfl,h1,h2⟩:=r;rcases aD.mp hm with rfl | hm
   . rw [tV h1];exact uj d a A s u v h1 rv ∅
   . exact jm rv hu h2 u hm
def Lw (hu:X.A.units+200 < cLine):OpR X (compareOp .In) (λx y H Q=>∃ F a ds,cX X.K H F a x/\(cX X.K H F (.lst ds) y\/cX X.K H F (.tup ds) y)/\(dep a<=150/\cb ds < 99999)/\Q (.bl (ds.any λd=>eqD d a)) H):=by
 intro pins s σ H x y v u Q I rx ry h;obtain ⟨F,a,ds,ha,hb,⟨hd,hm⟩,q⟩:=h;have ra:=eN I ha rx ∅;have fin:∀ k:Bool,k = (ds.any λd=>eqD d a)->EP X pins σ Q (.bool k) s:=λk e=>⟨.bl k,H,I,rfl,by rw [e];exact q⟩;rcases hb with hb | hb
 . have rb:=eN I hb ry (by unfold dep;lia);unfold RdV at rb;obtain ⟨l',its',rfl,k1,k2⟩:=rb;refine in_listAt (isEq s.heap a) k1 (λw hw=>jm ra (by show X.A.units+1+_ < _;lia) k2 w (by simpa using hw)) (fin _ ?_);rw [show its'.any (isEq s.heap a) = its'.toList.any (isEq s.heap a) by simp,kE k2]
 . have rb:=eN I hb ry (by unfold dep;lia);unfold RdV at rb;obtain ⟨l',its',rfl,k1,k2⟩:=rb;refine in_tupleAt (isEq s.heap a) k1 (λw hw=>jm ra (by show X.A.units+1+_ < _;lia) k2 w (by simpa using hw)) (fin _ ?_);rw [show its'.any (isEq s.heap a) = its'.toList.any (isEq s.heap a) by simp,kE k2]
def AG (hu:X.A.units+200 < cLine):OpR X (compareOp .NotIn) (λx y H Q=>∃ F a ds,cX X.K H F a x/\(cX X.K H F (.lst ds) y\/cX X.K H F (.tup ds) y)/\(dep a<=150/\cb ds < 99999)/\Q (.bl (!ds.any λd=>eqD d a)) H):=by
 intro pins s σ H x y v u Q I rx ry h;obtain ⟨F,a,ds,ha,hb,⟨hd,hm⟩,q⟩:=h;have ra:=eN I ha rx ∅;have fin:∀ k:Bool,k = (!ds.any λd=>eqD d a)->EP X pins σ Q (.bool k) s:=λk e=>⟨.bl k,H,I,rfl,by rw [e];exact q⟩;rcases hb with hb | hb
 . have rb:=eN I hb ry (by unfold dep;lia);unfold RdV at rb;obtain ⟨l',its',rfl,k1,k2⟩:=rb;refine notIn_listAt (isEq s.heap a) k1 (λw hw=>jm ra (by show X.A.units+1+_ < _;lia) k2 w (by simpa using hw)) (fin _ ?_);rw [show its'.any (isEq s.heap a) = its'.toList.any (isEq s.heap a) by simp,kE k2]
 . have rb:=eN I hb ry (by unfold dep;lia);unfold RdV at rb;obtain ⟨l',its',rfl,k1,k2⟩:=rb;refine notIn_tupleAt (isEq s.heap a) k1 (λw hw=>jm ra (by show X.A.units+1+_ < _;lia) k2 w (by simpa using hw)) (fin _ ?_);rw [show its'.any (isEq s.heap a) = its'.toList.any (isEq s.heap a) by simp,kE k2]
def pP (ns:List Int):∀ j,preSum (λi=>ns.getD i 0) j = (ns.take j).sum
 | 0=>by simp [preSum]
 | j+1=>by
   rw [preSum,pP ns j,FI,List.sum_append]
   cases e:ns[j]? with
   | none=>simp [e]
   | some v=>simp [e]
def uT {ns:List Int}:∀ {xs:List V} {us:List ag},xs = ns.map V.int->Vals xs us->∀ i v,us[i]? = some v->∃ t,v = nZ (ns.getD i 0) t:=by
 induction ns with
 | nil=>intro xs us e r i v h;subst e;cases r;simp at h
 | cons n ns ih =>
   intro xs us e r i v h;subst e
   cases r with
   | cons r1 r2 =>
     cases i with
     | zero=>simp at h;subst h;obtain ⟨t,e⟩:=r1;exact ⟨t,by simpa using e⟩
     | succ i =>
       obtain ⟨t,e⟩:=ih rfl r2 i v (by simpa using h);exact ⟨t,by simpa using e⟩
def yy {ns:List Bool}:∀ {xs:List V} {us:List ag},xs = ns.map V.bl->Vals xs us->∀ i v,us[i]? = some v->v = kg (ns.getD i false):=by
 induction ns with
 | nil=>intro xs us e r i v h;subst e;cases r;simp at h
 | cons n ns ih =>
   intro xs us e r i v h;subst e
   cases r with
   | cons r1 r2 =>
     cases i with
     | zero=>simp at h;subst h;have e:_ = kg n:=r1;simpa using e
     | succ i=>simpa using ih rfl r2 i v (by simpa using h)
def xA (bs:List Bool):((bK bs.length).any λi=>bs.getD i false) = bs.any id:=by
 rw [cL,cz,cz];constructor
 . rintro ⟨i,hi,e⟩;have hi':=dS.mp hi;refine ⟨bs[i],bS hi',?_⟩;simpa [iH,aB hi'] using e
 . rintro ⟨b,hb,e⟩;obtain ⟨i,hi,rfl⟩:=BA hb;exact ⟨i,dS.mpr hi,by simpa [iH,aB hi] using e⟩
def Bn (hc:X.calm = true):bU X (.builtin "any") (λxs H Q=>∃ (p:au) (ns:List Bool),xs = [.ref p]/\SqL X.K H p (ns.map V.bl)/\Q (.bl (ns.any id)) H):=by
 intro pins s σ H xs us Q I r h;obtain ⟨p,ns,rfl,hq,q⟩:=h;obtain ⟨u,rfl,rx⟩:=vals1 r;cases rx;obtain ⟨its,rv,pl,hz⟩:=I.list hq;have hlt:p < s.heap.objs.size:=by obtain ⟨o,e,_⟩:=pl.isList;exact aH e
 refine call_any_walk (dP pl.isList ?_)
 refine ⟨s.heap.objs.size,[s.heap.objs.size,p],[s.heap.objs.size],its.toArray.size,_,_,λi=>ns.getD i false,rfl,mE (A:=X.A.in1) (I.ok.hd hc) s.heap.objs.size p (aQ hlt) its.toArray,
  ⟨⟨_,aS _ rfl,rfl,rfl⟩,?_⟩,λi v s' Q' E' hP hQ=>?_,λh' tk hk=>?_⟩
 . obtain ⟨o,e,r⟩:=pl.isList;exact ⟨o,ao _ e,r⟩
 . rw [yy rfl rv i v (by simpa using hP)];exact cM hQ
 . have e:its.toArray.size = ns.length:=by rw [aF,<- rv.length,aw]
   rw [e,xA];exact ⟨.bl (ns.any id),H,I.kept (h':=h') (t':=tk) (λb o e=>hk b o (by simp;exact aQ (aH e)) (ao _ e)),rfl,q⟩
def xB (bs:List Bool):((bK bs.length).all λi=>bs.getD i false) = bs.all id:=by
 rw [cL,aW,aW];constructor
 . intro h b hb;obtain ⟨i,hi,rfl⟩:=BA hb;have:=h i (dS.mpr hi);simpa [iH,aB hi] using this
 . intro h i hi;have hi':=dS.mp hi;have:=h bs[i] (bS hi');simpa [iH,aB hi'] using this
def Bo (hc:X.calm = true):bU X (.builtin "all") (λxs H Q=>∃ (p:au) (ns:List Bool),xs = [.ref p]/\SqL X.K H p (ns.map V.bl)/\Q (.bl (ns.all id)) H):=by
 intro pins s σ H xs us Q I r h;obtain ⟨p,ns,rfl,hq,q⟩:=h;obtain ⟨u,rfl,rx⟩:=vals1 r;cases rx;obtain ⟨its,rv,pl,hz⟩:=I.list hq;have hlt:p < s.heap.objs.size:=by obtain ⟨o,e,_⟩:=pl.isList;exact aH e
 refine call_all_walk (dP pl.isList ?_)
 refine ⟨s.heap.objs.size,[s.heap.objs.size,p],[s.heap.objs.size],its.toArray.size,_,_,λi=>ns.getD i false,rfl,mE (A:=X.A.in1) (I.ok.hd hc) s.heap.objs.size p (aQ hlt) its.toArray,
  ⟨⟨_,aS _ rfl,rfl,rfl⟩,?_⟩,λi v s' Q' E' hP hQ=>?_,λh' tk hk=>?_⟩
 . obtain ⟨o,e,r⟩:=pl.isList;exact ⟨o,ao _ e,r⟩
 . rw [yy rfl rv i v (by simpa using hP)];exact cM hQ
 . have e:its.toArray.size = ns.length:=by rw [aF,<- rv.length,aw]
   rw [e,xB];exact ⟨.bl (ns.all id),H,I.kept (h':=h') (t':=tk) (λb o e=>hk b o (by simp;exact aQ (aH e)) (ao _ e)),rfl,q⟩
def Bg (hc:X.calm = true):bU X (.builtin "sum") (λxs H Q=>∃ (p:au) (ns:List Int),xs = [.ref p]/\SqL X.K H p (ns.map V.int)/\Q (.int ns.sum) H):=by
 intro pins s σ H xs us Q I r h;obtain ⟨p,ns,rfl,hq,q⟩:=h;obtain ⟨u,rfl,rx⟩:=vals1 r;cases rx;obtain ⟨its,rv,pl,hz⟩:=I.list hq;have hlt:p < s.heap.objs.size:=by obtain ⟨o,e,_⟩:=pl.isList;exact aH e
 refine call_sum_walkG (dP pl.isList ?_)
 refine ⟨s.heap.objs.size,[s.heap.objs.size,p],[s.heap.objs.size],its.toArray.size,_,_,λi=>ns.getD i 0,rfl,mE (A:=X.A.in1) (I.ok.hd hc) s.heap.objs.size p (aQ hlt) its.toArray,
  ⟨⟨_,aS _ rfl,rfl,rfl⟩,?_⟩,λb hb=>?_,λi v e=>?_,λh' tk t' hk=>?_⟩
 . obtain ⟨o,e,r⟩:=pl.isList;exact ⟨o,ao _ e,r⟩
 . have:b = s.heap.objs.size\/b = p:=by simpa using hb
   show b < (s.heap.push _).objs.size;rw [cV];rcases this with rfl | rfl
   . exact qA _
   . exact eZ hlt
 . exact uT rfl rv i v (by simpa using e)
 . refine ⟨.int ns.sum,H,I.kept (h':=h') (t':=tk) λb o e=>?_,⟨t',?_⟩,q⟩
   . exact hk b o (by simp;exact aQ (aH e)) (ao _ e)
   . rw [pP];have e:its.toArray.size = ns.length:=by rw [aF,<- rv.length,aw]
     rw [e,oZ]
def Al (h:ns≠[]):uW (ns++[v]) = if v > uW ns then v else uW ns:=by
 cases ns with
 | nil=>exact absurd rfl h
 | cons n ns =>
   show (ns++[v]).foldl _ n = _;rw [List.foldl_append];rfl
def wy (ns:List Int):∀ k,k < ns.length->ns.getD (argBest (λi j=>decide (ns.getD i 0 > ns.getD j 0)) k) 0 = uW (ns.take (k+1))
 | 0,h=>by
   cases ns with
   | nil=>cases h
   | cons n ns=>simp [argBest,uW]
 | k+1,h=>by
   have ih:=wy ns k ∅;have e:ns[k+1]? = some (ns.getD (k+1) 0):=by rw [bN,aB h];rfl
   have e2:ns.take (k+1+1) = ns.take (k+1)++[ns.getD (k+1) 0]:=by rw [FI,e];rfl
   rw [e2,Al (by cases ns with
    | nil=>cases h
    | cons _ _=>simp),<- ih]
   show ns.getD (if decide (ns.getD (k+1) 0 > ns.getD (argBest (λi j=>decide (ns.getD i 0 > ns.getD j 0)) k) 0) = true then k+1 else argBest (λi j=>decide (ns.getD i 0 > ns.getD j 0)) k) 0 = _;by_cases hb:ns.getD (k+1) 0 > ns.getD (argBest (λi j=>decide (ns.getD i 0 > ns.getD j 0)) k) 0
   . rw [if_pos (decide_eq_true hb),if_pos hb]
   . rw [if_neg (by simpa using hb),if_neg hb]
def Bj (hc:X.calm = true):bU X (.builtin "max") (λxs H Q=>∃ (p:au) (ns:List Int),xs = [.ref p]/\ns≠[]/\SqL X.K H p (ns.map V.int)/\Q (.int (uW ns)) H):=by
 intro pins s σ H xs us Q I r h;obtain ⟨p,ns,rfl,hne,hq,q⟩:=h;obtain ⟨u,rfl,rx⟩:=vals1 r;cases rx;obtain ⟨its,rv,pl,hz⟩:=I.list hq;have hlt:p < s.heap.objs.size:=by obtain ⟨o,e,_⟩:=pl.isList;exact aH e
 have hlen:its.toArray.size = ns.length:=by rw [aF,<- rv.length,aw]
 have hpos:0 < ns.length:=iz.mpr hne;have hval:∀ i v,its.toArray[i]? = some v->∃ t,v = nZ (ns.getD i 0) t:=λi v e=>uT rfl rv i v (by simpa using e);refine call_max_walk (dP pl.isList ?_)
 refine ⟨s.heap.objs.size,[s.heap.objs.size,p],[s.heap.objs.size],its.toArray.size,_,_,λi j=>decide (ns.getD i 0 > ns.getD j 0),rfl,mE (A:=X.A.in1) (I.ok.hd hc) s.heap.objs.size p (aQ hlt) its.toArray,
  ⟨⟨_,aS _ rfl,rfl,rfl⟩,?_⟩,λb hb=>?_,by rw [hlen];exact hpos,CmpOf.ints_gt (λi=>ns.getD i 0) hval,λv h' tk hv hk=>?_⟩
 . obtain ⟨o,e,r⟩:=pl.isList;exact ⟨o,ao _ e,r⟩
 . have:b = s.heap.objs.size\/b = p:=by simpa using hb
   show b < (s.heap.push _).objs.size;rw [cV];rcases this with rfl | rfl
   . exact qA _
   . exact eZ hlt
 . refine ⟨.int (uW ns),H,I.kept (h':=h') (t':=tk) λb o e=>?_,?_,q⟩
   . exact hk b o (by simp;exact aQ (aH e)) (ao _ e)
   . obtain ⟨t,rfl⟩:=hval _ _ hv;refine ⟨t,?_⟩;rw [wy ns _ ∅,hlen,show ns.length - 1+1 = ns.length by lia,oZ]
def Fl {prog:aR} {w:bB} {A:bo} {E:ag->aj->Prop} {s:aj} {t b:au} {ws:List ag} {Q:ag->aj->Prop} (ht:Ja s.heap t ([]:List ag).toArray) (hb:Ja s.heap b ws.toArray) (h:Q (.ref b) s):wpAny (model prog w) A (binaryOp .Add (.ref t) (.ref b)) Q E s:=by
 obtain ⟨⟨cls,dd,data,sl⟩,ho,hc,n,hd⟩:=id ht;obtain ⟨⟨cls2,dd2,data2,sl2⟩,ho2,hc2,n2,hd2⟩:=id hb;simp only at hc hd hc2 hd2;subst hc hd hc2 hd2;exact FC ⟨_,ho,rfl⟩ ⟨_,ho2,rfl⟩ uC Bs PySem.F.slot_tuple_add PySem.F.entry_tuple_add (PySem.F.args_tuple_add_2 _ _) (tuple_addW0 t b _ ws.toArray n n2 dd dd2 sl sl2 rfl) ⟨ho,ho2,h⟩
def HS:OpR X (binaryOp .Add) (λx y H Q=>∃ a b ys,x = .ref a/\y = .ref b/\SqT X.K H a []/\SqT X.K H b ys/\Q (.ref b) H):=by
 intro pins s σ H x y v u Q I rx ry h;obtain ⟨a,b,ys,rfl,rfl,ha,hb,q⟩:=h;cases rx;cases ry;obtain ⟨its,r1,p1,_⟩:=I.tuple ha;obtain ⟨its2,r2,p2,_⟩:=I.tuple hb;cases r1;exact Fl p1 p2 ⟨.ref b,H,I,rfl,q⟩
def tyName:Blt->Option String
 | .isList=>some "list" | .isTup=>some "tuple"
 | _=>none
def Mb (I:Inv X pins σ H s) (h:cX X.K H F (.lst ds) v) (r:RelV v u):∃ l its,u = .ref l/\s.heap.IsList l its:=by
 rcases h with h | ⟨a,xs,_,_,rfl,h1,_⟩
 . unfold Rel at h;obtain ⟨a,xs,rfl,h1,_⟩:=h;obtain ⟨its,_,p,_⟩:=I.list h1.sq;exact ⟨a,_,r,p.isList⟩
 . obtain ⟨its,_,p,_⟩:=I.list (.inl (.inl h1));exact ⟨a,_,r,p.isList⟩
def Ma (I:Inv X pins σ H s) (h:cX X.K H F (.tup ds) v) (r:RelV v u):∃ l its,u = .ref l/\s.heap.IsTuple l its:=by
 rcases h with h | ⟨a,xs,_,e,_⟩
 . unfold Rel at h;obtain ⟨a,xs,rfl,h1,_⟩:=h;obtain ⟨its,_,p,_⟩:=I.tuple h1;exact ⟨a,_,r,p⟩
 . cases e
def Fn (hT:tyName f = some T):bU X (.builtin "isinstance") (λxs H Q=>∃ F d x b,cX X.K H F d x/\xs = [x,.ty T]/\jU f [d] = some (.bl b)/\Q (.bl b) H):=by
 intro pins s σ H xs us Q I r h;obtain ⟨F,d,x,b,hr,rfl,hb,q⟩:=h;obtain ⟨u,w',rfl,ru,rw'⟩:=vals2 r;cases (show w' = Bu T from rw');have fin:∀ tk,EP X pins σ Q (.bool b) { s with toks:=tk }:=λtk=>⟨.bl b,H,I.tok tk,rfl,q⟩
 cases d with
 | non=>have rd:=eN I hr ru (by unfold dep;lia);unfold RdV at rd;subst rd;cases f<;>simp [tyName] at hT<;>subst hT<;>simp [jU,gp,iZ] at hb<;>subst hb<;>exact PySem.W.kia_one PySem.W.kitx_none I.kIn fk rfl (λz=>nomatch z) fin
 | bl y=>have rd:=eN I hr ru (by unfold dep;lia);unfold RdV at rd;subst rd;cases f<;>simp [tyName] at hT<;>subst hT<;>simp [jU,gp,iZ] at hb<;>subst hb<;>exact PySem.W.kia_one PySem.W.kitx_bool I.kIn fk rfl (λz=>nomatch z) fin
 | int y=>have rd:=eN I hr ru (by unfold dep;lia);unfold RdV at rd;obtain ⟨t,rfl⟩:=rd;cases f<;>simp [tyName] at hT<;>subst hT<;>simp [jU,gp,iZ] at hb<;>subst hb<;>exact PySem.W.kia_one PySem.W.kitx_int I.kIn fk rfl (λz=>nomatch z) fin
 | str y=>have rd:=eN I hr ru (by unfold dep;lia);unfold RdV at rd;obtain ⟨t,rfl⟩:=rd;cases f<;>simp [tyName] at hT<;>subst hT<;>simp [jU,gp,iZ] at hb<;>subst hb<;>exact PySem.W.kia_one PySem.W.kitx_str I.kIn fk rfl (λz=>nomatch z) fin
 | lst y =>
   obtain ⟨l,its,rfl,⟨o,h1,h2,_⟩⟩:=Mb I hr ru
   cases f<;>simp [tyName] at hT<;>subst hT<;>simp [jU,gp,iZ] at hb<;>subst hb<;>exact PySem.W.kia_one PySem.W.kitx_list I.kIn ⟨o,h1,h2⟩ rfl (λz=>nomatch z) fin
 | tup y =>
   obtain ⟨l,its,rfl,⟨o,h1,h2,_⟩⟩:=Ma I hr ru
   cases f<;>simp [tyName] at hT<;>subst hT<;>simp [jU,gp,iZ] at hb<;>subst hb<;>exact PySem.W.kia_one PySem.W.kitx_tuple I.kIn ⟨o,h1,h2⟩ rfl (λz=>nomatch z) fin
 | fn _ _=>cases f<;>simp [tyName] at hT<;>simp [jU,gp,iZ] at hb
 | dct _ _=>cases f<;>simp [tyName] at hT<;>simp [jU,gp,iZ] at hb
def Its (x:Str):L2.It:=⟨λi _=>i < x.cps.size,λi H v H'=>H' = H/\∃ c,x.cps[i]? = some c/\v = .str ⟨#[c]⟩,λi _=>i = x.cps.size⟩
def pA {P:aR} {w:bB} {K:PySem.W.Frag} {tg:aI} {it:au} {n:Nat} {PV:Nat->ag->Prop} {St:Nat->bH->Prop} {J:L2.It} {ty:String}
 (W:∀ A:bo,A.handled = none->Walks P w A it [it] [it] n PV St) (hst:∀ i h,St i h->∃ (o:Obj) (vs:Array ag),h.get? it = some o/\o.cls = .type ty/\o.data = .fields vs)
 (hn:["enumerate","zip","dict_itemiterator","dict_reverseitemiterator","odict_iterator","itertools.zip_longest","itertools.pairwise"].contains ty = false)
 (go:∀ i H,J.go i H->i < n) (stop:∀ i H,J.stop i H->i = n) (yld:∀ i v H,PV i v->∃ x,RelV x v/\J.yld i H x H)
 (self:∀ (A:bo) (i:Nat) (s:aj) (Q:ag->aj->Prop) (E:ag->aj->Prop),St i s.heap->Q (.ref it) s->wpAny (model P w) A (pyIter (.ref it)) Q E s) :
 Turn P w K tg J [it] it St where
 mem:=by simp
 obj:=λi h st b hb=>by
  have e:b = it:=by simpa using hb
  subst e;obtain ⟨o,vs,e,c,d⟩:=hst i h st;exact ⟨o,e,λv z=>by rw [d] at z;cases z⟩
 keep:=λi h h' st k=>(W { } rfl).frame i h h' st k
 item:=by
  intro X hP hw hK hc i pins s σ H E I hf st hg;subst hP hw hK;obtain ⟨f0,f1,f2,f3,f4,f5⟩:=hf it ↥0;refine (W X.A (I.ok.hd hc)).item i s _ _ (go i H hg) st λv h' tk hv st' kk=>?_;have I1:Inv X pins σ H { s with heap:=h',toks:=tk }:=I.turned (λb o hb e=>kk b o (by simpa using hb) e) f0 f1 f3 f4 f5;obtain ⟨o,vs,e,c,d⟩:=hst _ _ st';obtain ⟨x,r,y⟩:=yld i v H hv;exact ⟨v,rfl,zt (s:={ s with heap:=h',toks:=tk }) e c d hn ⟨x,H,I1,r,y,st',λb hb=>(hf b hb).1⟩⟩
 done:=by
  intro X hP hw hK hc i pins s σ H E I hf st hg;subst hP hw hK;obtain ⟨f0,f1,f2,f3,f4,f5⟩:=hf it ↥0;have e:=stop i H hg;subst e;exact (W X.A (I.ok.hd hc)).done s _ _ st λh' tk kk=>⟨rfl,I.turned (λb o hb e=>kk b o (by simpa using hb) e) f0 f1 f3 f4 f5⟩
 self:=self
def CB {P:aR} {w:bB} {K:PySem.W.Frag} {tg:aI} (it:au) (x:Str) (t:Tok):Turn P w K tg (Its x) [it] it (λi h=>h.IsStrIter it (strIterType x) x t i):=by
 unfold strIterType;split
 . exact pA (ty:="str_ascii_iterator") (λA hA=>Walks.strAscii hA it x t) (λi h ⟨o,e,c,d⟩=>⟨o,_,e,c,d⟩) ⇑0 (λi H z=>z) (λi H z=>z) (λi v H ⟨c,u,h1,h2⟩=>⟨.str ⟨#[c]⟩,⟨u,h2⟩,rfl,c,h1,rfl⟩) λ_ _ _ _ _ st h=>wpAny_pyIter_striter_ascii st h
 . exact pA (ty:="str_iterator") (λA hA=>Walks.strWide hA it x t) (λi h ⟨o,e,c,d⟩=>⟨o,_,e,c,d⟩) ⇑0 (λi H z=>z) (λi H z=>z) (λi v H ⟨c,u,h1,h2⟩=>⟨.str ⟨#[c]⟩,⟨u,h2⟩,rfl,c,h1,rfl⟩) λ_ _ _ _ _ st h=>wpAny_pyIter_striter_wide st h
end
end PP
end
section
namespace PP
open PySem L2 PyProof.Rows PySem.SeqAt
open AutoSeq1 (wpAny_loadPart')
variable [Tbs]
section
variable {P:aR} {w:bB} {A:bo} {s:aj}
end
section
variable {K:PySem.W.Frag} {H:Hp} {F:au->Prop}
def BH:∀ (ks:List Str) (vs:List V),(zk ks vs).length<=ks.length
 | [],_=>by unfold zk;exact aA _
 | _::_,[]=>by unfold zk;exact cA _
 | k::ks,v::vs=>by unfold zk;exact qy (BH ks vs)
def qh {k x:Str} (h:¬ k = x):¬ (js k:Key) = js x:=λe=>h (Sum.inr.inj e)
def qp (x:Str):∀ {ks:List Str} {ds:List D} {vs:List V},ks.length = ds.length->aK K H F ds vs ->
 (∀ d,gP ks ds x = some d->∃ v,hZ (zk ks vs) (.inr x) = some v/\Rel K H F d v)/\(gP ks ds x = none->hZ (zk ks vs) (.inr x) = none)
 | [],ds,vs,_,_=>⟨λd e=>(by unfold gP at e;cases e),λ_=>(by unfold zk;rfl)⟩
 | k::ks,[],vs,hl,_=>by cases hl
 | k::ks,d::ds,vs,hl,r=>by
   unfold aK at r;obtain ⟨v,vs',rfl,r1,r2⟩:=r;have ih:=qp x (cO hl) r2;unfold gP zk;by_cases h:k = x
   . rw [if_pos h,kq (by rw [h])];exact ⟨λd e=>(by cases e;exact ⟨v,rfl,r1⟩),λe=>(by cases e)⟩
   . rw [if_neg h,jj (qh h)];exact ih
end
section
variable {X:Cx} {pins:List (au × Obj)} {σ:L2.St} {H:Hp} {s:aj} {F:au->Prop} {A:bo}
end
end PP
end
section
namespace PP
open PySem L2 PyProof.Rows PySem.SeqAt PySem.Calls
def Kept (P:Nat->ag->Prop) (bt:Nat->Nat->Bool):Nat->List ag->Prop
 | 0,l=>l = []
 | j+1,l=>∃ v,l = [v,v]/\P (argBest bt j) v
section
variable {prog:aR} {w:bB} {A:bo} {R:Na->aj->Prop} {I:au} {fp wr:List au} {n:Nat} {P:Nat->ag->Prop} {St:Nat->bH->Prop}
end
variable {X:Cx} [Tbs]
end PP
end
section
namespace PP
open PySem L2 PySem.SeqAt PyProof.Rows PySem.W
open AutoSeq1 (wpAny_loadPart')
open MeetsSeq MeetsSeq2 MeetsSeq3 SeqRoads2
variable [Tbs]
def Fx (A:bo) (s:aj) (u v:ag) (b:Bool):Prop:=∀ (prog:aR) (w:bB) (E:ag->aj->Prop) (Q:ag->aj->Prop),Q (.bool b) s->wpAny (model prog w) A (richCompare .Lt u v) Q E s
def wH (A:bo) (s:aj) (last:Bool):List (ag × ag)->Bool->Prop
 | [],b=>b = last
 | (p,q)::r,b=>∃ e,EqAt A s p q e/\if e = true then wH A s last r b else Fx A s p q b
def xm (l m:au) (xs ys:Array ag) (n n2:Nat) (dd dd2:Option au) (sl sl2:Array (Option ag)) (b:Bool) :
 Meets (kl.«tuple.__lt__» ⟨[.ref l,.ref m],[]⟩)
  (λA R s=>s.heap.get? l = some ⟨.type "tuple",dd,.seq xs n,sl⟩/\s.heap.get? m = some ⟨.type "tuple",dd2,.seq ys n2,sl2⟩ /\
    wH A.in1 s (decide (xs.size < ys.size)) (xs.toList.zip ys.toList) b/\R (.ok (.ret (.bool b))) s) :=
 .of_wp λprog w A R s h=>by
  obtain ⟨h0,g0,d0,t0,o0⟩:=s;obtain ⟨hx,hy,hlex,hR⟩:=h;have sub:=AutoSeq1.sub_tuple_tuple
  wp_walk using jc hx,jc hy,wpAny_forIn_list _ (λrest st s'=>st.1 = none/\s' = ⟨h0,g0,d0,t0,o0⟩/\wH A.in1 ⟨h0,g0,d0,t0,o0⟩ (decide (xs.size < ys.size)) rest b) _
  case turn =>
   rintro ⟨y,x⟩ rest st s' ⟨hst,rfl,e,he,hr⟩;refine ah (he prog w _ _ ?_)
   cases e with
   | true =>
     rw [if_pos rfl] at hr
     wp_walk
     exact ⟨rfl,rfl,hr⟩
   | false =>
     rw [if_neg ak] at hr;have hr':∀ {Q:ag->aj->Prop} {E:ag->aj->Prop},Q (.bool b) ⟨h0,g0,d0,t0,o0⟩->wpAny (model prog w) A.in1 (richCompare .Lt y x) Q E ⟨h0,g0,d0,t0,o0⟩:=λ{Q E} h=>hr prog w E Q h
     wp_walk using hr'
     exact ⟨_,rfl,hR⟩
  case fin =>
   rintro ⟨b1,b2⟩ s' ⟨hst,rfl,hl⟩;simp only at hst;subst hst;have hl:b = decide (xs.size < ys.size):=hl
   wp_walk
   refine ⟨_,rfl,?_⟩;have:Builtin.Tuple.tupleCompareSizes .Lt xs.size ys.size = .bool b:=by rw [hl];rfl
   rw [this];exact hR
  case h=>exact ⟨rfl,rfl,hlex⟩
def Fx.tuples (hx:s.heap.IsTuple l xs) (hy:s.heap.IsTuple m ys) (hu:A.units < cLine) (h:wH A.in1 s (decide (xs.size < ys.size)) (xs.toList.zip ys.toList) b):Fx A s (.ref l) (.ref m) b:=by
 intro prog w E Q q;obtain ⟨⟨c1,d1,t1,s1⟩,e1,k1,n1,f1⟩:=hx;obtain ⟨⟨c2,d2,t2,s2⟩,e2,k2,n2,f2⟩:=hy;have k1:c1 = _:=k1;have f1:t1 = _:=f1;have k2:c2 = _:=k2;have f2:t2 = _:=f2;subst k1 f1 k2 f2;have nn:kg b≠yj:=λz=>nomatch z;exact richCompare_meets_room (op:=.Lt) ⟨_,e1,rfl⟩ ⟨_,e2,rfl⟩ F.slot_tuple_lt F.entry_tuple_lt (F.args_tuple_lt_2 _ _) (xm l m xs ys n1 n2 d1 d2 s1 s2 b) ⟨e1,e2,h,(show kg b≠yj/\Q (.bool b) s from ⟨nn,q⟩)⟩ hu
mutual
theorem tL:∀ (a b:D) (A:bo) (s:aj) (u v:ag) (k:Bool),RdV s.heap a u->RdV s.heap b v->A.units+min (dep a) (dep b)+1 < cLine->ltD a b = some k->Fx A s u v k
 | .int a,b,A,s,u,v,k,ra,rb,hu,h=>by
   cases b with
   | int b =>
     unfold ltD at h;cases h;unfold RdV at ra rb;obtain ⟨t,rfl⟩:=ra;obtain ⟨t',rfl⟩:=rb;intro prog w E Q q
     exact lt_int q
   | _=>unfold ltD at h;cases h
 | .str a,b,A,s,u,v,k,ra,rb,hu,h=>by
   cases b with
   | str b =>
     unfold ltD at h;cases h;unfold RdV at ra rb;obtain ⟨t,rfl⟩:=ra;obtain ⟨t',rfl⟩:=rb;intro prog w E Q q
     exact lt_str q
   | _=>unfold ltD at h;cases h
 | .tup a,b,A,s,u,v,k,ra,rb,hu,h=>by
   cases b with
   | tup b =>
     unfold ltD at h;unfold RdV at ra rb;obtain ⟨l,xs,rfl,h1,h2⟩:=ra;obtain ⟨m,ys,rfl,k1,k2⟩:=rb;have n1:xs.size = a.length:=by simpa using h2.length
     have n2:ys.size = b.length:=by simpa using k2.length
     refine Fx.tuples h1 k1 (by omega) ?_;rw [n1,n2];unfold dep at hu
     exact vN a b A.in1 s xs.toList ys.toList k h2 k2 (by show A.units+1+_+1 < _;omega) h
   | _=>unfold ltD at h;cases h
 | .non,b,A,s,u,v,k,ra,rb,hu,h=>by cases b<;>(unfold ltD at h;cases h)
 | .bl x,b,A,s,u,v,k,ra,rb,hu,h=>by cases b<;>(unfold ltD at h;cases h)
 | .lst x,b,A,s,u,v,k,ra,rb,hu,h=>by cases b<;>(unfold ltD at h;cases h)
 | .fn x y,b,A,s,u,v,k,ra,rb,hu,h=>by cases b<;>(unfold ltD at h;cases h)
 | .dct x y,b,A,s,u,v,k,ra,rb,hu,h=>by cases b<;>(unfold ltD at h;cases h)
theorem vN:∀ (as bs:List D) (A:bo) (s:aj) (us vs:List ag) (k:Bool),RdL s.heap as us->RdL s.heap bs vs->A.units+min (cb as) (cb bs)+1 < cLine->dv as bs = some k->wH A s (decide (as.length < bs.length)) (us.zip vs) k
 | [],[],A,s,us,vs,k,ra,rb,hu,h=>by
   unfold RdL at ra rb;subst ra;subst rb;unfold dv at h;cases h
   rfl
 | [],y::ys,A,s,us,vs,k,ra,rb,hu,h=>by
   unfold RdL at ra;subst ra;unfold dv at h;cases h;show true = decide _
   simp
 | x::xs,[],A,s,us,vs,k,ra,rb,hu,h=>by
   unfold RdL at rb;subst rb;unfold dv at h;cases h;rw [mH];show false = decide _
   simp
 | x::xs,y::ys,A,s,us,vs,k,ra,rb,hu,h=>by
   unfold RdL at ra rb;obtain ⟨u,us',rfl,ra1,ra2⟩:=ra;obtain ⟨v,vs',rfl,rb1,rb2⟩:=rb;unfold dv at h;unfold cb at hu;refine ⟨eqD x y,uj x y A s u v ra1 rb1 (dA (bx (fD (mm1 _ _ _ _) _) (IY _ 1)) hu),?_⟩
   cases e:eqD x y with
   | true =>
     rw [e,if_pos rfl] at h;rw [if_pos rfl];have:=vN xs ys A s us' vs' k ra2 rb2 (dA (Bv (fD (mm2 _ _ _ _) _) 1) hu) h;have e1:decide ((x::xs).length < (y::ys).length) = decide (xs.length < ys.length):=by simp
     rw [e1]
     exact this
   | false =>
     rw [e,if_neg ak] at h;rw [if_neg ak];exact tL x y A s u v k ra1 rb1 (dA (Bv (fD (mm1 _ _ _ _) _) 1) hu) h
end
def Lr (hu:X.A.units+200 < cLine):OpR X (compareOp .Lt) (λx y H Q=>∃ F a b k,cX X.K H F a x/\cX X.K H F b y/\iX a b = some k/\Q (.bl k) H):=by
 intro pins s σ H x y v u Q I rx ry h;obtain ⟨F,a,b,k,ha,hb,e,q⟩:=h;unfold iX at e;split at e
 . exact tL a b X.A s v u k (eN I ha rx (by omega)) (eN I hb ry (by omega)) (by omega) e X.prog X.w X.xe _ ⟨.bl k,H,I,rfl,q⟩
 . cases e
def HR:OpR X (binaryOp .Add) (λx y H Q=>∃ l b xs zs,x = .ref l/\y = .ref b/\LsB X.K H l xs/\LsB X.K H b zs/\xs.length+zs.length<=sizeLine/\∀ p,H p = none->Q (.ref p) (upd H p (.lst (xs++zs)))):=by
 intro pins s σ H x y v u Q I rx ry h;obtain ⟨l,b,xs,zs,rfl,rfl,h1,h2,hz,q⟩:=h;cases rx;cases ry;obtain ⟨i1,n1,r1,e1,z1⟩:=h1.obj I;obtain ⟨i2,n2,r2,e2,z2⟩:=h2.obj I;have l1:=r1.length;have l2:=r2.length;refine PySem.P.add_list e1 e2 ?_ (by simp only [aF];omega);rw [show i1.toArray++i2.toArray = (i1++i2).toArray by simp];exact ⟨.ref _,_,I.lnew (t':=s.toks) (r1.append r2) (by rw [ay];omega),rfl,q _ I.fresh⟩
end PP
end
section
namespace PP
open PySem PySem.W PyProof.Rows
def inR {α:Type} (lt:Nat->Nat->Bool) (n:Nat):KasT α->Prop
 | .ret _=>True
 | .ask i j k=>i < n/\j < n/\inR lt n (k (lt i j))
def jn {α β:Type} {lt:Nat->Nat->Bool} {n:Nat} {f:α->KasT β}:∀ {t:KasT α},inR lt n t->inR lt n (f (ans lt t))->inR lt n (t.bind f)
 | .ret a,_,h=>h
 | .ask i j k,⟨h1,h2,h3⟩,h=>⟨h1,h2,jn h3 h⟩
def ir {α:Type} {lt:Nat->Nat->Bool} {n:Nat} {c:Prop} [Decidable c] {a b:KasT α} (h1:inR lt n a) (h2:inR lt n b):inR lt n (if c then a else b):=by
 by_cases h:c
 . rw [if_pos h];exact h1
 . rw [if_neg h];exact h2
def All (p:Array Nat) (n:Nat):Prop:=0 < n/\∀ x∈p,x < n
def All.at {p:Array Nat} {n:Nat} (h:All p n) (k:Nat):p.getD k 0 < n:=by
 rw [getD_eq]
 cases e:p[k]? with
 | none=>exact h.1
 | some x=>exact h.2 x (Array.mem_of_getElem? e)
def All.perm {p q:Array Nat} {n:Nat} (h:All p n) (e:q.Perm p):All q n:=⟨h.1,λx hx=>h.2 x (e.mem_iff.mp hx)⟩
section
variable {lt:Nat->Nat->Bool} {n:Nat}
def yd {p:Array Nat} (h:All p n):∀ f k,inR lt n (kas_asc p f k)
 | 0,k=>trivial
 | f+1,k=>⟨h.at _,h.at _,ir trivial (yd h f (k+1))⟩
def oR:∀ (f:Nat) (p:Array Nat) (k q:Nat),All p n->inR lt n (kas_desc f p k q)/\All (ans lt (kas_desc f p k q)).1 n
 | 0,p,k,q,h=>⟨trivial,h⟩
 | f+1,p,k,q,h=>by
   unfold kas_desc;have r1:=oR f (kas_rev p (k - (q+1)) k) (k+1) 0 (h.perm (eE _ _ _));have r2:=oR f p (k+1) 0 h;have r3:=oR f p (k+1) (q+1) h;refine ⟨⟨h.at _,h.at _,ir (ir r1.1 r2.1) ⟨h.at _,h.at _,ir trivial r3.1⟩⟩,?_⟩;rw [fc]
   cases lt (p.getD k 0) (p.getD (k - 1) 0) with
   | true =>
     rw [if_pos rfl];by_cases hq:q > 0
     . rw [if_pos hq];exact r1.2
     . rw [if_neg hq];exact r2.2
   | false =>
     rw [if_neg ak,fc]
     cases lt (p.getD (k - 1) 0) (p.getD k 0) with
     | true=>rw [if_pos rfl];exact h
     | false=>rw [if_neg ak];exact r3.2
def vd {p:Array Nat} (h:All p n) (a m:Nat):inR lt n (kas_tail3 a m p)/\All (ans lt (kas_tail3 a m p)).2 n:=by
 unfold kas_tail3;have h':=h.perm (eE p 0 a);refine ⟨jn (yd h' _ _) trivial,?_⟩;rw [dH,gY];exact h'
def nN {p:Array Nat} (h:All p n) (a m:Nat):inR lt n (kas_descPart a m p)/\All (ans lt (kas_descPart a m p)).2 n:=by
 unfold kas_descPart;obtain ⟨d1,d2⟩:=oR (lt:=lt) (m - (a+1)) p (a+1) 0 h;rw [dH];generalize hr:ans lt (kas_desc (m - (a+1)) p (a+1) 0) = r at d2;have t1:=vd (lt:=lt) (d2.perm (eE r.1 (r.2.1 - (r.2.2+1)) r.2.1)) r.2.1 m;have t2:=vd (lt:=lt) d2 r.2.1 m;refine ⟨jn d1 (by rw [hr];exact ir t1.1 t2.1),?_⟩;by_cases hq:r.2.2 > 0
 . rw [if_pos hq];exact t1.2
 . rw [if_neg hq];exact t2.2
def Fe {p:Array Nat} (h:All p n) (m:Nat):inR lt n (kas_count m p)/\All (ans lt (kas_count m p)).2 n:=by
 unfold kas_count;rw [dH];have a1:=yd (lt:=lt) h (m - 1) 1;generalize hk:ans lt (kas_asc p (m - 1) 1) = k;have t1:=nN (lt:=lt) (h.perm (eE p 0 k)) k m;have t2:=nN (lt:=lt) h k m;refine ⟨jn a1 (by rw [hk];exact ir trivial (ir ⟨h.at _,h.at _,ir trivial t1.1⟩ t2.1)),?_⟩;by_cases e:(k == m) = true
 . rw [if_pos e];exact h
 . rw [if_neg e];by_cases h1:k > 1
   . rw [if_pos h1,fc]
     cases lt (p.getD 0 0) (p.getD (k - 1) 0) with
     | true=>rw [if_pos rfl];exact h
     | false=>rw [if_neg ak];exact t1.2
   . rw [if_neg h1];exact t2.2
def pR {p:Array Nat} (h:All p n) (k:Nat):∀ f l r,inR lt n (kas_place p k f l r)
 | 0,l,r=>trivial
 | f+1,l,r=>by
   unfold kas_place;exact ir trivial ⟨h.at _,h.at _,ir (pR h k f _ _) (pR h k f _ _)⟩
def Ft:∀ (f:Nat) (p:Array Nat) (k:Nat),All p n->inR lt n (kas_bin f p k)
 | 0,p,k,h=>trivial
 | f+1,p,k,h=>by
   unfold kas_bin;exact jn (pR h k _ _ _) (Ft f _ _ (h.perm (IX _ _ _)))
def yE (hn:0 < n):inR lt n (kas_sort n):=by
 unfold kas_sort;have h:All (fo (bK n)) n:=⟨hn,λx hx=>by simpa using hx⟩;obtain ⟨c1,c2⟩:=Fe (lt:=lt) h n;exact jn c1 (ir (Ft _ _ _ c2) trivial)
end
def zi {α:Type} {prog:aR} {w:bB} {A:bo} {κ:qP} {vs:List ag} {lt:Nat->Nat->Bool} {n:Nat} {s:aj} {Q:α->aj->Prop}
 (ha:∀ i j,i < n->j < n->∀ C:Bool->aj->Prop,C (lt i j) s->kas_ask prog w A κ vs i j C s):∀ t:KasT α,inR lt n t->Q (ans lt t) s->t.kasWp (kas_ask prog w A κ vs) Q s
 | .ret a,_,q=>q
 | .ask i j k,⟨h1,h2,h3⟩,q=>ha i j h1 h2 _ (zi ha (k (lt i j)) h3 q)
def iK (lt:Nat->Nat->Bool) (vs:List ag):List ag:=if vs.length < 2 then vs else (ans lt (kas_sort vs.length)).toList.map λi=>vs.getD i cZ
section
variable {prog:aR} {w:bB} {A:bo} {E:ag->aj->Prop} {s:aj}
def tP {a:au} {vs:List ag} {n:Nat} {lt:Nat->Nat->Bool} {κ:qP} {P:PySem.Fin->aj->Prop} (ho:s.heap.get? a = some (seqObj "list" vs.toArray n)) (h64:vs.length < 64)
 (hlen:(iK lt vs).length = vs.length)
 (hk:2<=vs.length->∀ h':bH,(∀ b o,b≠a->s.heap.get? b = some o->h'.get? b = some o)->∀ C:qP->aj->Prop,C κ { s with heap:=h' }->wpAny (model prog w) A (keyKind' vs.toArray) C (λ_ _=>False) { s with heap:=h' })
 (ha:∀ h':bH,(∀ b o,b≠a->s.heap.get? b = some o->h'.get? b = some o)->∀ i j,i < vs.length->j < vs.length->∀ C:Bool->aj->Prop,C (lt i j) { s with heap:=h' }->kas_ask prog w A κ vs i j C { s with heap:=h' })
 (q:P (.done (.ret .none)) { s with heap:=sortedHeap s.heap a vs (iK lt vs).toArray }):wpAny (model prog w) A (kl.«list.sort» ⟨[.ref a],[]⟩) P E s:=by
 have la:a < s.heap.objs.size:=aH ho;obtain ⟨e1,o1⟩:∃ e1,(s.heap.update a (cJ λ_=>(#[]:Array ag))).get? a = some (seqObj "list" #[] e1):=⟨_,get?_update_seq ho λ_ => #[]⟩;have o3:(((s.heap.update a (cJ λ_=>(#[]:Array ag))).push (seqObj "tuple" vs.toArray 0)).push (seqObj "list" #[] 0)).get? a = some (seqObj "list" #[] e1):=ao _ (ao _ o1)
 have keep:∀ b o,b≠a->s.heap.get? b = some o->(((s.heap.update a (cJ λ_=>(#[]:Array ag))).push (seqObj "tuple" vs.toArray 0)).push (seqObj "list" #[] 0)).get? b = some o:=λb o hb e =>
  ao _ (ao _ ((eL _ _ (Ne.symm hb)).trans e))
 have sz:(iK lt vs).toArray.size<=sizeLine:=by rw [aF,hlen,eU];lia
 rw [list_sort_plain];refine ah (listItems_at ho rfl (ah (Bt ho rfl ?_ (by rw [aF,eU];lia) (cA _))));refine ah (IV o1 rfl (ah (wpAny_newTuple ?_ (by show vs.length<=_;rw [eU];lia))));refine ah (wpAny_newList (eC ?_) (cA _));show wpAny (model prog w) A _ P E { s with heap:=((s.heap.update a (cJ λ_=>(#[]:Array ag))).push (seqObj "tuple" vs.toArray 0)).push (seqObj "list" #[] 0) };dsimp only;by_cases h2:vs.toArray.size < 2
 . have hv:vs.length < 2:=by simpa using h2
   have eo:iK lt vs = vs:=by unfold iK;rw [if_pos hv]
   rw [if_pos h2,if_pos h2];refine ah (aJ ?_);rw [StateT.run_pure];refine ah (aJ ?_);dsimp only;refine ah (IV o3 rfl ?_)
   have em:(arrOf (SortSt.mk' general' (vs.toArray.zip vs.toArray) #[] 7 none)).map (·.2) = (iK lt vs).toArray:=by
    rw [eo];show (vs.toArray.zip vs.toArray).map (·.2) = vs.toArray;apply Array.ext
    . simp
    . intro i h1 h2;simp
   rw [em];refine ah (Bt o3 rfl ?_ (cA _) (FQ sz));simp only [bne_self_eq_false,dq,if_false];exact aJ q
 . have hv:¬ vs.length < 2:=by simpa using h2
   have eo:iK lt vs = (ans lt (kas_sort vs.length)).toList.map λi=>vs.getD i cZ:=by unfold iK;rw [if_neg hv]
   rw [if_neg h2,if_neg h2];refine ah (cg (hk ∅ _ keep (λκ' s'=>κ' = κ/\s' = { s with heap:=((s.heap.update a (cJ λ_=>(#[]:Array ag))).push (seqObj "tuple" vs.toArray 0)).push (seqObj "list" #[] 0) }) ⟨rfl,rfl⟩) (λκ' s0 hk=>?_) λ_ _ x=>x.elim);obtain ⟨rfl,rfl⟩:=hk
   refine ah (cg (kat_run (Q:=λst' s'=>s' = { s with heap:=((s.heap.update a (cJ λ_=>(#[]:Array ag))).push (seqObj "tuple" vs.toArray 0)).push (seqObj "list" #[] 0) }/\∃ p:Array Nat,arrOf st' = p.map (kas_item (vs.toArray.zip vs.toArray))/\failedOf st' = none/\p = ans lt (kas_sort vs.length))
    (G:=λp s'=>s' = { s with heap:=((s.heap.update a (cJ λ_=>(#[]:Array ag))).push (seqObj "tuple" vs.toArray 0)).push (seqObj "list" #[] 0) }/\p = ans lt (kas_sort vs.length)) rfl ∅ h64 (λp st' s' a1 a2 a3 a4=>⟨a4.1,p,a2,a3,a4.2⟩)
    (zi (lt:=lt) (n:=vs.length) (λi j h1 h2 C hc=>ha _ keep i j h1 h2 C hc) _ (yE ∅) ⟨rfl,rfl⟩)) ?_ λ_ _ e=>e)
   rintro ⟨⟨⟩,st'⟩ s' ⟨rfl,p,har,hf,rfl⟩;dsimp only;rw [kat_snds rfl har,<- eo];refine ah (IV o3 rfl (ah (Bt o3 rfl ?_ (cA _) (FQ sz))));rw [hf];simp only [bne_self_eq_false,dq,if_false];exact aJ q
def Ao {κ:qP} (hl:s.heap.IsList l vs.toArray) (h64:vs.length < 64) (hlen:(iK lt vs).length = vs.length)
 (hk:2<=vs.length->∀ (A':bo) (h':bH),A'.units<=A.units+2->(∀ b o,s.heap.get? b = some o->h'.get? b = some o)->∀ C:qP->aj->Prop,C κ { s with heap:=h' }->wpAny (model prog w) A' (keyKind' vs.toArray) C (λ_ _=>False) { s with heap:=h' })
 (ha:∀ (A':bo) (h':bH),A'.units<=A.units+2->(∀ b o,s.heap.get? b = some o->h'.get? b = some o)->∀ i j,i < vs.length->j < vs.length->∀ C:Bool->aj->Prop,C (lt i j) { s with heap:=h' }->kas_ask prog w A' κ vs i j C { s with heap:=h' })
 (q:Q (.ref (s.heap.objs.size+1)) { s with heap:=sortedAll s.heap vs (iK lt vs).toArray }):wpAny (model prog w) A (call (.builtin "sorted") [.ref l]) Q E s:=by
 refine Calls.call_function_entry kind_sorted plain_sorted entry_sorted (args_sorted1 _) ?_;unfold kl.«sorted»;refine ah (m:=checkCount "sorted" 1 1 _) (aJ ?_);refine ah (collect_list hl (ah (wpAny_newList ?_ (by rw [eU];lia))) (by rw [eU];lia));have hs:((s.heap.push (seqObj "list" #[] 0)).update s.heap.objs.size (cJ (·++vs.toArray))).objs.size = s.heap.objs.size+1:=by rw [Heap.size_update,size_push']
 have hL:(((s.heap.push (seqObj "list" #[] 0)).update s.heap.objs.size (cJ (·++vs.toArray))).push (seqObj "list" vs.toArray 0)).get? (s.heap.objs.size+1) = some (seqObj "list" vs.toArray 0):=by
  rw [<- hs];exact aS _ rfl
 have keep:∀ b o,s.heap.get? b = some o->b≠s.heap.objs.size+1/\(((s.heap.push (seqObj "list" #[] 0)).update s.heap.objs.size (cJ (·++vs.toArray))).push (seqObj "list" vs.toArray 0)).get? b = some o:=λb o e=>by
  have hlt:b < s.heap.objs.size:=aH e;exact ⟨aQ (eZ hlt),ao _ ((eL _ _ (fu hlt)).trans (ao _ e))⟩
 show wpAny _ _ _ _ _ { s with heap:=((s.heap.push (seqObj "list" #[] 0)).update s.heap.objs.size (cJ (·++vs.toArray))).push (seqObj "list" vs.toArray 0) };rw [hs];refine ah (eC (fJ slot_list_sort ⟨_,hL,rfl⟩ entry_list_sort ?body (args_list_sort _)))
 case body =>
  refine tP (lt:=lt) (κ:=κ) hL h64 hlen (λh2 h' kp=>hk h2 _ h' ?_ λb o e=>kp b o (keep b o e).1 (keep b o e).2) (λh' kp=>ha _ h' ?_ λb o e=>kp b o (keep b o e).1 (keep b o e).2) ?_
  . exact aA _
  . exact aA _
  . exact ⟨_,rfl,aJ ⟨_,rfl,q⟩⟩
end
end PP
end
section
namespace PP
open PySem L2 PySem.SeqAt PyProof.Rows PySem.W
variable [Tbs]
section
variable {lt:Nat->Nat->Bool}
def kQ:∀ (f:Nat) (p:Array Nat) (k q:Nat),(ans lt (kas_desc f p k q)).1.Perm p
 | 0,p,k,q=>cF _
 | f+1,p,k,q=>by
   unfold kas_desc;rw [fc]
   cases lt (p.getD k 0) (p.getD (k - 1) 0) with
   | true =>
     rw [if_pos rfl];by_cases hq:q > 0
     . rw [if_pos hq];exact (kQ f _ _ _).trans (eE _ _ _)
     . rw [if_neg hq];exact kQ f _ _ _
   | false =>
     rw [if_neg ak,fc]
     cases lt (p.getD (k - 1) 0) (p.getD k 0) with
     | true=>rw [if_pos rfl];exact cF _
     | false=>rw [if_neg ak];exact kQ f _ _ _
def pE (a m:Nat) (p:Array Nat):(ans lt (kas_tail3 a m p)).2.Perm p:=by
 unfold kas_tail3;rw [dH,gY];exact eE _ _ _
def ly (a m:Nat) (p:Array Nat):(ans lt (kas_descPart a m p)).2.Perm p:=by
 unfold kas_descPart;rw [dH];have d:=kQ (lt:=lt) (m - (a+1)) p (a+1) 0;generalize ans lt (kas_desc (m - (a+1)) p (a+1) 0) = r at d;by_cases hq:r.2.2 > 0
 . rw [if_pos hq];exact ((pE _ _ _).trans (eE _ _ _)).trans d
 . rw [if_neg hq];exact (pE _ _ _).trans d
def xU (m:Nat) (p:Array Nat):(ans lt (kas_count m p)).2.Perm p:=by
 unfold kas_count;rw [dH];generalize ans lt (kas_asc p (m - 1) 1) = k;by_cases e:(k == m) = true
 . rw [if_pos e];exact cF _
 . rw [if_neg e];by_cases h1:k > 1
   . rw [if_pos h1,fc]
     cases lt (p.getD 0 0) (p.getD (k - 1) 0) with
     | true=>rw [if_pos rfl];exact cF _
     | false=>rw [if_neg ak];exact (ly _ _ _).trans (eE _ _ _)
   . rw [if_neg h1];exact ly _ _ _
def wx:∀ (f:Nat) (p:Array Nat) (k:Nat),(ans lt (kas_bin f p k)).Perm p
 | 0,p,k=>cF _
 | f+1,p,k=>by
   unfold kas_bin;rw [dH];exact (wx f _ _).trans (IX _ _ _)
def Aq (n:Nat):(ans lt (kas_sort n)).Perm (fo (bK n)):=by
 unfold kas_sort;rw [dH];have c:=xU (lt:=lt) n (fo (bK n));generalize ans lt (kas_count n (fo (bK n))) = r at c;by_cases h:r.1 < n
 . rw [if_pos h];exact (wx _ _ _).trans c
 . rw [if_neg h];exact c
def jk (n:Nat):(ans lt (kas_sort n)).toList.Perm (bK n):=by
 have:=(Aq (lt:=lt) n).toList;simpa using this
end
mutual
theorem RdV.keep (k:∀ b o,h.get? b = some o->h'.get? b = some o):∀ (d:D) (u:ag),RdV h d u->RdV h' d u
 | .non,u,r=>by unfold RdV at r |-;exact r
 | .bl _,u,r=>by unfold RdV at r |-;exact r
 | .int _,u,r=>by unfold RdV at r |-;exact r
 | .str _,u,r=>by unfold RdV at r |-;exact r
 | .lst ds,u,r=>by
   unfold RdV at r |-;obtain ⟨a,its,e,⟨o,h1,h2⟩,h3⟩:=r
   exact ⟨a,its,e,⟨o,k _ _ h1,h2⟩,RdL.keep k ds _ h3⟩
 | .tup ds,u,r=>by
   unfold RdV at r |-;obtain ⟨a,its,e,⟨o,h1,h2⟩,h3⟩:=r
   exact ⟨a,its,e,⟨o,k _ _ h1,h2⟩,RdL.keep k ds _ h3⟩
 | .fn _ _,u,r=>by unfold RdV at r;exact r.elim
 | .dct _ _,u,r=>by unfold RdV at r;exact r.elim
theorem RdL.keep (k:∀ b o,h.get? b = some o->h'.get? b = some o):∀ (ds:List D) (us:List ag),RdL h ds us->RdL h' ds us
 | [],us,r=>by unfold RdL at r |-;exact r
 | d::ds,us,r=>by
   unfold RdL at r |-;obtain ⟨w,ws,e,r1,r2⟩:=r;exact ⟨w,ws,e,RdV.keep k d w r1,RdL.keep k ds ws r2⟩
end
def RdL.nth:∀ {ds:List D} {us:List ag} (i:Nat),RdL h ds us->i < ds.length->RdV h (ds.getD i .non) (us.getD i cZ)
 | [],us,i,r,hi=>by simp at hi
 | d::ds,us,i,r,hi=>by
   unfold RdL at r;obtain ⟨w,ws,rfl,r1,r2⟩:=r
   cases i with
   | zero=>exact r1
   | succ i=>exact RdL.nth i r2 (by simpa using hi)
section
variable {prog:aR} {w:bB} {s:aj}
def Jk {A:bo} {E:ag->aj->Prop} {a b:D} {u v:ag} {k:Bool} {Q:Bool->aj->Prop} (ra:RdV s.heap a u) (rb:RdV s.heap b v) (hk:(bJ a = 1/\bJ b = 1)\/(bJ a = 2/\bJ b = 2)) (h:ltD a b = some k) (q:Q k s):wpAny (model prog w) A (oneLt' true u v) Q E s:=by
 rcases hk with ⟨h1,h2⟩ | ⟨h1,h2⟩
 . cases a<;>first | (simp [bJ] at h1;done) | skip
   . cases b<;>first | (simp [bJ] at h2;done) | skip
     . unfold RdV at ra rb;obtain ⟨t,rfl⟩:=ra;obtain ⟨t',rfl⟩:=rb;unfold ltD at h;cases h;exact oneLt_str q
     . rename_i l;cases l with
       | nil=>simp [bJ] at h2
       | cons x r=>cases x<;>simp [bJ] at h2
   . rename_i l;cases l with
     | nil=>simp [bJ] at h1
     | cons x r=>cases x<;>simp [bJ] at h1
 . cases a<;>first | (simp [bJ] at h1;done) | skip
   . cases b<;>first | (simp [bJ] at h2;done) | skip
     . unfold RdV at ra rb;obtain ⟨t,rfl⟩:=ra;obtain ⟨t',rfl⟩:=rb;unfold ltD at h;cases h;exact oneLt_int q
     . rename_i l;cases l with
       | nil=>simp [bJ] at h2
       | cons x r=>cases x<;>simp [bJ] at h2
   . rename_i l;cases l with
     | nil=>simp [bJ] at h1
     | cons x r=>cases x<;>simp [bJ] at h1
def vO:∀ (as bs:List D) (us vs:List ag) (i:Nat),RdL s.heap as us->RdL s.heap bs vs->A.units+min (cb as) (cb bs)+1 < cLine->dv as bs = some k->fin = decide (as.length < bs.length) ->
 (i = 0->∀ x y,as.head? = some x->bs.head? = some y->(bJ x = 1/\bJ y = 1)\/(bJ x = 2/\bJ y = 2))->Q k s->KatLex prog w A true fin Q (us.zip vs) i s
 | [],[],us,vs,i,ra,rb,hu,h,hf,hh,q=>by
   unfold RdL at ra rb;subst ra;subst rb;unfold dv at h;cases h;subst hf
   exact kat_nil q
 | [],y::ys,us,vs,i,ra,rb,hu,h,hf,hh,q=>by
   unfold RdL at ra;subst ra;unfold dv at h;cases h;have:fin = true:=by rw [hf];simp
   subst this
   exact kat_nil q
 | x::xs,[],us,vs,i,ra,rb,hu,h,hf,hh,q=>by
   unfold RdL at rb;subst rb;unfold dv at h;cases h;have:fin = false:=by rw [hf];simp
   subst this;rw [mH]
   exact kat_nil q
 | x::xs,y::ys,us,vs,i,ra,rb,hu,h,hf,hh,q=>by
   unfold RdL at ra rb;obtain ⟨u,us',rfl,ra1,ra2⟩:=ra;obtain ⟨v,vs',rfl,rb1,rb2⟩:=rb;unfold dv at h;unfold cb at hu;rw [mI];refine kat_cons (uj x y A s u v ra1 rb1 ∅ prog w _ _ ?_)
   cases e:eqD x y with
   | true =>
     rw [e,if_pos rfl] at h
     exact kat_yes (vO xs ys us' vs' (i+1) ra2 rb2 ∅ h (by rw [hf];simp) (λz=>by lia) q)
   | false =>
     rw [e,if_neg ak] at h;refine kat_no ?_;by_cases hi:i = 0
     . subst hi;exact Jk ra1 rb1 (hh rfl x y rfl rfl) h q
     . have e0:(true && i == 0) = false:=by simp [hi]
       rw [e0];exact kat_one u v (tL x y A s u v k ra1 rb1 ∅ h prog w _ _ q)
end
end PP
end
section
namespace PP
open PySem
structure Ck where
 N:List Str
 sc:fh
 fns:List (Str × List Str)
 gn:List Str
def Ai (sc:fh) (x:Str):Bool:=match sc.names.lookup x with
 | some .local=>true | some .cell=>true | some .free=>true | _=>false
def LQ (sc:fh) (x:Str):Bool:=match sc.names.lookup x with
 | some .local=>true | some .cell=>true | _=>false
def glB (sc:fh) (x:Str):Bool:=match sc.names.lookup x with
 | some .globalImplicit=>true | _=>false
def Ef (x:Str):Bool:=!(x == ("__debug__":Str)) && !(x == ("__classdict__":Str)) && !(x == ("__name__":Str))
def eW (c:Ck) (i:Nat) (x:Str):Bool:=decide (c.N[i]? = some x) && Ai c.sc x && Ef x
def dZ (c:Ck) (i:Nat) (x:Str):Bool:=decide (c.N[i]? = some x) && LQ c.sc x && Ef x
def dO (c:Ck) (x:Str):Bool:=glB c.sc x && Ef x
def HU:Op->iE->Bool
 | .add,.Add=>true | .sub,.Sub=>true | .mul,.Mult=>true | .mod,.Mod=>true | .fdiv,.FloorDiv=>true | .pow,.Pow=>true
 | _,_=>false
def zJ:Cop->CmpOp->Bool
 | .lt,.Lt=>true | .le,.LtE=>true | .gt,.Gt=>true | .eq,.Eq=>true | .ne,.NotEq=>true | .isin,.In=>true | .notin,.NotIn=>true | .is,.Is=>true | .isnot,.IsNot=>true
 | _,_=>false
def rV:Blt->Str
 | .len=>"len" | .min=>"min" | .max=>"max" | .toInt=>"int" | .toTup=>"tuple" | .toLst=>"list" | .all=>"all" | .any=>"any" | .sum=>"sum" | .sorted=>"sorted"
 | .isList=>"isinstance" | .isTup=>"isinstance"
def mtN:Mt->Str
 | .index=>"index"
def jq:List Str:=["len","min","max","int","str","tuple","list","dict","sum","isinstance","bool","range","sorted","set","zip","any","divmod","reversed","all"]
def jE:Es->Bool
 | .nil=>true
 | .cons e es=>!bE e && jE es
def qH:Es->Bool
 | .nil=>true
 | .cons e es=>(!bE e || npS es) && qH es
def vV:Es->Nat
 | .nil=>0
 | .cons _ es=>vV es+1
def st (x:aI):Str:=match x with
 | .Name y _=>y
 | .Attribute _ m _=>m
 | _=>""
def cst (x:aI):Const:=match x with
 | .Constant v _ _=>v
 | _=>.none
def e1 (x:aI):aI:=match x with
 | .BinOp y _ _ _=>y
 | .Compare y _ _ _=>y
 | .UnaryOp _ y _=>y
 | .IfExp t _ _ _=>t
 | .Subscript y _ _=>y
 | .Call f _ _ _=>f
 | .Attribute y _ _=>y
 | .ListComp e _ _ _=>e
 | .SetComp e _ _ _=>e
 | _=>x
def bop (x:aI):iE:=match x with
 | .BinOp _ o _ _=>o
 | _=>.Add
def e2 (x:aI):aI:=match x with
 | .BinOp _ _ z _=>z
 | .IfExp _ y _ _=>y
 | .Subscript _ z _=>z
 | _=>x
def Pt (x:aI):List CmpOp:=match x with
 | .Compare _ os _ _=>os
 | _=>[]
def ls (x:aI):List aI:=match x with
 | .Compare _ _ zs _=>zs
 | .BoolOp _ vs _=>vs
 | .Tuple es _ _=>es
 | .List es _=>es
 | .Call _ as _ _=>as
 | _=>[]
def Pw (x:aI):PySem.BoolOp:=match x with
 | .BoolOp o _ _=>o
 | _=>.And
def po (x:aI):Pos:=match x with
 | .Name _ p=>p
 | .BoolOp _ _ p=>p
 | .Call _ _ _ p=>p
 | .Attribute _ _ p=>p
 | .ListComp _ _ _ p=>p
 | _=>⟨0,0,0,0⟩
def uop (x:aI):PySem.UnaryOp:=match x with
 | .UnaryOp o _ _=>o
 | _=>.Not
def e3 (x:aI):aI:=match x with
 | .IfExp _ _ z _=>z
 | _=>x
def o1 (x:aI):Option aI:=match x with
 | .Slice l _ _ _=>l
 | _=>none
def o2 (x:aI):Option aI:=match x with
 | .Slice _ h _ _=>h
 | _=>none
def o3 (x:aI):Option aI:=match x with
 | .Slice _ _ s _=>s
 | _=>none
def kws (x:aI):List fL:=match x with
 | .Call _ _ ks _=>ks
 | _=>[]
def gns (x:aI):List BC:=match x with
 | .ListComp _ gs _ _=>gs
 | .SetComp _ gs _ _=>gs
 | _=>[]
def scp (x:aI) (d:fh):fh:=match x with
 | .ListComp _ _ sc _=>sc
 | .SetComp _ _ sc _=>sc
 | _=>d
def gz:aI->Nat
 | .Name .. => 0
 | .Constant .. => 1
 | .BinOp .. => 2
 | .Compare .. => 3
 | .BoolOp .. => 4
 | .UnaryOp .. => 5
 | .IfExp .. => 6
 | .Tuple .. => 7
 | .List .. => 8
 | .Subscript .. => 9
 | .Slice .. => 10
 | .Call .. => 11
 | .Attribute .. => 12
 | .ListComp .. => 13
 | .SetComp .. => 14
 | .JoinedStr .. => 15
 | .FormattedValue .. => 16
 | _=>99
def Oy (x:aI):Nat->Prop
 | 0=>∃ y p,x = .Name y p
 | 1=>∃ v n p,x = .Constant v n p
 | 2=>∃ y o z p,x = .BinOp y o z p
 | 3=>∃ y os zs p,x = .Compare y os zs p
 | 4=>∃ o vs p,x = .BoolOp o vs p
 | 5=>∃ o y p,x = .UnaryOp o y p
 | 6=>∃ t y z p,x = .IfExp t y z p
 | 7=>∃ es n p,x = .Tuple es n p
 | 8=>∃ es p,x = .List es p
 | 9=>∃ y z p,x = .Subscript y z p
 | 10=>∃ l u s p,x = .Slice l u s p
 | 11=>∃ f as ks p,x = .Call f as ks p
 | 12=>∃ y m p,x = .Attribute y m p
 | 13=>∃ e gs sc p,x = .ListComp e gs sc p
 | 14=>∃ e gs sc p,x = .SetComp e gs sc p
 | 15=>∃ vs p,x = .JoinedStr vs p
 | 16=>∃ y cv sp p,x = .FormattedValue y cv sp p
 | _=>True
def EJ (x:aI):Oy x (gz x):=by
 cases x<;>first | trivial | exact ⟨_,_,rfl⟩ | exact ⟨_,_,_,rfl⟩ | exact ⟨_,_,_,_,rfl⟩ | exact ⟨_,_,_,_,_,rfl⟩
def de (h:((gz x == n) && b) = true):Oy x n/\b = true:=by
 rw [aa] at h;exact ⟨eq_of_beq h.1▸EJ x,h.2⟩
@[irreducible] noncomputable def cE (x:aI) (k:Str->Bool):Bool:=(gz x == 0) && k (st x)
def bz (h:cE x k = true):∃ y p,x = .Name y p/\k y = true:=by
 unfold cE at h;obtain ⟨⟨y,p,rfl⟩,h⟩:=de h;exact ⟨y,p,rfl,h⟩
@[irreducible] noncomputable def onC (x:aI) (k:Const->Bool):Bool:=(gz x == 1) && k (cst x)
def lG (h:onC x k = true):∃ v n p,x = .Constant v n p/\k v = true:=by
 unfold onC at h;obtain ⟨⟨v,n,p,rfl⟩,h⟩:=de h;exact ⟨v,n,p,rfl,h⟩
@[irreducible] noncomputable def Eb (x:aI) (k:aI->iE->aI->Bool):Bool:=(gz x == 2) && k (e1 x) (bop x) (e2 x)
def vB (h:Eb x k = true):∃ y o z p,x = .BinOp y o z p/\k y o z = true:=by
 unfold Eb at h;obtain ⟨⟨y,o,z,p,rfl⟩,h⟩:=de h;exact ⟨y,o,z,p,rfl,h⟩
@[irreducible] noncomputable def DZ (x:aI) (k:aI->List CmpOp->List aI->Bool):Bool:=(gz x == 3) && k (e1 x) (Pt x) (ls x)
def pW (h:DZ x k = true):∃ y os zs p,x = .Compare y os zs p/\k y os zs = true:=by
 unfold DZ at h;obtain ⟨⟨y,os,zs,p,rfl⟩,h⟩:=de h;exact ⟨y,os,zs,p,rfl,h⟩
@[irreducible] noncomputable def Ea (x:aI) (k:PySem.BoolOp->List aI->Pos->Bool):Bool:=(gz x == 4) && k (Pw x) (ls x) (po x)
def me (h:Ea x k = true):∃ o vs p,x = .BoolOp o vs p/\k o vs p = true:=by
 unfold Ea at h;obtain ⟨⟨o,vs,p,rfl⟩,h⟩:=de h;exact ⟨o,vs,p,rfl,h⟩
@[irreducible] noncomputable def DU (x:aI) (k:PySem.UnaryOp->aI->Bool):Bool:=(gz x == 5) && k (uop x) (e1 x)
def oF (h:DU x k = true):∃ o y p,x = .UnaryOp o y p/\k o y = true:=by
 unfold DU at h;obtain ⟨⟨o,y,p,rfl⟩,h⟩:=de h;exact ⟨o,y,p,rfl,h⟩
@[irreducible] noncomputable def LB (x:aI) (k:aI->aI->aI->Bool):Bool:=(gz x == 6) && k (e1 x) (e2 x) (e3 x)
def yX (h:LB x k = true):∃ t y z p,x = .IfExp t y z p/\k t y z = true:=by
 unfold LB at h;obtain ⟨⟨t,y,z,p,rfl⟩,h⟩:=de h;exact ⟨t,y,z,p,rfl,h⟩
@[irreducible] noncomputable def pT (x:aI) (k:List aI->Bool):Bool:=(gz x == 7) && k (ls x)
def ik (h:pT x k = true):∃ es n p,x = .Tuple es n p/\k es = true:=by
 unfold pT at h;obtain ⟨⟨es,n,p,rfl⟩,h⟩:=de h;exact ⟨es,n,p,rfl,h⟩
@[irreducible] noncomputable def yW (x:aI) (k:List aI->Bool):Bool:=(gz x == 8) && k (ls x)
def md (h:yW x k = true):∃ es p,x = .List es p/\k es = true:=by
 unfold yW at h;obtain ⟨⟨es,p,rfl⟩,h⟩:=de h;exact ⟨es,p,rfl,h⟩
@[irreducible] noncomputable def pU (x:aI) (k:aI->aI->Bool):Bool:=(gz x == 9) && k (e1 x) (e2 x)
def jl (h:pU x k = true):∃ y z p,x = .Subscript y z p/\k y z = true:=by
 unfold pU at h;obtain ⟨⟨y,z,p,rfl⟩,h⟩:=de h;exact ⟨y,z,p,rfl,h⟩
@[irreducible] noncomputable def Lz (x:aI) (k:Option aI->Option aI->Option aI->Bool):Bool:=(gz x == 10) && k (o1 x) (o2 x) (o3 x)
def yV (h:Lz x k = true):∃ l u s p,x = .Slice l u s p/\k l u s = true:=by
 unfold Lz at h;obtain ⟨⟨l,u,s,p,rfl⟩,h⟩:=de h;exact ⟨l,u,s,p,rfl,h⟩
@[irreducible] noncomputable def tD (x:aI) (k:aI->List aI->List fL->Pos->Bool):Bool:=(gz x == 11) && k (e1 x) (ls x) (kws x) (po x)
def rE (h:tD x k = true):∃ f as ks p,x = .Call f as ks p/\k f as ks p = true:=by
 unfold tD at h;obtain ⟨⟨f,as,ks,p,rfl⟩,h⟩:=de h;exact ⟨f,as,ks,p,rfl,h⟩
@[irreducible] noncomputable def LD (x:aI) (k:aI->Str->Pos->Bool):Bool:=(gz x == 12) && k (e1 x) (st x) (po x)
def HY (h:LD x k = true):∃ y m p,x = .Attribute y m p/\k y m p = true:=by
 unfold LD at h;obtain ⟨⟨y,m,p,rfl⟩,h⟩:=de h;exact ⟨y,m,p,rfl,h⟩
@[irreducible] noncomputable def HX (x:aI) (k:aI->List BC->fh->Pos->Bool):Bool:=(gz x == 13) && k (e1 x) (gns x) (scp x default) (po x)
def oG (h:HX x k = true):∃ e gs sc p,x = .ListComp e gs sc p/\k e gs sc p = true:=by
 unfold HX at h;obtain ⟨⟨e,gs,sc,p,rfl⟩,h⟩:=de h;exact ⟨e,gs,sc,p,rfl,h⟩
def sls (x:bw):List aI:=match x with
 | .Assign ts _ _=>ts
 | _=>[]
def s1 (x:bw):aI:=match x with
 | .Assign _ y _=>y
 | .AugAssign t _ _ _=>t
 | .If t _ _ _=>t
 | .For t _ _ _ _=>t
 | .While t _ _ _=>t
 | .Expr y _=>y
 | _=>.Constant .none 0 ⟨0,0,0,0⟩
def sop (x:bw):iE:=match x with
 | .AugAssign _ o _ _=>o
 | _=>.Add
def s2 (x:bw):aI:=match x with
 | .AugAssign _ _ y _=>y
 | .For _ it _ _ _=>it
 | _=>.Constant .none 0 ⟨0,0,0,0⟩
def so (x:bw):Option aI:=match x with
 | .Return y _=>y
 | _=>none
def sb (x:bw):List bw:=match x with
 | .If _ y _ _=>y
 | .For _ _ y _ _=>y
 | .While _ y _ _=>y
 | _=>[]
def sc2 (x:bw):List bw:=match x with
 | .If _ _ z _=>z
 | .For _ _ _ z _=>z
 | .While _ _ z _=>z
 | _=>[]
def sN:bw->Nat
 | .Assign .. => 0
 | .AugAssign .. => 1
 | .Return .. => 2
 | .If .. => 3
 | .For .. => 4
 | .While .. => 5
 | .Expr .. => 6
 | _=>99
def Ox (x:bw):Nat->Prop
 | 0=>∃ ts y p,x = .Assign ts y p
 | 1=>∃ t o y p,x = .AugAssign t o y p
 | 2=>∃ y p,x = .Return y p
 | 3=>∃ t y z p,x = .If t y z p
 | 4=>∃ t it y z p,x = .For t it y z p
 | 5=>∃ t y z p,x = .While t y z p
 | 6=>∃ y p,x = .Expr y p
 | _=>True
def EI (x:bw):Ox x (sN x):=by
 cases x<;>first | trivial | exact ⟨_,_,rfl⟩ | exact ⟨_,_,_,rfl⟩ | exact ⟨_,_,_,_,rfl⟩ | exact ⟨_,_,_,_,_,rfl⟩
def jI (h:((sN x == n) && b) = true):Ox x n/\b = true:=by
 rw [aa] at h;exact ⟨eq_of_beq h.1▸EI x,h.2⟩
@[irreducible] noncomputable def lr (x:bw) (k:List aI->aI->Bool):Bool:=(sN x == 0) && k (sls x) (s1 x)
def iq (h:lr x k = true):∃ ts y p,x = .Assign ts y p/\k ts y = true:=by
 unfold lr at h;obtain ⟨⟨ts,y,p,rfl⟩,h⟩:=jI h;exact ⟨ts,y,p,rfl,h⟩
@[irreducible] noncomputable def Ed (x:bw) (k:aI->iE->aI->Bool):Bool:=(sN x == 1) && k (s1 x) (sop x) (s2 x)
def Ec (h:Ed x k = true):∃ t o y p,x = .AugAssign t o y p/\k t o y = true:=by
 unfold Ed at h;obtain ⟨⟨t,o,y,p,rfl⟩,h⟩:=jI h;exact ⟨t,o,y,p,rfl,h⟩
@[irreducible] noncomputable def rA (x:bw) (k:Option aI->Bool):Bool:=(sN x == 2) && k (so x)
def pV (h:rA x k = true):∃ y p,x = .Return y p/\k y = true:=by
 unfold rA at h;obtain ⟨⟨y,p,rfl⟩,h⟩:=jI h;exact ⟨y,p,rfl,h⟩
@[irreducible] noncomputable def yY (x:bw) (k:aI->List bw->List bw->Bool):Bool:=(sN x == 3) && k (s1 x) (sb x) (sc2 x)
def vz (h:yY x k = true):∃ t y z p,x = .If t y z p/\k t y z = true:=by
 unfold yY at h;obtain ⟨⟨t,y,z,p,rfl⟩,h⟩:=jI h;exact ⟨t,y,z,p,rfl,h⟩
@[irreducible] noncomputable def yZ (x:bw) (k:aI->aI->List bw->List bw->Bool):Bool:=(sN x == 4) && k (s1 x) (s2 x) (sb x) (sc2 x)
def vA (h:yZ x k = true):∃ t it y z p,x = .For t it y z p/\k t it y z = true:=by
 unfold yZ at h;obtain ⟨⟨t,it,y,z,p,rfl⟩,h⟩:=jI h;exact ⟨t,it,y,z,p,rfl,h⟩
@[irreducible] noncomputable def HV (x:bw) (k:aI->List bw->List bw->Bool):Bool:=(sN x == 5) && k (s1 x) (sb x) (sc2 x)
def yU (h:HV x k = true):∃ t y z p,x = .While t y z p/\k t y z = true:=by
 unfold HV at h;obtain ⟨⟨t,y,z,p,rfl⟩,h⟩:=jI h;exact ⟨t,y,z,p,rfl,h⟩
@[irreducible] noncomputable def AK (x:bw) (k:aI->Bool):Bool:=(sN x == 6) && k (s1 x)
def tu (h:AK x k = true):∃ y p,x = .Expr y p/\k y = true:=by
 unfold AK at h;obtain ⟨⟨y,p,rfl⟩,h⟩:=jI h;exact ⟨y,p,rfl,h⟩
section
variable {α:Type} {xs:List α}
@[irreducible] noncomputable def on0 (xs:List α) (k:Bool):Bool:=match xs with
 | []=>k
 | _=>false
def cR (h:on0 xs k = true):xs = []/\k = true:=by
 unfold on0 at h;cases xs<;>first | exact ⟨rfl,h⟩ | cases h
@[irreducible] noncomputable def onS (xs:List α) (k:α->List α->Bool):Bool:=match xs with
 | y::ys=>k y ys
 | _=>false
def cD (h:onS xs k = true):∃ y ys,xs = y::ys/\k y ys = true:=by
 unfold onS at h;cases xs<;>first | exact ⟨_,_,rfl,h⟩ | cases h
@[irreducible] noncomputable def on1 (xs:List α) (k:α->Bool):Bool:=onS xs λy ys=>on0 ys (k y)
def du (h:on1 xs k = true):∃ y,xs = [y]/\k y = true:=by
 unfold on1 at h;obtain ⟨y,ys,rfl,h1⟩:=cD h;obtain ⟨rfl,h2⟩:=cR h1;exact ⟨y,rfl,h2⟩
@[irreducible] noncomputable def on2 (xs:List α) (k:α->α->Bool):Bool:=onS xs λy ys=>on1 ys (k y)
def jD (h:on2 xs k = true):∃ y z,xs = [y,z]/\k y z = true:=by
 unfold on2 at h;obtain ⟨y,ys,rfl,h1⟩:=cD h;obtain ⟨z,rfl,h2⟩:=du h1;exact ⟨y,z,rfl,h2⟩
end
@[irreducible] noncomputable def onI (v:Const) (k:Int->Bool):Bool:=match v with
 | .int i=>k i
 | _=>false
def DX (h:onI v k = true):∃ i,v = .int i/\k i = true:=by
 unfold onI at h;cases v<;>first | exact ⟨_,rfl,h⟩ | cases h
@[irreducible] noncomputable def onB (v:Const) (k:Bool->Bool):Bool:=match v with
 | .bool i=>k i
 | _=>false
def LC (h:onB v k = true):∃ i,v = .bool i/\k i = true:=by
 unfold onB at h;cases v<;>first | exact ⟨_,rfl,h⟩ | cases h
@[irreducible] noncomputable def onT (v:Const) (k:Str->Bool):Bool:=match v with
 | .str i=>k i
 | _=>false
def DW (h:onT v k = true):∃ i,v = .str i/\k i = true:=by
 unfold onT at h;cases v<;>first | exact ⟨_,rfl,h⟩ | cases h
def Jp:Const->Bool
 | .none=>true
 | _=>false
def EB (h:Jp v = true):v = .none:=by
 cases v<;>first | rfl | cases h
@[irreducible] noncomputable def pX (x:aI) (k:Str->List aI->Bool):Bool:=tD x λf as ks _=>cE f λn=>on0 ks (k n as)
def dY (h:pX x k = true):∃ n np as p,x = .Call (.Name n np) as [] p/\k n as = true:=by
 unfold pX at h;obtain ⟨f,as,ks,p,rfl,h1⟩:=rE h;obtain ⟨n,np,rfl,h2⟩:=bz h1;obtain ⟨rfl,h3⟩:=cR h2;exact ⟨n,np,as,p,rfl,h3⟩
@[irreducible] noncomputable def onM (x:aI) (k:aI->Str->List aI->Bool):Bool:=tD x λf as ks cp=>LD f λy m ap=>on0 ks (decide (ap.endLine = cp.line) && k y m as)
def kx (h:onM x k = true):∃ y m ap as cp,x = .Call (.Attribute y m ap) as [] cp/\ap.endLine = cp.line/\k y m as = true:=by
 unfold onM at h;obtain ⟨f,as,ks,cp,rfl,h1⟩:=rE h;obtain ⟨y,m,ap,rfl,h2⟩:=HY h1;obtain ⟨rfl,h3⟩:=cR h2;rw [aa] at h3;exact ⟨y,m,ap,as,cp,rfl,of_decide_eq_true h3.1,h3.2⟩
@[irreducible] noncomputable def onG (g:BC) (k:aI->aI->List aI->Bool):Bool:=decide (g.is_async = 0) && k g.target g.iter g.ifs
def DY (h:onG g k = true):∃ t it il,g = ⟨t,it,il,0⟩/\k t it il = true:=by
 obtain ⟨t,it,il,a⟩:=g;unfold onG at h;rw [aa] at h;have e:a = 0:=of_decide_eq_true h.1;subst e;exact ⟨t,it,il,rfl,h.2⟩
def Gr:aI->Option (List Str)
 | .Name x _=>some [x]
 | .Tuple es _ _=>es.mapM fun | .Name x _=>some x | _=>none
 | _=>none
def My (c:Ck):List Nat->List aI->Bool
 | [],es=>on0 es true
 | i::is,es=>onS es λe r=>cE e (λx=>dZ c i x) && My c is r
def uv (c:Ck):Tg->aI->Bool
 | .nm i,x=>cE x λy=>dZ c i y
 | .tp is,x=>pT x λes=>My c is es
def Am (n:Nat):Tg->Bool
 | .nm i=>decide (n<=i)
 | .tp is=>is.all λi=>decide (n<=i)
def qa (ts:List Str) (N:List Str):List Str:=N.map λy=>if ts.contains y then y++(" ":Str) else y
def lV (c:Ck) (sc:fh):Bool :=
 decide (sc.kind = .function) && sc.names.all λp=>decide (p.2≠.cell) && (!decide (p.2 = .local) || decide (sc.names.lookup p.1 = some .local)) &&
  (!decide (p.2 = .free) || (match c.sc.names.lookup p.1 with | some .cell=>true | some .free=>true | _=>false))
def namesOk (c:Ck) (sc:fh) (Nc:List Str):Bool :=
 decide Nc.Nodup && (bK c.N.length).all λi=>match Nc[i]? with
  | some x=>!Ai sc x || (decide (c.N[i]? = some x) && decide (sc.names.lookup x = some .free))
  | none=>false
def Jo:PySem.UnaryOp->Bool
 | .Not=>true
 | _=>false
def isNeg:PySem.UnaryOp->Bool
 | .USub=>true
 | _=>false
def vQ (h:Jo o = true):o = .Not:=by cases o<;>first | rfl | cases h
def EC (h:isNeg o = true):o = .USub:=by cases o<;>first | rfl | cases h
@[irreducible] noncomputable def onO (x:Option aI) (k:aI->Bool):Bool:=match x with
 | some y=>k y
 | none=>false
def ku (h:onO x k = true):∃ y,x = some y/\k y = true:=by
 unfold onO at h
 cases x with
 | none=>cases h
 | some y=>exact ⟨y,rfl,h⟩
def Ou (x:aI):Bool:=gz x == 9
def fC:aI->Bool
 | .Name .. | .Constant .. | .BinOp .. | .Compare .. | .BoolOp .. | .UnaryOp .. | .IfExp .. | .Tuple .. | .List .. | .Subscript .. | .Call .. | .ListComp .. => true
 | .JoinedStr .. => true
 | _=>false
variable [Tbs]
def Ir (x:aI):Bool:=gz x == 7
mutual
noncomputable def ckE (c:Ck):E->aI->Bool
 | .var i,x=>cE x λy=>eW c i y
 | .pk i,x=>cE x λy=>eW c i y
 | .glob g,x=>cE x λy=>decide (c.gn[g]? = some y) && dO c y
 | .int i,x=>onC x λv=>onI v λj=>decide (i = j)
 | .bl b,x=>onC x λv=>onB v λj=>decide (b = j)
 | .non,x=>onC x Jp
 | .str t,x=>onC x λv=>onT v λu=>decide (t = u)
 | .bin op a b,x=>Eb x λy o z=>HU op o && ckE c a y && ckE c b z && (!bE a || np b)
 | .cmp op a b,x=>DZ x λy os zs=>on1 os λo=>on1 zs λz=>zJ op o && ckE c a y && ckE c b z && (!bE a || np b)
 | .and a b,x=>Ea x λo vs p=>onS vs λy r=>onS r λz r2=>(match o with
   | .And=>true
   | .Or=>false) && ckE c a y && ckE c b (match r2 with
   | []=>z
   | _::_=>.BoolOp .And (z::r2) p) && !bE a && !bE b
 | .or a b,x=>Ea x λo vs p=>onS vs λy r=>onS r λz r2=>(match o with
   | .And=>false
   | .Or=>true) && ckE c a y && ckE c b (match r2 with
   | []=>z
   | _::_=>.BoolOp .Or (z::r2) p) && !bE a && !bE b
 | .not a,x=>DU x λo y=>Jo o && ckE c a y && !bE a
 | .neg a,x=>DU x λo y=>isNeg o && ckE c a y && !bE a
 | .ite k a b,x=>LB x λt y z=>ckE c k t && ckE c a y && ckE c b z && !bE a && !bE b
 | .tup es,x=>pT x λxs=>jo c es xs && jE es
 | .lst es,x=>yW x λxs=>jo c es xs && jE es
 | .ix a b,x=>pU x λy z=>ckE c a y && ckE c b z && (!bE a || np b) && !bE b
 | .sl a lo hi,x=>pU x λy z=>Lz z λl h s=>s.isNone && (ckE c a y && ckO c lo l && ckO c hi h && (!bE a || (npO lo && npO hi)))
 | .call f es,x=>pX x λn xs=>(match c.fns[f]? with
    | some (m,ps)=>decide (m = n) && dO c n && decide (ps.length = vV es) && jo c es xs && jE es && !xs.isEmpty
    | none=>false)
 | .calld f es,x=>pX x λn xs=>(match c.fns[f]? with
    | some (m,ps)=>decide (m = n) && dO c n && decide (ps.length = vV es+1) && jo c es xs && jE es && !xs.isEmpty && Tbs.dfs.contains f
    | none=>false)
 | .blt f es,x=>pX x λn xs=>decide (rV f = n) && dO c n && (match tyName f with
    | some T=>on2 xs λy w=>cE w λt=>decide (t = (T:Str)) && dO c t && jo c es [y] && qH es
    | none=>!xs.isEmpty && jo c es xs && qH es)
 | .pop i,x=>onM x λy m as=>cE y λy=>on0 as (decide (m = ("pop":Str)) && eW c i y)
 | .bad,x=>fC x
 | .isdig i,x=>onM x λy m as=>cE y λy=>on0 as (decide (m = ("isdigit":Str)) && eW c i y)
 | .mt m a b,x=>onM x λy n as=>on1 as λz=>decide (n = mtN m) && ckE c a y && ckE c b z && !bE a && !bE b && (gz y == 0 || gz y == 1 || gz y == 9)
 | .dix a b,x=>pU x λy z=>ckE c a y && ckE c b z && !bE a && !bE b
 | .dgt a b e,x=>onM x λy m as=>on2 as λu v=>decide (m = ("get":Str)) && ckE c a y && ckE c b u && ckE c e v && !bE a && !bE b && !bE e && Ou y
 | .comp k tg src ifs elt,x=>HX x λex gs sc _=>on1 gs λg=>onG g λt it il=>(match Gr t with
    | some ts=>decide (ts.length = k) && Am c.N.length tg && lV c sc && namesOk c sc (qa ts c.N++ts) && uv ⟨qa ts c.N++ts,sc,c.fns,c.gn⟩ tg t && ckI c src t it &&
       ckG ⟨qa ts c.N++ts,sc,c.fns,c.gn⟩ ifs il && ckE ⟨qa ts c.N++ts,sc,c.fns,c.gn⟩ elt ex && !bE elt
    | none=>false)
noncomputable def jo (c:Ck):Es->List aI->Bool
 | .nil,xs=>on0 xs true
 | .cons e es,xs=>onS xs λy ys=>ckE c e y && jo c es ys
noncomputable def ckO (c:Ck):Eo->Option aI->Bool
 | .no,x=>x.isNone
 | .yes e,x=>onO x λy=>ckE c e y && !bE e
noncomputable def ckG (c:Ck):Eo->List aI->Bool
 | .no,x=>on0 x true
 | .yes e,x=>on1 x λy=>ckE c e y
noncomputable def ckI (c:Ck):It->aI->aI->Bool
 | .rng e,_,x=>pX x λn xs=>on1 xs λy=>decide (n = ("range":Str)) && dO c n && ckE c e y && !bE e
 | .sq e,_,x=>ckE c e x && !bE e
 | .zp es,t,x=>pX x λn xs=>on2 xs λu v=>Ir t && decide (n = ("zip":Str)) && dO c n && jo c es [u,v] && jE es
end
def hV (h:jo c es (y::ys) = true):∃ e es',es = .cons e es'/\ckE c e y = true/\jo c es' ys = true:=by
 cases es with
 | nil=>cases (cR h).1
 | cons e es =>
   obtain ⟨_,_,q,h'⟩:=cD h;cases q;rw [aa] at h';exact ⟨e,es,rfl,h'⟩
def uY (h:uv c tg t = true):(∃ x p,t = .Name x p)\/∃ es n p,t = .Tuple es n p:=by
 cases tg with
 | nm i=>obtain ⟨x,p,rfl,_⟩:=bz h;exact .inl ⟨x,p,rfl⟩
 | tp is=>obtain ⟨es,n,p,rfl,_⟩:=ik h;exact .inr ⟨es,n,p,rfl⟩
def hdN (h:cE x k = true):fC x = true:=by obtain ⟨_,_,rfl,_⟩:=bz h;rfl
def hdC (h:onC x k = true):fC x = true:=by obtain ⟨_,_,_,rfl,_⟩:=lG h;rfl
def hdF (h:pX x k = true):fC x = true:=by obtain ⟨_,_,_,_,rfl,_⟩:=dY h;rfl
def hdM (h:onM x k = true):fC x = true:=by obtain ⟨_,_,_,_,_,rfl,_⟩:=kx h;rfl
def hdB (h:Ea x k = true):fC x = true:=by obtain ⟨_,_,_,rfl,_⟩:=me h;rfl
def hdU (h:DU x k = true):fC x = true:=by obtain ⟨_,_,_,rfl,_⟩:=oF h;rfl
def hdS (h:pU x k = true):fC x = true:=by obtain ⟨_,_,_,rfl,_⟩:=jl h;rfl
def bP (h:ckE c e x = true):fC x = true:=by
 cases e with
 | var i=>exact hdN h
 | pk i=>exact hdN h
 | glob g=>exact hdN h
 | int i=>exact hdC h
 | bl b=>exact hdC h
 | non=>exact hdC h
 | str t=>exact hdC h
 | bin op a b=>obtain ⟨_,_,_,_,rfl,_⟩:=vB h;rfl
 | cmp op a b=>obtain ⟨_,_,_,_,rfl,_⟩:=pW h;rfl
 | and a b=>exact hdB h
 | or a b=>exact hdB h
 | not a=>exact hdU h
 | neg a=>exact hdU h
 | ite k a b=>obtain ⟨_,_,_,_,rfl,_⟩:=yX h;rfl
 | tup es=>obtain ⟨_,_,_,rfl,_⟩:=ik h;rfl
 | lst es=>obtain ⟨_,_,rfl,_⟩:=md h;rfl
 | ix a b=>exact hdS h
 | sl a lo hi=>exact hdS h
 | call f es=>exact hdF h
 | calld f es=>exact hdF h
 | blt f es=>exact hdF h
 | pop i=>exact hdM h
 | bad=>exact h
 | isdig i=>exact hdM h
 | mt m a b=>exact hdM h
 | dix a b=>exact hdS h
 | dgt a b e=>exact hdM h
 | comp k tg src ifs elt=>obtain ⟨_,_,_,_,rfl,_⟩:=oG h;rfl
def bO (h:fC x = true) (xs:List aI) (env:Env):starEach (x::xs) env = (false,eval x env)::starEach xs env:=by
 cases x<;>first | rfl | (exact absurd h ak)
def EM (h:fC x = true) (env:Env) (v:ag):foldedSetIterable x env v = pure v:=by
 cases x<;>first | rfl | (exact absurd h ak)
def rN (h:fC x = true) (op:CmpOp):behindInMarks op x = false:=by
 cases x<;>first | rfl | (exact absurd h ak)
def zo (h:fC x = true):L2.PlainIx x:=by
 intro o i;cases x<;>first | rfl | (exact absurd h ak)
def jH:aI->Bool
 | .ListComp .. => true
 | _=>false
def jJ (h:fC x = true) (hc:jH x = false) (t:Option aI) (n:Nat) (env:Env):swapsWith x t n env = pure false:=by
 cases x<;>first | rfl | (exact absurd h ak) | (exact absurd hc.symm ak)
def EG:E->Bool
 | .comp .. => true
 | _=>false
@[irreducible] noncomputable def LA (x:aI) (k:Str->Pos->Bool):Bool:=(gz x == 0) && k (st x) (po x)
def HW (h:LA x k = true):∃ y p,x = .Name y p/\k y p = true:=by
 unfold LA at h;obtain ⟨⟨y,p,rfl⟩,h⟩:=de h;exact ⟨y,p,rfl,h⟩
def newOk:E->Bool
 | .lst _=>true
 | .blt .toLst _=>true
 | .sl _ _ _=>true
 | _=>false
def Me:aI->Bool
 | .Dict [] [] _=>true
 | _=>false
def Iz (h:Me x = true):∃ p,x = .Dict [] [] p:=by
 unfold Me at h;split at h
 . exact ⟨_,rfl⟩
 . cases h
def isNm (x:aI):Bool:=gz x == 0
mutual
noncomputable def ckS (c:Ck):S->bw->Bool
 | .asg tg e,x=>lr x λts y=>on1 ts λt=>uv c tg t && ckE c e y && !bE e && !jH y && (isNm t || !Ir y)
 | .new i e,x=>lr x λts y=>on1 ts λt=>cE t λt=>dZ c i t && ckE c e y && !jH y && newOk e
 | .cmp own i e,x=>EG e && lr x λts y=>on1 ts λt=>LA t λt tp=>HX y λex gs sc p=>dZ c i t && ckE c e (.ListComp ex gs sc p) && ((decide (c.sc.names.lookup t = some .local) && decide (tp.line = p.line) && !(sc.names.any λ(n,k)=>n == t && (k == .local || k == .cell))) || (!own && decide (c.sc.names.lookup t = some .cell)))
 | .aug i op e,x=>Ed x λt o y=>cE t λt=>dZ c i t && HU op o && ckE c e y && !bE e
 | .ret e,x=>rA x λy=>onO y λy=>ckE c e y && !bE e
 | .ifs k a b,x=>yY x λt y z=>ckE c k t && qL c a y && qL c b z
 | .for_ tg src body,x=>yZ x λt it y z=>on0 z (uv c tg t && ckI c src t it && qL c body y)
 | .while_ k body,x=>HV x λt y z=>on0 z (ckE c k t && qL c body y)
 | .append i e,x=>AK x λw=>onM w λy m as=>cE y λy=>on1 as λz=>decide (m = ("append":Str)) && eW c i y && ckE c e z && !bE e
 | .setix i j e,x=>lr x λts y=>on1 ts λt=>pU t λw z=>cE w λt=>eW c i t && ckE c e y && !bE e && !jH y && ckE c j z && !bE j
 | .newd i,x=>lr x λts y=>on1 ts λt=>cE t λt=>dZ c i t && Me y
 | .opq _,_=>false
 | .bad,_=>true
noncomputable def qL (c:Ck):Ss->List bw->Bool
 | .nil,xs=>on0 xs true
 | .cons s ss,xs=>onS xs λy ys=>ckS c s y && qL c ss ys
end
end PP
end
section
namespace PP
open PySem L2 PyProof.Rows
variable [Tbs]
def OM (K:PySem.W.Frag) (G:Gh) (F:au->Prop) (σ:L2.St) (H:Hp) (m nP:Bool) (d:D) (δ':Loc) (Q:VK):Prop :=
 ∀ v H' F',Step G F H F' H'->(nP = true->Sim H H')->Ok K G F' σ H' δ'->RelM m K H' F' d v->Q v H'
def tE (K:PySem.W.Frag) (cx:Cl) (e:E):TE:=λσ H Q=>∃ G F δ d δ',Ok K G F σ H δ/\evE cx e δ = some (d,δ')/\OM K G F σ H (bE e) (np e) d δ' Q
def tT (K:PySem.W.Frag) (cx:Cl) (e:E):TT:=λσ H Q=>∃ G F δ b δ',Ok K G F σ H δ/\evT cx e δ = some (b,δ') /\
 ∀ H' F',Step G F H F' H'->(np e = true->Sim H H')->Ok K G F' σ H' δ'->Q b H'
def nQ (K:PySem.W.Frag) (H:Hp) (F:au->Prop):Es->List D->List V->Prop
 | .nil,ds,vs=>ds = []/\vs = []
 | .cons e es,ds,vs=>∃ d ds' v vs',ds = d::ds'/\vs = v::vs'/\RelM (bE e) K H F d v/\nQ K H F es ds' vs'
def tEs (K:PySem.W.Frag) (cx:Cl) (es:Es):TA:=λσ H Q=>∃ G F δ ds δ',Ok K G F σ H δ/\eh cx es δ = some (ds,δ') /\
 ∀ vs H' F',Step G F H F' H'->(npS es = true->Sim H H')->Ok K G F' σ H' δ'->nQ K H' F' es ds vs->Q vs H'
def tO (K:PySem.W.Frag) (cx:Cl) (o:Eo):TO:=λσ H Q=>∃ G F δ d δ',Ok K G F σ H δ/\evO cx o δ = some (d,δ') /\
 ∀ H' F',Step G F H F' H'->(npO o = true->Sim H H')->Ok K G F' σ H' δ'->Q d H'
def tG (K:PySem.W.Frag) (cx:Cl) (o:Eo):TT:=λσ H Q=>∃ G F δ b δ',Ok K G F σ H δ/\evG cx o δ = some (b,δ') /\
 ∀ H' F',Step G F H F' H'->(npO o = true->Sim H H')->Ok K G F' σ H' δ'->Q b H'
def Wk (K:PySem.W.Frag) (G:Gh) (F:au->Prop) (H:Hp) (J:L2.It) (ds:List D):Prop:=∀ F2 H2,Step G F H F2 H2->FD F2 H2->∀ i:Nat,
 (∀ d,ds[i]? = some d->J.go i H2/\∀ x H3,J.yld i H2 x H3->fI H2 H3/\Rel K H3 F2 d x)/\(i = ds.length->J.stop i H2)
def tI (K:PySem.W.Frag) (cx:Cl) (t:It):TI:=λσ H R=>∃ G F δ ds δ',Ok K G F σ H δ/\evI cx t δ = some (ds,δ') /\
 ∀ J H' F',Step G F H F' H'->(npI t = true->Sim H H')->Ok K G F' σ H' δ'->(∀ G',Wk K G' F' H' J ds)->R J H'
section
variable {K:PySem.W.Frag} {cx:Cl} {X:Cx}
def PE.imp (h:PE X e t) (w:∀ σ H Q,t' σ H Q->t σ H Q):PE X e t':=λpins s σ H Q I q=>h pins s σ H Q I (w σ H Q q)
def PT.imp (h:PT X e t) (w:∀ σ H Q,t' σ H Q->t σ H Q):PT X e t':=λpins s σ H Q I q=>h pins s σ H Q I (w σ H Q q)
def two {a b:E} {σ:L2.St} {G:Gh} {H:Hp} {F:au->Prop} {δ δ1 δ2:Loc} {x y:D} (ok:Ok K G F σ H δ) (ea:evE cx a δ = some (x,δ1)) (eb:evE cx b δ1 = some (y,δ2)) (pc:(!bE a || np b) = true) {R:V->V->Hp->Prop}
 (k:∀ v u H2 F2,Step G F H F2 H2->((np a && np b) = true->Sim H H2)->Ok K G F2 σ H2 δ2->RelM (bE a) K H2 F2 x v->RelM (bE b) K H2 F2 y u->R v u H2) :
 tE K cx a σ H λv H1=>tE K cx b σ H1 λu H2=>R v u H2:=by
 refine ⟨G,F,δ,x,δ1,ok,ea,λv H1 F1 st1 sm1 ok1 r1=>⟨G,F1,δ1,y,δ2,ok1,eb,λu H2 F2 st2 sm2 ok2 r2=>?_⟩⟩;refine k v u H2 F2 (st1.trans st2) (λz=>?_) ok2 (RelM.step ok1.fd st2 (λz=>sm2 (by rw [z] at pc;simpa using pc)) r1) r2;rw [aa] at z;exact (sm1 z.1).trans (sm2 z.2)
def cX.int {H:Hp} {F:au->Prop} {i:Int} {v:V} (h:cX K H F (.int i) v):v = .int i:=by
 rcases h with h | ⟨_,_,_,e,_⟩
 . unfold Rel at h;exact h
 . cases e
def cX.bl (h:cX K H F (.bl i) v):v = .bl i:=by
 rcases h with h | ⟨_,_,_,e,_⟩
 . unfold Rel at h;exact h
 . cases e
def cX.str {H:Hp} {F:au->Prop} {i:Str} {v:V} (h:cX K H F (.str i) v):v = .str i:=by
 rcases h with h | ⟨_,_,_,e,_⟩
 . unfold Rel at h;exact h
 . cases e
def cX.tup {H:Hp} {F:au->Prop} {ds:List D} {v:V} (h:cX K H F (.tup ds) v):∃ a xs,v = .ref a/\SqT K H a xs/\aK K H F ds xs:=by
 rcases h with h | ⟨_,_,_,e,_⟩
 . unfold Rel at h;exact h
 . cases e
def cX.lst {H:Hp} {F:au->Prop} {ds:List D} {v:V} (h:cX K H F (.lst ds) v):∃ a xs,v = .ref a/\LsB K H a xs/\aK K H F ds xs:=by
 rcases h with h | ⟨a,xs,_,e,e2,h1,h2⟩
 . unfold Rel at h;obtain ⟨a,xs,e,h1,h2⟩:=h;exact ⟨a,xs,e,h1.b,h2⟩
 . cases e;exact ⟨a,xs,e2,.inl (.inl h1),h2⟩
def cw {H:Hp} {F:au->Prop} (i:Int):Rel K H F (.int i) (.int i):=by unfold Rel;rfl
def iW (i:Bool):Rel K H F (.bl i) (.bl i):=by unfold Rel;rfl
def jz {H:Hp} {F:au->Prop} (i:Str):Rel K H F (.str i) (.str i):=by unfold Rel;rfl
def yI:Rel K H F .non .non:=by unfold Rel;rfl
def Ok.laid {σ:L2.St} {G:Gh} {H:Hp} {F:au->Prop} {δ:Loc} {p:au} (ok:Ok K G F σ H δ) (hp:H p = none) (o:HO):Ok K G F σ (upd H p o) δ/\Step G F H F (upd H p o)/\Sim H (upd H p o)/\¬ F p :=
 ⟨ok.same' (cC hp o),Step.of_same (cC hp o),.of (cC hp o),ok.fd.none hp⟩
def ig {σ:L2.St} {G:Gh} {H:Hp} {F:au->Prop} {δ:Loc} {p:au} {ds:List D} {xs:List V} (ok:Ok K G F σ H δ) (hp:H p = none) (r:aK K H F ds xs):Rel K (upd H p (.tup xs)) F (.tup ds) (.ref p):=by
 unfold Rel;exact ⟨p,xs,rfl,SqT.of bL,aK.step (G:=G) ok.fd (Step.of_same (cC hp _)) ds xs r⟩
def lF {σ:L2.St} {G:Gh} {H:Hp} {F:au->Prop} {δ:Loc} {p:au} {ds:List D} {xs:List V} (ok:Ok K G F σ H δ) (hp:H p = none) (r:aK K H F ds xs):Rel K (upd H p (.lst xs)) F (.lst ds) (.ref p):=by
 unfold Rel;exact ⟨p,xs,rfl,.inl ⟨.inl bL,(ok.laid hp (.lst xs)).2.2.2⟩,aK.step (G:=G) ok.fd (Step.of_same (cC hp _)) ds xs r⟩
def GV {a b:E} {y z:aI} {op:Op} {o:iE} {pos:Pos} (ho:HU op o = true) (pc:(!bE a || np b) = true) (ha:PE X y (tE X.K cx a)) (hb:PE X z (tE X.K cx b)):PE X (.BinOp y o z pos) (tE X.K cx (.bin op a b)):=by
 intro pins s σ H Q I h;obtain ⟨G,F,δ,d,δ',ok,ev,post⟩:=h;simp only [evE,af,ae] at ev;obtain ⟨⟨x,δ1⟩,ea,⟨y',δ2⟩,eb,d',hd,e⟩:=ev;cases e;dsimp only at eb hd post;have fin:∀ v H2 F2,Step G F H F2 H2->((np a && np b) = true->Sim H H2)->Ok X.K G F2 σ H2 δ2->Rel X.K H2 F2 d v->Q v H2:=λv H2 F2 st sm ok2 r=>post v H2 F2 st sm ok2 r;cases op<;>cases o<;>first | (exact absurd ho ak) | skip
 . refine rq (Ly.or (xG.or (HQ.or (HS.or HR)))) ha hb pins s σ H Q I (two ok ea eb pc λv u H2 F2 st sm ok2 r1 r2=>?_);change MO x y' = some d at hd;unfold MO at hd;split at hd
   . cases hd;have e1:=r1.b.int;have e2:=r2.b.int;subst e1;subst e2;exact .inl ⟨_,_,rfl,rfl,fin _ _ _ st sm ok2 (cw _)⟩
   . split at hd
     . cases hd;have e1:=r1.b.str;have e2:=r2.b.str;subst e1;subst e2;exact .inr (.inl ⟨_,_,rfl,rfl,‹_›,fin _ _ _ st sm ok2 (jz _)⟩)
     . cases hd
   . cases hd;obtain ⟨p1,xs1,e1,s1,l1⟩:=r1.b.tup;obtain ⟨p2,xs2,e2,s2,l2⟩:=r2.b.tup;subst e1;subst e2;unfold aK at l1;subst l1;refine .inr (.inr (.inr (.inl ⟨p1,p2,xs2,rfl,rfl,s1,s2,fin _ _ _ st sm ok2 ?_⟩)));unfold Rel;exact ⟨p2,xs2,rfl,s2,l2⟩
   . split at hd
     . rename_i q;cases hd;obtain ⟨p1,xs1,e1,s1,l1⟩:=r1.b.tup;obtain ⟨p2,xs2,e2,s2,l2⟩:=r2.b.tup;subst e1;subst e2;refine .inr (.inr (.inl ⟨p1,p2,xs1,xs2,rfl,rfl,s1,s2,λz=>?_,by rw [l1.length,l2.length];exact q,λz=>?_,λ_ p hp=>?_⟩))
       . have:=l1.length;rw [z] at this;cases this
       . refine fin _ _ _ st sm ok2 ?_;have e:∀ {ys:List D},aK X.K H2 F2 ys xs2->ys = []:=λ{ys} r=>by have:=r.length;rw [z] at this;exact dW.mp this.symm
         have:=e l2;subst this;rw [cq];unfold Rel;exact ⟨p1,xs1,rfl,s1,l1⟩
       . obtain ⟨o1,o2,o3,o4⟩:=ok2.laid hp (.tup (xs1++xs2));exact fin _ _ _ (st.trans o2) (λz=>(sm z).trans o3) o1 (ig ok2 hp (l1.append l2))
     . cases hd
   . split at hd
     . rename_i q;cases hd;obtain ⟨p1,xs1,e1,s1,l1⟩:=r1.b.lst;obtain ⟨p2,xs2,e2,s2,l2⟩:=r2.b.lst;subst e1;subst e2;refine .inr (.inr (.inr (.inr ⟨p1,p2,xs1,xs2,rfl,rfl,s1,s2,by rw [l1.length,l2.length];exact q,λp hp=>?_⟩)));obtain ⟨o1,o2,o3,o4⟩:=ok2.laid hp (.lst (xs1++xs2));exact fin _ _ _ (st.trans o2) (λz=>(sm z).trans o3) o1 (lF ok2 hp (l1.append l2))
     . cases hd
   . cases hd
 . refine rq Ln ha hb pins s σ H Q I (two ok ea eb pc λv u H2 F2 st sm ok2 r1 r2=>?_);change Ko x y' = some d at hd;unfold Ko at hd;split at hd<;>first | (cases hd;done) | skip
   cases hd;have e1:=r1.b.int;have e2:=r2.b.int;subst e1;subst e2;exact ⟨_,_,rfl,rfl,fin _ _ _ st sm ok2 (cw _)⟩
 . refine rq (HN.or HM) ha hb pins s σ H Q I (two ok ea eb pc λv u H2 F2 st sm ok2 r1 r2=>?_);change LJ x y' = some d at hd;unfold LJ at hd;split at hd<;>first | (cases hd;done) | skip
   . split at hd
     . rename_i q;cases hd;have e1:=r1.b.int;have e2:=r2.b.int;subst e1;subst e2;refine .inl ⟨_,_,rfl,rfl,?_,fin _ _ _ st sm ok2 (cw _)⟩;exact Ib q
     . cases hd
   . split at hd
     . rename_i q;cases hd;have e1:=r1.b.str;have e2:=r2.b.int;subst e1;subst e2;exact .inr ⟨_,_,rfl,rfl,q,fin _ _ _ st sm ok2 (jz _)⟩
     . cases hd
 . refine rq Lq ha hb pins s σ H Q I (two ok ea eb pc λv u H2 F2 st sm ok2 r1 r2=>?_);change LL x y' = some d at hd;unfold LL at hd;split at hd<;>first | (cases hd;done) | skip
   split at hd
   . rename_i q;cases hd;have e1:=r1.b.int;have e2:=r2.b.int;subst e1;subst e2;exact ⟨_,_,rfl,rfl,q,fin _ _ _ st sm ok2 (cw _)⟩
   . cases hd
 . refine rq DT ha hb pins s σ H Q I (two ok ea eb pc λv u H2 F2 st sm ok2 r1 r2=>?_);change EO x y' = some d at hd;unfold EO at hd;split at hd<;>first | (cases hd;done) | skip
   split at hd
   . rename_i q;cases hd;have e1:=r1.b.int;have e2:=r2.b.int;subst e1;subst e2;exact ⟨_,_,rfl,rfl,q,fin _ _ _ st sm ok2 (cw _)⟩
   . cases hd
 . refine rq Lo ha hb pins s σ H Q I (two ok ea eb pc λv u H2 F2 st sm ok2 r1 r2=>?_);change La x y' = some d at hd;unfold La at hd;split at hd<;>first | (cases hd;done) | skip
   split at hd
   . rename_i q;cases hd;have e1:=r1.b.int;have e2:=r2.b.int;subst e1;subst e2;exact ⟨_,_,rfl,rfl,q,fin _ _ _ st sm ok2 (cw _)⟩
   . cases hd
end
end PP
end
section
namespace PP
open PySem L2 PySem.SeqAt PyProof.Rows PySem.W
variable [Tbs]
def jy (h:sortable ds = true):ds.length < 64/\(∀ x∈ds,bJ x≠0/\bJ x = bJ (ds.getD 0 .non))/\∀ x∈ds,∀ y∈ds,∃ k,iX x y = some k:=by
 unfold sortable at h;simp only [aa,aW,decide_eq_true_eq] at h;obtain ⟨⟨h1,h2⟩,h3⟩:=h;refine ⟨h1,λx hx=>?_,λx hx y hy=>je.mp (h3 x hx y hy)⟩;have:=h2 x hx;exact ⟨by simpa using this.1,by simpa using this.2⟩
def Ar (ds:List D):(jX ds).length = ds.length:=by
 unfold jX;by_cases h:ds.length < 2
 . rw [if_pos h]
 . rw [if_neg h,aw,(jk ds.length).length_eq,FK]
def wC {K:PySem.W.Frag} {H:Hp} {F:au->Prop} {ds:List D} {xs:List V} (r:aK K H F ds xs):∀ (is:List Nat),(∀ i∈is,i < ds.length)->aK K H F (is.map λi=>ds.getD i .non) (is.map λi=>xs.getD i .non)
 | [],_=>aK.nil
 | i::is,h=>by
   have hi:=h i av;obtain ⟨v,hv,rv⟩:=r.get (i:=i) (d:=ds.getD i .non) (by simp [hi]);have e:xs.getD i .non = v:=by simp [hv]
   rw [az,az,e];exact aK.cons rv (wC r is λj hj=>h j (ai _ hj))
def wB (r:Vals xs us):∀ (is:List Nat),(∀ i∈is,i < xs.length)->Vals (is.map λi=>xs.getD i .non) (is.map λi=>us.getD i cZ)
 | [],_=>.nil
 | i::is,h=>by
   have hi:=h i av;obtain ⟨u,hu,ru⟩:=r.get (i:=i) (x:=xs.getD i .non) (by simp [hi]);have e:us.getD i cZ = u:=by simp [hu]
   rw [az,az,e];exact .cons ru (wB r is λj hj=>h j (ai _ hj))
def LR {M:Model} {A:bo} {E:ag->aj->Prop} {s:aj} {ds:List D} {us:List ag} (r:RdL s.heap ds us) (hk:∀ x∈ds,bJ x≠0/\bJ x = bJ (ds.getD 0 .non)) (h2:2<=us.length) {Q:qP->aj->Prop}
 (q:Q (if bJ (ds.getD 0 .non) < 3 then oneType' else tuples' true) s):wpAny M A (keyKind' us.toArray) Q E s:=by
 have hl:=r.length
 have all:∀ v∈us,∃ d∈ds,RdV s.heap d v:=by
  have:∀ (ds:List D) (us:List ag),RdL s.heap ds us->∀ v∈us,∃ d∈ds,RdV s.heap d v:=by
   intro ds
   induction ds with
   | nil=>intro us r v hv;unfold RdL at r;subst r;cases hv
   | cons d ds ih =>
     intro us r v hv;unfold RdL at r;obtain ⟨w,ws,rfl,r1,r2⟩:=r;rcases aD.mp hv with rfl | hv
     . exact ⟨d,av,r1⟩
     . obtain ⟨d',h1,h2⟩:=ih ws r2 v hv;exact ⟨d',ai _ h1,h2⟩
  exact this ds us r
 generalize hn:bJ (ds.getD 0 .non) = n at hk q
 have tups:∀ (T:ag) (P:D->Prop),(∀ d,P d->∀ u,RdV s.heap d u->Looks M s.heap (typeOf u) T)->(∀ x∈ds,∃ y r,x = .tup (y::r)/\P y)->∃ fs,KatTups s.heap us fs/\fs.length = us.length/\∀ v∈fs,Looks M s.heap (typeOf v) T:=by
  intro T P hP hx
  have:∀ (ds:List D) (us:List ag),RdL s.heap ds us->(∀ x∈ds,∃ y r,x = .tup (y::r)/\P y)->∃ fs,KatTups s.heap us fs/\fs.length = us.length/\∀ v∈fs,Looks M s.heap (typeOf v) T:=by
   intro ds
   induction ds with
   | nil=>intro us r _;unfold RdL at r;subst r;exact ⟨[],KatTups.nil,rfl,λv hv=>by cases hv⟩
   | cons d ds ih =>
     intro us r hx;unfold RdL at r;obtain ⟨w,ws,rfl,r1,r2⟩:=r;obtain ⟨fs,f1,f2,f3⟩:=ih ws r2 λx h=>hx x (ai _ h);obtain ⟨y,rr,rfl,py⟩:=hx d av;unfold RdV at r1;obtain ⟨a,its,rfl,⟨o,h1,hc,m,hd⟩,h3⟩:=r1;unfold RdL at h3;obtain ⟨f,fr,e,g1,g2⟩:=h3;refine ⟨f::fs,KatTups.cons h1 hc hd ?_ f1,by simp [f2],λv hv=>?_⟩
     . have:its.toList[0]? = some f:=by rw [e];rfl
       simpa using this
     . rcases aD.mp hv with rfl | hv
       . exact hP y py _ g1
       . exact f3 v hv
  exact this ds us r hx
 match n,hk,q with
 | 0,hk,q =>
   obtain ⟨x,hx⟩:∃ x,x∈ds:=by
    cases ds with
    | nil=>rw [hl] at h2;simp at h2
    | cons x r=>exact ⟨x,av⟩
   exact absurd (hk x hx).2 (hk x hx).1
 | 1,hk,q =>
   refine kas_kind (T:=.type "str") h2 (λv hv=>?_) ⇑0 ⇑0 q;obtain ⟨d,hd,rd⟩:=all v hv;have:=(hk d hd).2;cases d<;>first | (simp [bJ] at this;done) | skip
   . unfold RdV at rd;obtain ⟨t,rfl⟩:=rd;exact lP rfl
   . rename_i l;cases l with
     | nil=>simp [bJ] at this
     | cons x r=>cases x<;>simp [bJ] at this
 | 2,hk,q =>
   refine kas_kind (T:=.type "int") h2 (λv hv=>?_) ⇑0 ⇑0 q;obtain ⟨d,hd,rd⟩:=all v hv;have:=(hk d hd).2;cases d<;>first | (simp [bJ] at this;done) | skip
   . unfold RdV at rd;obtain ⟨t,rfl⟩:=rd;exact lP rfl
   . rename_i l;cases l with
     | nil=>simp [bJ] at this
     | cons x r=>cases x<;>simp [bJ] at this
 | 3,hk,q =>
   obtain ⟨fs,f1,f2,f3⟩:=tups (.type "str") (λy=>∃ x,y = .str x) (λd ⟨x,e⟩ u rd=>by subst e;unfold RdV at rd;obtain ⟨t,rfl⟩:=rd;exact lP rfl) λx hx=>by
    have:=(hk x hx).2;cases x<;>first | (simp [bJ] at this;done) | skip
    rename_i l;cases l with
    | nil=>simp [bJ] at this
    | cons x r=>cases x<;>first | (simp [bJ] at this;done) | exact ⟨_,_,rfl,_,rfl⟩
   exact kat_kind f1 ∅ f3 ⇑0 q
 | 4,hk,q =>
   obtain ⟨fs,f1,f2,f3⟩:=tups (.type "int") (λy=>∃ x,y = .int x) (λd ⟨x,e⟩ u rd=>by subst e;unfold RdV at rd;obtain ⟨t,rfl⟩:=rd;exact lP rfl) λx hx=>by
    have:=(hk x hx).2;cases x<;>first | (simp [bJ] at this;done) | skip
    rename_i l;cases l with
    | nil=>simp [bJ] at this
    | cons x r=>cases x<;>first | (simp [bJ] at this;done) | exact ⟨_,_,rfl,_,rfl⟩
   exact kat_kind f1 ∅ f3 ⇑0 q
 | m+5,hk,q =>
   obtain ⟨x,hx⟩:∃ x,x∈ds:=by
    cases ds with
    | nil=>rw [hl] at h2;simp at h2
    | cons x r=>exact ⟨x,av⟩
   have:=(hk x hx).2;exfalso;cases x<;>first | (simp [bJ] at this;done) | skip
   rename_i l;cases l with
   | nil=>simp [bJ] at this
   | cons x r=>cases x<;>simp [bJ] at this
def um:∀ {ds:List D},(∀ x∈ds,dep x < 100000)->cb ds < 100000
 | [],_=>by unfold cb;lia
 | d::ds,h=>by
   have h1:=h d av;have h2:=um λx hx=>h x (ai _ hx);unfold cb
   lia
def sP (hs:sortable ds = true):cb ds < 100000:=by
 obtain ⟨_,_,hlt⟩:=jy hs;refine um λx hx=>?_;obtain ⟨b,hb⟩:=hlt x hx x hx;unfold iX at hb;split at hb
 . lia
 . cases hb
def OJ {prog:aR} {w:bB} {A A':bo} {s:aj} {h':bH} {ds:List D} {its:List ag} (hu:A.units+200 < cLine) (hA:A'.units<=A.units+2) (rd:RdL s.heap ds its) (l3:its.length = ds.length) (hs:sortable ds = true)
 (k:∀ b o,s.heap.get? b = some o->h'.get? b = some o) (i j:Nat) (hi:i < its.length) (hj:j < its.length) (C:Bool->aj->Prop) (c:C (fR ds i j) { s with heap:=h' }) :
 kas_ask prog w A' (if bJ (ds.getD 0 .non) < 3 then oneType' else tuples' true) its i j C { s with heap:=h' }:=by
 obtain ⟨h64,hk,hlt⟩:=jy hs
 have mem:∀ i,i < its.length->ds.getD i .non∈ds:=λi hi=>by
  have:i < ds.length:=by lia
  rw [bN,aB this];exact bS this
 obtain ⟨b,hb⟩:=hlt _ (mem i hi) _ (mem j hj);have eb:fR ds i j = b:=by unfold fR;rw [hb];rfl
 rw [eb] at c;have ri:=RdV.keep k _ _ (RdL.nth i rd ∅);have rj:=RdV.keep k _ _ (RdL.nth j rd ∅);have ki:=hk _ (mem i hi);have kj:=hk _ (mem j hj);unfold iX at hb;split at hb
 . rename_i hd;unfold kas_ask;generalize ds.getD i .non = x at ri hb hd ki;generalize ds.getD j .non = y at rj hb hd kj;generalize its.getD i cZ = u at ri;generalize its.getD j cZ = v at rj;generalize bJ (ds.getD 0 .non) = n0 at ki kj;by_cases h3:n0 < 3
   . rw [if_pos h3,keyLt'_oneType];refine Jk (s:={ s with heap:=h' }) ri rj ?_ hb c;have:=ki.1;have k1:n0 = 1\/n0 = 2:=by lia
     rcases k1 with k1 | k1
     . exact .inl ⟨∅,∅⟩
     . exact .inr ⟨∅,∅⟩
   . rw [if_neg h3]
     have tx:∀ z:D,bJ z = n0->∃ p r,z = .tup (p::r)/\((n0 = 3/\bJ p = 1)\/(n0 = 4/\bJ p = 2)):=λz hz=>by
      cases z<;>first | (simp [bJ] at hz;lia) | skip
      rename_i l
      cases l with
      | nil=>simp [bJ] at hz;lia
      | cons p r=>cases p<;>first | (simp [bJ] at hz;lia) | exact ⟨_,_,rfl,by simp [bJ] at hz |-;lia⟩
     obtain ⟨p1,r1,rfl,w1⟩:=tx x ki.2;obtain ⟨p2,r2,rfl,w2⟩:=tx y kj.2;unfold RdV at ri rj;obtain ⟨a1,i1,rfl,⟨o1,g1,c1,m1,d1⟩,t1⟩:=ri;obtain ⟨a2,i2,rfl,⟨o2,g2,c2,m2,d2⟩,t2⟩:=rj;have z1:i1.size = (p1::r1).length:=by simpa using t1.length
     have z2:i2.size = (p2::r2).length:=by simpa using t2.length
     unfold ltD at hb;unfold dep at hd;refine kat_lt (s:={ s with heap:=h' }) g1 d1 g2 d2 (vO (s:={ s with heap:=h' }) (p1::r1) (p2::r2) i1.toList i2.toList 0 t1 t2 ∅ hb (by rw [z1,z2]) (λ_ x y hx hy=>?_) c);cases hx;cases hy;rcases w1 with ⟨e,w1⟩ | ⟨e,w1⟩<;>rcases w2 with ⟨e',w2⟩ | ⟨e',w2⟩<;>first | (exact .inl ⟨w1,w2⟩) | (exact .inr ⟨w1,w2⟩) | lia
 . cases hb
def uw {X:Cx} (hu:X.A.units+200 < cLine):bU X (.builtin "sorted") (λxs H Q=>∃ F ds v,xs = [v]/\cX X.K H F (.lst ds) v/\sortable ds = true/\∀ p ys,H p = none->aK X.K H F (jX ds) ys->Q (.ref p) (upd H p (.lst ys))):=by
 intro pins s σ H xs us Q I r h;obtain ⟨F,ds,v,rfl,rb,hs,q⟩:=h;obtain ⟨a,ws,rfl,hl,rl⟩:=rb.lst;obtain ⟨u,rfl,rx⟩:=vals1 r;cases rx;obtain ⟨its,n,rv,ho,hz⟩:=hl.obj I;obtain ⟨h64,hk,hlt⟩:=jy hs;have rd:=mR I ds ws its rl rv (sP hs);have l1:=rl.length;have l2:=rv.length;have l3:its.length = ds.length:=by lia
 have isl:s.heap.IsList a its.toArray:=⟨_,ho,rfl,n,rfl⟩;have out:iK (fR ds) its = (if its.length < 2 then its else (ans (fR ds) (kas_sort its.length)).toList.map λi=>its.getD i cZ):=rfl
 have hlen:(iK (fR ds) its).length = its.length:=by
  rw [out];by_cases h:its.length < 2
  . rw [if_pos h]
  . rw [if_neg h,aw,(jk its.length).length_eq,FK]
 have small:∀ i∈(ans (fR ds) (kas_sort its.length)).toList,i < its.length:=λi hi=>by simpa using (jk its.length).mem_iff.mp hi
 -- the values in their new places
 have hv:∃ ys,Vals ys (iK (fR ds) its)/\aK X.K H F (jX ds) ys:=by
  rw [out];unfold jX;by_cases h:its.length < 2
  . rw [if_pos h,if_pos ∅];exact ⟨ws,rv,rl⟩
  . rw [if_neg h,if_neg ∅,<- l3];exact ⟨_,wB rv _ λi hi=>by rw [l2];exact small i hi,wC rl _ λi hi=>by rw [<- l3];exact small i hi⟩
 obtain ⟨ys,vy,ry⟩:=hv;refine Ao (lt:=fR ds) (κ:=if bJ (ds.getD 0 .non) < 3 then oneType' else tuples' true) isl ∅ hlen (λh2 A' h' hA k C c=>?_) (λA' h' hA k i j hi hj C c=>?_) ?_
 . exact LR (s:={ s with heap:=h' }) (RdL.keep k ds its rd) hk h2 c
 . exact OJ hu hA rd l3 hs k i j hi hj C c
 . obtain ⟨e,he⟩:=sortedAll_at s.heap its (iK (fR ds) its).toArray;refine ⟨.ref (s.heap.objs.size+1),upd H (s.heap.objs.size+1) (.lst ys),I.laid (t':=s.toks) (λb u hb=>sortedAll_old hb) (Nat.le_succ _) ⟨?_,_,e,vy,he⟩,rfl,q _ _ (I.hok.fresh (Nat.le_succ _)) ry⟩;rw [ry.length,Ar,eU]
   lia
end PP
end
section
namespace PP
open PySem PySem.W PyProof.Rows
section
variable {prog:aR} {w:bB} {A:bo} {E:ag->aj->Prop} {s:aj}
end
end PP
end
section
namespace PP
open PySem L2 PySem.SeqAt PyProof.Rows PySem.W
variable [Tbs]
end PP
end
section
namespace PP
open PySem L2 PyProof.Rows PySem.SeqAt PySem.Calls
section
variable {prog:aR} {w:bB} {A:bo} {R:Na->aj->Prop} {I:au} {fp wr:List au} {n:Nat} {P:Nat->ag->Prop} {St:Nat->bH->Prop}
def tJ:(toString "min"++toString ".loop":String) = "min.loop":=by decide
def Ie (W:Walks prog w A.in1 I fp wr n P St) {bt:Nat->Nat->Bool} {h0:bH} (hw:∀ b∈wr,h0.get? b = none)
 (hcmp:∀ i j vi vj (s:aj) (Q:ag->aj->Prop) (E:ag->aj->Prop),(∀ b o,h0.get? b = some o->s.heap.get? b = some o)->P i vi->P j vj->i < n->j < n->Q (.bool (bt i j)) s->wpAny (model prog w) A.in1 (richCompare .Lt vi vj) Q E s)
 {S:au} (hSf:S∉fp) (hS0:h0.get? S = none):∀ (k j:Nat) (s:aj) (l:List ag) (c:Nat),0 < n->j+k = n->(∀ b o,h0.get? b = some o->s.heap.get? b = some o)->St j s.heap->Kept P bt j l ->
 s.heap.get? S = some { cls:=.type "list",dict:=none,data:=.seq l.toArray c,slots := #[] } ->
 (∀ v h' tk,P (argBest bt (n - 1)) v->(∀ b o,b∉wr->b≠S->s.heap.get? b = some o->h'.get? b = some o)->R (.ok (.ret v)) { s with heap:=h',toks:=tk }) ->
 codeAny (model prog w) A (.builtin "min.loop" ⟨[.ref I,.none,.ref S],[]⟩) R s:=by
 have hSw:S∉wr:=λh=>hSf (W.sub _ h);have up:∀ {h:bH} {f:Obj->Obj} {b:au} {o:Obj},b≠S->h.get? b = some o->(h.update S f).get? b = some o:=λhb e=>(eL _ _ (Ne.symm hb)).trans e;have n0:∀ {b:au} {o:Obj},h0.get? b = some o->b∉wr/\b≠S:=λe=>⟨λz=>(by rw [hw _ z] at e;cases e),λz=>(by rw [z,hS0] at e;cases e)⟩
 have best_lt:∀ j,argBest bt j<=j:=λj=>by
  induction j with
  | zero=>exact aA _
  | succ j ih=>unfold argBest;split<;>lia
 intro k
 induction k with
 | zero =>
   intro j s l c hn hk hk0 hst hl hS hR;obtain rfl:j = n:=by lia
   refine wK F.entry_min_loop ?_;rw [wW F.plain_min_loop _];show wpAny _ A.in1 (seqItems? (.ref S) >>= _) _ _ s;refine ah (dg hS rfl ?_);show wpAny _ A.in1 (tryCatch (pyNext (.ref I)) _ >>= _) _ _ s;refine ah (yg (W.done s _ _ hst λh' tk hk'=>?_))
   cases j with
   | zero=>exact absurd hn (bV 0)
   | succ j =>
     obtain ⟨v,rfl,hv⟩:=hl;show wpAny _ A.in1 (updateSeq S (λ_ => #[]) >>= _) _ _ _
     exact ah (wJ (hk' S _ hSw hS) rfl (ah (iD (aJ (hR v _ tk hv λb o hbw hbS e=>up hbS (hk' b o hbw e))))))
 | succ k ih =>
   intro j s l c hn hk hk0 hst hl hS hR;refine wK F.entry_min_loop ?_;rw [wW F.plain_min_loop _];show wpAny _ A.in1 (seqItems? (.ref S) >>= _) _ _ s;refine ah (dg hS rfl ?_);show wpAny _ A.in1 (tryCatch (pyNext (.ref I)) _ >>= _) _ _ s;refine ah (yg (W.item j s _ _ ∅ hst λv h' tk hP hst' hk'=>?_));have hS':=hk' S _ hSw hS;have k1:∀ b o,h0.get? b = some o->h'.get? b = some o:=λb o e=>hk' b o (n0 e).1 (hk0 b o e)
   have again:∀ (h2:bH) (l2:List ag) (c2:Nat),(∀ b o,b≠S->h'.get? b = some o->h2.get? b = some o)->h2.get? S = some { cls:=.type "list",dict:=none,data:=.seq l2.toArray c2,slots := #[] }->Kept P bt (j+1) l2 ->
    codeAny (model prog w) A (.builtin "min.loop" ⟨[.ref I,.none,.ref S],[]⟩) R { s with heap:=h2,toks:=tk }:=λh2 l2 c2 hk2 hS2 hl2 =>
    ih (j+1) _ l2 c2 hn ∅ (λb o e=>hk2 b o (n0 e).2 (k1 b o e)) (W.frame _ _ _ hst' λb hbf o e=>hk2 b o (λz=>hSf (z▸hbf)) e) hl2 hS2 λv' h'' tk'' hP' hk''=>hR v' h'' tk'' hP' λb o hbw hbS e=>hk'' b o hbw hbS (hk2 b o hbS (hk' b o hbw e))
   cases j with
   | zero =>
     cases hl;show wpAny _ A.in1 (updateSeq S (λ_ => #[v,v]) >>= _) _ _ _;refine ah (wJ hS' rfl ?_);rw [tJ]
     exact aJ ⟨oY F.plain_min_loop _,again _ [v,v] _ (λb o hb e=>up hb e) (gI _ hS' rfl) ⟨v,rfl,hP⟩⟩
   | succ j =>
     obtain ⟨u,rfl,hu⟩:=hl;show wpAny _ A.in1 (tryCatch (holding [v,v] (richCompare .Lt v u >>= _)) _ >>= _) _ _ _;refine ah (yg (eC (ah (hcmp (j+1) (argBest bt j) v u _ _ _ k1 hP hu ∅ (by have:=best_lt j;lia) ?_))));refine ah (eC (cM (ah (iD (aJ ?_)))))
     cases hb:bt (j+1) (argBest bt j) with
     | true =>
       rw [if_pos rfl];refine ah (wJ hS' rfl (ah (iD ?_)));rw [tJ]
       exact aJ ⟨oY F.plain_min_loop _,again _ [v,v] _ (λb o hb e=>up hb e) (gI _ hS' rfl) ⟨v,rfl,by simp only [argBest,hb,if_true];exact hP⟩⟩
     | false =>
       rw [if_neg ⇑0];refine ah (iD ?_);rw [tJ];exact aJ ⟨oY F.plain_min_loop _,again _ [u,u] c (λb o _ e=>e) hS' ⟨u,rfl,by simp only [argBest,hb,dq,if_false];exact hu⟩⟩
end
def ux {prog:aR} {w:bB} {A:bo} {E:ag->aj->Prop} {s:aj} {x:ag} {Q:ag->aj->Prop}
 (h:wpAny (model prog w) A.in1 (pyIter x) (λit s₂=>∃ I fp wr n P St bt,∃ h0:bH,it = .ref I/\Walks prog w A.in1 I fp wr n P St/\St 0 s₂.heap/\(∀ b∈fp,b < s₂.heap.objs.size)/\0 < n/\(∀ b∈wr,h0.get? b = none)/\(∀ b o,h0.get? b = some o->s₂.heap.get? b = some o) /\
   (∀ i j vi vj (s:aj) (Q:ag->aj->Prop) (E:ag->aj->Prop),(∀ b o,h0.get? b = some o->s.heap.get? b = some o)->P i vi->P j vj->i < n->j < n->Q (.bool (bt i j)) s->wpAny (model prog w) A.in1 (richCompare .Lt vi vj) Q E s) /\
   ∀ v h' tk,P (argBest bt (n - 1)) v->(∀ b o,b∉wr->s₂.heap.get? b = some o->h'.get? b = some o)->Q v { s₂ with heap:=h',toks:=tk }) E s) :
 wpAny (model prog w) A (call (.builtin "min") [x]) Q E s:=by
 refine call_function_tree F.kind_min F.plain_min F.entry_min (F.args_min1 _) ?_;show wpAny _ A.in1 (lq "min" ["key","default"] 0 ⟨[],[]⟩ >>= _) _ _ s;refine ah (wpAny_of_eq (show lq "min" ["key","default"] 0 ⟨[],[]⟩ = pure [none,none] from rfl) ?_);refine ah (aJ (ah (cg h (λit s₂ h₂=>?_) λ_ _ e=>e)));obtain ⟨I,fp,wr,n,P,St,bt,h0,rfl,W,hst,hfp,hn,hw,hk0,hcmp,hQ⟩:=h₂;refine ah (cN ?_);have hSf:s₂.heap.objs.size∉fp:=λhm=>bV _ (hfp _ hm)
 have hS0:h0.get? s₂.heap.objs.size = none:=by
  cases e:h0.get? s₂.heap.objs.size with
  | none=>rfl
  | some o=>exact absurd (aH (hk0 _ _ e)) (bV _)
 rw [tJ];refine aJ ⟨oY F.plain_min_loop _,Ie W hw hcmp hSf hS0 n 0 _ [] _ hn ∅ (λb o e=>ao _ (hk0 b o e)) (W.frame _ _ _ hst λb _ o e=>ao _ e) rfl (aS _ rfl) λv h' tk hP hk=>?_⟩;exact hQ v h' tk hP λb o hbw e=>hk b o hbw (aQ (aH e)) (ao _ e)
def argBest_lt (bt:Nat->Nat->Bool):∀ j,argBest bt j<=j
 | 0=>aA _
 | j+1=>by
   have:=argBest_lt bt j;unfold argBest;split<;>lia
def Bh {X:Cx} [Tbs] (hc:X.calm = true) (hu:X.A.units+200 < cLine):bU X (.builtin "min") (λxs H Q=>∃ F ds v,xs = [v]/\cX X.K H F (.lst ds) v/\ds≠[]/\(ds.all λx=>ds.all λy=>(iX x y).isSome) = true/\∀ y,RelM false X.K H F (ds.getD (argBest (fR ds) (ds.length - 1)) .non) y->Q y H):=by
 intro pins s σ H xs us Q I r h;obtain ⟨F,ds,v,rfl,rb,hne,hs,q⟩:=h;obtain ⟨a,ws,rfl,hl,rl⟩:=rb.lst;obtain ⟨u,rfl,rx⟩:=vals1 r;cases rx;obtain ⟨its,n,rv,ho,hz⟩:=hl.obj I;have lt2:∀ x∈ds,∀ y∈ds,∃ k,iX x y = some k:=λx hx y hy=>je.mp (aW.mp (aW.mp hs x hx) y hy)
 have hd:cb ds < 100000:=um λx hx=>by
  obtain ⟨k,e⟩:=lt2 x hx x hx;unfold iX at e;split at e
  . rename_i z;lia
  . cases e
 have rd:=mR I ds ws its rl rv hd;have l1:=rl.length;have l2:=rv.length;have l3:its.length = ds.length:=by lia
 have hpos:0 < ds.length:=iz.mpr hne;have isl:s.heap.IsList a its.toArray:=⟨_,ho,rfl,n,rfl⟩;have hlt:a < s.heap.objs.size:=aH ho;have hsz:its.toArray.size = ds.length:=by rw [aF,l3]
 have mem:∀ i,i < ds.length->ds.getD i .non∈ds:=λi hi=>by
  rw [bN,aB hi];exact bS hi
 have at_:∀ i v,its.toArray[i]? = some v->its.getD i cZ = v:=λi v e=>by
  have e:its[i]? = some v:=by simpa using e
  rw [bN,e];rfl
 have new:s.heap.get? s.heap.objs.size = none:=by
  cases e:s.heap.get? s.heap.objs.size with
  | none=>rfl
  | some o=>exact absurd (aH e) (bV _)
 refine ux (dP isl ?_)
 refine ⟨s.heap.objs.size,[s.heap.objs.size,a],[s.heap.objs.size],its.toArray.size,_,_,fR ds,s.heap,rfl,mE (A:=X.A.in1) (I.ok.hd hc) s.heap.objs.size a (aQ hlt) its.toArray,
  ⟨⟨_,aS _ rfl,rfl,rfl⟩,?_⟩,λb hb=>?_,by rw [hsz];exact hpos,λb hb=>?_,λb o e=>ao _ e,λi j vi vj s2 Q2 E2 hk hi hj li lj q2=>?_,λv h' tk hv hk=>?_⟩
 . obtain ⟨o,e,r⟩:=isl;exact ⟨o,ao _ e,r⟩
 . have:b = s.heap.objs.size\/b = a:=by simpa using hb
   show b < (s.heap.push _).objs.size;rw [cV];rcases this with rfl | rfl
   . exact qA _
   . exact eZ hlt
 . rw [aC.mp hb];exact new
 . rw [hsz] at li lj;obtain ⟨k,e⟩:=lt2 _ (mem i li) _ (mem j lj);have ri:=RdV.keep hk _ _ (RdL.nth i rd li);have rj:=RdV.keep hk _ _ (RdL.nth j rd lj);rw [at_ i vi hi] at ri;rw [at_ j vj hj] at rj;have eb:fR ds i j = k:=by unfold fR;rw [e];rfl
   rw [eb] at q2;unfold iX at e;split at e
   . exact tL _ _ X.A.in1 s2 vi vj k ri rj (by show X.A.units+1+_+1 < _;lia) e X.prog X.w E2 Q2 q2
   . cases e
 . have hlt:argBest (fR ds) (ds.length - 1) < ds.length:=by
    have:=argBest_lt (fR ds) (ds.length - 1)
    lia
   rw [hsz] at hv;have hv':=at_ _ _ hv
   have hd1:ds[argBest (fR ds) (ds.length - 1)]? = some (ds.getD (argBest (fR ds) (ds.length - 1)) .non):=by
    rw [bN,aB hlt];rfl
   obtain ⟨y,e1,r1⟩:=rl.get hd1
   have rvy:RelV y v:=by
    have h1:its[argBest (fR ds) (ds.length - 1)]? = some v:=by simpa using hv
    obtain ⟨u,e2,r2⟩:=Vals.get rv e1;rw [h1] at e2;cases e2;exact r2
   exact ⟨y,H,I.kept (h':=h') (t':=tk) λb o e=>hk b o (by simp;exact aQ (aH e)) (ao _ e),rvy,q y r1⟩
end PP
end
section
namespace PP
open PySem L2 PyProof.Rows
variable [Tbs]
section
variable {K:PySem.W.Frag} {cx:Cl} {X:Cx}
def fB (r:Rel K H F d v):RelM false K H F d v:=r
def rC (K:PySem.W.Frag) (op:Cop):R2:=λx y H Q=>∃ F a b k,cX K H F a x/\cX K H F b y/\jT op a b = some k/\Q (.bl k) H
def Ll (h:Lm p a b = some k):∃ i j,a = .int i/\b = .int j/\k = p i j:=by
 unfold Lm at h;split at h
 . cases h;exact ⟨_,_,rfl,rfl,rfl⟩
 . cases h
def Jr (h:inD a b = some k):(∃ ds,(b = .lst ds\/b = .tup ds)/\(dep a<=150/\cb ds < 99999)/\k = ds.any λy=>eqD y a)\/∃ x y,a = .str x/\b = .str y/\k = LH y x:=by
 unfold inD at h;split at h
 . split at h
   . cases h;exact .inl ⟨_,.inl rfl,‹_›,rfl⟩
   . cases h
 . split at h
   . cases h;exact .inl ⟨_,.inr rfl,‹_›,rfl⟩
   . cases h
 . split at h
   . cases h;exact .inr ⟨_,_,rfl,rfl,rfl⟩
   . cases h
 . cases h
def tq:OpR X (compareOp .NotIn) (λx y H Q=>∃ i j,x = .str i/\y = .str j/\Q (.bl (!LH j i)) H):=by
 intro pins s σ H x y v u Q I rx ry h;obtain ⟨i,j,rfl,rfl,q⟩:=h;obtain ⟨t,rfl⟩:=rx;obtain ⟨t',rfl⟩:=ry;exact PySem.P.notIn_str ⟨.bl _,H,I,rfl,q⟩
def OpR.imp (h:OpR X f r) (w:∀ x y H Q,r' x y H Q->r x y H Q):OpR X f r':=λpins s σ H x y v u Q I rx ry q=>h pins s σ H x y v u Q I rx ry (w _ _ _ _ q)
def Lv:OpR X (compareOp .Is) (λx y H Q=>∃ i j,x = .bl i/\y = .bl j/\Q (.bl (i == j)) H):=by
 intro pins s σ H x y v u Q I rx ry h;obtain ⟨i,j,rfl,rfl,q⟩:=h;cases rx;cases ry;exact PyProof.Rows.is_bool ⟨.bl _,H,I,rfl,q⟩
def HP:OpR X (compareOp .IsNot) (λx y H Q=>∃ i j,x = .bl i/\y = .bl j/\Q (.bl (!(i == j))) H):=by
 intro pins s σ H x y v u Q I rx ry h;obtain ⟨i,j,rfl,rfl,q⟩:=h;cases rx;cases ry;exact PyProof.Rows.isnot_bool ⟨.bl _,H,I,rfl,q⟩
def Jq (h:isD a b = some k) (ra:cX K H F a x) (rb:cX K H F b y):(y = .non/\k = decide (x = .non))\/∃ i j,x = .bl i/\y = .bl j/\k = (i == j):=by
 cases b<;>first | (cases h;done) | skip
 rotate_left
 . cases a<;>first | (cases h;done) | skip
   cases h;refine .inr ⟨_,_,?_,?_,rfl⟩
   . rcases ra with r | ⟨_,_,_,e,_⟩
     . unfold Rel at r;exact r
     . cases e
   . rcases rb with r | ⟨_,_,_,e,_⟩
     . unfold Rel at r;exact r
     . cases e
 cases h;refine .inl ⟨?_,?_⟩
 . rcases rb with r | ⟨_,_,_,e,_⟩
   . unfold Rel at r;exact r
   . cases e
 . rcases ra with r | ⟨_,_,_,rfl,rfl,_⟩
   . cases a<;>unfold Rel at r<;>first | (subst r;rfl) | (obtain ⟨_,_,rfl,_⟩:=r;rfl) | exact r.elim
   . rfl
def Ot (h:leD a b = some k):(∃ i j,a = .int i/\b = .int j/\k = decide (i<=j))\/∃ i j,a = .str i/\b = .str j/\k = !decide (j.cps.toList < i.cps.toList):=by
 unfold leD at h;split at h
 . cases h;exact .inl ⟨_,_,rfl,rfl,rfl⟩
 . cases h;exact .inr ⟨_,_,rfl,rfl,rfl⟩
 . cases h
def AH:OpR X (compareOp .LtE) (λx y H Q=>∃ i j,x = .str i/\y = .str j/\Q (.bl (!decide (j.cps.toList < i.cps.toList))) H):=by
 intro pins s σ H x y v u Q I rx ry h;obtain ⟨i,j,rfl,rfl,q⟩:=h;obtain ⟨t,rfl⟩:=rx;obtain ⟨t',rfl⟩:=ry;exact PySem.P.le_str ⟨.bl _,H,I,rfl,q⟩
def opC (hu:X.A.units+200 < cLine) (ho:zJ op o = true):OpR X (compareOp o) (rC X.K op):=by
 cases op<;>cases o<;>first | (exact absurd ho ak) | skip
 . exact OpR.imp (Lr hu) λx y H Q ⟨F,a,b,k,ra,rb,e,q⟩=>⟨F,a,b,k,ra,rb,e,q⟩
 . refine OpR.imp (Oe.or AH) λx y H Q zz=>?_;obtain ⟨F,a,b,k,ra,rb,e,q⟩:=zz;rcases Ot e with ⟨i,j,rfl,rfl,rfl⟩ | ⟨i,j,rfl,rfl,rfl⟩
   . exact .inl ⟨i,j,ra.int,rb.int,q⟩
   . exact .inr ⟨i,j,ra.str,rb.str,q⟩
 . refine OpR.imp Of λx y H Q zz=>?_;obtain ⟨F,a,b,k,ra,rb,e,q⟩:=zz;obtain ⟨i,j,rfl,rfl,rfl⟩:=Ll e;exact ⟨i,j,ra.int,rb.int,q⟩
 . refine OpR.imp ((Lx hu).or Og) λx y H Q zz=>?_;obtain ⟨F,a,b,k,ra,rb,e,q⟩:=zz;change (if fU a b = true then some (eqD a b) else if Om a b = true then some false else none) = some k at e;split at e
   . cases e;exact .inl ⟨F,a,b,ra,rb,‹_›,q⟩
   . split at e
     . rename_i hm;cases e;cases a<;>cases b<;>first | (cases hm;done) | skip
       . rw [ra.int,rb.str];exact .inr ⟨rfl,q⟩
       . rw [ra.str,rb.int];exact .inr ⟨rfl,q⟩
     . cases e
 . refine OpR.imp (Lp hu) λx y H Q zz=>?_;obtain ⟨F,a,b,k,ra,rb,e,q⟩:=zz;change (if fU a b = true then some (!eqD a b) else none) = some k at e;split at e
   . cases e;exact ⟨F,a,b,ra,rb,‹_›,q⟩
   . cases e
 . intro pins s σ H x y v u Q I rx ry h;obtain ⟨F,a,b,k,ra,rb,e,q⟩:=h;rcases Jr e with ⟨ds,hb,hd,rfl⟩ | ⟨x',y',rfl,rfl,rfl⟩
   . refine Lw hu pins s σ H x y v u Q I rx ry ⟨F,a,ds,ra,?_,hd,q⟩;rcases hb with rfl | rfl
     . exact .inl rb
     . exact .inr rb
   . exact AI pins s σ H x y v u Q I rx ry ⟨x',y',ra.str,rb.str,q⟩
 . intro pins s σ H x y v u Q I rx ry h;obtain ⟨F,a,b,k,ra,rb,e,q⟩:=h;change (inD a b).map (!·) = some k at e;rw [aL] at e;obtain ⟨k',e,rfl⟩:=e;rcases Jr e with ⟨ds,hb,hd,rfl⟩ | ⟨x',y',rfl,rfl,rfl⟩
   . refine AG hu pins s σ H x y v u Q I rx ry ⟨F,a,ds,ra,?_,hd,q⟩;rcases hb with rfl | rfl
     . exact .inl rb
     . exact .inr rb
   . exact tq pins s σ H x y v u Q I rx ry ⟨x',y',ra.str,rb.str,q⟩
 . refine OpR.imp (Lu.or Lv) λx y H Q zz=>?_;obtain ⟨F,a,b,k,ra,rb,e,q⟩:=zz;rcases Jq e ra rb with ⟨e1,e2⟩ | ⟨i,j,e1,e2,e3⟩
   . exact .inl ⟨e1,e2▸q⟩
   . exact .inr ⟨i,j,e1,e2,e3▸q⟩
 . refine OpR.imp (HL.or HP) λx y H Q zz=>?_;obtain ⟨F,a,b,k,ra,rb,e,q⟩:=zz;change (isD a b).map (!·) = some k at e;rw [aL] at e;obtain ⟨k',e,rfl⟩:=e;rcases Jq e ra rb with ⟨e1,e2⟩ | ⟨i,j,e1,e2,e3⟩
   . exact .inl ⟨e1,e2▸q⟩
   . exact .inr ⟨i,j,e1,e2,e3▸q⟩
def Mv (ev:evE cx (.cmp op a b) δ = some (d,δ')):∃ x δ1 y k,evE cx a δ = some (x,δ1)/\evE cx b δ1 = some (y,δ')/\jT op x y = some k/\d = .bl k:=by
 simp only [evE,af,ae] at ev;obtain ⟨⟨x,δ1⟩,ea,⟨y',δ2⟩,eb,k,hd,e⟩:=ev;cases e;exact ⟨x,δ1,y',k,ea,eb,hd,rfl⟩
def IH (ev:evT cx (.cmp op a b) δ = some (k,δ')):∃ x δ1 y,evE cx a δ = some (x,δ1)/\evE cx b δ1 = some (y,δ')/\jT op x y = some k:=by
 simp only [evT,af,ae] at ev;obtain ⟨⟨x,δ1⟩,ea,⟨y',δ2⟩,eb,k,hd,e⟩:=ev;cases e;exact ⟨x,δ1,y',ea,eb,hd⟩
def GU (hu:X.A.units+200 < cLine) (ho:zJ op o = true) (pc:(!bE a || np b) = true) (ha:PE X y (tE X.K cx a)) (hb:PE X z (tE X.K cx b)) (hm:behindInMarks o z = false) :
 PE X (.Compare y [o] [z] pos) (tE X.K cx (.cmp op a b)):=by
 refine PE.imp (HI (opC hu ho) ha hb hm) λσ H Q h=>?_;obtain ⟨G,F,δ,d,δ',ok,ev,post⟩:=h;obtain ⟨x,δ1,y',k,ea,eb,hd,rfl⟩:=Mv ev;exact two ok ea eb pc λv u H2 F2 st sm ok2 r1 r2=>⟨F2,x,y',k,r1.b,r2.b,hd,post _ H2 F2 st sm ok2 (fB (iW k))⟩
def CS (hu:X.A.units+200 < cLine) (ho:zJ op o = true) (pc:(!bE a || np b) = true) (ha:PE X y (tE X.K cx a)) (hb:PE X z (tE X.K cx b)) (hm:behindInMarks o z = false) :
 PT X (.Compare y [o] [z] pos) (tT X.K cx (.cmp op a b)):=by
 refine PT.imp (Hy (opC hu ho) ha hb hm) λσ H Q h=>?_;obtain ⟨G,F,δ,k,δ',ok,ev,post⟩:=h;obtain ⟨x,δ1,y',ea,eb,hd⟩:=IH ev;exact two ok ea eb pc λv u H2 F2 st sm ok2 r1 r2=>⟨F2,x,y',k,r1.b,r2.b,hd,k,rfl,post H2 F2 st sm ok2⟩
def cW (n:(!bE e) = true) (h:RelM (bE e) K H F d v):Rel K H F d v:=by
 have e1:bE e = false:=by simpa using n
 rw [e1] at h;exact h
def snd_and (na:(!bE a) = true) (nb:(!bE b) = true) (ha:PE X y (tE X.K cx a)) (hb:PE X (.BoolOp .And (z::r) pos) (tE X.K cx b)):PE X (.BoolOp .And (y::z::r) pos) (tE X.K cx (.and a b)):=by
 refine PE.imp (Lj ha hb) λσ H Q h=>?_;obtain ⟨G,F,δ,d,δ',ok,ev,post⟩:=h;simp only [evE,af,ae] at ev;obtain ⟨⟨x,δ1⟩,ea,ev⟩:=ev;refine ⟨G,F,δ,x,δ1,ok,ea,λv H1 F1 st1 sm1 ok1 r1=>?_⟩;replace r1:=cW na r1;have np1:np (.and a b) = (np a && np b):=rfl
 cases x with
 | bl k =>
   unfold Rel at r1;refine ⟨k,r1,?_⟩
   cases k with
   | true =>
     rw [if_pos rfl];refine ⟨G,F1,δ1,d,δ',ok1,ev,λu H2 F2 st2 sm2 ok2 r2=>post u H2 F2 (st1.trans st2) (λn=>?_) ok2 (fB (cW nb r2))⟩;rw [np1,aa] at n
     exact (sm1 n.1).trans (sm2 n.2)
   | false =>
     rw [if_neg ak];cases ev
     exact post _ H1 F1 st1 (λn=>by rw [np1,aa] at n;exact sm1 n.1) ok1 (fB (iW false))
 | _=>cases ev
def CM (na:(!bE a) = true) (nb:(!bE b) = true) (ha:PE X y (tE X.K cx a)) (hb:PE X (.BoolOp .Or (z::r) pos) (tE X.K cx b)):PE X (.BoolOp .Or (y::z::r) pos) (tE X.K cx (.or a b)):=by
 refine PE.imp (Ob ha hb) λσ H Q h=>?_;obtain ⟨G,F,δ,d,δ',ok,ev,post⟩:=h;simp only [evE,af,ae] at ev;obtain ⟨⟨x,δ1⟩,ea,ev⟩:=ev;refine ⟨G,F,δ,x,δ1,ok,ea,λv H1 F1 st1 sm1 ok1 r1=>?_⟩;replace r1:=cW na r1;have np1:np (.or a b) = (np a && np b):=rfl
 cases x with
 | bl k =>
   unfold Rel at r1;refine ⟨k,r1,?_⟩
   cases k with
   | false =>
     rw [if_neg ak];refine ⟨G,F1,δ1,d,δ',ok1,ev,λu H2 F2 st2 sm2 ok2 r2=>post u H2 F2 (st1.trans st2) (λn=>?_) ok2 (fB (cW nb r2))⟩;rw [np1,aa] at n
     exact (sm1 n.1).trans (sm2 n.2)
   | true =>
     rw [if_pos rfl];cases ev
     exact post _ H1 F1 st1 (λn=>by rw [np1,aa] at n;exact sm1 n.1) ok1 (fB (iW true))
 | _=>cases ev
def GI (na:(!bE a) = true) (ha:PE X y (tE X.K cx a)):PE X (.UnaryOp .Not y pos) (tE X.K cx (.not a)):=by
 refine PE.imp (Lg ha) λσ H Q h=>?_;obtain ⟨G,F,δ,d,δ',ok,ev,post⟩:=h;simp only [evE,af,ae] at ev;obtain ⟨⟨x,δ1⟩,ea,ev⟩:=ev;refine ⟨G,F,δ,x,δ1,ok,ea,λv H1 F1 st1 sm1 ok1 r1=>?_⟩;replace r1:=cW na r1
 cases x with
 | bl k =>
   unfold Rel at r1;cases ev
   exact ⟨k,r1,post _ H1 F1 st1 sm1 ok1 (fB (iW _))⟩
 | _=>cases ev
def PT.pw (h:PT X (.BoolOp op vs pos) t):PW X (.BoolOp op vs pos) t:=λ_ pins s σ H Q I q=>h pins s σ H Q I q
def vm (ha:PT X y (tT X.K cx a)) (hb:PW X (.BoolOp .And (z::r) pos) (tT X.K cx b)):PT X (.BoolOp .And (y::z::r) pos) (tT X.K cx (.and a b)):=by
 refine PT.imp (KS ha hb).pt λσ H Q h=>?_;obtain ⟨G,F,δ,d,δ',ok,ev,post⟩:=h;simp only [evT,af,ae] at ev;obtain ⟨⟨k,δ1⟩,ea,ev⟩:=ev;have np1:np (.and a b) = (np a && np b):=rfl;refine ⟨G,F,δ,k,δ1,ok,ea,λH1 F1 st1 sm1 ok1=>?_⟩
 cases k with
 | true =>
   rw [if_pos rfl];refine ⟨G,F1,δ1,d,δ',ok1,ev,λH2 F2 st2 sm2 ok2=>post H2 F2 (st1.trans st2) (λn=>?_) ok2⟩;rw [np1,aa] at n
   exact (sm1 n.1).trans (sm2 n.2)
 | false =>
   rw [if_neg ak];cases ev;exact post H1 F1 st1 (λn=>by rw [np1,aa] at n;exact sm1 n.1) ok1
def yF (ha:PT X y (tT X.K cx a)) (hb:PW X (.BoolOp .Or (z::r) pos) (tT X.K cx b)):PT X (.BoolOp .Or (y::z::r) pos) (tT X.K cx (.or a b)):=by
 refine PT.imp (NZ ha hb).pt λσ H Q h=>?_;obtain ⟨G,F,δ,d,δ',ok,ev,post⟩:=h;simp only [evT,af,ae] at ev;obtain ⟨⟨k,δ1⟩,ea,ev⟩:=ev;have np1:np (.or a b) = (np a && np b):=rfl;refine ⟨G,F,δ,k,δ1,ok,ea,λH1 F1 st1 sm1 ok1=>?_⟩
 cases k with
 | false =>
   rw [if_neg ak];refine ⟨G,F1,δ1,d,δ',ok1,ev,λH2 F2 st2 sm2 ok2=>post H2 F2 (st1.trans st2) (λn=>?_) ok2⟩;rw [np1,aa] at n
   exact (sm1 n.1).trans (sm2 n.2)
 | true =>
   rw [if_pos rfl];cases ev;exact post H1 F1 st1 (λn=>by rw [np1,aa] at n;exact sm1 n.1) ok1
def CQ (ha:PT X y (tT X.K cx a)):PT X (.UnaryOp .Not y pos) (tT X.K cx (.not a)):=by
 refine PT.imp (KU ha) λσ H Q h=>?_;obtain ⟨G,F,δ,d,δ',ok,ev,post⟩:=h;simp only [evT,af,ae] at ev;obtain ⟨⟨k,δ1⟩,ea,ev⟩:=ev;cases ev;exact ⟨G,F,δ,k,δ1,ok,ea,λH1 F1 st1 sm1 ok1=>post H1 F1 st1 sm1 ok1⟩
def GP (na:(!bE a) = true) (nb:(!bE b) = true) (hc:PT X t (tT X.K cx c)) (ha:PE X y (tE X.K cx a)) (hb:PE X z (tE X.K cx b)):PE X (.IfExp t y z pos) (tE X.K cx (.ite c a b)):=by
 refine PE.imp (DN hc ha hb) λσ H Q h=>?_;obtain ⟨G,F,δ,d,δ',ok,ev,post⟩:=h;simp only [evE,af,ae] at ev;obtain ⟨⟨k,δ1⟩,ea,ev⟩:=ev;have np1:np (.ite c a b) = (np c && np a && np b):=rfl;refine ⟨G,F,δ,k,δ1,ok,ea,λH1 F1 st1 sm1 ok1=>?_⟩
 cases k with
 | true =>
   rw [if_pos rfl];refine ⟨G,F1,δ1,d,δ',ok1,ev,λu H2 F2 st2 sm2 ok2 r2=>post u H2 F2 (st1.trans st2) (λn=>?_) ok2 (fB (cW na r2))⟩;rw [np1,aa,aa] at n
   exact (sm1 n.1.1).trans (sm2 n.1.2)
 | false =>
   rw [if_neg ak];refine ⟨G,F1,δ1,d,δ',ok1,ev,λu H2 F2 st2 sm2 ok2 r2=>post u H2 F2 (st1.trans st2) (λn=>?_) ok2 (fB (cW nb r2))⟩;rw [np1,aa,aa] at n;exact (sm1 n.1.1).trans (sm2 n.2)
def Ok.look (ok:Ok K G F σ H δ) (e:get δ i = some d):∃ v,σ[i]? = some (some v)/\cX K H F d v/\∃ F',Step G F H F' H/\Ok K G F' σ H (PP.demote δ i)/\Rel K H F' d v:=by
 unfold get at e
 cases q:δ[i]? with
 | none=>rw [q] at e;cases e
 | some s =>
   rw [q] at e
   cases s with
   | no=>cases e
   | fnc _ _=>cases e
   | odc _ _=>cases e
   | val d' =>
     cases e;obtain ⟨v,e1,r⟩:=ok.sl i _ q;refine ⟨v,e1,.inl r,F,Step.refl,?_,r⟩
     unfold PP.demote;rw [q];exact ok
   | own ds =>
     cases e;obtain ⟨a,xs,e1,h1,h2,h3,h4⟩:=ok.sl i _ q;obtain ⟨o1,o2⟩:=ok.demote (d:=.lst ds) q rfl e1;refine ⟨.ref a,e1,.inr ⟨a,xs,ds,rfl,rfl,h3,h4⟩,λb=>F b/\b≠a,⟨λ_ _ _ z _=>z,λb z=>.inl z.1,λb o r z e=>⟨⟨z,λw=>h2.2 (by rw [<- w];exact r)⟩,e⟩,λ_ ps e=>⟨ps,e⟩⟩,?_,o2⟩;unfold PP.demote;rw [q];exact o1
def Ok.lookV (ok:Ok K G F σ H δ) (e:EN δ i = some d):∃ v,σ[i]? = some (some v)/\∃ F',Step G F H F' H/\Ok K G F' σ H (PP.demote δ i)/\Rel K H F' d v:=by
 unfold EN at e;split at e
 . rename_i ks ds q;cases e;obtain ⟨a,xs,e1,h1,h2,_⟩:=ok.sl i _ q;obtain ⟨o1,o2⟩:=ok.demote (d:=.dct ks ds) q rfl e1;refine ⟨.ref a,e1,λb=>F b/\b≠a,⟨λ_ _ _ z _=>z,λb z=>.inl z.1,λb o r z e=>⟨⟨z,λw=>h2.2 (by rw [<- w];exact r)⟩,e⟩,λ_ ps e=>⟨ps,e⟩⟩,?_,o2⟩;unfold PP.demote;rw [q];exact o1
 . obtain ⟨v,e1,_,h⟩:=ok.look e;exact ⟨v,e1,h⟩
def GC (hN:X.N[i]? = some x) (hv:Vis X.env.scope x) (hd:(x == ("__debug__":Str)) = false) (hcd:(x == ("__classdict__":Str)) = false):PE X (.Name x pos) (tE X.K cx (.var i)):=by
 refine PE.imp (ij hN hv hd hcd) λσ H Q h=>?_;obtain ⟨G,F,δ,d,δ',ok,ev,post⟩:=h;simp only [evE,af,ae] at ev;obtain ⟨d',e1,e⟩:=ev;cases e;obtain ⟨v,ev,F',st,ok',r⟩:=ok.lookV e1;exact ⟨v,ev,post v H F' st (λ_=>Sim.refl H) ok' (fB r)⟩
def Ks (hN:X.N[i]? = some x) (hv:Vis X.env.scope x) (hd:(x == ("__debug__":Str)) = false) (hcd:(x == ("__classdict__":Str)) = false):PE X (.Name x pos) (tE X.K cx (.pk i)):=by
 refine PE.imp (ij hN hv hd hcd) λσ H Q h=>?_;obtain ⟨G,F,δ,d,δ',ok,ev,post⟩:=h;simp only [evE,af,ae] at ev;obtain ⟨d',e1,e⟩:=ev;cases e;obtain ⟨v,ev,rb,_⟩:=ok.look e1;exact ⟨v,ev,post v H F Step.refl (λ_=>Sim.refl H) ok rb⟩
def xo (r:cX K H F d v) (e:tv d = some k):MR K v H k:=by
 cases d with
 | non=>cases e;rcases r with r | ⟨_,_,_,z,_⟩;(unfold Rel at r;subst r;rfl);cases z
 | bl b=>cases e;have:=r.bl;subst this;rfl
 | int i=>cases e;have:=r.int;subst this;rfl
 | str x =>
   change (if x.length<=sizeLine then some ((x.length:Int) != 0) else none) = some k at e;split at e
   . cases e;have:=r.str;subst this;exact ⟨‹_›,rfl⟩
   . cases e
 | lst ds =>
   cases e;obtain ⟨a,xs,rfl,h1,h2⟩:=r.lst;refine .inl ⟨xs,h1.sq,?_⟩;have:=h2.length
   cases ds<;>cases xs<;>first | rfl | (simp at this)
 | tup ds =>
   cases e;obtain ⟨a,xs,rfl,h1,h2⟩:=r.tup;refine .inr (.inl ⟨xs,h1,?_⟩);have:=h2.length
   cases ds<;>cases xs<;>first | rfl | (simp at this)
 | fn _ _=>cases e
 | dct _ _=>cases e
def vh (he:e = .var i\/e = .pk i) (hN:X.N[i]? = some x) (hv:Vis X.env.scope x) (hd:(x == ("__debug__":Str)) = false) (hcd:(x == ("__classdict__":Str)) = false):PT X (.Name x pos) (tT X.K cx e):=by
 refine PT.imp (pO (ij hN hv hd hcd) λ_=>rfl) λσ H Q h=>?_;obtain ⟨G,F,δ,k,δ',ok,ev,post⟩:=h
 have ev':∃ d,get δ i = some d/\tv d = some k/\δ = δ':=by
  rcases he with rfl | rfl
  . simp only [evT,af,ae] at ev;obtain ⟨d,e1,k',e2,e⟩:=ev;cases e;exact ⟨d,e1,e2,rfl⟩
  . simp only [evT,af,ae] at ev;obtain ⟨d,e1,k',e2,e⟩:=ev;cases e;exact ⟨d,e1,e2,rfl⟩
 obtain ⟨d,e1,e2,rfl⟩:=ev';obtain ⟨v,ev,rb,_⟩:=ok.look e1;exact ⟨v,ev,k,xo rb e2,post H F Step.refl (λ_=>Sim.refl H) ok⟩
def GQ:PE X (.Constant (.int i) j pos) (tE X.K cx (.int i)) :=
 PE.imp DM λσ H Q ⟨G,F,δ,d,δ',ok,ev,post⟩=>by cases ev;exact post _ H F Step.refl (λ_=>Sim.refl H) ok (fB (cw i))
def Kw:PE X (.Constant (.bool i) j pos) (tE X.K cx (.bl i)) :=
 PE.imp Od λσ H Q ⟨G,F,δ,d,δ',ok,ev,post⟩=>by cases ev;exact post _ H F Step.refl (λ_=>Sim.refl H) ok (fB (iW i))
def GF:PE X (.Constant (.str i) j pos) (tE X.K cx (.str i)) :=
 PE.imp DJ λσ H Q ⟨G,F,δ,d,δ',ok,ev,post⟩=>by cases ev;exact post _ H F Step.refl (λ_=>Sim.refl H) ok (fB (jz i))
def GJ:PE X (.Constant .none j pos) (tE X.K cx .non) :=
 PE.imp Lh λσ H Q ⟨G,F,δ,d,δ',ok,ev,post⟩=>by cases ev;exact post _ H F Step.refl (λ_=>Sim.refl H) ok (fB yI)
def CN (hg:Gl X x) (hm:X.mg x = some u) (r:RelV v u) (hr:∀ d,cx.gl[g]? = some d->∀ H F,Rel X.K H F d v) (hd:(x == ("__debug__":Str)) = false):PE X (.Name x pos) (tE X.K cx (.glob g)):=by
 refine PE.imp (HF hg hm r hd) λσ H Q h=>?_;obtain ⟨G,F,δ,d,δ',ok,ev,post⟩:=h;simp only [evE,af,ae] at ev;obtain ⟨d',e1,e⟩:=ev;cases e;exact post v H F Step.refl (λ_=>Sim.refl H) ok (fB (hr d e1 H F))
def GK (n:(!bE a) = true) (ha:PE X y (tE X.K cx a)):PE X (.UnaryOp .USub y pos) (tE X.K cx (.neg a)):=by
 refine PE.imp (Oa Ki ha) λσ H Q h=>?_;obtain ⟨G,F,δ,d,δ',ok,ev,post⟩:=h;simp only [evE,af,ae] at ev;obtain ⟨⟨x,δ1⟩,ea,ev⟩:=ev
 cases x with
 | int i =>
   cases ev;refine ⟨G,F,δ,_,_,ok,ea,λv H1 F1 st sm ok1 r=>?_⟩;have:=r.b.int;subst this
   exact ⟨i,rfl,post _ H1 F1 st sm ok1 (fB (cw _))⟩
 | _=>cases ev
end
section
variable {K:PySem.W.Frag} {cx:Cl} {X:Cx}
def oo:PA X [] (tEs X.K cx .nil):=by
 refine λpos pins s σ H Q I h=>jC pos pins s σ H Q I ?_;obtain ⟨G,F,δ,ds,δ',ok,ev,post⟩:=h;simp only [eh] at ev;cases ev;exact post [] H F Step.refl (λ_=>Sim.refl H) ok ⟨rfl,rfl⟩
def lU (pc:(!bE a || npS es) = true) (ha:PE X y (tE X.K cx a)) (hr:PA X ys (tEs X.K cx es)) (hs:starEach (y::ys) X.env = (false,eval y X.env)::starEach ys X.env):PA X (y::ys) (tEs X.K cx (.cons a es)):=by
 refine λpos pins s σ H Q I h=>fb ha hr hs pos pins s σ H Q I ?_;obtain ⟨G,F,δ,ds,δ',ok,ev,post⟩:=h;simp only [eh,af,ae] at ev;obtain ⟨⟨x,δ1⟩,ea,⟨ds',δ2⟩,eb,e⟩:=ev;cases e;refine ⟨G,F,δ,x,δ1,ok,ea,λv H1 F1 st1 sm1 ok1 r1=>⟨G,F1,δ1,ds',δ2,ok1,eb,λvs H2 F2 st2 sm2 ok2 r2=>?_⟩⟩;refine post (v::vs) H2 F2 (st1.trans st2) (λz=>?_) ok2 ⟨x,ds',v,vs,rfl,rfl,RelM.step ok1.fd st2 (λz=>sm2 (by rw [z] at pc;simpa using pc)) r1,r2⟩;have z':(np a && npS es) = true:=z;rw [aa] at z';exact (sm1 z'.1).trans (sm2 z'.2)
def nQ.rl:∀ {es:Es} {ds:List D} {vs:List V},jE es = true->nQ K H F es ds vs->aK K H F ds vs
 | .nil,ds,vs,_,h=>by obtain ⟨rfl,rfl⟩:=h;exact aK.nil
 | .cons e es,ds,vs,n,h=>by
   obtain ⟨d,ds',v,vs',rfl,rfl,h1,h2⟩:=h;have n':(!bE e && jE es) = true:=n;rw [aa] at n';exact aK.cons (cW n'.1 h1) (nQ.rl n'.2 h2)
def wF (K:PySem.W.Frag) (H:Hp) (F:au->Prop):List D->List V->Prop
 | [],vs=>vs = []
 | d::ds,vs=>∃ v vs',vs = v::vs'/\cX K H F d v/\wF K H F ds vs'
def nQ.bl:∀ {es:Es} {ds:List D} {vs:List V},nQ K H F es ds vs->wF K H F ds vs
 | .nil,ds,vs,h=>by obtain ⟨rfl,rfl⟩:=h;rfl
 | .cons e es,ds,vs,h=>by
   obtain ⟨d,ds',v,vs',rfl,rfl,h1,h2⟩:=h;exact ⟨v,vs',rfl,h1.b,nQ.bl h2⟩
def vU {f:List D->Option D} {es:Es} {δ δ':Loc} {d:D} (ev:(do let (ds,δ1) <- eh cx es δ;return (<- f ds,δ1)) = some (d,δ')):∃ ds,eh cx es δ = some (ds,δ')/\f ds = some d:=by
 simp only [af,ae] at ev;obtain ⟨⟨ds,δ1⟩,ea,d',hd,e⟩:=ev;cases e;exact ⟨ds,ea,hd⟩
def GD (n:jE es = true) (h:PA X xs (tEs X.K cx es)):PE X (.Tuple xs k pos) (tE X.K cx (.tup es)):=by
 refine PE.imp (xE h) λσ H Q h=>?_;obtain ⟨G,F,δ,d,δ',ok,ev,post⟩:=h;simp only [evE,af,ae] at ev;obtain ⟨⟨ds,δ1⟩,ea,ev⟩:=ev;split at ev
 . rename_i hz;cases ev;refine ⟨G,F,δ,ds,δ1,ok,ea,λvs H1 F1 st1 sm1 ok1 r1=>?_⟩;have r:=r1.rl n;refine ⟨by rw [r.length];exact hz,λp hp=>?_⟩;obtain ⟨o1,o2,o3,o4⟩:=ok1.laid hp (.tup vs);exact post _ _ _ (st1.trans o2) (λz=>(sm1 z).trans o3) o1 (fB (ig ok1 hp r))
 . cases ev
def GO (n:jE es = true) (h:PA X xs (tEs X.K cx es)):PE X (.List xs pos) (tE X.K cx (.lst es)):=by
 refine PE.imp (xF h) λσ H Q h=>?_;obtain ⟨G,F,δ,d,δ',ok,ev,post⟩:=h;simp only [evE,af,ae] at ev;obtain ⟨⟨ds,δ1⟩,ea,ev⟩:=ev;split at ev
 . rename_i hz;cases ev;refine ⟨G,F,δ,ds,δ1,ok,ea,λvs H1 F1 st1 sm1 ok1 r1=>?_⟩;have r:=r1.rl n;refine ⟨by rw [r.length];exact hz,λp hp=>?_⟩;obtain ⟨o1,o2,o3,o4⟩:=ok1.laid hp (.lst vs);exact post _ _ _ (st1.trans o2) (λz=>(sm1 z).trans o3) o1 (fB (lF ok1 hp r))
 . cases ev
def aK.at {H:Hp} {F:au->Prop} {ds:List D} {xs:List V} {i:Int} {d:D} (h:aK K H F ds xs) (e:atI ds i = some d):∃ v,atI xs i = some v/\Rel K H F d v:=by
 unfold atI at e |-;rw [h.length]
 cases q:ixN ds.length i with
 | none=>rw [q] at e;cases e
 | some j =>
   rw [q] at e;exact h.get e
def Ku (pc:(!bE a || np b) = true) (ha:PE X y (tE X.K cx a)) (hb:PE X z (tE X.K cx b)) (hp:PlainIx z):PE X (.Subscript y z pos) (tE X.K cx (.ix a b)):=by
 refine PE.imp (Oc LZ ha hb hp) λσ H Q h=>?_;obtain ⟨G,F,δ,d,δ',ok,ev,post⟩:=h;simp only [evE,af,ae] at ev;obtain ⟨⟨x,δ1⟩,ea,⟨y',δ2⟩,eb,d',hd,e⟩:=ev;cases e;dsimp only at eb hd post;refine two ok ea eb pc λv u H2 F2 st sm ok2 r1 r2=>?_;unfold ixD at hd;split at hd
 . have e2:=r2.b.int;obtain ⟨p,xs,e1,h1,h2⟩:=r1.b.lst;obtain ⟨w,hw,rw'⟩:=h2.at hd;exact .inl ⟨p,xs,_,w,e1,e2,h1.sq,hw,post _ _ _ st sm ok2 (fB rw')⟩
 . have e2:=r2.b.int;obtain ⟨p,xs,e1,h1,h2⟩:=r1.b.tup;obtain ⟨w,hw,rw'⟩:=h2.at hd;exact .inr (.inl ⟨p,xs,_,w,e1,e2,h1,hw,post _ _ _ st sm ok2 (fB rw')⟩)
 . have e2:=r2.b.int;have e1:=r1.b.str;split at hd
   . rename_i hz;rw [aL] at hd;obtain ⟨c,hc,rfl⟩:=hd;exact .inr (.inr ⟨_,_,c,e1,e2,hz,hc,post _ _ _ st sm ok2 (fB (jz _))⟩)
   . cases hd
 . cases hd
def Jd (h:∀ e,o = .yes e->∃ y,l = some y/\(!bE e) = true/\PE X y (tE X.K cx e)) (hn:o = .no->l = none):PO X l (tO X.K cx o):=by
 cases o with
 | no =>
   rw [hn rfl];intro pins s σ H Q I q;refine HB pins s σ H Q I ?_;obtain ⟨G,F,δ,d,δ',ok,ev,post⟩:=q;simp only [evO] at ev;cases ev
   exact post H F Step.refl (λ_=>Sim.refl H) ok
 | yes e =>
   obtain ⟨y,rfl,n,hy⟩:=h e rfl;intro pins s σ H Q I q;refine HA hy pins s σ H Q I ?_;obtain ⟨G,F,δ,d,δ',ok,ev,post⟩:=q;simp only [evO,af,ae] at ev;obtain ⟨⟨x,δ1⟩,ea,ev⟩:=ev
   cases x with
   | int i =>
     cases ev
     exact ⟨G,F,δ,.int i,δ',ok,ea,λv H1 F1 st1 sm1 ok1 r1=>⟨i,by have:=cW n r1;unfold Rel at this;exact this,post H1 F1 st1 sm1 ok1⟩⟩
   | _=>cases ev
def Kr {a:E} {lo hi:Eo} {y:aI} {l h:Option aI} {pos p2:Pos} (pc:(!bE a || (npO lo && npO hi)) = true) (ha:PE X y (tE X.K cx a)) (hl:PO X l (tO X.K cx lo)) (hh:PO X h (tO X.K cx hi)):PE X (.Subscript y (.Slice l h none p2) pos) (tE X.K cx (.sl a lo hi)):=by
 refine PE.imp (vx (yG.or (Ky.or Kz)) ha hl hh) λσ H Q h=>?_;obtain ⟨G,F,δ,d,δ',ok,ev,post⟩:=h;simp only [evE,af,ae] at ev;obtain ⟨⟨x,δ1⟩,ea,⟨l',δ2⟩,eb,⟨h',δ3⟩,ec,d',hd,e⟩:=ev;cases e;dsimp only at eb ec hd post;refine ⟨G,F,δ,x,δ1,ok,ea,λv H1 F1 st1 sm1 ok1 r1=>⟨G,F1,δ1,l',δ2,ok1,eb,λH2 F2 st2 sm2 ok2=>⟨G,F2,δ2,h',δ3,ok2,ec,λH3 F3 st3 sm3 ok3=>?_⟩⟩⟩;have st:=st2.trans st3
 have rb:cX X.K H3 F3 x v:=by
  refine (RelM.step ok1.fd st (λz=>?_) r1).b;rw [z] at pc;have pc':(npO lo && npO hi) = true:=by simpa using pc
  rw [aa] at pc';exact (sm2 pc'.1).trans (sm3 pc'.2)
 have fin:∀ w H4,fI H3 H4->Ok X.K G F3 σ H4 δ3->Rel X.K H4 F3 d w->Q w H4:=λw H4 s4 o4 r4=>post w H4 F3 ((st1.trans st).trans (Step.of_same s4)) (λz=>by
  have z':(np a && npO lo && npO hi) = true:=z;rw [aa,aa] at z';exact (((sm1 z'.1.1).trans (sm2 z'.1.2)).trans (sm3 z'.2)).trans (.of s4)) o4 (fB r4)
 unfold slD at hd;split at hd
 . cases hd;obtain ⟨p,xs,e1,h1,h2⟩:=rb.lst;refine .inl ⟨p,xs,e1,h1.sq,λq hq=>?_⟩;obtain ⟨o1,o2,o3,o4⟩:=ok3.laid hq (.lst (qJ xs l' h'));exact fin _ _ (cC hq _) o1 (lF ok3 hq (h2.cut l' h'))
 . split at hd
   . cases hd
   . rename_i hw;cases hd;obtain ⟨p,xs,e1,h1,h2⟩:=rb.tup;refine .inr (.inl ⟨p,xs,e1,h1,by rw [h2.length];exact hw,λq hq=>?_⟩);obtain ⟨o1,o2,o3,o4⟩:=ok3.laid hq (.tup (qJ xs l' h'));exact fin _ _ (cC hq _) o1 (ig ok3 hq (h2.cut l' h'))
 . split at hd
   . cases hd;have e1:=rb.str;subst e1;exact .inr (.inr ⟨_,rfl,‹_›,fin _ _ (λb o e=>e) ok3 (jz _)⟩)
   . cases hd
 . cases hd
def spF (K:PySem.W.Frag) (f:List D->Option D):Sp:=λvs H Q _=>∃ F ds d,FD F H/\TF F/\kZ H/\aK K H F ds vs/\f ds = some d/\∀ v H',Sim H H'->kZ H'->Rel K H' F d v->Q v H'
def CP {f:Nat} {es:Es} {x:Str} {y:aI} {ys:List aI} {k:Nat} {a:au} {fd:dQ} {ps:List Str} {p pos:Pos} (n:jE es = true) (fn:gh X.prog X.w X.K X.mg X.base CX0 k a fd ps (spF X.K (cx.call f))) (hr:ke k X.A) (hg:Gl X x)
 (hm:X.mg x = some (.ref a)) (hk:PySem.W.keepIn X.K (.ref a) = true) (hb:Binds X.K fd ps []) (hA:PA X (y::ys) (tEs X.K cx es)) (hd:(x == ("__debug__":Str)) = false) (he:starEach (y::ys) X.env = (false,eval y X.env)::starEach ys X.env) (hpl:(backTo pos (starEach ys X.env)).any (·.1) = false) :
 PE X (.Call (.Name x p) (y::ys) [] pos) (tE X.K cx (.call f es)):=by
 refine PE.imp (yQ fn hr hg hm hk hb .nil (Jj) hA hd he hpl) λσ H Q h=>?_;obtain ⟨G,F,δ,d,δ',ok,ev,post⟩:=h;simp only [evE] at ev;obtain ⟨ds,ea,hd⟩:=vU ev;refine ⟨G,F,δ,ds,δ',ok,ea,λvs H1 F1 st1 sm1 ok1 r1=>?_⟩;show spF X.K (cx.call f) (vs++[]) H1 Q E0;rw [cq];exact ⟨F1,ds,d,ok1.fd,ok1.tf,ok1.tabs,r1.rl n,hd,λv H2 s2 t2 r2=>post v H2 F1 (st1.trans (ok1.call s2 t2).2) (λz=>(sm1 z).trans s2) (ok1.call s2 t2).1 (fB r2)⟩
def ox {e:E} {x:aI} {es:Es} {f:List D->Option D} (hE:PE X x (tE X.K cx e)) (he:∀ whole,isTrue x X.env whole = (do let v <- whole;standAt x.pos;holding [v] (truthy v))) (n:bE e = false)
 (e1:∀ δ,evE cx e δ = (do let (ds,δ1) <- eh cx es δ;return (<- f ds,δ1))) (e2:∀ δ,evT cx e δ = (do let (ds,δ1) <- eh cx es δ;let d <- f ds;return (<- tv d,δ1))):PT X x (tT X.K cx e):=by
 refine PT.imp (pO hE he) λσ H Q h=>?_;obtain ⟨G,F,δ,k,δ',ok,ev,post⟩:=h;rw [e2] at ev;simp only [af,ae] at ev;obtain ⟨⟨ds,δ1⟩,ea,d,hd,k',hk,e⟩:=ev;cases e;refine ⟨G,F,δ,d,δ1,ok,?_,λv H1 F1 st1 sm1 ok1 r1=>⟨k,xo r1.b hk,post H1 F1 st1 sm1 ok1⟩⟩;rw [e1];simp only [af,ae];exact ⟨(ds,δ1),ea,d,hd,rfl⟩
def vk (hE:PE X x (tE X.K cx e)) (he:∀ whole,isTrue x X.env whole = (do let v <- whole;standAt x.pos;holding [v] (truthy v))) (e2:∀ δ k δ',evT cx e δ = some (k,δ')->∃ d,evE cx e δ = some (d,δ')/\tv d = some k):PT X x (tT X.K cx e) :=
 PT.imp (pO hE he) λσ H Q ⟨G,F,δ,k,δ',ok,ev,post⟩=>let ⟨d,e1,e3⟩:=e2 _ _ _ ev;⟨G,F,δ,d,δ',ok,e1,λv H1 F1 st1 sm1 ok1 r1=>⟨k,xo r1.b e3,post H1 F1 st1 sm1 ok1⟩⟩
def rB (K:PySem.W.Frag) (f:List D->Option D):List V->Hp->VK->Prop:=λxs H Q=>∃ F ds d,FD F H/\wF K H F ds xs/\f ds = some d/\∀ v H',fI H H'->Rel K H' F d v->Q v H'
def bU.imp {f:ag} {r r':List V->Hp->VK->Prop} (h:bU X f r) (w:∀ xs H Q,r' xs H Q->r xs H Q):bU X f r':=λpins s σ H xs us Q I rv q=>h pins s σ H xs us Q I rv (w _ _ _ q)
def b1 (h:wF K H F [d] xs):∃ v,xs = [v]/\cX K H F d v:=by
 obtain ⟨v,vs,rfl,h1,h2⟩:=h;cases h2;exact ⟨v,rfl,h1⟩
def b2 (h:wF K H F [d,e] xs):∃ v u,xs = [v,u]/\cX K H F d v/\cX K H F e u:=by
 obtain ⟨v,vs,rfl,h1,u,us,rfl,h2,h3⟩:=h;cases h3;exact ⟨v,u,rfl,h1,h2⟩
def vD (fd:FD F H) (hp:H p = none):¬ F p:=fd.none hp
def ME:bU X (.builtin "len") (rB X.K Ii):=by
 refine bU.imp (uz.or uy) λxs H Q zz=>?_;obtain ⟨F,ds,d,fd,r,e,q⟩:=zz;unfold Ii at e;split at e
 . split at e
   . cases e;obtain ⟨v,rfl,rv⟩:=b1 r;exact .inr ⟨_,by rw [rv.str],‹_›,q _ _ (fI.refl H) (cw _)⟩
   . cases e
 . cases e;obtain ⟨v,rfl,rv⟩:=b1 r;obtain ⟨a,ys,rfl,h1,h2⟩:=rv.lst;exact .inl ⟨a,ys,rfl,.inl h1.sq,by rw [h2.length];exact q _ _ (fI.refl H) (cw _)⟩
 . cases e;obtain ⟨v,rfl,rv⟩:=b1 r;obtain ⟨a,ys,rfl,h1,h2⟩:=rv.tup;exact .inl ⟨a,ys,rfl,.inr h1,by rw [h2.length];exact q _ _ (fI.refl H) (cw _)⟩
 . cases e
def MB (hc:X.calm = true) (hu:X.A.units+200 < cLine):bU X (.builtin "min") (rB X.K minD):=by
 refine bU.imp ((Bi hc).or (Bh hc hu)) λxs H Q zz=>?_;obtain ⟨F,ds,d,fd,r,e,q⟩:=zz;unfold minD at e;split at e
 . cases e;obtain ⟨v,u,rfl,r1,r2⟩:=b2 r;exact .inl ⟨_,_,by rw [r1.int,r2.int],q _ _ (fI.refl H) (cw _)⟩
 . split at e
   . rename_i z;cases e;obtain ⟨v,rfl,r1⟩:=b1 r;exact .inr ⟨F,_,v,rfl,r1,z.1,z.2,λy ry=>q _ _ (fI.refl H) ry⟩
   . cases e
 . cases e
def Bl:bU X (.type "int") (λxs H Q=>∃ x n,xs = [.str x]/\PySem.intText? x = some n/\x.length<=640/\Q (.int n) H):=by
 intro pins s σ H xs us Q I rv h;obtain ⟨x,n,rfl,h1,h2,q⟩:=h;obtain ⟨u,rfl,ru⟩:=rv.one;obtain ⟨t,rfl⟩:=ru;exact PySem.W.KIN.call_text h1 h2 ⟨.int n,H,I.tok _,⟨_,rfl⟩,q⟩
def MF:bU X (.type "int") (rB X.K sL):=by
 refine bU.imp (Bm.or Bl) λxs H Q zz=>?_;obtain ⟨F,ds,d,fd,r,e,q⟩:=zz;unfold sL at e;split at e
 . cases e;obtain ⟨v,rfl,r1⟩:=b1 r;exact .inl (.inl ⟨_,by rw [r1.int],q _ _ (fI.refl H) (cw _)⟩)
 . cases e;obtain ⟨v,rfl,r1⟩:=b1 r;exact .inl (.inr ⟨_,by rw [r1.bl],q _ _ (fI.refl H) (cw _)⟩)
 . split at e
   . rw [aL] at e;obtain ⟨n,e1,rfl⟩:=e;obtain ⟨v,rfl,r1⟩:=b1 r;exact .inr ⟨_,n,by rw [r1.str],e1,‹_›,q _ _ (fI.refl H) (cw _)⟩
   . cases e
 . cases e
def yC (h:fI H H'):Step g0 F H F H':=Step.of_same h
def Mz:bU X (.type "tuple") (rB X.K sJ):=by
 refine bU.imp qM λxs H Q zz=>?_;obtain ⟨F,ds,d,fd,r,e,q⟩:=zz;unfold sJ at e;split at e
 . cases e;obtain ⟨v,rfl,r1⟩:=b1 r;obtain ⟨a,ys,rfl,h1,h2⟩:=r1.lst;refine ⟨a,ys,rfl,.inl ⟨h1.sq,λl hl=>q _ _ (cC hl _) ?_⟩⟩;unfold Rel;exact ⟨l,ys,rfl,SqT.of bL,aK.step fd (yC (cC hl _)) _ _ h2⟩
 . cases e;obtain ⟨v,rfl,r1⟩:=b1 r;obtain ⟨a,ys,rfl,h1,h2⟩:=r1.tup;refine ⟨a,ys,rfl,.inr ⟨h1,q _ _ (fI.refl H) ?_⟩⟩;unfold Rel;exact ⟨a,ys,rfl,h1,h2⟩
 . cases e
def MD:bU X (.type "list") (rB X.K mO):=by
 refine bU.imp mC λxs H Q zz=>?_;obtain ⟨F,ds,d,fd,r,e,q⟩:=zz;unfold mO at e;split at e
 . cases e;obtain ⟨v,rfl,r1⟩:=b1 r;obtain ⟨a,ys,rfl,h1,h2⟩:=r1.lst;refine ⟨a,ys,rfl,.inl h1.sq,λl hl=>q _ _ (cC hl _) ?_⟩;unfold Rel;exact ⟨l,ys,rfl,.inl ⟨.inl bL,vD fd hl⟩,aK.step fd (yC (cC hl _)) _ _ h2⟩
 . cases e;obtain ⟨v,rfl,r1⟩:=b1 r;obtain ⟨a,ys,rfl,h1,h2⟩:=r1.tup;refine ⟨a,ys,rfl,.inr h1,λl hl=>q _ _ (cC hl _) ?_⟩;unfold Rel;exact ⟨l,ys,rfl,.inl ⟨.inl bL,vD fd hl⟩,aK.step fd (yC (cC hl _)) _ _ h2⟩
 . cases e
def mW:∀ {ds:List D} {ns:List Int} {xs:List V},nJ ds = some ns->aK K H F ds xs->xs = ns.map V.int
 | [],ns,xs,e,r=>by cases e;unfold aK at r;exact r
 | d::ds,ns,xs,e,r=>by
   unfold aK at r;obtain ⟨y,ys,rfl,h1,h2⟩:=r
   cases d with
   | int i =>
     unfold nJ at e;rw [aL] at e;obtain ⟨ms,e,rfl⟩:=e;unfold Rel at h1
     rw [h1,mW e h2,az]
   | _=>cases e
def MC (hc:X.calm = true):bU X (.builtin "max") (rB X.K maxD):=by
 intro pins s σ H xs us Q I rv ⟨F,ds,d,fd,r,e,q⟩;unfold maxD at e;split at e
 . cases e;obtain ⟨v,u,rfl,r1,r2⟩:=b2 r;exact Bk hc pins s σ H _ us Q I rv ⟨_,_,by rw [r1.int,r2.int],q _ _ (fI.refl H) (cw _)⟩
 . rw [ae] at e;obtain ⟨ns,e,e'⟩:=e;split at e'
   . cases e'
   . rename_i hne;cases e';obtain ⟨v,rfl,r1⟩:=b1 r;obtain ⟨a,ys,rfl,h1,h2⟩:=r1.lst;rw [mW e h2] at h1;exact Bj hc pins s σ H _ us Q I rv ⟨a,ns,rfl,hne,h1.sq,q _ _ (fI.refl H) (cw _)⟩
 . cases e
def lM:∀ {ds:List D} {ns:List Bool} {xs:List V},jb ds = some ns->aK K H F ds xs->xs = ns.map V.bl
 | [],ns,xs,e,r=>by cases e;unfold aK at r;exact r
 | d::ds,ns,xs,e,r=>by
   unfold aK at r;obtain ⟨y,ys,rfl,h1,h2⟩:=r
   cases d with
   | bl i =>
     unfold jb at e;rw [aL] at e;obtain ⟨ms,e,rfl⟩:=e;unfold Rel at h1
     rw [h1,lM e h2,az]
   | _=>cases e
def MG (hc:X.calm = true):bU X (.builtin "any") (rB X.K IM):=by
 refine bU.imp (Bn hc) λxs H Q zz=>?_;obtain ⟨F,ds,d,fd,r,e,q⟩:=zz;unfold IM at e;split at e
 . rw [aL] at e;obtain ⟨ns,e,rfl⟩:=e;obtain ⟨v,rfl,r1⟩:=b1 r;obtain ⟨a,ys,rfl,h1,h2⟩:=r1.lst;rw [lM e h2] at h1;exact ⟨a,ns,rfl,h1.sq,q _ _ (fI.refl H) (iW _)⟩
 . cases e
def MH (hc:X.calm = true):bU X (.builtin "all") (rB X.K IP):=by
 refine bU.imp (Bo hc) λxs H Q zz=>?_;obtain ⟨F,ds,d,fd,r,e,q⟩:=zz;unfold IP at e;split at e
 . rw [aL] at e;obtain ⟨ns,e,rfl⟩:=e;obtain ⟨v,rfl,r1⟩:=b1 r;obtain ⟨a,ys,rfl,h1,h2⟩:=r1.lst;rw [lM e h2] at h1;exact ⟨a,ns,rfl,h1.sq,q _ _ (fI.refl H) (iW _)⟩
 . cases e
def MA (hc:X.calm = true):bU X (.builtin "sum") (rB X.K Gx):=by
 refine bU.imp (Bg hc) λxs H Q zz=>?_;obtain ⟨F,ds,d,fd,r,e,q⟩:=zz;unfold Gx at e;split at e
 . rw [aL] at e;obtain ⟨ns,e,rfl⟩:=e;obtain ⟨v,rfl,r1⟩:=b1 r;obtain ⟨a,ys,rfl,h1,h2⟩:=r1.lst;rw [mW e h2] at h1;exact ⟨a,ns,rfl,h1.sq,q _ _ (fI.refl H) (cw _)⟩
 . cases e
def Bd (hu:X.A.units+200 < cLine):bU X (.builtin "sorted") (rB X.K om):=by
 refine bU.imp (uw hu) λxs H Q zz=>?_;obtain ⟨F,ds,d,fd,r,e,q⟩:=zz;unfold om at e;split at e
 . split at e
   . rename_i zs hs;cases e;obtain ⟨v,rfl,r1⟩:=b1 r;refine ⟨F,zs,v,rfl,r1,hs,λp ys hp ry=>q _ _ (cC hp _) ?_⟩;unfold Rel;exact ⟨p,ys,rfl,.inl ⟨.inl bL,vD fd hp⟩,aK.step fd (yC (cC hp _)) _ _ ry⟩
   . cases e
 . cases e
def gm {f:Blt} {es:Es} {x:Str} {p pos:Pos} {xs:List aI} (g:List D->Option D) (hg:jU f = g) (h:PE X (.Call (.Name x p) xs [] pos) (tCB (rB X.K g) (tEs X.K cx es))):PE X (.Call (.Name x p) xs [] pos) (tE X.K cx (.blt f es)):=by
 subst hg;refine PE.imp h λσ H Q h=>?_;obtain ⟨G,F,δ,d,δ',ok,ev,post⟩:=h;simp only [evE] at ev;obtain ⟨ds,ea,hd⟩:=vU ev;refine ⟨G,F,δ,ds,δ',ok,ea,λvs H1 F1 st1 sm1 ok1 r1=>?_⟩;exact ⟨F1,ds,d,ok1.fd,r1.bl,hd,λv H2 s2 r2=>post v H2 F1 (st1.trans (Step.of_same s2)) (λz=>(sm1 z).trans (.of s2)) (ok1.same' s2) (fB r2)⟩
end
end PP
end
section
namespace HT
open PySem PySem.Spec PyProof.Rows
section
variable {prog:aR} {w:bB} {A:bo} {E:ag->aj->Prop} {s:aj}
end
end HT
namespace L2
open PySem PySem.Spec PyProof.Rows
section
variable {X:Cx} {e:aI} {st:Option aI} {te:TE} {ts:TO} {pos p2:Pos}
end
end L2
namespace PP
open PySem L2 PyProof.Rows
variable [Tbs]
section
variable {K:PySem.W.Frag} {cx:Cl} {X:Cx}
end
end PP
end
section
namespace PP
open PySem L2 PyProof.Rows
variable [Tbs]
section
variable {K:PySem.W.Frag} {cx:Cl} {X:Cx}
def Kv (hT:tyName f = some T) (ht:t = (T:Str)) (hg:Gl X "isinstance") (hm:X.mg "isinstance" = none) (hgt:Gl X t) (hmt:X.mg t = none) (hy:PE X y (tE X.K cx e)) (hs:starEach [y,.Name t tp] X.env = [(false,eval y X.env),(false,eval (.Name t tp) X.env)]) :
 PE X (.Call (.Name "isinstance" p) [y,.Name t tp] [] pos) (tE X.K cx (.blt f (.cons e .nil))):=by
 have hb:bootBuiltins t = some (.type T):=by
  subst ht;cases f<;>simp [tyName] at hT<;>subst hT<;>rfl
 have hn:t≠"__name__":=by
  subst ht;cases f<;>simp [tyName] at hT<;>subst hT<;>decide
 have hdb:(t == ("__debug__":Str)) = false:=by
  subst ht;cases f<;>simp [tyName] at hT<;>subst hT<;>decide
 have hA:PA X [y,.Name t tp] (nD (tE X.K cx e) (nD (tC (.ty T)) CH)):=fb hy (fb (yR hgt hmt hb rfl hn hdb) jC rfl) hs;refine PE.imp (fq (Fn hT) hg hm rfl hA ⇑0 ⇑0 hs rfl) λσ H Q h=>?_;obtain ⟨G,F,δ,d,δ',ok,ev,post⟩:=h;simp only [evE] at ev;obtain ⟨ds,ea,hd⟩:=vU ev;simp only [eh,af,ae] at ea;obtain ⟨⟨x,δ1⟩,ea,⟨ds',δ2⟩,eb,e2⟩:=ea;cases eb;cases e2
 obtain ⟨b,rfl⟩:∃ b,d = .bl b:=by
  cases f<;>simp [tyName] at hT<;>(cases x<;>simp [jU,gp,iZ] at hd<;>exact ⟨_,hd.symm⟩)
 refine ⟨G,F,δ,x,δ1,ok,ea,λv H1 F1 st1 sm1 ok1 r1=>?_⟩;exact ⟨F1,x,v,b,r1.b,rfl,hd,post _ H1 F1 st1 (λz=>sm1 (by have z':(np e && true) = true:=z;simpa using z')) ok1 (fB (iW b))⟩
def GH (hN:X.N[i]? = some x) (hv:Vis X.env.scope x) (hd:(x == ("__debug__":Str)) = false) (hcd:(x == ("__classdict__":Str)) = false) (hl:ap.endLine = cp.line) :
 PE X (.Call (.Attribute (.Name x pos) "pop" ap) [] [] cp) (tE X.K cx (.pop i)):=by
 refine PE.imp (DR PySem.F.plainAttrs_list PySem.F.slot_list_pop PySem.F.type_list_pop LK (ij hN hv hd hcd) rfl (by simpa using hl)) λσ H Q h=>?_;obtain ⟨G,F,δ,d,δ',ok,ev,post⟩:=h;simp only [evE] at ev
 cases q:δ[i]? with
 | none=>rw [q] at ev;cases ev
 | some s =>
   rw [q] at ev
   cases s with
   | no=>cases ev
   | fnc _ _=>cases ev
   | odc _ _=>cases ev
   | val _=>cases ev
   | own ds =>
     obtain ⟨a,xs,e1,h1,h2,h3,h4⟩:=ok.sl i _ q;dsimp only at ev
     cases ql:ds.getLast? with
     | none=>rw [ql] at ev;cases ev
     | some d0 =>
       rw [ql] at ev;cases ev;have hlen:=h4.length;have hg:ds[ds.length - 1]? = some d:=by rw [<- uE];exact ql
       obtain ⟨w,hw,rw'⟩:=h4.get hg;obtain ⟨o1,o2⟩:=ok.write q e1 (aK.dropLast h4);refine ⟨.ref a,e1,.inl ⟨rfl,xs,.inl (.inl h3)⟩,a,xs,w,rfl,rfl,h3,by rw [hlen];exact hw,?_⟩;exact post w _ F o2 (λz=>absurd (show false = true from z) ak) o1 (fB (Rel.step ok.fd o2 d w rw'))
def KQ:V->List V->Hp->VK->Prop:=λx vs H Q=>∃ t:Str,x = .str t/\vs = []/\Q (.bl (decide (t.length > 0) && t.cps.all eF)) H
def Eh:MtR X "str.isdigit" KQ:=by
 intro pins s σ H x xs v us Q I rx rv h;obtain ⟨y,rfl,rfl,q⟩:=h;obtain ⟨t,rfl⟩:=rx;cases rv;exact call_gives F.slot_str_isdigit (yh s y t) F.entry_str_isdigit (F.args_str_isdigit_1 _) (gives_str_isdigit y t) ⟨.bl _,H,I,rfl,q⟩
def As (hN:X.N[i]? = some x) (hv:Vis X.env.scope x) (hd:(x == ("__debug__":Str)) = false) (hcd:(x == ("__classdict__":Str)) = false) (hl:ap.endLine = cp.line) :
 PE X (.Call (.Attribute (.Name x pos) "isdigit" ap) [] [] cp) (tE X.K cx (.isdig i)):=by
 refine PE.imp (DR PySem.F.plainAttrs_str PySem.F.slot_str_isdigit PySem.F.type_str_isdigit Eh (ij hN hv hd hcd) rfl (by simpa using hl)) λσ H Q h=>?_;obtain ⟨G,F,δ,d,δ',ok,ev,post⟩:=h;simp only [evE,af,ae] at ev;obtain ⟨z,e1,ev⟩:=ev
 cases z with
 | str y =>
   cases ev;unfold PP.get at e1;split at e1
   . rename_i d0 q0;cases e1;obtain ⟨v,e2,r⟩:=ok.sl i _ q0;unfold Rel at r;subst r;exact ⟨_,e2,rfl,y,rfl,rfl,post _ H F Step.refl (λ_=>Sim.refl H) ok (fB (iW _))⟩
   . cases e1
   . cases e1
 | _=>cases ev
def FZ (fd:FD F H) (h1:Ls K H F a xs) (h3:aK K H F ds xs):Wk K G F H (Itl K a) ds:=by
 intro F2 H2 st fd2 i;have h4:=(h1.step st).sq;have h5:=aK.step fd st ds xs h3;refine ⟨λd e=>?_,λe=>⟨xs,h4,by rw [h5.length];lia⟩⟩;obtain ⟨v,hv,rv⟩:=h5.get e;refine ⟨⟨xs,v,h4,hv⟩,λx H3 y=>?_⟩;obtain ⟨rfl,y⟩:=y;refine ⟨λ_ _ e=>e,?_⟩;have:=y xs h4;rw [hv] at this;cases this;exact rv
def JD (fd:FD F H) (h1:SqT K H a xs) (h3:aK K H F ds xs):Wk K G F H (Itt K a) ds:=by
 intro F2 H2 st fd2 i;have h4:=vg fd st.keep h1;have h5:=aK.step fd st ds xs h3;refine ⟨λd e=>?_,λe=>⟨xs,h4,by rw [h5.length];lia⟩⟩;obtain ⟨v,hv,rv⟩:=h5.get e;refine ⟨⟨xs,v,h4,hv⟩,λx H3 y=>?_⟩;obtain ⟨rfl,y⟩:=y;refine ⟨λ_ _ e=>e,?_⟩;have:=y xs h4;rw [hv] at this;cases this;exact rv
def JE:Wk K G F H (Its x) (x.cps.toList.map λc=>D.str ⟨#[c]⟩):=by
 intro F2 H2 st fd2 i;refine ⟨λd e=>?_,λe=>by show i = x.cps.size;simpa using e⟩;rw [bj,aL] at e;obtain ⟨c,hc,rfl⟩:=e;have hc':x.cps[i]? = some c:=by simpa using hc
 refine ⟨(Array.getElem?_eq_some_iff.mp hc').1,λv H3 y=>?_⟩;obtain ⟨rfl,c',h1,h2⟩:=y;refine ⟨λ_ _ e=>e,?_⟩;rw [hc'] at h1;cases h1;rw [h2];exact jz _
def JF {G:Gh} {H:Hp} {F:au->Prop} {lo:Int} {n:Nat}:Wk K G F H (Itr lo n) (lX lo n):=by
 intro F2 H2 st fd2 i;unfold lX;refine ⟨λd e=>?_,λe=>by rw [e];simp;exact aA n⟩;rw [bj,aL] at e;obtain ⟨c,hc,rfl⟩:=e;have hl:i < n:=by have:=(aE.mp hc).1;simpa using this
 rw [List.getElem?_range hl] at hc;cases hc;refine ⟨hl,λv H3 y=>?_⟩;obtain ⟨rfl,h2⟩:=y;exact ⟨λ_ _ e=>e,by rw [h2];exact cw _⟩
def Pp (K:PySem.W.Frag) (tl:TE):TI:=λσ H R=>tl σ H λv H1=>(∃ a,v = .ref a/\(∃ xs,SqL K H1 a xs)/\R (Itl K a) H1)\/(∃ a,v = .ref a/\(∃ xs,SqT K H1 a xs)/\R (Itt K a) H1)\/∃ x,v = .str x/\R (Its x) H1
def Lc (hl:PE X l tl):PI X tg l (Pp X.K tl):=by
 intro pins s σ H R I h
 have key:∀ {v:ag} {s1:aj} {x:V} {H1:Hp},Inv X pins σ H1 s1->RelV x v->((∃ a,x = .ref a/\(∃ xs,SqL X.K H1 a xs)/\R (Itl X.K a) H1)\/(∃ a,x = .ref a/\(∃ xs,SqT X.K H1 a xs)/\R (Itt X.K a) H1)\/∃ y,x = .str y/\R (Its y) H1) ->
  wpAny (model X.prog X.w) X.A (pyIter v) (PIE X pins σ tg R) X.xe s1:=by
  intro v s1 x H1 I1 r1 q1;rcases q1 with ⟨a,rfl,⟨xs,hq⟩,q⟩ | ⟨a,rfl,⟨xs,hq⟩,q⟩ | ⟨z,rfl,q⟩
  . cases r1;obtain ⟨its,rv,p,hz⟩:=I1.list hq;refine dP p.isList ?_;refine ⟨s1.heap.objs.size,[s1.heap.objs.size],_,_,H1,rfl,I1.kept (t':=s1.toks) λb o e=>ao _ e,Aj a _,⟨_,aS _ rfl,rfl,rfl⟩,λb hb=>?_,q⟩;have e:b = s1.heap.objs.size:=by simpa using hb
    subst e;exact I1.fpOk (aA _) (I1.hok.fresh (aA _))
  . cases r1;obtain ⟨its,rv,p,hz⟩:=I1.tuple hq;refine MV (show s1.heap.IsTuple a its.toArray from p) ?_;refine ⟨s1.heap.objs.size,[s1.heap.objs.size],_,_,H1,rfl,I1.kept (t':=s1.toks) λb o e=>ao _ e,xk a _,⟨_,aS _ rfl,rfl,rfl⟩,λb hb=>?_,q⟩;have e:b = s1.heap.objs.size:=by simpa using hb
    subst e;exact I1.fpOk (aA _) (I1.hok.fresh (aA _))
  . obtain ⟨t,rfl⟩:=r1;refine wpAny_pyIter_strU ?_;refine ⟨s1.heap.objs.size,[s1.heap.objs.size],_,_,H1,rfl,I1.kept (t':=s1.toks) λb o e=>ao _ e,CB s1.heap.objs.size z t,⟨_,aS _ rfl,rfl,rfl⟩,λb hb=>?_,q⟩;have e:b = s1.heap.objs.size:=by simpa using hb
    subst e;exact I1.fpOk (aA _) (I1.hok.fresh (aA _))
 exact thn (hl pins s σ H _ I h) λv s1 ⟨x,H1,I1,r1,q1⟩=>key I1 r1 q1
def PI.imp (h:PI X tg l t) (w:∀ σ H R,t' σ H R->t σ H R):PI X tg l t':=λpins s σ H R I q=>h pins s σ H R I (w σ H R q)
def Kq (n:(!bE e) = true) (hl:PE X l (tE X.K cx e)):PI X tg l (tI X.K cx (.sq e)):=by
 refine PI.imp (Lc hl) λσ H R h=>?_;obtain ⟨G,F,δ,ds,δ',ok,ev,post⟩:=h;simp only [evI,af,ae] at ev;obtain ⟨⟨d,δ1⟩,ea,ds',hd,e2⟩:=ev;cases e2;dsimp only at hd post;refine ⟨G,F,δ,d,δ1,ok,ea,λv H1 F1 st1 sm1 ok1 r1=>?_⟩;have r:=cW n r1;unfold items at hd;split at hd
 . cases hd;unfold Rel at r;obtain ⟨a,xs,e1,h1,h3⟩:=r;exact .inl ⟨a,e1,⟨xs,h1.sq⟩,post _ _ _ st1 sm1 ok1 (λ_=>FZ ok1.fd h1 h3)⟩
 . cases hd;unfold Rel at r;obtain ⟨a,xs,e1,h1,h3⟩:=r;exact .inr (.inl ⟨a,e1,⟨xs,h1⟩,post _ _ _ st1 sm1 ok1 (λ_=>JD ok1.fd h1 h3)⟩)
 . split at hd
   . cases hd;unfold Rel at r;exact .inr (.inr ⟨_,r,post _ _ _ st1 sm1 ok1 λ_=>JE⟩)
   . cases hd
 . cases hd
def GG (n:(!bE e) = true) (hg:Gl X "range") (hm:X.mg "range" = none) (hy:PE X y (tE X.K cx e)) (hs:starEach [y] X.env = [(false,eval y X.env)]):PI X tg (.Call (.Name "range" p) [y] [] pos) (tI X.K cx (.rng e)):=by
 refine PI.imp (AE hg hm (fb hy jC hs) hs) λσ H R h=>?_;obtain ⟨G,F,δ,ds,δ',ok,ev,post⟩:=h;simp only [evI,af,ae] at ev;obtain ⟨⟨d,δ1⟩,ea,ev⟩:=ev
 cases d with
 | int j =>
   dsimp only at ev;split at ev
   . rename_i hj;cases ev;refine ⟨G,F,δ,.int j,_,ok,ea,λv H1 F1 st1 sm1 ok1 r1=>?_⟩;have r:=cW n r1;unfold Rel at r;subst r;exact ⟨j,rfl,hj.1,hj.2,post _ _ _ st1 sm1 ok1 λ_=>JF⟩
   . cases ev
 | _=>cases ev
end
end PP
end
section
namespace PP
open PySem L2 PyProof.Rows Builtin.Str
variable [Tbs]
section
variable {X:Cx} {cx:Cl}
def rMt (K:PySem.W.Frag) (f:D->D->Option D):V->List V->Hp->VK->Prop:=λx vs H Q=>∃ F a b d y,vs = [y]/\FD F H/\cX K H F a x/\cX K H F b y/\f a b = some d/\∀ v H',fI H H'->Rel K H' F d v->Q v H'
def rS {h:bH} {a:D}:∀ {ds:List D} {us:List ag},RdL h ds us->us.findIdx? (isEq h a) = ds.findIdx? λd=>eqD d a
 | [],us,r=>by unfold RdL at r;subst r;rfl
 | d::ds,us,r=>by
   unfold RdL at r;obtain ⟨w,ws,rfl,h1,h2⟩:=r;rw [fN,fN,tV h1,rS h2]
def Ei (hu:X.A.units+200 < cLine):MtR X "list.index" (rMt X.K (mtD .index)):=by
 intro pins s σ H x xs v us Q I rx rv h;obtain ⟨F,a,b,d,y,rfl,fd,hb,ha,e,q⟩:=h;obtain ⟨u,rfl,ru⟩:=rv.one
 cases a with
 | lst ds =>
   unfold mtD at e;dsimp only at e;split at e
   . rename_i hd;rw [aL] at e;obtain ⟨i,ei,rfl⟩:=e;have ra:=eN I ha ru ∅;have rb:=eN I hb rx (by unfold dep;lia);unfold RdV at rb;obtain ⟨l',its',rfl,k1,k2⟩:=rb;obtain ⟨⟨cls,dd,data,sl⟩,ho,hc,n,hdt⟩:=id k1;simp only at hc hdt;subst hc hdt;rw [<- rS k2] at ei;obtain ⟨hi,e1,e2⟩:=List.findIdx?_eq_some_iff_getElem.mp ei
     have hz:its'.size<=sizeLine:=by
      obtain ⟨a',ys,ea,h1,h2⟩:=hb.lst;subst ea;obtain ⟨its,rv2,p,hz⟩:=I.list h1.sq;obtain ⟨o,ho',_,n',hd'⟩:=p.isList;cases rx;rw [ho] at ho';cases ho';cases hd';have e3:=rv2.length;simp only [aF]
      lia
     refine MY PySem.F.slot_list_index ⟨_,ho,rfl⟩ PySem.F.entry_list_index (PySem.F.args_list_index_2 _ _) (PySem.SeqAt.list_indexAt l' its' n dd sl u (isEq s.heap b) i (by simpa using hi) ?_ (by simpa using e1) λm hm h2=>?_) ⟨ho,λw hw=>jm ra (by show X.A.units+1+_ < _;lia) k2 w (by simpa using hw),?_⟩
     . have:sizeLine < 2 ^ 63 - 1:=by decide
       have hi':i < its'.size:=by simpa using hi
       lia
     . simpa using e2 m h2
     . exact ⟨.int i,H,I.kept (h':=s.heap) (t':=s.toks+1) λb o e=>e,⟨_,rfl⟩,q _ _ (fI.refl H) (cw _)⟩
   . cases e
 | _=>cases e
def IK {y:aI} {n:Str} {env:Env} (h:(gz y == 0 || gz y == 1 || gz y == 9) = true):attributeBase y n env (eval y env) = eval y env:=by
 rw [cK,cK] at h;rcases h with (h | h) | h
 . obtain ⟨⟨_,_,rfl⟩,_⟩:=de (b:=true) (by rw [gO];exact h);rfl
 . obtain ⟨⟨_,_,_,rfl⟩,_⟩:=de (b:=true) (by rw [gO];exact h);rfl
 . obtain ⟨⟨_,_,_,rfl⟩,_⟩:=de (b:=true) (by rw [gO];exact h);rfl
def GN {m:Mt} {T id:String} {a b:E} {y z:aI} {ap cp:Pos} (pa:Nb T) (slot:Slot T (mtN m) id) (hty:typeOf (.builtin id) = pure (.type "method_descriptor")) (hm:MtR X id (rMt X.K (mtD m)))
 (htv:∀ {F H v x y d},mtD m x y = some d->cX X.K H F x v->tyV X.K T v H) (na:(!bE a) = true) (nb:(!bE b) = true) (ha:PE X y (tE X.K cx a)) (hb:PE X z (tE X.K cx b)) (hl:ap.endLine = cp.line)
 (hbase:attributeBase y (mtN m) X.env (eval y X.env) = eval y X.env) (hs:starEach [z] X.env = [(false,eval z X.env)])
 (hfew:((backTo cp (starEach [z] X.env)).all (λx=>!x.1) && (backToKw cp (keywordEach [] X.env)).all (λx=>x.1.isSome)
   && decide (([z]:List aI).length+([]:List fL).length+(if ([]:List fL).isEmpty then 0 else 1) < 30)) = true) :
 PE X (.Call (.Attribute y (mtN m) ap) [z] [] cp) (tE X.K cx (.mt m a b)):=by
 have hA:PA X [z] (tEs X.K cx (.cons b .nil)):=lU (by simp [npS]) hb oo hs;refine PE.imp (DS pa slot hty hm ha hA hbase hfew (by simpa using hl) hs rfl) λσ H Q h=>?_;obtain ⟨G,F,δ,d,δ',ok,ev,post⟩:=h;simp only [evE,af,ae] at ev;obtain ⟨⟨x,δ1⟩,ea,⟨y',δ2⟩,eb,d',ed,e⟩:=ev;cases e;dsimp only at eb ed;refine ⟨G,F,δ,_,δ1,ok,ea,λv H1 F1 st1 sm1 ok1 r1=>⟨htv ed r1.b,G,F1,δ1,[y'],δ2,ok1,by simp [eh,eb],λvs H2 F2 st2 sm2 ok2 r=>?_⟩⟩;obtain ⟨d',ds',u,vs',ed',rfl,ru,rn⟩:=r;cases ed';obtain ⟨_,rfl⟩:=rn;have r1':=Rel.step ok1.fd st2 _ _ (cW na r1);refine ⟨F2,x,y',_,u,rfl,ok2.fd,.inl r1',ru.b,ed,λw H3 s3 r3=>post w H3 F2 ((st1.trans st2).trans (Step.of_same s3)) (λz=>?_) (ok2.same' s3) (fB r3)⟩;have z':=(aa _ _).mp (show (np a && np b) = true from z);exact ((sm1 z'.1).trans (sm2 (by simpa [npS] using z'.2))).trans (.of s3)
def Kt (hu:X.A.units+200 < cLine) {m:Mt} {a b:E} {y z:aI} {ap cp:Pos} (na:(!bE a) = true) (nb:(!bE b) = true) (ha:PE X y (tE X.K cx a)) (hb:PE X z (tE X.K cx b)) (hl:ap.endLine = cp.line)
 (hbase:attributeBase y (mtN m) X.env (eval y X.env) = eval y X.env) (hs:starEach [z] X.env = [(false,eval z X.env)])
 (hfew:((backTo cp (starEach [z] X.env)).all (λx=>!x.1) && (backToKw cp (keywordEach [] X.env)).all (λx=>x.1.isSome)
   && decide (([z]:List aI).length+([]:List fL).length+(if ([]:List fL).isEmpty then 0 else 1) < 30)) = true) :
 PE X (.Call (.Attribute y (mtN m) ap) [z] [] cp) (tE X.K cx (.mt m a b)):=by
 cases m with
 | index =>
   refine GN PySem.F.plainAttrs_list PySem.F.slot_list_index PySem.F.type_list_index (Ei hu) (λ{F H v x y d} e r=>?_) na nb ha hb hl hbase hs hfew
   cases x with
   | lst ds =>
     obtain ⟨p,xs,e1,h1,h2⟩:=r.lst;rw [e1]
     exact .inl ⟨rfl,xs,h1.sq⟩
   | _=>cases e
end
end PP
end
section
namespace PP
open PySem L2 PyProof.Rows
variable [Tbs]
section
variable {X:Cx} {cx:Cl}
def GdK (w:bB) (K:PySem.W.Frag) (a:au) (D:List (Str × Int)):Prop :=
 KTD.tabLook KTD.flatLooks (λb=>K.lookup b) a (D.map λp=>(p.1,PyData.int p.2)) = true/\(D.map (·.1)).Nodup/\KTD.hashesOf (λb=>K.lookup b) a = D.map λp=>hashStr w p.1
end
def spO (K:PySem.W.Frag) (f:List D->Option D):Sp:=λvs H Q _=>∃ F ds zs,FD F H/\TF F/\kZ H/\aK K H F ds vs/\f ds = some zs/\∀ a u H',Sim H H'->kZ H'->H a = none->H' a = some u->RelO K H' (λb=>F b\/b = a) zs u->Q (.ref a) H'
structure Cok (X:Cx) (c:Ck) (cx:Cl) (k:Nat):Prop where
 hN:X.N = c.N
 nd:c.N.Nodup
 vis:∀ x,Vis c.sc x->Vis X.env.scope x
 gl:∀ x,c.sc.names.lookup x = some .globalImplicit->Gl X x
 st:∀ x,L2.Loc c.sc x->L2.Loc X.env.scope x/\(X.fn x = true\/X.env.scope.names.lookup x = some .local)
 kc:∀ x,(c.sc.names.lookup x = some .cell\/c.sc.names.lookup x = some .free)->X.env.kindOf x = some .cell\/X.env.kindOf x = some .free
 calm:X.calm = true
 xe:X.xe = λ_ _=>False
 room:ke k X.A
 fns:∀ (f:Nat) (x:Str) (ps:List Str),c.fns[f]? = some (x,ps)->∃ a fd,X.mg x = some (.ref a)/\PySem.W.keepIn X.K (.ref a) = true/\Binds X.K fd ps []/\gh X.prog X.w X.K X.mg X.base CX0 k a fd ps (spF X.K (cx.call f))
 fnO:∀ (f:Nat) (x:Str) (ps:List Str),c.fns[f]? = some (x,ps)->∃ a fd,X.mg x = some (.ref a)/\PySem.W.keepIn X.K (.ref a) = true/\Binds X.K fd ps []/\gh X.prog X.w X.K X.mg X.base CX0 k a fd ps (spO X.K (cx.call (f+tm)))
 fnD:∀ (f:Nat) (x:Str) (ps:List Str),c.fns[f]? = some (x,ps)->f∈Tbs.dfs->∃ a fd,X.mg x = some (.ref a)/\PySem.W.keepIn X.K (.ref a) = true/\Binds X.K fd ps [.none]/\gh X.prog X.w X.K X.mg X.base CX0 k a fd ps (spF X.K (cx.call f))
 blt:∀ x,x∈jq->X.mg x = none
 glob:∀ (g:Nat) (x:Str) (d:D),c.gn[g]? = some x->cx.gl[g]? = some d->∃ u v,X.mg x = some u/\RelV v u/\∀ H F,Rel X.K H F d v
 gsome:∀ (g:Nat) (x:Str),c.gn[g]? = some x->∃ d,cx.gl[g]? = some d
 gds:∀ (n:Str) (l:List (Str × Int)),Tbs.gds.lookup n = some l->∃ a,X.mg n = some (.ref a)/\GdK X.w X.K a l
 pos:k = 0->∀ f ds,cx.call f ds = none
def Cy (h:Ai sc x = true):Vis sc x:=by
 unfold Ai at h;split at h
 . exact .inl ‹_›
 . exact .inr (.inl ‹_›)
 . exact .inr (.inr ‹_›)
 . cases h
def Eu (h:LQ sc x = true):L2.Loc sc x:=by
 unfold LQ at h;split at h
 . exact .inl ‹_›
 . exact .inr ‹_›
 . cases h
def Mh (h:glB sc x = true):sc.names.lookup x = some .globalImplicit:=by
 unfold glB at h;split at h
 . assumption
 . cases h
def zc (h:Ef x = true):(x == ("__debug__":Str)) = false/\(x == ("__classdict__":Str)) = false/\x≠("__name__":Str):=by
 unfold Ef at h;rw [aa,aa] at h;refine ⟨by simpa using h.1.1,by simpa using h.1.2,?_⟩;have:=h.2;intro z;subst z
 revert this
 decide
section
variable {X:Cx} {c:Ck} {cx:Cl} {k:Nat}
def Cok.name (C:Cok X c cx k) (h:eW c i x = true):X.N[i]? = some x/\Vis X.env.scope x/\(x == ("__debug__":Str)) = false/\(x == ("__classdict__":Str)) = false:=by
 unfold eW at h;rw [aa,aa] at h;obtain ⟨⟨h1,h2⟩,h3⟩:=h;obtain ⟨n1,n2,n3⟩:=zc h3;exact ⟨by rw [C.hN];exact of_decide_eq_true h1,C.vis x (Cy h2),n1,n2⟩
def Cok.to (C:Cok X c cx k) (h:dZ c i x = true):X.N[i]? = some x/\L2.Loc X.env.scope x/\(X.fn x = true\/X.env.scope.names.lookup x = some .local):=by
 unfold dZ at h;rw [aa,aa] at h;obtain ⟨⟨h1,h2⟩,h3⟩:=h;obtain ⟨s1,s2⟩:=C.st x (Eu h2);exact ⟨by rw [C.hN];exact of_decide_eq_true h1,s1,s2⟩
def Cok.global (C:Cok X c cx k) (h:dO c x = true):Gl X x/\(x == ("__debug__":Str)) = false/\x≠("__name__":Str):=by
 unfold dO at h;rw [aa] at h;obtain ⟨n1,n2,n3⟩:=zc h.2;exact ⟨C.gl x (Mh h.1),n1,n3⟩
def Cok.units (C:Cok X c cx k):X.A.units+200 < cLine:=by have:=C.room.un;lia
def Cok.nd' (C:Cok X c cx k):X.N.Nodup:=by rw [C.hN];exact C.nd
def ub:List Nat->TGs
 | []=>OC
 | i::is=>Js (vR i) (ub is)
def OB (K:PySem.W.Frag) (n:Nat) (t:TGs):TG:=λv σ H Q=>∃ a xs,v = .ref a/\(SqT K H a xs\/SqL K H a xs)/\xs.length = n/\t xs σ H Q
def mD {prog:aR} {w:bB} {A:bo} {E:ag->aj->Prop} {s:aj} {env:Env} {elts:List aI} {x1} {pos:Pos} {t:au} {items:Array ag} {Q:Unit->aj->Prop} (hh:A.handled = none) (ht:s.heap.IsList t items)
 (hn:(assignEach elts env).length = items.size) (hstar:(assignEach elts env).findIdx? (·.1) = none)
 (h:∀ h',zS s.heap.objs.size s.heap h'->wpAny (model prog w) A (assignInOrder ((assignEach elts env).map (·.2)) items.toList) Q E { s with heap:=h' }) :
 wpAny (model prog w) A (assign (.Tuple elts x1 pos) env (.ref t)) Q E s:=by
 rw [assign_Tuple];refine ah (oW ?_);unfold unpack;rw [hn,hstar];exact ah (eC (PySem.W.kun_itemsOf hh ht h))
def Lf {X:Cx} {es:List aI} {k:Nat} {t:TGs} {n:Nat} {pos:Pos} (hc:X.calm = true) (h:PGs X es t)
 (hn:(assignEach es X.env).length = n:=by rfl) (hst:(assignEach es X.env).findIdx? (·.1) = none:=by rfl):PG X (.Tuple es k pos) (OB X.K n t):=by
 intro pins s σ H v u Q I r hw;obtain ⟨a,xs,e1,hq,hl,hw⟩:=hw;rcases hq with hq | hq
 . exact Ld hc h hn hst pins s σ H v u Q I r ⟨a,xs,e1,hq,hl,hw⟩
 . subst e1;cases r;obtain ⟨its,rv,pl,hz⟩:=I.list hq;refine mD (I.ok.hd hc) pl.isList (by simp [hn,<- hl,rv.length]) hst λh' hx=>?_;have I1:Inv X pins σ H { s with heap:=h' }:=I.kept (t':=s.toks) λb o e=>hx b o (aQ (aH e)) e;exact h pins _ σ H xs _ Q I1 (by simpa using rv) hw
def gTg (K:PySem.W.Frag):Tg->TG
 | .nm i=>vR i
 | .tp is=>OB K is.length (ub is)
def rp (C:Cok X c cx k):∀ (is:List Nat) (es:List aI),My c is es = true->PGs X es (ub is)/\(assignEach es X.env).length = is.length/\(assignEach es X.env).findIdx? (·.1) = none
 | [],es,h=>by
   obtain ⟨rfl,_⟩:=cR h
   exact ⟨HC,rfl,rfl⟩
 | i::is,es,h=>by
   obtain ⟨e,r,rfl,hh⟩:=cD h;rw [aa] at hh;obtain ⟨x,p,rfl,h1⟩:=bz hh.1;obtain ⟨q1,q2,q3⟩:=rp C is r hh.2;obtain ⟨n1,n2,n3⟩:=C.to h1;refine ⟨DI (tj C.nd' n1 n2 n3) q1 rfl,?_,?_⟩
   . show (assignEach r X.env).length+1 = _;rw [q2];rfl
   . show List.findIdx? _ ((false,_)::assignEach r X.env) = none;rw [fN,q3];rfl
def sQ (C:Cok X c cx k) (h:uv c tg t = true):PG X t (gTg X.K tg):=by
 cases tg with
 | nm i =>
   obtain ⟨_,_,rfl,h1⟩:=bz h;obtain ⟨n1,n2,n3⟩:=C.to h1
   exact tj C.nd' n1 n2 n3
 | tp is =>
   obtain ⟨_,_,_,rfl,h1⟩:=ik h;obtain ⟨q1,q2,q3⟩:=rp C _ _ h1;exact Lf C.calm q1 q2 q3
def take_set {α:Type} (l:List α) (i n:Nat) (x:α) (h:n<=i):(l.set i x).take n = l.take n:=by
 apply List.ext_getElem?;intro j;by_cases hj:j < n
 . rw [dN hj,dN hj,aO ∅]
 . rw [eV (by rw [dk];lia),eV (by rw [dk];lia)]
def pB {K:PySem.W.Frag} {G:Gh} {H:Hp} {F:au->Prop} {Q:L2.St->Hp->Prop}:∀ (is:List Nat) (ds:List D) (xs:List V) (σ:L2.St) (δ:Loc),Ok K G F σ H δ->aK K H F ds xs->is.length = ds.length->is.all (· < δ.length) = true ->
 (∀ σ',Ok K G F σ' H ((is.zip ds).foldl (λδ p=>δ.set p.1 (.val p.2)) δ)->(∀ n,(is.all λi=>decide (n<=i)) = true->σ'.take n = σ.take n)->Q σ' H)->ub is xs σ H Q
 | [],ds,xs,σ,δ,ok,r,hl,_,q=>by
   have:ds = []:=dW.mp hl.symm;subst this;unfold aK at r
   exact ⟨r,q σ ok λ_ _=>rfl⟩
 | i::is,[],xs,σ,δ,ok,r,hl,_,q=>by simp at hl
 | i::is,d::ds,xs,σ,δ,ok,r,hl,ha,q=>by
   unfold aK at r;obtain ⟨y,ys,rfl,r1,r2⟩:=r;rw [mF,aa] at ha;refine ⟨y,ys,rfl,?_⟩;refine pB is ds ys (σ.set i (some y)) (δ.set i (.val d)) (ok.set (of_decide_eq_true ha.1) r1) r2 (by simpa using hl) ?_ λσ' o t=>q σ' o λn hn=>?_
   . rw [bu];exact ha.2
   . rw [mF,aa] at hn;rw [t n hn.2,take_set _ _ _ _ (of_decide_eq_true hn.1)]
def sM {K:PySem.W.Frag} {G:Gh} {H:Hp} {F:au->Prop} {σ:L2.St} {δ δ':Loc} {tg:Tg} {d:D} {v:V} {Q:L2.St->Hp->Prop} (ok:Ok K G F σ H δ) (r:Rel K H F d v) (e:fQ δ tg d = some δ') (q:∀ σ',Ok K G F σ' H δ'->(∀ n,Am n tg = true->σ'.take n = σ.take n)->Q σ' H):gTg K tg v σ H Q:=by
 unfold fQ at e;split at e
 . split at e
   . cases e;exact q _ (ok.set ‹_› r) λn hn=>take_set _ _ _ _ (of_decide_eq_true hn)
   . cases e
 . split at e
   . rename_i hh;cases e;unfold Rel at r;obtain ⟨a,xs,e1,h1,h2⟩:=r;exact ⟨a,xs,e1,.inl h1,by rw [h2.length];exact hh.1.symm,pB _ _ _ _ _ ok h2 hh.1 hh.2 q⟩
   . cases e
 . split at e
   . rename_i hh;cases e;unfold Rel at r;obtain ⟨a,xs,e1,h1,h2⟩:=r;exact ⟨a,xs,e1,.inr h1.b.sq,by rw [h2.length];exact hh.1.symm,pB _ _ _ _ _ ok h2 hh.1 hh.2 q⟩
   . cases e
 . cases e
def Ok.ext {K:PySem.W.Frag} {G:Gh} {H:Hp} {F:au->Prop} {σ:L2.St} {δ:Loc} (h:Ok K G F σ H δ) (tl:L2.St):Ok K G F (σ++tl) H (δ++aU tl.length .no):=by
 have low:∀ (j:Nat) (s:Sl),(δ++aU tl.length .no)[j]? = some s->s = .no\/(δ[j]? = some s/\(σ++tl)[j]? = σ[j]?):=λj s e=>by
  by_cases hj:j < δ.length
  . rw [bI hj] at e;exact .inr ⟨e,bI (by rw [<- h.len];exact hj)⟩
  . rw [bD ∅,fV] at e;split at e
    . cases e;exact .inl rfl
    . cases e
 refine ⟨h.same,h.fd,h.rf,h.rl,h.tf,h.tabs,by rw [ay,ay,gE,h.len],λj s e=>?_,λi j s t a e1 e2 o1 o2 p1 p2=>?_⟩
 . rcases low j s e with rfl | ⟨e1,e2⟩
   . trivial
   . rw [e2];exact h.sl j s e1
 . rcases low i _ e1 with z | ⟨a1,a2⟩
   . subst z;cases o1
   . rcases low j _ e2 with z | ⟨b1,b2⟩
     . subst z;cases o2
     . rw [a2] at p1;rw [b2] at p2;exact h.apart i j s t a a1 b1 o1 o2 p1 p2
def Ok.cut {K:PySem.W.Frag} {G:Gh} {H:Hp} {F:au->Prop} {σ:L2.St} {δ:Loc} (h:Ok K G F σ H δ) (n:Nat):Ok K G F (σ.take n) H (δ.take n):=by
 have low:∀ (j:Nat) (s:Sl),(δ.take n)[j]? = some s->δ[j]? = some s/\(σ.take n)[j]? = σ[j]? := λj s e=>by
  by_cases hj:j < n
  . rw [dN hj] at e;exact ⟨e,dN hj⟩
  . rw [eV (by rw [dk];lia)] at e;cases e
 refine ⟨h.same,h.fd,h.rf,h.rl,h.tf,h.tabs,by rw [dk,dk,h.len],λj s e=>?_,λi j s t a e1 e2 o1 o2 p1 p2=>?_⟩
 . obtain ⟨e1,e2⟩:=low j s e;rw [e2];exact h.sl j s e1
 . obtain ⟨a1,a2⟩:=low i _ e1;obtain ⟨b1,b2⟩:=low j _ e2;rw [a2] at p1;rw [b2] at p2;exact h.apart i j s t a a1 b1 o1 o2 p1 p2
def Gh.and (G:Gh) (D:au):Gh:=⟨G.h,λb=>G.R b\/b = D⟩
def Ok.free {K:PySem.W.Frag} {G:Gh} {H:Hp} {F:au->Prop} {σ:L2.St} {δ:Loc} {p:au} (h:Ok K G F σ H δ) (hp:H p = none):G.free p:=by
 refine ⟨?_,λz=>?_⟩
 . cases e:G.h p with
   | none=>rfl
   | some o =>
     by_cases t:NT o
     . rw [h.same.nt p o t e] at hp;cases hp
     . cases o<;>first | (exact absurd trivial t) | skip
       obtain ⟨qs,z⟩:=h.same.tb p _ e;rw [z] at hp;cases hp
 . obtain ⟨o,e,_⟩:=h.rl p z;rw [hp] at e;cases e
def Ok.enterO {K:PySem.W.Frag} {G:Gh} {H:Hp} {F:au->Prop} {σ:L2.St} {δ:Loc} {p:au} (h:Ok K G F σ H δ) (hp:H p = none) {u:HO} (hu:Mo u):Ok K (G.and p) (λb=>F b\/b = p) σ (upd H p u) δ/\Step G F H (λb=>F b\/b = p) (upd H p u):=by
 have nF:¬ F p:=vD h.fd hp;have sm:=cC hp u;have st:∀ G':Gh,Step G' F H (λb=>F b\/b = p) (upd H p u):=λG'=>⟨λb o _ e _=>sm b o e,λb z=>by rcases z with z | z;exact .inl z;exact .inr (by rw [z];exact hp),λb o _ f e=>⟨.inl f,sm b o e⟩,λb ps e=>⟨ps,sm b _ e⟩⟩;refine ⟨⟨h.same.trans (.of sm),λb z=>?_,λb z=>?_,λb z=>?_,λt ht=>.inl (h.tf t ht),h.tabs.keep λb o _ e=>sm b o e,h.len,λj s e=>?_,h.apart⟩,st G⟩
 . rcases z with z | z
   . exact h.fd.same sm b z
   . rw [z];exact ⟨u,bL,.inl hu⟩
 . rcases z with z | z
   . exact .inl (h.rf b z)
   . exact .inr z
 . rcases z with z | z
   . exact yH h.rl sm b z
   . rw [z];exact ⟨u,bL,hu⟩
 . exact eB.stay0 h.fd (st G) (λa v _ f1 _ f3=>⟨.inl f1,sm _ _ f3⟩) (eB.free (G:=G) (G':=G.and p) (λa f1 f2=>⟨f2.1,λz=>Or.elim z f2.2 λw=>nF (w▸f1)⟩) (h.sl j s e))
def Ok.enter {K:PySem.W.Frag} {G:Gh} {H:Hp} {F:au->Prop} {σ:L2.St} {δ:Loc} {p:au} (h:Ok K G F σ H δ) (hp:H p = none) (xs:List V):Ok K (G.and p) (λb=>F b\/b = p) σ (upd H p (.lst xs)) δ/\Step G F H (λb=>F b\/b = p) (upd H p (.lst xs)):=h.enterO hp trivial
def Ok.pokeO {K:PySem.W.Frag} {G:Gh} {H:Hp} {F:au->Prop} {σ:L2.St} {δ:Loc} {p:au} {x u:HO} (h:Ok K (G.and p) F σ H δ) (hg:G.free p) (hP:H p = some x) (hx:Mo x) (hu:Mo u):Ok K (G.and p) F σ (upd H p u) δ:=by
 have hF:F p:=h.rf p (.inr rfl);have nt:=hx.nt;have st0:Step g0 F H F (upd H p u):=⟨λb o _ e n=>by rw [bh (λz:b = p=>n (by rw [z];exact hF))];exact e,λb z=>.inl z,λ_ _ r _ _=>r.elim,λb ps e=>⟨ps,by rw [bh (λw:b = p=>by rw [w,hP] at e;cases e;exact nt)];exact e⟩⟩;refine ⟨⟨λb o t e=>?_,λb ps e=>?_⟩,λb z=>?_,h.rf,λb z=>?_,h.tf,h.tabs.keep λb o n e=>?_,h.len,λj s e=>?_,h.apart⟩
 . rw [bh (λz:b = p=>by have e':G.h b = some o:=e;rw [z,hg.1] at e';cases e')];exact h.same.nt b o t e
 . rw [bh (λz:b = p=>by have e':G.h b = some _:=e;rw [z,hg.1] at e';cases e')];exact h.same.tb b ps e
 . by_cases hb:b = p
   . rw [hb];exact ⟨u,bL,.inl hu⟩
   . rw [bh hb];exact h.fd b z
 . by_cases hb:b = p
   . rw [hb];exact ⟨u,bL,hu⟩
   . rw [bh hb];exact h.rl b z
 . rw [bh (λw:b = p=>by rw [w,hP] at e;cases e;exact n hx)];exact e
 . exact eB.stay0 h.fd st0 (λa v _ f1 f2 f3=>⟨f1,by rw [bh (λz:a = p=>f2.2 (.inr z))];exact f3⟩) (h.sl j s e)
def Ok.poke {K:PySem.W.Frag} {G:Gh} {H:Hp} {F:au->Prop} {σ:L2.St} {δ:Loc} {p:au} {zs:List V} (h:Ok K (G.and p) F σ H δ) (hg:G.free p) (hP:H p = some (.lst zs)) (xs:List V):Ok K (G.and p) F σ (upd H p (.lst xs)) δ:=h.pokeO hg hP trivial trivial
def Ok.leave {K:PySem.W.Frag} {G:Gh} {H:Hp} {F:au->Prop} {σ:L2.St} {δ:Loc} {p:au} (h:Ok K (G.and p) F σ H δ) (hg:G.free p):Ok K G (λb=>F b/\b≠p) σ H δ:=by
 have hs:∀ b,(F b/\b≠p)->F b:=λb z=>z.1
 have tf':TF λb=>F b/\b≠p:=λt ht=>⟨h.tf t ht,λw=>by
  obtain ⟨ps,e,_⟩:=h.tabs t ht;obtain ⟨o,hP,m⟩:=h.rl p (.inr rfl);rw [w,hP] at e;cases e;exact m⟩
 refine ⟨h.same,λb z=>h.fd b z.1,λb z=>⟨h.rf b (.inl z),λw=>hg.2 (by rw [<- w];exact z)⟩,λb z=>h.rl b (.inl z),tf',h.tabs,h.len,λj s e=>?_,h.apart⟩;refine ((h.sl j s e).less h.fd hs λa z za=>?_).free (G:=G.and p) (G':=G) λb _ z=>⟨z.1,λw=>z.2 (FP w)⟩;obtain ⟨a',u,d,e1,f1,f2,_⟩:=eB.ow (h.sl j s e) z;rw [za] at e1;cases e1;exact ⟨f1,λw=>f2.2 (.inr w)⟩
def Ok.keep {K:PySem.W.Frag} {G:Gh} {H:Hp} {F:au->Prop} {σ:L2.St} {δ:Loc} {p:au} (h:Ok K (G.and p) F σ H δ):Ok K G F σ H δ :=
 ⟨h.same,h.fd,λb z=>h.rf b (.inl z),λb z=>h.rl b (.inl z),h.tf,h.tabs,h.len,λj s e=>(h.sl j s e).free (G:=G.and p) (G':=G) λb _ z=>⟨z.1,λw=>z.2 (FP w)⟩,h.apart⟩
end
section
variable {K:PySem.W.Frag} {cx:Cl}
def wt (cx:Cl) (k:Nat) (tg:Tg) (ifs:Eo) (elt:E):D->Loc->Option (Option D × Loc):=λx δ0=>do
 let δ2 <- fQ (δ0++aU k .no) tg x
 let (b,δ3) <- evG cx ifs δ2
 if b then do
  let (y,δ4) <- evE cx elt δ3
  return (some y,δ4.take δ0.length)
 else return (none,δ3.take δ0.length)
def IG (ev:evE cx (.comp k tg src ifs elt) δ = some (d,δ')) :
 ∃ ds δ1 ys,evI cx src δ = some (ds,δ1)/\mB (wt cx k tg ifs elt) ds δ1 = some (ys,δ')/\ys.length<=sizeLine/\d = .lst ys:=by
 simp only [evE,af,ae] at ev;obtain ⟨⟨ds,δ1⟩,ea,⟨ys,δ2⟩,eb,ev⟩:=ev;split at ev
 . cases ev;exact ⟨ds,δ1,ys,ea,eb,‹_›,rfl⟩
 . cases ev
def Bc (h:wt cx k tg ifs elt x δ0 = some (o,δ1)):∃ δ2 b δ3,fQ (δ0++aU k .no) tg x = some δ2/\evG cx ifs δ2 = some (b,δ3) /\
 ((b = true/\∃ y δ4,evE cx elt δ3 = some (y,δ4)/\o = some y/\δ1 = δ4.take δ0.length)\/(b = false/\o = none/\δ1 = δ3.take δ0.length)):=by
 unfold wt at h;simp only [af,ae] at h;obtain ⟨δ2,e1,⟨b,δ3⟩,e2,h⟩:=h;refine ⟨δ2,b,δ3,e1,e2,?_⟩
 cases b with
 | true =>
   simp only [if_true,ae] at h;obtain ⟨⟨y,δ4⟩,e3,h⟩:=h;cases h
   exact .inl ⟨rfl,y,δ4,e3,rfl,rfl⟩
 | false =>
   simp only [dq,if_false] at h;cases h;exact .inr ⟨rfl,rfl,rfl⟩
def xW (h:mB f (x::xs) δ = some (ys,δ')):∃ o δ1 zs,f x δ = some (o,δ1)/\mB f xs δ1 = some (zs,δ')/\ys = (match o with | some y=>y::zs | none=>zs):=by
 unfold mB at h;simp only [af,ae] at h;obtain ⟨⟨o,δ1⟩,e1,⟨zs,δ2⟩,e2,h⟩:=h;cases h;exact ⟨o,δ1,zs,e1,e2,rfl⟩
def Step.sub (h:Step G' F H F' H') (hs:∀ b,G.R b->G'.R b):Step G F H F' H':=⟨h.keep,h.grow,λb o r=>h.res b o (hs b r),h.tb⟩
def vS:∀ (ps:List (Nat × D)) (δ:Loc),(ps.foldl (λδ p=>δ.set p.1 (Sl.val p.2)) δ).length = δ.length:=by
 intro ps
 induction ps with
 | nil=>intro δ;rfl
 | cons a r ih=>intro δ;rw [kG,ih,bu]
def Ay (es:fQ δ tg d = some δ'):δ'.length = δ.length:=by
 unfold fQ at es;split at es
 . split at es
   . cases es;rw [bu]
   . cases es
 . split at es
   . cases es;rw [vS]
   . cases es
 . split at es
   . cases es;rw [vS]
   . cases es
 . cases es
def Ih {P:List D->(au->Prop)->L2.St->Hp->Prop} (wk:Wk K G F1 H1 J ds) (hs:∀ r F σ H,P r F σ H->Step G F1 H1 F H/\FD F H) (hm:∀ r F σ H H3,P r F σ H->fI H H3->P r F σ H3) (h0:P ds F0 σ0 H0)
 (turn:∀ d r F σ H x (N:L2.St->Hp->Prop),P (d::r) F σ H->Rel K H F d x->(∀ F4 σ4 H4,P r F4 σ4 H4->N σ4 H4)->g x σ H λσ2 H2=>tt σ2 H2 λb H3=>if b = true then tb σ2 H3 N else N σ2 H3)
 (fin:∀ F σ H,P [] F σ H->Q σ H):tLp J g tt tb σ0 H0 Q:=by
 refine ⟨λi m σc Hc=>m = ds.length - i/\i<=ds.length/\∃ F',P (ds.drop i) F' σc Hc,⟨ds.length,↥0,cA _,F0,h0⟩,?_⟩;rintro i m σc Hc ⟨rfl,hi,F',h⟩;obtain ⟨st,fd⟩:=hs _ _ _ _ h;by_cases hlt:i < ds.length
 . obtain ⟨go,yl⟩:=(wk F' Hc st fd i).1 ds[i] (aB hlt);refine .inr ⟨go,λx H3 hy=>?_⟩;obtain ⟨sm,rx⟩:=yl x H3 hy;rw [jf hlt] at h;exact turn _ _ _ _ _ x _ (hm _ _ _ _ _ h sm) rx λF4 σ4 H4 z=>⟨_,∅,rfl,hlt,F4,z⟩
 . obtain rfl:i = ds.length:=by lia
   rw [pd] at h;exact .inl ⟨(wk F' Hc st fd ds.length).2 rfl,fin _ _ _ h⟩
def Step.new {o:HO} (s:Step G F1 H1 F8 H8) (hp:H1 p = none):Step G F1 H1 F8 (upd H8 p o):=by
 refine ⟨λb o t e nf=>?_,s.grow,λb o r f e=>?_,λb ps e=>?_⟩
 . rw [bh (λw:b = p=>by rw [w,hp] at e;cases e)];exact s.keep b o t e nf
 . obtain ⟨a1,a2⟩:=s.res b o r f e;refine ⟨a1,?_⟩;rw [bh (λw:b = p=>by rw [w,hp] at e;cases e)];exact a2
 . rw [bh (λw:b = p=>by rw [w,hp] at e;cases e)];exact s.tb b ps e
def Sim.new {o:HO} (s:Sim H1 H8) (hp:H1 p = none):Sim H1 (upd H8 p o):=by
 refine ⟨λb o t e=>?_,λb ps e=>?_⟩
 . rw [bh (λw:b = p=>by rw [w,hp] at e;cases e)];exact s.nt b o t e
 . rw [bh (λw:b = p=>by rw [w,hp] at e;cases e)];exact s.tb b ps e
def xV (n:(!bE elt) = true) (hge:Am σ.length tg = true)
 (ok1:Ok K G F1 σ H1 δ1) (wk:Wk K G F1 H1 J ds) (hp:H1 p = none) (ev:mB (wt cx k tg ifs elt) ds δ1 = some (ys,δ2)) (hz:ys.length<=sizeLine)
 (q:∀ σ' H2 F2 xs,Ok K (G.and p) F2 σ H2 δ2->H2 p = some (.lst xs)->aK K H2 F2 ys xs->Step G F1 H1 F2 H2->((npO ifs && np elt) = true->Sim H1 H2)->Q σ' H2) :
 tLp J (gTg K tg) (tG K cx ifs) (CI p (tE K cx elt)) (σ++aU k none) (upd H1 p (.lst [])) Q:=by
 have hg:=ok1.free hp;obtain ⟨ok2,st2⟩:=ok1.enter hp [];have hFs:∀ b,G.R b->(G.and p).R b:=λb z=>.inl z
 refine Ih (P:=λr F' σc Hc=>∃ δi zs xs yi,(∃ tl:L2.St,σc = σ++tl/\tl.length = k)/\Ok K (G.and p) F' σ Hc δi/\mB (wt cx k tg ifs elt) r δi = some (zs,δ2)/\yi++zs = ys/\Hc p = some (.lst xs)/\aK K Hc F' yi xs/\Step G F1 H1 F' Hc /\
  ((npO ifs && np elt) = true->Sim H1 Hc)) wk (λr F σ H z=>by obtain ⟨_,_,_,_,_,ok,_,_,_,_,st,_⟩:=z;exact ⟨st,ok.fd⟩) (λr F σ H H3 z sm=>by obtain ⟨a1,a2,a3,a4,a5,ok,a6,a7,a8,a9,st,s⟩:=z;exact ⟨a1,a2,a3,a4,a5,ok.same' sm,a6,a7,sm _ _ a8,aK.step ok.fd (Step.of_same (G:=G) sm) _ _ a9,st.trans (.of_same sm),λq=>(s q).trans (.of sm)⟩) (F0:=λb=>F1 b\/b = p) ⟨δ1,ys,[],[],⟨_,rfl,↥0⟩,ok2,ev,rfl,bL,aK.nil,st2,λ_=>.of (cC hp _)⟩ ?_ ?_
 . rintro d r F' _ H3 x N ⟨δi,zs,xs,yi,⟨tl,rfl,htl⟩,ok,el,ey,eD,rl,st,sm⟩ rx hN;have hF:F' p:=ok.rf p (.inr rfl);obtain ⟨o,δ5,zs',ef,el',ez⟩:=xW el;obtain ⟨δ6,b,δ7,es,eg,alt⟩:=Bc ef;have okx:Ok K (G.and p) F' (σ++tl) H3 (δi++aU k .no):=by rw [<- htl];exact ok.ext tl
   refine sM okx rx es λσ2 ok6 htake=>?_;have t2:σ2.take σ.length = σ:=by rw [htake _ hge,List.take_left'];rfl
   have l2:σ2.length = σ.length+k:=by
    have a1:=okx.len;have a2:=ok6.len;have e1:=Ay es;have e2:(σ++tl).length = σ.length+k:=by rw [ay,htl]
    lia
   have dl:δi.length = σ.length:=ok.len
   have tail:∃ tl':L2.St,σ2 = σ++tl'/\tl'.length = k:=by
    refine ⟨σ2.drop σ.length,?_,by rw [pb];lia⟩
    conv=>lhs;rw [<- List.take_append_drop σ.length σ2,t2]
   refine ⟨G.and p,F',δ6,b,δ7,ok6,eg,λH7 F7 st7 sm7 ok7=>?_⟩;have keepD:∀ {F8:au->Prop} {H8:Hp},Step (G.and p) F' H3 F8 H8->H8 p = some (.lst xs):=λs8=>(s8.res p _ (.inr rfl) hF eD).2;rcases alt with ⟨rfl,y,δ8,ee,rfl,rfl⟩ | ⟨rfl,rfl,rfl⟩
   . refine AS ?_;refine ⟨G.and p,F7,δ7,y,δ8,ok7,ee,λu H8 F8 st8 sm8 ok8 r8=>?_⟩;have s78:=st7.trans st8;have eD8:=keepD s78;have ry:=cW n r8;have rl8:aK K H8 F8 yi xs:=aK.step ok.fd s78 yi xs rl;have hF8:F8 p:=ok8.rf p (.inr rfl);have pk:Step g0 F8 H8 F8 (upd H8 p (.lst (xs++[u]))):=⟨λb o _ e nf=>by rw [bh (λz:b = p=>nf (by rw [z];exact hF8))];exact e,λb z=>.inl z,λ_ _ r _ _=>r.elim,λb ps e=>⟨ps,by rw [bh (λw:b = p=>by rw [w,eD8] at e;cases e)];exact e⟩⟩;subst ez
     have hyl:yi.length < sizeLine:=by
      have:=congrArg lz ey;rw [ay] at this;simp only [aG] at this
      lia
     refine ⟨xs,eD8,by rw [rl8.length];exact hyl,hN F8 _ _ ⟨δ8.take δi.length,zs',xs++[u],yi++[y],tail,?_,el',by rw [fY];exact ey,bL,?_,?_,λz=>?_⟩⟩
     . have:=(ok8.poke hg eD8 (xs++[u])).cut δi.length;rw [dl,t2] at this;rw [dl];exact this
     . exact aK.step ok8.fd pk _ _ (rl8.append (aK.one ry))
     . exact (st.trans (s78.sub hFs)).new hp
     . have z':=z;rw [aa] at z';exact (((sm z).trans (sm7 z'.1)).trans (sm8 z'.2)).new hp
   . refine AU ?_;subst ez;refine hN F7 _ _ ⟨δ7.take δi.length,_,xs,yi,tail,?_,el',ey,keepD st7,aK.step ok.fd st7 yi xs rl,st.trans (st7.sub hFs),λz=>?_⟩
     . have:=ok7.cut δi.length;rw [dl,t2] at this;rw [dl];exact this
     . have z':=z;rw [aa] at z';exact (sm z).trans (sm7 z'.1)
 . rintro F' _ Hc ⟨δi,zs,xs,yi,_,ok,el,ey,eD,rl,st,sm⟩;cases el;rw [cq] at ey;subst ey;exact q _ Hc F' xs ok eD rl st sm
end
end PP
end
section
namespace PP
open PySem
section
variable (cx:Cl)
def wE (e:E) (δ:Loc) (Q:D->Loc->Prop):Prop:=∃ d δ',evE cx e δ = some (d,δ')/\Q d δ'
def wT (e:E) (δ:Loc) (Q:Bool->Loc->Prop):Prop:=∃ d δ',evT cx e δ = some (d,δ')/\Q d δ'
def wEs (e:Es) (δ:Loc) (Q:List D->Loc->Prop):Prop:=∃ d δ',eh cx e δ = some (d,δ')/\Q d δ'
def wO (e:Eo) (δ:Loc) (Q:Option Int->Loc->Prop):Prop:=∃ d δ',evO cx e δ = some (d,δ')/\Q d δ'
def wG (e:Eo) (δ:Loc) (Q:Bool->Loc->Prop):Prop:=∃ d δ',evG cx e δ = some (d,δ')/\Q d δ'
def wI (e:It) (δ:Loc) (Q:List D->Loc->Prop):Prop:=∃ d δ',evI cx e δ = some (d,δ')/\Q d δ'
def wS (s:S) (δ:Loc) (Q:Out->Prop):Prop:=∃ o,evS cx s δ = some o/\Q o
def wSs (s:Ss) (δ:Loc) (Q:Out->Prop):Prop:=∃ o,cY cx s δ = some o/\Q o
def wTg (δ:Loc) (tg:Tg) (d:D) (Q:Loc->Prop):Prop:=∃ δ',fQ δ tg d = some δ'/\Q δ'
def wOp (op:Op) (x y:D) (Q:D->Prop):Prop:=∃ z,opD op x y = some z/\Q z
def qE (op:Cop) (x y:D) (Q:Bool->Prop):Prop:=∃ z,jT op x y = some z/\Q z
def sF (f:Blt) (ds:List D) (Q:D->Prop):Prop:=∃ z,jU f ds = some z/\Q z
def Jb (f:Nat) (ds:List D) (Q:D->Prop):Prop:=∃ z,cx.call f ds = some z/\Q z
def xg (δ:Loc) (i:Nat) (Q:D->Prop):Prop:=∃ z,PP.get δ i = some z/\Q z
def wIx (x y:D) (Q:D->Prop):Prop:=∃ z,ixD x y = some z/\Q z
def wSl (x:D) (lo hi:Option Int) (Q:D->Prop):Prop:=∃ z,slD x lo hi = some z/\Q z
def wTv (x:D) (Q:Bool->Prop):Prop:=∃ z,tv x = some z/\Q z
def wItems (x:D) (Q:List D->Prop):Prop:=∃ z,items x = some z/\Q z
def Nx (k:Nat) (tg:Tg) (ifs:Eo) (elt:E):D->Loc->Option (Option D × Loc):=λx δ0=>do
 let δ2 <- fQ (δ0++aU k .no) tg x
 let (b,δ3) <- evG cx ifs δ2
 if b then do
  let (y,δ4) <- evE cx elt δ3
  return (some y,δ4.take δ0.length)
 else return (none,δ3.take δ0.length)
def lQ (k:Nat) (tg:Tg) (ifs:Eo) (elt:E) (ds:List D) (δ:Loc) (Q:List D->Loc->Prop):Prop:=∃ ys δ',mB (Nx cx k tg ifs elt) ds δ = some (ys,δ')/\Q ys δ'
def OD (tg:Tg) (body:Ss):D->Loc->Option Out:=λx δ0=>match fQ δ0 tg x with
 | some δ2=>cY cx body δ2
 | none=>none
def kb (tg:Tg) (body:Ss) (ds:List D) (δ:Loc) (Q:Out->Prop):Prop:=∃ o,forL (OD cx tg body) ds δ = some o/\Q o
def pv (c:E) (body:Ss) (n:Nat) (δ:Loc) (Q:Out->Prop):Prop:=∃ o,lB (λδ0=>evT cx c δ0) (λδ0=>cY cx body δ0) n δ = some o/\Q o
end
section
variable {α β γ:Type} {P P':α->Loc->Prop} {R R':α->Prop} {Q:β->Loc->Prop} {S:γ->Prop} {o:Option (α × Loc)} {u:Option α} {f:α × Loc->Option (β × Loc)} {g:α->Option (β × Loc)} {f':α × Loc->Option γ} {g':α->Option γ} {d:β} {r:γ} {δ:Loc} {c:Prop} [Decidable c]
def yb:(∃ r,o.bind f' = some r/\S r)↔∃ x δ1,o = some (x,δ1)/\∃ r,f' (x,δ1) = some r/\S r:=by
 cases o with
 | none=>exact ⟨λ⟨_,e,_⟩=>(by cases e),λ⟨_,_,e,_⟩=>(by cases e)⟩
 | some p=>exact ⟨λh=>⟨p.1,p.2,rfl,h⟩,λ⟨_,_,e,h⟩=>by cases e;exact h⟩
def yqs:(∃ r,u.bind g' = some r/\S r)↔∃ x,u = some x/\∃ r,g' x = some r/\S r:=by
 cases u with
 | none=>exact ⟨λ⟨_,e,_⟩=>(by cases e),λ⟨_,e,_⟩=>(by cases e)⟩
 | some p=>exact ⟨λh=>⟨p,rfl,h⟩,λ⟨_,e,h⟩=>by cases e;exact h⟩
def yr:(∃ r',some r = some r'/\S r')↔S r:=⟨λ⟨_,e,h⟩=>(by cases e;exact h),λh=>⟨_,rfl,h⟩⟩
def yi:(∃ r',(if c then some r else none) = some r'/\S r')↔c/\S r:=by
 by_cases h:c
 . rw [if_pos h];exact yr.trans ⟨λq=>⟨h,q⟩,λq=>q.2⟩
 . rw [if_neg h];exact ⟨λ⟨_,e,_⟩=>(by cases e),λq=>absurd q.1 h⟩
def yn {A:Prop} (h:¬ A):(∃ r',(none:Option γ) = some r'/\S r')↔A:=⟨λ⟨_,e,_⟩=>(by cases e),λq=>absurd q h⟩
def xq {o:Option (β × Loc)}:(∃ d δ',o = some (d,δ')/\Q d δ')↔∃ r,o = some r/\Q r.1 r.2:=⟨λ⟨_,_,e,q⟩=>⟨_,e,q⟩,λ⟨r,e,q⟩=>⟨r.1,r.2,e,q⟩⟩
def xb:(∃ d δ',o.bind f = some (d,δ')/\Q d δ')↔∃ x δ1,o = some (x,δ1)/\∃ d δ',f (x,δ1) = some (d,δ')/\Q d δ':=xq.trans (yb.trans ⟨λ⟨x,y,e,h⟩=>⟨x,y,e,xq.mpr h⟩,λ⟨x,y,e,h⟩=>⟨x,y,e,xq.mp h⟩⟩)
def x1:(∃ d δ',u.bind g = some (d,δ')/\Q d δ')↔∃ x,u = some x/\∃ d δ',g x = some (d,δ')/\Q d δ':=xq.trans (yqs.trans ⟨λ⟨x,e,h⟩=>⟨x,e,xq.mpr h⟩,λ⟨x,e,h⟩=>⟨x,e,xq.mp h⟩⟩)
def xr:(∃ d' δ',some (d,δ) = some (d',δ')/\Q d' δ')↔Q d δ:=xq.trans yr
def xi:(∃ d' δ',(if c then some (d,δ) else none) = some (d',δ')/\Q d' δ')↔c/\Q d δ:=xq.trans yi
def xn {A:Prop} (h:¬ A):(∃ d' δ',(none:Option (β × Loc)) = some (d',δ')/\Q d' δ')↔A:=xq.trans (yn h)
def xc (h:∀ x δ,P x δ↔P' x δ):(∃ x δ1,o = some (x,δ1)/\P x δ1)↔∃ x δ1,o = some (x,δ1)/\P' x δ1:=⟨λ⟨x,δ,e,p⟩=>⟨x,δ,e,(h x δ).mp p⟩,λ⟨x,δ,e,p⟩=>⟨x,δ,e,(h x δ).mpr p⟩⟩
def xd (h:∀ x,R x↔R' x):(∃ x,u = some x/\R x)↔∃ x,u = some x/\R' x:=⟨λ⟨x,e,p⟩=>⟨x,e,(h x).mp p⟩,λ⟨x,e,p⟩=>⟨x,e,(h x).mpr p⟩⟩
end
def IB {b:Bool} {P:Bool->Prop}:(∃ k,D.bl b = D.bl k/\P k)↔P b:=⟨λ⟨_,e,q⟩=>by cases e;exact q,λq=>⟨_,rfl,q⟩⟩
def zw {b:Int} {P:Int->Prop}:(∃ k,D.int b = D.int k/\P k)↔P b:=⟨λ⟨_,e,q⟩=>by cases e;exact q,λq=>⟨_,rfl,q⟩⟩
def OF {b:Str} {P:Str->Prop}:(∃ k,D.str b = D.str k/\P k)↔P b:=⟨λ⟨_,e,q⟩=>by cases e;exact q,λq=>⟨_,rfl,q⟩⟩
def ES {b:List D} {P:List D->Prop}:(∃ k,D.lst b = D.lst k/\P k)↔P b:=⟨λ⟨_,e,q⟩=>by cases e;exact q,λq=>⟨_,rfl,q⟩⟩
section
variable {cx:Cl} {δ:Loc}
def JT {i:Nat} {Q:D->Loc->Prop}:wE cx (.var i) δ Q↔∃ d,EN δ i = some d/\Q d (demote δ i):=x1.trans (xd λ_=>xr)
def Nt {i:Nat} {Q:D->Loc->Prop}:wE cx (.pk i) δ Q↔xg δ i λd=>Q d δ:=x1.trans (xd λ_=>xr)
def Kb {i:Int} {Q:D->Loc->Prop}:wE cx (.int i) δ Q↔Q (.int i) δ:=xr
def Nw {i:Bool} {Q:D->Loc->Prop}:wE cx (.bl i) δ Q↔Q (.bl i) δ:=xr
def JV {i:Str} {Q:D->Loc->Prop}:wE cx (.str i) δ Q↔Q (.str i) δ:=xr
def Ke {op:Op} {a b:E} {Q:D->Loc->Prop}:wE cx (.bin op a b) δ Q↔wE cx a δ λx δ1=>wE cx b δ1 λy δ2=>wOp op x y λz=>Q z δ2:=xb.trans (xc λ_ _=>xb.trans (xc λ_ _=>x1.trans (xd λ_=>xr)))
def Kc {op:Cop} {a b:E} {Q:D->Loc->Prop}:wE cx (.cmp op a b) δ Q↔wE cx a δ λx δ1=>wE cx b δ1 λy δ2=>qE op x y λz=>Q (.bl z) δ2:=xb.trans (xc λ_ _=>xb.trans (xc λ_ _=>x1.trans (xd λ_=>xr)))
def JK {op:Cop} {a b:E} {Q:Bool->Loc->Prop}:wT cx (.cmp op a b) δ Q↔wE cx a δ λx δ1=>wE cx b δ1 λy δ2=>qE op x y λz=>Q z δ2:=xb.trans (xc λ_ _=>xb.trans (xc λ_ _=>x1.trans (xd λ_=>xr)))
def xh {a b:E} {Q:D->Loc->Prop}:wE cx (.and a b) δ Q↔wE cx a δ λx δ1=>∃ k,x = .bl k/\if k = true then wE cx b δ1 Q else Q (.bl false) δ1:=xb.trans (xc λx _=>by
 cases x with
 | bl k=>refine Iff.trans ?_ IB.symm;cases k;exact xr;exact bZ
 | _=>exact xn λ⟨_,e,_⟩=>by cases e)
def Nu {a b:E} {Q:D->Loc->Prop}:wE cx (.or a b) δ Q↔wE cx a δ λx δ1=>∃ k,x = .bl k/\if k = true then Q (.bl true) δ1 else wE cx b δ1 Q:=xb.trans (xc λx _=>by
 cases x with
 | bl k=>refine Iff.trans ?_ IB.symm;cases k;exact bZ;exact xr
 | _=>exact xn λ⟨_,e,_⟩=>by cases e)
def JX {a:E} {Q:D->Loc->Prop}:wE cx (.not a) δ Q↔wE cx a δ λx δ1=>∃ k,x = .bl k/\Q (.bl (!k)) δ1:=xb.trans (xc λx _=>by
 cases x with
 | bl k=>refine Iff.trans ?_ IB.symm;exact xr
 | _=>exact xn λ⟨_,e,_⟩=>by cases e)
def JY {a:E} {Q:D->Loc->Prop}:wE cx (.neg a) δ Q↔wE cx a δ λx δ1=>∃ i,x = .int i/\Q (.int (-i)) δ1:=xb.trans (xc λx _=>by
 cases x with
 | int k=>refine Iff.trans ?_ zw.symm;exact xr
 | _=>exact xn λ⟨_,e,_⟩=>by cases e)
def JL {a b:E} {Q:Bool->Loc->Prop}:wT cx (.and a b) δ Q↔wT cx a δ λk δ1=>if k = true then wT cx b δ1 Q else Q false δ1:=xb.trans (xc λk _=>by cases k;exact xr;exact bZ)
def Ni {a b:E} {Q:Bool->Loc->Prop}:wT cx (.or a b) δ Q↔wT cx a δ λk δ1=>if k = true then Q true δ1 else wT cx b δ1 Q:=xb.trans (xc λk _=>by cases k;exact bZ;exact xr)
def JJ {a:E} {Q:Bool->Loc->Prop}:wT cx (.not a) δ Q↔wT cx a δ λk δ1=>Q (!k) δ1:=xb.trans (xc λ_ _=>xr)
def JI {i:Nat} {Q:Bool->Loc->Prop}:wT cx (.var i) δ Q↔xg δ i λd=>wTv d λb=>Q b δ:=x1.trans (xd λ_=>x1.trans (xd λ_=>xr))
def Ka {c a b:E} {Q:D->Loc->Prop}:wE cx (.ite c a b) δ Q↔wT cx c δ λk δ1=>if k = true then wE cx a δ1 Q else wE cx b δ1 Q:=xb.trans (xc λk _=>by cases k<;>exact bZ)
def JU {es:Es} {Q:D->Loc->Prop}:wE cx (.tup es) δ Q↔wEs cx es δ λds δ1=>ds.length<=sizeLine/\Q (.tup ds) δ1:=xb.trans (xc λ_ _=>xi)
def JZ {es:Es} {Q:D->Loc->Prop}:wE cx (.lst es) δ Q↔wEs cx es δ λds δ1=>ds.length<=sizeLine/\Q (.lst ds) δ1:=xb.trans (xc λ_ _=>xi)
def Nv {a b:E} {Q:D->Loc->Prop}:wE cx (.ix a b) δ Q↔wE cx a δ λx δ1=>wE cx b δ1 λy δ2=>wIx x y λz=>Q z δ2:=xb.trans (xc λ_ _=>xb.trans (xc λ_ _=>x1.trans (xd λ_=>xr)))
def Nr {a:E} {lo hi:Eo} {Q:D->Loc->Prop}:wE cx (.sl a lo hi) δ Q↔wE cx a δ λx δ1=>wO cx lo δ1 λl δ2=>wO cx hi δ2 λh δ3=>wSl x l h λz=>Q z δ3:=xb.trans (xc λ_ _=>xb.trans (xc λ_ _=>xb.trans (xc λ_ _=>x1.trans (xd λ_=>xr))))
def oi {f:Nat} {es:Es} {Q:D->Loc->Prop}:wE cx (.call f es) δ Q↔wEs cx es δ λds δ1=>Jb cx f ds λz=>Q z δ1:=xb.trans (xc λ_ _=>x1.trans (xd λ_=>xr))
def Kd {f:Blt} {es:Es} {Q:D->Loc->Prop}:wE cx (.blt f es) δ Q↔wEs cx es δ λds δ1=>sF f ds λz=>Q z δ1:=xb.trans (xc λ_ _=>x1.trans (xd λ_=>xr))
def JW {i:Nat} {Q:D->Loc->Prop}:wE cx (.pop i) δ Q↔∃ ds d,δ[i]? = some (.own (ds++[d]))/\Q d (δ.set i (.own ds)):=by
 unfold wE;simp only [evE];constructor
 . rintro ⟨d,δ',e,q⟩;split at e
   . rename_i ds h;split at e
     . rename_i d0 hl;cases e;refine ⟨ds.dropLast,d,?_,q⟩;rw [h];obtain ⟨z,rfl⟩:=List.getLast?_eq_some_iff.mp hl;simp
     . cases e
   . cases e
 . rintro ⟨ds,d,h,q⟩;refine ⟨d,_,?_,q⟩;rw [h];simp
def uQ {i:Nat} {Q:D->Loc->Prop}:wE cx (.isdig i) δ Q↔xg δ i λd=>∃ x,d = .str x/\Q (.bl (decide (x.length > 0) && x.cps.all eF)) δ:=x1.trans (xd λx=>by
 cases x with
 | str k=>refine Iff.trans ?_ OF.symm;exact xr
 | _=>exact xn λ⟨_,e,_⟩=>by cases e)
def Gi {Q:List D->Loc->Prop}:wEs cx .nil δ Q↔Q [] δ:=xr
def Cs {e:E} {es:Es} {Q:List D->Loc->Prop}:wEs cx (.cons e es) δ Q↔wE cx e δ λx δ1=>wEs cx es δ1 λxs δ2=>Q (x::xs) δ2:=xb.trans (xc λ_ _=>xb.trans (xc λ_ _=>xr))
def Nn {Q:Option Int->Loc->Prop}:wO cx .no δ Q↔Q none δ:=xr
def JR {e:E} {Q:Option Int->Loc->Prop}:wO cx (.yes e) δ Q↔wE cx e δ λx δ1=>∃ i,x = .int i/\Q (some i) δ1:=xb.trans (xc λx _=>by
 cases x with
 | int k=>refine Iff.trans ?_ zw.symm;exact xr
 | _=>exact xn λ⟨_,e,_⟩=>by cases e)
def Nq {Q:Bool->Loc->Prop}:wG cx .no δ Q↔Q true δ:=xr
def JS {e:E} {Q:List D->Loc->Prop}:wI cx (.rng e) δ Q↔wE cx e δ λx δ1=>∃ j,x = .int j/\(-(2 ^ 62)<=j/\j < 2 ^ 62)/\Q (lX 0 j.toNat) δ1:=xb.trans (xc λx _=>by
 cases x with
 | int k=>refine Iff.trans ?_ zw.symm;exact xi
 | _=>exact xn λ⟨_,e,_⟩=>by cases e)
def Np {e:E} {Q:List D->Loc->Prop}:wI cx (.sq e) δ Q↔wE cx e δ λx δ1=>wItems x λds=>Q ds δ1:=xb.trans (xc λ_ _=>x1.trans (xd λ_=>xr))
def oh {k:Nat} {tg:Tg} {src:It} {ifs:Eo} {elt:E} {Q:D->Loc->Prop}:wE cx (.comp k tg src ifs elt) δ Q↔wI cx src δ λds δ1=>lQ cx k tg ifs elt ds δ1 λys δ2=>ys.length<=sizeLine/\Q (.lst ys) δ2:=xb.trans (xc λ_ _=>xb.trans (xc λ_ _=>xi))
def qW {k:Nat} {tg:Tg} {ifs:Eo} {elt:E} {Q:List D->Loc->Prop}:lQ cx k tg ifs elt [] δ Q↔Q [] δ:=xr
def px {k:Nat} {tg:Tg} {ifs:Eo} {elt:E} {x:D} {xs:List D} {Q:List D->Loc->Prop}:lQ cx k tg ifs elt (x::xs) δ Q↔wTg (δ++aU k .no) tg x λδ2=>wG cx ifs δ2 λb δ3 =>
 if b = true then wE cx elt δ3 λy δ4=>lQ cx k tg ifs elt xs (δ4.take δ.length) λys δ5=>Q (y::ys) δ5 else lQ cx k tg ifs elt xs (δ3.take δ.length) Q:=xb.trans (x1.trans (xd λ_=>xb.trans (xc λb _=>by cases b;exact xr.trans (xb.trans (xc λ_ _=>xr));exact xb.trans (xc λ_ _=>xr.trans (xb.trans (xc λ_ _=>xr))))))
end
section
variable (cx:Cl)
def lT (ss:Ss) (Q:Out->Prop):Out->Prop
 | .nx δ=>wSs cx ss δ Q
 | .rt d δ=>Q (.rt d δ)
 | .ro d δ=>Q (.ro d δ)
end
def qb (next:Loc->Prop) (Q:Out->Prop):Out->Prop
 | .nx δ=>next δ
 | .rt d δ=>Q (.rt d δ)
 | .ro d δ=>Q (.ro d δ)
def nV (δ:Loc) (i:Nat) (s:Sl) (Q:Loc->Prop):Prop:=i < δ.length/\Q (δ.set i s)
def zW (pre δ:Loc) (i:Nat) (s:Sl) (Q:Loc->Prop):Prop:=i < δ.length/\Q (pre.reverse++δ.set i s)
def JQ (δ:Loc) (i:Nat) (s:Sl) (Q:Loc->Prop):Prop:=Q (δ.set i s)
def qV (pre δ:Loc) (i:Nat) (s:Sl) (Q:Loc->Prop):Prop:=Q (pre.reverse++δ.set i s)
def uO (pre δ:Loc) (Q:Loc->Prop):Prop:=Q (pre.reverse++δ)
def zY (δ0:Loc) (j:Nat) (δ:Loc) (i:Nat) (Q:D->Loc->Prop):Prop:=match δ[i]? with
 | some (.val d)=>Q d δ0
 | some (.own ds)=>Q (.lst ds) (δ0.set j (.val (.lst ds)))
 | some (.odc ks ds)=>Q (.dct ks ds) (δ0.set j (.val (.dct ks ds)))
 | _=>False
def nW (δ:Loc) (i:Nat) (Q:List D->Prop):Prop:=match δ[i]? with
 | some (.own ds)=>Q ds
 | _=>False
def BQ (δ:Loc) (i:Nat) (Q:D->Prop):Prop:=match δ[i]? with
 | some (.val d)=>Q d
 | _=>False
section
variable {cx:Cl} {δ pre:Loc}
def uX {ss:Ss} {Q:Out->Prop}:lT cx ss Q (.nx δ)↔wSs cx ss δ Q:=bZ
def CC {ss:Ss} {Q:Out->Prop} {d:D}:lT cx ss Q (.rt d δ)↔Q (.rt d δ):=bZ
def Er {n:Loc->Prop} {Q:Out->Prop}:qb n Q (.nx δ)↔n δ:=bZ
def Ep {n:Loc->Prop} {Q:Out->Prop} {d:D}:qb n Q (.rt d δ)↔Q (.rt d δ):=bZ
def BV {i:Nat} {s:Sl} {Q:Loc->Prop}:nV δ i s Q↔zW [] δ i s Q:=bZ
def zV {i:Nat} {s t:Sl} {Q:Loc->Prop}:zW pre (t::δ) (i+1) s Q↔zW (t::pre) δ i s Q:=by simp [zW]
def zU {s t:Sl} {Q:Loc->Prop}:zW pre (t::δ) 0 s Q↔uO pre (s::δ) Q:=by simp [zW,uO]
def Cd {i:Nat} {s:Sl} {Q:Loc->Prop}:JQ δ i s Q↔qV [] δ i s Q:=bZ
def wY {i:Nat} {s t:Sl} {Q:Loc->Prop}:qV pre (t::δ) (i+1) s Q↔qV (t::pre) δ i s Q:=by simp [qV]
def wX {s t:Sl} {Q:Loc->Prop}:qV pre (t::δ) 0 s Q↔uO pre (s::δ) Q:=by simp [qV,uO]
def Aa {t:Sl} {Q:Loc->Prop}:uO (t::pre) δ Q↔uO pre (t::δ) Q:=by simp [uO]
def Cb {Q:Loc->Prop}:uO [] δ Q↔Q δ:=bZ
def zX {δ0:Loc} {i j:Nat} {t:Sl} {Q:D->Loc->Prop}:zY δ0 j (t::δ) (i+1) Q↔zY δ0 j δ i Q:=bZ
def BN {δ0:Loc} {j:Nat} {d:D} {Q:D->Loc->Prop}:zY δ0 j (.val d::δ) 0 Q↔Q d δ0:=bZ
def BO {δ0:Loc} {j:Nat} {ds:List D} {Q:D->Loc->Prop}:zY δ0 j (.own ds::δ) 0 Q↔JQ δ0 j (.val (.lst ds)) λδ1=>Q (.lst ds) δ1:=bZ
def Ad {i:Nat} {t:Sl} {Q:D->Prop}:xg (t::δ) (i+1) Q↔xg δ i Q:=bZ
def Cq {d:D} {Q:D->Prop}:xg (.val d::δ) 0 Q↔Q d:=yr
def Cr {ds:List D} {Q:D->Prop}:xg (.own ds::δ) 0 Q↔Q (.lst ds):=yr
def Ab {i:Nat} {t:Sl} {Q:List D->Prop}:nW (t::δ) (i+1) Q↔nW δ i Q:=bZ
def Ce {ds:List D} {Q:List D->Prop}:nW (.own ds::δ) 0 Q↔Q ds:=bZ
def zZ {i:Nat} {t:Sl} {Q:D->Prop}:BQ (t::δ) (i+1) Q↔BQ δ i Q:=bZ
def BP {d:D} {Q:D->Prop}:BQ (.val d::δ) 0 Q↔Q d:=bZ
def Gj {i:Nat} {Q:D->Loc->Prop}:wE cx (.var i) δ Q↔zY δ i δ i Q:=by
 rw [JT];unfold EN zY PP.get demote
 cases h:δ[i]? with
 | none=>simp
 | some s=>cases s<;>simp
def Gk {i:Nat} {Q:D->Loc->Prop}:wE cx (.pop i) δ Q↔nW δ i λes=>∃ ds d,es = ds++[d]/\nV δ i (.own ds) λδ'=>Q d δ':=by
 rw [JW];unfold nW nV;constructor
 . rintro ⟨ds,d,h,q⟩;rw [h];exact ⟨ds,d,rfl,(aE.mp h).1,q⟩
 . intro h;split at h
   . rename_i es he;obtain ⟨ds,d,rfl,_,q⟩:=h;exact ⟨ds,d,he,q⟩
   . exact h.elim
def gj {Q:Out->Prop}:wSs cx .nil δ Q↔Q (.nx δ):=yr
def cm {s:S} {ss:Ss} {Q:Out->Prop}:wSs cx (.cons s ss) δ Q↔wS cx s δ (lT cx ss Q):=by
 unfold wSs wS;simp only [cY]
 cases evS cx s δ with
 | none=>exact yn (λ⟨_,e,_⟩=>by cases e)
 | some o =>
   refine Iff.trans ?_ yr.symm
   cases o with
   | nx δ1=>exact bZ
   | _=>exact yr
def sy {tg:Tg} {e:E} {Q:Out->Prop}:wS cx (.asg tg e) δ Q↔wE cx e δ λd δ1=>wTg δ1 tg d λδ2=>Q (.nx δ2):=yb.trans (xc λ_ _=>yqs.trans (xd λ_=>yr))
def JH {i:Nat} {d:D} {Q:Loc->Prop}:wTg δ (.nm i) d Q↔nV δ i (.val d) Q:=yi
def JG {is:List Nat} {ds:List D} {Q:Loc->Prop}:wTg δ (.tp is) (.tup ds) Q↔(is.length = ds.length/\is.all (· < δ.length) = true)/\Q ((is.zip ds).foldl (λδ p=>δ.set p.1 (.val p.2)) δ):=yi
def JN {i:Nat} {e:E} {Q:Out->Prop}:wS cx (.new i e) δ Q↔wE cx e δ λd δ1=>∃ ds,d = .lst ds/\nV δ1 i (.own ds) λδ2=>Q (.nx δ2):=yb.trans (xc λx _=>by
 cases x with
 | lst k=>refine Iff.trans ?_ ES.symm;exact yi
 | _=>exact yn λ⟨_,e,_⟩=>by cases e)
def JO {own:Bool} {i:Nat} {e:E} {Q:Out->Prop}:wS cx (.cmp own i e) δ Q↔wE cx e δ λd δ1=>∃ ds,d = .lst ds/\nV δ1 i (bif own then .own ds else .val (.lst ds)) λδ2=>Q (.nx δ2):=yb.trans (xc λx _=>by
 cases x with
 | lst k=>refine Iff.trans ?_ ES.symm;cases own<;>exact yi
 | _=>exact yn λ⟨_,e,_⟩=>by cases e)
def Ge {i:Nat} {e:E} {Q:Out->Prop}:wS cx (.cmp false i e) δ Q↔wE cx e δ λd δ1=>∃ ds,d = .lst ds/\nV δ1 i (.val (.lst ds)) λδ2=>Q (.nx δ2):=JO
def Kg (x y:D) (Q:D->Prop):Prop:=∃ z,Bp x y = some z/\Q z
def Kf {a b:Int} {Q:D->Prop}:Kg (.int a) (.int b) Q↔Q (.int (a+b)):=yr
def Gf {i:Nat} {e:E} {Q:Out->Prop}:wS cx (.aug i .add e) δ Q↔BQ δ i λx=>wE cx e δ λy δ1=>Kg x y λz=>JQ δ1 i (.val z) λδ2=>Q (.nx δ2):=by
 unfold wS BQ;simp only [evS]
 cases δ[i]? with
 | none=>exact yn id
 | some s =>
   cases s with
   | val x =>
     refine yb.trans (xc λy δ1=>?_);show (∃ o,(Bp x y).map _ = some o/\Q o)↔_;unfold Kg
     cases Bp x y with
     | none=>exact yn λ⟨_,e,_⟩=>by cases e
     | some z=>exact yr.trans ⟨λq=>⟨z,rfl,q⟩,λ⟨_,e,q⟩=>by cases e;exact q⟩
   | _=>exact yn id
def mJ {e:E} {Q:Out->Prop}:wS cx (.ret e) δ Q↔wE cx e δ λd δ1=>Q (.rt d δ1):=yb.trans (xc λ_ _=>yr)
def BY {c:E} {a b:Ss} {Q:Out->Prop}:wS cx (.ifs c a b) δ Q↔wT cx c δ λk δ1=>if k = true then wSs cx a δ1 Q else wSs cx b δ1 Q:=yb.trans (xc λk _=>by cases k<;>exact bZ)
def BZ {tg:Tg} {src:It} {body:Ss} {Q:Out->Prop}:wS cx (.for_ tg src body) δ Q↔wI cx src δ λds δ1=>kb cx tg body ds δ1 Q:=yb.trans (xc λ_ _=>bZ)
def BW {c:E} {body:Ss} {Q:Out->Prop}:wS cx (.while_ c body) δ Q↔pv cx c body 1000 δ Q:=bZ
def qU {i:Nat} {e:E} {Q:Out->Prop}:wS cx (.append i e) δ Q↔nW δ i λ_=>wE cx e δ λd δ1=>nW δ1 i λds=>ds.length < sizeLine/\nV δ1 i (.own (ds++[d])) λδ2=>Q (.nx δ2):=by
 unfold wS nW;simp only [evS]
 cases δ[i]? with
 | none=>exact yn id
 | some s =>
   cases s with
   | own ds0 =>
     refine yb.trans (xc λd δ1=>?_);dsimp only
     cases h1:δ1[i]? with
     | none=>exact yn id
     | some s =>
       cases s with
       | own ds=>exact yi.trans ⟨λq=>⟨q.1,(aE.mp h1).1,q.2⟩,λq=>⟨q.1,q.2.2⟩⟩
       | _=>exact yn id
   | _=>exact yn id
def BX {i:Nat} {j e:E} {Q:Out->Prop}:wS cx (.setix i j e) δ Q↔wE cx e δ λd δ1=>nW δ1 i λ_=>wE cx j δ1 λy δ2=>nW δ2 i λds=>∃ k m,y = .int k/\L2.ixN ds.length k = some m/\nV δ2 i (.own (ds.set m d)) λδ3=>Q (.nx δ3):=yb.trans (xc λd δ1=>by
 unfold nW;dsimp only
 cases δ1[i]? with
 | none=>exact yn id
 | some s =>
   cases s with
   | own ds0 =>
     refine yb.trans (xc λy δ2=>?_)
     cases y with
     | int k =>
       dsimp only
       cases h2:δ2[i]? with
       | none=>exact yn id
       | some s =>
         cases s with
         | own ds =>
           dsimp only
           cases h3:L2.ixN ds.length k with
           | none=>exact yn λ⟨_,_,e1,e2,_⟩=>by cases e1;rw [h3] at e2;cases e2
           | some m=>exact yr.trans ⟨λq=>⟨_,_,rfl,h3,(aE.mp h2).1,q⟩,λ⟨_,_,e1,e2,_,q⟩=>by cases e1;rw [h3] at e2;cases e2;exact q⟩
         | _=>exact yn id
     | _ =>
       refine yn ?_;split
       . exact λ⟨_,_,e,_⟩=>by cases e
       . exact id
   | _=>exact yn id)
def jh {tg:Tg} {body:Ss} {Q:Out->Prop}:kb cx tg body [] δ Q↔Q (.nx δ):=yr
def ji {tg:Tg} {body:Ss} {x:D} {xs:List D} {Q:Out->Prop}:kb cx tg body (x::xs) δ Q↔wTg δ tg x λδ2=>wSs cx body δ2 (qb (λδ3=>kb cx tg body xs δ3 Q) Q):=by
 unfold kb wTg wSs;simp only [forL,OD]
 cases fQ δ tg x with
 | none=>exact yn (λ⟨_,e,_⟩=>by cases e)
 | some δ2 =>
   refine Iff.trans ?_ yr.symm;dsimp only
   cases cY cx body δ2 with
   | none=>exact yn (λ⟨_,e,_⟩=>by cases e)
   | some o =>
     refine Iff.trans ?_ yr.symm
     cases o with
     | nx δ1=>exact bZ
     | _=>exact yr
def uN {c:E} {body:Ss} {n:Nat} {Q:Out->Prop}:pv cx c body (n+1) δ Q↔wT cx c δ λk δ1=>if k = true then wSs cx body δ1 (qb (λδ3=>pv cx c body n δ3 Q) Q) else Q (.nx δ1):=by
 unfold pv wT wSs;simp only [lB]
 cases evT cx c δ with
 | none=>exact yn (λ⟨_,_,e,_⟩=>by cases e)
 | some p =>
   refine Iff.trans ?_ (xq.trans yr).symm;obtain ⟨k,δ1⟩:=p
   cases k with
   | false=>exact yr
   | true =>
     dsimp only
     cases cY cx body δ1 with
     | none=>exact yn (λ⟨_,e,_⟩=>by cases e)
     | some o =>
       refine Iff.trans ?_ yr.symm
       cases o with
       | nx δ1=>exact bZ
       | _=>exact yr
def uP {tg:Tg} {body:Ss} {Q:Out->Prop} (P:List D->Loc->Prop) (step:∀ x xs δ,P (x::xs) δ->wTg δ tg x λδ2=>wSs cx body δ2 (qb (P xs) Q)) (fin:∀ δ,P [] δ->Q (.nx δ)):∀ (ds:List D) (δ:Loc),P ds δ->kb cx tg body ds δ Q
 | [],δ,h=>jh.mpr (fin δ h)
 | x::xs,δ,h=>by
   rw [ji];obtain ⟨δ2,e,o,e2,q⟩:=step x xs δ h;refine ⟨δ2,e,o,e2,?_⟩
   cases o with
   | nx δ1=>exact uP P step fin xs δ1 q
   | rt d δ1=>exact q
   | ro d δ1=>exact q
def lD {k:Nat} {tg:Tg} {ifs:Eo} {elt:E} {Q:List D->Loc->Prop} (P:D->D->Prop):∀ (ds:List D),(∀ x∈ds,wTg (δ++aU k .no) tg x λδ2=>wG cx ifs δ2 λb δ3=>b = true/\wE cx elt δ3 λy δ4=>P x y/\δ4.take δ.length = δ) ->
 (∀ ys,PySem.Paired P ds ys->Q ys δ)->lQ cx k tg ifs elt ds δ Q
 | [],h,q=>qW.mpr (q [] .nil)
 | x::xs,h,q=>by
   rw [px];obtain ⟨δ2,e,b,δ3,e2,rfl,y,δ4,e3,p,t⟩:=h x av;refine ⟨δ2,e,true,δ3,e2,?_⟩;show if true = true then _ else _
   rw [if_pos rfl];refine ⟨y,δ4,e3,?_⟩;show lQ cx k tg ifs elt xs (δ4.take δ.length) _;rw [t];exact lD P xs (λz hz=>h z (ai _ hz)) λys r=>q (y::ys) (.cons p r)
end
def Cp {a b:Int} {Q:D->Prop}:wOp .add (.int a) (.int b) Q↔Q (.int (a+b)):=yr
def Cf {a b:Int} {Q:D->Prop}:wOp .sub (.int a) (.int b) Q↔Q (.int (a - b)):=yr
def Cj {a b:Int} {Q:D->Prop}:wOp .mul (.int a) (.int b) Q↔rH a b = true/\Q (.int (a * b)):=yi
def Cm {a b:Int} {Q:D->Prop}:wOp .mod (.int a) (.int b) Q↔0 < b/\Q (.int (a % b)):=yi
def Ac {a b:Int} {Q:D->Prop}:wOp .fdiv (.int a) (.int b) Q↔(0 < b/\b < 1000000000000000000000000000000000000000000000000000000000000)/\Q (.int (a / b)):=yi
def Cg {a b:Int} {Q:D->Prop}:wOp .pow (.int a) (.int b) Q↔(0<=b/\b<=1000000/\a.natAbs < 2 ^ 64)/\Q (.int (a ^ b.toNat)):=yi
def Cn {a b:Str} {Q:D->Prop}:wOp .add (.str a) (.str b) Q↔a.length+b.length<=sizeLine/\Q (.str (a++b)):=yi
def Ci {a:Str} {b:Int} {Q:D->Prop}:wOp .mul (.str a) (.int b) Q↔(0<=b/\b<=1000/\a.length<=1000)/\Q (.str (qG a b.toNat)):=yi
def Co {a b:List D} {Q:D->Prop}:wOp .add (.lst a) (.lst b) Q↔a.length+b.length<=sizeLine/\Q (.lst (a++b)):=yi
def Gm {a b:Int} {Q:Bool->Prop}:qE .lt (.int a) (.int b) Q↔Q (decide (a < b)):=yr
def Gn {a b:Int} {Q:Bool->Prop}:qE .gt (.int a) (.int b) Q↔Q (decide (b < a)):=yr
def Cu {a b:Int} {Q:Bool->Prop}:qE .eq (.int a) (.int b) Q↔Q (decide (a = b)):=yr
def Ct {a b:Str} {Q:Bool->Prop}:qE .eq (.str a) (.str b) Q↔Q (a == b):=yr
def uR {a:D} {ds:List D} {Q:Bool->Prop}:qE .isin a (.tup ds) Q↔(dep a<=150/\cb ds < 99999)/\Q (ds.any λy=>eqD y a):=yi
def Ah {ds:List D} {Q:D->Prop}:sF .len [.lst ds] Q↔Q (.int ds.length):=yr
def Cv {i j:Int} {Q:D->Prop}:sF .min [.int i,.int j] Q↔Q (.int (if j < i then j else i)):=yr
def Cw {i j:Int} {Q:D->Prop}:sF .max [.int i,.int j] Q↔Q (.int (if j > i then j else i)):=yr
def Ae {ds:List D} {Q:D->Prop}:sF .toTup [.lst ds] Q↔Q (.tup ds):=yr
def Ag {ds:List D} {Q:D->Prop}:sF .toLst [.lst ds] Q↔Q (.lst ds):=yr
def Af {ds:List D} {Q:D->Prop}:sF .toLst [.tup ds] Q↔Q (.lst ds):=yr
def uS {ds:List D} {Q:D->Prop}:sF .sorted [.lst ds] Q↔sortable ds = true/\Q (.lst (jX ds)):=yi
def Gb {ds:List D} {Q:Bool->Prop}:wTv (.lst ds) Q↔Q (!ds.isEmpty):=yr
def Gg {ds:List D} {i:Int} {Q:D->Prop}:wIx (.lst ds) (.int i) Q↔∃ d,L2.atI ds i = some d/\Q d:=bZ
def xf {ds:List D} {Q:List D->Prop}:wItems (.lst ds) Q↔Q ds:=yr
def wZ {ds:List D} {Q:List D->Prop}:wItems (.tup ds) Q↔Q ds:=yr
def xa {x:Str} {Q:List D->Prop}:wItems (.str x) Q↔x.length<=sizeLine/\Q (x.cps.toList.map λc=>.str ⟨#[c]⟩):=yi
def fZ (G:List Fd) (gl:List D) (n i:Nat) (ds:List D) (Q:D->Prop):Prop:=∃ d,PP.run G gl n i ds = some d/\Q d
def retS (Q:D->Prop):Out->Prop
 | .rt d _=>Q d
 | .nx _=>Q .non
 | .ro d _=>Q d
def mK {G:List Fd} {gl:List D} {n i:Nat} {ds:List D} {P Q:D->Prop} (h:fZ G gl n i ds P) (k:∀ d,P d->Q d):fZ G gl n i ds Q:=by
 obtain ⟨d,e,p⟩:=h;exact ⟨d,e,k d p⟩
def aX {G:List Fd} {gl:List D} {n i:Nat} {ds:List D} {Q:D->Prop} (fd:Fd) (h:G[i]? = some fd) (hl:ds.length = fd.ps.length) (hf:fd.hf = false) (q:wSs ⟨PP.run G gl n,gl,hfs G⟩ fd.body (init (fd.ps++fd.loc).length ds) (retS Q)):fZ G gl (n+1) i ds Q:=by
 obtain ⟨o,e,q⟩:=q;unfold fZ
 have:PP.run G gl (n+1) i ds = outD (cY ⟨PP.run G gl n,gl,hfs G⟩ fd.body (init (fd.ps++fd.loc).length ds)):=by
  conv=>lhs;unfold PP.run
  rw [h];dsimp only;rw [if_pos hl,hf];rfl
 rw [this,e]
 cases o with
 | rt d δ=>exact ⟨d,rfl,q⟩
 | ro d δ=>exact ⟨d,rfl,q⟩
 | nx δ=>exact ⟨.non,rfl,q⟩
def mL {G:List Fd} {gl:List D} {n f:Nat} {ds:List D} {Q:D->Prop}:Jb ⟨PP.run G gl n,gl,hfs G⟩ f ds Q↔fZ G gl n f ds Q:=bZ
def Hi {Q:D->Prop} {d:D} {δ:Loc}:retS Q (.rt d δ)↔Q d:=bZ
def fy {G:List Fd} {gl:List D} {n i:Nat} {ds:List D} {d:D} {Q:D->Prop} (h:PP.run G gl n i ds = some d):fZ G gl n i ds Q↔Q d:=by
 unfold fZ;rw [h];exact ⟨λ⟨_,e,q⟩=>by cases e;exact q,λq=>⟨d,rfl,q⟩⟩
def bc {G:List Fd} {gl:List D} {n i:Nat} {ds:List D} {d:D} (h:fZ G gl n i ds λx=>x = d):PP.run G gl n i ds = some d:=by
 obtain ⟨x,e,rfl⟩:=h;exact e
def Jy {α:Type} {ds:List α} {j:Int} (h0:0<=j) (h1:j < ds.length):∃ d,d∈ds/\L2.atI ds j = some d:=by
 have hk:j.toNat < ds.length:=by omega
 refine ⟨ds[j.toNat],bS hk,?_⟩;have:=L2.atI_nat (xs:=ds) (j:=j.toNat) (v:=ds[j.toNat]) (aB hk)
 rwa [show ((j.toNat:Nat):Int) = j by omega] at this
def mul_r {a b:Int} (h0:-(2 ^ 64) < b) (h1:b < 2 ^ 64):rH a b = true:=by
 unfold rH;simp only [decide_eq_true h0,decide_eq_true h1,jx,wU,nU]
def GA (a b:Str):(a++b).length = a.length+b.length:=by
 show (a.cps++b.cps).size = a.cps.size+b.cps.size;exact Array.size_append
def small {n:Nat} (h:n<=1000):n<=sizeLine:=iG (dA h ⇑0)
def Hg {lo:Int} {n:Nat} {x:D} (h:x∈lX lo n):∃ i:Nat,i < n/\x = .int (lo+i):=by
 unfold lX at h;rw [bG] at h;obtain ⟨i,hi,rfl⟩:=h;exact ⟨i,by simpa using hi,rfl⟩
def Hh {lo:Int} {n:Nat}:(lX lo n).length = n:=by simp [lX]
def sv {δ:Loc} {i j:Nat} {a b:D} {Q:Loc->Prop}:wTg δ (.tp [i,j]) (.tup [a,b]) Q↔nV δ i (.val a) λδ1=>nV δ1 j (.val b) Q:=by
 rw [JG];unfold nV;simp only [mF,List.all_nil,bu,gO,aa,decide_eq_true_eq];exact ⟨λ⟨⟨_,h1,h2⟩,q⟩=>⟨h1,h2,q⟩,λ⟨h1,h2,q⟩=>⟨⟨rfl,h1,h2⟩,q⟩⟩
def SI:=ax (@az.{0,0}) (ax (@eK.{0,0}) (ax (@List.cons_append.{0}) (ax (@List.nil_append.{0}) (ax (@cq.{0}) (ax (@aG.{0}) (ax (@bf.{0}) (ax (@Bx.{0}) (@List.replicate_zero.{0}))))))))
def WI:(∀ a b:Prop,(if True then a else b) = a)/\(∀ a b:Prop,(if False then a else b) = b)/\((false = true) = False)/\∀ (p:Prop) [Decidable p],(decide p = true) = p:=⟨λ_ _=>if_pos trivial,λ_ _=>if_neg id,↥0,λp _=>by simp⟩
def WS:=ax (@Nt) (ax (@Kb) (ax (@Nw) (ax (@JV) (ax (@Ke) (ax (@Kc) (ax (@JK) (ax (@xh) (ax (@JY) (ax (@JL) (ax (@Ni) (ax (@JJ) (ax (@JI) (ax (@JU) (ax (@JZ) (ax (@Nv) (ax (@Nr) (ax (@oi) (ax (@Kd) (ax (@uQ) (ax (@Gi) (ax (@Cs) (ax (@Nn) (ax (@JR) (ax (@Nq) (ax (@JS) (ax (@Np) (ax (@oh) (ax (@uX) (ax (@CC) (ax (@Er) (ax (@Ep) (ax (@BV) (ax (@zV) (ax (@zU) (ax (@Cd) (ax (@wY) (ax (@wX) (ax (@Aa) (ax (@Cb) (ax (@zX) (ax (@BN) (ax (@BO) (ax (@Ad) (ax (@Cq) (ax (@Cr) (ax (@Ab) (ax (@Ce) (ax (@zZ) (ax (@BP) (ax (@Gj) (ax (@Gk) (ax (@gj) (ax (@cm) (ax (@sy) (ax (@JH) (ax (@JN) (ax (@Gf) (ax (@Kf) (ax (@mJ) (ax (@BY) (ax (@BZ) (ax (@qU) (ax (@Cp) (ax (@Cf) (ax (@Cj) (ax (@Cm) (ax (@Ac) (ax (@Cg) (ax (@Cn) (ax (@Ci) (ax (@Co) (ax (@Gm) (ax (@Gn) (ax (@Cu) (ax (@Ct) (ax (@uR) (ax (@Ah) (ax (@Cv) (ax (@Cw) (ax (@Ae) (ax (@Ag) (ax (@Af) (ax (@uS) (ax (@Gb) (ax (@Gg) (ax (@xf) (ax (@wZ) (ax (@xa) (ax (@mL) (ax (@Hi) (ax (@IB) (ax (@zw) (ax (@ES) (ax (@sv) (fk)))))))))))))))))))))))))))))))))))))))))))))))))))))))))))))))))))))))))))))))))))))))))))))))
def se {α:Type} (e:∀ i j,i < n->j < n->lt i j = lt' i j):∀ (t:PySem.W.KasT α),inR lt n t->ans lt t = ans lt' t
 | .ret a,_=>rfl
 | .ask i j k,h=>by
   unfold inR at h;rw [fc,fc,<- e i j h.1 h.2.1];exact se e _ h.2.2
def rh {α β:Type} (d:α) (f:α->β) (xs:List α):(bK xs.length).map (λi=>f (xs.getD i d)) = xs.map f:=by
 apply List.ext_getElem
 . simp
 . intro i h1 h2;simp only [aw] at h2;simp [iH,aB h2]
def CK {α:Type} [Inhabited α] (g:α->D) (lt:α->α->Bool) (hlt:∀ x y,iX (g x) (g y) = some (lt x y)) (as:∀ a b,lt a b = true->lt b a = false) (tr:∀ a b c,lt b a = false->lt c b = false->lt c a = false) (xs:List α) :
 ∃ ys:List α,jX (xs.map g) = ys.map g/\ys.Perm xs/\∀ i j,i<=j->j < ys.length->lt (ys.getD j default) (ys.getD i default) = false:=by
 have rf:∀ a,lt a a = false:=λa=>by
  cases e:lt a a with
  | false=>rfl
  | true=>rw [as a a e] at e;cases e
 unfold jX;rw [aw];split
 . rename_i h;refine ⟨xs,rfl,List.Perm.refl _,λi j h1 h2=>?_⟩;have:i = j:=by omega
   subst this;exact rf _
 . rename_i h
   have hg:∀ i,i < xs.length->(xs.map g).getD i .non = g (xs.getD i default):=λi hi=>by
    simp [iH,aB hi]
   have e:ans (fR (xs.map g)) (PySem.W.kas_sort xs.length) = ans (λi j=>lt (xs.getD i default) (xs.getD j default)) (PySem.W.kas_sort xs.length):=by
    refine se (n:=xs.length) (λi j hi hj=>?_) _ (yE (by omega));unfold fR;rw [hg i hi,hg j hj,hlt];rfl
   rw [e];obtain ⟨z,p,u⟩:=GB (lt:=λi j=>lt (xs.getD i default) (xs.getD j default)) ⟨λa b=>as _ _,λa b c=>tr _ _ _⟩ xs.length (by omega);have pl:(ans (λi j=>lt (xs.getD i default) (xs.getD j default)) (PySem.W.kas_sort xs.length)).toList.Perm (bK xs.length):=(letI:Tbs:=⟨[],[],[],[]⟩;jk _);generalize ans (λi j=>lt (xs.getD i default) (xs.getD j default)) (PySem.W.kas_sort xs.length) = r at z p u pl |-;refine ⟨r.toList.map λi=>xs.getD i default,?_,?_,λi j h1 h2=>?_⟩
   . rw [fX];refine Bz λi hi=>?_;exact hg i (by simpa using pl.mem_iff.mp hi)
   . have:=pl.map λi=>xs.getD i default
     rwa [show (bK xs.length).map (λi=>xs.getD i default) = xs from by simpa using rh default id xs] at this
   . rw [aw,fw,z] at h2
     have hr:∀ k,k < xs.length->(r.toList.map λi=>xs.getD i default).getD k default = xs.getD (r.getD k 0) default:=λk hk=>by
      have hk':k < r.toList.length:=by rw [fw,z];exact hk
      have hk2:k < r.size:=by rw [z];exact hk
      simp [iH,hk2,Array.getD]
     rw [hr i (by omega),hr j h2];exact u i j h1 h2
section
variable {cx:Cl} {δ:Loc}
def gZ {α:Type} (g:α->D) (p:α->Bool) (h:α->D):∀ (xs:List α),(∀ x∈xs,wTg (δ++aU k .no) tg (g x) λδ2=>wG cx ifs δ2 λb δ3=>b = p x/\if b = true then wE cx elt δ3 λy δ4=>y = h x/\δ4.take δ.length = δ else δ3.take δ.length = δ) ->
 Q ((xs.filter p).map h) δ->lQ cx k tg ifs elt (xs.map g) δ Q
 | [],_,q=>qW.mpr q
 | x::xs,hx,q=>by
   rw [az,px];obtain ⟨δ2,e,b,δ3,e2,rfl,e3⟩:=hx x av;refine ⟨δ2,e,_,δ3,e2,?_⟩
   cases hp:p x with
   | true =>
     rw [hp,if_pos rfl] at e3;obtain ⟨y,δ4,e4,rfl,t⟩:=e3;rw [if_pos rfl];refine ⟨_,δ4,e4,?_⟩;show lQ cx k tg ifs elt _ (δ4.take δ.length) _;rw [t];refine gZ g p h xs (λz hz=>hx z (ai _ hz)) ?_;rw [wM hp] at q
     exact q
   | false =>
     rw [hp,if_neg ak] at e3;rw [if_neg ak,e3];refine gZ g p h xs (λz hz=>hx z (ai _ hz)) ?_;rw [wN (by simp [hp])] at q;exact q
def fP {α:Type} (g:α->D) (P:List α->Loc->Prop) (step:∀ x xs δ,P (x::xs) δ->wTg δ tg (g x) λδ2=>wSs cx body δ2 (qb (P xs) Q)) (fin:∀ δ,P [] δ->Q (.nx δ)) (xs:List α) (δ:Loc) (h:P xs δ):kb cx tg body (xs.map g) δ Q:=by
 induction xs generalizing δ with
 | nil=>exact jh.mpr (fin δ h)
 | cons x xs ih =>
   rw [az,ji];obtain ⟨δ2,e,o,e2,q⟩:=step x xs δ h;refine ⟨δ2,e,o,e2,?_⟩
   cases o with
   | nx δ3=>exact ih δ3 q
   | rt d δ3=>exact q
   | ro d δ3=>exact q
end
section
variable {cx:Cl} {δ:Loc}
end
section
variable {cx:Cl} {δ:Loc}
end
end PP
end
section
namespace PP
open PySem L2 PyProof.Rows
variable [Tbs]
section
variable {K:PySem.W.Frag} {H:Hp} {F:au->Prop}
def BG (x:Str) (v:V):∀ (ks:List Str) (vs:List V),x∉ks->(zk ks vs).map (λkv=>if kv.1 = (js x:Key) then (kv.1,v) else kv) = zk ks vs
 | [],_,_=>by unfold zk;rfl
 | _::_,[],_=>by unfold zk;rfl
 | k::ks,w::vs,h=>by
   unfold zk;rw [az,if_neg (qh λe=>h (by rw [e];exact av)),BG x v ks vs λm=>h (ai _ m)]
def Hv {p:Key × V} {r:List (Key × V)} {k:Key} {v:V} (h:¬ p.1 = k):putK (p::r) k v = p::putK r k v:=by
 unfold putK;rw [eT,decide_eq_false h,uI,az,if_neg h];split<;>rfl
def vX:∀ {ks:List Str} {ds:List D},y∈(dG ks ds x e).1->y∈ks\/y = x
 | [],ds,h=>by unfold dG at h;exact .inr (aC.mp h)
 | k::ks,[],h=>by unfold dG at h;exact .inr (aC.mp h)
 | k::ks,d::ds,h=>by
   unfold dG at h;split at h
   . exact .inl h
   . rcases aD.mp h with h | h
     . exact .inl (by rw [h];exact av)
     . exact (vX h).imp (ai _) id
def zF {x:Str} {e:D} {v:V} (re:Rel K H F e v):∀ {ks:List Str} {ds:List D} {vs:List V},ks.Nodup->ks.length = ds.length->aK K H F ds vs ->
 ∃ vs',putK (zk ks vs) (.inr x) v = zk (dG ks ds x e).1 vs'/\(dG ks ds x e).1.Nodup/\(dG ks ds x e).1.length = (dG ks ds x e).2.length/\aK K H F (dG ks ds x e).2 vs'
 | [],[],vs,_,_,r=>by
   unfold aK at r;subst r
   exact ⟨[v],rfl,da.mpr ⟨cj,iT⟩,rfl,aK.one re⟩
 | [],_::_,vs,_,hl,_=>by cases hl
 | k::ks,[],vs,_,hl,_=>by cases hl
 | k::ks,d::ds,vs,nd,hl,r=>by
   unfold aK at r;obtain ⟨w,vs',rfl,r1,r2⟩:=r;obtain ⟨n1,n2⟩:=da.mp nd;rw [show zk (k::ks) (w::vs') = (.inr k,w)::zk ks vs' from rfl];unfold dG;by_cases h:k = x
   . subst h;rw [if_pos rfl];refine ⟨v::vs',?_,nd,hl,aK.cons re r2⟩;unfold putK;rw [eT,decide_eq_true rfl,nU,if_pos rfl,az,if_pos rfl,BG _ _ _ _ n1];rfl
   . rw [if_neg h];obtain ⟨us,e1,e2,e3,e4⟩:=zF (x:=x) re n2 (cO hl) r2;refine ⟨w::us,?_,da.mpr ⟨λm=>?_,e2⟩,by rw [aG,aG,e3],aK.cons r1 e4⟩
     . rw [Hv (qh h),e1];rfl
     . rcases vX m with m | m
       . exact n1 m
       . exact h m
end
section
variable {X:Cx} {cx:Cl}
def Rel.dct {K:PySem.W.Frag} {H:Hp} {F:au->Prop} {ks:List Str} {ds:List D} {v:V} (h:Rel K H F (.dct ks ds) v):∃ a vs,v = .ref a/\Rd H a (.dK (zk ks vs))/\ks.Nodup/\ks.length = ds.length/\aK K H F ds vs:=by
 unfold Rel at h;obtain ⟨a,vs,e,h1,_,h3,h4,h5⟩:=h;exact ⟨a,vs,e,h1,h3,h4,h5⟩
def DGet.rd (e:Rd H a (.dK kvs)):L2.DGet H a (kV k) (hZ kvs k):=.inl ⟨kvs,k,e,rfl,rfl⟩
def GR {a b:E} {y z:aI} {pos:Pos} (hu:X.A.units+1 < cLine) (na:(!bE a) = true) (nb:(!bE b) = true) (ha:PE X y (tE X.K cx a)) (hb:PE X z (tE X.K cx b)) (hs:MT z):PE X (.Subscript y z pos) (tE X.K cx (.dix a b)):=by
 refine PE.imp (HH hu ha hb hs) λσ H Q h=>?_;obtain ⟨G,F,δ,d,δ',ok,ev,post⟩:=h;simp only [evE,af,ae] at ev;obtain ⟨⟨x,δ1⟩,ea,⟨y',δ2⟩,eb,ev⟩:=ev;dsimp only at ev eb;split at ev
 . rename_i ks ds t;rw [aL] at ev;obtain ⟨d0,e1,e2⟩:=ev;cases e2;refine ⟨G,F,δ,_,δ1,ok,ea,λv H1 F1 st1 sm1 ok1 r1=>⟨G,F1,δ1,_,_,ok1,eb,λu H2 F2 st2 sm2 ok2 r2=>?_⟩⟩;have r1':=Rel.step ok1.fd st2 _ _ (cW na r1);have e3:=r2.b.str;subst e3;obtain ⟨p,vs,e4,h1,h2,h3,h4⟩:=r1'.dct;obtain ⟨w,e5,rw'⟩:=(qp t h3 h4).1 d e1;refine ⟨p,w,e4,e5▸DGet.rd (k:=.inr t) h1,post w H2 F2 (st1.trans st2) (λz=>?_) ok2 (fB rw')⟩;have z':=(aa _ _).mp (show (np a && np b) = true from z);exact (sm1 z'.1).trans (sm2 z'.2)
 . cases ev
def GS {a b e:E} {y z w:aI} {ap cp:Pos} (hu:X.A.units+1 < cLine) (na:(!bE a) = true) (nb:(!bE b) = true) (ne:(!bE e) = true) (ha:PE X y (tE X.K cx a)) (hb:PE X z (tE X.K cx b)) (he:PE X w (tE X.K cx e)) (m:M2 X y "get" ap z w cp) :
 PE X (.Call (.Attribute y "get" ap) [z,w] [] cp) (tE X.K cx (.dgt a b e)):=by
 refine PE.imp (DP hu ha hb he m) λσ H Q h=>?_;obtain ⟨G,F,δ,d,δ',ok,ev,post⟩:=h;simp only [evE,af,ae] at ev;obtain ⟨⟨x,δ1⟩,ea,⟨y',δ2⟩,eb,⟨z',δ3⟩,ec,ev⟩:=ev;dsimp only at ev eb ec;split at ev
 . rename_i ks ds t;cases ev;refine ⟨G,F,δ,_,δ1,ok,ea,λv H1 F1 st1 sm1 ok1 r1=>?_⟩;have q1:=cW na r1;obtain ⟨p,vs,e4,h1,_⟩:=q1.dct;refine ⟨p,e4,.inl ⟨_,h1⟩,G,F1,δ1,_,δ2,ok1,eb,λu H2 F2 st2 sm2 ok2 r2=>⟨G,F2,δ2,z',_,ok2,ec,λw H3 F3 st3 sm3 ok3 r3=>?_⟩⟩;have e3:=r2.b.str;subst e3;have q3:=Rel.step ok1.fd (st2.trans st3) _ _ q1;obtain ⟨p',vs',e4',h1',h2,h3,h4⟩:=q3.dct;rw [e4] at e4';cases e4';obtain ⟨g1,g2⟩:=qp t h3 h4;refine ⟨_,DGet.rd (k:=.inr t) h1',?_⟩
   have fin:∀ u,Rel X.K H3 F3 ((gP ks ds t).getD z') u->Q u H3:=λu r=>post u H3 F3 ((st1.trans st2).trans st3) (λz=>by
    have z1:=(aa _ _).mp (show (np a && np b && np e) = true from z);have z2:=(aa _ _).mp z1.1;exact ((sm1 z2.1).trans (sm2 z2.2)).trans (sm3 z1.2)) ok3 (fB r)
   cases eg:gP ks ds t with
   | none =>
     rw [g2 eg];refine fin _ ?_;rw [eg]
     exact cW ne r3
   | some d0 =>
     obtain ⟨w',e5,rw'⟩:=g1 d0 eg;rw [e5];refine fin _ ?_;rw [eg];exact rw'
 . cases ev
end
section
variable {cx:Cl} {k:Nat}
def iL:∀ {es:Es},jE es = true->qH es = true
 | .nil,_=>rfl
 | .cons e es,h=>by
   have h':(!bE e && jE es) = true:=h;rw [aa] at h';show ((!bE e || npS es) && qH es) = true;rw [h'.1,iL h'.2];rfl
def ia:∀ {es:Es} {ys:List aI},jo c es ys = true->(backTo pos (starEach ys env)).any (·.1) = false
 | .nil,ys,h=>by obtain ⟨rfl,_⟩:=cR h;rfl
 | .cons e es,ys,h=>by
   obtain ⟨_,_,rfl,hh⟩:=cD h;rw [aa] at hh;rw [bO (bP hh.1)];show (false || (backTo pos (starEach _ env)).any (·.1)) = false;rw [ia hh.2];rfl
def pM (C:Cok X c cx k) (h:lV c sc = true):qw X sc:=by
 unfold lV at h;rw [aa,aW] at h;obtain ⟨h1,h2⟩:=h
 have q:∀ p∈sc.names,p.2≠.cell/\(p.2 = .local->sc.names.lookup p.1 = some .local)/\(p.2 = .free->c.sc.names.lookup p.1 = some .cell\/c.sc.names.lookup p.1 = some .free):=λp hp=>by
  have z:=h2 p hp;rw [aa,aa] at z;obtain ⟨⟨a,b⟩,d⟩:=z;refine ⟨of_decide_eq_true a,λe=>?_,λe=>?_⟩
  . rw [cK] at b;rcases b with b | b
    . simp [e] at b
    . exact of_decide_eq_true b
  . rw [cK] at d;rcases d with d | d
    . simp [e] at d
    . split at d
      . exact .inl ‹_›
      . exact .inr ‹_›
      . cases d
 exact ⟨of_decide_eq_true h1,λy hy=>(q y hy).1,λy hy e=>(q y hy).2.1 e,λx hx=>C.kc x ((q _ hx).2.2 rfl)⟩
def hJ (C:Cok X c cx k) (h:lV c sc = true) (hn:Nc.Nodup) (cl:List (Str × au)) (Ca:au) (s:aj) (H:Hp) (fp:List au):Cok (cxC X sc cl Ca Nc s H fp) ⟨Nc,sc,c.fns,c.gn⟩ cx k:=by
 have S:=pM C h;have kd:∀ x,(cxC X sc cl Ca Nc s H fp).env.kindOf x = (sc.names.lookup x).map λk=>if (k == bR && X.env.scope.kind == .function && X.env.kindOf x == some .cell) then ll else k:=λx=>nh x
 refine ⟨rfl,hn,λx hx=>?_,λx hx=>?_,λx hx=>?_,λx hx=>?_,C.calm,rfl,C.room,C.fns,C.fnO,C.fnD,C.blt,C.glob,C.gsome,C.gds,C.pos⟩
 . have e:=kd x;show (cxC X sc cl Ca Nc s H fp).env.kindOf x = some .local\/(cxC X sc cl Ca Nc s H fp).env.kindOf x = some .cell\/(cxC X sc cl Ca Nc s H fp).env.kindOf x = some .free;rw [e];rcases hx with hx | hx | hx
   . rw [hx];exact .inl rfl
   . exact absurd rfl (S.nocell _ (PySem.mem_of_lookup hx))
   . rw [hx];simp only [eJ];split
     . exact .inr (.inl rfl)
     . exact .inr (.inr rfl)
 . show (cxC X sc cl Ca Nc s H fp).env.kindOf x = some .globalImplicit;rw [kd x];have hx:sc.names.lookup x = some .globalImplicit:=hx;rw [hx];rfl
 . have:sc.names.lookup x = some .local:=by
    rcases hx with hx | hx
    . exact hx
    . exact absurd rfl (S.nocell _ (PySem.mem_of_lookup hx))
   have e:(cxC X sc cl Ca Nc s H fp).env.kindOf x = some .local:=by rw [kd x,this];rfl
   exact ⟨.inl e,.inr e⟩
 . rw [kd x];have hx:sc.names.lookup x = some .cell\/sc.names.lookup x = some .free:=hx;rcases hx with hx | hx
   . exact absurd rfl (S.nocell _ (PySem.mem_of_lookup hx))
   . rw [hx];simp only [eJ];split
     . exact .inl rfl
     . exact .inr rfl
def mS (h:namesOk c sc Nc = true):Nc.Nodup/\∀ i x,i < c.N.length->Nc[i]? = some x->Vis sc x->c.N[i]? = some x/\sc.names.lookup x = some .free:=by
 unfold namesOk at h;rw [aa,aW] at h;refine ⟨of_decide_eq_true h.1,λi x hi e v=>?_⟩;have z:=h.2 i (by simpa using hi);rw [e] at z;dsimp only at z;rw [cK,aa] at z
 have vb:Ai sc x = true:=by
  unfold Ai;rcases v with v | v | v<;>rw [v]
 rcases z with z | ⟨z1,z2⟩
 . rw [vb] at z;cases z
 . exact ⟨of_decide_eq_true z1,of_decide_eq_true z2⟩
def wq {X:Cx} {c:Ck} {Nc:List Str} {kk:Nat} {tg:Tg} {src:It} {ifs:Eo} {elt:E} {pins:List (au × Obj)} {s:aj} {σ:L2.St} {H:Hp} {Q:VK} (C:Cok X c cx k) (I:Inv X pins σ H s) (n:(!bE elt) = true) (hk:Nc.length = c.N.length+kk) (hge:Am c.N.length tg = true)
 {G:Gh} {F:au->Prop} {δ δ':Loc} {d:D} (ok:Ok X.K G F σ H δ) (ev:evE cx (.comp kk tg src ifs elt) δ = some (d,δ'))
 (q:∀ p ys xs H1 F1 H2 F2,d = .lst ys->Step G F H F1 H1->Step G F1 H1 F2 H2->H1 p = none->G.free p->Ok X.K (G.and p) F2 σ H2 δ'->H2 p = some (.lst xs)->aK X.K H2 F2 ys xs->(np (.comp kk tg src ifs elt) = true->Sim H H2)->Q (.ref p) H2) :
 tLC (Nc.length - X.N.length) (tI X.K cx src) (gTg X.K tg) (tG X.K cx ifs) (tE X.K cx elt) σ H Q:=by
 obtain ⟨ds,δ1,ys,ei,ec,hz,rfl⟩:=IG ev;have ek:Nc.length - X.N.length = kk:=by rw [C.hN,hk];lia
 rw [ek];refine ⟨G,F,δ,ds,δ1,ok,ei,λJ H1 F1 st1 sm1 ok1 wk=>λp hp=>?_⟩;have hg:=ok1.free hp;refine xV n (by rw [I.len,C.hN];exact hge) ok1 (wk _) hp ec hz λσ' H2 F2 xs ok2 eD rl st2 sm2=>?_;refine q p ys xs H1 F1 H2 F2 rfl st1 st2 hp hg ok2 eD rl λz=>?_;have z':(npI src && npO ifs && np elt) = true:=z;rw [aa,aa] at z';exact (sm1 z'.1.1).trans (sm2 (by rw [z'.1.2,z'.2];rfl))
def Ff {X:Cx} {c:Ck} {Nc:List Str} {kk:Nat} {tg:Tg} {src:It} {ifs:Eo} {elt:E} {pins:List (au × Obj)} {s:aj} {σ:L2.St} {H:Hp} {Q:VK} (C:Cok X c cx k) (I:Inv X pins σ H s) (n:(!bE elt) = true) (hk:Nc.length = c.N.length+kk) (hge:Am c.N.length tg = true)
 (h:tE X.K cx (.comp kk tg src ifs elt) σ H Q):tLC (Nc.length - X.N.length) (tI X.K cx src) (gTg X.K tg) (tG X.K cx ifs) (tE X.K cx elt) σ H Q:=by
 obtain ⟨G,F,δ,d,δ',ok,ev,post⟩:=h;refine wq C I n hk hge ok ev λp ys xs H1 F1 H2 F2 e st1 st2 hp hg ok2 eD rl sm=>?_;subst e
 have st':Step G F1 H1 (λb=>F2 b/\b≠p) H2:=⟨st2.keep,λb z=>st2.grow b z.1,λb o r f e=>by
  obtain ⟨a1,a2⟩:=st2.res b o r f e;exact ⟨⟨a1,λw=>by rw [w,hp] at e;cases e⟩,a2⟩,st2.tb⟩
 refine post (.ref p) H2 _ (st1.trans st') sm (ok2.leave hg) (fB ?_);unfold Rel;exact ⟨p,xs,rfl,.inl ⟨.inl eD,λz=>z.2 rfl⟩,aK.less ok2.fd (λb z=>z.1) rl⟩
def CO (C:Cok X c cx k) (n:(!bE elt) = true) (hk:Nc.length = c.N.length+kk) (hge:Am c.N.length tg = true) (hs:lV c sc = true) (hn:namesOk c sc Nc = true)
 (htg:∀ cl Ca s H fp,PG (cxC X sc cl Ca Nc s H fp) t (gTg X.K tg)) (hI:PI X t it (tI X.K cx src)) (hG:∀ cl Ca s H fp,PTs (cxC X sc cl Ca Nc s H fp) il (tG X.K cx ifs)) (hE:∀ cl Ca s H fp,PE (cxC X sc cl Ca Nc s H fp) ex (tE X.K cx elt))
 (hset:∀ v,foldedSetIterable it X.env v = pure v):PE X (.ListComp ex [⟨t,it,il,0⟩] sc pos) (tE X.K cx (.comp kk tg src ifs elt)):=by
 obtain ⟨nd,hvis⟩:=mS hn;intro pins s σ H Q I h;refine DL (Nc:=Nc) C.xe C.calm (pM C hs) (λi x hi=>by rw [C.hN] at hi |-;exact hvis i x hi) (by rw [C.hN,hk];lia) hI htg hG hE hset pins s σ H Q I ?_;exact Ff C I n hk hge h
def call_of {X:Cx} {c:Ck} {f:Nat} {es:Es} {n:Str} {p pos:Pos} {xs:List aI} (C:Cok X c cx k) (hA:PA X xs (tEs X.K cx es)) (h:(match c.fns[f]? with
 | some (m,ps)=>decide (m = n) && dO c n && decide (ps.length = vV es) && jo c es xs && jE es && !xs.isEmpty
 | none=>false) = true):PE X (.Call (.Name n p) xs [] pos) (tE X.K cx (.call f es)):=by
 split at h
 . rename_i m ps ef;simp only [aa] at h;obtain ⟨⟨⟨⟨⟨h1,h2⟩,h3⟩,h4⟩,h5⟩,h6⟩:=h;have e:=of_decide_eq_true h1;subst e;obtain ⟨a,fd,hm,hk,hb,fn⟩:=C.fns f _ _ ef;obtain ⟨g1,g2,g3⟩:=C.global h2
   cases xs with
   | nil=>simp at h6
   | cons y ys =>
     obtain ⟨_,_,_,a1,a2⟩:=hV h4;exact CP h5 fn C.room g1 hm hk hb hA g2 (bO (bP a1) _ _) (ia a2)
 . cases h
def Fm {X:Cx} {c:Ck} {f:Nat} {es:Es} {n:Str} {p pos:Pos} {xs:List aI} (C:Cok X c cx k) (hA:PA X xs (tEs X.K cx es)) (h:(match c.fns[f]? with
 | some (m,ps)=>decide (m = n) && dO c n && decide (ps.length = vV es+1) && jo c es xs && jE es && !xs.isEmpty && Tbs.dfs.contains f
 | none=>false) = true):PE X (.Call (.Name n p) xs [] pos) (tE X.K cx (.calld f es)):=by
 split at h
 . rename_i m ps ef;simp only [aa] at h;obtain ⟨⟨⟨⟨⟨⟨h1,h2⟩,h3⟩,h4⟩,h5⟩,h6⟩,h7⟩:=h;have e:=of_decide_eq_true h1;subst e;obtain ⟨a,fd,hm,hk,hb,fn⟩:=C.fnD f _ _ ef (by simpa using h7);obtain ⟨g1,g2,g3⟩:=C.global h2
   cases xs with
   | nil=>simp at h6
   | cons y ys =>
     obtain ⟨_,_,_,a1,a2⟩:=hV h4;refine PE.imp (yQ fn C.room g1 hm hk hb (dvs:=[.non]) (.cons rfl .nil) Jj hA g2 (bO (bP a1) _ _) (ia a2)) λσ H Q z=>?_;obtain ⟨G,F,δ,d,δ',ok,ev,post⟩:=z;simp only [evE] at ev;obtain ⟨ds,ea,hd⟩:=vU (f:=λds=>cx.call f (ds++[.non])) ev;exact ⟨G,F,δ,ds,δ',ok,ea,λvs H1 F1 st1 sm1 ok1 r1=>⟨F1,_,d,ok1.fd,ok1.tf,ok1.tabs,(r1.rl h5).append (aK.one (by unfold Rel;rfl)),hd,λv H2 s2 t2 r2=>post v H2 F1 (st1.trans (ok1.call s2 t2).2) (λz=>(sm1 z).trans s2) (ok1.call s2 t2).1 (fB r2)⟩⟩
 . cases h
def MK (C:Cok X c cx k) (hg:dO c (rV f) = true) (ht:tyName f = none) (hA:PA X (y::ys) (tEs X.K cx es)) (h:jo c es (y::ys) = true):PE X (.Call (.Name (rV f) p) (y::ys) [] pos) (tE X.K cx (.blt f es)):=by
 obtain ⟨g1,g2,g3⟩:=C.global hg;obtain ⟨e,es',rfl,h1,h2⟩:=hV h;have he:=bO (bP h1) ys X.env;have hpl:=ia (env:=X.env) (pos:=pos) h2
 cases f with
 | len=>exact gm Ii rfl (fq ME g1 (C.blt _ ⇑0) rfl hA g3 g2 he hpl)
 | min=>exact gm minD rfl (fq (MB C.calm C.units) g1 (C.blt _ ⇑0) rfl hA g3 g2 he hpl)
 | max=>exact gm maxD rfl (fq (MC C.calm) g1 (C.blt _ ⇑0) rfl hA g3 g2 he hpl)
 | toInt=>exact gm sL rfl (kJ MF g1 (C.blt _ ⇑0) rfl hA g3 g2 he hpl)
 | toTup=>exact gm sJ rfl (kJ Mz g1 (C.blt _ ⇑0) rfl hA g3 g2 he hpl)
 | toLst=>exact gm mO rfl (kJ MD g1 (C.blt _ ⇑0) rfl hA g3 g2 he hpl)
 | sorted=>exact gm om rfl (fq (Bd C.units) g1 (C.blt _ ⇑0) rfl hA g3 g2 he hpl)
 | all=>exact gm IP rfl (fq (MH C.calm) g1 (C.blt _ ⇑0) rfl hA g3 g2 he hpl)
 | any=>exact gm IM rfl (fq (MG C.calm) g1 (C.blt _ ⇑0) rfl hA g3 g2 he hpl)
 | sum=>exact gm Gx rfl (fq (MA C.calm) g1 (C.blt _ ⇑0) rfl hA g3 g2 he hpl)
 | _=>cases ht
end
end PP
end
section
namespace PP
open PySem PySem.Spec PyProof.Rows
open Builtin.SmallTypes (nextOf)
section
variable {P:aR} {w:bB} {A:bo} {E:ag->aj->Prop} {s:aj}
def xK {i l:au} {k:Nat} {xs:List ag} {x:ag} {Q:ag->aj->Prop} (hit:s.heap.IsTupleIter i l k) (ht:s.heap.IsTuple l xs.toArray) (hx:xs[k]? = some x) (q:∀ h',h'.IsTupleIter i l (k+1)->iC i s.heap h'->Q x { s with heap:=h' }):wpAny (model P w) A (nextOf (.ref i)) Q E s:=by
 obtain ⟨o,ho,hc,hd⟩:=id hit;obtain ⟨ol,hol,_,nl,hdl⟩:=ht;have hx':xs.toArray[k]? = some x:=by simpa using hx
 unfold nextOf;refine ah (eO (name:=kF "__next__") hit.typeIs PySem.F.slot_tuple_iterator_next (fJ PySem.F.slot_tuple_iterator_next hit.typeIs PySem.F.entry_tuple_iterator_next ?_ (PySem.F.args_tuple_iterator_next_1 _)));refine ah (m:=field (.ref i) 0) (cG ho hd (x:=.ref l) rfl ?_);refine (if_neg (show ¬ ((bA l == cZ) = true) from ak))▸?_;refine ah (m:=field (.ref i) 1) (cG ho hd (x:=.int k 0) rfl ?_);refine ah (m:=seqItems? (.ref l)) (dg hol hdl ?_);simp only [FW,hx'];have sb:=qR s.heap i (Obj.mapFields (·.setIfInBounds 1 (rawInt ((k:Int)+1))));refine ah (wpAny_setField ho hd ↥0 (aJ ⟨x,rfl,aJ (q _ ⟨_,gI _ ho (Obj.isFreed_of_fields (FH hd _)),(Obj.cls_mapFields ..).trans hc,?_⟩ sb)⟩));rw [FH hd];simp [rawInt]
def AM {i l:au} {k:Nat} {xs:List ag} {Q:ag->aj->Prop} (hh:A.handled = none) (hit:s.heap.IsTupleIter i l k) (ht:s.heap.IsTuple l xs.toArray) (hx:xs[k]? = none)
 (q:∀ h' e,zS i s.heap h'->(∃ o,h'.get? e = some o/\o.cls = .type "StopIteration")->E (.ref e) { s with heap:=h' }):wpAny (model P w) A (nextOf (.ref i)) Q E s:=by
 obtain ⟨o,ho,hc,hd⟩:=id hit;obtain ⟨ol,hol,_,nl,hdl⟩:=ht;have hx':xs.toArray[k]? = none:=by simpa using hx
 unfold nextOf;refine ah (eO (name:=kF "__next__") hit.typeIs PySem.F.slot_tuple_iterator_next (fJ PySem.F.slot_tuple_iterator_next hit.typeIs PySem.F.entry_tuple_iterator_next ?_ (PySem.F.args_tuple_iterator_next_1 _)));refine ah (m:=field (.ref i) 0) (cG ho hd (x:=.ref l) rfl ?_);refine (if_neg (show ¬ ((bA l == cZ) = true) from ak))▸?_;refine ah (m:=field (.ref i) 1) (cG ho hd (x:=.int k 0) rfl ?_);refine ah (m:=seqItems? (.ref l)) (dg hol hdl ?_);simp only [FW,hx'];refine ah (MU (ah (wpAny_setField ho hd ↥0 (ah (m:=newExc (.type "StopIteration") []) ?_))));simp only [newExc,newTuple];refine ah (cN ?_ (by size_fits));refine ah (m:=firstArgMember _ _) (wpAny_of_eq (a:=cZ) (by first | rfl | (simp only [firstArgMember];rfl)) ?_);refine cN ?_ (by size_fits);simp only [raiseNew];refine ah (wpAny_handled ?_)
 first | rw [show A.in1.handled = none from hh] | rw [hh]
 exact ah (aJ (wpAny_throw (q _ _ (((qR ..).extBut.push _).push _) ⟨_,aS _ rfl,rfl⟩)))
end
end PP
end
section
namespace PP
open PySem PySem.Spec L2 PyProof.Rows
open Builtin.SmallTypes (nextOf)
def SqM (m:Bool) (K:PySem.W.Frag) (H:Hp) (a:au) (xs:List V):Prop:=if m = true then SqL K H a xs else SqT K H a xs
def OkM (m:Bool) (h:bH) (a:au) (us:List ag):Prop:=if m = true then h.IsList a us.toArray else h.IsTuple a us.toArray
def ItO (m:Bool) (h:bH) (i l:au) (k:Nat):Prop:=if m = true then h.IsListIter i l k else h.IsTupleIter i l k
def ItO.at {m:Bool} {h h':bH} {i l:au} {k:Nat} (x:ItO m h i l k) (e:∀ o,h.get? i = some o->h'.get? i = some o):ItO m h' i l k:=by
 cases m
 . exact Heap.IsTupleIter.at x e
 . exact Heap.IsListIter.at x e
def ItO.obj {m:Bool} {h:bH} {i l:au} {k:Nat} (x:ItO m h i l k):∃ o,h.get? i = some o/\∀ v,o.data≠.cell v:=by
 cases m <;>
 . obtain ⟨o,e,_,d⟩:=x;exact ⟨o,e,λv z=>by rw [d] at z;cases z⟩
section
variable {X:Cx} {pins:List (au × Obj)} {σ:L2.St} {H:Hp} {s:aj} {A:bo} {E:ag->aj->Prop}
def okM (I:Inv X pins σ H s) (hq:SqM m X.K H l ys):∃ us,Vals ys us/\OkM m s.heap l us:=by
 cases m
 . obtain ⟨us,r,p,_⟩:=I.tuple hq;exact ⟨us,r,p⟩
 . obtain ⟨us,r,p,_⟩:=I.list hq;exact ⟨us,r,p.isList⟩
def yD (I:Inv X pins σ H s) (h1:SqM m X.K H l xs) (h2:SqM m X.K H l ys):xs = ys:=by
 cases m
 . exact I.tuple_inj h1 h2
 . exact I.list_inj h1 h2
def tU {m:Bool} {i l:au} {k:Nat} {ys:List V} {x:V} {Q:ag->aj->Prop} (I:Inv X pins σ H s) (hq:SqM m X.K H l ys) (hx:ys[k]? = some x) (it:ItO m s.heap i l k)
 (q:∀ u h',RelV x u->ItO m h' i l (k+1)->iC i s.heap h'->Q u { s with heap:=h' }):wpAny (model X.prog X.w) A (nextOf (.ref i)) Q E s:=by
 obtain ⟨us,r,ok⟩:=okM I hq;obtain ⟨u,hu,ru⟩:=r.get hx;cases m
 . exact xK it ok hu λh' a b=>q u h' ru a b
 . exact wpAny_nextOf_list_item it ok (by simpa using hu) λh' a b=>q u h' ru a b
def zm {m:Bool} {i l:au} {k:Nat} {ys:List V} {Q:ag->aj->Prop} (hh:A.handled = none) (I:Inv X pins σ H s) (hq:SqM m X.K H l ys) (hx:ys.length<=k) (it:ItO m s.heap i l k)
 (q:∀ h' e,zS i s.heap h'->(∃ o,h'.get? e = some o/\o.cls = .type "StopIteration")->E (.ref e) { s with heap:=h' }):wpAny (model X.prog X.w) A (nextOf (.ref i)) Q E s:=by
 obtain ⟨us,r,ok⟩:=okM I hq;have hl:us[k]? = none:=eV (by rw [<- r.length];exact hx);cases m
 . exact AM hh it ok hl q
 . exact wpAny_nextOf_list_end hh it ok (by simpa using hl) q
structure Zp (h:bH) (m1 m2:Bool) (z TI TO i1 i2 l1 l2:au) (f0:ag) (k1 k2:Nat):Prop where
 hz:BF h z TI TO f0
 ti:uF h TI (.ref i1) (.ref i2)
 to:∃ a b,uF h TO a b
 i1:ItO m1 h i1 l1 k1
 i2:ItO m2 h i2 l2 k2
structure Ap (z TI TO i1 i2:au):Prop where
 a1:TI≠z
 a2:TO≠z
 a3:i1≠z
 a4:i2≠z
 a5:TI≠TO
 a6:TI≠i1
 a7:TI≠i2
 a8:TO≠i1
 a9:TO≠i2
 a10:i1≠i2
def eP {b:au} {h':bH} (I:Inv X pins σ H s) (f:kf X pins H b) (k:∀ c o,c≠b->s.heap.get? c = some o->h'.get? c = some o):Inv X pins σ H { s with heap:=h' }:=I.turned (t':=s.toks) k f.1 f.2.1 f.2.2.2.1 f.2.2.2.2.1 f.2.2.2.2.2
def BJ {m1 m2:Bool} {z TI TO i1 i2 l1 l2:au} {k:Nat} {xs ys:List V} {x y:V} {Q:ag->aj->Prop} (D:Ap z TI TO i1 i2) (I:Inv X pins σ H s) (hf:∀ b∈[z,TI,TO,i1,i2],kf X pins H b) (Z:Zp s.heap m1 m2 z TI TO i1 i2 l1 l2 .none k k)
 (q1:SqM m1 X.K H l1 xs) (q2:SqM m2 X.K H l2 ys) (hx:xs[k]? = some x) (hy:ys[k]? = some y)
 (hQ:∀ T h',H T = none->(∀ b∈[z,TI,TO,i1,i2],T≠b)->Inv X pins σ (upd H T (.tup [x,y])) { s with heap:=h' }->Zp h' m1 m2 z TI TO i1 i2 l1 l2 (rawInt T) (k+1) (k+1)->Q (.ref T) { s with heap:=h' }) :
 wpAny (model X.prog X.w) A (kl.«zip.__next__» ⟨[.ref z],[]⟩) (λfin s'=>∃ v,fin = .done (.ret v)/\Q v s') E s:=by
 obtain ⟨hz,ti,⟨a,b,to⟩,h1,h2⟩:=Z;have fz:=hf z ↥0;have fT:=hf TO ↥0;have f1:=hf i1 ↥0;have f2:=hf i2 ↥0;refine ah (m:=field (.ref z) 2) (cG hz rfl (x:=.bool false) rfl ?_);refine ah (m:=field (.ref z) 3) (cG hz rfl (x:=.ref TI) rfl ?_);refine ah (dg ti rfl ?_);refine ah (m:=cP (.ref z)) ?_;unfold cP;refine ah (cG hz rfl (x:=.none) rfl (aJ ?_));simp only [if_true];refine ah (MU (ah (cG hz rfl (x:=.ref TO) rfl (ah (gi hz ↥0 λg1 y1 s1=>ah ?_)))));replace y1:BF g1 z TI TO .ellipsis:=y1;have I1:=eP I fz λc o n e=>s1.extBut c o n e;simp only [FR,IZ,qD,List.forIn_nil];refine ah (ah (oX (ah (m:=nextOf (.ref i1)) (tU I1 q1 hx (h1.at λo e=>s1.extBut _ o D.a3 e) λu g2 ru j1 s2=>aJ ?_))));have I2:=eP I1 f1 λc o n e=>s2.extBut c o n e;have to2:uF g2 TO a b:=s2.extBut _ _ D.a8 (s1.extBut _ _ D.a2 to);refine ah (dg to2 rfl (ah (nz to2 λg3 to3 s3=>ah (iD (aJ ?_)))));replace to3:uF g3 TO u b:=to3;have I3:=eP I2 fT λc o n e=>s3.extBut c o n e;refine ah (ah (oX (ah (m:=nextOf (.ref i2)) (tU I3 q2 hy (((h2.at λo e=>s1.extBut _ o D.a4 e).at λo e=>s2.extBut _ o D.a10.symm e).at λo e=>s3.extBut _ o D.a9.symm e) λv g4 rv j2 s4=>aJ ?_))));have I4:=eP I3 f2 λc o n e=>s4.extBut c o n e;have to4:uF g4 TO u b:=s4.extBut _ _ D.a9 to3;refine ah (dg to4 rfl (ah (nz to4 λg5 to5 s5=>ah (iD (aJ (aJ ?_))))));replace to5:uF g5 TO u v:=to5;have I5:=eP I4 fT λc o n e=>s5.extBut c o n e;refine ah (dg to5 rfl (ah (wpAny_newTuple ?_)));have hT:H g5.objs.size = none:=I5.hok.fresh (aA _);have z5:BF g5 z TI TO .ellipsis:=s5.extBut _ _ D.a2.symm (s4.extBut _ _ D.a4.symm (s3.extBut _ _ D.a2.symm (s2.extBut _ _ D.a3.symm y1)));have ti5:uF g5 TI (.ref i1) (.ref i2):=s5.extBut _ _ D.a5 (s4.extBut _ _ D.a7 (s3.extBut _ _ D.a5 (s2.extBut _ _ D.a6 (s1.extBut _ _ D.a1 ti))));have k1:ItO m1 g5 i1 l1 (k+1):=((j1.at λo e=>s3.extBut _ o D.a8.symm e).at λo e=>s4.extBut _ o D.a10 e).at λo e=>s5.extBut _ o D.a8.symm e;have k2:ItO m2 g5 i2 l2 (k+1):=j2.at λo e=>s5.extBut _ o D.a9.symm e;have Tz:g5.objs.size≠z:=fu (aH z5)
 have Ts:∀ b∈[z,TI,TO,i1,i2],g5.objs.size≠b:=λb hb=>by
  obtain ⟨_,e1,_⟩:=k1.obj;obtain ⟨_,e2,_⟩:=k2.obj;simp only [aD,cj,or_false] at hb;rcases hb with rfl | rfl | rfl | rfl | rfl
  . exact Tz
  . exact fu (aH ti5)
  . exact fu (aH to5)
  . exact fu (aH e1)
  . exact fu (aH e2)
 have I6:Inv X pins σ (upd H g5.objs.size (.tup [x,y])) { s with heap:=g5.push { cls:=.type "tuple",data:=.seq #[u,v] } } :=
  I5.laid (t':=s.toks) (λb u e=>ao _ e) (aA _) ⟨by show 2<=sizeLine;decide,[u,v],.cons ru (.cons rv .nil),⟨_,aS _ rfl,rfl,_,rfl⟩⟩
 have fz6:kf X pins (upd H g5.objs.size (.tup [x,y])) z:=⟨by rw [bh Tz.symm];exact fz.1,fz.2⟩;refine ah (m:=iU (.ref z) (.ref g5.objs.size)) ?_;unfold iU;have z6:BF (g5.push { cls:=.type "tuple",data:=.seq #[u,v] }) z TI TO .ellipsis:=ao _ z5;refine ah (gi z6 ↥0 λg7 z7 s7=>?_);replace z7:BF g7 z TI TO (rawInt g5.objs.size):=z7;refine gi z7 ↥0 λg8 z8 s8=>?_;replace z8:BF g8 z TI TO (rawInt g5.objs.size):=z8;have up:∀ c o,c≠z->g5.get? c = some o->g8.get? c = some o:=λc o n e=>s8.extBut _ _ n (s7.extBut _ _ n (ao _ e));have I8:=eP (eP I6 fz6 λc o n e=>s7.extBut c o n e) fz6 λc o n e=>s8.extBut c o n e;exact aJ ⟨_,rfl,hQ g5.objs.size g8 hT Ts I8 ⟨z8,up _ _ D.a1 ti5,⟨_,_,up _ _ D.a2 to5⟩,k1.at λo e=>up _ o D.a3 e,k2.at λo e=>up _ o D.a4 e⟩⟩
def BI {m1 m2:Bool} {z TI TO i1 i2 l1 l2:au} {k:Nat} {xs ys:List V} {Q:PySem.Fin->aj->Prop} (hh:A.handled = none) (D:Ap z TI TO i1 i2) (I:Inv X pins σ H s) (hf:∀ b∈[z,TI,TO,i1,i2],kf X pins H b) (Z:Zp s.heap m1 m2 z TI TO i1 i2 l1 l2 .none k k)
 (q1:SqM m1 X.K H l1 xs) (q2:SqM m2 X.K H l2 ys) (hend:xs.length<=k\/ys.length<=k)
 (hE:∀ h' e,Inv X pins σ H { s with heap:=h' }->(∃ o,h'.get? e = some o/\o.cls = .type "StopIteration")->E (.ref e) { s with heap:=h' }) :
 wpAny (model X.prog X.w) A (kl.«zip.__next__» ⟨[.ref z],[]⟩) Q E s:=by
 obtain ⟨hz,ti,⟨a,b,to⟩,h1,h2⟩:=Z;have fz:=hf z ↥0;have fT:=hf TO ↥0;have f1:=hf i1 ↥0;have f2:=hf i2 ↥0;refine ah (m:=field (.ref z) 2) (cG hz rfl (x:=.bool false) rfl ?_);refine ah (m:=field (.ref z) 3) (cG hz rfl (x:=.ref TI) rfl ?_);refine ah (dg ti rfl ?_);refine ah (m:=cP (.ref z)) ?_;unfold cP;refine ah (cG hz rfl (x:=.none) rfl (aJ ?_));simp only [if_true];refine ah (MU (ah (cG hz rfl (x:=.ref TO) rfl (ah (gi hz ↥0 λg1 y1 s1=>ah ?_)))));replace y1:BF g1 z TI TO .ellipsis:=y1;have I1:=eP I fz λc o n e=>s1.extBut c o n e;simp only [FR,IZ,qD,List.forIn_nil];have j1:ItO m1 g1 i1 l1 k:=h1.at λo e=>s1.extBut _ o D.a3 e
 have last:∀ {g:bH} {e:au} (Ig:Inv X pins σ H { s with heap:=g }) (zg:BF g z TI TO .ellipsis) (he:∃ o,g.get? e = some o/\o.cls = .type "StopIteration"),
  wpAny (model X.prog X.w) A (setField (.ref z) 0 .none) (λ_ s'=>E (.ref e) s') E { s with heap:=g }:=λ{g e} Ig zg he=>by
  obtain ⟨o,ho,hc⟩:=he;have ez:e≠z:=λx=>by subst x;rw [zg] at ho;cases ho;simp at hc
  refine gi zg ↥0 λg' _ s'=>?_;have I':=eP (h':=g') Ig fz λc o n e=>s'.extBut c o n e;exact hE g' e I' ⟨o,s'.extBut _ _ ez ho,hc⟩
 refine ah (ah (oX (ah (m:=nextOf (.ref i1)) ?_)));by_cases hx:xs.length<=k
 . refine zm hh I1 q1 hx j1 λg2 e x2 he=>?_;have I2:=eP (h':=g2) I1 f1 λc o n e=>x2 c o n e;exact last I2 (x2 _ _ D.a3.symm y1) he
 . obtain ⟨x,ex⟩:∃ x,xs[k]? = some x:=⟨xs[k],aB (by omega)⟩;refine tU I1 q1 ex j1 λu g2 ru j1' s2=>aJ ?_;have I2:=eP I1 f1 λc o n e=>s2.extBut c o n e;have to2:uF g2 TO a b:=s2.extBut _ _ D.a8 (s1.extBut _ _ D.a2 to);refine ah (dg to2 rfl (ah (nz to2 λg3 to3 s3=>ah (iD (aJ ?_)))));have I3:=eP I2 fT λc o n e=>s3.extBut c o n e;refine ah (ah (oX (ah (m:=nextOf (.ref i2)) ?_)));refine zm hh I3 q2 (by omega) (((h2.at λo e=>s1.extBut _ o D.a4 e).at λo e=>s2.extBut _ o D.a10.symm e).at λo e=>s3.extBut _ o D.a9.symm e) λg4 e x4 he=>?_;have I4:=eP (h':=g4) I3 f2 λc o n e=>x4 c o n e;exact last I4 (x4 _ _ D.a4.symm (s3.extBut _ _ D.a2.symm (s2.extBut _ _ D.a3.symm y1))) he
end
end PP
end
section
namespace PP
open PySem PySem.Spec L2 PyProof.Rows
def Itz (K:PySem.W.Frag) (m1 m2:Bool) (l1 l2:au):L2.It :=
 ⟨λi H=>∃ xs ys x y,SqM m1 K H l1 xs/\SqM m2 K H l2 ys/\xs[i]? = some x/\ys[i]? = some y,
   λi H v H'=>∃ T x y,v = .ref T/\H T = none/\H' = upd H T (.tup [x,y])/\(∀ xs,SqM m1 K H l1 xs->xs[i]? = some x)/\∀ ys,SqM m2 K H l2 ys->ys[i]? = some y,
   λi H=>∃ xs ys,SqM m1 K H l1 xs/\SqM m2 K H l2 ys/\(xs.length<=i\/ys.length<=i)⟩
def CA {P:aR} {w:bB} {K:PySem.W.Frag} {elts:List aI} {k0:Nat} {pos:Pos} {m1 m2:Bool} {z TI TO i1 i2 l1 l2:au} (D:Ap z TI TO i1 i2) :
 Turn P w K (.Tuple elts k0 pos) (Itz K m1 m2 l1 l2) [z,TI,TO,i1,i2] z (λi h=>Zp h m1 m2 z TI TO i1 i2 l1 l2 .none i i) where
 mem:=by simp
 obj:=λi h st b hb=>by
  obtain ⟨hz,ti,⟨a,c,to⟩,h1,h2⟩:=st;simp only [aD,cj,or_false] at hb;rcases hb with rfl | rfl | rfl | rfl | rfl
  . exact ⟨_,hz,λv z=>by cases z⟩
  . exact ⟨_,ti,λv z=>by cases z⟩
  . exact ⟨_,to,λv z=>by cases z⟩
  . exact h1.obj
  . exact h2.obj
 keep:=λi h h' st k=>by
  obtain ⟨hz,ti,⟨a,c,to⟩,h1,h2⟩:=st;exact ⟨k z ↥0 _ hz,k TI ↥0 _ ti,⟨a,c,k TO ↥0 _ to⟩,h1.at λo e=>k _ ↥0 o e,h2.at λo e=>k _ ↥0 o e⟩
 item:=by
  intro X hP hw hK hc i pins s σ H E I hf st hg;subst hP hw hK;obtain ⟨xs,ys,x,y,q1,q2,hx,hy⟩:=hg;have hT:s.TypeIs (.ref z) "zip":=⟨_,st.hz,rfl⟩;unfold pyNext;refine ah (wpAny_attempt (eO (name:=kF "__next__") hT PySem.F.slot_zip_next (fJ PySem.F.slot_zip_next hT PySem.F.entry_zip_next (BJ D I hf st q1 q2 hx hy λT h' nT nb I' Z'=>aJ ⟨.ref T,rfl,?_⟩) (PySem.F.args_zip_next_1 _))));refine wpAny_letOwnedTupleGo_zip Z'.hz λh2 z2 s2=>?_;have hn:∀ b∈[z,TI,TO,i1,i2],upd H T (.tup [x,y]) b = none:=λb hb=>by rw [bh (nb b hb).symm];exact (hf b hb).1
  have I2:=eP (h':=h2) I' ⟨hn z ↥0,(hf z ↥0).2⟩ λc o n e=>s2.extBut c o n e;obtain ⟨_,ti,⟨a,c,to⟩,h1,h2'⟩:=Z'
  exact ⟨.ref T,upd H T (.tup [x,y]),I2,rfl,⟨T,x,y,rfl,nT,rfl,λxs' h=>by rw [yD I h q1];exact hx,λys' h=>by rw [yD I h q2];exact hy⟩,
   ⟨z2,s2.extBut _ _ D.a1 ti,⟨a,c,s2.extBut _ _ D.a2 to⟩,h1.at λo e=>s2.extBut _ o D.a3 e,h2'.at λo e=>s2.extBut _ o D.a4 e⟩,hn⟩
 done:=by
  intro X hP hw hK hc i pins s σ H E I hf st hg;subst hP hw hK;obtain ⟨xs,ys,q1,q2,he⟩:=hg;have hT:s.TypeIs (.ref z) "zip":=⟨_,st.hz,rfl⟩;unfold pyNext;refine ah (wpAny_attempt (eO (name:=kF "__next__") hT PySem.F.slot_zip_next (fJ PySem.F.slot_zip_next hT PySem.F.entry_zip_next (BI (I.ok.hd hc) D I hf st q1 q2 he λh' e I' he=>?_) (PySem.F.args_zip_next_1 _))));obtain ⟨o,ho,hc⟩:=he;exact ah (wpAny_isInstance (T:="StopIteration") (b:=true) ⟨o,ho,hc⟩ isSubtype_stop (aJ ⟨rfl,I'⟩))
 self:=λ_ _ _ _ _ st h=>wpAny_pyIter_zip st.hz h
def itN (m:Bool):String:=if m = true then "list_iterator" else "tuple_iterator"
def iN (m:Bool) (l:au):Obj:={ cls:=.type (itN m),data:=.fields #[.ref l,.int 0 0] }
def iterM {E:ag->aj->Prop} (ok:OkM m s.heap l us) (h:Q (.ref s.heap.objs.size) { s with heap:=s.heap.push (iN m l) }):wpAny (model prog w) A (pyIter (.ref l)) Q E s:=by
 cases m
 . exact MV (show s.heap.IsTuple l us.toArray from ok) h
 . exact dP (show s.heap.IsList l us.toArray from ok) h
def OkM.push (ok:OkM m h l us) (o:Obj):OkM m (h.push o) l us:=by
 cases m
 . exact Heap.IsTuple.at (show h.IsTuple l us.toArray from ok) λo e=>ao _ e
 . exact Heap.IsList.push ok o
def zH (h:bH) (m1 m2:Bool) (l1 l2:au):bH:=((((h.push (iN m1 l1)).push (iN m2 l2)).push { cls:=.type "tuple",data:=.seq #[.ref h.objs.size,.ref (h.objs.size+1)] }).push { cls:=.type "tuple",data:=.seq #[.none,.none] }).push { cls:=.type "zip",data:=.fields #[.none,.bool false,.bool false,.ref (h.objs.size+2),.ref (h.objs.size+3)] }
def AN (l1 l2:au) (us vs:List ag):Meets (kl.«zip.__new__» ⟨[.type "zip",.ref l1,.ref l2],[]⟩) (λ_ R s=>OkM m1 s.heap l1 us/\OkM m2 s.heap l2 vs/\R (.ok (.ret (.ref (s.heap.objs.size+4)))) { s with heap:=zH s.heap m1 m2 l1 l2 }) :=
 .of_wp λprog w A R s h=>by
  obtain ⟨hp,g,d,tk,os⟩:=s;obtain ⟨o1,o2,h⟩:=h;have hsub:=sub_zip;have L1:OkM m1 (Shared.heap ⟨hp,g,d,tk,os⟩) l1 us:=o1;have L2:OkM m2 (Shared.heap ⟨hp.push (iN m1 l1),g,d,tk,os⟩) l2 vs:=OkM.push o2 _
  wp_walk using iterM L1,iterM L2
  refine ⟨_,rfl,?_⟩;unfold zH at h;simp only [cV];exact h
section
variable {prog:aR} {w:bB} {A:bo} {E:ag->aj->Prop} {s:aj}
def Bf (o1:OkM m1 s.heap l1 us) (o2:OkM m2 s.heap l2 vs)
 (h:∀ h',Zp h' m1 m2 (s.heap.objs.size+4) (s.heap.objs.size+2) (s.heap.objs.size+3) s.heap.objs.size (s.heap.objs.size+1) l1 l2 .none 0 0->(∀ c o,s.heap.get? c = some o->h'.get? c = some o)->Q (.ref (s.heap.objs.size+4)) { s with heap:=h' }) :
 wpAny (model prog w) A (call (.type "zip") [.ref l1,.ref l2]) Q E s:=by
 refine callType_new PySem.F.called_zip ⇑0 (PySem.F.typeCall_zip_2 _ _) (PySem.F.newCall_zip_2 _ _) (λobj=>PySem.F.args_object_init_3 obj _ _) PySem.F.entry_zip_new (AN (m1:=m1) (m2:=m2) l1 l2 us vs) ⟨o1,o2,?_⟩;have up:∀ {h:bH} {c:au} {o o':Obj},h.get? c = some o->(h.push o').get? c = some o:=λe=>ao _ e;have at_:∀ {h:bH} {o:Obj} {n:au},h.objs.size = n->o.isFreed = false->(h.push o).get? n = some o:=λe f=>by rw [<- e];exact aS _ f
 have z1:(s.heap.push (iN m1 l1)).objs.size = s.heap.objs.size+1:=cV ..;have z2:((s.heap.push (iN m1 l1)).push (iN m2 l2)).objs.size = s.heap.objs.size+2:=by rw [cV,z1]
 have z3:(((s.heap.push (iN m1 l1)).push (iN m2 l2)).push { cls:=.type "tuple",data:=.seq #[.ref s.heap.objs.size,.ref (s.heap.objs.size+1)] }).objs.size = s.heap.objs.size+3:=by rw [cV,z2]
 have z4:((((s.heap.push (iN m1 l1)).push (iN m2 l2)).push { cls:=.type "tuple",data:=.seq #[.ref s.heap.objs.size,.ref (s.heap.objs.size+1)] }).push { cls:=.type "tuple",data:=.seq #[.none,.none] }).objs.size = s.heap.objs.size+4:=by rw [cV,z3]
 have g5:(zH s.heap m1 m2 l1 l2).get? (s.heap.objs.size+4) = some _:=at_ z4 rfl;have g4:(zH s.heap m1 m2 l1 l2).get? (s.heap.objs.size+3) = some _:=up (at_ z3 rfl);have g3:(zH s.heap m1 m2 l1 l2).get? (s.heap.objs.size+2) = some _:=up (up (at_ z2 rfl));have g2:(zH s.heap m1 m2 l1 l2).get? (s.heap.objs.size+1) = some (iN m2 l2):=up (up (up (at_ z1 rfl)));have g1:(zH s.heap m1 m2 l1 l2).get? s.heap.objs.size = some (iN m1 l1):=up (up (up (up (at_ rfl rfl))));have it:∀ {m:Bool} {i l:au} {h:bH},h.get? i = some (iN m l)->ItO m h i l 0:=λ{m i l h} e=>by cases m<;>exact ⟨_,e,rfl,rfl⟩
 exact ⟨⟨_,g5,rfl⟩,h _ ⟨g5,g3,⟨_,_,g4⟩,it g1,it g2⟩ λc o e=>up (up (up (up (up e))))⟩
end
def LI (h:a≠b):(show au from a)≠(show au from b):=h
def Po (K:PySem.W.Frag) (ta:TA):TI:=λσ H R=>ta σ H λvs H1=>∃ m1 m2 l1 l2 xs ys,vs = [.ref l1,.ref l2]/\SqM m1 K H1 l1 xs/\SqM m2 K H1 l2 ys/\R (Itz K m1 m2 l1 l2) H1
def Lb {X:Cx} {elts:List aI} {k0:Nat} {tp:Pos} {a b:aI} {ta:TA} {p pos:Pos} (hg:Gl X "zip") (hm:X.mg "zip" = none) (ha:PA X [a,b] ta) (hs:starEach [a,b] X.env = (false,eval a X.env)::starEach [b] X.env) (hpl:(backTo pos (starEach [b] X.env)).any (·.1) = false) :
 PI X (.Tuple elts k0 tp) (.Call (.Name "zip" p) [a,b] [] pos) (Po X.K ta):=by
 intro pins s σ H R I h;refine Call_ (qe I hg hm boot_zip (gy (thn (ha pos pins s σ H _ I h) λus s1 ⟨vs,H1,I1,r1,q1⟩=>?_) hs hpl));obtain ⟨m1,m2,l1,l2,xs,ys,rfl,s1',s2',q⟩:=q1;obtain ⟨u,rr,e,r,rr1⟩:∃ u rr,us = u::rr/\RelV (.ref l1) u/\Vals [.ref l2] rr:=by cases r1 with | cons r rr=>exact ⟨_,_,rfl,r,rr⟩
 obtain ⟨v,rfl,r2⟩:=vals1 rr1;subst e;cases r;cases r2;obtain ⟨us1,_,o1⟩:=okM I1 s1';obtain ⟨us2,_,o2⟩:=okM I1 s2';refine Bf o1 o2 λh' Z k=>?_;refine wpAny_pyIter_zip Z.hz ?_
 have D:Ap (s1.heap.objs.size+4) (s1.heap.objs.size+2) (s1.heap.objs.size+3) s1.heap.objs.size (s1.heap.objs.size+1):=by
  constructor<;>(refine LI ?_;lia)
 refine ⟨_,_,_,_,H1,rfl,I1.kept (t':=s1.toks) k,CA D,Z,λb hb=>?_,q⟩
 have hle:s1.heap.objs.size<=b:=by
  simp only [aD,cj,or_false] at hb;rcases hb with rfl | rfl | rfl | rfl | rfl<;>lia
 exact I1.fpOk hle (I1.hok.fresh hle)
end PP
end
section
namespace PP
open PySem L2 PyProof.Rows
variable [Tbs]
section
variable {X:Cx} {c:Ck} {cx:Cl} {k:Nat}
def kM:D->Bool
 | .lst _=>true
 | _=>false
def oy {K:PySem.W.Frag} {H:Hp} {F:au->Prop} {d:D} {ds:List D} {v:V} (e:Dl d = some ds) (r:Rel K H F d v):∃ a us,v = .ref a/\SqM (kM d) K H a us/\aK K H F ds us:=by
 cases d with
 | lst l =>
   cases e;obtain ⟨a,us,e1,h1,h2⟩:=cX.lst (.inl r)
   exact ⟨a,us,e1,h1.sq,h2⟩
 | tup l =>
   cases e;obtain ⟨a,us,e1,h1,h2⟩:=cX.tup (.inl r)
   exact ⟨a,us,e1,h1,h2⟩
 | _=>cases e
def JC {K:PySem.W.Frag} {G:Gh} {H:Hp} {F:au->Prop} {x y:D} {xs ys:List D} {l1 l2:au} (fd:FD F H) (ex:Dl x = some xs) (ey:Dl y = some ys) (q1:Rel K H F x (.ref l1)) (q2:Rel K H F y (.ref l2)):Wk K G F H (Itz K (kM x) (kM y) l1 l2) (BK xs ys):=by
 intro F2 H2 st fd2 i;obtain ⟨_,w1,ea,t1,rl1⟩:=oy ex (Rel.step fd st _ _ q1);cases ea;obtain ⟨_,w2,ea,t2,rl2⟩:=oy ey (Rel.step fd st _ _ q2);cases ea;have ll1:=rl1.length;have ll2:=rl2.length;have zl:(BK xs ys).length = min xs.length ys.length:=by unfold BK;rw [aw,List.length_zip]
 refine ⟨λd e=>?_,λe=>⟨w1,w2,t1,t2,∅⟩⟩;unfold BK at e;rw [bj,aL] at e;obtain ⟨⟨d1,d2⟩,e,rfl⟩:=e;obtain ⟨e1,e2⟩:=List.getElem?_zip_eq_some.mp e;obtain ⟨a1,ha1,ra1⟩:=rl1.get e1;obtain ⟨a2,ha2,ra2⟩:=rl2.get e2;refine ⟨⟨w1,w2,a1,a2,t1,t2,ha1,ha2⟩,λv H3 hy=>?_⟩;obtain ⟨T,b1,b2,rfl,nT,rfl,y1,y2⟩:=hy;cases (y1 _ t1).symm.trans ha1;cases (y2 _ t2).symm.trans ha2;refine ⟨cC nT _,?_⟩;unfold Rel;exact ⟨T,[a1,a2],rfl,SqT.of bL,aK.step (G:=G) fd2 (Step.of_same (cC nT _)) _ _ (aK.cons ra1 (aK.cons ra2 aK.nil))⟩
def Kp {es:Es} {tg a b:aI} {p pos:Pos} (ht:Ir tg = true) (n:jE es = true) (hc:jo c es [a,b] = true) (hg:Gl X "zip") (hm:X.mg "zip" = none) (hA:PA X [a,b] (tEs X.K cx es)):PI X tg (.Call (.Name "zip" p) [a,b] [] pos) (tI X.K cx (.zp es)):=by
 obtain ⟨elts,k0,tp,rfl,_⟩:=ik (x:=tg) (k:=λ_=>true) (by unfold pT;rw [aa];exact ⟨ht,rfl⟩);obtain ⟨_,_,_,c1,c2⟩:=hV hc;refine PI.imp (Lb hg hm hA (bO (bP c1) _ _) (ia c2)) λσ H R z=>?_;obtain ⟨G,F,δ,ds,δ',ok,ev,post⟩:=z;simp only [evI,af,ae] at ev;obtain ⟨⟨zs,δ1⟩,e1,ws,e2,e3⟩:=ev;cases e3;unfold zpD at e2;split at e2
 . rename_i x y ez;have ez:zs = [x,y]:=ez;subst ez;rw [ae] at e2;obtain ⟨xs,ex,e2⟩:=e2;rw [aL] at e2;obtain ⟨ys,ey,rfl⟩:=e2;refine ⟨G,F,δ,[x,y],_,ok,e1,λvs H1 F1 st sm ok1 r1=>?_⟩;have r:=r1.rl n;unfold aK at r;obtain ⟨v1,_,rfl,q1,r⟩:=r;unfold aK at r;obtain ⟨v2,_,rfl,q2,r⟩:=r;unfold aK at r;subst r;obtain ⟨l1,us1,rfl,s1,_⟩:=oy ex q1;obtain ⟨l2,us2,rfl,s2,_⟩:=oy ey q2;exact ⟨kM x,kM y,l1,l2,us1,us2,rfl,s1,s2,post _ _ _ st sm ok1 λG'=>JC ok1.fd ex ey q1 q2⟩
 . cases e2
end
section
variable {cx:Cl} {k:Nat}
def nC {c:Ck} {tg:Tg} {ts:List Str} {kk:Nat} (h:ts.length = kk):(qa ts c.N++ts).length = c.N.length+kk:=by
 unfold qa;rw [ay,aw,h]
def oV {c:Ck} {t:It} {x tg:aI} (h:ckI c t tg x = true) (env:Env) (v:ag):foldedSetIterable x env v = pure v:=by
 cases t with
 | rng e=>obtain ⟨_,_,_,_,rfl,_⟩:=dY h;rfl
 | zp es=>obtain ⟨_,_,_,_,rfl,_⟩:=dY h;rfl
 | sq e =>
   have h:(ckE c e x && !bE e) = true:=h;rw [aa] at h;exact EM (bP h.1) env v
def gX {X:Cx} {c:Ck} {f:Blt} {es:Es} {x:aI} (C:Cok X c cx k) (h:ckE c (.blt f es) x = true) (hE:∀ e y,es = .cons e .nil->ckE c e y = true->PE X y (tE X.K cx e)) (hA:∀ xs,jo c es xs = true->qH es = true->PA X xs (tEs X.K cx es)) :
 PE X x (tE X.K cx (.blt f es))/\∀ whole,isTrue x X.env whole = (do let v <- whole;standAt x.pos;holding [v] (truthy v)):=by
 obtain ⟨n,np,xs,p,rfl,hh⟩:=dY h;refine ⟨?_,λ_=>rfl⟩;simp only [aa] at hh;obtain ⟨⟨h1,h2⟩,h3⟩:=hh;have e:=of_decide_eq_true h1;subst e
 cases hT:tyName f with
 | some T =>
   rw [hT] at h3;obtain ⟨y,w,rfl,h4⟩:=jD h3;obtain ⟨t,tp,rfl,h5⟩:=bz h4;simp only [aa] at h5;obtain ⟨⟨⟨a1,a2⟩,a3⟩,a4⟩:=h5;have et:=of_decide_eq_true a1
   cases es with
   | nil=>exact absurd (cR a3).1 ↥0
   | cons e es' =>
     obtain ⟨_,_,q0,a3'⟩:=cD a3;cases q0;rw [aa] at a3'
     cases es' with
     | cons _ _=>obtain ⟨_,_,q0,_⟩:=cD a3'.2;cases q0
     | nil =>
       have q:=hE e y rfl a3'.1;obtain ⟨t1,t2,t3⟩:=C.global a2
       have tb:t∈jq:=by
        subst et;cases f<;>simp [tyName] at hT<;>subst hT<;>decide
       have hs:starEach [y,.Name t tp] X.env = [(false,eval y X.env),(false,eval (.Name t tp) X.env)]:=by rw [bO (bP a3'.1)];rfl
       have nm:rV f = ("isinstance":Str):=by cases f<;>simp [tyName] at hT<;>rfl
       rw [nm] at h2 |-;obtain ⟨g1,_,_⟩:=C.global h2
       exact Kv hT et g1 (C.blt _ ⇑0) t1 (C.blt _ tb) q hs
 | none =>
   rw [hT] at h3;simp only [aa] at h3;obtain ⟨⟨b1,b2⟩,b3⟩:=h3
   cases xs with
   | nil=>simp at b1
   | cons y ys=>exact MK C h2 hT (hA _ b2 b3) b2
def mtT {X:Cx} {c:Ck} {m:Mt} {a b:E} {x:aI} (C:Cok X c cx k) (h:ckE c (.mt m a b) x = true) (hA:∀ y,ckE c a y = true->PE X y (tE X.K cx a)) (hB:∀ y,ckE c b y = true->PE X y (tE X.K cx b)) :
 PE X x (tE X.K cx (.mt m a b))/\∀ whole,isTrue x X.env whole = (do let v <- whole;standAt x.pos;holding [v] (truthy v)):=by
 obtain ⟨_,_,_,_,_,rfl,hln,hh⟩:=kx h;obtain ⟨_,rfl,h9⟩:=du hh;rw [aa] at h9;obtain ⟨h9,h6⟩:=h9;simp only [aa] at h9;obtain ⟨⟨⟨⟨h1,h2⟩,h3⟩,h4⟩,h5⟩:=h9;have e:=of_decide_eq_true h1;subst e;refine ⟨?_,λ_=>rfl⟩;exact Kt C.units h4 h5 (hA _ h2) (hB _ h3) hln (IK h6) (bO (bP h3) [] X.env) (by rw [bO (bP h3)];rfl)
def ixT {X:Cx} {c:Ck} {a b:E} {x:aI} (C:Cok X c cx k) (h:ckE c (.ix a b) x = true) (hA:∀ y,ckE c a y = true->PE X y (tE X.K cx a)) (hB:∀ y,ckE c b y = true->PE X y (tE X.K cx b)) :
 PE X x (tE X.K cx (.ix a b))/\∀ whole,isTrue x X.env whole = (do let v <- whole;standAt x.pos;holding [v] (truthy v)):=by
 obtain ⟨_,_,_,rfl,hq1⟩:=jl h;simp only [aa] at hq1;obtain ⟨⟨⟨h1,h2⟩,h3⟩,h4⟩:=hq1;exact ⟨Ku h3 (hA _ h1) (hB _ h2) (zo (bP h2)),λ_=>rfl⟩
def Fp {X:Cx} {c:Ck} {f:Nat} {es:Es} {x:aI} (C:Cok X c cx k) (h:ckE c (.call f es) x = true) (hA:∀ xs,jo c es xs = true->qH es = true->PA X xs (tEs X.K cx es)) :
 PE X x (tE X.K cx (.call f es))/\∀ whole,isTrue x X.env whole = (do let v <- whole;standAt x.pos;holding [v] (truthy v)):=by
 obtain ⟨n,np,xs,p,rfl,hh⟩:=dY h;refine ⟨?_,λ_=>rfl⟩;have h':=hh;split at h'
 . simp only [aa] at h';exact call_of C (hA _ h'.1.1.2 (iL h'.1.2)) hh
 . cases h'
def noT (h:∀ δ,evT cx e δ = none):PT X x (tT X.K cx e):=λpins s σ H Q I q=>by
 obtain ⟨G,F,δ,b,δ',ok,ev,post⟩:=q;rw [h] at ev;cases ev
def noE {X:Cx} {e:E} {x:aI} (h:∀ δ,evE cx e δ = none):PE X x (tE X.K cx e):=λpins s σ H Q I q=>by
 obtain ⟨G,F,δ,b,δ',ok,ev,post⟩:=q;rw [h] at ev;cases ev
mutual
theorem cB:∀ (e:E) (X:Cx) (c:Ck) (x:aI),Cok X c cx k->ckE c e x = true->PE X x (tE X.K cx e)
 | .var i,X,c,x,C,h=>by
   obtain ⟨_,_,rfl,hq1⟩:=bz h;replace h:=hq1
   . obtain ⟨n1,n2,n3,n4⟩:=C.name h
     exact GC n1 n2 n3 n4
 | .pk i,X,c,x,C,h=>by
   obtain ⟨_,_,rfl,hq1⟩:=bz h;replace h:=hq1
   . obtain ⟨n1,n2,n3,n4⟩:=C.name h
     exact Ks n1 n2 n3 n4
 | .glob g,X,c,x,C,h=>by
   obtain ⟨_,_,rfl,hq1⟩:=bz h;replace h:=hq1
   . rw [aa] at h;have e:=of_decide_eq_true h.1;obtain ⟨g1,g2,g3⟩:=C.global h.2;obtain ⟨d,hd⟩:=C.gsome g _ e;obtain ⟨u,v,hm,r,hr⟩:=C.glob g _ d e hd
     exact CN g1 hm r (λd' hd'=>by rw [hd] at hd';cases hd';exact hr) g2
 | .int i,X,c,x,C,h=>by
   obtain ⟨_,_,_,rfl,hq1⟩:=lG h;obtain ⟨_,rfl,hq2⟩:=DX hq1;replace h:=hq2
   . have e:=of_decide_eq_true h;subst e;exact GQ
 | .bl i,X,c,x,C,h=>by
   obtain ⟨_,_,_,rfl,hq1⟩:=lG h;obtain ⟨_,rfl,hq2⟩:=LC hq1;replace h:=hq2
   . have e:=of_decide_eq_true h;subst e;exact Kw
 | .non,X,c,x,C,h=>by
   obtain ⟨_,_,_,rfl,hq1⟩:=lG h;replace h:=hq1;have e:=EB h;subst e
   exact GJ
 | .str i,X,c,x,C,h=>by
   obtain ⟨_,_,_,rfl,hq1⟩:=lG h;obtain ⟨_,rfl,hq2⟩:=DW hq1;replace h:=hq2
   . have e:=of_decide_eq_true h;subst e;exact GF
 | .bin op a b,X,c,x,C,h=>by
   obtain ⟨_,_,_,_,rfl,hq1⟩:=vB h;replace h:=hq1
   . simp only [aa] at h;obtain ⟨⟨⟨h1,h2⟩,h3⟩,h4⟩:=h
     exact GV h1 h4 (cB a X c _ C h2) (cB b X c _ C h3)
 | .cmp op a b,X,c,x,C,h=>by
   obtain ⟨_,_,_,_,rfl,hq1⟩:=pW h;obtain ⟨_,rfl,hq2⟩:=du hq1;obtain ⟨_,rfl,hq3⟩:=du hq2;replace h:=hq3
   . simp only [aa] at h;obtain ⟨⟨⟨h1,h2⟩,h3⟩,h4⟩:=h
     exact GU C.units h1 h4 (cB a X c _ C h2) (cB b X c _ C h3) (rN (bP h3) _)
 | .and a b,X,c,x,C,h=>by
   obtain ⟨o,_,p,rfl,hq1⟩:=me h;obtain ⟨y,r,rfl,hq2⟩:=cD hq1;obtain ⟨z,r2,rfl,hq3⟩:=cD hq2;simp only [aa] at hq3;obtain ⟨⟨⟨⟨h0,h1⟩,h2⟩,h3⟩,h4⟩:=hq3;cases o<;>first | (cases h0;done) | skip
   cases r2 with
   | nil=>exact snd_and h3 h4 (cB a X c _ C h1) (DK (cB b X c _ C h2))
   | cons w r=>exact snd_and h3 h4 (cB a X c _ C h1) (cB b X c _ C h2)
 | .or a b,X,c,x,C,h=>by
   obtain ⟨o,_,p,rfl,hq1⟩:=me h;obtain ⟨y,r,rfl,hq2⟩:=cD hq1;obtain ⟨z,r2,rfl,hq3⟩:=cD hq2;simp only [aa] at hq3;obtain ⟨⟨⟨⟨h0,h1⟩,h2⟩,h3⟩,h4⟩:=hq3;cases o<;>first | (cases h0;done) | skip
   cases r2 with
   | nil=>exact CM h3 h4 (cB a X c _ C h1) (DK (cB b X c _ C h2))
   | cons w r=>exact CM h3 h4 (cB a X c _ C h1) (cB b X c _ C h2)
 | .not a,X,c,x,C,h=>by
   obtain ⟨o,_,_,rfl,hh⟩:=oF h;simp only [aa] at hh;obtain rfl:=vQ hh.1.1
   exact GI hh.2 (cB a X c _ C hh.1.2)
 | .neg a,X,c,x,C,h=>by
   obtain ⟨o,_,_,rfl,hh⟩:=oF h;simp only [aa] at hh;obtain rfl:=EC hh.1.1
   exact GK hh.2 (cB a X c _ C hh.1.2)
 | .ite t a b,X,c,x,C,h=>by
   obtain ⟨_,_,_,_,rfl,hq1⟩:=yX h;replace h:=hq1
   . simp only [aa] at h;obtain ⟨⟨⟨⟨h1,h2⟩,h3⟩,h4⟩,h5⟩:=h
     exact GP h4 h5 (lE t X c _ C h1) (cB a X c _ C h2) (cB b X c _ C h3)
 | .tup es,X,c,x,C,h=>by
   obtain ⟨_,_,_,rfl,hq1⟩:=ik h;replace h:=hq1
   . rw [aa] at h
     exact GD h.2 (fF es X c _ C h.1 (iL h.2))
 | .lst es,X,c,x,C,h=>by
   obtain ⟨_,_,rfl,hq1⟩:=md h;replace h:=hq1
   . rw [aa] at h
     exact GO h.2 (fF es X c _ C h.1 (iL h.2))
 | .ix a b,X,c,x,C,h=>(ixT C h (λy q=>cB a X c y C q) λy q=>cB b X c y C q).1
 | .sl a lo hi,X,c,x,C,h=>by
   obtain ⟨_,_,_,rfl,hh⟩:=jl h;obtain ⟨_,_,o,_,rfl,h9⟩:=yV hh;simp only [aa] at h9;obtain ⟨h0,⟨⟨h1,h2⟩,h3⟩,h4⟩:=h9;obtain rfl:=dC.mp h0
   exact Kr (by simpa using h4) (cB a X c _ C h1) (Hb lo X c _ C h2) (Hb hi X c _ C h3)
 | .call f es,X,c,x,C,h=>(Fp C h λxs h1 h2=>fF es X c xs C h1 h2).1
 | .calld f es,X,c,x,C,h=>by
   obtain ⟨n,np,xs,p,rfl,hh⟩:=dY h;refine Fm C ?_ hh;split at hh
   . simp only [aa] at hh;exact fF es X c xs C hh.1.1.1.2 (iL hh.1.1.2)
   . cases hh
 | .blt f .nil,X,c,x,C,h=>(gX C h (λe y z=>by cases z) λxs h1 h2=>fF .nil X c xs C h1 h2).1
 | .blt f (.cons e .nil),X,c,x,C,h=>(gX C h (λe' y z h1=>by cases z;exact cB e X c y C h1) λxs h1 h2=>fF (.cons e .nil) X c xs C h1 h2).1
 | .blt f (.cons e (.cons e2 es)),X,c,x,C,h=>(gX C h (λe' y z=>by cases z) λxs h1 h2=>fF (.cons e (.cons e2 es)) X c xs C h1 h2).1
 | .pop i,X,c,x,C,h=>by
   obtain ⟨_,_,_,_,_,rfl,hln,hh⟩:=kx h;obtain ⟨_,_,rfl,h2⟩:=bz hh;obtain ⟨rfl,h3⟩:=cR h2;rw [aa] at h3;have e:=of_decide_eq_true h3.1;subst e;obtain ⟨n1,n2,n3,n4⟩:=C.name h3.2
   exact GH n1 n2 n3 n4 hln
 | .bad,X,c,x,C,h=>noE λδ=>rfl
 | .isdig i,X,c,x,C,h=>by
   obtain ⟨_,_,_,_,_,rfl,hln,hh⟩:=kx h;obtain ⟨_,_,rfl,h2⟩:=bz hh;obtain ⟨rfl,h3⟩:=cR h2;rw [aa] at h3;have e:=of_decide_eq_true h3.1;subst e;obtain ⟨n1,n2,n3,n4⟩:=C.name h3.2
   exact As n1 n2 n3 n4 hln
 | .mt m a b,X,c,x,C,h=>(mtT C h (λy q=>cB a X c y C q) λy q=>cB b X c y C q).1
 | .dix a b,X,c,x,C,h=>by
   obtain ⟨_,_,_,rfl,hh⟩:=jl h;simp only [aa] at hh;obtain ⟨⟨⟨h1,h2⟩,h3⟩,h4⟩:=hh
   exact GR (by have:=C.units;lia) h3 h4 (cB a X c _ C h1) (cB b X c _ C h2) (zo (bP h2))
 | .dgt a b e,X,c,x,C,h=>by
   obtain ⟨_,_,_,_,_,rfl,hln,hh⟩:=kx h;obtain ⟨_,_,rfl,h9⟩:=jD hh;simp only [aa] at h9;obtain ⟨⟨⟨⟨⟨⟨⟨h1,h2⟩,h3⟩,h4⟩,h5⟩,h6⟩,h7⟩,h8⟩:=h9;have e:=of_decide_eq_true h1;subst e;refine GS (by have:=C.units;lia) h5 h6 h7 (cB a X c _ C h2) (cB b X c _ C h3) (cB e X c _ C h4) ⟨?_,?_,by simpa using hln,?_⟩
   . obtain ⟨⟨_,_,_,rfl⟩,_⟩:=de (b:=true) (by rw [gO];exact h8);rfl
   . rw [bO (bP h3),bO (bP h4)];rfl
   . rw [bO (bP h3),bO (bP h4)];rfl
 | .comp kk tg src ifs elt,X,c,x,C,h=>by
   obtain ⟨_,_,_,_,rfl,hq1⟩:=oG h;obtain ⟨_,rfl,hq2⟩:=du hq1;obtain ⟨_,_,_,rfl,hq3⟩:=DY hq2;replace h:=hq3
   . split at h
     . rename_i ts ht;simp only [aa] at h;obtain ⟨⟨⟨⟨⟨⟨⟨⟨h1,h2⟩,h3⟩,h4⟩,h5⟩,h6⟩,h7⟩,h8⟩,h9⟩:=h;have nd:=(mS h4).1
       exact CO C h9 (nC (tg:=tg) (of_decide_eq_true h1)) h2 h3 h4 (λcl Ca s H fp=>sQ (hJ C h3 nd cl Ca s H fp) h5) (He src X c _ _ C h6)
        (λcl Ca s H fp=>NN ifs _ _ _ (hJ C h3 nd cl Ca s H fp) h7) (λcl Ca s H fp=>cB elt _ _ _ (hJ C h3 nd cl Ca s H fp) h8) (λv=>oV h6 _ v)
     . cases h
theorem lE:∀ (e:E) (X:Cx) (c:Ck) (x:aI),Cok X c cx k->ckE c e x = true->PT X x (tT X.K cx e)
 | .var i,X,c,x,C,h=>by
   obtain ⟨_,_,rfl,hq1⟩:=bz h;replace h:=hq1
   . obtain ⟨n1,n2,n3,n4⟩:=C.name h
     exact vh (.inl rfl) n1 n2 n3 n4
 | .pk i,X,c,x,C,h=>by
   obtain ⟨_,_,rfl,hq1⟩:=bz h;replace h:=hq1
   . obtain ⟨n1,n2,n3,n4⟩:=C.name h
     exact vh (.inr rfl) n1 n2 n3 n4
 | .cmp op a b,X,c,x,C,h=>by
   obtain ⟨_,_,_,_,rfl,hq1⟩:=pW h;obtain ⟨_,rfl,hq2⟩:=du hq1;obtain ⟨_,rfl,hq3⟩:=du hq2;replace h:=hq3
   . simp only [aa] at h;obtain ⟨⟨⟨h1,h2⟩,h3⟩,h4⟩:=h
     exact CS C.units h1 h4 (cB a X c _ C h2) (cB b X c _ C h3) (rN (bP h3) _)
 | .and a b,X,c,x,C,h=>by
   obtain ⟨o,_,p,rfl,hq1⟩:=me h;obtain ⟨y,r,rfl,hq2⟩:=cD hq1;obtain ⟨z,r2,rfl,hq3⟩:=cD hq2;simp only [aa] at hq3;obtain ⟨⟨⟨⟨h0,h1⟩,h2⟩,h3⟩,h4⟩:=hq3;cases o<;>first | (cases h0;done) | skip
   cases r2 with
   | nil=>exact vm (lE a X c _ C h1) (Hu (lE b X c _ C h2))
   | cons w r=>exact vm (lE a X c _ C h1) (PT.pw (lE b X c _ C h2))
 | .or a b,X,c,x,C,h=>by
   obtain ⟨o,_,p,rfl,hq1⟩:=me h;obtain ⟨y,r,rfl,hq2⟩:=cD hq1;obtain ⟨z,r2,rfl,hq3⟩:=cD hq2;simp only [aa] at hq3;obtain ⟨⟨⟨⟨h0,h1⟩,h2⟩,h3⟩,h4⟩:=hq3;cases o<;>first | (cases h0;done) | skip
   cases r2 with
   | nil=>exact yF (lE a X c _ C h1) (KR (lE b X c _ C h2))
   | cons w r=>exact yF (lE a X c _ C h1) (PT.pw (lE b X c _ C h2))
 | .not a,X,c,x,C,h=>by
   obtain ⟨o,_,_,rfl,hh⟩:=oF h;simp only [aa] at hh;obtain rfl:=vQ hh.1.1
   exact CQ (lE a X c _ C hh.1.2)
 | .call f es,X,c,x,C,h=>ox (es:=es) (f:=cx.call f) (Fp C h λxs h1 h2=>fF es X c xs C h1 h2).1 (Fp C h λxs h1 h2=>fF es X c xs C h1 h2).2 rfl (λδ=>rfl) λδ=>by rw [evT]
 | .blt f .nil,X,c,x,C,h=>ox (es:=.nil) (f:=jU f) (gX C h (λe y z=>by cases z) λxs h1 h2=>fF .nil X c xs C h1 h2).1 (gX C h (λe y z=>by cases z) λxs h1 h2=>fF .nil X c xs C h1 h2).2 rfl (λδ=>rfl) λδ=>by rw [evT]
 | .blt f (.cons e .nil),X,c,x,C,h=>ox (es:=.cons e .nil) (f:=jU f) (gX C h (λe' y z h1=>by cases z;exact cB e X c y C h1) λxs h1 h2=>fF (.cons e .nil) X c xs C h1 h2).1 (gX C h (λe' y z h1=>by cases z;exact cB e X c y C h1) λxs h1 h2=>fF (.cons e .nil) X c xs C h1 h2).2 rfl (λδ=>rfl) λδ=>by rw [evT]
 | .blt f (.cons e (.cons e2 es)),X,c,x,C,h=>ox (es:=.cons e (.cons e2 es)) (f:=jU f) (gX C h (λe' y z=>by cases z) λxs h1 h2=>fF (.cons e (.cons e2 es)) X c xs C h1 h2).1 (gX C h (λe' y z=>by cases z) λxs h1 h2=>fF (.cons e (.cons e2 es)) X c xs C h1 h2).2 rfl (λδ=>rfl) λδ=>by rw [evT]
 | .calld _ _,X,c,x,C,h=>noT λδ=>rfl
 | .glob _,X,c,x,C,h=>noT λδ=>rfl
 | .int _,X,c,x,C,h=>noT λδ=>rfl
 | .bl _,X,c,x,C,h=>noT λδ=>rfl
 | .non,X,c,x,C,h=>noT λδ=>rfl
 | .str _,X,c,x,C,h=>noT λδ=>rfl
 | .neg _,X,c,x,C,h=>noT λδ=>rfl
 | .mt m a b,X,c,x,C,h=>vk (mtT C h (λy q=>cB a X c y C q) λy q=>cB b X c y C q).1 (mtT C h (λy q=>cB a X c y C q) λy q=>cB b X c y C q).2 λδ k δ' q=>by
   simp only [evT,af,ae] at q;obtain ⟨⟨u,δ1⟩,e1,⟨v,δ2⟩,e2,d,e3,t,e4,e5⟩:=q;cases e5
   exact ⟨d,by simp only [evE,e1,e2,e3,af,aP];rfl,e4⟩
 | .dix _ _,X,c,x,C,h=>noT λδ=>rfl
 | .dgt _ _ _,X,c,x,C,h=>noT λδ=>rfl
 | .bin ..,X,c,x,C,h=>noT λδ=>rfl
 | .ite ..,X,c,x,C,h=>noT λδ=>rfl
 | .tup _,X,c,x,C,h=>noT λδ=>rfl
 | .lst _,X,c,x,C,h=>noT λδ=>rfl
 | .ix a b,X,c,x,C,h=>vk (ixT C h (λy q=>cB a X c y C q) λy q=>cB b X c y C q).1 (ixT C h (λy q=>cB a X c y C q) λy q=>cB b X c y C q).2 λδ k δ' q=>by
   simp only [evT,af,ae] at q;obtain ⟨⟨u,δ1⟩,e1,⟨v,δ2⟩,e2,d,e3,t,e4,e5⟩:=q;cases e5
   exact ⟨d,by simp only [evE,e1,e2,e3,af,aP];rfl,e4⟩
 | .sl ..,X,c,x,C,h=>noT λδ=>rfl
 | .isdig _,X,c,x,C,h=>noT λδ=>rfl
 | .pop _,X,c,x,C,h=>noT λδ=>rfl
 | .bad,X,c,x,C,h=>noT λδ=>rfl
 | .comp ..,X,c,x,C,h=>noT λδ=>rfl
theorem fF:∀ (es:Es) (X:Cx) (c:Ck) (xs:List aI),Cok X c cx k->jo c es xs = true->qH es = true->PA X xs (tEs X.K cx es)
 | .nil,X,c,xs,C,h,_=>by
   obtain ⟨rfl,hq1⟩:=cR h;replace h:=hq1
   . exact oo
 | .cons e es,X,c,xs,C,h,ho=>by
   obtain ⟨_,_,rfl,hq1⟩:=cD h;replace h:=hq1
   . rw [aa] at h;have ho':((!bE e || npS es) && qH es) = true:=ho;rw [aa] at ho';exact lU ho'.1 (cB e X c _ C h.1) (fF es X c _ C h.2 ho'.2) (bO (bP h.1) _ _)
theorem Hb:∀ (o:Eo) (X:Cx) (c:Ck) (l:Option aI),Cok X c cx k->ckO c o l = true->PO X l (tO X.K cx o)
 | .no,X,c,l,C,h=>by
   obtain rfl:=dC.mp h
   exact Jd (λe z=>by cases z) λ_=>rfl
 | .yes e,X,c,l,C,h=>by
   obtain ⟨_,rfl,hq1⟩:=ku h;replace h:=hq1
   . rw [aa] at h;have q:=cB e X c _ C h.1;exact Jd (λe' z=>by cases z;exact ⟨_,rfl,h.2,q⟩) λz=>by cases z
theorem NN:∀ (o:Eo) (X:Cx) (c:Ck) (l:List aI),Cok X c cx k->ckG c o l = true->PTs X l (tG X.K cx o)
 | .no,X,c,l,C,h=>by
   obtain ⟨rfl,hq1⟩:=cR h;replace h:=hq1
   . intro pins s σ H Q I q;obtain ⟨G,F,δ,b,δ',ok,ev,post⟩:=q;simp only [evG] at ev;cases ev
     exact Hx pins s σ H Q I (post H F Step.refl (λ_=>Sim.refl H) ok)
 | .yes e,X,c,l,C,h=>by
   obtain ⟨_,rfl,hq1⟩:=du h;replace h:=hq1
   . have q:=Hw (lE e X c _ C h);intro pins s σ H Q I z;obtain ⟨G,F,δ,b,δ',ok,ev,post⟩:=z;simp only [evG] at ev;exact q pins s σ H Q I ⟨G,F,δ,b,δ',ok,ev,post⟩
theorem He:∀ (t:It) (X:Cx) (c:Ck) (x tg:aI),Cok X c cx k->ckI c t tg x = true->PI X tg x (tI X.K cx t)
 | .rng e,X,c,x,tg,C,h=>by
   obtain ⟨_,_,_,_,rfl,hq1⟩:=dY h;obtain ⟨_,rfl,hq2⟩:=du hq1;replace h:=hq2
   . simp only [aa] at h;obtain ⟨⟨⟨h1,h2⟩,h3⟩,h4⟩:=h;have z:=of_decide_eq_true h1;subst z
     exact GG h4 (C.global h2).1 (C.blt _ ⇑0) (cB e X c _ C h3) (bO (bP h3) _ _)
 | .zp es,X,c,x,tg,C,h=>by
   obtain ⟨_,_,_,_,rfl,h1⟩:=dY h;obtain ⟨_,_,rfl,h2⟩:=jD h1;simp only [aa] at h2;obtain ⟨⟨⟨⟨a1,a2⟩,a3⟩,a5⟩,a6⟩:=h2;have e:=of_decide_eq_true a2;subst e
   exact Kp a1 a6 a5 (C.global a3).1 (C.blt _ ⇑0) (fF es X c _ C a5 (iL a6))
 | .sq e,X,c,x,tg,C,h=>by
   have h:(ckE c e x && !bE e) = true:=h;rw [aa] at h;exact Kq h.2 (cB e X c x C h.1)
end
end
def sf (K:PySem.W.Frag) (G:Gh) (F:au->Prop) (H:Hp) (o:Out) (E:Ends):Prop:=match o with
 | .nx δ'=>∀ σ' H' F',Step G F H F' H'->Ok K G F' σ' H' δ'->E.nx σ' H'
 | .rt d δ'=>∀ v σ' H' F',Step G F H F' H'->Ok K G F' σ' H' δ'->Rel K H' F' d v->E.rt v H'
 | .ro d δ'=>∀ a u σ' H' F',Step G F H F' H'->Ok K G F' σ' H' δ'->F' a->G.free a->H' a = some u->RelO K H' F' d u->E.rt (.ref a) H'
def tS (K:PySem.W.Frag) (ev:Loc->Option Out):TS:=λE σ H=>∃ G F δ o,Ok K G F σ H δ/\ev δ = some o/\sf K G F H o E
def sf.step {K:PySem.W.Frag} {G:Gh} {F F1:au->Prop} {H H1:Hp} {o:Out} {E:Ends} (st:Step G F H F1 H1) (h:sf K G F H o E):sf K G F1 H1 o E:=by
 cases o with
 | nx δ=>exact λσ' H' F' s k=>h σ' H' F' (st.trans s) k
 | rt d δ=>exact λv σ' H' F' s k r=>h v σ' H' F' (st.trans s) k r
 | ro ds δ=>exact λa xs σ' H' F' s k=>h a xs σ' H' F' (st.trans s) k
section
variable {X:Cx} {c:Ck} {cx:Cl} {k:Nat}
def PS.imp {s:bw} {t t':TS} (h:PS X s t) (w:∀ E σ H,t' E σ H->t E σ H):PS X s t':=λpins s σ H E I q=>h pins s σ H E I (w E σ H q)
def PSs.imp {s:List bw} {t t':TS} (h:PSs X s t) (w:∀ E σ H,t' E σ H->t E σ H):PSs X s t':=λpins s σ H E I q=>h pins s σ H E I (w E σ H q)
def pH:PSs X [] (tS X.K (cY cx .nil)):=PSs.imp oE λE σ H zz=>by
 obtain ⟨G,F,δ,o,ok,ev,post⟩:=zz;simp only [cY] at ev;cases ev;exact post σ H F Step.refl ok
def gb {s:S} {ss:Ss} {y:bw} {ys:List bw} (h1:PS X y (tS X.K (evS cx s))) (h2:PSs X ys (tS X.K (cY cx ss))):PSs X (y::ys) (tS X.K (cY cx (.cons s ss))):=PSs.imp (ma h1 h2) λE σ H zz=>by
 obtain ⟨G,F,δ,o,ok,ev,post⟩:=zz;simp only [cY] at ev
 cases e:evS cx s δ with
 | none=>rw [e] at ev;cases ev
 | some o1 =>
   rw [e] at ev
   cases o1 with
   | nx δ1=>exact ⟨G,F,δ,.nx δ1,ok,e,λσ' H' F' st ok'=>⟨G,F',δ1,o,ok',ev,post.step st⟩⟩
   | rt d δ1=>cases ev;exact ⟨G,F,δ,_,ok,e,post⟩
   | ro d δ1=>cases ev;exact ⟨G,F,δ,_,ok,e,post⟩
def MN {tg:Tg} {e:E} {δ:Loc} {o:Out} (ev:evS cx (.asg tg e) δ = some o):∃ d δ1 δ2,evE cx e δ = some (d,δ1)/\fQ δ1 tg d = some δ2/\o = .nx δ2:=by
 simp only [evS,af,ae] at ev;obtain ⟨⟨d,δ1⟩,e1,δ2,e2,e3⟩:=ev;cases e3;exact ⟨d,δ1,δ2,e1,e2,rfl⟩
def MM {tg:Tg} {e:E} (n:(!bE e) = true) {E:Ends} {σ:L2.St} {H:Hp} (h:tS X.K (evS cx (.asg tg e)) E σ H):Gv (tE X.K cx e) (gTg X.K tg) E σ H:=by
 obtain ⟨G,F,δ,o,ok,ev,post⟩:=h;obtain ⟨d,δ1,δ2,e1,e2,rfl⟩:=MN ev;exact ⟨G,F,δ,d,δ1,ok,e1,λv H1 F1 st sm ok1 r=>sM ok1 (cW n r) e2 λσ' ok2 _=>post σ' H1 F1 st ok2⟩
def vn (C:Cok X c cx k) (hm:(isNm t || !Ir y) = true\/swappedStores [t] y X.env = pure none) (h:uv c tg t = true) (hy:ckE c e y = true) (n:(!bE e) = true) (hs:swapsWithSole [t] y pos.line X.env = pure false) (he:PE X y (tE X.K cx e)):PS X (.Assign [t] y pos) (tS X.K (evS cx (.asg tg e))):=by
 have hh:=bP hy
 have hw:swappedStores [t] y X.env = pure none:=by
  refine hm.elim (λhm=>?_) id;rcases uY h with ⟨_,_,rfl⟩ | ⟨_,_,_,rfl⟩
  . cases y<;>first | rfl | (exact absurd hh ak)
  . cases y<;>first | rfl | (exact absurd hm ak) | (exact absurd hh ak)
 have h1:(assignEach [t] X.env).map (·.2) = [assign t X.env]:=by
  rcases uY h with ⟨_,_,rfl⟩ | ⟨_,_,_,rfl⟩<;>rfl
 exact PS.imp (DG he (sQ C h) hs hw h1) λE σ H h=>MM n h
def tN (K:PySem.W.Frag) (cx:Cl) (e:E):TE:=λσ H Q=>∃ G F δ ds δ',Ok K G F σ H δ/\evE cx e δ = some (.lst ds,δ') /\
 ∀ p xs H1 F1,Step G F H F1 H1->Ok K G F1 σ H1 δ'->H1 p = none->aK K H1 F1 ds xs->Q (.ref p) (upd H1 p (.lst xs))
def HJ {K:PySem.W.Frag} {G:Gh} {F1:au->Prop} {σ:L2.St} {H1:Hp} {δ1:Loc} {i:Nat} {p:au} {ds:List D} {xs:List V} (ok1:Ok K G F1 σ H1 δ1) (hp:H1 p = none) (rl:aK K H1 F1 ds xs) (hi:i < δ1.length) :
 Ok K G (λb=>F1 b\/b = p) (σ.set i (some (.ref p))) (upd H1 p (.lst xs)) (δ1.set i (.own ds))/\Step G F1 H1 (λb=>F1 b\/b = p) (upd H1 p (.lst xs)):=by
 obtain ⟨o1,o2⟩:=ok1.enter hp xs;refine ⟨(o1.keep).own hi (.inr rfl) (ok1.free hp) bL (aK.step ok1.fd o2 ds xs rl) λj s e ho z=>?_,o2⟩;obtain ⟨a,u,d,e1,_,_,e2,_⟩:=eB.ow (ok1.sl j _ e) ho;rw [z] at e1;cases e1;rw [hp] at e2;cases e2
def CU (C:Cok X c cx k) {i:Nat} {e:E} {t:Str} {y:aI} {pos p2:Pos} (h:dZ c i t = true) (hy:ckE c e y = true) (nc:(!jH y) = true) (he:PE X y (tN X.K cx e)):PS X (.Assign [.Name t p2] y pos) (tS X.K (evS cx (.new i e))):=by
 obtain ⟨n1,n2,n3⟩:=C.to h;have nc':jH y = false:=by simpa using nc
 refine PS.imp (sY C.nd' n1 n2 he (jJ (bP hy) nc' _ _ _) n3) λE σ H zz=>?_;obtain ⟨G,F,δ,o,ok,ev,post⟩:=zz;simp only [evS,af,ae] at ev;obtain ⟨⟨d,δ1⟩,e1,ev⟩:=ev
 cases d with
 | lst ds =>
   dsimp only at ev;split at ev
   . cases ev;refine ⟨G,F,δ,ds,δ1,ok,e1,λp xs H1 F1 st ok1 hp rl=>?_⟩;obtain ⟨o1,o2⟩:=HJ ok1 hp rl ‹_›;exact post _ _ _ (st.trans o2) o1
   . cases ev
 | _=>cases ev
def Dk (n:jE es = true) (h:PA X xs (tEs X.K cx es)):PE X (.List xs pos) (tN X.K cx (.lst es)):=by
 refine PE.imp (xF h) λσ H Q h=>?_;obtain ⟨G,F,δ,d,δ',ok,ev,post⟩:=h;simp only [evE,af,ae] at ev;obtain ⟨⟨ds,δ1⟩,ea,ev⟩:=ev;split at ev
 . rename_i hz;cases ev;refine ⟨G,F,δ,ds,δ1,ok,ea,λvs H1 F1 st1 sm1 ok1 r1=>?_⟩;have r:=r1.rl n;exact ⟨by rw [r.length];exact hz,λp hp=>post p vs H1 F1 st1 ok1 hp r⟩
 . cases ev
def Ax (C:Cok X c cx k) {es:Es} {p pos:Pos} {y:aI} {ys:List aI} (hg:dO c (rV .toLst) = true) (hA:PA X (y::ys) (tEs X.K cx es)) (h:jo c es (y::ys) = true):PE X (.Call (.Name (rV .toLst) p) (y::ys) [] pos) (tN X.K cx (.blt .toLst es)):=by
 obtain ⟨g1,g2,g3⟩:=C.global hg;obtain ⟨e,es',rfl,h1,h2⟩:=hV h;have he:=bO (bP h1) ys X.env;have hpl:=ia (env:=X.env) (pos:=pos) h2;refine PE.imp (kJ mC g1 (C.blt _ ⇑0) rfl hA g3 g2 he hpl) λσ H Q h=>?_;obtain ⟨G,F,δ,ds,δ',ok,ev,post⟩:=h;simp only [evE] at ev;obtain ⟨zs,ea,hd⟩:=vU ev;refine ⟨G,F,δ,zs,δ',ok,ea,λvs H1 F1 st1 sm1 ok1 r1=>?_⟩;have r:=r1.bl;change mO zs = some (D.lst ds) at hd;unfold mO at hd;split at hd
 . cases hd;obtain ⟨v,rfl,r9⟩:=b1 r;obtain ⟨a,ws,rfl,h1,h2⟩:=r9.lst;exact ⟨a,ws,rfl,.inl h1.sq,λl hl=>post l ws H1 F1 st1 ok1 hl h2⟩
 . cases hd;obtain ⟨v,rfl,r9⟩:=b1 r;obtain ⟨a,ws,rfl,h1,h2⟩:=r9.tup;exact ⟨a,ws,rfl,.inr h1,λl hl=>post l ws H1 F1 st1 ok1 hl h2⟩
 . cases hd
def Hd {a:E} {lo hi:Eo} {y:aI} {l h:Option aI} {pos p2:Pos} (pc:(!bE a || (npO lo && npO hi)) = true) (ha:PE X y (tE X.K cx a)) (hl:PO X l (tO X.K cx lo)) (hh:PO X h (tO X.K cx hi)):PE X (.Subscript y (.Slice l h none p2) pos) (tN X.K cx (.sl a lo hi)):=by
 refine PE.imp (vx yG ha hl hh) λσ H Q h=>?_;obtain ⟨G,F,δ,ds,δ',ok,ev,post⟩:=h;simp only [evE,af,ae] at ev;obtain ⟨⟨x,δ1⟩,ea,⟨l',δ2⟩,eb,⟨h',δ3⟩,ec,d',hd,e⟩:=ev;cases e;dsimp only at eb ec hd post;refine ⟨G,F,δ,x,δ1,ok,ea,λv H1 F1 st1 sm1 ok1 r1=>⟨G,F1,δ1,l',δ2,ok1,eb,λH2 F2 st2 sm2 ok2=>⟨G,F2,δ2,h',δ3,ok2,ec,λH3 F3 st3 sm3 ok3=>?_⟩⟩⟩;have st:=st2.trans st3
 have rb:cX X.K H3 F3 x v:=by
  refine (RelM.step ok1.fd st (λz=>?_) r1).b;rw [z] at pc;have pc':(npO lo && npO hi) = true:=by simpa using pc
  rw [aa] at pc';exact (sm2 pc'.1).trans (sm3 pc'.2)
 unfold slD at hd;split at hd
 . cases hd;obtain ⟨p,xs,e1,h1,h2⟩:=rb.lst;exact ⟨p,xs,e1,h1.sq,λq hq=>post q _ H3 F3 (st1.trans st) ok3 hq (h2.cut l' h')⟩
 . split at hd
   . cases hd
   . cases hd
 . split at hd
   . cases hd
   . cases hd
 . cases hd
end
section
variable {X:Cx} {c:Ck} {cx:Cl} {k:Nat}
def Dc (C:Cok X c cx k) {i:Nat} {op:Op} {o:iE} {e:E} {t:Str} {y:aI} {pos p2:Pos} (h:dZ c i t = true) (ho:HU op o = true) (n:(!bE e) = true) (he:PE X y (tE X.K cx e)):PS X (.AugAssign (.Name t p2) o y pos) (tS X.K (evS cx (.aug i op e))):=by
 obtain ⟨n1,n2,n3⟩:=C.to h
 have inv:∀ {δ:Loc} {out:Out},evS cx (.aug i op e) δ = some out->∃ x y δ1 z,δ[i]? = some (.val x)/\evE cx e δ = some (y,δ1)/\out = .nx (δ1.set i (.val z))/\op = .add/\Bp x y = some z:=by
  intro δ out ev;simp only [evS] at ev
  cases q:δ[i]? with
  | none=>rw [q] at ev;cases ev
  | some s =>
    rw [q] at ev
    cases s with
    | no=>cases ev
    | fnc _ _=>cases ev
    | odc _ _=>cases ev
    | own _=>cases ev
    | val x =>
      simp only [af,ae] at ev;obtain ⟨⟨d,δ1⟩,e1,ev⟩:=ev;dsimp only at ev
      cases op with
      | add =>
        obtain ⟨z,h1,h2⟩:=aL.mp ev
        exact ⟨x,d,δ1,z,rfl,e1,h2.symm,rfl,h1⟩
      | _=>cases ev
 cases op with
 | add =>
   cases o<;>first | (exact absurd ho ak) | skip
   refine PS.imp (KZ C.nd' n1 n2 he Mf n3) λE σ H zz=>?_;obtain ⟨G,F,δ,out,ok,ev,post⟩:=zz;obtain ⟨x,y,δ1,z,e1,e2,rfl,_,e3⟩:=inv ev
   . obtain ⟨v,ev,r⟩:=ok.sl i _ e1;refine ⟨_,ev,G,F,δ,_,δ1,ok,e2,λu H1 F1 st sm ok1 r1=>?_⟩;have hi:i < δ1.length:=by rw [ok1.len,<- ok.len];exact (aE.mp e1).1
     have ra:Rel X.K H1 F1 x v:=Rel.step ok.fd st x v r;have rb:=cW n r1;unfold Bp at e3;split at e3
     . cases e3;unfold Rel at ra rb;subst ra rb;exact ⟨_,_,rfl,rfl,post _ H1 F1 st (ok1.set hi (cw _))⟩
     . cases e3
 | _ =>
   refine PS.imp DD λE σ H zz=>?_;obtain ⟨G,F,δ,out,ok,ev,post⟩:=zz;obtain ⟨_,_,_,_,_,_,_,z,_⟩:=inv ev;cases z
def CT {e:E} {y:aI} {pos:Pos} (n:(!bE e) = true) (he:PE X y (tE X.K cx e)):PS X (.Return (some y) pos) (tS X.K (evS cx (.ret e))):=PS.imp (xC he) λE σ H zz=>by
 obtain ⟨G,F,δ,out,ok,ev,post⟩:=zz;simp only [evS,af,ae] at ev;obtain ⟨⟨d,δ1⟩,e1,ev⟩:=ev;cases ev;exact ⟨G,F,δ,d,δ1,ok,e1,λv H1 F1 st sm ok1 r=>post v σ H1 F1 st ok1 (cW n r)⟩
def CV {t:E} {a b:Ss} {y:aI} {ya yb:List bw} {pos:Pos} (ht:PT X y (tT X.K cx t)) (ha:PSs X ya (tS X.K (cY cx a))) (hb:PSs X yb (tS X.K (cY cx b))):PS X (.If y ya yb pos) (tS X.K (evS cx (.ifs t a b))):=PS.imp (Jh ht ha hb) λE σ H zz=>by
 obtain ⟨G,F,δ,out,ok,ev,post⟩:=zz;simp only [evS,af,ae] at ev;obtain ⟨⟨q,δ1⟩,e1,ev⟩:=ev;refine ⟨G,F,δ,q,δ1,ok,e1,λH1 F1 st sm ok1=>?_⟩
 cases q with
 | true=>exact AS ⟨G,F1,δ1,out,ok1,ev,post.step st⟩
 | false=>exact AU ⟨G,F1,δ1,out,ok1,ev,post.step st⟩
def CW (C:Cok X c cx k) {tg:Tg} {src:It} {body:Ss} {t it:aI} {ys:List bw} {pos:Pos} (htg:uv c tg t = true) (hI:PI X t it (tI X.K cx src)) (hset:∀ v,foldedSetIterable it X.env v = pure v) (hb:PSs X ys (tS X.K (cY cx body))):PS X (.For t it ys [] pos) (tS X.K (evS cx (.for_ tg src body))):=by
 have hp:lh (model X.prog X.w) X.A X.env X.xe:=by rw [C.xe];exact jt
 refine PS.imp (DF hp C.calm hI (sQ C htg) hb hset) λE σ H zz=>?_;obtain ⟨G,F,δ,out,ok,ev,post⟩:=zz;simp only [evS,af,ae] at ev;obtain ⟨⟨ds,δ1⟩,e1,ev⟩:=ev;dsimp only at ev;generalize ef:(λ(x:D) (δ0:Loc)=>match fQ δ0 tg x with | some δ2=>cY cx body δ2 | none=>none) = f at ev;refine ⟨G,F,δ,ds,δ1,ok,e1,λJ H1 F1 st sm ok1 wk=>?_⟩;refine ⟨λi m σ' H'=>∃ F' δ',m = ds.length - i/\i<=ds.length/\Step G F1 H1 F' H'/\Ok X.K G F' σ' H' δ'/\forL f (ds.drop i) δ' = some out,⟨_,F1,δ1,rfl,cA _,Step.refl,ok1,ev⟩,?_⟩;rintro i m σ' H' ⟨F',δ',rfl,hi,st',ok',ev'⟩;by_cases hlt:i < ds.length
 . right;obtain ⟨d,hd⟩:∃ d,ds[i]? = some d:=⟨ds[i],by simp [hlt]⟩;obtain ⟨go,yl⟩:=(wk _ F' H' st' ok'.fd i).1 d hd;refine ⟨go,?_⟩
   have edr:ds.drop i = d::ds.drop (i+1):=by
    rw [jf hlt];congr 1;rw [aB hlt] at hd;exact bY hd
   rw [edr] at ev';unfold forL at ev';refine ⟨λσ2 H2=>∃ m',m' < ds.length - i/\∃ F2 δ2,m' = ds.length - (i+1)/\i+1<=ds.length/\Step G F1 H1 F2 H2/\Ok X.K G F2 σ2 H2 δ2/\forL f (ds.drop (i+1)) δ2 = some out,λσ2 H2 z=>z,λx H3 hy=>?_⟩;obtain ⟨sm,rx⟩:=yl x H3 hy;replace ok':=ok'.same' sm;replace st':=st'.trans (Step.of_same sm)
   cases hf:f d δ' with
   | none=>rw [hf] at ev';cases ev'
   | some o1 =>
     have hf':=hf;rw [<- ef] at hf';dsimp only at hf'
     cases hs:fQ δ' tg d with
     | none=>rw [hs] at hf';cases hf'
     | some δ2 =>
       rw [hs] at hf';refine sM ok' rx hs λσ2 ok2 _=>⟨G,F',δ2,o1,ok2,hf',?_⟩;rw [hf] at ev'
       cases o1 with
       | nx δ3=>exact λσ3 H4 F4 s4 k4=>⟨_,by omega,F4,δ3,rfl,hlt,st'.trans s4,k4,ev'⟩
       | rt d3 δ3 =>
         cases ev'
         exact λv σ3 H4 F4 s4 k4 r4=>post v σ3 H4 F4 ((st.trans st').trans s4) k4 r4
       | ro d3 δ3 =>
         cases ev';exact λa xs σ3 H4 F4 s4 k4=>post a xs σ3 H4 F4 ((st.trans st').trans s4) k4
 . left;have hi':i = ds.length:=by omega
   subst hi';refine ⟨(wk _ F' H' st' ok'.fd ds.length).2 rfl,?_⟩;rw [pd] at ev';cases ev';exact post σ' H' F' (st.trans st') ok'
def xx (C:Cok X c cx k) {t:E} {body:Ss} {y:aI} {ys:List bw} {pos:Pos} (ht:PT X y (tT X.K cx t)) (hb:PSs X ys (tS X.K (cY cx body))):PS X (.While y ys [] pos) (tS X.K (evS cx (.while_ t body))):=by
 have hp:lh (model X.prog X.w) X.A X.env X.xe:=by rw [C.xe];exact jt
 refine PS.imp (vv hp ht hb) λE σ H zz=>?_;obtain ⟨G,F,δ,out,ok,ev,post⟩:=zz;simp only [evS] at ev;refine ⟨λm σ' H'=>∃ F' δ',Step G F H F' H'/\Ok X.K G F' σ' H' δ'/\lB (λδ0=>evT cx t δ0) (λδ0=>cY cx body δ0) m δ' = some out,⟨1000,F,δ,Step.refl,ok,ev⟩,?_⟩;rintro m σ' H' ⟨F',δ',st',ok',ev'⟩
 cases m with
 | zero=>cases ev'
 | succ m =>
   unfold lB at ev'
   cases ec:evT cx t δ' with
   | none=>rw [ec] at ev';cases ev'
   | some q =>
     obtain ⟨b,δ1⟩:=q;rw [ec] at ev';refine ⟨G,F',δ',b,δ1,ok',ec,λH1 F1 st1 sm1 ok1=>?_⟩;have sA:=st'.trans st1
     cases b with
     | true =>
       refine AS ?_;dsimp only at ev';refine ⟨λσ2 H2=>∃ m',m' < m+1/\∃ F2 δ2,Step G F H F2 H2/\Ok X.K G F2 σ2 H2 δ2/\lB (λδ0=>evT cx t δ0) (λδ0=>cY cx body δ0) m' δ2 = some out,λσ2 H2 z=>z,?_⟩
       cases hf:cY cx body δ1 with
       | none=>rw [hf] at ev';cases ev'
       | some o1 =>
         rw [hf] at ev';refine ⟨G,F1,δ1,o1,ok1,hf,?_⟩
         cases o1 with
         | nx δ3=>exact λσ3 H4 F4 s4 k4=>⟨m,by omega,F4,δ3,sA.trans s4,k4,ev'⟩
         | rt d3 δ3 =>
           cases ev'
           exact λv σ3 H4 F4 s4 k4 r4=>post v σ3 H4 F4 (sA.trans s4) k4 r4
         | ro d3 δ3 =>
           cases ev'
           exact λa xs σ3 H4 F4 s4 k4=>post a xs σ3 H4 F4 (sA.trans s4) k4
     | false =>
       refine AU ?_;cases ev';exact post σ' H1 F1 sA ok1
end
section
variable {X:Cx} {c:Ck} {cx:Cl} {k:Nat}
def OE (h:ckE c e z = true):((backTo cp (starEach [z] env)).all (λx=>!x.1) && (backToKw cp (keywordEach [] env)).all (λx=>x.1.isSome)
 && decide (([z]:List aI).length+([]:List fL).length+(if ([]:List fL).isEmpty then 0 else 1) < 30)) = true:=by
 rw [bO (bP h)];rfl
def vo (C:Cok X c cx k) (hx:eW c i x = true) (hl:ap.endLine = cp.line) (hz:ckE c e z = true) (n:(!bE e) = true) (he:PE X z (tE X.K cx e)) :
 PS X (.Expr (.Call (.Attribute (.Name x p1) "append" ap) [z] [] cp) p2) (tS X.K (evS cx (.append i e))):=by
 obtain ⟨n1,n2,n3,n4⟩:=C.name hx;have hs:=bO (bP hz) [] X.env;have hA:PA X [z] (tEs X.K cx (.cons e .nil)):=lU (by simp [npS]) he oo hs;refine PS.imp (sZ (DS PySem.F.plainAttrs_list PySem.F.slot_list_append PySem.F.type_list_append mT (ij n1 n2 n3 n4) hA rfl (OE hz) (by simpa using hl) hs rfl)) λE σ H zz=>?_;obtain ⟨G,F,δ,out,ok,ev,post⟩:=zz;simp only [evS] at ev
 cases q:δ[i]? with
 | none=>rw [q] at ev;cases ev
 | some s =>
   rw [q] at ev
   cases s with
   | no=>cases ev
   | fnc _ _=>cases ev
   | odc _ _=>cases ev
   | val _=>cases ev
   | own ds0 =>
     simp only [af,ae] at ev;obtain ⟨⟨d,δ1⟩,e1,ev⟩:=ev;dsimp only at ev;obtain ⟨a,xs0,ea,f1,f2,f3,f4⟩:=ok.sl i _ q
     cases q1:δ1[i]? with
     | none=>rw [q1] at ev;cases ev
     | some s1 =>
       rw [q1] at ev
       cases s1 with
       | no=>cases ev
       | fnc _ _=>cases ev
       | odc _ _=>cases ev
       | val _=>cases ev
       | own ds =>
         dsimp only at ev;split at ev
         . rename_i hz';cases ev;refine ⟨.ref a,ea,.inl ⟨rfl,xs0,.inl (.inl f3)⟩,G,F,δ,[d],δ1,ok,by simp [eh,e1],λvs H1 F1 st sm ok1 r=>?_⟩;obtain ⟨d',ds',v,vs',ed,rfl,rv,rn⟩:=r;cases ed;obtain ⟨_,rfl⟩:=rn;have rv':=cW n rv;obtain ⟨a',xs,ea',g1,g2,g3,g4⟩:=ok1.sl i _ q1;rw [ea] at ea';cases ea';obtain ⟨o1,o2⟩:=ok1.write q1 ea (g4.append (aK.one rv'));exact ⟨a,xs,v,rfl,rfl,g3,by rw [g4.length];exact hz',post σ _ F1 (st.trans o2) o1⟩
         . cases ev
def xy (C:Cok X c cx k) (hx:eW c i x = true) (hy:ckE c e y = true) (n:(!bE e) = true) (nc:(!jH y) = true) (hz:ckE c j z = true) (nj:(!bE j) = true) (he:PE X y (tE X.K cx e)) (hj:PE X z (tE X.K cx j)) :
 PS X (.Assign [.Subscript (.Name x p1) z p2] y pos) (tS X.K (evS cx (.setix i j e))):=by
 obtain ⟨n1,n2,n3,n4⟩:=C.name hx;have nc':jH y = false:=by simpa using nc
 have hh:=bP hz;have hh2:=bP hy
 have ha:∀ v,assign (.Subscript (.Name x p1) z p2) X.env v = (do
  let ov <- holding [v] (eval (.Name x p1) X.env)
  let iv <- holding [v,ov] (eval z X.env)
  standAt p2
  holding [v,ov,iv] (setItem ov iv v)
  release [v,ov,iv] []):=by
  intro v;cases z<;>first | rfl | (exact absurd hh ak)
 have hsw:swapsWithSole [.Subscript (.Name x p1) z p2] y pos.line X.env = pure false:=by
  cases y<;>first | rfl | (exact absurd hh2 ak) | (exact absurd nc'.symm ak)
 have hw:swappedStores [.Subscript (.Name x p1) z p2] y X.env = pure none:=by
  cases y<;>first | rfl | (exact absurd hh2 ak)
 refine PS.imp (DG he (Le (ij n1 n2 n3 n4) hj set_list ha) hsw hw rfl) λE σ H zz=>?_;obtain ⟨G,F,δ,out,ok,ev,post⟩:=zz;simp only [evS,af,ae] at ev;obtain ⟨⟨d,δ1⟩,e1,ev⟩:=ev;dsimp only at ev;refine ⟨G,F,δ,d,δ1,ok,e1,λv H1 F1 st1 sm1 ok1 r1=>?_⟩
 cases q1:δ1[i]? with
 | none=>rw [q1] at ev;cases ev
 | some s1 =>
   rw [q1] at ev
   cases s1 with
   | no=>cases ev
   | fnc _ _=>cases ev
   | odc _ _=>cases ev
   | val _=>cases ev
   | own ds0 =>
     obtain ⟨a,xs0,ea,f1,f2,f3,f4⟩:=ok1.sl i _ q1;simp only [ae] at ev;obtain ⟨⟨dj,δ2⟩,e2,ev⟩:=ev;refine ⟨.ref a,ea,G,F1,δ1,dj,δ2,ok1,e2,λw H2 F2 st2 sm2 ok2 r2=>?_⟩
     cases dj with
     | int m =>
       have:=r2.b.int;subst this;dsimp only at ev
       cases q2:δ2[i]? with
       | none=>rw [q2] at ev;cases ev
       | some s2 =>
         rw [q2] at ev
         cases s2 with
         | no=>cases ev
         | fnc _ _=>cases ev
         | odc _ _=>cases ev
         | val _=>cases ev
         | own ds =>
           dsimp only at ev;obtain ⟨a',xs,ea',g1,g2,g3,g4⟩:=ok2.sl i _ q2;rw [ea] at ea';cases ea'
           cases q3:ixN ds.length m with
           | none=>rw [q3] at ev;cases ev
           | some mm =>
             rw [q3] at ev;cases ev;have rv:=Rel.step ok1.fd st2 d v (cW n r1);obtain ⟨o1,o2⟩:=ok2.write q2 ea (aK.set rv mm g4)
             exact ⟨a,xs,m,mm,rfl,rfl,g3,by rw [g4.length];exact q3,post σ _ F2 ((st1.trans st2).trans o2) o1⟩
     | _=>cases ev
def Au (C:Cok X c cx k) (h:dZ c i t = true):PS X (.Assign [.Name t p2] (.Dict [] [] dp) pos) (tS X.K (evS cx (.newd i))):=by
 obtain ⟨n1,n2,n3⟩:=C.to h;refine PS.imp (sY C.nd' n1 n2 DO rfl n3) λE σ H zz=>?_;obtain ⟨G,F,δ,o,ok,ev,post⟩:=zz;simp only [evS] at ev;split at ev
 . rename_i hi;cases ev;intro p hp;obtain ⟨o1,o2⟩:=ok.enterO hp (u:=.dK []) trivial;refine post _ _ _ o2 ((o1.keep).ownO (d:=.dct [] []) hi (.inr rfl) (ok.free hp) bL (.dct (vs:=[]) iT rfl aK.nil) λj s e ho z=>?_);obtain ⟨a,u,d,e1,_,_,e2,_⟩:=eB.ow (ok.sl j _ e) ho;rw [z] at e1;cases e1;rw [hp] at e2;cases e2
 . cases ev
def CZ:PS X x (tS X.K (evS cx .bad)):=λpins s σ H D I h=>by
 obtain ⟨G,F,δ,out,ok,ev,post⟩:=h;have ev:none = some out:=ev;cases ev
def Pd (hm:newOk e = true) (C:Cok X c cx k) (h:ckE c e y = true):PE X y (tN X.K cx e):=by
 unfold newOk at hm;split at hm
 . obtain ⟨_,_,rfl,hh⟩:=md h;rw [aa] at hh;exact Dk hh.2 (fF _ X c _ C hh.1 (iL hh.2))
 . rename_i es;obtain ⟨_,_,xs,_,rfl,hh⟩:=dY h;simp only [aa] at hh;obtain ⟨⟨h1,h2⟩,h3⟩:=hh;have e1:=of_decide_eq_true h1;subst e1;have h3:(!xs.isEmpty && jo c es xs && qH es) = true:=h3;simp only [aa] at h3
   cases xs with
   | nil=>simp at h3
   | cons y ys=>exact Ax C h2 (fF _ X c _ C h3.1.2 h3.2) h3.1.2
 . obtain ⟨_,_,_,rfl,hh⟩:=jl h;obtain ⟨_,_,o,_,rfl,h9⟩:=yV hh;simp only [aa] at h9;obtain ⟨h0,⟨⟨h1,h2⟩,h3⟩,h4⟩:=h9;obtain rfl:=dC.mp h0;exact Hd (by simpa using h4) (cB _ X c _ C h1) (Hb _ X c _ C h2) (Hb _ X c _ C h3)
 . cases hm
end
section
variable {X:Cx} {c:Ck} {cx:Cl} {k:Nat}
def Av (C:Cok X c cx k) (hS:X.env.scope = c.sc) (hB:X.env.blockKind = .function) (ho:(!own) = true)
 (hn:dZ c i t = true) (h:ckE c (.comp kk tg src ifs elt) (.ListComp ex gs sc p) = true) (hl:c.sc.names.lookup t = some .cell) (he:PE X (.ListComp ex gs sc p) (tE X.K cx (.comp kk tg src ifs elt))) :
 PS X (.Assign [.Name t tp] (.ListComp ex gs sc p) sp) (tS X.K (evS cx (.cmp own i (.comp kk tg src ifs elt)))):=by
 have hs:swapsWithSole [.Name t tp] (.ListComp ex gs sc p) sp.line X.env = pure false:=by
  have e1:X.env.kindOf t = some .cell:=by
   show X.env.scope.names.lookup t = some .cell;rw [hS];exact hl
  show (pure (X.env.blockKind == .function && X.env.kindOf t == some .local && tp.line == p.line && !(sc.names.any λ(n,k)=>n == t && (k == .local || k == .cell))):Sem Bool) = pure false;rw [hB,e1];congr 1
 have ht:uv c (.nm i) (.Name t tp) = true:=by
  unfold uv cE;exact Bool.and_eq_true_iff.mpr ⟨rfl,hn⟩
 refine PS.imp (vn (tg:=.nm i) C (.inl rfl) ht h rfl hs he) λD σ H hq=>?_;obtain ⟨G,F,δ,o,ok,ev,post⟩:=hq;refine ⟨G,F,δ,o,ok,?_,post⟩;obtain rfl:own = false:=by simpa using ho
 simp only [evS,af,ae] at ev |-;obtain ⟨⟨d,δ1⟩,e1,ev⟩:=ev
 cases d with
 | lst ds =>
   dsimp only at ev;split at ev
   . rename_i hi;cases ev;refine ⟨_,e1,_,?_,rfl⟩;exact if_pos hi
   . cases ev
 | _=>cases ev
def CY (C:Cok X c cx k) (hS:X.env.scope = c.sc) (hB:X.env.blockKind = .function)
 (hn:dZ c i t = true) (h:ckE c (.comp kk tg src ifs elt) (.ListComp ex gs sc p) = true) (hl:c.sc.names.lookup t = some .local) (hp:tp.line = p.line) (hz:(!(sc.names.any λ(n,k)=>n == t && (k == .local || k == .cell))) = true) :
 PS X (.Assign [.Name t tp] (.ListComp ex gs sc p) sp) (tS X.K (evS cx (.cmp own i (.comp kk tg src ifs elt)))):=by
 obtain ⟨n1,n2,n3⟩:=C.to hn;obtain ⟨_,_,_,_,e,hh⟩:=oG h;cases e;obtain ⟨_,rfl,h9⟩:=du hh;obtain ⟨tgt,it,il,rfl,h10⟩:=DY h9;replace h:=h10
 . split at h
   . rename_i ts ht;simp only [aa] at h;obtain ⟨⟨⟨⟨⟨⟨⟨⟨h1,h2⟩,h3⟩,h4⟩,h5⟩,h6⟩,h7⟩,h8⟩,h9⟩:=h;obtain ⟨nd,hvis⟩:=mS h4;have hk:=nC (tg:=tg) (c:=c) (of_decide_eq_true h1)
     have hsw:swapsWith (.ListComp ex [⟨tgt,it,il,0⟩] sc p) (some (.Name t tp)) sp.line X.env = pure true:=by
      have e1:X.env.kindOf t = some .local:=by
       show X.env.scope.names.lookup t = some .local;rw [hS];exact hl
      show (pure (X.env.blockKind == .function && X.env.kindOf t == some .local && tp.line == p.line && !(sc.names.any λ(n,k)=>n == t && (k == .local || k == .cell))):Sem Bool) = pure true;rw [hB,e1,hp,hz];congr 1;simp
     intro pins s σ H E I hq
     refine DE (Nc:=qa ts c.N++ts) (te:=tE X.K cx elt) (tt:=tG X.K cx ifs) (g:=gTg X.K tg) C.xe C.calm (pM C h3) (λi x hi=>by rw [C.hN] at hi |-;exact hvis i x hi) (by rw [C.hN,hk];lia) (He src X c _ _ C h6)
      (λcl Ca s H fp=>sQ (hJ C h3 nd cl Ca s H fp) h5) (λcl Ca s H fp=>NN ifs _ _ _ (hJ C h3 nd cl Ca s H fp) h7) (λcl Ca s H fp=>cB elt _ _ _ (hJ C h3 nd cl Ca s H fp) h8) (λv=>oV h6 _ v)
      C.nd' n1 n2 n3 hsw pins s σ H E I ?_
     obtain ⟨G,F,δ,o,ok,ev,post⟩:=hq;simp only [evS,af,ae] at ev;obtain ⟨⟨d,δ1⟩,e1,ev⟩:=ev
     cases d with
     | lst ds =>
       dsimp only at ev;split at ev
       . rename_i hi;cases ev;refine wq C I h9 hk h2 ok e1 λp ys xs H1 F1 H2 F2 e st1 st2 hp hg ok2 eD rl sm=>?_;cases e;show E.nx (σ.set i (some (.ref p))) H2
         cases own with
         | true =>
           refine post _ H2 F2 (st1.trans st2) ((ok2.keep).own hi (ok2.rf p (.inr rfl)) hg eD rl λj s ej ho z=>?_);obtain ⟨a,u,d,e2,_,g2,_⟩:=eB.ow (ok2.sl j _ ej) ho;rw [z] at e2;cases e2
           exact g2.2 (.inr rfl)
         | false =>
           have st':Step G F1 H1 (λb=>F2 b/\b≠p) H2:=⟨st2.keep,λb z=>st2.grow b z.1,λb o r f e=>by
            obtain ⟨a1,a2⟩:=st2.res b o r f e;exact ⟨⟨a1,λw=>by rw [w,hp] at e;cases e⟩,a2⟩,st2.tb⟩
           refine post _ H2 _ (st1.trans st') ((ok2.leave hg).set hi ?_);unfold Rel;exact ⟨p,xs,rfl,.inl ⟨.inl eD,λz=>z.2 rfl⟩,aK.less ok2.fd (λb z=>z.1) rl⟩
       . cases ev
     | _=>cases ev
   . cases h
end
section
variable {X:Cx} {c:Ck} {cx:Cl} {k:Nat} (C:Cok X c cx k) (hS:X.env.scope = c.sc) (hB:X.env.blockKind = .function)
include C hS hB
mutual
theorem De:∀ (s:S) (x:bw),ckS c s x = true->PS X x (tS X.K (evS cx s))
 | .asg tg e,x,h=>by
   obtain ⟨_,_,_,rfl,hq1⟩:=iq h;obtain ⟨_,rfl,hq2⟩:=du hq1;replace h:=hq2
   . simp only [aa] at h;obtain ⟨⟨⟨⟨h1,h2⟩,h3⟩,h4⟩,h5⟩:=h
     exact vn C (.inl h5) h1 h2 h3 (jJ (bP h2) (by simpa using h4) _ _ _) (cB e X c _ C h2)
 | .new i e,x,h=>by
   obtain ⟨_,_,_,rfl,hq1⟩:=iq h;obtain ⟨_,rfl,hq2⟩:=du hq1;obtain ⟨_,_,rfl,hq3⟩:=bz hq2;replace h:=hq3
   . simp only [aa] at h;obtain ⟨⟨⟨h1,h2⟩,h3⟩,h4⟩:=h
     exact CU C h1 h2 h3 (Pd h4 C h2)
 | .cmp own i e,x,h=>by
   have h:(EG e && _) = true:=h;rw [aa] at h;obtain ⟨h0,h⟩:=h;cases e<;>first | (cases h0;done) | skip
   obtain ⟨_,_,_,rfl,hh⟩:=iq h;obtain ⟨_,rfl,h2⟩:=du hh;obtain ⟨_,_,rfl,h3⟩:=HW h2;obtain ⟨_,_,_,_,rfl,h4⟩:=oG h3;simp only [aa] at h4;obtain ⟨⟨a1,a2⟩,a3⟩:=h4;rcases iB.mp a3 with a3 | a3
   . simp only [aa] at a3;exact CY C hS hB a1 a2 (of_decide_eq_true a3.1.1) (of_decide_eq_true a3.1.2) a3.2
   . rw [aa] at a3
     exact Av C hS hB a3.1 a1 a2 (of_decide_eq_true a3.2) (cB _ X c _ C a2)
 | .aug i op e,x,h=>by
   obtain ⟨_,_,_,_,rfl,hq1⟩:=Ec h;obtain ⟨_,_,rfl,hq2⟩:=bz hq1;replace h:=hq2
   . simp only [aa] at h;obtain ⟨⟨⟨h1,h2⟩,h3⟩,h4⟩:=h
     exact Dc C h1 h2 h4 (cB e X c _ C h3)
 | .ret e,x,h=>by
   obtain ⟨_,_,rfl,hq1⟩:=pV h;obtain ⟨_,rfl,hq2⟩:=ku hq1;replace h:=hq2
   . rw [aa] at h
     exact CT h.2 (cB e X c _ C h.1)
 | .ifs t a b,x,h=>by
   obtain ⟨_,_,_,_,rfl,hq1⟩:=vz h;replace h:=hq1
   . simp only [aa] at h
     exact CV (lE t X c _ C h.1.1) (pG a _ h.1.2) (pG b _ h.2)
 | .for_ tg src body,x,h=>by
   obtain ⟨_,_,_,_,_,rfl,hq1⟩:=vA h;obtain ⟨rfl,hq2⟩:=cR hq1;replace h:=hq2
   . simp only [aa] at h
     exact CW C h.1.1 (He src X c _ _ C h.1.2) (λv=>oV h.1.2 _ v) (pG body _ h.2)
 | .while_ t body,x,h=>by
   obtain ⟨_,_,_,_,rfl,hq1⟩:=yU h;obtain ⟨rfl,hq2⟩:=cR hq1;replace h:=hq2
   . rw [aa] at h
     exact xx C (lE t X c _ C h.1) (pG body _ h.2)
 | .append i e,x,h=>by
   obtain ⟨_,_,rfl,hh⟩:=tu h;obtain ⟨_,_,_,_,_,rfl,hln,h2⟩:=kx hh;obtain ⟨_,_,rfl,h3⟩:=bz h2;obtain ⟨_,rfl,h4⟩:=du h3;simp only [aa] at h4;obtain ⟨⟨⟨a1,a2⟩,a3⟩,a4⟩:=h4;have z:=of_decide_eq_true a1;subst z
   exact vo C a2 hln a3 a4 (cB e X c _ C a3)
 | .setix i j e,x,h=>by
   obtain ⟨_,_,_,rfl,hq1⟩:=iq h;obtain ⟨_,rfl,hq2⟩:=du hq1;obtain ⟨_,_,_,rfl,hq3⟩:=jl hq2;obtain ⟨_,_,rfl,hq4⟩:=bz hq3;replace h:=hq4
   . simp only [aa] at h;obtain ⟨⟨⟨⟨⟨h1,h2⟩,h3⟩,h4⟩,h5⟩,h6⟩:=h
     exact xy C h1 h2 h3 h4 h5 h6 (cB e X c _ C h2) (cB j X c _ C h5)
 | .newd i,x,h=>by
   obtain ⟨_,_,_,rfl,hq1⟩:=iq h;obtain ⟨_,rfl,hq2⟩:=du hq1;obtain ⟨_,_,rfl,hq3⟩:=bz hq2;rw [aa] at hq3;obtain ⟨_,rfl⟩:=Iz hq3.2
   exact Au C hq3.1
 | .opq _,x,h=>nomatch (h:false = true)
 | .bad,x,h=>CZ
theorem pG:∀ (ss:Ss) (xs:List bw),qL c ss xs = true->PSs X xs (tS X.K (cY cx ss))
 | .nil,xs,h=>by
   obtain ⟨rfl,hq1⟩:=cR h;replace h:=hq1
   . exact pH
 | .cons s ss,xs,h=>by
   obtain ⟨_,_,rfl,hq1⟩:=cD h;replace h:=hq1
   . rw [aa] at h;exact gb (De s _ h.1) (pG ss _ h.2)
end
end
end PP
end
section
namespace L2
open PySem PySem.Spec PyProof.Rows
def less (h:bH) (l:List au):bH:=⟨h.objs.mapIdx λi o=>if i∈l then { o with data:=.freed } else o,h.life⟩
def iM {h:bH} {l:List au} {b:au} (hb:b∈l):(less h l).get? b = none:=by
 unfold less Heap.get?;simp only [wV]
 cases h.objs[b]? with
 | none=>rfl
 | some o=>simp [hb]
def mh (hb:b∉l):(less h l).get? b = h.get? b:=by
 unfold less Heap.get?;simp only [wV]
 cases h.objs[b]? with
 | none=>rfl
 | some o=>simp [hb]
def lK {h:bH} {l:List au}:(less h l).StaysIn h:=λb o e=>by
 by_cases hb:b∈l
 . rw [iM hb] at e;cases e
 . rwa [mh hb] at e
def oM {h base base':bH}:∀ {l:List Env},h.FunFrames base l->(∀ b∈frs l,base'.get? b = none)->h.FunFrames base' l
 | [],_,_=>trivial
 | env::r,⟨hk,⟨L,o,hf,hn,ho,hd⟩,hr⟩,k=>by
   have hL:L∈frs (env::r):=by unfold frs;rw [bW,hf];exact av
   exact ⟨hk,⟨L,o,hf,k L hL,ho,hd⟩,oM hr λb hb=>k b (by unfold frs at *;rw [bW,hf];exact ai _ hb)⟩
section
variable {P:aR} {w:bB} {H:Hp} {h:bH} {a:au} {o:HO}
def eR.there (x:eR P w H h a o):∃ u,h.get? a = some u:=by
 cases o with
 | lst xs=>obtain ⟨_,_,_,_,e⟩:=x;exact ⟨_,e⟩
 | tup xs=>obtain ⟨_,_,_,_,e,_⟩:=x;exact ⟨_,e⟩
 | dK kvs=>obtain ⟨_,_,_,_,o,_,_,e,_⟩:=x;exact ⟨_,e⟩
 | dT kvs=>obtain ⟨_,_,_,_,o,_,_,e,_⟩:=x;exact ⟨_,e⟩
 | own y=>exact x
 | frz ob u=>obtain ⟨e,_⟩:=x;exact ⟨_,e⟩
 | tbl ps=>exact ⟨_,show h.get? a = some _ from x⟩
 | ext φ=>obtain ⟨_,e,_⟩:=x;exact e
def HOk.gone (x:HOk P w H h) (e:h.get? a = none):H a = none:=by
 cases q:H a with
 | none=>rfl
 | some u=>obtain ⟨_,z⟩:=(x a u q).there;rw [e] at z;cases z
end
structure Fly (h0:bH) (H:Hp) (e:au) (cls:ag) (h:bH):Prop where
 new:h0.get? e = none
 fre:H e = none
 tr:∃ oe vs a0 T oT ts,h.get? e = some oe/\(oe.cls = cls/\vs[0]? = some a0)/\oe.data = .fields vs/\vs[1]? = some (.ref T)/\(h0.get? T = none/\H T = none)/\T≠e/\h.get? T = some oT/\oT.data = .fields ts/\ts[3]? = some .none
def CXE (P:aR) (w:bB):CXT:=λouter H s E e s'=>∃ a cls H',e = .ref a/\Fly s.heap H' a cls s'.heap/\Un (frs outer) [] H H' s.heap s'.heap/\HOk P w H' s'.heap/\s'.os = s.os/\km s'.gens/\E cls none H'
def zf (I:Inv X pins σ H s) (hex:X.ex = []) (hst:X.stack = X.env::X.outer) (hfr:X.env.frame = some X.env.locals)
 (ne:X.s₀.heap.get? e = none) (nT:X.s₀.heap.get? T = none) (fe:H e = none) (fT:H T = none)
 (fl:Heap.FlyingW (less s.heap (e::T::frs X.stack)) X.outer e cls a0 h') (sm:s.heap.UpToSlots h') :
 Fly X.s₀.heap H e cls h'/\Un (frs X.outer) [] X.H₀ H X.s₀.heap h'/\HOk X.prog X.w H h':=by
 obtain ⟨stay,ne',ff,oe,vs,T',oT,ts,he,hc,hd,h1,nT',hTe,hT,hdT,h3⟩:=fl
 have out:∀ b o,s.heap.get? b = some o->b≠e->b≠T->b∉frs X.stack->h'.get? b = some o:=λb o q n1 n2 n3=>by
  refine stay b o ?_;rw [mh (by simp [n1,n2,n3])];exact q
 have ins:∀ b o,s.heap.get? b = some o->b∈frs X.stack->∃ sl,h'.get? b = some { o with slots:=sl }:=λb o q hb=>by
  obtain ⟨_,o',ho',nf⟩:=I.stack.mem hb;rw [q] at ho';cases ho';exact sm b o q nf
 have gone:∀ b,s.heap.get? b = none->X.s₀.heap.get? b = none:=λb q=>by
  cases z:X.s₀.heap.get? b with
  | none=>rfl
  | some o =>
    obtain ⟨o',q'⟩:=I.base.there b o z (by rw [hex];simp);rw [q] at q';cases q'
 have hL0:X.s₀.heap.get? X.env.locals = none:=zR I.ok.above
 have hstk:∀ b,b∈frs X.stack->b = X.env.locals\/b∈frs X.outer:=λb hb=>by
  rw [hst] at hb;unfold frs at hb;rw [bW,hfr] at hb;exact aD.mp hb
 have hsub:∀ b,b∈frs X.outer->b∈frs X.stack:=λb hb=>by
  rw [hst];unfold frs;rw [bW,hfr];exact ai _ hb
 have nT2:X.s₀.heap.get? T' = none/\H T' = none:=by
  by_cases hm:T'∈e::T::frs X.stack
  . rcases aD.mp hm with q | hm
    . exact absurd q hTe
    . rcases aD.mp hm with q | hm
      . rw [q];exact ⟨nT,fT⟩
      . obtain ⟨_,o',ho',nf⟩:=I.stack.mem hm;obtain ⟨sl,z⟩:=ins T' o' ho' hm;rw [hT] at z;cases z;exact absurd hdT (nf ts)
  . rw [mh hm] at nT';exact ⟨gone _ nT',I.hok.gone nT'⟩
 refine ⟨⟨ne,fe,oe,vs,a0,T',oT,ts,he,hc,hd,h1,nT2,hTe,hT,hdT,h3⟩,⟨λb o q n hb _=>?_,λb o q n hb _=>?_,λb o q n _=>?_,λb o q _=>?_,I.base.tups,I.base.frzs,I.base.tbls⟩,λb o q=>?_⟩
 . refine out b o (I.base.keep b o q n hb (by rw [hex];simp)) ?_ ?_ λz=>?_
   . rintro rfl;rw [ne] at q;cases q
   . rintro rfl;rw [nT] at q;cases q
   . rcases hstk b z with z | z
     . rw [z,hL0] at q;cases q
     . exact hb z
 . obtain ⟨sl,z⟩:=I.base.slot b o q n hb (by rw [hex];simp);obtain ⟨sl2,z2⟩:=ins b _ z (hsub b hb);exact ⟨sl2,z2⟩
 . exact I.base.free b o q n (by rw [hex];simp)
 . obtain ⟨o',z⟩:=I.base.there b o q (by rw [hex];simp);by_cases hb:b∈frs X.stack
   . obtain ⟨sl,z'⟩:=ins b o' z hb;exact ⟨_,z'⟩
   . refine ⟨o',out b o' z ?_ ?_ hb⟩
     . rintro rfl;rw [ne] at q;cases q
     . rintro rfl;rw [nT] at q;cases q
 . refine (I.hok b o q).stay (λc u hc z=>out c u z ?_ ?_ ?_) (λ_ z=>z) λ_ _ z=>z
   all_goals have hH:∃ v,H c = some v:=hc.elim (λz=>⟨o,by rw [z];exact q⟩) λz=>⟨_,z⟩
   . rintro rfl;obtain ⟨v,z2⟩:=hH;rw [fe] at z2;cases z2
   . rintro rfl;obtain ⟨v,z2⟩:=hH;rw [fT] at z2;cases z2
   . intro z3;obtain ⟨v,z2⟩:=hH;rw [I.stkFree c z3] at z2;cases z2
section
variable {P:aR} {w:bB} {K:PySem.W.Frag} {mg:Str->Option ag} {base:bH} {N:List Str} {qual:Str} {scope:fh} {f:au} {cd:ag} {A:bo} {outer:List Env} {s₀:aj} {H₀:Hp} {E:XK} {pins:List (au × Obj)} {σ:St} {H:Hp} {s:aj}
def Ji:Passes (CXE P w) (kD (CXE P w) P w K mg base N qual scope f cd A outer s₀ H₀ E) E:=λpins σ H s e s' I h=>by
 obtain ⟨a,cls,H',rfl,fly,un,hok,os,bare,q⟩:=h;obtain ⟨hh,g,d,t,os'⟩:=s';obtain rfl:os' = s.os:=os;have I2:=I.call (h':=hh) (g':=g) (d':=d) (t':=t) (ch:=[]) un hok bare (λb z=>absurd z ↥0)
 have gone:∀ b,s.heap.get? b = none->s₀.heap.get? b = none:=λb q=>by
  cases z:s₀.heap.get? b with
  | none=>rfl
  | some o =>
    obtain ⟨o',q'⟩:=I.base.there b o z (show b∉([]:List au) by simp);rw [q] at q';cases q'
 obtain ⟨oe,vs,a0,T,oT,ts,he,hc,hd,h1,⟨nT,fT⟩,hTe,hT,hdT,h3⟩:=fly.tr;show wpAny (model P w) _ (leaving _ (.ref a)) _ _ _;refine wpAny_leaves_onW (base:=less hh (a::T::frs (kD (CXE P w) P w K mg base N qual scope f cd A outer s₀ H₀ E).stack)) I.ok.frames rfl ⟨lK,iM av,oM I2.stack λb hb=>iM (ai _ (ai _ hb)),oe,vs,T,oT,ts,he,hc,hd,h1,iM (ai _ av),hTe,hT,hdT,h3⟩ λh' fl sm=>?_;obtain ⟨z1,z2,z3⟩:=zf I2 rfl rfl rfl (gone a fly.new) (gone T nT) fly.fre fT fl sm;exact ⟨a,cls,H',rfl,z1,z2,z3,I2.os,I2.bare,q⟩
def Oo {e:au} {cls:ag} {vs:List ag} {h':bH} (I:Inv (kD (CXE P w) P w K mg base N qual scope f cd A outer s₀ H₀ E) pins σ H s) (hx:Heap.MadeExcOf s.heap h' e cls vs) (q:E cls none H) :
 (kD (CXE P w) P w K mg base N qual scope f cd A outer s₀ H₀ E).xe (.ref e) { s with heap:=h' }:=by
 have gone:∀ b,s.heap.get? b = none->s₀.heap.get? b = none:=λb q=>by
  cases z:s₀.heap.get? b with
  | none=>rfl
  | some o =>
    obtain ⟨o',q'⟩:=I.base.there b o z (show b∉([]:List au) by simp);rw [q] at q';cases q'
 show wpAny (model P w) _ (leaving _ (.ref e)) _ _ _;refine wpAny_leaves_madeW (base:=less s.heap (e::e::frs (kD (CXE P w) P w K mg base N qual scope f cd A outer s₀ H₀ E).stack)) (h:=s.heap) I.ok.frames rfl lK (oM I.stack λb hb=>iM (ai _ (ai _ hb))) hx λh'' t fl _ _ sm=>?_;obtain ⟨z1,z2,z3⟩:=zf I rfl rfl rfl (gone e hx.new) (gone e hx.new) (I.hok.gone hx.new) (I.hok.gone hx.new) fl ((Heap.UpToSlots.of_keeps hx.keeps).trans sm);exact ⟨e,cls,H,rfl,z1,z2,z3,I.os,I.bare,q⟩
end
def sh (X:Cx) (E:St->XK):Prop:=∀ (pins:List (au × Obj)) (σ:St) (H:Hp) (s:aj) (e:ag) (s':aj),Inv X pins σ H s->CXE X.prog X.w X.stack H s (E σ) e s'->X.xe e s'
structure Rz (X:Cx) (E:St->XK):Prop where
 pass:sh X E
 made:∀ (pins:List (au × Obj)) (σ:St) (H:Hp) (s:aj) (e:au) (cls:ag) (vs:List ag) (h':bH),Inv X pins σ H s->Heap.MadeExcOf s.heap h' e cls vs->E σ cls none H->X.xe (.ref e) { s with heap:=h' }
def NP {P:aR} {w:bB} {K:PySem.W.Frag} {mg:Str->Option ag} {base:bH} {N:List Str} {qual:Str} {scope:fh} {f:au} {cd:ag} {A:bo} {outer:List Env} {s₀:aj} {H₀:Hp} {E:XK} :
 Rz (kD (CXE P w) P w K mg base N qual scope f cd A outer s₀ H₀ E) (λ_=>E):=⟨Ji,λ_ _ _ _ _ _ _ _ I hx q=>Oo I hx q⟩
def Jf:Rz X (λ_=>E0):=⟨λ_ _ _ _ _ _ _ h=>by obtain ⟨_,_,_,_,_,_,_,_,_,q⟩:=h;exact q.elim,λ_ _ _ _ _ _ _ _ _ _ q=>q.elim⟩
def veB:List ag:=[.type "ValueError",.type "Exception",.type "BaseException",.type "object"]
def VE (K:PySem.W.Frag) (C:au):Bool:=PySem.W.excIn K C veB "ValueError.__new__"
def ko {K:PySem.W.Frag} {h:bH} {C:au} (X:K.In h) (q:VE K C = true):∃ bm N nm qn bs hdct sn sub ab col dd k0 k1 k2 k3 k5 mN,h.get? C = some (excClassObj nm qn C N bs bm hdct sn sub ab col dd k0 k1 k2 k3 k5 "ValueError.__new__")/\h.Ns N mN/\mN "__init__" = none/\qQ h veB bm:=by
 unfold VE PySem.W.excIn at q;split at q
 . rename_i dd cd sl ho;split at q
   . rename_i C' bm k0 k1 k2 k3 n k5 hm hs;simp only [aa,beq_iff_eq,dJ] at q;obtain ⟨⟨⟨⟨⟨rfl,rfl⟩,hdel⟩,ht⟩,hok⟩,hni⟩:=q;obtain ⟨nm,bs,mro,ns,qn,hd,sn,sub,ab,col,del⟩:=cd;dsimp only at hm hdel hok hni;subst hm hdel
     have hsl:sl = #[k0,k1,k2,k3,some (.builtin "ValueError.__new__"),k5]:=by
      obtain ⟨l⟩:=sl;simp only at hs;rw [hs]
     subst hsl;exact ⟨bm,ns,nm,qn,bs,hd,sn,sub,ab,col,dd,k0,k1,k2,k3,k5,_,X _ _ ho,.of_isNs (PySem.W.isNs_of_in X hok),PySem.W.nsMap_none_of_in X hok hni,PySem.W.tail_of_in X ht⟩
   . cases q
 . cases q
def DC {X:Cx} {E:St->XK} {x t:Str} {C:au} {np cp j2 pos:Pos} {j:Nat} (R:Rz X E) (hc:X.calm = true) (hg:Gl X x) (hm:X.mg x = some (.ref C)) (hC:VE X.K C = true) (hd:(x == ("__debug__":Str)) = false) :
 PS X (.Raise (some (.Call (.Name x np) [.Constant (.str t) j j2] [] cp)) none pos) (λ_ σ H=>E σ (.ref C) none H):=by
 intro pins s σ H D I h;obtain ⟨tl,N,nm,q,bs,hdct,sn,sub,ab,col,dd,k0,k1,k2,k3,k5,mN,hC,hN,hni,T⟩:=ko I.mod.kin hC
 refine wpAny_Raise_call_subT (C:=C) (nm:=nm) (q:=q) (N:=N) (bs:=bs) (bm:=tl) (hdct:=hdct) (sn:=sn) (sub:=sub) (ab:=ab) (col:=col) (dd:=dd) (k0:=k0) (k1:=k1) (k2:=k2) (k3:=k3) (k5:=k5)
  PySem.F.excBase_ValueError (mN:=mN) (T.hasType PySem.F.excBase_ValueError.hasBase) (I.ok.hd hc) rfl hni (kN I hg hm ⟨rfl,?_⟩ hd)
 have ha:PA X [.Constant (.str t) j j2] (nD (tC (.str t)) CH):=fb DJ jC;refine gM (thn (ha cp pins s σ H (λvs H1=>vs.length = 1/\H1 = H) I ⟨rfl,rfl⟩) λus s2 ⟨vs,H2,I2,r,hl,hH⟩=>?_);refine ⟨rfl,?_,I2.bk _ _ hC,hN.keeps I2.bk,T.keeps I2.bk,λh' e hx=>R.made pins σ H2 s2 e _ _ h' I2 hx (by rw [hH];exact h)⟩;show us.length<=sizeLine;rw [<- r.length,hl];decide
section
variable {X:Cx}
def PA.nox {es:List aI} {t:TA} (h:PA X.nox es t):PA X es t:=λpos pins s σ H Q I hw =>
 cg (h pos pins s σ H Q (I.wish _) hw) (λ_ _ ⟨v,H',I',r,q⟩=>⟨v,H',I'.unwish,r,q⟩) λ_ _ z=>bX z
def PS.nox {st:bw} {t:TS} (h:PS X.nox st t):PS X st t:=λpins s σ H D I hw =>
 cg (h pins s σ H D (I.wish _) hw) (λ_ _ q=>q.unwish) λ_ _ z=>bX z
def PS.or {st:bw} {t u:TS} (h:PS X st t) (h':PS X st u):PS X st (λD σ H=>t D σ H\/u D σ H):=λpins s σ H D I hw=>hw.elim (h pins s σ H D I) (h' pins s σ H D I)
def DQ {E:St->XK} (R:sh X E) (F:gh X.prog X.w X.K X.mg X.base (CXE X.prog X.w) k f fd ps sp) (hr:ke k X.A) (hg:Gl X x) (hm:X.mg x = some (.ref f)) (hk:PySem.W.keepIn X.K (.ref f) = true) (hb:Binds X.K fd ps [])
 (ha:PA X (e::es) t) (hdb:(x == ("__debug__":Str)) = false) (he:starEach (e::es) X.env = (false,eval e X.env)::starEach es X.env) (hpl:(backTo pos (starEach es X.env)).any (·.1) = false) :
 PE X (.Call (.Name x p) (e::es) [] pos) (λσ H Q=>t σ H λvs H1=>sp vs H1 Q (E σ)):=by
 intro pins s σ H Q I h;refine jV (kN I hg hm ?_ hdb);refine PySem.W.callWith_K (h₀:=X.base) I.ok.mod.kin hk (thn (ha pos pins s σ H _ I h) λus s1 ⟨vs,H1,I1,r,q⟩=>⟨I1.kIn,?_⟩) he hpl;have hl:us.length = ps.length:=by rw [<- r.length];exact F.len _ _ _ _ q
 have hb2:=hb s1 us I1.kIn (by rw [cq];exact hl);rw [cq] at hb2;refine wpAny_call (qO (F.run X.A X.stack s1 H1 ⟨us,[]⟩ us vs Q (E σ) hr I1.env0 hb2 r q) λr s' hq=>?_)
 cases r with
 | error e=>exact R pins σ H1 s1 e s' I1 hq
 | ok fl =>
   cases fl with
   | ret u=>exact I1.after hq
   | next=>exact bX hq
   | brk=>exact bX hq
   | cont=>exact bX hq
end
section
variable {M:Model} {A:bo} {E:ag->aj->Prop}
variable {nm q nm' q':Str} {C N C' N':au} {bs bm bs' bm':List ag} {hdct hdct':Bool} {sn sn':List Str} {sub sub':List ag} {ab ab':Bool} {col col':Option Bool} {dd dd':Option au} {k0 k1 k2 k3 k5 l0 l1 l2 l3 l5:Option ag} {newId newId':String}
def AO {h:bH} {g:Array qS} {d:Drawn} {t:Nat} {os:Ng} {e:au} {oe:Obj} {Q:Bool->aj->Prop}
 (hC:h.get? C = some (excClassObj nm q C N bs bm hdct sn sub ab col dd k0 k1 k2 k3 k5 newId)) (hP:h.get? C' = some (excClassObj nm' q' C' N' bs' bm' hdct' sn' sub' ab' col' dd' l0 l1 l2 l3 l5 newId'))
 (he:h.get? e = some oe) (hcls:oe.cls = .ref C) (hbase:bm'.contains (.type "BaseException") = true)
 (hq:Q ((bA C::bm).contains (.ref C')) ⟨h,g,d,t,os⟩):wpAny M A (excMatches (.ref e) (.ref C')) Q E ⟨h,g,d,t,os⟩:=by
 have hcB:(bA C'::bm').contains (.type "BaseException") = true:=by rw [fO,hbase,wU]
 have f:=tc_notTuple;unfold excMatches
 repeat (first | (with_reducible refine bF he ?_;rw [hcls]) | with_reducible refine bF hP ?_ | (with_reducible refine dm hP ?_;rw [hcB]) | (with_reducible refine dm hC ?_) | wp_step)
 cases hb:(bA C::bm).contains (.ref C')<;>(rw [hb] at hq;wp_walk;exact hq)
end
section
variable {X:Cx} {pins:List (au × Obj)} {σ:St} {H:Hp} {s:aj} {h':bH}
def Inv.over {l:List au} {t':Nat} (I:Inv X pins σ H s) (hex:X.ex = []) (hl:∀ b∈l,X.s₀.heap.get? b = none/\b≠X.env.locals/\(∀ x c,X.env.cells.lookup x = some c->c≠b)/\∀ p∈X.pn++pins,p.1≠b)
 (keep:∀ b o,b∉frs X.stack->b∉l->s.heap.get? b = some o->h'.get? b = some o) (slot:∀ b o,b∈frs X.stack->s.heap.get? b = some o->∃ sl,h'.get? b = some { o with slots:=sl }) (hok:HOk X.prog X.w H h') :
 Inv X pins σ H { s with heap:=h',toks:=t' }:=by
 have any:∀ b o,b∉l->s.heap.get? b = some o->∃ sl,h'.get? b = some { o with slots:=sl }:=λb o n e=>by
  by_cases hb:b∈frs X.stack
  . exact slot b o hb e
  . exact ⟨o.slots,keep b o hb n e⟩
 have nl:∀ b o,X.s₀.heap.get? b = some o->b∉l:=λb o e z=>by rw [(hl b z).1] at e;cases e
 have nL:∀ b o,X.s₀.heap.get? b = some o->b≠X.env.locals:=λb o e=>aQ (aZ (aH e) I.ok.above);have ni:∀ b,b∉X.ex:=λb=>by rw [hex];simp
 have nst:∀ b,b≠X.env.locals->b∉X.fs->b∉frs X.stack:=λb h1 h2 z=>(aD.mp (I.stkSub b z)).elim h1 h2;have nlc:X.env.locals∉l:=λz=>(hl _ z).2.1 rfl
 have cellK:∀ x c,X.env.cells.lookup x = some c->∀ v,s.heap.IsCell c v->h'.IsCell c v:=λx c e v zz=>by
  obtain ⟨o,ho,hd⟩:=zz;obtain ⟨sl,q⟩:=any c o (λz=>(hl c z).2.2.1 x c e rfl) ho;exact ⟨_,q,hd⟩
 refine ⟨I.ok,I.os,I.bare,⟨λb o e n hb hx=>?_,λb o e n hb hx=>?_,λb o e n hx=>I.base.free b o e n hx,λb o e hx=>?_,I.base.tups,I.base.frzs,I.base.tbls⟩,?_,λx c e=>?_,I.free,I.freeC,λp hp=>?_,hok,I.len⟩
 . exact keep b o (nst b (nL b o e) hb) (nl b o e) (I.base.keep b o e n hb hx)
 . obtain ⟨sl,q⟩:=I.base.slot b o e n hb hx;obtain ⟨sl2,q2⟩:=any b _ (nl b o e) q;exact ⟨sl2,q2⟩
 . obtain ⟨o',q⟩:=I.base.there b o e hx;obtain ⟨sl2,q2⟩:=any b _ (nl b o e) q;exact ⟨_,q2⟩
 . obtain ⟨m,⟨o,es,ep,ho,r⟩,hv⟩:=I.loc;obtain ⟨sl,q⟩:=any _ o nlc ho;refine ⟨m,⟨_,es,ep,q,r⟩,λi x v e1 e2 e3=>?_⟩;obtain ⟨u,rv,lk⟩:=hv i x v e1 e2 e3;refine ⟨u,rv,?_⟩;rcases lk with lk | ⟨k,c,e,z⟩
   . exact .inl lk
   . exact .inr ⟨k,c,e,cellK x c e _ z⟩
 . obtain ⟨v,z⟩:=I.cell x c e;exact ⟨v,cellK x c e v z⟩
 . obtain ⟨e,n,ne,nf,d⟩:=I.pin p hp;exact ⟨keep p.1 p.2 (nst p.1 ne nf) (λz=>(hl p.1 z).2.2.2 p hp rfl) e,n,ne,nf,d⟩
def Inv.fly {e T:au} {t':Nat} (I:Inv X pins σ H s) (hex:X.ex = []) (fe:H e = none) (fT:H T = none)
 (hl:∀ b∈[e,T],X.s₀.heap.get? b = none/\b≠X.env.locals/\(∀ x c,X.env.cells.lookup x = some c->c≠b)/\∀ p∈X.pn++pins,p.1≠b)
 (stay:(less s.heap (e::T::frs X.stack)).StaysIn h') (sm:s.heap.UpToSlots h'):Inv X pins σ H { s with heap:=h',toks:=t' }:=by
 have keep:∀ b o,b∉frs X.stack->b∉[e,T]->s.heap.get? b = some o->h'.get? b = some o:=λb o n1 n2 q=>by
  refine stay b o ?_;rw [mh]
  . exact q
  . intro z;rcases aD.mp z with z | z
    . exact n2 (by rw [z];simp)
    . rcases aD.mp z with z | z
      . exact n2 (by rw [z];simp)
      . exact n1 z
 refine I.over hex hl keep (λb o hb q=>?_) λb o q=>?_
 . obtain ⟨_,o',ho',nf⟩:=I.stack.mem hb;rw [q] at ho';cases ho';exact sm b o q nf
 . refine (I.hok b o q).stay (λc u hc z=>keep c u ?_ ?_ z) (λ_ z=>z) λ_ _ z=>z
   all_goals have hH:∃ v,H c = some v:=hc.elim (λz=>⟨o,by rw [z];exact q⟩) λz=>⟨_,z⟩
   . intro z3;obtain ⟨v,z2⟩:=hH;rw [I.stkFree c z3] at z2;cases z2
   . intro z3;obtain ⟨v,z2⟩:=hH;rcases aD.mp z3 with z3 | z3
     . rw [z3,fe] at z2;cases z2
     . rw [aC.mp z3,fT] at z2;cases z2
end
def subIn (K:PySem.W.Frag) (C P:au):Bool:=match K.lookup C with
 | some ⟨_,_,.cls cd,_⟩=>cd.mro.contains (.ref P)
 | _=>false
def xu {K:PySem.W.Frag} {h:bH} {C P N:au} {nm q:Str} {bs bm:List ag} {hdct:Bool} {sn:List Str} {sub:List ag} {ab:Bool} {col:Option Bool} {dd:Option au} {k0 k1 k2 k3 k5:Option ag} {newId:String} {b:Bool} (X:K.In h) (e:subIn K C P = b) (hv:VE K C = true)
 (hC:h.get? C = some (excClassObj nm q C N bs bm hdct sn sub ab col dd k0 k1 k2 k3 k5 newId)):(bA C::bm).contains (.ref P) = b:=by
 unfold subIn at e;split at e
 . rename_i ho;have z:=X _ _ ho;rw [hC] at z;cases z;exact e
 . rename_i hn;unfold VE PySem.W.excIn at hv;split at hv
   . rename_i ho;exact absurd ho (hn _ _ _ _)
   . cases hv
abbrev Cx.mrk (X:Cx) (e:au):Cx:={ X with A:=X.A.mark (some (.ref e)),calm:=false,xe:=λ_ _=>False }
def Cx.Ok.mrk {X:Cx} (ok:X.Ok) (e:au):(X.mrk e).Ok :=
 ⟨ok.mod,ok.kind,ok.glob,ok.blt,ok.above,ok.inj,ok.has,ok.cab,(λz=>nomatch z),ok.frames,ok.stk,ok.exf,ok.bs,ok.bsz,ok.noex,ok.exfs,ok.funs,ok.frf⟩
def Inv.mrk {X:Cx} {pins:List (au × Obj)} {σ:St} {H:Hp} {s:aj} (I:Inv X pins σ H s) (e:au):Inv (X.mrk e) pins σ H s:=⟨I.ok.mrk e,I.os,I.bare,I.base,I.loc,I.cell,I.free,I.freeC,I.pin,I.hok,I.len⟩
def Inv.unmrk (ok:X.Ok) (I:Inv (X.mrk e) pins σ H s):Inv X pins σ H s:=⟨ok,I.os,I.bare,I.base,I.loc,I.cell,I.free,I.freeC,I.pin,I.hok,I.len⟩
section
variable {X:Cx} {pins:List (au × Obj)} {σ:St} {H:Hp} {s s':aj} {E:XK} {e:ag} {x n:Str} {P:au} {np hp:Pos} {b₀:bw} {suite:List bw} {rest:List kH} {Q:Flow->aj->Prop} {EX:ag->aj->Prop}
def MI (I:Inv X pins σ H s) (h:CXE X.prog X.w X.stack H s E e s') (hex:X.ex = []) (hst:X.stack = X.env::X.outer) (hfr:X.env.frame = some X.env.locals) (hg:Gl X x) (hm:X.mg x = some (.ref P)) (hP:VE X.K P = true) (hd:(x == ("__debug__":Str)) = false)
 (k:∀ (cls:ag) (H':Hp),E cls none H'->∃ C,cls = .ref C/\VE X.K C = true/\subIn X.K C P = true/\∀ (a:au) (s2:aj) (oe:Obj) (vs:Array ag),(Inv X ((a,oe)::pins) σ H' s2->oe.cls = .ref C->oe.data = .fields vs ->
   wpAny (model X.prog X.w) (X.A.mark (some (.ref a))) (storeName X.env n (.ref a)) (λ_ s₃=>wpAny (model X.prog X.w) (X.A.mark (some (.ref a))) (execs (b₀::suite) X.env)
    (λf s₄=>wpAny (model X.prog X.w) X.A (do bindName X.env n .none;unbindBehindTheSuite X.env n hp) (λ_ s₅=>Q f s₅) (λ_ _=>False) s₄) (λ_ _=>False) s₃) (λ_ _=>False) s2)) :
 wpAny (model X.prog X.w) X.A (noteFrame e X.env) (λ_ s₂=>wpAny (model X.prog X.w) X.A (setFlight e none) (λ_ s₃ =>
  wpAny (model X.prog X.w) X.A (handleBy e X.env (.ExceptHandler (some (.Name x np)) (some n) (b₀::suite) hp::rest)) Q EX s₃) EX s₂) EX s':=by
 obtain ⟨a,cls,H',rfl,fly,un,hok,os,bare,q⟩:=h;obtain ⟨hh,g,d,t,os'⟩:=s';obtain rfl:os' = s.os:=os;have I2:=I.call (h':=hh) (g':=g) (d':=d) (t':=t) (ch:=[]) un hok bare (λb z=>absurd z ↥0);obtain ⟨oe,vs,a0,T,oT,ts,he,hc,hdt,h1,⟨nT,fT⟩,hTe,hT,hdT,h3⟩:=fly.tr
 have hl:∀ b∈[a,T],X.s₀.heap.get? b = none/\b≠X.env.locals/\(∀ x c,X.env.cells.lookup x = some c->c≠b)/\∀ p∈X.pn++pins,p.1≠b:=λb hb=>by
  have nb:s.heap.get? b = none:=by
   rcases aD.mp hb with z | z
   . rw [z];exact fly.new
   . rw [aC.mp z];exact nT
  refine ⟨?_,?_,λy c e z=>?_,λp hp z=>?_⟩
  . cases z:X.s₀.heap.get? b with
    | none=>rfl
    | some o =>
      obtain ⟨o',q'⟩:=I.base.there b o z (by rw [hex];simp);rw [nb] at q';cases q'
  . obtain ⟨m,⟨o,_,_,ho,_⟩,_⟩:=I.loc;intro z;rw [z,ho] at nb;cases nb
  . obtain ⟨v,o,ho,_⟩:=I.cell y c e;rw [z,nb] at ho;cases ho
  . have ho:=(I.pin p hp).1;rw [z,nb] at ho;cases ho
 refine wpAny_looks_onW (base:=less hh (a::T::frs X.stack)) (outer:=X.outer) (by rw [<- hst];exact I.ok.frames) hfr ⟨lK,iM av,by rw [<- hst];exact oM I2.stack λb hb=>iM (ai _ (ai _ hb)),oe,vs,T,oT,ts,he,hc,hdt,h1,iM (ai _ av),hTe,hT,hdT,h3⟩ λh4 held4 sm4=>?_;refine wpAny_landsW held4 λh5 fl5 sm5=>?_;have I5:=I2.fly (t':=t) hex fly.fre fT hl fl5.1 (sm4.trans sm5);refine wpAny_handleBy_cons (codeAny_handlers_test (kN (X:=X.mrk a) (I5.mrk a) hg hm ?_ hd)) (by intro q;cases q);obtain ⟨C,rfl,vC,sC,k⟩:=k cls H' q;obtain ⟨tl,N,nm,qn,bs,hdct,sn,sub,ab,col,dd,k0,k1,k2,k3,k5,mN,hC,hN,hni,TL⟩:=ko I5.kIn vC;obtain ⟨tl',N',nm',qn',bs',hdct',sn',sub',ab',col',dd',l0,l1,l2,l3,l5,mN',hC',hN',hni',TL'⟩:=ko I5.kIn hP;obtain ⟨ob,hob,hobc⟩:=fl5.there;refine AO hC hC' hob hobc (TL'.hasType rfl) ?_;rw [xu I5.kIn sC vC hC];refine codeAny_handlers_suite_as ?_;refine lands_againW fl5 λh6 fl6 sm6=>?_;have I6:=I2.fly (t':=t) hex fly.fre fT hl fl6.1 ((sm4.trans sm5).trans sm6);obtain ⟨oe6,vs6,he6,hc6,hd6,_⟩:=fl6.first;have ha:=hl a av
 have nfs:a∉X.fs:=λz=>by
  obtain ⟨_,o,ho,nf⟩:=I6.funs.mem z;rw [he6] at ho;cases ho;exact nf _ hd6
 have I7:Inv X ((a,oe6)::pins) σ H' { (⟨hh,g,d,t,s.os⟩:aj) with heap:=h6,toks:=t }:=⟨I6.ok,I6.os,I6.bare,I6.base,I6.loc,I6.cell,I6.free,I6.freeC,λp hp=>by
  rcases aN.mp hp with z | z
  . exact I6.pin p (bb _ z)
  . rcases aD.mp z with z | z
    . rw [z];exact ⟨he6,fly.fre,ha.2.1,nfs,λv z=>by rw [hd6] at z;cases z⟩
    . exact I6.pin p (aM _ z),I6.hok,I6.len⟩
 refine cg (k a _ oe6 vs6 I7 hc6 hd6) (λ_ s₃ h₃=>cg h₃ (λf s₄ h₄=>?_) λ_ _ z=>bX z) λ_ _ z=>bX z;exact cg h₄ (λ_ _ z=>z) λ_ _ z=>bX z
end
section
variable {X:Cx} {pins:List (au × Obj)} {σ:St} {H:Hp} {s:aj}
def kL {E:ag->aj->Prop} (I:Inv X pins σ H s) (hN:X.N.Nodup) (hi:X.N[i]? = some x) (hx:X.env.kindOf x = some .local)
 (h:∀ s',Inv X pins (σ.set i none) H s'->Q () s'):wpAny M A (do bindName X.env x .none;unbindBehindTheSuite X.env x pos) Q E s:=by
 obtain ⟨m,hn,hl⟩:=id I.loc;refine wpAny_nameGoes_keeps hx hn (by rw [I.ok.kind];rfl) λh' v hn' hs=>h _ ?_;have keep:∀ b o,b≠X.env.locals->s.heap.get? b = some o->h'.get? b = some o:=λb o hb e=>(hs.2 b hb).trans e;have nL:∀ b o,X.s₀.heap.get? b = some o->b≠X.env.locals:=λb o e=>aQ (aZ (aH e) I.ok.above);refine ⟨I.ok,I.os,I.bare,⟨λb o e n hb hx=>?_,λb o e n hb hx=>?_,λb o e n hx=>I.base.free b o e n hx,λb o e hx=>?_,I.base.tups,I.base.frzs,I.base.tbls⟩,?_,λy c e=>?_,I.free,I.freeC,λp hp=>?_,λb o e=>?_,by rw [bu];exact I.len⟩
 . exact keep b o (nL b o e) (I.base.keep b o e n hb hx)
 . obtain ⟨sl,q⟩:=I.base.slot b o e n hb hx;exact ⟨sl,keep b _ (nL b o e) q⟩
 . obtain ⟨o',q⟩:=I.base.there b o e hx;exact ⟨o',keep b _ (nL b o e) q⟩
 . refine ⟨_,hn',λj y w e1 e2 e3=>?_⟩
   have hj:j≠i:=by
    rintro rfl;rw [List.getElem?_set] at e2;simp only [↓reduceIte] at e2;split at e2<;>cases e2
   have e2':σ[j]? = some (some w):=by
    rw [aO (Ne.symm hj)] at e2;exact e2
   have ny:y≠x:=by
    rintro rfl;exact hj ((FL (aE.mp e1).1 hN).mp (e1.trans hi.symm))
   obtain ⟨u,r,lk⟩:=hl j y w e1 e2' e3;refine ⟨u,r,?_⟩;rcases lk with ⟨k,z⟩ | ⟨k,c,e,⟨o,ho,hd⟩⟩
   . refine .inl ⟨k,?_⟩;show (if y = x then v else m y) = some u;rw [if_neg ny];exact z
   . exact .inr ⟨k,c,e,o,keep c o (I.cne y c e) ho,hd⟩
 . obtain ⟨v,o,ho,hd⟩:=I.cell y c e;exact ⟨v,o,keep c o (I.cne y c e) ho,hd⟩
 . obtain ⟨e,n,ne,nf,d⟩:=I.pin p hp;exact ⟨keep _ _ ne e,n,ne,nf,d⟩
 . refine (I.hok b o e).stay (λc u hc z=>keep c u ?_ z) (λ_ z=>z) λ_ _ z=>z;rintro rfl;rcases hc with z2 | z2
   . rw [<- z2,I.free] at e;cases e
   . rw [I.free] at z2;cases z2
end
def PSa (X:Cx) (a C:au) (st:List bw) (t:TS):Prop:=∀ (oe:Obj) (vs:Array ag) (pins:List (au × Obj)) (s:aj) (σ:St) (H:Hp) (D:Ends),oe.cls = .ref C->oe.data = .fields vs->Inv (X.mrk a) ((a,oe)::pins) σ H s->t D σ H ->
 wpAny (model X.prog X.w) (X.mrk a).A (execs st X.env) (SP (X.mrk a) ((a,oe)::pins) D) (λ_ _=>False) s
def Inv.unpin (I:Inv X (q::pins) σ H s):Inv X pins σ H s :=
 ⟨I.ok,I.os,I.bare,I.base,I.loc,I.cell,I.free,I.freeC,λp hp=>I.pin p ((aN.mp hp).elim (bb _) λz=>aM _ (ai _ z)),I.hok,I.len⟩
abbrev Cx.tried (X:Cx) (pn:List (au × Obj)) (xe:ag->aj->Prop):Cx:={ X with pn:=pn,xe:=xe }
def Cx.Ok.tried {X:Cx} (ok:X.Ok) (pn:List (au × Obj)) (xe:ag->aj->Prop):(X.tried pn xe).Ok :=
 ⟨ok.mod,ok.kind,ok.glob,ok.blt,ok.above,ok.inj,ok.has,ok.cab,ok.hd,ok.frames,ok.stk,ok.exf,ok.bs,ok.bsz,ok.noex,ok.exfs,ok.funs,ok.frf⟩
section
variable {X:Cx} {pins pins':List (au × Obj)} {σ:St} {H:Hp} {s:aj} {xe:ag->aj->Prop}
def Inv.tried (I:Inv X pins σ H s):Inv (X.tried (X.pn++pins) xe) [] σ H s:=⟨I.ok.tried _ _,I.os,I.bare,I.base,I.loc,I.cell,I.free,I.freeC,λp hp=>I.pin p (by simpa using hp),I.hok,I.len⟩
def Inv.untried (ok:X.Ok) (I:Inv (X.tried (X.pn++pins) xe) pins' σ H s):Inv X pins σ H s:=⟨ok,I.os,I.bare,I.base,I.loc,I.cell,I.free,I.freeC,λp hp=>I.pin p (bb _ hp),I.hok,I.len⟩
def SP.untried {D:Ends} (ok:X.Ok) (h:SP (X.tried (X.pn++pins) xe) pins' D f s'):SP X pins D f s':=by
 cases f with
 | next=>obtain ⟨σ',H',I,q⟩:=h;exact ⟨σ',H',I.untried ok,q⟩
 | brk=>obtain ⟨σ',H',I,q⟩:=h;exact ⟨σ',H',I.untried ok,q⟩
 | cont=>obtain ⟨σ',H',I,q⟩:=h;exact ⟨σ',H',I.untried ok,q⟩
 | ret u=>obtain ⟨v,σ',H',I,r,q⟩:=h;exact ⟨v,σ',H',I.untried ok,r,q⟩
end
def KY {X:Cx} {i:Nat} {x n:Str} {P:au} {np hp pos:Pos} {body:List bw} {b₀:bw} {suite:List bw} {tb:(St->XK)->TS} {ts:au->au->TS} (hex:X.ex = []) (hst:X.stack = X.env::X.outer) (hfr:X.env.frame = some X.env.locals)
 (hg:Gl X x) (hm:X.mg x = some (.ref P)) (hP:VE X.K P = true) (hd:(x == ("__debug__":Str)) = false) (hN:X.N.Nodup) (hi:X.N[i]? = some n) (hx:X.env.kindOf n = some .local) (hx2:X.env.scope.names.lookup n = some .local)
 (hb:∀ (E:St->XK) (pn:List (au × Obj)) (xe:ag->aj->Prop),sh (X.tried pn xe) E->PSs (X.tried pn xe) body (tb E))
 (hs:∀ a C,PSa X a C (b₀::suite) (ts a C)) :
 PS X (.Try body [.ExceptHandler (some (.Name x np)) (some n) (b₀::suite) hp] [] [] pos) (λD σ H=>∃ E:St->XK,tb E D σ H/\∀ σ1 cls H1,E σ1 cls none H1->∃ C,cls = .ref C/\VE X.K C = true/\subIn X.K C P = true /\
  ∀ a,ts a C { nx:=λσ H=>D.nx (σ.set i none) H,rt:=D.rt,bk:=λσ H=>D.bk (σ.set i none) H,ct:=λσ H=>D.ct (σ.set i none) H } (σ1.set i (some (.ref a))) H1):=by
 intro pins s σ H D I h;obtain ⟨E,hb1,hs1⟩:=h;refine wpAny_Try_except (cg (hb E (X.pn++pins) _ (λpins' σ1 H1 s1 e s' I1 hc=>?_) [] s σ H D I.tried hb1) (λf s1 h1=>?_) λ_ _ z=>z)
 . refine MI (Q:=SP X pins D) (EX:=X.xe) (I1.untried I.ok) hc hex hst hfr hg hm hP hd λcls H2 q=>?_;obtain ⟨C,e1,e2,e3,k⟩:=hs1 σ1 cls H2 q;refine ⟨C,e1,e2,e3,λa s2 oe vs I2 c1 c2=>?_⟩;refine kr I2 hN hi (.inl hx2) (v:=.ref a) rfl (λs3 I3=>?_) (.inr hx2);refine cg (hs a C oe vs pins s3 _ H2 _ c1 c2 (I3.mrk a) (k a)) (λf s4 h4=>?_) λ_ _ z=>z
   cases f with
   | next =>
     obtain ⟨σ4,H4,I4,q4⟩:=h4
     exact kL (I4.unmrk I.ok).unpin hN hi hx λs5 I5=>⟨_,_,I5,q4⟩
   | brk =>
     obtain ⟨σ4,H4,I4,q4⟩:=h4
     exact kL (I4.unmrk I.ok).unpin hN hi hx λs5 I5=>⟨_,_,I5,q4⟩
   | cont =>
     obtain ⟨σ4,H4,I4,q4⟩:=h4
     exact kL (I4.unmrk I.ok).unpin hN hi hx λs5 I5=>⟨_,_,I5,q4⟩
   | ret u =>
     obtain ⟨v,σ4,H4,I4,r4,q4⟩:=h4;exact kL (I4.unmrk I.ok).unpin hN hi hx λs5 I5=>⟨v,_,_,I5,r4,q4⟩
 . have h2:=h1.untried I.ok
   cases f with
   | next=>exact jd h2
   | brk=>exact h2
   | cont=>exact h2
   | ret u=>exact h2
def qns:List Str:=["__getattribute__","__getattr__","__class__"]
def Ht (K:PySem.W.Frag):List ag->Bool
 | []=>false
 | v::r=>(v::r) == veB || match v with
   | .ref A=>(match K.lookup A with
     | some ⟨_,_,.cls cd,_⟩=>PySem.W.nsOkIn K cd.ns && qns.all (λn=>PySem.W.nsIn K cd.ns n == some none) && Ht K r
     | _=>false)
   | _=>false
def sX (K:PySem.W.Frag) (C:au):Bool:=match K.lookup C with
 | some ⟨_,_,.cls cd,_⟩=>Ht K cd.mro
 | _=>false
section
variable {M:Model} {A:bo} {E:ag->aj->Prop} {h:bH} {g:Array qS} {d:Drawn} {t:Nat} {os:Ng} {K:PySem.W.Frag}
def Et (X:K.In h) (hn:n∈qns) (hrest:lookupAlong veB n = pure y) (hq:Q y ⟨h,g,d,t,os⟩):∀ {l:List ag},Ht K l = true->wpAny M A (lookupAlong l n) Q E ⟨h,g,d,t,os⟩
 | [],e=>by cases e
 | v::r,e=>by
   unfold Ht at e;rcases iB.mp e with q | q
   . rw [beq_iff_eq.mp q,hrest];exact aJ hq
   . split at q
     . split at q
       . rename_i ho;simp only [aa] at q;rw [lookupAlong_cons];refine ah (wpAny_classOwn_cls (X _ _ ho) (.of_isNs (PySem.W.isNs_of_in X q.1.1)) ?_);rw [PySem.W.nsMap_none_of_in X q.1.1 (beq_iff_eq.mp (aW.mp q.1.2 n hn))];exact Et X hn hrest hq q.2
       . cases q
     . cases q
variable {nm q:Str} {C N:au} {bs bm:List ag} {hdct:Bool} {sn:List Str} {sub:List ag} {ab:Bool} {col:Option Bool} {dd:Option au} {k0 k1 k2 k3 k5:Option ag} {newId:String}
def xj (X:K.In h) (hn:n∈qns) (hC:h.get? C = some (excClassObj nm q C N bs bm hdct sn sub ab col dd k0 k1 k2 k3 k5 newId)) (hv:sX K C = true)
 (hB:typeLookup (.type "ValueError") n = pure y) (hq:Q y ⟨h,g,d,t,os⟩):wpAny M A (typeLookup (.ref C) n) Q E ⟨h,g,d,t,os⟩:=by
 have hrest:lookupAlong veB n = pure y:=by rw [typeLookup_eq,PySem.F.attrBase_ValueError.mro] at hB;exact hB
 rw [typeLookup_eq];refine ah (wpAny_mroOf_exc hC ?_);refine Et X hn hrest hq ?_;unfold sX at hv;split at hv
 . rename_i ho;have z:=X _ _ ho;rw [hC] at z;cases z;exact hv
 . cases hv
end
def vM:typeLookup (.type "ValueError") "__class__" = pure (some (.builtin "object.__class__")):=by rw [typeLookup_type,builtinLookup_eq_fast];kernel_rfl
section
variable {prog:aR} {w:bB} {A:bo} {E:ag->aj->Prop} {h:bH} {g:Array qS} {d:Drawn} {t:Nat} {os:Ng} {a:au} {o:Obj} {K:PySem.W.Frag}
 {nm q:Str} {C N:au} {bs bm:List ag} {hdct:Bool} {sn:List Str} {sub:List ag} {ab:Bool} {col:Option Bool} {dd:Option au} {k0 k1 k2 k3 k5:Option ag} {newId:String}
def Fj {R:Na->aj->Prop} (hC:h.get? C = some (excClassObj nm q C N bs bm hdct sn sub ab col dd k0 k1 k2 k3 k5 newId)) (T:qQ h veB bm) (hx:h.get? a = some o) (hc:o.cls = .ref C) (hq:R (.ok (.ret (.ref C))) ⟨h,g,d,t,os⟩) :
 codeAny (model prog w) A (.call (.builtin "getset_descriptor.__get__") ⟨[.builtin "object.__class__",.ref a,.ref C],[]⟩) R ⟨h,g,d,t,os⟩:=by
 have hT5:(⟨h,g,d,t,os⟩:aj).TypeIs (.builtin "object.__class__") "getset_descriptor":=F.typeOf_object_class
 have hcB:(bA C::bm).contains (.type (".".intercalate ("object.__class__".cutAt '.').dropLast)) = true:=by
  rw [F.owner_object_class,fO,T.hasType rfl];rfl
 refine IW F.slot_gs_get.plain F.entry_gs_get (F.slot_gs_get.check _ _ _ _ _ _ _ _ hT5 (F.args_gs_get _ _ _) ?_)
 repeat (any_goals (first | assumption | (with_reducible refine bF hx ?_;rw [hc]) | (with_reducible refine dm hC ?_;rw [hcB]) | wp_step))
 refine ⟨Code.quiet_builtin _ ⇑0,wK F.entry_object_class ?_⟩
 repeat (any_goals (first | assumption | (with_reducible refine bF hx ?_;rw [hc]) | wp_step))
def xY (hC:h.get? C = some (excClassObj nm q C N bs bm hdct sn sub ab col dd k0 k1 k2 k3 k5 newId)) (T:qQ h veB bm)
 (hx:h.get? a = some o) (hc:o.cls = .ref C) (hq:Q () ⟨h,g,d,t,os⟩):wpAny M A (checkBuiltinCall "BaseException.__getattribute__" ⟨[.ref a,nameV],[]⟩) Q E ⟨h,g,d,t,os⟩:=by
 have hk:builtinKind "BaseException.__getattribute__" = some .slot:=by decide
 have hsplit:splitId "BaseException.__getattribute__" = some ("BaseException","__getattribute__"):=by decide
 have hcB:(bA C::bm).contains (.type "BaseException") = true:=by rw [fO,T.hasType rfl];rfl
 have ha:=F.args_bexc_ga (.ref a) nameV;simp only [checkBuiltinCall,hk,hsplit];refine ah ?_;unfold isInstance
 repeat (first | (with_reducible refine bF hx ?_;rw [hc]) | (with_reducible refine dm hC ?_;rw [hcB]) | wp_step)
 exact hq
def xX (X:K.In h) (hv:sX K C = true) (hC:h.get? C = some (excClassObj nm q C N bs bm hdct sn sub ab col dd k0 k1 k2 k3 k5 newId)) (T:qQ h veB bm) (hx:h.get? a = some o) (hc:o.cls = .ref C) (hq:Q (.done (.ret (.ref C))) ⟨h,g,d,t,os⟩) :
 wpAny (model prog w) A (kl.«object.__getattribute__» ⟨[.ref a,.str "__class__" tk],[]⟩) Q E ⟨h,g,d,t,os⟩:=by
 have hT5:(⟨h,g,d,t,os⟩:aj).TypeIs (.builtin "object.__class__") "getset_descriptor":=F.typeOf_object_class;have f5:=F.typeOf_object_class;have f6:=F.slot_gs_get.lookup;have f7:=F.slot_gs_set.lookup;have hm:("__class__":Str)∈qns:=.tail _ (.tail _ (.head _))
 repeat (any_goals (first | assumption | (with_reducible refine bF hx ?_;rw [hc]) | with_reducible refine xj X hm hC hv vM ?_ | wp_step))
 refine Fj hC T hx hc ?_
 repeat (any_goals (first | assumption | wp_step))
def II (X:K.In h) (hv:sX K C = true) (hC:h.get? C = some (excClassObj nm q C N bs bm hdct sn sub ab col dd k0 k1 k2 k3 k5 newId)) (T:qQ h veB bm) (hx:h.get? a = some o) (hc:o.cls = .ref C) (hq:Q (.ref C) ⟨h,g,d,t,os⟩) :
 wpAny (model prog w) A (getAttrBy (.ref a) (.str "__class__" tk) false) Q E ⟨h,g,d,t,os⟩:=by
 have FB:=F.attrBase_ValueError;have f3:=FB.ga.bind (.ref a);have hx2:(lN "BaseException.__getattribute__" == lN "object.__getattribute__") = false:=by decide
 have hx1:(onTheHeap (bA C) && lN "BaseException.__getattribute__" == lN "object.__getattribute__") = false:=by rw [hx2];rfl
 have hm1:("__getattribute__":Str)∈qns:=.head _;have hm2:("__getattr__":Str)∈qns:=.tail _ (.head _)
 repeat (any_goals (first | assumption | (with_reducible refine bF hx ?_;rw [hc]) | with_reducible refine xj X hm1 hC hv FB.ga.lookup ?_ | with_reducible refine xj X hm2 hC hv FB.noGetattr ?_ | wp_step))
 refine IW FB.ga.plain F.entry_bexc_ga (xY hC T hx hc (xX X hv hC T hx hc ?_))
 repeat (any_goals (first | assumption | wp_step))
def Be (X:K.In h) (hv:sX K C = true) (hC:h.get? C = some (excClassObj nm q C N bs bm hdct sn sub ab col dd k0 k1 k2 k3 k5 newId)) (T:qQ h veB bm) (hx:h.get? a = some o) (hc:o.cls = .ref C) (hq:Q (some (.ref C)) ⟨h,g,d,t+1,os⟩) :
 wpAny (model prog w) A (getAttr? (.ref a) "__class__") Q E ⟨h,g,d,t,os⟩:=by
 unfold getAttr? getAttrBy?
 repeat (any_goals (first | assumption | with_reducible apply II X hv hC T hx hc | wp_step))
end
section
variable {prog:aR} {w:bB} {A:bo} {E:ag->aj->Prop} {h:bH} {g:Array qS} {d:Drawn} {t:Nat} {os:Ng} {a:au} {o:Obj} {K:PySem.W.Frag}
 {nm q:Str} {C N:au} {bs bm:List ag} {hdct:Bool} {sn:List Str} {sub:List ag} {ab:Bool} {col:Option Bool} {dd:Option au} {k0 k1 k2 k3 k5:Option ag} {newId:String}
 {nm' q':Str} {P N':au} {bs' bm':List ag} {hdct':Bool} {sn':List Str} {sub':List ag} {ab':Bool} {col':Option Bool} {dd':Option au} {l0 l1 l2 l3 l5:Option ag} {newId':String}
def Ip {dep:Int} {tk:Tok} {Q:Fin->aj->Prop} (X:K.In h) (hv:sX K C = true) (hC:h.get? C = some (excClassObj nm q C N bs bm hdct sn sub ab col dd k0 k1 k2 k3 k5 newId)) (hP:h.get? P = some (excClassObj nm' q' P N' bs' bm' hdct' sn' sub' ab' col' dd' l0 l1 l2 l3 l5 newId'))
 (T:qQ h veB bm) (hx:h.get? a = some o) (hc:o.cls = .ref C) (hb:(bA C::bm).contains (.ref P) = false) (hq:Q (.done (.ret (.bool false))) ⟨h,g,d,t+1,os⟩) :
 wpAny (model prog w) A (kl.«isinstance.nested» ⟨[.ref a,.ref P,.int dep tk],[]⟩) Q E ⟨h,g,d,t,os⟩:=by
 have hne:(bA C == bA P) = false:=by
  rw [fO,Bool.or_eq_false_iff] at hb
  cases z:(bA C == bA P) with
  | false=>rfl
  | true=>rw [beq_iff_eq.mp z] at hb;simp at hb
 have hT:(⟨h,g,d,t,os⟩:aj).TypeIs (.ref P) "type":=⟨_,hP,rfl⟩;have hTC:(⟨h,g,d,t+1,os⟩:aj).TypeIs (.ref C) "type":=⟨_,hC,rfl⟩
 repeat (any_goals (first | assumption | (with_reducible refine bF hx ?_;rw [hc]) | with_reducible refine bF hP ?_ | with_reducible refine bF hC ?_ | (with_reducible refine dm hC ?_;rw [hb]) | with_reducible apply Be X hv hC T hx hc | wp_step))
def Iq {dep:Int} {tk:Tok} {Q:Fin->aj->Prop} (hC:h.get? C = some (excClassObj nm q C N bs bm hdct sn sub ab col dd k0 k1 k2 k3 k5 newId)) (hP:h.get? P = some (excClassObj nm' q' P N' bs' bm' hdct' sn' sub' ab' col' dd' l0 l1 l2 l3 l5 newId'))
 (hx:h.get? a = some o) (hc:o.cls = .ref C) (hb:(bA C::bm).contains (.ref P) = true) (hq:Q (.done (.ret (.bool true))) ⟨h,g,d,t,os⟩) :
 wpAny (model prog w) A (kl.«isinstance.nested» ⟨[.ref a,.ref P,.int dep tk],[]⟩) Q E ⟨h,g,d,t,os⟩:=by
 have hT:(⟨h,g,d,t,os⟩:aj).TypeIs (.ref P) "type":=⟨_,hP,rfl⟩
 cases hne:(bA C == bA P) with
 | true=>repeat (any_goals (first | assumption | (with_reducible refine bF hx ?_;rw [hc]) | wp_step))
 | false=>repeat (any_goals (first | assumption | (with_reducible refine bF hx ?_;rw [hc]) | with_reducible refine bF hP ?_ | (with_reducible refine dm hC ?_;rw [hb]) | wp_step))
def Mc {T':String} {dep:Int} {tk:Tok} {Q:Fin->aj->Prop} (hC:h.get? C = some (excClassObj nm q C N bs bm hdct sn sub ab col dd k0 k1 k2 k3 k5 newId)) (hty:typeOf (.type T') = pure (.type "type"))
 (hx:h.get? a = some o) (hc:o.cls = .ref C) (hb:(bA C::bm).contains (.type T') = true) (hq:Q (.done (.ret (.bool true))) ⟨h,g,d,t,os⟩) :
 wpAny (model prog w) A (kl.«isinstance.nested» ⟨[.ref a,.type T',.int dep tk],[]⟩) Q E ⟨h,g,d,t,os⟩:=by
 have hne:(bA C == Bu T') = false:=rfl
 repeat (any_goals (first | assumption | (with_reducible refine bF hx ?_;rw [hc]) | (with_reducible refine dm hC ?_;rw [hb]) | wp_step))
end
def KW {X:Cx} {a C:au} {st:List bw} {t:TS} (h:∀ (oe:Obj) (vs:Array ag) (pn:List (au × Obj)),oe.cls = .ref C->oe.data = .fields vs->(a,oe)∈pn->PSs ((X.mrk a).tried pn λ_ _=>False) st t):PSa X a C st t:=λoe vs pins s σ H D c1 c2 I q =>
 cg (h oe vs (X.pn++((a,oe)::pins)) c1 c2 (aM _ av) [] s σ H D (Inv.tried (X:=X.mrk a) I) q) (λf s' z=>SP.untried (X:=X.mrk a) I.ok z) λ_ _ z=>z
section
variable {X:Cx} {a C P:au} {oe:Obj}
def Mu (hp:(a,oe)∈X.pn) (hc:oe.cls = .ref C) (hC:VE X.K C = true) (hP:VE X.K P = true) (hs:subIn X.K C P = true):bU X (.builtin "isinstance") (λxs H Q=>xs = [.ref a,.ref P]/\Q (.bl true) H):=by
 intro pins s σ H vs us Q I r h;obtain ⟨rfl,q⟩:=h;obtain ⟨u1,u2,rfl,r1,r2⟩:=r.two;obtain rfl:u1 = .ref a:=r1;obtain rfl:u2 = .ref P:=r2;obtain ⟨tl,N,nm,qn,bs,hdct,sn,sub,ab,col,dd,k0,k1,k2,k3,k5,mN,oC,hN,hni,TL⟩:=ko I.kIn hC;obtain ⟨tl',N',nm',qn',bs',hdct',sn',sub',ab',col',dd',l0,l1,l2,l3,l5,mN',oP,hN',hni',TL'⟩:=ko I.kIn hP;have hx:=(I.pin (a,oe) (bb _ hp)).1;obtain ⟨hh,g,d,t,os⟩:=s;exact qx (Iq oC oP hx hc (xu I.kIn hs hC oC) ⟨.bl true,H,I,rfl,q⟩) (by intro e;cases e)
def Ms (hp:(a,oe)∈X.pn) (hc:oe.cls = .ref C) (hC:VE X.K C = true) (hq:sX X.K C = true) (hP:VE X.K P = true) (hs:subIn X.K C P = false):bU X (.builtin "isinstance") (λxs H Q=>xs = [.ref a,.ref P]/\Q (.bl false) H):=by
 intro pins s σ H vs us Q I r h;obtain ⟨rfl,q⟩:=h;obtain ⟨u1,u2,rfl,r1,r2⟩:=r.two;obtain rfl:u1 = .ref a:=r1;obtain rfl:u2 = .ref P:=r2;obtain ⟨tl,N,nm,qn,bs,hdct,sn,sub,ab,col,dd,k0,k1,k2,k3,k5,mN,oC,hN,hni,TL⟩:=ko I.kIn hC;obtain ⟨tl',N',nm',qn',bs',hdct',sn',sub',ab',col',dd',l0,l1,l2,l3,l5,mN',oP,hN',hni',TL'⟩:=ko I.kIn hP;have hx:=(I.pin (a,oe) (bb _ hp)).1;have kin:=I.kIn;have I2:=I.tok (s.toks+1);obtain ⟨hh,g,d,t,os⟩:=s;exact qx (Ip kin hq oC oP TL hx hc (xu kin hs hC oC) ⟨.bl false,H,I2,rfl,q⟩) (by intro e;cases e)
def Mr (hp:(a,oe)∈X.pn) (hc:oe.cls = .ref C) (hC:VE X.K C = true) (hty:typeOf (.type T) = pure (.type "type")) (hT:veB.contains (.type T) = true):bU X (.builtin "isinstance") (λxs H Q=>xs = [.ref a,.ty T]/\Q (.bl true) H):=by
 intro pins s σ H vs us Q I r h;obtain ⟨rfl,q⟩:=h;obtain ⟨u1,u2,rfl,r1,r2⟩:=r.two;obtain rfl:u1 = .ref a:=r1;obtain rfl:u2 = .type T:=r2;obtain ⟨tl,N,nm,qn,bs,hdct,sn,sub,ab,col,dd,k0,k1,k2,k3,k5,mN,oC,hN,hni,TL⟩:=ko I.kIn hC;have hx:=(I.pin (a,oe) (bb _ hp)).1;obtain ⟨hh,g,d,t,os⟩:=s;exact qx (Mc oC hty hx hc (by rw [fO,TL.hasType hT];rfl) ⟨.bl true,H,I,rfl,q⟩) (by intro e;cases e)
def Li (hg:Gl X x) (hm:X.mg x = some (.ref P)) (hd:(x == ("__debug__":Str)) = false):PE X (.Name x pos) (tC (.ref P)):=λ_ _ _ H _ I h=>kN I hg hm ⟨.ref P,H,I,rfl,h⟩ hd
end
def tI (i:Nat) (a:au) (b:Bool):TE:=λσ H Q=>σ[i]? = some (some (.ref a))/\Q (.bl b) H
def PE.to {X:Cx} {e:aI} {t u:TE} (h:PE X e t) (w:∀ σ H Q,u σ H Q->t σ H Q):PE X e u:=λpins s σ H Q I q=>h pins s σ H Q I (w σ H Q q)
section
variable {X:Cx} {i:Nat} {a C P:au} {oe:Obj} {n x:Str} {p np xp pos:Pos} {b1 b2 b:Bool} {y z:aI} {r:List aI}
def HE (hn:PE X (.Name n np) (CG i)) (hc:bU X (.builtin "isinstance") (λxs H Q=>xs = [.ref a,.ref P]/\Q (.bl b) H)) (hi:Gl X "isinstance") (hmi:X.mg "isinstance" = none) (hg:Gl X x) (hm:X.mg x = some (.ref P)) (hd:(x == ("__debug__":Str)) = false) :
 PE X (.Call (.Name "isinstance" p) [.Name n np,.Name x xp] [] pos) (tI i a b):=by
 have hA:PA X [.Name n np,.Name x xp] (nD (CG i) (nD (tC (.ref P)) CH)):=fb hn (fb (Li hg hm hd) jC rfl) rfl;exact PE.to (fq hc hi hmi rfl hA ⇑0 ⇑0 rfl rfl) λσ H Q ⟨e,q⟩=>⟨_,e,rfl,q⟩
def HD {T:String} (hn:PE X (.Name n np) (CG i)) (hc:bU X (.builtin "isinstance") (λxs H Q=>xs = [.ref a,.ty T]/\Q (.bl b) H)) (hi:Gl X "isinstance") (hmi:X.mg "isinstance" = none) (hg:Gl X x) (hm:X.mg x = none) (hb:bootBuiltins x = some (.type T)) (hn2:x≠"__name__") (hd:(x == ("__debug__":Str)) = false) :
 PE X (.Call (.Name "isinstance" p) [.Name n np,.Name x xp] [] pos) (tI i a b):=by
 have hA:PA X [.Name n np,.Name x xp] (nD (CG i) (nD (tC (.ty T)) CH)):=fb hn (fb (yR hg hm hb rfl hn2 hd) jC rfl) rfl;exact PE.to (fq hc hi hmi rfl hA ⇑0 ⇑0 rfl rfl) λσ H Q ⟨e,q⟩=>⟨_,e,rfl,q⟩
end
end L2
end
section
namespace L2
section
variable {Y:Cx} {x n name qual:Str} {params:uG} {body:List bw} {scope:fh} {dV kV doc pm cdv ct oc:ag} {an od:Option au} {osl:Array (Option ag)} {N:List Str} {q:Str} {f a:au} {oe:Obj} {j:Nat} {p np pos:Pos} {t:TS}
end
end L2
end
section
namespace PP
open PySem L2 PyProof.Rows
variable [Tbs]
mutual
inductive R where
 | st (s:S)
 | rse (c:Str)
 | cal (s:S) (f g:Nat) (es:Es)
 | ifs (t:E) (a b:Rs)
 | whl (t:E) (body:Rs)
inductive Rs where
 | nil | cons (r:R) (rs:Rs)
end
abbrev OR:=Out ⊕ (Str × Loc)
def pj (t:Loc->Option (Bool × Loc)) (f:Loc->Option OR):Nat->Loc->Option OR
 | 0,_=>none
 | n+1,δ=>match t δ with
   | some (true,δ1)=>(match f δ1 with
     | some (.inl (.nx δ2))=>pj t f n δ2
     | o=>o)
   | some (false,δ1)=>some (.inl (.nx δ1))
   | none=>none
mutual
noncomputable def evR (cx:Cl):R->Loc->Option OR
 | .st s,δ=>(evS cx s δ).map .inl
 | .rse c,δ=>some (.inr (c,δ))
 | .cal s f g es,δ=>match eh cx es δ with
   | some (ds,δ1)=>(match cx.call g ds with
     | some (.str c)=>some (.inr (c,δ1))
     | _=>(evS cx s δ).map .inl)
   | none=>none
 | .ifs t a b,δ=>match evT cx t δ with
   | some (true,δ1)=>fH cx a δ1
   | some (false,δ1)=>fH cx b δ1
   | none=>none
 | .whl t body,δ=>pj (λδ0=>evT cx t δ0) (λδ0=>fH cx body δ0) 1000 δ
noncomputable def fH (cx:Cl):Rs->Loc->Option OR
 | .nil,δ=>some (.inl (.nx δ))
 | .cons r rs,δ=>match evR cx r δ with
   | some (.inl (.nx δ1))=>fH cx rs δ1
   | o=>o
end
def zO (K:PySem.W.Frag) (mg:Str->Option ag) (G:Gh) (F:au->Prop) (H:Hp) (r:OR) (D:Ends) (W:L2.St->XK):Prop :=
 match r with
 | .inl o=>sf K G F H o D
 | .inr (c,δ')=>∀ σ' H' F',Step G F H F' H'->Ok K G F' σ' H' δ'->∃ u,mg c = some u/\W σ' u none H'
def zO.step {K:PySem.W.Frag} {mg:Str->Option ag} {G:Gh} {F F1:au->Prop} {H H1:Hp} {r:OR} {D:Ends} {W:L2.St->XK} (st:Step G F H F1 H1) (h:zO K mg G F H r D W):zO K mg G F1 H1 r D W:=by
 cases r with
 | inl o=>exact sf.step st h
 | inr p=>exact λσ' H' F' s k=>h σ' H' F' (st.trans s) k
def tR (K:PySem.W.Frag) (mg:Str->Option ag) (W:L2.St->XK) (ev:Loc->Option OR):TS:=λD σ H=>∃ G F δ r,Ok K G F σ H δ/\ev δ = some r/\zO K mg G F H r D W
def spX (K:PySem.W.Frag) (mg:Str->Option ag) (f:List D->Option D):Sp:=λvs H _ E=>∃ F ds c u,FD F H/\TF F/\kZ H/\aK K H F ds vs/\f ds = some (.str c)/\mg c = some u/\∀ H',Sim H H'->kZ H'->E u none H'
section
variable {K:PySem.W.Frag} {cx:Cl} {X:Cx} {W:L2.St->XK}
def Dh:PSs X [] (tR X.K X.mg W (fH cx .nil)):=PSs.imp oE λD σ H zz=>by
 obtain ⟨G,F,δ,o,ok,ev,post⟩:=zz;simp only [fH] at ev;cases ev;exact post σ H F Step.refl ok
def Aw {r:R} {rs:Rs} {y:bw} {ys:List bw} (h1:PS X y (tR X.K X.mg W (evR cx r))) (h2:PSs X ys (tR X.K X.mg W (fH cx rs))):PSs X (y::ys) (tR X.K X.mg W (fH cx (.cons r rs))):=PSs.imp (ma h1 h2) λD σ H zz=>by
 obtain ⟨G,F,δ,o,ok,ev,post⟩:=zz;simp only [fH] at ev
 cases e:evR cx r δ with
 | none=>rw [e] at ev;cases ev
 | some o1 =>
   rw [e] at ev
   cases o1 with
   | inr p=>cases ev;exact ⟨G,F,δ,_,ok,e,post⟩
   | inl o1 =>
     cases o1 with
     | nx δ1=>exact ⟨G,F,δ,.inl (.nx δ1),ok,e,λσ' H' F' st ok'=>⟨G,F',δ1,o,ok',ev,post.step st⟩⟩
     | rt d δ1=>cases ev;exact ⟨G,F,δ,_,ok,e,post⟩
     | ro d δ1=>cases ev;exact ⟨G,F,δ,_,ok,e,post⟩
def Ha (h:PS X y (tS X.K (evS cx s))):PS X y (tR X.K X.mg W (evR cx (.st s))):=PS.imp h λD σ H zz=>by
 obtain ⟨G,F,δ,o,ok,ev,post⟩:=zz;simp only [evR,aL] at ev;obtain ⟨o1,e,rfl⟩:=ev;exact ⟨G,F,δ,o1,ok,e,post⟩
def Di {t:E} {a b:Rs} {y:aI} {ya yb:List bw} {pos:Pos} (ht:PT X y (tT X.K cx t)) (ha:PSs X ya (tR X.K X.mg W (fH cx a))) (hb:PSs X yb (tR X.K X.mg W (fH cx b))):PS X (.If y ya yb pos) (tR X.K X.mg W (evR cx (.ifs t a b))):=PS.imp (Jh ht ha hb) λD σ H zz=>by
 obtain ⟨G,F,δ,out,ok,ev,post⟩:=zz;simp only [evR] at ev
 cases e1:evT cx t δ with
 | none=>rw [e1] at ev;cases ev
 | some p =>
   obtain ⟨q,δ1⟩:=p;rw [e1] at ev;refine ⟨G,F,δ,q,δ1,ok,e1,λH1 F1 st sm ok1=>?_⟩
   cases q with
   | true=>exact AS ⟨G,F1,δ1,out,ok1,ev,post.step st⟩
   | false=>exact AU ⟨G,F1,δ1,out,ok1,ev,post.step st⟩
def Dg {x t:Str} {C:au} {np cp j2 pos:Pos} {j:Nat} (R:Rz X W) (hc:X.calm = true) (hg:Gl X x) (hm:X.mg x = some (.ref C)) (hC:VE X.K C = true) (hd:(x == ("__debug__":Str)) = false) :
 PS X (.Raise (some (.Call (.Name x np) [.Constant (.str t) j j2] [] cp)) none pos) (tR X.K X.mg W (evR cx (.rse x))):=PS.imp (DC R hc hg hm hC hd) λD σ H zz=>by
 obtain ⟨G,F,δ,out,ok,ev,post⟩:=zz;simp only [evR] at ev;cases ev;obtain ⟨u,e,q⟩:=post σ H F Step.refl ok;rw [hm] at e;cases e;exact q
def pJ (n:jE es = true) (hO:PS X y (tS X.K (evS cx s)))
 (hX:PS X y (λD σ H=>tEs X.K cx es σ H λvs H1=>spX X.K X.mg (cx.call g) vs H1 (λ_ _=>True) (W σ))):PS X y (tR X.K X.mg W (evR cx (.cal s f g es))):=PS.imp (PS.or hO hX) λD σ H zz=>by
 obtain ⟨G,F,δ,o,ok,ev,post⟩:=zz;simp only [evR] at ev
 cases ea:eh cx es δ with
 | none=>rw [ea] at ev;cases ev
 | some p =>
   obtain ⟨ds,δ1⟩:=p;rw [ea] at ev;dsimp only at ev
   have ord:(evS cx s δ).map lO = some o->tS X.K (evS cx s) D σ H\/(tEs X.K cx es σ H λvs H1=>spX X.K X.mg (cx.call g) vs H1 (λ_ _=>True) (W σ)):=λev=>by
    simp only [aL] at ev;obtain ⟨o1,e,rfl⟩:=ev;exact FP ⟨G,F,δ,o1,ok,e,post⟩
   cases ec:cx.call g ds with
   | none=>rw [ec] at ev;exact ord ev
   | some d =>
     rw [ec] at ev
     cases d with
     | str c =>
       cases ev;refine .inr ⟨G,F,δ,ds,δ1,ok,ea,λvs H1 F1 st1 sm1 ok1 r1=>?_⟩;obtain ⟨u,e1,_⟩:=post σ H1 F1 st1 ok1;refine ⟨F1,ds,c,u,ok1.fd,ok1.tf,ok1.tabs,r1.rl n,ec,e1,λH2 s2 t2=>?_⟩;obtain ⟨u',e2,q⟩:=post σ H2 F1 (st1.trans (ok1.call s2 t2).2) (ok1.call s2 t2).1;rw [e1] at e2;cases e2
       exact q
     | _=>exact ord ev
def Df {t:E} {body:Rs} {y:aI} {ys:List bw} {pos:Pos} (hp:lh (model X.prog X.w) X.A X.env X.xe) (ht:PT X y (tT X.K cx t)) (hb:PSs X ys (tR X.K X.mg W (fH cx body))):PS X (.While y ys [] pos) (tR X.K X.mg W (evR cx (.whl t body))):=by
 refine PS.imp (vv hp ht hb) λD σ H zz=>?_;obtain ⟨G,F,δ,out,ok,ev,post⟩:=zz;simp only [evR] at ev;refine ⟨λm σ' H'=>∃ F' δ',Step G F H F' H'/\Ok X.K G F' σ' H' δ'/\pj (λδ0=>evT cx t δ0) (λδ0=>fH cx body δ0) m δ' = some out,⟨1000,F,δ,Step.refl,ok,ev⟩,?_⟩;rintro m σ' H' ⟨F',δ',st',ok',ev'⟩
 cases m with
 | zero=>cases ev'
 | succ m =>
   unfold pj at ev'
   cases ec:evT cx t δ' with
   | none=>rw [ec] at ev';cases ev'
   | some q =>
     obtain ⟨b,δ1⟩:=q;rw [ec] at ev';refine ⟨G,F',δ',b,δ1,ok',ec,λH1 F1 st1 sm1 ok1=>?_⟩;have sA:=st'.trans st1
     cases b with
     | true =>
       refine AS ?_;dsimp only at ev';refine ⟨λσ2 H2=>∃ m',m' < m+1/\∃ F2 δ2,Step G F H F2 H2/\Ok X.K G F2 σ2 H2 δ2/\pj (λδ0=>evT cx t δ0) (λδ0=>fH cx body δ0) m' δ2 = some out,λσ2 H2 z=>z,?_⟩
       cases hf:fH cx body δ1 with
       | none=>rw [hf] at ev';cases ev'
       | some o1 =>
         rw [hf] at ev';refine ⟨G,F1,δ1,o1,ok1,hf,?_⟩
         cases o1 with
         | inr p=>cases ev';exact λσ3 H4 F4 s4 k4=>post σ3 H4 F4 (sA.trans s4) k4
         | inl o1 =>
           cases o1 with
           | nx δ3=>exact λσ3 H4 F4 s4 k4=>⟨m,∅,F4,δ3,sA.trans s4,k4,ev'⟩
           | rt d3 δ3=>cases ev';exact λv σ3 H4 F4 s4 k4 r4=>post v σ3 H4 F4 (sA.trans s4) k4 r4
           | ro d3 δ3=>cases ev';exact λa xs σ3 H4 F4 s4 k4=>post a xs σ3 H4 F4 (sA.trans s4) k4
     | false =>
       refine AU ?_;cases ev';exact post σ' H1 F1 sA ok1
end
def CF:bw->Nat
 | .Raise .. => 1
 | .Try .. => 2
 | _=>0
def Ow (x:bw):Nat->Prop
 | 1=>∃ e c p,x = .Raise e c p
 | 2=>∃ b h o f p,x = .Try b h o f p
 | _=>True
def EH (x:bw):Ow x (CF x):=by
 cases x<;>first | trivial | exact ⟨_,_,_,rfl⟩ | exact ⟨_,_,_,_,_,rfl⟩
def tX (h:((CF x == n) && b) = true):Ow x n/\b = true:=by
 rw [aa] at h;exact ⟨eq_of_beq h.1▸EH x,h.2⟩
def rsE:bw->Option aI
 | .Raise e _ _=>e
 | _=>none
def rsC:bw->Option aI
 | .Raise _ c _=>c
 | _=>none
def Jn (n:Str) (x:bw):Bool:=(CF x == 1) && ((rsC x).isNone && onO (rsE x) λe=>pX e λm as=>on1 as λa=>onC a (λv=>onT v λ_=>true) && decide (m = n))
def EA (h:Jn n x = true):∃ np t j j2 cp pos,x = .Raise (some (.Call (.Name n np) [.Constant (.str t) j j2] [] cp)) none pos:=by
 obtain ⟨⟨e,c,p,rfl⟩,h1⟩:=tX h;rw [aa] at h1;have hc:c = none:=dC.mp h1.1;obtain ⟨y,hy,h2⟩:=ku h1.2;have hy:e = some y:=hy;obtain ⟨m,np,as,cp,rfl,h3⟩:=dY h2;obtain ⟨a,rfl,h4⟩:=du h3;rw [aa] at h4;obtain ⟨v,j,j2,rfl,h5⟩:=lG h4.1;obtain ⟨t,rfl,_⟩:=DW h5;rw [hc,hy,of_decide_eq_true h4.2];exact ⟨_,_,_,_,_,_,rfl⟩
mutual
noncomputable def ckR (cls:List Str) (xs:List (Nat × Nat)) (c:Ck):R->bw->Bool
 | .st s,x=>ckS c s x
 | .rse n,x=>Jn n x && dO c n && cls.contains n
 | .cal s f g es,x=>ckS c s x && xs.contains (f,g) && (rA x (λy=>onO y λy=>ckE c (.call f es) y) || (AK x (λy=>ckE c (.call f es) y) || lr x λts y=>on1 ts λt=>cE t λt=>(bK c.N.length).any (λi=>dZ c i t) && ckE c (.call f es) y))
 | .ifs t a b,x=>yY x λy ya yb=>ckE c t y && nY cls xs c a ya && nY cls xs c b yb
 | .whl t b,x=>HV x λy ys z=>on0 z (ckE c t y && nY cls xs c b ys && !cls.isEmpty)
noncomputable def nY (cls:List Str) (xs:List (Nat × Nat)) (c:Ck):Rs->List bw->Bool
 | .nil,zs=>on0 zs true
 | .cons r rs,zs=>onS zs λy ys=>ckR cls xs c r y && nY cls xs c rs ys
end
section
variable {X:Cx} {cls:List Str} {xs:List (Nat × Nat)} {c:Ck} {cx:Cl} {k:Nat} {W:L2.St->XK}
def Fo (C:Cok X.nox c cx k) (Z:sh X W) (hfg:(f,g)∈xs) (h:ckE c (.call f es) y = true)
 (fx:∀ (f g:Nat) (x:Str) (ps:List Str),(f,g)∈xs->c.fns[f]? = some (x,ps)->∃ a fd,X.mg x = some (.ref a)/\PySem.W.keepIn X.K (.ref a) = true/\Binds X.K fd ps []/\gh X.prog X.w X.K X.mg X.base (CXE X.prog X.w) k a fd ps (spX X.K X.mg (cx.call g))) :
 jE es = true/\(∃ n np as p,y = .Call (.Name n np) as [] p)/\PE X y (λσ H _=>tEs X.K cx es σ H λvs H1=>spX X.K X.mg (cx.call g) vs H1 (λ_ _=>True) (W σ)):=by
 obtain ⟨n,np,as,p,rfl,hh⟩:=dY h;split at hh
 . rename_i m ps hf;simp only [aa] at hh;obtain ⟨⟨⟨⟨⟨h1,h2⟩,h3⟩,h4⟩,h5⟩,h6⟩:=hh;have e:=of_decide_eq_true h1;subst e;obtain ⟨a,fd,hm,hk,hb,fn⟩:=fx f g _ _ hfg hf;obtain ⟨g1,g2,g3⟩:=C.global h2;refine ⟨h5,⟨_,_,_,_,rfl⟩,?_⟩;have hA:=fF es X.nox c as C h4 (iL h5)
   cases as with
   | nil=>simp at h6
   | cons y ys =>
     obtain ⟨_,_,_,c1,c2⟩:=hV h4;exact DQ Z fn C.room g1 hm hk hb hA.nox g2 (bO (bP c1) _ _) (ia c2)
 . cases hh
def Pu (C:Cok X.nox c cx k) (Z:sh X W) (hfg:(f,g)∈xs) (hO:PS X x (tS X.K (evS cx s)))
 (fx:∀ (f g:Nat) (x:Str) (ps:List Str),(f,g)∈xs->c.fns[f]? = some (x,ps)->∃ a fd,X.mg x = some (.ref a)/\PySem.W.keepIn X.K (.ref a) = true/\Binds X.K fd ps []/\gh X.prog X.w X.K X.mg X.base (CXE X.prog X.w) k a fd ps (spX X.K X.mg (cx.call g)))
 (h:(rA x (λy=>onO y λy=>ckE c (.call f es) y) || (AK x (λy=>ckE c (.call f es) y) || lr x λts y=>on1 ts λt=>cE t λt=>(bK c.N.length).any (λi=>dZ c i t) && ckE c (.call f es) y)) = true):PS X x (tR X.K X.mg W (evR cx (.cal s f g es))):=by
 rcases iB.mp h with h | h
 . obtain ⟨y,pos,rfl,h1⟩:=pV h;obtain ⟨y,rfl,h2⟩:=ku h1;obtain ⟨n,⟨m,np,as,p,rfl⟩,pe⟩:=Fo C Z hfg h2 fx;exact pJ n hO (PS.imp (xC pe) λD σ H q=>q)
 rcases iB.mp h with h | h
 . obtain ⟨y,pos,rfl,h1⟩:=tu h;obtain ⟨n,⟨m,np,as,p,rfl⟩,pe⟩:=Fo C Z hfg h1 fx;exact pJ n hO (PS.imp (sZ pe (by rfl)) λD σ H q=>q)
 . obtain ⟨ts,y,pos,rfl,h1⟩:=iq h;obtain ⟨t,rfl,h2⟩:=du h1;obtain ⟨t,tp,rfl,h3⟩:=bz h2;rw [aa] at h3;obtain ⟨i,_,hi⟩:=cz.mp h3.1;obtain ⟨n,⟨m,np,as,p,rfl⟩,pe⟩:=Fo C Z hfg h3.2 fx;obtain ⟨n1,n2,n3⟩:=C.to hi;exact pJ n hO (PS.imp (sY C.nd' n1 n2 pe (jJ (x:=.Call (.Name m np) as [] p) rfl rfl _ _ _) n3) λD σ H q=>q)
variable (C:Cok X.nox c cx k) (hS:X.env.scope = c.sc) (hB:X.env.blockKind = .function) (Z:sh X W) (Zm:cls≠[]->Rz X W) (hp:cls≠[]->lh (model X.prog X.w) X.A X.env X.xe)
 (fx:∀ (f g:Nat) (x:Str) (ps:List Str),(f,g)∈xs->c.fns[f]? = some (x,ps)->∃ a fd,X.mg x = some (.ref a)/\PySem.W.keepIn X.K (.ref a) = true/\Binds X.K fd ps []/\gh X.prog X.w X.K X.mg X.base (CXE X.prog X.w) k a fd ps (spX X.K X.mg (cx.call g)))
 (hcl:∀ n,n∈cls->∃ C,X.mg n = some (.ref C)/\VE X.K C = true)
include C hS hB Z Zm hp fx hcl
mutual
theorem Pc:∀ (r:R) (x:bw),ckR cls xs c r x = true->PS X x (tR X.K X.mg W (evR cx r))
 | .st s,x,h=>Ha (PS.nox (De C hS hB s x h))
 | .rse n,x,h=>by
   simp only [ckR,aa] at h;obtain ⟨np,t,j,j2,cp,pos,rfl⟩:=EA h.1.1;obtain ⟨C',hm,hC⟩:=hcl n (by simpa using h.2);obtain ⟨g1,g2,g3⟩:=C.global h.1.2
   exact Dg (Zm (by rintro rfl;simp at h)) C.calm g1 hm hC g2
 | .cal s f g es,x,h=>by
   simp only [ckR] at h;rw [aa,aa] at h
   exact Pu C Z (by simpa using h.1.2) (PS.nox (De C hS hB s x h.1.1)) fx h.2
 | .ifs t a b,x,h=>by
   obtain ⟨_,_,_,_,rfl,hq1⟩:=vz h;simp only [aa] at hq1
   exact Di (PT.nox (lE t X.nox c _ C hq1.1.1)) (pI a _ hq1.1.2) (pI b _ hq1.2)
 | .whl t b,x,h=>by
   obtain ⟨_,_,_,_,rfl,hq1⟩:=yU h;obtain ⟨rfl,hq2⟩:=cR hq1;simp only [aa] at hq2;exact Df (hp (by rintro rfl;simp at hq2)) (PT.nox (lE t X.nox c _ C hq2.1.1)) (pI b _ hq2.1.2)
theorem pI:∀ (rs:Rs) (zs:List bw),nY cls xs c rs zs = true->PSs X zs (tR X.K X.mg W (fH cx rs))
 | .nil,zs,h=>by
   obtain ⟨rfl,_⟩:=cR h
   exact Dh
 | .cons r rs,zs,h=>by
   obtain ⟨_,_,rfl,hq1⟩:=cD h;rw [aa] at hq1;exact Aw (Pc r _ hq1.1) (pI rs _ hq1.2)
end
end
inductive Qt where
 | isI (p:Str) | ty
def Qt.ev (up:List Str):Qt->Bool
 | .isI p=>up.contains p
 | .ty=>true
inductive Qs where
 | nil | tup (i:Nat) (l:List Qt) (r:Qs)
def Qs.ev (up:List Str):Qs->Loc->Loc
 | .nil,δ=>δ
 | .tup i l r,δ=>r.ev up (δ.set i (.val (.tup (l.map λq=>D.bl (q.ev up)))))
def Iv:Option Sl->Bool
 | some .no=>true
 | _=>false
def Iu (h:Iv o = true):o = some .no:=by
 unfold Iv at h;split at h
 . rfl
 . cases h
def Ak (ups:List (Str × List Str)) (rs:Rs) (j:Nat) (qs:Qs) (cx:Cl) (δ:Loc):Option Out:=match fH cx rs δ with
 | some (.inl o)=>some o
 | some (.inr (c,δ1))=>(match ups.lookup c with
   | some up=>if Iv δ1[j]? = true then some (.nx (qs.ev up δ1)) else none
   | none=>none)
 | none=>none
def Mw (c:Ck) (j:Nat) (ps:List Str):Qt->aI->Bool
 | .isI p,x=>pX x λf as=>on2 as λu v=>cE u (λn=>eW c j n) && cE v (λm=>decide (m = p)) && decide (f = ("isinstance":Str)) && dO c f && dO c p && ps.contains p
 | .ty,x=>pX x λf as=>on2 as λu v=>cE u (λn=>eW c j n) && cE v (λm=>decide (m = ("ValueError":Str))) && decide (f = ("isinstance":Str)) && dO c f && dO c "ValueError"
def Fi (c:Ck) (j:Nat) (ps:List Str):List Qt->List aI->Bool
 | [],es=>on0 es true
 | q::l,es=>onS es λy ys=>Mw c j ps q y && Fi c j ps l ys
def Mx (c:Ck) (j:Nat) (ps:List Str):Qs->List bw->Bool
 | .nil,zs=>on0 zs true
 | .tup i l r,zs=>onS zs λz zr=>(lr z λts y=>on1 ts λt=>cE t λt=>dZ c i t && pT y (λes=>Fi c j ps l es) && decide (i≠j) && decide (l.length < 100)) && Mx c j ps r zr
structure Qk (Y:Cx) (c:Ck):Prop where
 nd:Y.N.Nodup
 name:∀ {i x},eW c i x = true->Y.N[i]? = some x/\Vis Y.env.scope x/\(x == ("__debug__":Str)) = false/\(x == ("__classdict__":Str)) = false
 to:∀ {i x},dZ c i x = true->Y.N[i]? = some x/\L2.Loc Y.env.scope x/\(Y.fn x = true\/Y.env.scope.names.lookup x = some .local)
 glo:∀ {x},dO c x = true->Gl Y x/\(x == ("__debug__":Str)) = false/\x≠("__name__":Str)
 isi:Y.mg "isinstance" = none
 hz:Y.mg "ValueError" = none
structure Bq (X:Cx) (ps:List Str) (C:au) (up:List Str):Prop where
 ve:VE X.K C = true
 qc:sX X.K C = true
 sub:∀ p,p∈ps->∃ P,X.mg p = some (.ref P)/\VE X.K P = true/\subIn X.K C P = up.contains p
def Hs {c:Ck} {j:Nat} {ps:List Str}:∀ {q:Qt} {x:aI},Mw c j ps q x = true->fC x = true/\jH x = false
 | .isI _,_,h=>by obtain ⟨_,_,_,_,rfl,_⟩:=dY h;exact ⟨rfl,rfl⟩
 | .ty,_,h=>by obtain ⟨_,_,_,_,rfl,_⟩:=dY h;exact ⟨rfl,rfl⟩
def tIt (i:Nat) (a:au) (b:Bool):TT:=λσ H Q=>σ[i]? = some (some (.ref a))/\Q b H
def PT.to (h:PT X e t) (w:∀ σ H Q,u σ H Q->t σ H Q):PT X e u:=λpins s σ H Q I q=>h pins s σ H Q I (w σ H Q q)
section
variable {Y:Cx} {c:Ck} {ps:List Str} {j:Nat} {a C:au} {oe:Obj} {up:List Str}
 (K1:Qk Y c) (U:Bq Y ps C up) (hp:(a,oe)∈Y.pn) (hc:oe.cls = .ref C)
include K1 U hp hc
theorem NM:∀ (q:Qt) (x:aI),Mw c j ps q x = true->PE Y x (L2.tI j a (q.ev up))/\PT Y x (tIt j a (q.ev up))/\∀ o vs p,x = .BoolOp o vs p->PW Y x (tIt j a (q.ev up))
 | .isI p,x,h=>by
   obtain ⟨f,np,as,pos,rfl,hq1⟩:=dY h;obtain ⟨u,v,rfl,hq2⟩:=jD hq1;simp only [aa] at hq2;obtain ⟨⟨⟨⟨⟨h1,h2⟩,h3⟩,h4⟩,h5⟩,h6⟩:=hq2;obtain ⟨n,np1,rfl,h1'⟩:=bz h1;obtain ⟨m,mp,rfl,h2'⟩:=bz h2;obtain rfl:=of_decide_eq_true h2';obtain rfl:=of_decide_eq_true h3;obtain ⟨P,hm,hP,hs⟩:=U.sub m (by simpa using h6);obtain ⟨n1,n2,n3,n4⟩:=K1.name h1';obtain ⟨g1,g2,g3⟩:=K1.glo h4;obtain ⟨g4,g5,g6⟩:=K1.glo h5
   have key:PE Y (.Call (.Name "isinstance" np) [.Name n np1,.Name m mp] [] pos) (L2.tI j a ((Qt.isI m).ev up)):=by
    refine HE (P:=P) (ij n1 n2 n3 n4) ?_ g1 K1.isi g4 hm g5;show bU Y _ (λxs H Q=>xs = [.ref a,.ref P]/\Q (.bl (up.contains m)) H)
    cases q:up.contains m with
    | true=>exact Mu hp hc U.ve hP (hs.trans q)
    | false=>exact Ms hp hc U.ve U.qc hP (hs.trans q)
   exact ⟨key,PT.to (DB key) (λσ H Q ⟨e,q⟩=>⟨e,_,rfl,q⟩),λ_ _ _ z=>by cases z⟩
 | .ty,x,h=>by
   obtain ⟨f,np,as,pos,rfl,hq1⟩:=dY h;obtain ⟨u,v,rfl,hq2⟩:=jD hq1;simp only [aa] at hq2;obtain ⟨⟨⟨⟨h1,h2⟩,h3⟩,h4⟩,h5⟩:=hq2;obtain ⟨n,np1,rfl,h1'⟩:=bz h1;obtain ⟨m,mp,rfl,h2'⟩:=bz h2;obtain rfl:=of_decide_eq_true h2';obtain rfl:=of_decide_eq_true h3;obtain ⟨n1,n2,n3,n4⟩:=K1.name h1';obtain ⟨g1,g2,g3⟩:=K1.glo h4;obtain ⟨g4,g5,g6⟩:=K1.glo h5
   have key:PE Y (.Call (.Name "isinstance" np) [.Name n np1,.Name "ValueError" mp] [] pos) (L2.tI j a (Qt.ty.ev up)) :=
    HD (T:="ValueError") (ij n1 n2 n3 n4) (Mr hp hc U.ve rfl ⇑0) g1 K1.isi g4 K1.hz rfl g6 g5
   exact ⟨key,PT.to (DB key) (λσ H Q ⟨e,q⟩=>⟨e,_,rfl,q⟩),λ_ _ _ z=>by cases z⟩
theorem Dj:∀ (l:List Qt) (es:List aI),Fi c j ps l es = true->PA Y es (λσ H Q=>σ[j]? = some (some (.ref a))/\Q (l.map λq=>V.bl (q.ev up)) H)
 | [],es,h=>by
   obtain ⟨rfl,_⟩:=cR h
   exact λpos pins s σ H Q I q=>jC pos pins s σ H Q I q.2
 | q::l,es,h=>by
   obtain ⟨y,ys,rfl,h1⟩:=cD h;rw [aa] at h1;exact λpos pins s σ H Q I ⟨e,w⟩=>fb (NM K1 U hp hc q y h1.1).1 (Dj l ys h1.2) (bO (Hs h1.1).1 _ _) pos pins s σ H Q I ⟨e,e,w⟩
def zP (K:PySem.W.Frag) (mg:Str->Option ag) (ps:List Str) (f:Str) (l:List (Qt × Str)):Prop:=True
def Qs.asks:Qs->List (Str × List (Qt × Str))
 | .nil=>[]
 | .tup _ _ r=>r.asks
def tQ (K:PySem.W.Frag) (j:Nat) (a:au) (ev:Loc->Loc):TS:=λD σ H=>∃ G F δ,Ok K G F σ H δ/\δ[j]? = some .no/\σ[j]? = some (some (.ref a))/\∀ σ' H',Sim H H'->kZ H'->Ok K G F σ' H' (ev δ)->(ev δ)[j]? = some .no->D.nx σ' H'
theorem Je (hd:Y.A.depth < recursionLimit):∀ (q:Qs) (zs:List bw),Mx c j ps q zs = true->(∀ p∈q.asks,zP Y.K Y.mg ps p.1 p.2)->PSs Y zs (tQ Y.K j a (q.ev up))
 | .nil,zs,h,_=>by
   obtain ⟨rfl,_⟩:=cR h
   exact PSs.imp oE λD σ H ⟨G,F,δ,ok,e1,e2,q⟩=>q σ H (Sim.refl H) ok.tabs ok e1
 | .tup i l r,zs,h,hk=>by
   obtain ⟨z,zr,rfl,hq1⟩:=cD h;rw [aa] at hq1;obtain ⟨ts,y,pos,rfl,hq2⟩:=iq hq1.1;obtain ⟨t,rfl,hq3⟩:=du hq2;obtain ⟨t,tp,rfl,hq4⟩:=bz hq3;simp only [aa] at hq4;obtain ⟨⟨⟨h1,h2⟩,h3⟩,h5⟩:=hq4;have hne:=of_decide_eq_true h3;obtain ⟨es,nn,p2,rfl,h4⟩:=ik h2;obtain ⟨n1,n2,n3⟩:=K1.to h1;have ih:=Je hd r zr hq1.2 hk;refine PSs.imp (ma (sY K1.nd n1 n2 (xE (Dj K1 U hp hc l es h4)) (jJ (x:=.Tuple es nn p2) rfl rfl _ _ _) n3) ih) λD σ H zz=>?_;obtain ⟨G,F,δ,ok,d1,d2,w⟩:=zz;refine ⟨d2,by rw [aw];exact bx (iG (of_decide_eq_true h5)) ⇑0,λp hp=>?_⟩;obtain ⟨l1,l2,l3,_⟩:=ok.laid hp (.tup (l.map λq=>V.bl (q.ev up)))
   have rl:∀ l:List Qt,aK Y.K H F (l.map λq=>PP.D.bl (q.ev up)) (l.map λq=>V.bl (q.ev up)):=λl=>by
    induction l with
    | nil=>exact aK.nil
    | cons q l ih=>exact aK.cons (iW _) ih
   have rr:=ig ok hp (rl l)
   have ok2:Ok Y.K G F (σ.set i (some (.ref p))) (upd H p (.tup (l.map λq=>V.bl (q.ev up)))) (δ.set i (.val (.tup (l.map λq=>PP.D.bl (q.ev up))))):=by
    by_cases hi:i < δ.length
    . exact l1.set hi rr
    . rw [uH (by rw [<- l1.len];lia),uH ∅];exact l1
   refine ⟨G,F,_,ok2,?_,?_,λσ' H2 s2 t2 o2 e=>w σ' H2 (l3.trans s2) t2 o2 e⟩
   . rw [aO hne];exact d1
   . rw [aO hne];exact d2
end
def tyB:bw->List bw
 | .Try b _ _ _ _=>b
 | _=>[]
def tyH:bw->List kH
 | .Try _ h _ _ _=>h
 | _=>[]
def tyO:bw->List bw
 | .Try _ _ o _ _=>o
 | _=>[]
def tyF:bw->List bw
 | .Try _ _ _ f _=>f
 | _=>[]
def ehT:kH->Option aI
 | .ExceptHandler t _ _ _=>t
def ehN:kH->Option Str
 | .ExceptHandler _ n _ _=>n
def ehB:kH->List bw
 | .ExceptHandler _ _ b _=>b
def Jl (x:bw) (k:List bw->Str->Str->bw->List bw->Bool):Bool:=(CF x == 2) && on0 (tyO x) (on0 (tyF x) (on1 (tyH x) λh=>onO (ehT h) λe=>cE e λp=>onS (ehB h) λb r=>match ehN h with
 | some n=>k (tyB x) p n b r
 | none=>false))
def DV (h:Jl x k = true):∃ body p n b r np hp pos,x = .Try body [.ExceptHandler (some (.Name p np)) (some n) (b::r) hp] [] [] pos/\k body p n b r = true:=by
 obtain ⟨⟨body,hs,o,f,pos,rfl⟩,h1⟩:=tX h;obtain ⟨e1,h2⟩:=cR h1;obtain ⟨e2,h3⟩:=cR h2;obtain ⟨⟨t,n,b,hp⟩,e3,h4⟩:=du h3;obtain ⟨y,e4,h5⟩:=ku h4;obtain ⟨p,np,rfl,h6⟩:=bz h5;obtain ⟨b0,r,e5,h7⟩:=cD h6;have e1:o = []:=e1;have e2:f = []:=e2;have e3:hs = [.ExceptHandler t n b hp]:=e3;have e4:t = some (.Name p np):=e4;have e5:b = b0::r:=e5;subst e1 e2 e3 e4 e5
 cases n with
 | none=>cases h7
 | some n=>exact ⟨body,p,n,b0,r,np,hp,pos,rfl,h7⟩
inductive Yt where
 | st (s:S) | tr (rs:Rs) (j:Nat) (qs:Qs) | tn (ss:Ss)
def Yt.asks:Yt->List (Str × List (Qt × Str))
 | .st _=>[]
 | .tr _ _ qs=>qs.asks
 | .tn _=>[]
def Gq (ss:Ss) (cx:Cl) (δ:Loc):Option Out:=cY cx ss δ
def yS (ups:List (Str × List Str)):List Yt->Ss
 | []=>.nil
 | .st s::r=>.cons s (yS ups r)
 | .tr rs j qs::r=>.cons (.opq (Ak ups rs j qs)) (yS ups r)
 | .tn ss::r=>.cons (.opq (Gq ss)) (yS ups r)
def xH (x:bw) (k:List bw->Bool):Bool:=(CF x == 2) && on0 (tyO x) (on0 (tyF x) (onS (tyH x) λ_ _=>k (tyB x)))
def AJ (h:xH x k = true):∃ body h0 hs pos,x = .Try body (h0::hs) [] [] pos/\k body = true:=by
 obtain ⟨⟨body,hs,o,f,pos,rfl⟩,h1⟩:=tX h;obtain ⟨e1,h2⟩:=cR h1;obtain ⟨e2,h3⟩:=cR h2;obtain ⟨h0,hr,e3,h4⟩:=cD h3;have e1:o = []:=e1;have e2:f = []:=e2;have e3:hs = h0::hr:=e3;subst e1 e2 e3;exact ⟨_,_,_,_,rfl,h4⟩
def Jw (c:Ck) (xs:List (Nat × Nat)) (ps:List Str) (ups:List (Str × List Str)) (rs:Rs) (j:Nat) (qs:Qs) (x:bw):Bool :=
 Jl x λbody p n b r=>nY [] xs c rs body && Mx c j ps qs (b::r) && dO c p && ps.contains p && decide (c.N[j]? = some n) && decide (c.sc.names.lookup n = some .local) && ups.all λu=>u.2.contains p
def ckY (c:Ck) (xs:List (Nat × Nat)) (ps:List Str) (ups:List (Str × List Str)):List Yt->List bw->Bool
 | [],zs=>on0 zs true
 | .st s::r,zs=>onS zs λy ys=>ckS c s y && ckY c xs ps ups r ys
 | .tr rs j qs::r,zs=>onS zs λy ys=>Jw c xs ps ups rs j qs y && ckY c xs ps ups r ys
 | .tn ss::r,zs=>onS zs λy ys=>xH y (λb=>qL c ss b) && ckY c xs ps ups r ys
def Ok.keepNo {K:PySem.W.Frag} {G:Gh} {F:au->Prop} {σ:L2.St} {H:Hp} {δ:Loc} (h:Ok K G F σ H δ) {j:Nat} (e:δ[j]? = some .no) (v:Option V):Ok K G F (σ.set j v) H δ:=by
 refine ⟨h.same,h.fd,h.rf,h.rl,h.tf,h.tabs,by rw [bu];exact h.len,λi s hi=>?_,λi i' s t a e1 e2 o1 o2 a1 a2=>?_⟩
 . by_cases q:i = j
   . subst q;rw [e] at hi;cases hi;trivial
   . rw [aO (Ne.symm q)];exact h.sl i s hi
 . have n1:i≠j:=by rintro rfl;rw [e] at e1;cases e1;cases o1
   have n2:i'≠j:=by rintro rfl;rw [e] at e2;cases e2;cases o2
   rw [aO (Ne.symm n1)] at a1;rw [aO (Ne.symm n2)] at a2;exact h.apart i i' s t a e1 e2 o1 o2 a1 a2
section
variable {X:Cx} {c:Ck} {cx:Cl} {k:Nat} {ps:List Str} {xs:List (Nat × Nat)} {ups:List (Str × List Str)}
def Cok.tried (C:Cok X c cx k) (pn:List (au × Obj)) (xe:ag->aj->Prop):Cok (X.tried pn xe).nox c cx k:={ C with xe:=rfl }
def Kx (K1:Cok X c cx k) (hS:X.env.scope = c.sc) (hB:X.env.blockKind = .function) (hz:X.mg "ValueError" = none) (fr:X.ex = []/\X.stack = X.env::X.outer/\X.env.frame = some X.env.locals)
 (fx:∀ (f g:Nat) (x:Str) (ps:List Str),(f,g)∈xs->c.fns[f]? = some (x,ps)->∃ a fd,X.mg x = some (.ref a)/\PySem.W.keepIn X.K (.ref a) = true/\Binds X.K fd ps []/\gh X.prog X.w X.K X.mg X.base (CXE X.prog X.w) k a fd ps (spX X.K X.mg (cx.call g)))
 (hps:∀ p,p∈ps->∃ P,X.mg p = some (.ref P)/\VE X.K P = true) (hup:∀ n up,ups.lookup n = some up->∃ C,X.mg n = some (.ref C)/\Bq X ps C up) {rs:Rs} {j:Nat} {qs:Qs} {x:bw} (hak:∀ p∈qs.asks,zP X.K X.mg ps p.1 p.2) (ck:Jw c xs ps ups rs j qs x = true):PS X x (tS X.K (evS cx (.opq (Ak ups rs j qs)))):=by
 obtain ⟨body,p,n,b,r,np,hp,pos,rfl,h⟩:=DV ck;simp only [aa] at h;obtain ⟨⟨⟨⟨⟨⟨h1,h2⟩,h3⟩,h4⟩,h5⟩,h6⟩,h7⟩:=h;have h5:=of_decide_eq_true h5;have h6:=of_decide_eq_true h6;obtain ⟨g1,g2,g3⟩:=K1.global h3;obtain ⟨f1,f2,f3⟩:=fr;obtain ⟨P,hm,hP⟩:=hps p (by simpa using h4);refine PS.imp (KY (i:=j) (P:=P) (tb:=λE=>tR X.K X.mg E (fH cx rs)) (ts:=λa C D σ H=>∃ up,Bq X ps C up/\tQ X.K j a (qs.ev up) D σ H) f1 f2 f3 g1 hm hP g2 K1.nd' (by rw [K1.hN];exact h5) (show X.env.scope.names.lookup n = some .local by rw [hS];exact h6) (show X.env.scope.names.lookup n = some .local by rw [hS];exact h6) (λE pn xe hpass=>?_) (λa C=>?_)) λD σ H ⟨G,F,δ,o,ok,ev,post⟩=>?_
 . exact pI (X:=X.tried pn xe) (cls:=[]) (K1.tried pn xe) hS hB hpass (λz=>absurd rfl z) (λz=>absurd rfl z) fx (λn z=>by simp at z) rs body h1
 . exact λoe vs pins s σ H D c1 c2 I ⟨up,U,q⟩=>KW (t:=tQ X.K j a (qs.ev up)) (λoe vs pn c1 c2 hp=>Je (Y:=(X.mrk a).tried pn λ_ _=>False) ⟨K1.nd',λh=>K1.name h,λh=>K1.to h,λh=>K1.global h,K1.blt _ ⇑0,hz⟩ ⟨U.ve,U.qc,U.sub⟩ hp c1 K1.room.depth qs _ h2 hak) oe vs pins s σ H D c1 c2 I q
 . have ev:Ak ups rs j qs cx δ = some o:=ev;unfold Ak at ev;refine ⟨λσ1 u _ H1=>∃ nm δ1 F1,fH cx rs δ = some (.inr (nm,δ1))/\X.mg nm = some u/\Step G F H F1 H1/\Ok X.K G F1 σ1 H1 δ1,?_,?_⟩
   . cases er:fH cx rs δ with
     | none=>rw [er] at ev;cases ev
     | some r =>
       rw [er] at ev;refine ⟨G,F,δ,r,ok,er,?_⟩
       cases r with
       | inl o1=>cases ev;exact post
       | inr q =>
         obtain ⟨nm,δ1⟩:=q;dsimp only at ev;split at ev
         . rename_i up hl;obtain ⟨C,hC,_⟩:=hup nm up hl;exact λσ' H' F' st ok'=>⟨_,hC,nm,δ1,F',rfl,hC,st,ok'⟩
         . cases ev
   . rintro σ1 u H1 ⟨nm,δ1,F1,er,hu,st,ok1⟩;rw [er] at ev;dsimp only at ev;split at ev
     . rename_i up hl;obtain ⟨C,hC,U⟩:=hup nm up hl;rw [hu] at hC;cases hC;obtain ⟨P',hm',_,hs⟩:=U.sub p (by simpa using h4);rw [hm] at hm';cases hm';split at ev
       . rename_i hn;cases ev;have hj:=Iu hn;have hlt:j < σ1.length:=by rw [<- ok1.len];exact (aE.mp hj).1
         refine ⟨C,rfl,U.ve,?_,λa=>⟨up,U,G,F1,δ1,ok1.keepNo hj _,hj,bQ hlt,λσ' H' sm tb ok' e'=>?_⟩⟩
         . rw [hs];have hmem:(nm,up)∈ups:=PySem.mem_of_lookup hl;exact aW.mp h7 _ hmem
         . exact post _ _ F1 (st.trans (ok1.call sm tb).2) (ok'.keepNo e' _)
       . cases ev
     . cases ev
def NK (K1:Cok X c cx k) (hS:X.env.scope = c.sc) (hB:X.env.blockKind = .function) {ss:Ss} {x:bw} (ck:xH x (λb=>qL c ss b) = true):PS X x (tS X.K (evS cx (.opq (Gq ss)))):=by
 obtain ⟨body,h0,hs,pos,rfl,h⟩:=AJ ck;have hb:=pG K1 hS hB ss body h;intro pins s σ H D I q;refine wpAny_Try_except (cg (hb pins s σ H D I q) (λf s1 h1=>?_) λe s1 z=>?_)
 . cases f with
   | next=>exact jd h1
   | brk=>exact h1
   | cont=>exact h1
   | ret u=>exact h1
 . rw [K1.xe] at z;exact z.elim
def GW (K1:Cok X c cx k) (hS:X.env.scope = c.sc) (hB:X.env.blockKind = .function) (hz:X.mg "ValueError" = none) (fr:X.ex = []/\X.stack = X.env::X.outer/\X.env.frame = some X.env.locals)
 (fx:∀ (f g:Nat) (x:Str) (ps:List Str),(f,g)∈xs->c.fns[f]? = some (x,ps)->∃ a fd,X.mg x = some (.ref a)/\PySem.W.keepIn X.K (.ref a) = true/\Binds X.K fd ps []/\gh X.prog X.w X.K X.mg X.base (CXE X.prog X.w) k a fd ps (spX X.K X.mg (cx.call g)))
 (hps:∀ p,p∈ps->∃ P,X.mg p = some (.ref P)/\VE X.K P = true) (hup:∀ n up,ups.lookup n = some up->∃ C,X.mg n = some (.ref C)/\Bq X ps C up):∀ (ys:List Yt) (zs:List bw),(∀ p∈ys.flatMap Yt.asks,zP X.K X.mg ps p.1 p.2)->ckY c xs ps ups ys zs = true->PSs X zs (tS X.K (cY cx (yS ups ys)))
 | [],zs,_,h=>by
   obtain ⟨rfl,_⟩:=cR h
   exact pH
 | .st s::r,zs,hk,h=>by
   obtain ⟨_,_,rfl,hq⟩:=cD h;rw [aa] at hq
   exact gb (De K1 hS hB s _ hq.1) (GW K1 hS hB hz fr fx hps hup r _ hk hq.2)
 | .tr rs j qs::r,zs,hk,h=>by
   obtain ⟨_,_,rfl,hq⟩:=cD h;rw [aa] at hq
   exact gb (Kx K1 hS hB hz fr fx hps hup (λp z=>hk p (bb _ z)) hq.1) (GW K1 hS hB hz fr fx hps hup r _ (λp z=>hk p (aM _ z)) hq.2)
 | .tn ss::r,zs,hk,h=>by
   obtain ⟨_,_,rfl,hq⟩:=cD h;rw [aa] at hq;exact gb (NK K1 hS hB hq.1) (GW K1 hS hB hz fr fx hps hup r _ hk hq.2)
def qX (rs:Rs):Ss:=.cons (.opq λcx δ=>match fH cx rs δ with
 | some (.inl o)=>some o
 | _=>none) .nil
def Pb (K1:Cok X c cx k) (hS:X.env.scope = c.sc) (hB:X.env.blockKind = .function)
 (fx:∀ (f g:Nat) (x:Str) (ps:List Str),(f,g)∈xs->c.fns[f]? = some (x,ps)->∃ a fd,X.mg x = some (.ref a)/\PySem.W.keepIn X.K (.ref a) = true/\Binds X.K fd ps []/\gh X.prog X.w X.K X.mg X.base (CXE X.prog X.w) k a fd ps (spX X.K X.mg (cx.call g)))
 (hcl:∀ n,n∈cls->∃ C,X.mg n = some (.ref C)/\VE X.K C = true) {rs:Rs} {zs:List bw} (h:nY cls xs c rs zs = true):PSs X zs (tS X.K (cY cx (qX rs))):=by
 have C':Cok X.nox c cx k:={ K1 with xe:=rfl };refine PSs.imp (pI (X:=X) (W:=λ_=>E0) C' hS hB Jf.pass (λ_=>Jf) (λ_=>by rw [K1.xe];exact jt) fx hcl rs zs h) λD σ H zz=>?_;obtain ⟨G,F,δ,o,ok,ev,post⟩:=zz;refine ⟨G,F,δ,.inl o,ok,?_,post⟩;unfold qX at ev;simp only [cY,evS] at ev
 cases er:fH cx rs δ with
 | none=>rw [er] at ev;cases ev
 | some r =>
   rw [er] at ev
   cases r with
   | inr q=>cases ev
   | inl o1=>cases o1<;>(cases ev;rfl)
end
def Gw (G:Gh) (a:au) (qs:List au):Gh:=⟨G.h,λb=>G.R b\/b = a\/b∈qs⟩
structure Dw (K:PySem.W.Frag) (G:Gh) (F:au->Prop) (H:Hp) (ks:List Str) (dss:List (List D)) (a:au) (qs:List au):Prop where
 ha:H a = some (.dK (zk ks (qs.map V.ref)))
 fa:G.free a
 nk:ks.Nodup
 lk:ks.length = dss.length
 len:qs.length = dss.length
 nd:qs.Nodup
 aq:a∉qs
 at_:∀ (j:Nat) (q:au) (ds:List D),qs[j]? = some q->dss[j]? = some ds->G.free q/\∃ xs,H q = some (.lst xs)/\aK K H F ds xs
section
variable {K:PySem.W.Frag} {G:Gh} {F F':au->Prop} {H H':Hp} {σ:L2.St} {δ:Loc} {ks:List Str} {dss:List (List D)} {a:au} {qs:List au}
def Dw.get (h:Dw K G F H ks dss a qs) {j:Nat} {q:au} (e:qs[j]? = some q):∃ ds,dss[j]? = some ds:=by
 have:=(aE.mp e).1;exact ⟨_,aB (by rw [<- h.len];exact this)⟩
def Dw.mem (h:Dw K G F H ks dss a qs) {q:au} (e:q∈qs):G.free q/\∃ xs,H q = some (.lst xs):=by
 obtain ⟨j,e⟩:=ym.mp e;obtain ⟨ds,e2⟩:=h.get e;obtain ⟨f,xs,z,_⟩:=h.at_ j q ds e e2;exact ⟨f,xs,z⟩
def Dw.step (h:Dw K G F H ks dss a qs) (ok:Ok K (Gw G a qs) F σ H δ) (st:Step (Gw G a qs) F H F' H'):Dw K G F' H' ks dss a qs where
 ha:=(st.res a _ (.inr (.inl rfl)) (ok.rf a (.inr (.inl rfl))) h.ha).2
 fa:=h.fa
 nk:=h.nk
 lk:=h.lk
 len:=h.len
 nd:=h.nd
 aq:=h.aq
 at_:=λj q ds e1 e2=>by
  obtain ⟨f,xs,e,r⟩:=h.at_ j q ds e1 e2;have hq:q∈qs:=cU e1;exact ⟨f,xs,(st.res q _ (.inr (.inr hq)) (ok.rf q (.inr (.inr hq))) e).2,aK.step ok.fd st ds xs r⟩
def mX:∀ b,G.R b->(Gw G a qs).R b:=λb z=>.inl z
def Ok.pokeW {p:au} {x u:HO} (h:Ok K G F σ H δ) (hR:G.R p) (hg:G.h p = none) (hP:H p = some x) (hx:Mo x) (hu:Mo u):Ok K G F σ (upd H p u) δ:=by
 have hF:F p:=h.rf p hR;have nt:=hx.nt;have st:Step g0 F H F (upd H p u):=⟨λb o _ e n=>by rw [bh (λz:b = p=>n (by rw [z];exact hF))];exact e,λb z=>.inl z,λ_ _ r _ _=>r.elim,λb ps e=>⟨ps,by rw [bh (λw:b = p=>by rw [w,hP] at e;cases e;exact nt)];exact e⟩⟩;refine ⟨⟨λb o t e=>?_,λb ps e=>?_⟩,λb z=>?_,h.rf,λb z=>?_,h.tf,h.tabs.keep λb o n e=>?_,h.len,λj s e=>?_,h.apart⟩
 . rw [bh (λz:b = p=>by rw [z,hg] at e;cases e)];exact h.same.nt b o t e
 . rw [bh (λz:b = p=>by rw [z,hg] at e;cases e)];exact h.same.tb b ps e
 . by_cases hb:b = p
   . rw [hb];exact ⟨u,bL,.inl hu⟩
   . rw [bh hb];exact h.fd b z
 . by_cases hb:b = p
   . rw [hb];exact ⟨u,bL,hu⟩
   . rw [bh hb];exact h.rl b z
 . rw [bh (λw:b = p=>by rw [w,hP] at e;cases e;exact n hx)];exact e
 . exact eB.stay0 h.fd st (λa v _ f1 f2 f3=>⟨f1,by rw [bh (λz:a = p=>f2.2 (by rw [z];exact hR))];exact f3⟩) (h.sl j s e)
def Step.poke {p:au} {x u:HO} (hF:F p) (hg:¬ G.R p) (hP:H p = some x) (hx:NT x):Step G F H F (upd H p u) :=
 ⟨λb o _ z n=>by rw [bh (λw:b = p=>n (by rw [w];exact hF))];exact z,λb z=>.inl z,λb o rr z e=>⟨z,by rw [bh (λw:b = p=>hg (by rw [<- w];exact rr))];exact e⟩,λb ps e=>⟨ps,by rw [bh (λw:b = p=>by rw [w,hP] at e;cases e;exact hx)];exact e⟩⟩
def Dw.poke (h:Dw K G F H ks dss a qs) (ok:Ok K (Gw G a qs) F σ H δ) {j:Nat} {q:au} {es:List D} {ys:List V} (e:qs[j]? = some q) (r:aK K H F es ys) :
 Ok K (Gw G a qs) F σ (upd H q (.lst ys)) δ/\Dw K G F (upd H q (.lst ys)) ks (dss.set j es) a qs/\Step G F H F (upd H q (.lst ys)):=by
 have hq:q∈qs:=cU e;obtain ⟨ds,e2⟩:=h.get e;obtain ⟨f,xs,ex,rx⟩:=h.at_ j q ds e e2;have hF:F q:=ok.rf q (.inr (.inr hq));have st:Step G F H F (upd H q (.lst ys)):=Step.poke hF f.2 ex trivial;refine ⟨ok.pokeW (.inr (.inr hq)) f.1 ex trivial trivial,⟨?_,h.fa,h.nk,by rw [bu];exact h.lk,by rw [bu];exact h.len,h.nd,h.aq,λj' q' ds' e1' e2'=>?_⟩,st⟩
 . rw [bh (λw:a = q=>h.aq (by rw [w];exact hq))];exact h.ha
 . by_cases hj:j' = j
   . subst hj;rw [e] at e1';cases e1';rw [bQ (aE.mp e2).1] at e2';cases e2';exact ⟨f,ys,bL,aK.step ok.fd st es ys r⟩
   . rw [aO (Ne.symm hj)] at e2';obtain ⟨f',xs',ex',rx'⟩:=h.at_ j' q' ds' e1' e2';have hne:q'≠q:=λw=>hj ((FL (aE.mp e1').1 h.nd).mp (by rw [e1',e,w]));exact ⟨f',xs',by rw [bh hne];exact ex',aK.step ok.fd st ds' xs' rx'⟩
def yJ:∀ {ds:List D} {xs:List V},xs.length = ds.length->(∀ (j:Nat) d v,ds[j]? = some d->xs[j]? = some v->Rel K H F d v)->aK K H F ds xs
 | [],[],_,_=>aK.nil
 | [],_::_,l,_=>nomatch l
 | _::_,[],l,_=>nomatch l
 | d::ds,x::xs,l,h=>aK.cons (h 0 d x rfl rfl) (yJ (cO l) λj d v e1 e2=>h (j+1) d v (by simpa using e1) (by simpa using e2))
def Dw.rel (h:Dw K G F H ks dss a qs) (fd:FD F H):Rel K H (λb=>F b/\¬ (b = a\/b∈qs)) (.dct ks (dss.map D.lst)) (.ref a):=by
 unfold Rel;refine ⟨a,_,rfl,.inl h.ha,λz=>z.2 (.inl rfl),h.nk,by rw [aw];exact h.lk,yJ (by rw [aw,aw,h.len]) λj d v e1 e2=>?_⟩;rw [bj,aL] at e1 e2;obtain ⟨ds,e1,rfl⟩:=e1;obtain ⟨q,e2,rfl⟩:=e2;obtain ⟨f,xs,ex,r⟩:=h.at_ j q ds e2 e1;unfold Rel;exact ⟨q,xs,rfl,.inl ⟨.inl ex,λz=>z.2 (.inr (cU e2))⟩,aK.less fd (λb z=>z.1) r⟩
def Ok.lendW (ok:Ok K (Gw G a qs) F σ H δ) (h:Dw K G F H ks dss a qs) {i:Nat} (e:σ[i]? = some (some (.ref a))):Ok K G (λb=>F b/\¬ (b = a\/b∈qs)) σ H (δ.set i (.val (.dct ks (dss.map D.lst)))):=by
 have hs:∀ b,(F b/\¬ (b = a\/b∈qs))->F b:=λb z=>z.1
 have nr:∀ b,(b = a\/b∈qs)->¬ G.R b/\∃ u,H b = some u/\Mo u:=λb z=>by
  rcases z with z | z
  . subst z;exact ⟨h.fa.2,_,h.ha,trivial⟩
  . obtain ⟨f,xs,e⟩:=h.mem z;exact ⟨f.2,_,e,trivial⟩
 have ok':Ok K G (λb=>F b/\¬ (b = a\/b∈qs)) σ H δ:=by
  refine ⟨ok.same,λb z=>ok.fd b z.1,λb z=>⟨ok.rf b (.inl z),λw=>(nr b w).1 z⟩,λb z=>ok.rl b (.inl z),λt ht=>⟨ok.tf t ht,λw=>?_⟩,ok.tabs,ok.len,λj s e=>?_,ok.apart⟩
  . obtain ⟨ps,e2,_⟩:=ok.tabs t ht;obtain ⟨_,xs,e3,m⟩:=nr t.1 w;rw [e2] at e3;cases e3;exact m
  . refine ((ok.sl j s e).less ok.fd hs λb z zb=>?_).free (G:=Gw G a qs) (G':=G) λb _ z=>⟨z.1,λw=>z.2 (.inl w)⟩;obtain ⟨b',u,d,e1,f1,f2,_⟩:=eB.ow (ok.sl j s e) z;rw [zb] at e1;cases e1;exact ⟨f1,λw=>f2.2 (.inr w)⟩
 have hi:i < δ.length:=by rw [ok.len];exact (aE.mp e).1
 have r:=ok'.set (i:=i) hi (h.rel ok.fd)
 have es:σ.set i (some (.ref a)) = σ:=by
  obtain ⟨hh,e⟩:=aE.mp e;rw [<- e];exact List.set_getElem_self hh
 rw [es] at r;exact r
def Ok.reserveW (ok:Ok K G F σ H δ) {i:Nat} (e:δ[i]? = some (.odc [] [])):∃ a,σ[i]? = some (some (.ref a))/\Ok K (Gw G a []) F σ H (δ.set i .no)/\Dw K G F H [] [] a []:=by
 obtain ⟨a,vs,ea,h1,h2,h3,_,_,h6⟩:=ok.sl i _ e;unfold aK at h6;subst h6;have hi:i < δ.length:=(aE.mp e).1;refine ⟨a,ea,⟨ok.same,ok.fd,λb z=>?_,λb z=>?_,ok.tf,ok.tabs,by rw [bu];exact ok.len,λj s q=>?_,λj k s t b q1 q2 o1 o2 p1 p2=>?_⟩,⟨h3,h2,iT,rfl,rfl,iT,cj,λj q ds e=>nomatch e⟩⟩
 . rcases z with z | z | z
   . exact ok.rf b z
   . rw [z];exact h1
   . cases z
 . rcases z with z | z | z
   . exact ok.rl b z
   . rw [z];exact ⟨_,h3,trivial⟩
   . cases z
 . rcases dX hi q with ⟨rfl,rfl⟩ | ⟨hj,q⟩
   . trivial
   . have z:=ok.sl j s q
     cases eq:ow s with
     | false =>
       cases s with
       | own _=>cases eq
       | odc _ _=>cases eq
       | _=>exact z
     | true =>
       obtain ⟨b,u,d,e1,f1,f2,f3,f4,rfl⟩:=eB.ow z eq;refine RelO.sl e1 f1 ⟨f2.1,λw=>?_⟩ f3 f4;rcases w with w | w | w
       . exact f2.2 w
       . exact hj (ok.apart j i _ _ a q e eq rfl (by rw [e1,w]) ea)
       . cases w
 . rcases dX hi q1 with ⟨rfl,rfl⟩ | ⟨hj,q1⟩
   . cases o1
   . rcases dX hi q2 with ⟨rfl,rfl⟩ | ⟨hk,q2⟩
     . cases o2
     . exact ok.apart j k s t b q1 q2 o1 o2 p1 p2
def yq (x:Str) (v:V):∀ (ks:List Str) (vs:List V),ks.length = vs.length->zk ks vs++[((.inr x:Key),v)] = zk (ks++[x]) (vs++[v])
 | [],[],_=>rfl
 | [],_::_,h=>nomatch h
 | _::_,[],h=>nomatch h
 | k::ks,w::vs,h=>by
   show (.inr k,w)::(zk ks vs++_) = (.inr k,w)::zk (ks++[x]) (vs++[v]);rw [yq x v ks vs (cO h)]
def Dw.grow (h:Dw K G F H ks dss a qs) (ok:Ok K (Gw G a qs) F σ H δ) {p:au} {x:Str} (hp:H p = none) (hx:x∉ks) :
 ∃ F',Ok K (Gw G a (qs++[p])) F' σ (upd (upd H p (.lst [])) a (.dK (zk (ks++[x]) ((qs++[p]).map V.ref)))) δ/\Dw K G F' (upd (upd H p (.lst [])) a (.dK (zk (ks++[x]) ((qs++[p]).map V.ref)))) (ks++[x]) (dss++[[]]) a (qs++[p])/\Step G F H F' (upd (upd H p (.lst [])) a (.dK (zk (ks++[x]) ((qs++[p]).map V.ref)))):=by
 obtain ⟨o1,s1⟩:=ok.enter hp []
 have pa:a≠p:=λw=>by
  have z:=h.ha;rw [w,hp] at z;cases z
 have pq:p∉qs:=λw=>by
  obtain ⟨_,xs,e⟩:=h.mem w;rw [hp] at e;cases e
 have eG:(Gw G a qs).and p = Gw G a (qs++[p]):=by
  unfold Gh.and Gw;congr 1
  funext b
  apply propext;simp only [aN,aC];constructor
  . rintro ((h | h | h) | h)
    . exact .inl h
    . exact .inr (.inl h)
    . exact .inr (.inr (.inl h))
    . exact .inr (.inr (.inr h))
  . rintro (h | h | h | h)
    . exact .inl (.inl h)
    . exact .inl (.inr (.inl h))
    . exact .inl (.inr (.inr h))
    . exact .inr h
 rw [eG] at o1;have d1:=h.step ok s1;have ha1:upd H p (.lst []) a = some (.dK (zk ks (qs.map V.ref))):=by rw [bh pa];exact h.ha
 have o2:=o1.pokeW (p:=a) (u:=.dK (zk (ks++[x]) ((qs++[p]).map V.ref))) (.inr (.inl rfl)) h.fa.1 ha1 trivial trivial;have st2:Step G (λb=>F b\/b = p) (upd H p (.lst [])) (λb=>F b\/b = p) (upd (upd H p (.lst [])) a (.dK (zk (ks++[x]) ((qs++[p]).map V.ref)))):=Step.poke (o1.rf a (.inr (.inl rfl))) h.fa.2 ha1 trivial;refine ⟨_,o2,⟨bL,h.fa,?_,?_,?_,?_,?_,λj q ds e1 e2=>?_⟩,(s1.sub mX).trans st2⟩
 . rw [jr];exact ⟨h.nk,↥0,λy hy z hz=>by rw [aC.mp hz];rintro rfl;exact hx hy⟩
 . rw [ay,ay,h.lk];rfl
 . rw [ay,ay,h.len];rfl
 . rw [jr];exact ⟨h.nd,↥0,λy hy z hz=>by rw [aC.mp hz];rintro rfl;exact pq hy⟩
 . intro w;rcases aN.mp w with w | w
   . exact h.aq w
   . exact pa (aC.mp w)
 . have fin:∀ q,q≠a->upd (upd H p (.lst [])) a (.dK (zk (ks++[x]) ((qs++[p]).map V.ref))) q = upd H p (.lst []) q:=λq n=>bh n;by_cases hj:j < qs.length
   . rw [bI hj] at e1;rw [bI (by rw [<- h.len];exact hj)] at e2;obtain ⟨f,xs,ex,r⟩:=d1.at_ j q ds e1 e2;exact ⟨f,xs,(fin q (λw=>h.aq (by rw [<- w];exact cU e1))).trans ex,aK.step o1.fd st2 ds xs r⟩
   . have hj':j = qs.length:=by
      have:=(aE.mp e1).1;rw [ay,kY] at this;omega
     subst hj';rw [bD (aA _),iF] at e1;rw [h.len,bD (aA _),iF] at e2;cases e1;cases e2;exact ⟨ok.free hp |> λz=>⟨z.1,λw=>z.2 (.inl w)⟩,[],(fin _ (Ne.symm pa)).trans bL,aK.nil⟩
end
def fi:List Str->List (List D)->Str->D->List Str × List (List D)
 | k::ks,ds::dss,x,d=>if k = x then (k::ks,(ds++[d])::dss) else (k::(fi ks dss x d).1,ds::(fi ks dss x d).2)
 | _,_,x,d=>([x],[[d]])
def ph {x:Str} {d:D}:∀ {ks:List Str} {dss:List (List D)},ks.length = dss.length->x∈ks->∃ (j:Nat) (ds:List D),ks[j]? = some x/\dss[j]? = some ds/\fi ks dss x d = (ks,dss.set j (ds++[d]))
 | [],_,_,h=>nomatch h
 | k::ks,[],l,_=>nomatch l
 | k::ks,ds::dss,l,h=>by
   unfold fi;by_cases e:k = x
   . rw [if_pos e];exact ⟨0,ds,by rw [e];rfl,rfl,rfl⟩
   . rw [if_neg e];obtain ⟨j,es,h1,h2,h3⟩:=ph (d:=d) (cO l) ((aD.mp h).resolve_left λz=>e z.symm);exact ⟨j+1,es,h1,h2,by rw [h3];rfl⟩
def uL {x:Str} {d:D}:∀ {ks:List Str} {dss:List (List D)},ks.length = dss.length->x∉ks->fi ks dss x d = (ks++[x],dss++[[d]])
 | [],[],_,_=>by unfold fi;rfl
 | [],_::_,l,_=>nomatch l
 | k::ks,[],l,_=>nomatch l
 | k::ks,ds::dss,l,h=>by
   unfold fi;rw [if_neg λe=>h (by rw [e];exact av),uL (cO l) λz=>h (ai _ z)];rfl
abbrev WSt:=Loc × List Str × List (List D)
def strOf:D->Option Str
 | .str x=>some x
 | _=>none
def IL (cx:Cl) (ek ev:E) (δ:Loc) (ks:List Str) (dss:List (List D)):Option WSt :=
 (evE cx ek δ).bind λp=>(strOf p.1).bind λx=>(evE cx ev p.2).bind λq=>if ks.length < 1000/\(dss.all λds=>decide (ds.length < 1000)) = true then some (q.2,fi ks dss x q.1) else none
def AX (f:D->Loc->List Str->List (List D)->Option WSt):List D->Loc->List Str->List (List D)->Option WSt
 | [],δ,ks,dss=>some (δ,ks,dss)
 | x::xs,δ,ks,dss=>(f x δ ks dss).bind λp=>AX f xs p.1 p.2.1 p.2.2
def lS (cx:Cl) (i j:Nat) (ek ev:E) (x:D) (δ:Loc) (ks:List Str) (dss:List (List D)):Option WSt:=if j≠i/\j < δ.length then IL cx ek ev (δ.set j (.val x)) ks dss else none
def wlF (i j:Nat) (src:It) (ek ev:E) (cx:Cl) (δ:Loc):Option Out:=match δ[i]? with
 | some (.odc [] [])=>(evI cx src (δ.set i .no)).bind λp=>(AX (lS cx i j ek ev) p.1 p.2 [] []).bind λq=>some (.nx (q.1.set i (.val (.dct q.2.1 (q.2.2.map D.lst)))))
 | _=>none
def OL (K:PySem.W.Frag) (G:Gh) (F:au->Prop) (H:Hp) (i:Nat) (a:au) (o:WSt) (E:Ends):Prop :=
 ∀ σ' H' F' qs',Step G F H F' H'->Ok K (Gw G a qs') F' σ' H' o.1->Dw K G F' H' o.2.1 o.2.2 a qs'->σ'[i]? = some (some (.ref a))->E.nx σ' H'
def tW (K:PySem.W.Frag) (i:Nat) (ev:Loc->List Str->List (List D)->Option WSt):TS:=λE σ H=>∃ G F δ ks dss a qs o,Ok K (Gw G a qs) F σ H δ/\Dw K G F H ks dss a qs/\σ[i]? = some (some (.ref a))/\ev δ ks dss = some o/\OL K G F H i a o E
section
variable {X:Cx} {pins:List (au × Obj)} {σ:L2.St} {H:Hp} {s:aj} {a:au} {kvs:List (Key × V)} {k:Key} {u:ag} {A:bo} {E:ag->aj->Prop}
def Fb {z:V} {r:ag} {Q:ag->aj->Prop} (I:Inv X pins σ H s) (e:H a = some (.dK kvs)) (ry:RelV (kV k) u) (rz:RelV z r) (hl:kvs.length < sizeLine)
 (h1:∀ v w s',hZ kvs k = some v->Inv X pins σ H s'->RelV v w->Q w s') (h2:hZ kvs k = none->∀ s',Inv X pins σ (upd H a (.dK (putK kvs k z))) s'->Q r s') :
 wpAny (model X.prog X.w) A (call (.builtin "dict.setdefault") [.ref a,u,r]) Q E s:=by
 obtain ⟨zz,hd,vs,rel,dd⟩:=Ju I.hok e;have rv:=rel.val k
 refine FF PySem.F.slot_dict_setdefault dd.typeIs PySem.F.entry_dict_setdefault (PySem.F.args_dict_setdefault_3 _ _ _) (kt_meets_setdefault (dh X.prog X.w) a (vP ry) hd r)
  ⟨vs,dd,by rw [<- rel.length];exact zz,λv hv=>?_,λhn h' dd' hs=>?_⟩
 . cases q:hZ kvs k with
   | none =>
     rw [q] at rv;have e1:=L2.RelO.none_of rv;rw [hv] at e1
     cases e1
   | some x =>
     rw [q] at rv;obtain ⟨w,e1,e2⟩:=L2.RelO.some_of rv;rw [hv] at e1;cases e1;exact h1 x v _ q (I.tok _) e2
 . have hk:hZ kvs k = none:=by
    cases q:hZ kvs k with
    | none=>rfl
    | some x =>
      rw [q] at rv;obtain ⟨w,e1,e2⟩:=L2.RelO.some_of rv;rw [hn] at e1;cases e1
   have he:∃ q,h'.get? a = some q:=let ⟨q,_,_,hq,_⟩:=dd';⟨q,hq⟩
   exact h2 hk _ (zG I (by rw [e];exact fk) hs he (EW (by have:=nG kvs k z;lia) hd (rel.put k rz) dd'))
end
def Nz (td ty tx:TE):TE:=λσ H Q=>td σ H λx H1=>∃ a,x = .ref a/\IsD H1 a/\ty σ H1 λy H2=>tx σ H2 λz H3=>∃ kvs k,H3 a = some (.dK kvs)/\y = kV k/\kvs.length < sizeLine /\
 (∀ v,hZ kvs k = some v->Q v H3)/\(hZ kvs k = none->Q z (upd H3 a (.dK (putK kvs k z))))
def AF {X:Cx} {o e f:aI} {apos cpos:Pos} {td ty tx:TE} (ho:PE X o td) (he:PE X e ty) (hf:PE X f tx) (m:M2 X o "setdefault" apos e f cpos):PE X (.Call (.Attribute o "setdefault" apos) [e,f] [] cpos) (Nz td ty tx):=by
 intro pins s σ H Q I h;refine Nf m.base m.few m.line PySem.F.plainAttrs_dict PySem.F.slot_dict_setdefault PySem.F.type_dict_setdefault (thn (ho pins s σ H _ I h) λu s1 ⟨x,H1,I1,rx,a,ex,d,q1⟩=>?_);subst ex;obtain rfl:u = bA a:=rx;obtain ⟨t1,t2,_⟩:=EF I1 d;refine ⟨t1,t2,?_⟩;rw [m.trees]
 refine fW rfl (gM (fM (thn (he pins s1 σ H1 _ I1 q1) λiv s2 ⟨y,H2,I2,ry,q2⟩ =>
  fM (thn (hf pins s2 σ H2 _ I2 q2) λfv s3 ⟨z,H3,I3,rz,kvs,k,ea,ey,hl,q3,q4⟩=>nA ?_))))
 subst ey;exact Fb I3 ea ry rz hl (λv w s4 l I4 rw'=>⟨v,H3,I4,rw',q3 v l⟩) λl s4 I4=>⟨z,_,I4,rz,q4 l⟩
def sG {x:Str}:∀ {ks:List Str} {vs:List V} {j:Nat},ks.length = vs.length->ks.Nodup->ks[j]? = some x->hZ (zk ks vs) (.inr x) = vs[j]?
 | [],_,_,_,_,h=>nomatch h
 | k::ks,[],_,l,_,_=>nomatch l
 | k::ks,v::vs,0,_,_,h=>by
   cases h
   exact kq rfl
 | k::ks,v::vs,j+1,l,nd,h=>by
   have h:ks[j]? = some x:=h;obtain ⟨n1,n2⟩:=da.mp nd;exact (jj (qh λe=>n1 (by rw [e];exact cU h))).trans (sG (cO l) n2 h)
def lR {x:Str}:∀ {ks:List Str} {vs:List V},x∉ks->hZ (zk ks vs) (.inr x) = none
 | [],_,_=>by unfold zk;rfl
 | _::_,[],_=>by unfold zk;rfl
 | k::ks,v::vs,h=>(jj (qh λe=>h (by rw [e];exact av))).trans (lR λz=>h (ai _ z))
section
variable {X:Cx} {c:Ck} {cx:Cl} {k:Nat} {i:Nat}
def KC (C:Cok X c cx k) {ek ev:E} {x:Str} {y z:aI} {p0 p2 lp ap cp ap2 cp2:Pos} (hx:eW c i x = true) (hl:ap.endLine = cp.line) (hl2:ap2.endLine = cp2.line) (hy:ckE c ek y = true) (hz:ckE c ev z = true) (nk:(!bE ek) = true) (n:(!bE ev) = true) :
 PS X (.Expr (.Call (.Attribute (.Call (.Attribute (.Name x p0) "setdefault" ap) [y,.List [] lp] [] cp) "append" ap2) [z] [] cp2) p2) (tW X.K i (IL cx ek ev)):=by
 obtain ⟨n1,n2,n3,n4⟩:=C.name hx;have hs:=bO (bP hz) [] X.env;have hA:PA X [z] (tEs X.K cx (.cons ev .nil)):=lU (by simp [npS]) (cB ev X c _ C hz) oo hs;have m:M2 X (.Name x p0) "setdefault" ap y (.List [] lp) cp:=⟨rfl,by rw [bO (bP hy)];rfl,by simpa using hl,by rw [bO (bP hy)];rfl⟩;refine PS.imp (sZ (DS PySem.F.plainAttrs_list PySem.F.slot_list_append PySem.F.type_list_append mT (AF (ij n1 n2 n3 n4) (cB ek X c _ C hy) (xF jC) m) hA rfl (OE hz) (by simpa using hl2) hs rfl)) λE σ H ⟨G,F,δ,ks,dss,a,qs,o,ok,dw,es,ev',post⟩=>?_;obtain ⟨⟨d1,δ1⟩,e1,va⟩:=ae.mp ev';clear ev';obtain ⟨w,e2,vb⟩:=ae.mp va;clear va;have e2:strOf d1 = some w:=e2;have e4:d1 = .str w:=by cases d1<;>first | (cases e2;rfl) | cases e2
 clear e2;subst e4;obtain ⟨⟨d,δ2⟩,e3,vc⟩:=ae.mp vb;clear vb;dsimp only at vc e3;split at vc
 . rename_i hb;cases vc;refine ⟨.ref a,es,a,rfl,.inl ⟨_,.inl dw.ha⟩,Gw G a qs,F,δ,.str w,δ1,ok,e1,λv H1 F1 st1 sm1 ok1 r1=>?_⟩;have ev1:=r1.b.str;subst ev1;have dw1:=dw.step ok st1;refine ⟨cA _,λp hp=>?_⟩
   have pa:a≠p:=λz=>by
    have h:=dw1.ha;rw [z,hp] at h;cases h
   have big:(zk ks (qs.map V.ref)).length < sizeLine:=dA (BH _ _) (oa hb.1 ⇑0);have lkq:ks.length = (qs.map V.ref).length:=by rw [aw,dw1.len,dw1.lk]
   refine ⟨zk ks (qs.map V.ref),.inr w,by rw [bh pa];exact dw1.ha,rfl,big,λv hv=>?_,λhv=>?_⟩
   . -- the key is there
     obtain ⟨o1,s1,sm,nF⟩:=ok1.laid hp (.lst []);have dw2:=dw1.step ok1 s1
     have hk:w∈ks:=by
      by_cases h:w∈ks
      . exact h
      . rw [lR h] at hv;cases hv
     obtain ⟨j,ds,g1,g2,g3⟩:=ph (d:=d) dw1.lk hk;rw [sG lkq dw1.nk g1,bj,aL] at hv;obtain ⟨q,g4,rfl⟩:=hv;obtain ⟨f,xs,ex,rx⟩:=dw2.at_ j q ds g4 g2;refine ⟨.inl ⟨rfl,xs,.inl (.inl ex)⟩,Gw G a qs,F1,δ1,[d],δ2,o1,by simp [eh,e3],λvs H2 F2 st2 sm2 ok2 r2=>?_⟩;obtain ⟨d',ds',u,vs',ed,rfl,rv,rn⟩:=r2;cases ed;obtain ⟨_,rfl⟩:=rn;have rv':=cW n rv;have dw3:=dw2.step o1 st2;obtain ⟨f3,xs3,ex3,rx3⟩:=dw3.at_ j q ds g4 g2
     have len3:xs3.length < sizeLine:=by
      rw [rx3.length];have:=aW.mp hb.2 ds (cU g2);exact oa (of_decide_eq_true this) ⇑0
     obtain ⟨o4,dw4,s4⟩:=dw3.poke ok2 g4 (aK.append rx3 (aK.one rv'));rw [g3] at post;exact ⟨q,xs3,u,rfl,rfl,ex3,len3,post σ _ F2 qs ((((st1.trans s1).trans st2).sub mX).trans s4) o4 dw4 es⟩
   . -- a new key
     have hk:w∉ks:=λh=>by
      obtain ⟨j,g1⟩:=ym.mp h;have hj:j < (qs.map V.ref).length:=by rw [<- lkq];exact (aE.mp g1).1
      rw [sG lkq dw1.nk g1,aB hj] at hv;cases hv
     have eH:putK (zk ks (qs.map V.ref)) (.inr w) (.ref p) = zk (ks++[w]) ((qs++[p]).map V.ref):=by
      rw [DA _ hv,bC];exact yq w _ ks _ lkq
     rw [eH];obtain ⟨F2,o1,dw2,s1⟩:=dw1.grow ok1 hp hk;have g4:(qs++[p])[qs.length]? = some p:=by rw [bD (aA _),iF];rfl
     have g2:(dss++[[]])[qs.length]? = some ([]:List D):=by rw [dw1.len,bD (aA _),iF];rfl
     obtain ⟨f,xs,ex,rx⟩:=dw2.at_ _ p [] g4 g2;refine ⟨.inl ⟨rfl,xs,.inl (.inl ex)⟩,Gw G a (qs++[p]),F2,δ1,[d],δ2,o1,by simp [eh,e3],λvs H2 F3 st2 sm2 ok2 r2=>?_⟩;obtain ⟨d',ds',u,vs',ed,rfl,rv,rn⟩:=r2;cases ed;obtain ⟨_,rfl⟩:=rn;have rv':=cW n rv;have dw3:=dw2.step o1 st2;obtain ⟨f3,xs3,ex3,rx3⟩:=dw3.at_ _ p [] g4 g2
     have e0:xs3 = []:=by
      unfold aK at rx3;exact rx3
     subst e0;obtain ⟨o4,dw4,s4⟩:=dw3.poke ok2 g4 (es:=[d]) (ys:=[u]) (aK.one rv');rw [uL dw1.lk hk] at post
     have edss:(dss++[[]]).set qs.length [d] = dss++[[d]]:=by
      rw [dw1.len,gC _ _ (aA _),iF];rfl
     rw [edss] at dw4;exact ⟨p,[],u,rfl,rfl,ex3,by show 0 < sizeLine;decide,post σ _ F3 (qs++[p]) (((st1.sub mX).trans s1).trans ((st2.sub mX).trans s4)) o4 dw4 es⟩
 . cases vc
end
section
variable {X:Cx} {c:Ck} {cx:Cl} {k:Nat} {i:Nat}
def GY (C:Cok X c cx k) {j:Nat} {src:It} {ek ev:E} {t:Str} {p:Pos} {it:aI} {ys:List bw} {pos:Pos} (h:dZ c j t = true) (hI:ckI c src (.Name t p) it = true) (hb:PSs X ys (NA (tW X.K i (IL cx ek ev)) Jc)) :
 PS X (.For (.Name t p) it ys [] pos) (tS X.K (evS cx (.opq (wlF i j src ek ev)))):=by
 obtain ⟨n1,n2,n3⟩:=C.to h;have hp:lh (model X.prog X.w) X.A X.env X.xe:=by rw [C.xe];exact jt
 refine PS.imp (DF hp C.calm (He src X c _ _ C hI) (tj C.nd' n1 n2 n3) hb λv=>oV hI _ v) λE σ H ⟨G,F,δ,o,ok,eo,post⟩=>?_;have eo:wlF i j src ek ev cx δ = some o:=eo;unfold wlF at eo;split at eo
 . rename_i hd;obtain ⟨⟨ds,δ1⟩,e1,ea⟩:=ae.mp eo;obtain ⟨⟨δ2,ks2,dss2⟩,e2,eb⟩:=ae.mp ea;clear eo ea;cases eb;dsimp only at e2;obtain ⟨a,es,ok0,dw0⟩:=ok.reserveW hd;refine ⟨_,F,_,ds,δ1,ok0,e1,λJ H1 F1 st sm ok1 wk=>?_⟩;refine ⟨λn m σ' H'=>∃ F' δ' ks' dss' qs',m = ds.length - n/\n<=ds.length/\Step G F1 H1 F' H'/\Ok X.K (Gw G a qs') F' σ' H' δ'/\Dw X.K G F' H' ks' dss' a qs'/\σ'[i]? = some (some (.ref a))/\AX (lS cx i j ek ev) (ds.drop n) δ' ks' dss' = some (δ2,ks2,dss2),⟨_,F1,δ1,[],[],[],rfl,cA _,Step.refl,ok1,dw0.step ok0 st,es,e2⟩,?_⟩;rintro n m σ' H' ⟨F',δ',ks',dss',qs',rfl,hn,st',ok',dw',es',ev'⟩;by_cases hlt:n < ds.length
   . right;obtain ⟨d,hd⟩:∃ d,ds[n]? = some d:=⟨ds[n],by simp [hlt]⟩;obtain ⟨go,yl⟩:=(wk G F' H' st' ok'.fd n).1 d hd
     have edr:ds.drop n = d::ds.drop (n+1):=by
      rw [jf hlt];congr 1;rw [aB hlt] at hd;exact bY hd
     rw [edr] at ev';obtain ⟨⟨δ3,ks3,dss3⟩,ef,eg⟩:=ae.mp ev';dsimp only at eg;unfold lS at ef;split at ef
     . rename_i hj;refine ⟨go,λσ2 H2=>∃ F2 qs2,Step G F1 H1 F2 H2/\Ok X.K (Gw G a qs2) F2 σ2 H2 δ3/\Dw X.K G F2 H2 ks3 dss3 a qs2/\σ2[i]? = some (some (.ref a)),λσ2 H2 ⟨F2,qs2,z1,z2,z3,z4⟩=>⟨ds.length - (n+1),by omega,F2,δ3,ks3,dss3,qs2,rfl,hlt,z1,z2,z3,z4,eg⟩,λx H3 hy=>?_⟩;obtain ⟨sm3,rx⟩:=yl x H3 hy;have stS:Step (Gw G a qs') F' H' F' H3:=Step.of_same sm3;have ok3:=ok'.same' sm3;refine ⟨G,F',δ'.set j (.val d),ks',dss',a,qs',(δ3,ks3,dss3),ok3.set hj.2 rx,dw'.step ok' stS,?_,ef,λσ4 H4 F4 qs4 s4 k4 l4 e4=>⟨F4,qs4,(st'.trans (stS.sub mX)).trans s4,k4,l4,e4⟩⟩;rw [aO hj.1];exact es'
     . cases ef
   . left;have hi':n = ds.length:=by omega
     subst hi';refine ⟨(wk G F' H' st' ok'.fd ds.length).2 rfl,?_⟩;rw [pd] at ev';cases ev'
     have stL:Step G F' H' (λb=>F' b/\¬ (b = a\/b∈qs')) H':=⟨λb o _ e _=>e,λb z=>.inl z.1,λb o r f e=>⟨⟨f,λw=>by
      rcases w with w | w
      . exact dw'.fa.2 (w▸r)
      . exact (dw'.mem w).1.2 r⟩,e⟩,λb ps e=>⟨ps,e⟩⟩
     exact post σ' H' _ (((st.sub mX).trans st').trans stL) (ok'.lendW dw' es')
 . cases eo
def rwF (n:Int) (i:Nat) (a b c d:E) (cx:Cl) (δ:Loc):Option Out :=
 (evE cx a δ).bind λp=>(strOf p.1).bind λx=>(evE cx b p.2).bind λq=>(evE cx c q.2).bind λr=>(strOf r.1).bind λz=>(evE cx d r.2).bind λt =>
   match t.2[i]? with
   | some (.val (.dct ks ds))=>some (.rt (.tup [.int n,.dct (dG [x] [q.1] z t.1).1 (dG [x] [q.1] z t.1).2,.dct ks ds]) t.2)
   | _=>none
def vf {d:D} {x:Str} (h:strOf d = some x):d = .str x:=by
 cases d<;>first | (cases h;rfl) | cases h
def GZ (C:Cok X c cx k) {n:Int} {a b cc d:E} {x:Str} {y1 y2 y3 y4:aI} {kn:Nat} {np dp tp pos p1:Pos} {tn} (hx:eW c i x = true) (h1:ckE c a y1 = true) (h2:ckE c b y2 = true) (h3:ckE c cc y3 = true) (h4:ckE c d y4 = true) (nb:(!bE b) = true) (nd:(!bE d) = true) :
 PS X (.Return (some (.Tuple [.Constant (.int n) kn np,.Dict [some y1,some y3] [y2,y4] dp,.Name x p1] tn tp)) pos) (tS X.K (evS cx (.opq (rwF n i a b cc d)))):=by
 obtain ⟨n1,n2,n3,n4⟩:=C.name hx;refine PS.imp (xC (xE (fb DM (fb (HG (vw (cB a X c _ C h1) (cB b X c _ C h2) (vw (cB cc X c _ C h3) (cB d X c _ C h4) Hz)) rfl rfl ↥0 (by show 2<=15;decide)) (fb (ij n1 n2 n3 n4) jC))))) λE σ H ⟨G,F,δ,o,ok,eo,post⟩=>?_;have eo:rwF n i a b cc d cx δ = some o:=eo;unfold rwF at eo;obtain ⟨⟨dx,δ1⟩,e1,ea⟩:=ae.mp eo;obtain ⟨u,e2,eb⟩:=ae.mp ea;obtain rfl:=vf e2;obtain ⟨⟨db,δ2⟩,e3,ec⟩:=ae.mp eb;obtain ⟨⟨dz,δ3⟩,e4,ed⟩:=ae.mp ec;obtain ⟨z,e5,ee⟩:=ae.mp ed;obtain rfl:=vf e5;obtain ⟨⟨dd,δ4⟩,e6,eg⟩:=ae.mp ee;clear eo ea eb ec ed ee e2 e5;dsimp only at e3 e4 e6 eg;split at eg
 . rename_i ks ds hsl;cases eg;intro p hp;obtain ⟨o0,s0⟩:=ok.enterO hp (u:=.dK []) trivial;have fp:=ok.free hp;refine ⟨_,_,δ,_,δ1,o0,e1,λv1 H1 F1 st1 _ ok1 r1=>⟨_,_,δ1,_,δ2,ok1,e3,λv2 H2 F2 st2 _ ok2 r2=>⟨_,_,δ2,_,δ3,ok2,e4,λv3 H3 F3 st3 _ ok3 r3=>⟨_,_,δ3,_,δ4,ok3,e6,λv4 H4 F4 st4 _ ok4 r4=>?_⟩⟩⟩⟩;have q1:=r1.b.str;have q3:=r3.b.str;subst q1 q3;have st:=((st1.trans st2).trans st3).trans st4;have hP:H4 p = some (.dK []):=(st.res p _ (.inr rfl) (.inr rfl) bL).2;have rb:=Rel.step ok2.fd (st3.trans st4) _ _ (cW nb r2);have rd:=cW nd r4;obtain ⟨us,f1,f2,f3,f4⟩:=zF (x:=z) rd (ks:=[u]) (ds:=[db]) (vs:=[v2]) ↥0 rfl (aK.one rb);refine ⟨hP,[(.inr u,v2),(.inr z,v4)],rfl,by show 2<=15;decide,?_⟩;have em:mU [] [((.inr u:Key),v2),(.inr z,v4)] = zk (dG [u] [db] z dd).1 us:=f1;rw [em];have ok5:=ok4.pokeO (u:=.dK (zk (dG [u] [db] z dd).1 us)) fp hP trivial trivial;have st5:Step G F4 H4 F4 (upd H4 p (.dK (zk (dG [u] [db] z dd).1 us))):=Step.poke (ok4.rf p (.inr rfl)) fp.2 hP trivial;have ok6:=ok5.leave fp;have hs:∀ b,(F4 b/\b≠p)->F4 b:=λb z=>z.1;have st6:Step G F4 (upd H4 p (.dK (zk (dG [u] [db] z dd).1 us))) (λb=>F4 b/\b≠p) (upd H4 p (.dK (zk (dG [u] [db] z dd).1 us))):=⟨λb o _ e _=>e,λb z=>.inl z.1,λb o r f e=>⟨⟨f,λw=>fp.2 (w▸r)⟩,e⟩,λb ps e=>⟨ps,e⟩⟩
   have rD:Rel X.K (upd H4 p (.dK (zk (dG [u] [db] z dd).1 us))) (λb=>F4 b/\b≠p) (.dct (dG [u] [db] z dd).1 (dG [u] [db] z dd).2) (.ref p):=by
    unfold Rel;exact ⟨p,us,rfl,.inl bL,λw=>w.2 rfl,f2,f3,aK.less ok5.fd hs (aK.step ok4.fd st5 _ _ f4)⟩
   obtain ⟨w,ew,rw'⟩:=ok6.sl i _ hsl;refine ⟨w,ew,by show 3<=sizeLine;decide,λt ht=>?_⟩;obtain ⟨l1,l2,_,_⟩:=ok6.laid ht (.tup [.int n,.ref p,w]);exact post _ σ _ _ (((s0.trans (st.sub λb z=>.inl z)).trans st5).trans (st6.trans l2)) l1 (ig ok6 ht (aK.cons (cw n) (aK.cons rD (aK.one rw'))))
 . cases eg
end
class Xs where
 xs:List (Nat × Nat)
variable [Xs]
def FX (X:Cx) (cf:List (Str × List Str)) (cx:Cl) (k:Nat):Prop:=(X.ex = []/\X.stack = X.env::X.outer/\X.env.frame = some X.env.locals)/\∀ (f g:Nat) (x:Str) (ps:List Str),(f,g)∈Xs.xs->cf[f]? = some (x,ps)->∃ a fd,X.mg x = some (.ref a)/\PySem.W.keepIn X.K (.ref a) = true/\Binds X.K fd ps []/\gh X.prog X.w X.K X.mg X.base (CXE X.prog X.w) k a fd ps (spX X.K X.mg (cx.call g))
def nB (rs:Rs):Ss:=.cons (.opq λcx δ=>match fH cx rs δ with
 | some (.inr (c,δ1))=>some (.rt (.str c) δ1)
 | _=>none) .nil
structure Dn (K:PySem.W.Frag) (mgv:Str->Option ag) (cf:List (Str × List Str)) (gn:List Str) (fd:Fd) (st:bw) (a:au) (fdd:dQ):Prop where
 fn:Fun K fd.name fd.name st a fdd
 mg:mgv fd.name = some (.ref a)
 sc:kW (fd.ps++fd.loc) fd.ps (aY st)
 ck:qL ⟨fd.ps++fd.loc,aY st,cf,gn⟩ fd.body (cT st) = true\/∀ (X:Cx) (cx:Cl) (k:Nat),Cok X ⟨fd.ps++fd.loc,aY st,cf,gn⟩ cx k->X.env.scope = aY st->X.env.blockKind = .function->X.K = K->X.mg = mgv->FX X cf cx k->PSs X (cT st) (tS K (cY cx fd.body))
 bd:Binds K fdd fd.ps []
def zN (K:PySem.W.Frag) (mg:Str->Option ag) (cf:List (Str × List Str)) (gn:List Str):List Fd->Prop
 | []=>True
 | fd::r=>(∃ st a fdd,Dn K mg cf gn fd st a fdd)/\zN K mg cf gn r
def nq {K:PySem.W.Frag} {mg:Str->Option ag} {cf:List (Str × List Str)} {gn:List Str}:∀ {G:List Fd} {i:Nat} {fd:Fd},zN K mg cf gn G->G[i]? = some fd->∃ st a fdd,Dn K mg cf gn fd st a fdd
 | [],_,_,_,e=>by simp at e
 | f::r,0,fd,h,e=>by
   cases e
   exact h.1
 | f::r,i+1,fd,h,e=>nq (i:=i) h.2 (by simpa using e)
def cfOf (G:List Fd):List (Str × List Str):=G.map λfd=>(fd.name,fd.ps)
structure Top (w:bB) (K:PySem.W.Frag) (mg:Str->Option ag) (G Gd:List Fd) (gl:List D) (gn:List Str):Prop where
 fns:zN K mg (cfOf Gd) gn Gd
 sub:∀ (i:Nat) (fd:Fd),Gd[i]? = some fd->G[i]? = some fd
 xw:∀ i g,(i,g)∈Xs.xs->∃ fd st a fdd,Gd[i]? = some fd/\Dn K mg (cfOf Gd) gn fd st a fdd/\∃ rs cls,G[g]? = some ⟨fd.name,fd.ps,fd.loc,nB rs,false⟩/\nY cls Xs.xs ⟨fd.ps++fd.loc,aY st,cfOf Gd,gn⟩ rs (cT st) = true/\∀ n,n∈cls->∃ C,mg n = some (.ref C)/\VE K C = true
 few:G.length<=tm
 blt:∀ x,x∈jq->mg x = none
 glob:∀ (g:Nat) (x:Str) (d:D),gn[g]? = some x->gl[g]? = some d->∃ u v,mg x = some u/\RelV v u/\∀ H F,Rel K H F d v
 gsome:∀ (g:Nat) (x:Str),gn[g]? = some x->∃ d,gl[g]? = some d
 gds:∀ (n:Str) (l:List (Str × Int)),Tbs.gds.lookup n = some l->∃ a,mg n = some (.ref a)/\GdK w K a l
 dfs:∀ f∈Tbs.dfs,∃ fd st a fdd,Gd[f]? = some fd/\Dn K mg (cfOf Gd) gn fd st a fdd/\Binds K fdd fd.ps [.none]
def pF {K:PySem.W.Frag} {H:Hp} {F:au->Prop} {ds:List D} {vs:List V} {N:List Str} (fd:FD F H) (tf:TF F) (tb:kZ H) (r:aK K H F ds vs) (hl:vs.length<=N.length):Ok K ⟨H,λb=>F b/\∃ o,H b = some o/\Mo o⟩ F (start N vs) H (init N.length ds):=by
 have hlen:=r.length
 have low:∀ (i:Nat) (s:Sl),(init N.length ds)[i]? = some s->s = .no\/∃ d,ds[i]? = some d/\s = .val d:=λi s e=>by
  unfold init at e;by_cases hi:i < ds.length
  . rw [bI (by simpa using hi),bj,aB hi] at e;cases e;exact .inr ⟨_,aB hi,rfl⟩
  . rw [bD (by simp;omega),fV] at e;split at e
    . cases e;exact .inl rfl
    . cases e
 refine ⟨Sim.refl H,fd,λb z=>z.1,λb z=>z.2,tf,tb,?_,λi s e=>?_,λi j s t a e1 _ o1=>?_⟩
 . unfold init L2.start;simp only [ay,aw,gE];omega
 . rcases low i s e with rfl | ⟨d,e1,rfl⟩
   . trivial
   . obtain ⟨v,hv,rv⟩:=r.get e1;refine ⟨v,?_,rv⟩;unfold L2.start;have hi:i < vs.length:=(aE.mp hv).1;rw [bI (by simpa using hi),bj,hv];rfl
 . rcases low i _ e1 with z | ⟨d,_,z⟩<;>(subst z;cases o1)
def BL (rs:Rs) (np n:Nat) (cx:Cl) (ds:List D):Option D:=if ds.length = np then (match fH cx rs (init n ds) with
 | some (.inr (c,_))=>some (.str c)
 | _=>none) else none
def okX {P:aR} {w:bB} {K:PySem.W.Frag} {mg:Str->Option ag} {base:bH} {x qual:Str} {st:bw} {f:au} {fd:dQ} {N ps:List Str} {n:Nat} {cls:List Str} {xs:List (Nat × Nat)} {cf:List (Str × List Str)} {gn:List Str} {cx:Cl} {rs:Rs} (F:Fun K x qual st f fd) (S:kW N ps (aY st)) (hps:ps.length<=N.length)
 (C:∀ (A:bo) (outer:List Env) (s:aj) (H:Hp) (E:XK),ke n (A.deeper (envOfC qual (aY st) s.heap.objs.size f fd.code))->Cok (kD (CXE P w) P w K mg base N qual (aY st) f fd.code A outer s H E).nox ⟨N,aY st,cf,gn⟩ cx n)
 (fx:∀ (f g:Nat) (x:Str) (ps:List Str),(f,g)∈xs->cf[f]? = some (x,ps)->∃ a fd,mg x = some (.ref a)/\PySem.W.keepIn K (.ref a) = true/\Binds K fd ps []/\gh P w K mg base (CXE P w) n a fd ps (spX K mg (cx.call g)))
 (hcl:∀ n,n∈cls->∃ C,mg n = some (.ref C)/\VE K C = true)
 (ck:nY cls xs ⟨N,aY st,cf,gn⟩ rs (cT st) = true):gh P w K mg base (CXE P w) (n+1) f fd ps (spX K mg (BL rs ps.length N.length cx)):=by
 obtain ⟨oc,od,dV,kV,doc,pm,an,cdv,ct,osl,rfl,lk,hcd⟩:=F.ex;refine Jt lk hcd S (λvs H Q E h=>?_) λA outer s H vs Q E hr hsp=>?_
 . obtain ⟨F,ds,c,u,_,_,_,r,e,_⟩:=h;unfold BL at e;split at e
   . rename_i hl;rw [r.length];exact hl
   . cases e
 . obtain ⟨F,ds,c,u,hfd,htf,tb,r,e,hm,q⟩:=hsp;unfold BL at e;split at e
   . rename_i hl
     have hblk:(kD (CXE P w) P w K mg base N qual (aY st) f cdv A outer s H E).env.blockKind = .function:=by
      unfold Env.blockKind;show (if (aY st).kind.isAnnotationScope then wL else (aY st).kind) = _;rw [S.kind];rfl
     refine ⟨_,pI (W:=λ_=>E) (C A outer s H E hr) rfl hblk Ji (λ_=>NP) (λ_=>PassesOwn.leaving) fx hcl rs _ ck,?_⟩
     cases ev:fH cx rs (init N.length ds) with
     | none=>rw [ev] at e;cases e
     | some o =>
       rw [ev] at e
       cases o with
       | inl o=>cases e
       | inr p =>
         obtain ⟨c',δ'⟩:=p;cases e;exact ⟨_,F,_,_,pF hfd htf tb r (by rw [r.length,hl];exact hps),ev,λσ' H' F' st ok'=>⟨u,hm,q H' ok'.same ok'.tabs⟩⟩
   . cases e
def grow {K:PySem.W.Frag} {H H':Hp} {F F':au->Prop} {σ:L2.St} {δ:Loc} (hfd:FD F H) (ok:Ok K ⟨H,λb=>F b/\∃ o,H b = some o/\Mo o⟩ F' σ H' δ) (b:au) (z:F b):F' b:=by
 obtain ⟨o,e,m | ⟨⟨ps,rfl⟩,t,ht,eb⟩⟩:=hfd b z
 . exact ok.rf b ⟨z,o,e,m⟩
 . rw [<- eb];exact ok.tf t ht
def okC {P:aR} {w:bB} {K:PySem.W.Frag} {mg:Str->Option ag} {base:bH} {x qual:Str} {st:bw} {f:au} {fd:dQ} {N ps:List Str} {k:Nat} {sp:Sp} (F:Fun K x qual st f fd) (S:kW N ps (aY st)) (len:∀ vs H Q E,sp vs H Q E->vs.length = ps.length)
 (hbody:∀ (A:bo) (outer:List Env) (s:aj) (H:Hp) (vs:List V) (Q:VK) (E:XK),ke k (A.deeper (envOfC qual (aY st) s.heap.objs.size f fd.code))->sp vs H Q E ->
   ∃ t,PSs (kD CX0 P w K mg base N qual (aY st) f fd.code A outer s H E).nox (cT st) t/\t { nx:=λ_ H'=>Q .non H',rt:=Q } (L2.start N vs) H):gh P w K mg base CX0 (k+1) f fd ps sp:=by
 obtain ⟨oc,od,dV,kV,doc,pm,an,cdv,ct,osl,rfl,lk,hcd⟩:=F.ex;refine Jt lk hcd S len λA outer s H vs Q E hr hsp=>?_;obtain ⟨t,h,q⟩:=hbody A outer s H vs Q E hr hsp;exact ⟨t,h.nox,q⟩
section
variable {P:aR} {w:bB} {K:PySem.W.Frag} {mg:Str->Option ag} {base:bH} {G Gd:List Fd} {gl:List D} {gn:List Str}
def BM (mg:Str->Option ag) (base:bH):Prop:=∃ bm ob,mg "__builtins__" = some (.ref bm)/\bm≠builtinsNs/\base.get? bm = some ob/\ob.cls = .type "module"/\ob.dict = some builtinsNs/\ob.data = .plain
def sT {n i:Nat} {fd:Fd} (e:G[i]? = some fd) {ds:List D} {d:D} (h:run G gl (n+1) i ds = some d):ds.length = fd.ps.length/\∃ δ,entry fd.hf (fd.ps++fd.loc).length ds = some δ/\outD (cY ⟨run G gl n,gl,hfs G⟩ fd.body δ) = some d:=by
 unfold run at h;rw [e] at h;dsimp only at h;split at h
 . cases q:entry fd.hf (fd.ps++fd.loc).length ds with
   | none=>rw [q] at h;cases h
   | some δ=>rw [q] at h;exact ⟨‹_›,δ,rfl,h⟩
 . cases h
def yT {n i:Nat} {fd:Fd} (few:G.length<=tm) (e:G[i]? = some fd) {ds:List D} {d:D} (h:run G gl (n+1) (i+tm) ds = some d):ds.length = fd.ps.length/\∃ δ,entry fd.hf (fd.ps++fd.loc).length ds = some δ/\Lk (cY ⟨run G gl n,gl,hfs G⟩ fd.body δ) = some d:=by
 unfold run at h;rw [eV (by omega)] at h;dsimp only at h;rw [Nat.add_sub_cancel,e] at h;dsimp only at h;split at h
 . cases q:entry fd.hf (fd.ps++fd.loc).length ds with
   | none=>rw [q] at h;cases h
   | some δ=>rw [q] at h;exact ⟨(‹_/\_›).2,δ,rfl,h⟩
 . cases h
def Nh {G:List Fd} {gl:List D} {n g:Nat} {nm:Str} {ps loc:List Str} {rs:Rs} (e:G[g]? = some ⟨nm,ps,loc,nB rs,false⟩) {ds:List D} {c:Str} (h:run G gl (n+1) g ds = some (.str c)):BL rs ps.length (ps++loc).length ⟨run G gl n,gl,hfs G⟩ ds = some (.str c):=by
 obtain ⟨hl,δ,e1,h2⟩:=sT e h;cases e1;unfold BL;rw [if_pos hl];unfold nB at h2;simp only [cY,evS] at h2
 cases q:fH ⟨run G gl n,gl,hfs G⟩ rs (init (ps++loc).length ds) with
 | none=>rw [q] at h2;cases h2
 | some o =>
   rw [q] at h2
   cases o with
   | inl o=>cases h2
   | inr p=>cases h2;rfl
def Mi {P:aR} {w:bB} {K:PySem.W.Frag} {mg:Str->Option ag} {base:bH} {n:Nat} {a:au} {fd:dQ} {ps:List Str} {f f':List D->Option D} (F:gh P w K mg base (CXE P w) n a fd ps (spX K mg f)) (h:∀ ds c,f' ds = some (.str c)->f ds = some (.str c)):gh P w K mg base (CXE P w) n a fd ps (spX K mg f'):=by
 have im:∀ vs H Q E,spX K mg f' vs H Q E->spX K mg f vs H Q E:=λvs H Q E ⟨F,ds,c,u,a1,a2,a3,a4,e,a5⟩=>⟨F,ds,c,u,a1,a2,a3,a4,h _ _ e,a5⟩;exact ⟨λvs H Q E q=>F.len vs H Q E (im vs H Q E q),λA outer s H args us vs Q E h1 h2 h3 h4 q=>F.run A outer s H args us vs Q E h1 h2 h3 h4 (im vs H Q E q)⟩
def rG {H:Hp} {F:au->Prop} {ds:List D} {vs:List V} (r:aK K H F ds vs) {k:Nat} {cs:List D} (e:ds.getLast? = some (.fn k cs)):False:=by
 rw [uE] at e;obtain ⟨v,_,rv⟩:=r.get e;unfold Rel at rv;exact rv
def vp {n f:Nat} {ds:List D} (z:n = 0):run G gl n f ds = none:=by
 subst z;rfl
def Fv (T:Top w K mg G Gd gl gn) (hK:K.In base) (hB:BM mg base):∀ n:Nat,(∀ (i:Nat) (fd:Fd) (st:bw) (a:au) (fdd:dQ),Gd[i]? = some fd->Dn K mg (cfOf Gd) gn fd st a fdd ->
 gh P w K mg base CX0 n a fdd fd.ps (spF K (run G gl n i))/\gh P w K mg base CX0 n a fdd fd.ps (spO K (run G gl n (i+tm))))/\∀ (i g:Nat) (x:Str) (ps:List Str),(i,g)∈Xs.xs->(cfOf Gd)[i]? = some (x,ps)->∃ a fd,mg x = some (.ref a)/\PySem.W.keepIn K (.ref a) = true/\Binds K fd ps []/\gh P w K mg base (CXE P w) n a fd ps (spX K mg (run G gl n g))
 | 0=>by
   have z:∀ i ds d,run G gl 0 i ds≠some d:=λi ds d h=>by unfold run at h;cases h
   refine ⟨λi fd st a fdd e _=>⟨⟨λvs H Q E h=>?_,λA outer s H args us vs Q E _ _ _ _ h=>?_⟩,⟨λvs H Q E h=>?_,λA outer s H args us vs Q E _ _ _ _ h=>?_⟩⟩,λi g x ps hx hc=>?_⟩
   . obtain ⟨F,ds,d,_,_,_,_,h1,_⟩:=h;exact (z _ _ _ h1).elim
   . obtain ⟨F,ds,d,_,_,_,_,h1,_⟩:=h;exact (z _ _ _ h1).elim
   . obtain ⟨F,ds,d,_,_,_,_,h1,_⟩:=h;exact (z _ _ _ h1).elim
   . obtain ⟨F,ds,d,_,_,_,_,h1,_⟩:=h;exact (z _ _ _ h1).elim
   . obtain ⟨fd,st,a,fdd,eg,Dd,rs,cls,e1,ck,hcl⟩:=T.xw i g hx;have hc':(Gd.map λfd=>(fd.name,fd.ps))[i]? = some (x,ps):=hc;rw [bj,eg] at hc';cases hc';refine ⟨a,fdd,Dd.mg,Dd.fn.kp,Dd.bd,⟨λvs H Q E h=>?_,λA outer s H args us vs Q E _ _ _ _ h=>?_⟩⟩
     . obtain ⟨F,ds,c,u,_,_,_,_,h1,_⟩:=h;exact (z _ _ _ h1).elim
     . obtain ⟨F,ds,c,u,_,_,_,_,h1,_⟩:=h;exact (z _ _ _ h1).elim
 | n+1=>by
   obtain ⟨ih,ix⟩:=Fv T hK hB n
   have fns:∀ (f:Nat) (x:Str) (ps:List Str),(cfOf Gd)[f]? = some (x,ps)->∃ gd st a fdd,gd.name = x/\gd.ps = ps/\Gd[f]? = some gd/\Dn K mg (cfOf Gd) gn gd st a fdd:=λf x ps hf=>by
    have hf':(Gd.map λfd=>(fd.name,fd.ps))[f]? = some (x,ps):=hf;rw [bj,aL] at hf';obtain ⟨gd,eg,ep⟩:=hf';cases ep;obtain ⟨st',a',fdd',D'⟩:=nq T.fns eg;exact ⟨gd,st',a',fdd',rfl,rfl,eg,D'⟩
   have fn1:∀ (f:Nat) (x:Str) (ps:List Str),(cfOf Gd)[f]? = some (x,ps)->∃ a fd,mg x = some (.ref a)/\PySem.W.keepIn K (.ref a) = true/\Binds K fd ps []/\gh P w K mg base CX0 n a fd ps (spF K (run G gl n f)):=λf x ps hf=>by
    obtain ⟨gd,st,a,fdd,rfl,rfl,eg,D'⟩:=fns f x ps hf;exact ⟨a,fdd,D'.mg,D'.fn.kp,D'.bd,(ih f gd st a fdd eg D').1⟩
   have fn3:∀ (f:Nat) (x:Str) (ps:List Str),(cfOf Gd)[f]? = some (x,ps)->∃ a fd,mg x = some (.ref a)/\PySem.W.keepIn K (.ref a) = true/\Binds K fd ps []/\gh P w K mg base CX0 n a fd ps (spO K (run G gl n (f+tm))):=λf x ps hf=>by
    obtain ⟨gd,st,a,fdd,rfl,rfl,eg,D'⟩:=fns f x ps hf;exact ⟨a,fdd,D'.mg,D'.fn.kp,D'.bd,(ih f gd st a fdd eg D').2⟩
   have fnd:∀ (f:Nat) (x:Str) (ps:List Str),(cfOf Gd)[f]? = some (x,ps)->f∈Tbs.dfs->∃ a fd,mg x = some (.ref a)/\PySem.W.keepIn K (.ref a) = true/\Binds K fd ps [.none]/\gh P w K mg base CX0 n a fd ps (spF K (run G gl n f)):=λf x ps hf hd=>by
    obtain ⟨gd,st,a,fdd,eg,D',bd⟩:=T.dfs f hd;have hf':(Gd.map λfd=>(fd.name,fd.ps))[f]? = some (x,ps):=hf;rw [bj,eg] at hf';cases hf';exact ⟨a,fdd,D'.mg,D'.fn.kp,bd,(ih f gd st a fdd eg D').1⟩
   refine ⟨λi fd st a fdd e Dd=>?_,λi g x ps hx hc=>?_⟩
   . have eG:=T.sub i fd e
     have C:∀ (A:bo) (outer:List Env) (s:aj) (H:Hp) (E:XK),ke n (A.deeper (envOfC fd.name (aY st) s.heap.objs.size a fdd.code)) ->
      Cok (kD CX0 P w K mg base (fd.ps++fd.loc) fd.name (aY st) a fdd.code A outer s H E).nox ⟨fd.ps++fd.loc,aY st,cfOf Gd,gn⟩ ⟨run G gl n,gl,hfs G⟩ n:=λA outer s H E hr =>
      ⟨rfl,Dd.sc.nd,λx hx=>hx,λx hx=>hx,λx hx=>⟨hx,.inl rfl⟩,λx hx=>hx,rfl,rfl,hr,fn1,fn3,fnd,T.blt,T.glob,T.gsome,T.gds,λz f ds=>vp z⟩
     have B:∀ (A:bo) (outer:List Env) (s:aj) (H:Hp) (E:XK),ke n (A.deeper (envOfC fd.name (aY st) s.heap.objs.size a fdd.code)) ->
      PSs (kD CX0 P w K mg base (fd.ps++fd.loc) fd.name (aY st) a fdd.code A outer s H E).nox (cT st) (tS K (cY ⟨run G gl n,gl,hfs G⟩ fd.body)):=λA outer s H E hr=>by
      have hblk:(kD CX0 P w K mg base (fd.ps++fd.loc) fd.name (aY st) a fdd.code A outer s H E).nox.env.blockKind = .function:=by
       unfold Env.blockKind;show (if (aY st).kind.isAnnotationScope then wL else (aY st).kind) = _;rw [Dd.sc.kind];rfl
      rcases Dd.ck with ck | oq
      . exact pG (cx:=⟨run G gl n,gl,hfs G⟩) (C A outer s H E hr) rfl hblk fd.body (cT st) ck
      . exact oq _ _ n (C A outer s H E hr) rfl hblk rfl rfl ⟨⟨rfl,rfl,rfl⟩,ix⟩
     have fin:∀ {F:au->Prop} {H:Hp} {σ:L2.St} {δ:Loc} {d:D} {Q:VK} {E:XK} (hfd:FD F H) (htf:TF F) (ok:Ok K ⟨H,λb=>F b/\∃ o,H b = some o/\Mo o⟩ F σ H δ) (h2:outD (cY ⟨run G gl n,gl,hfs G⟩ fd.body δ) = some d) (q:∀ v H',Sim H H'->kZ H'->Rel K H' F d v->Q v H'),
      tS K (cY ⟨run G gl n,gl,hfs G⟩ fd.body) { nx:=λ_ H'=>Q .non H',rt:=Q } σ H:=λ{F H σ δ d Q E} hfd htf ok h2 q=>by
      cases eo:cY ⟨run G gl n,gl,hfs G⟩ fd.body δ with
      | none=>rw [eo] at h2;cases h2
      | some o =>
        rw [eo] at h2;refine ⟨⟨H,λb=>F b/\∃ o,H b = some o/\Mo o⟩,F,_,o,ok,eo,?_⟩
        cases o with
        | nx δ =>
          cases h2
          exact λσ' H' F' st' ok'=>q .non H' ok'.same ok'.tabs yI
        | rt d' δ =>
          cases h2;refine λv σ' H' F' st' ok' r'=>q v H' ok'.same ok'.tabs (Rel.step (G:=g0) ok'.fd ⟨λ_ _ _ e _=>e,λb z=>?_,λ_ _ r _ _=>r.elim,λ_ ps e=>⟨ps,e⟩⟩ _ v r')
          exact .inl (grow hfd ok' b z)
        | ro ds' δ =>
          cases h2;refine λa xs σ' H' F' st' ok' f1 f2 hs r'=>q _ H' ok'.same ok'.tabs ?_;exact RelO.rel ok'.fd (grow hfd ok') (vD hfd f2.1) hs r'
     have fiO:∀ {F:au->Prop} {H:Hp} {σ:L2.St} {δ:Loc} {zs:D} {Q:VK} (hfd:FD F H) (htf:TF F) (ok:Ok K ⟨H,λb=>F b/\∃ o,H b = some o/\Mo o⟩ F σ H δ) (h2:Lk (cY ⟨run G gl n,gl,hfs G⟩ fd.body δ) = some zs) (q:∀ a u H',Sim H H'->kZ H'->H a = none->H' a = some u->RelO K H' (λb=>F b\/b = a) zs u->Q (.ref a) H'),
      tS K (cY ⟨run G gl n,gl,hfs G⟩ fd.body) { nx:=λ_ H'=>Q .non H',rt:=Q } σ H:=λ{F H σ δ zs Q} hfd htf ok h2 q=>by
      cases eo:cY ⟨run G gl n,gl,hfs G⟩ fd.body δ with
      | none=>rw [eo] at h2;cases h2
      | some o =>
        rw [eo] at h2;refine ⟨⟨H,λb=>F b/\∃ o,H b = some o/\Mo o⟩,F,_,o,ok,eo,?_⟩
        cases o with
        | ro ds' δ =>
          cases h2;refine λa xs σ' H' F' st' ok' f1 f2 hs r'=>q a xs H' ok'.same ok'.tabs f2.1 hs ?_
          have gr:∀ b,(F b\/b = a)->F' b:=λb z=>by
           rcases z with z | z
           . exact grow hfd ok' b z
           . rw [z];exact f1
          exact RelO.step (G:=g0) ok'.fd ⟨λ_ _ _ e _=>e,λb z=>.inl (gr b z),λ_ _ r _ _=>r.elim,λ_ ps e=>⟨ps,e⟩⟩ r'
        | _=>cases h2
     refine ⟨okC Dd.fn Dd.sc (λvs H Q E h=>?_) λA outer s H vs Q E hr h=>?_,okC Dd.fn Dd.sc (λvs H Q E h=>?_) λA outer s H vs Q E hr h=>?_⟩
     . obtain ⟨F,ds,d,_,_,_,r,h1,_⟩:=h;rw [r.length,(sT eG h1).1]
     . obtain ⟨F,ds,d,hfd,htf,htb,r,h1,q⟩:=h;obtain ⟨hl,δ,ed,h2⟩:=sT eG h1;have hlen:=r.length;refine ⟨_,B A outer s H E hr,?_⟩;unfold entry at ed;split at ed
       . cases ed;exact fin (E:=E) hfd htf (pF hfd htf htb r (by rw [hlen,hl,ay];omega)) h2 q
       . split at ed
         . rename_i eq;exact (rG r eq).elim
         . cases ed
     . obtain ⟨F,ds,zs,_,_,_,r,h1,_⟩:=h;rw [r.length,(yT T.few eG h1).1]
     . obtain ⟨F,ds,zs,hfd,htf,htb,r,h1,q⟩:=h;obtain ⟨hl,δ,ed,h2⟩:=yT T.few eG h1;have hlen:=r.length;refine ⟨_,B A outer s H E hr,?_⟩;unfold entry at ed;split at ed
       . cases ed;exact fiO hfd htf (pF hfd htf htb r (by rw [hlen,hl,ay];omega)) h2 q
       . split at ed
         . rename_i eq;exact (rG r eq).elim
         . cases ed
   . obtain ⟨fd,st,a,fdd,eg,Dd,rs,cls,e1,ck,hcl⟩:=T.xw i g hx;have hc':(Gd.map λfd=>(fd.name,fd.ps))[i]? = some (x,ps):=hc;rw [bj,eg] at hc';cases hc';exact ⟨a,fdd,Dd.mg,Dd.fn.kp,Dd.bd,Mi (okX (cx:=⟨run G gl n,gl,hfs G⟩) Dd.fn Dd.sc (by rw [ay];omega) (λA outer s H E hr=>⟨rfl,Dd.sc.nd,λx hx=>hx,λx hx=>hx,λx hx=>⟨hx,.inl rfl⟩,λx hx=>hx,rfl,rfl,hr,fn1,fn3,fnd,T.blt,T.glob,T.gsome,T.gds,λz f ds=>vp z⟩) ix hcl ck) λds c h=>Nh e1 h⟩
end
end PP
end
section
namespace PP
open PySem L2 PyProof.Rows
variable [Tbs] [Xs]
def hS (a:au) (o:Option HO):Hp:=λb=>if b = a/\o.isSome = true then o else if b∈Tbs.ts.map (·.1) then some (.tbl #[]) else none
def ua (e:hS a o b = some u):(b = a/\o = some u)\/(b∈Tbs.ts.map (·.1)/\u = .tbl #[]):=by
 unfold hS at e;split at e
 . rename_i h;exact .inl ⟨h.1,e⟩
 . split at e
   . cases e;exact .inr ⟨‹_›,rfl⟩
   . cases e
def Ij {P:aR} {w:bB} {K:PySem.W.Frag} {mg mb:Str->Option ag} {fa a:au} {fd:dQ} {x:Str} {f:List D->Option D} {s₁:aj} {vs:List ag} {ns:List Int}
 (KX:K.In s₁.heap) (hns:s₁.heap.Ns mainGlobals mg) (hb:s₁.heap.Ns builtinsNs mb) (hbb:∀ x:Str,x≠"__name__"->mb x = bootBuiltins x) (hlim:s₁.heap.NoLimit) (hg:s₁.gens = #[]) (hbm:BM mg s₁.heap)
 (ha:s₁.heap.get? a = some { cls:=.type "list",data:=.seq vs.toArray }) (hi:FO vs ns) (hl:ns.length<=sizeLine) (hr:ke 200 callerA)
 (ht:∀ t∈Tbs.ts,s₁.heap.get? t.1 = some (PySem.W.tabObj #[])/\K.lookup t.1 = none/\isCodeTable s₁.heap t.1)
 (F:∀ base:bH,K.In base->BM mg base->gh P w K mg base CX0 200 fa fd [x] (spF K f)) (hbind:Binds K fd [x] [])
 (hf:f [.lst (ns.map .int)] = some (.bl true)) :
 codeAny (model P w) callerA (.call (.ref fa) ⟨[.ref a],[]⟩) (λr s'=>r = .ok (.ret (.bool true))/\OldK s₁.heap s'.heap/\s'.os = s₁.os/\km s'.gens) s₁:=by
 have rv:=qY hi;have lenV:=hi.length
 have htm:∀ b,b∈Tbs.ts.map (·.1)->s₁.heap.get? b = some (PySem.W.tabObj #[])/\K.lookup b = none/\isCodeTable s₁.heap b:=λb hb=>by
  obtain ⟨t,h1,h2⟩:=bG.mp hb;rw [<- h2];exact ht t h1
 have aT:a∉Tbs.ts.map (·.1):=λz=>by
  have:=(htm a z).1;rw [ha] at this;cases this
 have core:∀ o:Option HO,(∀ u,o = some u->∃ xs,u = .frz { cls:=.type "list",data:=.seq vs.toArray } (.lst xs))->HOk P w (hS a o) s₁.heap->(o≠none->K.lookup a = none)->Rel K (hS a o) (λb=>b∈Tbs.ts.map (·.1)) (.lst (ns.map .int)) (.ref a) ->
  codeAny (model P w) callerA (.call (.ref fa) ⟨[.ref a],[]⟩) (λr s'=>r = .ok (.ret (.bool true))/\OldK s₁.heap s'.heap/\s'.os = s₁.os/\km s'.gens) s₁:=by
  intro o hO hok hK hR;have base_of:∀ {b:au} {x:Obj},s₁.heap.get? b = some x->hS a o b = none->(qI s₁.heap (hS a o)).get? b = some x:=λe n=>EL e n
  have noA:∀ {b:au} {x:Obj},s₁.heap.get? b = some x->(∀ its n,x.data≠.seq its n)->(∀ vs,x.data≠.fields vs)->hS a o b = none:=λ{b x} e d1 d2=>by
   cases q:hS a o b with
   | none=>rfl
   | some u =>
     rcases ua q with ⟨rfl,_⟩ | ⟨z,_⟩
     . rw [ha] at e;cases e;exact absurd rfl (d1 _ _)
     . rw [(htm b z).1] at e;cases e;exact absurd rfl (d2 _)
  have nsK:∀ {b:au} {m:Str->Option ag},s₁.heap.Ns b m->(qI s₁.heap (hS a o)).Ns b m:=λ{b m} ⟨x,es,ep,e,d,r⟩=>⟨x,es,ep,base_of e (noA e (λ_ _ z=>by rw [d] at z;cases z) λ_ z=>by rw [d] at z;cases z),d,r⟩
  have hKb:K.In (qI s₁.heap (hS a o)):=λb x e=>base_of (KX b x e) (by
   cases q:hS a o b with
   | none=>rfl
   | some u =>
     rcases ua q with ⟨rfl,z⟩ | ⟨z,_⟩
     . rw [hK (by rw [z];simp)] at e;cases e
     . rw [(htm b z).2.1] at e;cases e)
  have hM:Mod K mg (qI s₁.heap (hS a o)):=⟨hKb,nsK hns,⟨mb,nsK hb,hbb⟩,let ⟨mc,h1,h2⟩:=hlim;⟨mc,nsK h1,h2⟩⟩
  have hB:BM mg (qI s₁.heap (hS a o)):=by
   obtain ⟨bm,ob,b1,b2,b3,b4,b5,b6⟩:=hbm;exact ⟨bm,ob,b1,b2,base_of b3 (noA b3 (λ_ _ z=>by rw [b6] at z;cases z) λ_ z=>by rw [b6] at z;cases z),b4,b5,b6⟩
  have e0:IQ P w K mg (qI s₁.heap (hS a o)) callerA [] s₁ (hS a o):=⟨rfl,hM,λb x e=>HZ e,Nat.le_of_eq (AW _ _),trivial,λb hb=>absurd (show b∈([]:List au) from hb) ↥0,hok,.of_eq hg⟩
  have atT:∀ b,b∈Tbs.ts.map (·.1)->hS a o b = some (.tbl #[]):=λb z=>by
   unfold hS;rw [if_neg (λy=>aT (by rw [<- y.1];exact z)),if_pos z]
  have sp:spF K f [.ref a] (hS a o) (λv _=>v = .bl true) E0:=⟨λb=>b∈Tbs.ts.map (·.1),[.lst (ns.map .int)],.bl true,λb z=>by
   obtain ⟨t,h1,h2⟩:=bG.mp z;exact ⟨_,atT b z,.inr ⟨⟨#[],rfl⟩,t,h1,h2⟩⟩,λt h=>bG.mpr ⟨t,h,rfl⟩,λt h=>⟨#[],atT _ (bG.mpr ⟨t,h,rfl⟩),trivial,λpos cv e=>by cases e⟩,aK.one hR,hf,λv H' _ _ r=>by unfold Rel at r;exact r⟩
  refine qO ((F _ hKb hB).run callerA [] s₁ (hS a o) ⟨[.ref a],[]⟩ [.ref a] [.ref a] _ _ hr e0 (hbind s₁ [.ref a] KX rfl) (.cons rfl .nil) sp) λr s' h=>?_
  cases r with
  | error e=>exact bX h
  | ok fl =>
    cases fl with
    | next=>exact bX h
    | brk=>exact bX h
    | cont=>exact bX h
    | ret u =>
      obtain ⟨v,H',os,bare,un,hok',r',q⟩:=h;have q':v = .bl true:=q;subst q';obtain rfl:u = kg true:=r';refine ⟨rfl,⟨λb x e=>?_,λb x e=>un.there b x e ↥0⟩,os,bare⟩
      cases q:hS a o b with
      | none=>exact .inl (un.keep b x e q (by intro z;exact absurd (show b∈([]:List au) from z) ↥0) ↥0)
      | some u =>
        rcases ua q with ⟨_,z⟩ | ⟨z,rfl⟩
        . obtain ⟨xs,rfl⟩:=hO u z;have z2:=un.frzs b _ _ q;obtain ⟨e1,_⟩:=hok b _ q;obtain ⟨e2,_⟩:=hok' b _ z2;rw [e] at e1;cases e1;exact .inl e2
        . obtain ⟨more,y⟩:=un.tbls b _ q;have e2:s'.heap.get? b = some { cls:=.none,data:=.fields (#[]++more) }:=hok' b _ y;have e1:=(htm b z).1;rw [e] at e1;cases e1;exact .inr (.inl ⟨(htm b z).2.2,rfl,#[],more,rfl,e2⟩)
 have rl:∀ (H:Hp) (F:au->Prop) (ms:List Int),aK K H F (ms.map .int) (ms.map V.int):=by
  intro H F ms
  induction ms with
  | nil=>exact aK.nil
  | cons m ms ih=>exact aK.cons (cw m) ih
 have hok1:∀ o:Option HO,(∀ u,o = some u->eR P w (hS a o) s₁.heap a u)->HOk P w (hS a o) s₁.heap:=λo ho b u e=>by
  rcases ua e with ⟨rfl,z⟩ | ⟨z,rfl⟩
  . exact ho u z
  . exact (htm b z).1
 cases hk:K.lookup a with
 | some x =>
   have e:=KX a x hk;rw [ha] at e;cases e;refine core none (λu z=>by cases z) (hok1 none λu z=>by cases z) (λz=>absurd rfl z) ?_;unfold Rel
   exact ⟨a,ns.map V.int,rfl,.inr ⟨vs.toArray,_,hk,by rw [aF,lenV];exact hl,by simpa using rv⟩,rl _ _ ns⟩
 | none =>
   refine core (some (.frz { cls:=.type "list",data:=.seq vs.toArray } (.lst (ns.map V.int)))) (λu z=>⟨_,(bY z).symm⟩) (hok1 _ λu z=>?_) (λ_=>hk) ?_
   . cases z;exact ⟨ha,by rw [aw];exact hl,vs,_,rv,ha⟩
   . unfold Rel;refine ⟨a,ns.map V.int,rfl,.inl ⟨.inr ⟨{ cls:=.type "list",data:=.seq vs.toArray },?_⟩,aT⟩,rl _ _ ns⟩;unfold hS;rw [if_pos ⟨rfl,rfl⟩]
def walk_run {l:PySem.W.OpenLaw} {q:aR} {loose:List Str} {XP:(Str->Option ag)->bH->Prop} {YP:bB->bH->Prop} {d:DefRec} {K:Params->PySem.W.Frag} {G Gd:List Fd} {gl:List D} {gn:List Str} {i:Nat} {fd:Fd} {x:Str}
 (main:∀ ns:List Int,ns.length<=63->run G gl 200 i [.lst (ns.map .int)] = some (.bl true)) (hi:Gd[i]? = some fd) (hp:fd.ps = [x])
 (hn:l.most = some 63) (hdf:d.params.defaults = []) (hY:∀ (w:bB) (h:bH),YP w h->(K w.params).In h/\∀ t∈Tbs.ts,h.get? t.1 = some (PySem.W.tabObj #[]))
 (hnm:fd.name = d.name) (F:∀ (w:bB) (mg:Str->Option ag) (h:bH),(K w.params).In h->h.Ns mainGlobals mg->Top w (K w.params) mg G Gd gl gn/\∀ t∈Tbs.ts,(K w.params).lookup t.1 = none/\∃ c,PySem.W.codeHdIn (K w.params) c t.1 = true) :
 PySem.W.WalkO q loose XP YP l.row.toRowW d [] (λf vs=>PySem.call f vs):=by
 have hr:ke 200 callerA:=⟨rfl,⇑0,⇑0⟩;refine Att.attach_call hn hdf λw s₀ s₁ mg mb fa o pm cd doc a vs ns TT Y ho hd hcd hmg hobj hints hlen hg=>?_;obtain ⟨KX,tabs⟩:=hY w _ Y;obtain ⟨T,tc⟩:=F w mg _ KX TT.T.g;obtain ⟨st,fa',fdd,Dd⟩:=nq T.fns hi
 obtain rfl:fa = fa':=by
  have e:=Dd.mg;rw [hnm,hmg] at e;cases e;rfl
 refine Ij KX TT.T.g TT.T.b TT.T.builtins TT.T.nolimit hg TT.T.bmain hobj hints (bx hlen ⇑0) hr (λt ht=>?_) (λbase hK hB=>?_) (hp▸Dd.bd) (main ns hlen)
 . obtain ⟨h1,c,h2⟩:=tc t ht;exact ⟨tabs t ht,h1,((PySem.W.codeHd_of_K KX h2).tab (tabs t ht)).isCodeTable⟩
 . have:=((Fv (P:=l.prog) (w:=w) (base:=base) T hK hB 200).1 i fd st fa fdd hi Dd).1;rw [hp] at this;exact this
section
def xI (K:PySem.W.Frag) (x:Str):Bool:=match PySem.W.nsIn K mainGlobals x with
 | some none=>true
 | _=>false
def IJ {K:PySem.W.Frag} {h:bH} {mg:Str->Option ag} (X:K.In h) (G:h.Ns mainGlobals mg) (q:jq.all (xI K) = true) (x:Str) (hx:x∈jq):mg x = none:=by
 have h:=aW.mp q x hx;unfold xI at h;split at h
 . exact PySem.W.mg_none_of X G ‹_›
 . cases h
def sub_app {a b:List Fd} (i:Nat) (fd:Fd) (h:a[i]? = some fd):(a++b)[i]? = some fd:=by
 rw [bI (aE.mp h).1];exact h
end
end PP
end
section
namespace PP
open PySem L2
def uK:∀ {ps:List Str} {us:List ag} {x:Str},us.length = ps.length->x∈ps->((ps.zip us).lookup x).isSome = true
 | p::ps,u::us,x,hl,hx=>by
   rw [mI,cQ];split
   . rfl
   . rename_i z;refine uK (cO hl) ((aD.mp hx).resolve_left λe=>?_);rw [e,beq_self_eq_true] at z
     cases z
 | [],_,x,hl,hx=>by cases hx
 | p::ps,[],x,hl,hx=>by cases hl
def uJ:∀ {ps:List Str} {us:List ag},us.length = ps.length->ps.Nodup->(ps.filterMap λn=>((ps.zip us).lookup n).map (n,·)) = ps.zip us
 | [],us,hl,_=>by rfl
 | p::ps,[],hl,_=>by cases hl
 | p::ps,u::us,hl,nd=>by
   rw [da] at nd;have ih:=uJ (cO hl) nd.2;rw [mI,bW,cQ,beq_self_eq_true];dsimp only [Option.map];congr 1
   have h:∀ l:List Str,p∉l->(l.filterMap λn=>((((p,u)::ps.zip us).lookup n).map (n,·))) = l.filterMap λn=>((ps.zip us).lookup n).map (n,·):=λl=>by
    induction l with
    | nil=>intro _;rfl
    | cons n l il =>
      intro hn;rw [aD,not_or] at hn;rw [bW,bW,il hn.2,cQ,show (n == p) = false from beq_eq_false_iff_ne.mpr λe=>hn.1 e.symm]
   exact (h ps nd.1).trans ih
def ifF {α:Type} {c:Prop} [Decidable c] {a b x:α} (h:¬ c) (e:b = x):(if c then a else b) = x:=by rw [if_neg h];exact e
def xZ {fd:dQ} {ps:List Str} {us:List ag} (h1:fd.params.posonlyargs = []) (h2:fd.params.args.map (·.arg) = ps) (h3:fd.params.kwonlyargs = []) (h4:fd.params.vararg = none) (h5:fd.params.kwarg = none) (h6:fd.defaults = .none) (nd:ps.Nodup) (hl:us.length = ps.length):bindArgs fd ⟨us,[]⟩ = pure (ps.zip us):=by
 have hm:((ps.take ps.length).filter λn=>((ps.zip us).lookup n).isNone) = []:=by
  rw [oZ,List.filter_eq_nil_iff];intro x hx;have:=uK hl hx
  cases e:(ps.zip us).lookup x with
  | none=>rw [e] at this;cases this
  | some v=>simp
 cases fd with
 | mk a b p c d e f df g =>
   cases p with
   | mk p1 p2 p3 p4 p5 p6 p7 =>
     cases h1;cases h3;cases h4;cases h5;cases h6;cases h2;have hl:us.length = (p2.map (·.arg)).length:=hl;refine ifF (α:=Sem _) (λz=>?_) ?_
     . have z:(decide (us.length > (p2.map (·.arg)).length) && true) = true:=z;rw [hl,gO,decide_eq_true_eq] at z;exact bV _ z
     generalize hd:List.drop _ _ = dd;obtain rfl:dd = []:=hd.symm.trans List.drop_nil;refine ifF (α:=Sem _) (λz=>Bool.noConfusion ((congrArg (λl:List Str=>!l.isEmpty) hm).symm.trans z)) ?_;generalize hz:List.zip (List.drop _ _) ([]:List ag) = zz;obtain rfl:zz = []:=hz.symm.trans mH;have e:(p2.map Arg.arg++[]).filterMap (λn=>(((p2.map Arg.arg).zip us).lookup n).map (n,·)) = (p2.map Arg.arg).zip us:=by rw [cq];exact uJ hl nd
     exact congrArg (pure:_->Sem _) e
def okD (d:Fd) (a:uG) (s:fh):Bool :=
 a.posonlyargs.isEmpty && (a.kwonlyargs.isEmpty && (a.vararg.isNone && (a.kwarg.isNone && (decide (a.args.map (·.arg) = d.ps) && (decide (s.kind = .function) && ((!s.isCoroutine) && ((!s.isGenerator) && (decide (d.ps++d.loc).Nodup && (d.ps.all (λx=>decide (s.names.lookup x = some .local) || decide (s.names.lookup x = some .cell)) && s.names.all λy=>decide (y.2≠.free))))))))))
def tF {d:Fd} {st:bw} (h:okD d (eQ st) (aY st) = true):kW (d.ps++d.loc) d.ps (aY st):=by
 simp only [okD,aa,cK,decide_eq_true_eq,aW,dJ] at h;obtain ⟨_,_,_,_,_,k,c,g,nd,p,f⟩:=h;exact ⟨k,c,g,nd,List.take_left,p,f⟩
def tH {K:PySem.W.Frag} {d:Fd} {st:bw} {fd:dQ} (e1:fd.params = eQ st) (e2:fd.defaults = .none) (h:okD d (eQ st) (aY st) = true):Binds K fd d.ps []:=by
 simp only [okD,aa,decide_eq_true_eq,List.isEmpty_iff,dC] at h;obtain ⟨h1,h2,h3,h4,h5,_,_,_,nd,_⟩:=h;rw [<- e1] at h1 h2 h3 h4 h5;exact .all λus hl=>xZ h1 h5 h2 h3 h4 e2 (jr.mp nd).1 hl
section
variable [Tbs] [Xs] {K:PySem.W.Frag} {h:bH} {w:bB} {mg:Str->Option ag} {cf:List (Str × List Str)} {gn:List Str} {tp:Nat->bw} {G Gd:List Fd} {gl:List D}
inductive Hds (K:PySem.W.Frag) (mg:Str->Option ag) (cf:List (Str × List Str)) (gn:List Str) (tp:Nat->bw):List Fd->List (String × Nat)->Prop
 | nil:Hds K mg cf gn tp [] []
 | own {d:Fd} {i:String × Nat} {r:List Fd} {is:List (String × Nat)} (e:∃ st a fdd,Dn K mg cf gn d st a fdd) (t:Hds K mg cf gn tp r is):Hds K mg cf gn tp (d::r) (i::is)
 | cons {d:Fd} {x:String} {i:Nat} {f:au} {oc:ag} {od an:Option au} {osl:Array (Option ag)} {kV doc pm cdv ct:ag} {r:List Fd} {is:List (String × Nat)} (a:PySem.W.nsIn K mainGlobals (.ofString x) = some (some (.ref f))) (l:K.lookup f = some ⟨oc,od,.func (PySem.W.fnOf (.ofString x) (.ofString x) (eQ (tp i)) (cT (tp i)) (aY (tp i)) .none kV doc pm an cdv ct),osl⟩)
   (c:PySem.W.codeIn K cdv (.ofString x) = true) (k:PySem.W.keepIn K (.ref f) = true) (z:(decide (d.name = .ofString x) && (okD d (eQ (tp i)) (aY (tp i)) && qL ⟨d.ps++d.loc,aY (tp i),cf,gn⟩ d.body (cT (tp i)))) = true) (t:Hds K mg cf gn tp r is):Hds K mg cf gn tp (d::r) ((x,i)::is)
def IA (X:K.In h) (N:h.Ns mainGlobals mg) {l:List Fd} {is:List (String × Nat)} (H:Hds K mg cf gn tp l is):zN K mg cf gn l:=by
 induction H with
 | nil=>trivial
 | own e t ih=>exact ⟨e,ih⟩
 | cons a l c k z t ih =>
   rw [aa,decide_eq_true_eq,aa] at z;obtain ⟨z0,z1,z2⟩:=z;rw [<- z0] at a l c;have F:=ud l c k;exact ⟨⟨_,_,_,F,PySem.W.mg_of X N a,tF z1,.inl z2,tH rfl rfl z1⟩,ih⟩
mutual
inductive InK (K:PySem.W.Frag):D->ag->Prop
 | str {x:Str} {t:Tok}:InK K (.str x) (.str x t)
 | int {x:Int} {t:Tok}:InK K (.int x) (.int x t)
 | tup {ds:List D} {a:au} {oD:Option au} {oS:Array (Option ag)} {n:Nat} {vs:Array ag} (l:K.lookup a = some ⟨.type "tuple",oD,.seq vs n,oS⟩) (q:InKs K ds vs.toList) (z:vs.size<=99):InK K (.tup ds) (.ref a)
inductive InKs (K:PySem.W.Frag):List D->List ag->Prop
 | nil:InKs K [] []
 | cons {d:D} {v:ag} {ds:List D} {vs:List ag} (e:InK K d v) (t:InKs K ds vs):InKs K (d::ds) (v::vs)
end
mutual
theorem InK.rel:∀ {d:D} {u:ag},InK K d u->∃ v,RelV v u/\∀ H F,Rel K H F d v
 | _,_,.str=>⟨.str _,⟨_,rfl⟩,λH F=>jz _⟩
 | _,_,.int=>⟨.int _,⟨_,rfl⟩,λH F=>cw _⟩
 | _,_,.tup l q z=>by
   obtain ⟨vs,h1,h2⟩:=q.rel;refine ⟨.ref _,rfl,λH F=>?_⟩;unfold Rel;exact ⟨_,vs,rfl,.inr ⟨_,_,_,l,rfl,rfl,bx z ⇑0,h1⟩,h2 H F⟩
theorem InKs.rel:∀ {ds:List D} {us:List ag},InKs K ds us->∃ vs,Vals vs us/\∀ H F,aK K H F ds vs
 | _,_,.nil=>⟨[],.nil,λ_ _=>aK.nil⟩
 | _,_,.cons e t=>by
   obtain ⟨v,h1,h2⟩:=e.rel;obtain ⟨vs,h3,h4⟩:=t.rel;exact ⟨v::vs,.cons h1 h3,λH F=>aK.cons (h2 H F) (h4 H F)⟩
end
inductive Gls (K:PySem.W.Frag):List Str->List D->Prop
 | nil:Gls K [] []
 | cons {x:Str} {d:D} {v:ag} {xs:List Str} {ds:List D} (a:PySem.W.nsIn K mainGlobals x = some (some v)) (e:InK K d v) (t:Gls K xs ds):Gls K (x::xs) (d::ds)
def zu (X:K.In h) (N:h.Ns mainGlobals mg) (H:Gls K gn gl):∀ (g:Nat) (x:Str),gn[g]? = some x->∃ d,gl[g]? = some d/\∃ u v,mg x = some u/\RelV v u/\∀ H F,Rel K H F d v:=by
 induction H with
 | nil=>intro g x e;cases g<;>cases e
 | cons a e t ih =>
   intro g x z
   cases g with
   | zero =>
     cases z;obtain ⟨v,h1,h2⟩:=e.rel
     exact ⟨_,rfl,_,v,PySem.W.mg_of X N a,h1,h2⟩
   | succ g=>exact ih g x z
inductive Clss (K:PySem.W.Frag):List Str->Prop
 | nil:Clss K []
 | cons {x:Str} {C:au} {r:List Str} (a:PySem.W.nsIn K mainGlobals x = some (some (.ref C))) (v:VE K C = true) (t:Clss K r):Clss K (x::r)
def Clss.get (X:K.In h) (N:h.Ns mainGlobals mg) {l:List Str} (H:Clss K l):∀ n,n∈l->∃ C,mg n = some (.ref C)/\VE K C = true:=by
 induction H with
 | nil=>intro n z;cases z
 | cons a v t ih =>
   intro n z;rcases aD.mp z with rfl | z
   . exact ⟨_,PySem.W.mg_of X N a,v⟩
   . exact ih n z
inductive Us (K:PySem.W.Frag) (C:au) (up:List Str):List Str->Prop
 | nil:Us K C up []
 | cons {x:Str} {P:au} {r:List Str} (a:PySem.W.nsIn K mainGlobals x = some (some (.ref P))) (v:(VE K P && subIn K C P == up.contains x) = true) (t:Us K C up r):Us K C up (x::r)
def Us.get (X:K.In h) (N:h.Ns mainGlobals mg) {C:au} {up l:List Str} (H:Us K C up l):∀ n,n∈l->∃ P,mg n = some (.ref P)/\VE K P = true/\subIn K C P = up.contains n:=by
 induction H with
 | nil=>intro n z;cases z
 | cons a v t ih =>
   intro n z;rcases aD.mp z with rfl | z
   . rw [aa] at v;exact ⟨_,PySem.W.mg_of X N a,v.1,eq_of_beq v.2⟩
   . exact ih n z
inductive Ups (K:PySem.W.Frag) (ps:List Str):List (Str × List Str)->Prop
 | nil:Ups K ps []
 | cons {x:Str} {C:au} {up:List Str} {r:List (Str × List Str)} (a:PySem.W.nsIn K mainGlobals x = some (some (.ref C))) (v:(VE K C && sX K C) = true) (u:Us K C up ps) (t:Ups K ps r):Ups K ps ((x,up)::r)
def Ups.get (X:K.In h) (N:h.Ns mainGlobals mg) {ps:List Str} {l:List (Str × List Str)} (H:Ups K ps l):∀ Y:Cx,Y.K = K->Y.mg = mg->∀ n up,l.lookup n = some up->∃ C,Y.mg n = some (.ref C)/\Bq Y ps C up:=λY hK hM=>by
 subst hK hM
 induction H with
 | nil=>intro n up z;cases z
 | cons a v u t ih =>
   intro n up z;rw [cQ] at z;split at z
   . rename_i q;cases z;rw [eq_of_beq q];rw [aa] at v;exact ⟨_,PySem.W.mg_of X N a,v.1,v.2,u.get X N⟩
   . exact ih n up z
def Xd (K:PySem.W.Frag) (mg:Str->Option ag) (cf:List (Str × List Str)) (gn:List Str) (rs:Rs) (d:Fd):Prop:=∃ st a fdd cls,Dn K mg cf gn d st a fdd/\nY cls Xs.xs ⟨d.ps++d.loc,aY st,cf,gn⟩ rs (cT st) = true/\∀ n,n∈cls->∃ C,mg n = some (.ref C)/\VE K C = true
def Xd.dn {rs:Rs} {d:Fd} (x:Xd K mg cf gn rs d):∃ st a fdd,Dn K mg cf gn d st a fdd:=by
 obtain ⟨st,a,fdd,_,h,_⟩:=x;exact ⟨st,a,fdd,h⟩
section
variable {Q:Prop} {d:Fd} {x:String} {i:Nat} {f:au} {oc:ag} {od an:Option au} {osl:Array (Option ag)} {kV doc pm cdv ct:ag}
def xd_mk {rs:Rs} {cls:List Str} (X:K.In h) (N:h.Ns mainGlobals mg) (a:PySem.W.nsIn K mainGlobals (.ofString x) = some (some (.ref f))) (l:K.lookup f = some ⟨oc,od,.func (PySem.W.fnOf (.ofString x) (.ofString x) (eQ (tp i)) (cT (tp i)) (aY (tp i)) .none kV doc pm an cdv ct),osl⟩)
 (c:PySem.W.codeIn K cdv (.ofString x) = true) (k:PySem.W.keepIn K (.ref f) = true) (z:(decide (d.name = .ofString x) && (okD d (eQ (tp i)) (aY (tp i)) && nY cls Xs.xs ⟨d.ps++d.loc,aY (tp i),cf,gn⟩ rs (cT (tp i)))) = true) (hb:d.body = qX rs) (hc:∀ n,n∈cls->∃ C,mg n = some (.ref C)/\VE K C = true) (q:Xd K mg cf gn rs d->Q):Q:=by
 rw [aa,decide_eq_true_eq,aa] at z;obtain ⟨z0,z1,z2⟩:=z;rw [<- z0] at a l c;have F:=ud l c k;exact q ⟨_,_,_,cls,⟨F,PySem.W.mg_of X N a,tF z1,.inr (λY cx k C hS hB hK hM fx=>by subst hK hM;rw [hb];exact Pb C hS hB fx.2 hc z2),tH rfl rfl z1⟩,z2,hc⟩
def td_mk {ys:List Yt} {ups:List (Str × List Str)} {ps:List Str} (X:K.In h) (N:h.Ns mainGlobals mg) (a:PySem.W.nsIn K mainGlobals (.ofString x) = some (some (.ref f))) (l:K.lookup f = some ⟨oc,od,.func (PySem.W.fnOf (.ofString x) (.ofString x) (eQ (tp i)) (cT (tp i)) (aY (tp i)) .none kV doc pm an cdv ct),osl⟩)
 (c:PySem.W.codeIn K cdv (.ofString x) = true) (k:PySem.W.keepIn K (.ref f) = true) (z:(decide (d.name = .ofString x) && (okD d (eQ (tp i)) (aY (tp i)) && ckY ⟨d.ps++d.loc,aY (tp i),cf,gn⟩ Xs.xs ps ups ys (cT (tp i)))) = true) (hb:d.body = yS ups ys) (hz:mg "ValueError" = none) (hps:∀ n,n∈ps->∃ C,mg n = some (.ref C)/\VE K C = true)
 (hup:∀ Y:Cx,Y.K = K->Y.mg = mg->∀ n up,ups.lookup n = some up->∃ C,Y.mg n = some (.ref C)/\Bq Y ps C up) (hak:∀ p∈ys.flatMap Yt.asks,zP K mg ps p.1 p.2) (q:(∃ st a fdd,Dn K mg cf gn d st a fdd)->Q):Q:=by
 rw [aa,decide_eq_true_eq,aa] at z;obtain ⟨z0,z1,z2⟩:=z;rw [<- z0] at a l c;have F:=ud l c k;exact q ⟨_,_,_,F,PySem.W.mg_of X N a,tF z1,.inr (λY cx k C hS hB hK hM fx=>by have hu:=hup Y hK hM;subst hK hM;rw [hb];exact GW C hS hB hz fx.1 fx.2 hps hu ys _ hak z2),tH rfl rfl z1⟩
end
inductive Xws (K:PySem.W.Frag) (mg:Str->Option ag) (G Gd:List Fd) (gn:List Str):List (Nat × Nat)->Prop
 | nil:Xws K mg G Gd gn []
 | cons {i g:Nat} {d:Fd} {rs:Rs} {r:List (Nat × Nat)} (x:Xd K mg (cfOf Gd) gn rs d) (e:Gd[i]? = some d) (e2:G[g]? = some ⟨d.name,d.ps,d.loc,nB rs,false⟩) (t:Xws K mg G Gd gn r):Xws K mg G Gd gn ((i,g)::r)
def Xws.get {l:List (Nat × Nat)} (H:Xws K mg G Gd gn l) {i g:Nat}:(i,g)∈l->∃ fd st a fdd,Gd[i]? = some fd/\Dn K mg (cfOf Gd) gn fd st a fdd/\∃ rs cls,G[g]? = some ⟨fd.name,fd.ps,fd.loc,nB rs,false⟩/\nY cls Xs.xs ⟨fd.ps++fd.loc,aY st,cfOf Gd,gn⟩ rs (cT st) = true/\∀ n,n∈cls->∃ C,mg n = some (.ref C)/\VE K C = true:=by
 induction H with
 | nil=>intro z;cases z
 | cons x e e2 t ih =>
   intro z;rcases aD.mp z with z | z
   . cases z;obtain ⟨st,a,fdd,cls,h1,h2,h3⟩:=x;exact ⟨_,st,a,fdd,e,h1,_,cls,e2,h2,h3⟩
   . exact ih z
def top_mk (X:K.In h) (N:h.Ns mainGlobals mg) {is:List (String × Nat)} (H:Hds K mg (cfOf Gd) gn tp Gd is) (sub:∀ (i:Nat) (fd:Fd),Gd[i]? = some fd->G[i]? = some fd) (xw:Xws K mg G Gd gn Xs.xs) (few:G.length<=tm) (hb:jq.all (xI K) = true) (hg:Gls K gn gl)
 (gds:∀ (n:Str) (l:List (Str × Int)),Tbs.gds.lookup n = some l->∃ a,mg n = some (.ref a)/\GdK w K a l) (dfs:∀ f∈Tbs.dfs,∃ fd st a fdd,Gd[f]? = some fd/\Dn K mg (cfOf Gd) gn fd st a fdd/\Binds K fdd fd.ps [.none]):Top w K mg G Gd gl gn :=
 ⟨IA X N H,sub,λi g h=>xw.get h,few,IJ X N hb,λg x d h1 h2=>by
   obtain ⟨d',e,r⟩:=zu X N hg g x h1;rw [h2] at e;cases e;exact r,λg x h1=>by
   obtain ⟨d',e,r⟩:=zu X N hg g x h1;exact ⟨d',e⟩,gds,dfs⟩
end
end PP
end
section
namespace PP
open PySem L2 PyProof.Rows
variable [Tbs] [Xs]
inductive Wt where
 | st (s:S) | wl (i j:Nat) (src:It) (ek ev:E) | rw (n:Int) (i:Nat) (a b c d:E)
def wdS:List Wt->Ss
 | []=>.nil
 | .st s::r=>.cons s (wdS r)
 | .wl i j src ek ev::r=>.cons (.opq (wlF i j src ek ev)) (wdS r)
 | .rw n i a b c d::r=>.cons (.opq (rwF n i a b c d)) (wdS r)
def diK (x:aI):List (Option aI):=match x with
 | .Dict ks _ _=>ks
 | _=>[]
def diV (x:aI):List aI:=match x with
 | .Dict _ vs _=>vs
 | _=>[]
def Ov (x:aI):Bool:=match x with
 | .Dict _ _ _=>true
 | _=>false
def Iy (h:Ov x = true):∃ p,x = .Dict (diK x) (diV x) p:=by
 cases x<;>first | (cases h;done) | exact ⟨_,rfl⟩
def OH (c:Ck) (i j:Nat) (src:It) (ek ev:E) (x:bw):Bool:=yZ x λt it y z=>on0 z (cE t λn=>dZ c j n && ckI c src t it && on1 y λw=>AK w λw=>onM w λu m as=>on1 as λv=>decide (m = ("append":Str)) && ckE c ev v && !bE ev &&
 onM u λb m as=>cE b λb=>on2 as λq l=>decide (m = ("setdefault":Str)) && eW c i b && ckE c ek q && !bE ek && yW l λes=>on0 es true)
def OI (c:Ck) (n:Int) (i:Nat) (a b cc d:E) (x:bw):Bool:=rA x λy=>onO y λy=>pT y λes=>onS es λe0 es=>on2 es λe1 e2=>onC e0 (λv=>onI v λj=>decide (n = j)) && cE e2 (λm=>eW c i m) && Ov e1 &&
 on2 (diK e1) λk1 k2=>onO k1 λk1=>onO k2 λk2=>on2 (diV e1) λv1 v2=>ckE c a k1 && ckE c b v1 && ckE c cc k2 && ckE c d v2 && !bE b && !bE d
def ckW (c:Ck):List Wt->List bw->Bool
 | [],zs=>on0 zs true
 | .st s::r,zs=>onS zs λy ys=>ckS c s y && ckW c r ys
 | .wl i j src ek ev::r,zs=>onS zs λy ys=>OH c i j src ek ev y && ckW c r ys
 | .rw n i a b cc d::r,zs=>onS zs λy ys=>OI c n i a b cc d y && ckW c r ys
section
variable {X:Cx} {c:Ck} {cx:Cl} {k:Nat}
def NJ (C:Cok X c cx k) {i j:Nat} {src:It} {ek ev:E} {x:bw} (h:OH c i j src ek ev x = true):PS X x (tS X.K (evS cx (.opq (wlF i j src ek ev)))):=by
 obtain ⟨t,it,y,z,pos,rfl,h1⟩:=vA h;obtain ⟨rfl,h2⟩:=cR h1;obtain ⟨n,p,rfl,h3⟩:=bz h2;simp only [aa] at h3;obtain ⟨⟨a1,a2⟩,h4⟩:=h3;obtain ⟨w,rfl,h5⟩:=du h4;obtain ⟨w,wp,rfl,h6⟩:=tu h5;obtain ⟨u,m,ap2,as,cp2,rfl,hl2,h7⟩:=kx h6;obtain ⟨v,rfl,h8⟩:=du h7;simp only [aa] at h8;obtain ⟨⟨⟨b1,b2⟩,b3⟩,h9⟩:=h8;obtain rfl:=of_decide_eq_true b1;obtain ⟨b,m,ap,as,cp,rfl,hl,h10⟩:=kx h9;obtain ⟨b,bp,rfl,h11⟩:=bz h10;obtain ⟨q,l,rfl,h12⟩:=jD h11;simp only [aa] at h12;obtain ⟨⟨⟨⟨c1,c2⟩,c3⟩,c4⟩,h13⟩:=h12;obtain rfl:=of_decide_eq_true c1;obtain ⟨es,lp,rfl,h14⟩:=md h13;obtain ⟨rfl,_⟩:=cR h14;exact GY C a1 a2 (ma (KC C c2 hl hl2 c3 b2 c4 b3) oE)
def NL (C:Cok X c cx k) {n:Int} {i:Nat} {a b cc d:E} {x:bw} (h:OI c n i a b cc d x = true):PS X x (tS X.K (evS cx (.opq (rwF n i a b cc d)))):=by
 obtain ⟨y,pos,rfl,h1⟩:=pV h;obtain ⟨y,rfl,h2⟩:=ku h1;obtain ⟨es,tn,tp,rfl,h3⟩:=ik h2;obtain ⟨e0,es,rfl,h4⟩:=cD h3;obtain ⟨e1,e2,rfl,h5⟩:=jD h4;simp only [aa] at h5;obtain ⟨⟨⟨a1,a2⟩,a3⟩,h6⟩:=h5;obtain ⟨v,kn,np,rfl,a4⟩:=lG a1;obtain ⟨j,rfl,a5⟩:=DX a4;obtain rfl:=of_decide_eq_true a5;obtain ⟨m,mp,rfl,a6⟩:=bz a2;obtain ⟨dp,ed⟩:=Iy a3;obtain ⟨k1,k2,ek,h7⟩:=jD h6;obtain ⟨k1,rfl,h8⟩:=ku h7;obtain ⟨k2,rfl,h9⟩:=ku h8;obtain ⟨v1,v2,ev,h10⟩:=jD h9;simp only [aa] at h10;obtain ⟨⟨⟨⟨⟨b1,b2⟩,b3⟩,b4⟩,b5⟩,b6⟩:=h10;rw [ed,ek,ev];exact GZ C a6 b1 b2 b3 b4 b5 b6
def GX (C:Cok X c cx k) (hS:X.env.scope = c.sc) (hB:X.env.blockKind = .function):∀ (ys:List Wt) (zs:List bw),ckW c ys zs = true->PSs X zs (tS X.K (cY cx (wdS ys)))
 | [],zs,h=>by
   obtain ⟨rfl,_⟩:=cR h
   exact pH
 | .st s::r,zs,h=>by
   obtain ⟨_,_,rfl,hq⟩:=cD h;rw [aa] at hq
   exact gb (De C hS hB s _ hq.1) (GX C hS hB r _ hq.2)
 | .wl i j src ek ev::r,zs,h=>by
   obtain ⟨_,_,rfl,hq⟩:=cD h;rw [aa] at hq
   exact gb (NJ C hq.1) (GX C hS hB r _ hq.2)
 | .rw n i a b cc d::r,zs,h=>by
   obtain ⟨_,_,rfl,hq⟩:=cD h;rw [aa] at hq;exact gb (NL C hq.1) (GX C hS hB r _ hq.2)
end
section
variable {K:PySem.W.Frag} {h:bH} {mg:Str->Option ag} {cf:List (Str × List Str)} {gn:List Str} {tp:Nat->bw}
variable {Q:Prop} {d:Fd} {x:String} {i:Nat} {f:au} {oc:ag} {od an:Option au} {osl:Array (Option ag)} {kV doc pm cdv ct:ag}
def wd_mk {ws:List Wt} (X:K.In h) (N:h.Ns mainGlobals mg) (a:PySem.W.nsIn K mainGlobals (.ofString x) = some (some (.ref f))) (l:K.lookup f = some ⟨oc,od,.func (PySem.W.fnOf (.ofString x) (.ofString x) (eQ (tp i)) (cT (tp i)) (aY (tp i)) .none kV doc pm an cdv ct),osl⟩)
 (c:PySem.W.codeIn K cdv (.ofString x) = true) (k:PySem.W.keepIn K (.ref f) = true) (z:(decide (d.name = .ofString x) && (okD d (eQ (tp i)) (aY (tp i)) && ckW ⟨d.ps++d.loc,aY (tp i),cf,gn⟩ ws (cT (tp i)))) = true) (hb:d.body = wdS ws) (q:(∃ st a fdd,Dn K mg cf gn d st a fdd)->Q):Q:=by
 rw [aa,decide_eq_true_eq,aa] at z;obtain ⟨z0,z1,z2⟩:=z;rw [<- z0] at a l c;have F:=ud l c k;exact q ⟨_,_,_,F,PySem.W.mg_of X N a,tF z1,.inr (λY cx k C hS hB hK hM fx=>by subst hK hM;rw [hb];exact GX C hS hB ws _ z2),tH rfl rfl z1⟩
end
end PP
end
section
namespace PP
open PySem
section
variable {cx:Cl} {δ:Loc}
def wR (cx:Cl) (r:R) (δ:Loc) (Q:OR->Prop):Prop:=∃ o,evR cx r δ = some o/\Q o
def wRs (cx:Cl) (rs:Rs) (δ:Loc) (Q:OR->Prop):Prop:=∃ o,fH cx rs δ = some o/\Q o
def CD (cx:Cl) (rs:Rs) (Q:OR->Prop):OR->Prop
 | .inl (.nx δ)=>wRs cx rs δ Q
 | o=>Q o
def sD {Q:OR->Prop}:wRs cx .nil δ Q↔Q (.inl (.nx δ)):=⟨λ⟨_,e,q⟩=>by simp only [fH] at e;cases e;exact q,λq=>⟨_,by simp only [fH],q⟩⟩
def jg {r:R} {rs:Rs} {Q:OR->Prop}:wRs cx (.cons r rs) δ Q↔wR cx r δ (CD cx rs Q):=by
 unfold wRs wR;simp only [fH]
 cases evR cx r δ with
 | none=>exact ⟨λ⟨_,e,_⟩=>(by cases e),λ⟨_,e,_⟩=>by cases e⟩
 | some o =>
   constructor
   . rintro ⟨o',e,q⟩;refine ⟨o,rfl,?_⟩;rcases o with (δ1 | _ | _ | _ | _) | _<;>first | exact ⟨o',e,q⟩ | (cases e;exact q)
   . rintro ⟨o',e,q⟩;cases e;rcases o with (δ1 | _ | _ | _ | _) | _<;>first | exact q | exact ⟨_,rfl,q⟩
def Nm {s:S} {Q:OR->Prop}:wR cx (.st s) δ Q↔wS cx s δ λo=>Q (.inl o):=by
 unfold wR wS;simp only [evR]
 cases evS cx s δ with
 | none=>exact ⟨λ⟨_,e,_⟩=>(by cases e),λ⟨_,e,_⟩=>by cases e⟩
 | some o=>exact ⟨λ⟨_,e,q⟩=>by cases e;exact ⟨_,rfl,q⟩,λ⟨_,e,q⟩=>by cases e;exact ⟨_,rfl,q⟩⟩
def Cc {c:Str} {Q:OR->Prop}:wR cx (.rse c) δ Q↔Q (.inr (c,δ)):=⟨λ⟨_,e,q⟩=>by simp only [evR] at e;cases e;exact q,λq=>⟨_,by simp only [evR],q⟩⟩
def JP {t:E} {a b:Rs} {Q:OR->Prop}:wR cx (.ifs t a b) δ Q↔wT cx t δ λk δ1=>if k = true then wRs cx a δ1 Q else wRs cx b δ1 Q:=by
 unfold wR wT wRs;simp only [evR]
 cases evT cx t δ with
 | none=>exact ⟨λ⟨_,e,_⟩=>(by cases e),λ⟨_,_,e,_⟩=>by cases e⟩
 | some p =>
   obtain ⟨k,δ1⟩:=p
   cases k with
   | true=>exact ⟨λq=>⟨_,_,rfl,q⟩,λ⟨_,_,e,q⟩=>by cases e;exact q⟩
   | false=>exact ⟨λq=>⟨_,_,rfl,q⟩,λ⟨_,_,e,q⟩=>by cases e;exact q⟩
def yx {s:S} {f g:Nat} {es:Es} {Q:OR->Prop} (h:wEs cx es δ λds δ1=>∃ c,cx.call g ds = some (.str c)/\Q (.inr (c,δ1))):wR cx (.cal s f g es) δ Q:=by
 obtain ⟨ds,δ1,e,c,ec,q⟩:=h;refine ⟨_,?_,q⟩;simp only [evR,e,ec]
def Nk {rs:Rs} {Q:Out->Prop} (h:wRs cx rs δ λr=>∃ o,r = .inl o/\Q o):wSs cx (qX rs) δ Q:=by
 obtain ⟨r,e,o,rfl,q⟩:=h;refine ⟨o,?_,q⟩;unfold qX;simp only [cY,evS,e];cases o<;>rfl
def Nj {rs:Rs} {Q:Out->Prop} (h:wRs cx rs δ λr=>∃ c δ1,r = .inr (c,δ1)/\Q (.rt (.str c) δ1)):wSs cx (nB rs) δ Q:=by
 obtain ⟨r,e,c,δ1,rfl,q⟩:=h;refine ⟨_,?_,q⟩;unfold nB;simp only [cY,evS,e]
def JM {ups:List (Str × List Str)} {rs:Rs} {j:Nat} {qs:Qs} {Q:Out->Prop} (h:wRs cx rs δ λr=>∃ c δ1 up,r = .inr (c,δ1)/\ups.lookup c = some up/\Iv δ1[j]? = true/\Q (.nx (qs.ev up δ1))):wS cx (.opq (Ak ups rs j qs)) δ Q:=by
 obtain ⟨r,e,c,δ1,up,rfl,e1,e2,q⟩:=h;refine ⟨_,?_,q⟩;simp only [evS,Ak,e,e1,e2,if_true]
end
end PP
end
section
namespace PP
open PySem L2
def pD:Nat->Ss->Ss
 | 0,_=>.nil
 | _,.nil=>.nil
 | k+1,.cons s ss=>.cons s (pD k ss)
def dF:Nat->Ss->Ss
 | 0,ss=>ss
 | _,.nil=>.nil
 | k+1,.cons _ ss=>dF k ss
def nxS (R:PP.Loc->Prop) (Q:Out->Prop):Out->Prop
 | .nx δ=>R δ
 | o=>Q o
def yw (h:wS cx s δ P) (k:∀ o,P o->Q o):wS cx s δ Q:=let ⟨o,e,p⟩:=h;⟨o,e,k o p⟩
def yv {R:PP.Loc->Prop}:∀ (k:Nat) (ss:Ss) (δ:PP.Loc),wSs cx (pD k ss) δ (nxS R Q)->(∀ δ',R δ'->wSs cx (dF k ss) δ' Q)->wSs cx ss δ Q
 | 0,ss,δ,h,q=>by
   unfold pD at h
   exact q δ (gj.mp h)
 | _+1,.nil,δ,h,q=>by
   unfold pD at h;unfold dF at q
   exact q δ (gj.mp h)
 | k+1,.cons s ss,δ,h,q=>by
   unfold pD at h;unfold dF at q;refine cm.mpr (yw (cm.mp h) λo p=>?_)
   cases o with
   | nx δ1=>exact yv k ss δ1 p q
   | rt d δ1=>exact p
   | ro d δ1=>exact p
def dc (k:Nat) (δ':PP.Loc) (h:cY cx (pD k ss) δ = some (.nx δ')) (q:wSs cx (dF k ss) δ' Q):wSs cx ss δ Q:=yv (R:=λd=>d = δ') k ss δ ⟨.nx δ',h,rfl⟩ λ_ e=>e▸q
def Io {c A B:Prop} [Decidable c] (h1:c->A) (h2:¬ c->B):if c then A else B:=by
 by_cases h:c
 . rw [if_pos h];exact h1 h
 . rw [if_neg h];exact h2 h
def qN:Ss->Ss->Ss
 | .nil,r=>r
 | .cons s t,r=>.cons s (qN t r)
def sx {r:Ss}:∀ {a:Ss} {δ:PP.Loc},wSs cx (qN a r) δ Q->wSs cx a δ (lT cx r Q)
 | .nil,δ,h=>gj.mpr (uX.mpr h)
 | .cons s t,δ,h=>cm.mpr (yw (cm.mp h) λo p=>by
   cases o with
   | nx δ1=>exact sx p
   | rt d δ1=>exact p
   | ro d δ1=>exact p)
def bq (p:Bool) (h:evT cx c δ = some (p,δ)) (ha:p = true->wSs cx (qN a r) δ Q) (hb:p = false->wSs cx (qN b r) δ Q):wSs cx (.cons (.ifs c a b) r) δ Q :=
 cm.mpr (BY.mpr ⟨p,δ,h,by cases p;exact sx (hb rfl);exact sx (ha rfl)⟩)
variable {G:List Fd} {gl:List D} {n f:Nat}
def BU (as:List D) (δ1:PP.Loc) (h:eh ⟨PP.run G gl n,gl,hfs G⟩ es δ = some (as,δ1)) (hc:fZ G gl n f as λd=>∃ δ2,fQ δ1 tg d = some δ2/\wSs ⟨PP.run G gl n,gl,hfs G⟩ r δ2 Q):wSs ⟨PP.run G gl n,gl,hfs G⟩ (.cons (.asg tg (.call f es)) r) δ Q :=
 cm.mpr (sy.mpr (oi.mpr ⟨as,δ1,h,mL.mpr hc⟩))
def BR (as:List D) (δ1:PP.Loc) (h:eh ⟨PP.run G gl n,gl,hfs G⟩ es δ = some (as,δ1)) (hc:fZ G gl n f as Q):wSs ⟨PP.run G gl n,gl,hfs G⟩ (.cons (.ret (.call f es)) r) δ (retS Q) :=
 cm.mpr (mJ.mpr (oi.mpr ⟨as,δ1,h,mL.mpr hc⟩))
def fE (as:List D) (h:eh ⟨PP.run G gl n,gl,hfs G⟩ es δ = some (as,δ)) (hc:fZ G gl n f as λd=>∃ δ2,fQ δ tg d = some δ2/\wSs ⟨PP.run G gl n,gl,hfs G⟩ r δ2 Q):wSs ⟨PP.run G gl n,gl,hfs G⟩ (.cons (.asg tg (.call f es)) r) δ Q:=BU as δ h hc
def kI (as:List D) (h:eh ⟨PP.run G gl n,gl,hfs G⟩ es δ = some (as,δ)) (hc:fZ G gl n f as Q):wSs ⟨PP.run G gl n,gl,hfs G⟩ (.cons (.ret (.call f es)) r) δ (retS Q):=BR as δ h hc
def dD (d:D) (h:evE cx e δ = some (d,δ)) (q:∃ δ2,fQ δ tg d = some δ2/\wSs cx r δ2 Q):wSs cx (.cons (.asg tg e) r) δ Q:=cm.mpr (sy.mpr ⟨d,δ,h,q⟩)
def ja (ha:evE cx a δ = some (x,δ)) (hb:evE cx b δ = some (y,δ)) (h:ixD x y = some z):evE cx (.ix a b) δ = some (z,δ):=by
 simp only [evE,ha,hb,h,af,aP];rfl
def cy (ha:evE cx a δ = some (x,δ)) (hb:evE cx b δ = some (y,δ)) (h:jT op x y = some p):evT cx (.cmp op a b) δ = some (p,δ):=by
 simp only [evT,ha,hb,h,af,aP];rfl
def lC (d:D) (h:evE cx e δ = some (d,δ)) (ho:δ[i]? = some (.own ds)) (hl:ds.length < sizeLine) (q:wSs cx r (δ.set i (.own (ds++[d]))) Q):wSs cx (.cons (.append i e) r) δ Q:=by
 have hi:i < δ.length:=(aE.mp ho).1;refine cm.mpr (qU.mpr ?_);unfold nW;rw [ho];refine ⟨d,δ,h,?_⟩;dsimp only;rw [ho];exact ⟨hl,hi,q⟩
def qk:Ss->Ss
 | .cons (.for_ _ _ b) _=>b
 | _=>.nil
def ug (ha:evT cx a δ = some (p,δ)) (hb:evT cx b δ = some (q,δ)):evT cx (.or a b) δ = some (p || q,δ):=by
 simp only [evT,ha,af,aP];cases p
 . exact hb
 . rfl
def jL (ha:evT cx a δ = some (p,δ)) (hb:evT cx b δ = some (q,δ)):evT cx (.and a b) δ = some (p && q,δ):=by
 simp only [evT,ha,af,aP];cases p
 . rfl
 . exact hb
def kB {α:Type} (g h:α->D) (as:α->List D) (xs:List α) (hl:xs.length<=sizeLine) (hi:evI ⟨PP.run G gl n,gl,hfs G⟩ src δ = some (xs.map g,δ)) (hd:i = δ.length) (he:∀ x∈xs,eh ⟨PP.run G gl n,gl,hfs G⟩ es (δ++[.val (g x)]) = some (as x,δ++[.val (g x)])) (hc:∀ x∈xs,PP.run G gl n f (as x) = some (h x)):evE ⟨PP.run G gl n,gl,hfs G⟩ (.comp 1 (.nm i) src .no (.call f es)) δ = some (.lst (xs.map h),δ):=by
 subst hd
 have:wE ⟨PP.run G gl n,gl,hfs G⟩ (.comp 1 (.nm δ.length) src .no (.call f es)) δ λd δ'=>d = .lst (xs.map h)/\δ' = δ:=by
  refine oh.mpr ⟨_,_,hi,gZ g (λ_=>true) h xs (λx hx=>?_) ?_⟩
  . refine ⟨δ++[.val (g x)],?_,true,_,rfl,rfl,?_⟩
    . show (if δ.length < (δ++aU 1 Sl.no).length then _ else _) = _;rw [if_pos ↥0];simp [gC]
    . rw [if_pos rfl];exact oi.mpr ⟨_,_,he x hx,_,hc x hx,rfl,↥0⟩
  . rw [iA.mpr λ_ _=>rfl,aw];exact ⟨hl,rfl,rfl⟩
 obtain ⟨_,_,e,rfl,rfl⟩:=this;exact e
def BS (ds:List D) (h:evE cx e δ = some (.lst ds,δ)) (hi:i < δ.length) (q:wSs cx r (δ.set i (.val (.lst ds))) Q):wSs cx (.cons (.cmp false i e) r) δ Q:=cm.mpr (Ge.mpr ⟨_,_,h,ds,rfl,hi,q⟩)
def rT (h:evE cx e δ = some (.lst ds,δ)):evE cx (.blt .toTup (.cons e .nil)) δ = some (.tup ds,δ):=by
 simp only [evE,eh,h,af,aP];rfl
def aV (as:List D) (he:eh ⟨PP.run G gl n,gl,hfs G⟩ es δ = some (as,δ)) (hc:PP.run G gl n f as = some d):evE ⟨PP.run G gl n,gl,hfs G⟩ (.call f es) δ = some (d,δ):=by
 simp only [evE,he,hc,af,aP];rfl
def uh (h:evE cx e δ = some (d,δ)) (hi:items d = some ds):evI cx (.sq e) δ = some (ds,δ):=by
 simp only [evI,h,hi,af,aP];rfl
def bM (h:evE cx e δ = some (d,δ)) (hs:eh cx es δ = some (ds,δ)):eh cx (.cons e es) δ = some (d::ds,δ):=by
 simp only [eh,h,hs,af,aP];rfl
def mj (h:eh cx es δ = some (ds,δ)) (hl:ds.length<=sizeLine):evE cx (.tup es) δ = some (.tup ds,δ):=by
 simp only [evE,h,af,aP];rw [if_pos hl];rfl
def di (ha:evE cx a δ = some (x,δ)) (hb:evE cx b δ = some (y,δ)) (h:opD op x y = some z):evE cx (.bin op a b) δ = some (z,δ):=by
 simp only [evE,ha,hb,h,af,aP];rfl
def cu (d:D) (h:evE cx e δ = some (d,δ)) (q:Q d):wSs cx (.cons (.ret e) r) δ (retS Q):=cm.mpr (mJ.mpr ⟨d,δ,h,q⟩)
def zy (hc:evT cx c δ = some (p,δ)) (ha:evE cx a δ = some (x,δ)) (hb:evE cx b δ = some (y,δ)):evE cx (.ite c a b) δ = some (if p = true then x else y,δ):=by
 simp only [evE,hc,af,aP];cases p
 . exact hb
 . exact ha
def jK (as:List D) (he:eh ⟨PP.run G gl n,gl,hfs G⟩ es δ = some (as,δ)) (hc:PP.run G gl n f as = some (.bl p)):evT ⟨PP.run G gl n,gl,hfs G⟩ (.call f es) δ = some (p,δ):=by
 simp only [evT,he,hc,af,aP];rfl
def kP (h:evT cx e δ = some (p,δ)):evT cx (.not e) δ = some (!p,δ):=by
 simp only [evT,h,af,aP];rfl
def Ml (h:eh cx es δ = some (ds,δ)) (hi:zpD ds = some zs):evI cx (.zp es) δ = some (zs,δ):=by
 simp only [evI,h,hi,af,aP];rfl
def zx {j:Int} (h:evE cx e δ = some (.int j,δ)) (h0:-(2 ^ 62)<=j) (h1:j < 2 ^ 62):evI cx (.rng e) δ = some (lX 0 j.toNat,δ):=by
 simp only [evI,h,af,aP];rw [if_pos ⟨h0,h1⟩]
def gq (h:eh cx es δ = some (ds,δ)) (hb:jU b ds = some z):evE cx (.blt b es) δ = some (z,δ):=by
 simp only [evE,h,hb,af,aP];rfl
def gk (ds:List D) (h:evI cx src δ = some (ds,δ)) (q:kb cx tg body ds δ (lT cx r Q)):wSs cx (.cons (.for_ tg src body) r) δ Q:=cm.mpr (BZ.mpr ⟨ds,δ,h,q⟩)
def jM (ha:evE cx a δ = some (x,δ)) (hb:evE cx b δ = some (y,δ)) (h:jT op x y = some p):evE cx (.cmp op a b) δ = some (.bl p,δ):=by
 simp only [evE,ha,hb,h,af,aP];rfl
end PP
end
section
namespace PP
open PySem
section
variable {cx:Cl} {δ:Loc}
end
end PP
end
section
namespace PP
open PySem Builtin.Str
end PP
end
section
namespace PP
open PySem
mutual
theorem oO:∀ (a b:D),hb a = true->hb b = true->(eqD a b = true↔a = b)
 | .str x,.str y,_,_=>by unfold eqD;simp
 | .int x,.int y,_,_=>by unfold eqD;simp
 | .tup xs,.tup ys,h1,h2=>by
   unfold hb at h1 h2;unfold eqD;rw [vW xs ys h1 h2]
   simp
 | .str _,.int _,_,_ | .str _,.tup _,_,_ | .int _,.str _,_,_ | .int _,.tup _,_,_ | .tup _,.str _,_,_ | .tup _,.int _,_,_=>by unfold eqD;simp
 | .non,_,h,_ | .bl _,_,h,_ | .lst _,_,h,_ | .fn _ _,_,h,_ | .dct _ _,_,h,_=>by unfold hb at h;cases h
 | _,.non,_,h | _,.bl _,_,h | _,.lst _,_,h | _,.fn _ _,_,h | _,.dct _ _,_,h=>by unfold hb at h;cases h
theorem vW:∀ (a b:List D),hbL a = true->hbL b = true->(fm a b = true↔a = b)
 | [],[],_,_=>by unfold fm;simp
 | [],_::_,_,_=>by unfold fm;simp
 | _::_,[],_,_=>by unfold fm;simp
 | x::xs,y::ys,h1,h2=>by
   unfold hbL at h1 h2;rw [aa] at h1 h2;unfold fm;rw [aa,oO x y h1.1 h2.1,vW xs ys h1.2 h2.2];simp
end
def ltS (a b:Str):Bool:=decide (a.cps.toList < b.cps.toList)
def Em (a b:Str) (h:ltS a b = true):ltS b a = false:=by
 unfold ltS at h |-;rw [decide_eq_true_eq] at h;rw [decide_eq_false_iff_not];exact List.lt_asymm h
def LM (a b c:Str) (h1:ltS b a = false) (h2:ltS c b = false):ltS c a = false:=by
 unfold ltS at h1 h2 |-;rw [decide_eq_false_iff_not] at h1 h2 |-;exact List.le_trans h1 h2
def LN (a b:Str) (h1:ltS a b = false) (h2:ltS b a = false):a = b:=by
 unfold ltS at h1 h2;rw [decide_eq_false_iff_not] at h1 h2;have:=List.le_antisymm h2 h1;obtain ⟨⟨x⟩⟩:=a;obtain ⟨⟨y⟩⟩:=b;simp at this;rw [this]
def Gp {α:Type} [Inhabited α] {lt:α->α->Bool} {ys:List α} (h:∀ i j,i<=j->j < ys.length->lt (ys.getD j default) (ys.getD i default) = false):ys.Pairwise λa b=>lt b a = false:=by
 rw [uD];intro i j hi hj hij;have:=h i j (iG hij) hj;simpa [iH,aB hi,aB hj] using this
def fS {a b:D} {k:Bool} (h:ltD a b = some k):(∃ i j:Int,a = .int i/\b = .int j/\k = decide (i < j))\/(∃ s t:Str,a = .str s/\b = .str t/\k = ltS s t)\/∃ xs ys,a = .tup xs/\b = .tup ys/\dv xs ys = some k:=by
 unfold ltD at h;split at h
 . cases h;exact .inl ⟨_,_,rfl,rfl,rfl⟩
 . cases h;exact .inr (.inl ⟨_,_,rfl,rfl,rfl⟩)
 . exact .inr (.inr ⟨_,_,rfl,rfl,h⟩)
 . cases h
def eI {x y:D} {xs ys:List D} (hx:hb x = true) (hy:hb y = true):dv (x::xs) (y::ys) = some k↔(x = y/\dv xs ys = some k)\/(x≠y/\ltD x y = some k):=by
 rw [show dv (x::xs) (y::ys) = if eqD x y = true then dv xs ys else ltD x y from by rw [dv]];by_cases e:x = y
 . rw [if_pos ((oO x y hx hy).mpr e)];exact ⟨λh=>.inl ⟨e,h⟩,λh=>h.elim (·.2) λz=>absurd e z.1⟩
 . rw [if_neg λz=>e ((oO x y hx hy).mp z)];exact ⟨λh=>.inr ⟨e,h⟩,λh=>h.elim (λz=>absurd z.1 e) (·.2)⟩
def LtA (a:D):Prop:=∀ b k k',hb a = true->hb b = true->ltD a b = some k->ltD b a = some k'->(a = b/\k = false/\k' = false)\/(a≠b/\k' = !k)
def LtT (a:D):Prop:=∀ b c k,hb a = true->hb b = true->hb c = true->ltD b a = some false->ltD c b = some false->ltD c a = some k->k = false
def kz {x:D} {xs:List D} (h:hbL (x::xs) = true):hb x = true/\hbL xs = true:=by
 unfold hbL at h
 rwa [aa] at h
def vJ:∀ (xs ys:List D) (k k':Bool),(∀ x∈xs,LtA x)->hbL xs = true->hbL ys = true->dv xs ys = some k->dv ys xs = some k'->(xs = ys/\k = false/\k' = false)\/(xs≠ys/\k' = !k)
 | [],[],k,k',_,_,_,h,h'=>by
   unfold dv at h h';cases h;cases h'
   exact .inl ⟨rfl,rfl,rfl⟩
 | [],_::_,k,k',_,_,_,h,h'=>by
   unfold dv at h h';cases h;cases h'
   exact .inr ⟨↥0,rfl⟩
 | _::_,[],k,k',_,_,_,h,h'=>by
   unfold dv at h h';cases h;cases h'
   exact .inr ⟨↥0,rfl⟩
 | x::xs,y::ys,k,k',hA,h1,h2,h,h'=>by
   obtain ⟨a1,a2⟩:=kz h1;obtain ⟨b1,b2⟩:=kz h2;rcases (eI a1 b1).mp h with ⟨rfl,g⟩ | ⟨e,g⟩
   . rcases (eI b1 a1).mp h' with ⟨_,g'⟩ | ⟨e',_⟩
     . rcases vJ xs ys k k' (λz hz=>hA z (ai _ hz)) a2 b2 g g' with ⟨rfl,q⟩ | ⟨n,q⟩
       . exact .inl ⟨rfl,q⟩
       . exact .inr ⟨λz=>n (List.cons.inj z).2,q⟩
     . exact absurd rfl e'
   . rcases (eI b1 a1).mp h' with ⟨e',_⟩ | ⟨_,g'⟩
     . exact absurd e'.symm e
     . rcases hA x av y k k' a1 b1 g g' with ⟨z,_⟩ | ⟨_,q⟩
       . exact absurd z e
       . exact .inr ⟨λz=>e (List.cons.inj z).1,q⟩
def qq {x:D}:∀ {xs:List D},x∈xs->dep x<=cb xs
 | y::ys,h=>by
   unfold cb;rcases aD.mp h with rfl | h
   . exact kX _ _
   . exact bx (qq h) (kh _ _)
def oJ:∀ (n:Nat) (a:D),dep a<=n->LtA a
 | n,a,hn,b,k,k',ha,hb',h,h'=>by
   rcases fS h with ⟨i,j,rfl,rfl,rfl⟩ | ⟨s,t,rfl,rfl,rfl⟩ | ⟨xs,ys,rfl,rfl,h⟩
   . rcases fS h' with ⟨i',j',e1,e2,rfl⟩ | ⟨_,_,e,_⟩ | ⟨_,_,e,_⟩
     . cases e1;cases e2;by_cases e:i = j
       . subst e;exact .inl ⟨rfl,↥0,↥0⟩
       . refine .inr ⟨λz=>e (D.int.inj z),?_⟩;by_cases l:i < j
         . rw [decide_eq_true l,decide_eq_false ∅];rfl
         . rw [decide_eq_false l,decide_eq_true ∅];rfl
     . cases e
     . cases e
   . rcases fS h' with ⟨_,_,e,_⟩ | ⟨s',t',e1,e2,rfl⟩ | ⟨_,_,e,_⟩
     . cases e
     . cases e1;cases e2;by_cases e:s = t
       . subst e
         have:ltS s s = false:=by
          cases z:ltS s s with
          | false=>rfl
          | true=>have:=Em _ _ z;rw [z] at this;cases this
         exact .inl ⟨rfl,this,this⟩
       . refine .inr ⟨λz=>e (D.str.inj z),?_⟩
         cases z:ltS s t with
         | true=>exact Em _ _ z
         | false =>
           cases z':ltS t s with
           | true=>rfl
           | false=>exact absurd (LN _ _ z z') e
     . cases e
   . rcases fS h' with ⟨_,_,e,_⟩ | ⟨_,_,e,_⟩ | ⟨xs',ys',e1,e2,h'⟩
     . cases e
     . cases e
     . cases e1;cases e2;unfold hb at ha hb';have hd:cb xs+1<=n:=by unfold dep at hn;exact hn
       cases n with
       | zero=>lia
       | succ n =>
         rcases vJ xs ys k k' (λx hx=>oJ n x (by have:=qq hx;lia)) ha hb' h h' with ⟨rfl,q⟩ | ⟨e,q⟩
         . exact .inl ⟨rfl,q⟩
         . exact .inr ⟨λz=>e (D.tup.inj z),q⟩
def vI:∀ (xs ys zs:List D) (k:Bool),(∀ x∈xs,LtT x)->hbL xs = true->hbL ys = true->hbL zs = true->dv ys xs = some false->dv zs ys = some false->dv zs xs = some k->k = false
 | [],ys,zs,k,_,_,_,_,_,_,h3=>by
   cases zs<;>unfold dv at h3<;>cases h3<;>rfl
 | x::xs,[],zs,k,_,_,_,_,h1,_,_=>by
   unfold dv at h1;cases h1
 | x::xs,y::ys,[],k,_,_,_,_,_,h2,_=>by
   unfold dv at h2;cases h2
 | x::xs,y::ys,z::zs,k,hT,b1,b2,b3,h1,h2,h3=>by
   obtain ⟨x1,x2⟩:=kz b1;obtain ⟨y1,y2⟩:=kz b2;obtain ⟨z1,z2⟩:=kz b3;rcases (eI y1 x1).mp h1 with ⟨e1,g1⟩ | ⟨e1,g1⟩
   . subst e1;rcases (eI z1 y1).mp h2 with ⟨e2,g2⟩ | ⟨e2,g2⟩
     . subst e2;rcases (eI z1 z1).mp h3 with ⟨_,g3⟩ | ⟨e3,_⟩
       . exact vI xs ys zs k (λw hw=>hT w (ai _ hw)) x2 y2 z2 g1 g2 g3
       . exact absurd rfl e3
     . rcases (eI z1 y1).mp h3 with ⟨e3,_⟩ | ⟨_,g3⟩
       . exact absurd e3 e2
       . rw [g2] at g3;cases g3;rfl
   . rcases (eI z1 y1).mp h2 with ⟨e2,g2⟩ | ⟨e2,g2⟩
     . subst e2;rcases (eI z1 x1).mp h3 with ⟨e3,_⟩ | ⟨_,g3⟩
       . exact absurd e3 e1
       . rw [g1] at g3;cases g3;rfl
     . rcases (eI z1 x1).mp h3 with ⟨e3,_⟩ | ⟨_,g3⟩
       . subst e3;rcases oJ _ y (aA _) z false false y1 z1 g1 g2 with ⟨e,_⟩ | ⟨_,e⟩
         . exact absurd e e1
         . cases e
       . exact hT x av y z k x1 y1 z1 g1 g2 g3
def ze:∀ (n:Nat) (a:D),dep a<=n->LtT a
 | n,a,hn,b,c,k,ha,hb',hc,h1,h2,h3=>by
   rcases fS h3 with ⟨i,j,rfl,rfl,rfl⟩ | ⟨s,t,rfl,rfl,rfl⟩ | ⟨zs,xs,rfl,rfl,g3⟩
   . rcases fS h1 with ⟨i',j',rfl,e2,e3⟩ | ⟨_,_,_,e,_⟩ | ⟨_,_,_,e,_⟩
     . cases e2;rcases fS h2 with ⟨_,_,e4,e5,e6⟩ | ⟨_,_,e,_⟩ | ⟨_,_,e,_⟩
       . cases e4;cases e5;have:=of_decide_eq_false e3.symm;have:=of_decide_eq_false e6.symm;exact decide_eq_false ∅
       . cases e
       . cases e
     . cases e
     . cases e
   . rcases fS h1 with ⟨_,_,_,e,_⟩ | ⟨i',j',rfl,e2,e3⟩ | ⟨_,_,_,e,_⟩
     . cases e
     . cases e2;rcases fS h2 with ⟨_,_,e,_⟩ | ⟨_,_,e4,e5,e6⟩ | ⟨_,_,e,_⟩
       . cases e
       . cases e4;cases e5;exact LM _ _ _ e3.symm e6.symm
       . cases e
     . cases e
   . rcases fS h1 with ⟨_,_,_,e,_⟩ | ⟨_,_,_,e,_⟩ | ⟨ys,xs',rfl,e2,g1⟩
     . cases e
     . cases e
     . cases e2;rcases fS h2 with ⟨_,_,e,_⟩ | ⟨_,_,e,_⟩ | ⟨_,_,e4,e5,g2⟩
       . cases e
       . cases e
       . cases e4;cases e5;unfold hb at ha hb' hc;have hd:cb xs+1<=n:=by unfold dep at hn;exact hn
         cases n with
         | zero=>lia
         | succ n=>exact vI xs ys zs k (λx hx=>ze n x (by have:=qq hx;lia)) ha hb' hc g1 g2 g3
end PP
end
section
namespace P1
open PySem L2 PP
def top (i:Nat):bw:=PySem.Challenge.pw_cutless_k44_found_out.main.body.getD i (.Pass ⟨0,0,0,0⟩)
def wm:Fd:=⟨"inside",["A"],[],
 (.cons (.ret (.ite (.cmp .isin (.ix (.var 0) (.int 0)) (.glob 0)) (.tup .nil) (.sl (.var 0) (.yes (.int 1)) .no)))
 .nil),false⟩
def jR:Fd:=⟨"is_place",["term"],[],
 (.cons (.ret (.isdig 0))
 .nil),false⟩
def oU:Fd:=⟨"signs",["A"],[],
 (.cons (.ifs (.cmp .isin (.ix (.var 0) (.int 0)) (.glob 0))
 (.cons (.ret (.int 0))
 .nil)
 .nil)
 (.cons (.ret (.bin .add (.int 1) (.blt .sum (.cons (.comp 1 (.nm 1) (.sq (.call 0 (.cons (.var 0) .nil))) .no (.call 2 (.cons (.var 1) .nil))) .nil))))
 .nil)),false⟩
def gR:Fd:=⟨"sorted_row",["signed"],["kept","each"],
 (.cons (.new 1 (.lst .nil))
 (.cons (.for_ (.nm 2) (.sq (.blt .sorted (.cons (.var 0) .nil)))
 (.cons (.ifs (.or (.not (.var 1)) (.cmp .ne (.ix (.pk 1) (.neg (.int 1))) (.var 2)))
 (.cons (.append 1 (.var 2))
 .nil)
 .nil)
 .nil))
 (.cons (.ret (.blt .toTup (.cons (.pk 1) .nil)))
 .nil))),false⟩
def uo:Fd:=⟨"more",["row","added"],[],
 (.cons (.ret (.call 3 (.cons (.bin .add (.blt .toLst (.cons (.var 0) .nil)) (.blt .toLst (.cons (.var 1) .nil))) .nil)))
 .nil),false⟩
def mx:Fd:=⟨"closes",["row"],[],
 (.cons (.ifs (.or (.cmp .isin (.tup (.cons (.str "right") (.cons (.tup (.cons (.str "yes") .nil)) .nil))) (.var 0)) (.cmp .isin (.tup (.cons (.str "left") (.cons (.tup (.cons (.str "no") .nil)) .nil))) (.var 0)))
 (.cons (.ret (.bl true))
 .nil)
 .nil)
 (.cons (.ret (.blt .any (.cons (.comp 2 (.tp [1,2]) (.sq (.var 0)) .no (.and (.cmp .eq (.var 1) (.str "left")) (.cmp .isin (.tup (.cons (.str "right") (.cons (.var 2) .nil))) (.var 0)))) .nil)))
 .nil)),false⟩
def mw:Fd:=⟨"other_side",["side"],[],
 (.cons (.ret (.ite (.cmp .eq (.var 0) (.str "left")) (.str "right") (.str "left")))
 .nil),false⟩
def jZ:Fd:=⟨"signed_within",["side","A"],["signed"],
 (.cons (.cmp true 2 (.comp 1 (.nm 3) (.sq (.call 0 (.cons (.var 1) .nil))) .no (.tup (.cons (.var 0) (.cons (.var 3) .nil)))))
 (.cons (.ifs (.cmp .isin (.ix (.var 1) (.int 0)) (.tup (.cons (.str "not") (.cons (.str "if") .nil))))
 (.cons (.setix 2 (.int 0) (.tup (.cons (.call 6 (.cons (.var 0) .nil)) (.cons (.ix (.var 1) (.int 1)) .nil))))
 .nil)
 .nil)
 (.cons (.ret (.var 2))
 .nil))),false⟩
def zI:Fd:=⟨"parts",["side","A","name"],["kind","signed"],
 (.cons (.asg (.nm 3) (.ix (.var 1) (.int 0)))
 (.cons (.ifs (.cmp .isin (.var 3) (.glob 0))
 (.cons (.ret (.lst .nil))
 .nil)
 .nil)
 (.cons (.ifs (.cmp .isin (.var 3) (.glob 1))
 (.cons .bad
 .nil)
 .nil)
 (.cons (.asg (.nm 4) (.call 7 (.cons (.var 0) (.cons (.var 1) .nil))))
 (.cons (.ifs (.cmp .isin (.tup (.cons (.var 0) (.cons (.var 3) .nil))) (.glob 2))
 (.cons (.ret (.comp 1 (.nm 5) (.sq (.var 4)) .no (.lst (.cons (.var 5) .nil))))
 .nil)
 .nil)
 (.cons (.ret (.lst (.cons (.var 4) .nil)))
 .nil)))))),false⟩
def wj:Fd:=⟨"is_own",["side","A"],[],
 (.cons (.ret (.cmp .isin (.tup (.cons (.var 0) (.cons (.ix (.var 1) (.int 0)) .nil))) (.glob 3)))
 .nil),false⟩
def kS:Fd:=⟨"kids_of",["tree"],[],
 (.cons (.ret (.ite (.cmp .eq (.var 0) (.glob 4)) (.tup .nil) (.ix (.var 0) (.neg (.int 1)))))
 .nil),false⟩
def gu:Fd:=⟨"added_above",["tree"],[],
 (.cons (.ifs (.cmp .eq (.ix (.var 0) (.int 0)) (.str "rule"))
 (.cons (.ret (.call 8 (.cons (.ix (.var 0) (.int 1)) (.cons (.ix (.var 0) (.int 2)) (.cons (.ix (.var 0) (.int 3)) .nil)))))
 .nil)
 .nil)
 (.cons .bad
 (.cons .bad
 .nil))),false⟩
def gT:Fd:=⟨"rows_above",["row","tree"],[],
 (.cons (.ret (.comp 1 (.nm 2) (.sq (.call 11 (.cons (.var 1) .nil))) .no (.call 4 (.cons (.var 0) (.cons (.var 2) .nil)))))
 .nil),false⟩
def iO:Fd:=⟨"stands_at",["row","tree"],["side","A","name"],
 (.cons (.asg (.tp [2,3,4]) (.sl (.var 1) (.yes (.int 1)) (.yes (.int 4))))
 (.cons (.ifs (.cmp .notin (.tup (.cons (.var 2) (.cons (.var 3) .nil))) (.var 0))
 (.cons (.ret (.bl false))
 .nil)
 .nil)
 (.cons (.ifs (.cmp .ne (.cmp .isin (.ix (.var 3) (.int 0)) (.glob 1)) (.cmp .ne (.var 4) (.str "")))
 (.cons .bad
 .nil)
 .nil)
 (.cons (.ret (.not (.and (.call 9 (.cons (.var 2) (.cons (.var 3) .nil))) .bad)))
 .nil)))),false⟩
def gK:Fd:=⟨"fits",["row","tree"],["rows","kids","above","kid"],
 (.cons (.ifs (.cmp .eq (.var 1) (.glob 4))
 (.cons (.ret (.call 5 (.cons (.var 0) .nil)))
 .nil)
 .nil)
 (.cons (.ifs (.and (.cmp .eq (.ix (.var 1) (.int 0)) (.str "rule")) (.not (.call 13 (.cons (.var 0) (.cons (.var 1) .nil)))))
 (.cons (.ret (.bl false))
 .nil)
 .nil)
 (.cons (.asg (.nm 2) (.call 12 (.cons (.var 0) (.cons (.var 1) .nil))))
 (.cons (.asg (.nm 3) (.call 10 (.cons (.var 1) .nil)))
 (.cons (.ifs (.or (.not (.var 2)) (.cmp .ne (.blt .len (.cons (.var 2) .nil)) (.blt .len (.cons (.var 3) .nil))))
 (.cons .bad
 .nil)
 .nil)
 (.cons (.for_ (.tp [4,5]) (.zp (.cons (.var 2) (.cons (.var 3) .nil)))
 (.cons (.ifs (.not (.call 14 (.cons (.var 4) (.cons (.var 5) .nil))))
 (.cons (.ret (.bl false))
 .nil)
 .nil)
 .nil))
 (.cons (.ret (.bl true))
 .nil))))))),false⟩
def jQ:Fd:=⟨"is_plain",["A"],[],
 (.cons (.ret (.and (.cmp .notin (.ix (.var 0) (.int 0)) (.glob 1)) (.blt .all (.cons (.comp 1 (.nm 1) (.sq (.call 0 (.cons (.var 0) .nil))) .no (.call 15 (.cons (.var 1) .nil))) .nil))))
 .nil),false⟩
def kT:Fd:=⟨"adds_to",["row","branch"],[],
 (.cons (.ret (.blt .any (.cons (.comp 1 (.nm 2) (.sq (.var 1)) .no (.cmp .notin (.var 2) (.var 0))) .nil)))
 .nil),false⟩
def gS:Fd:=⟨"rules_left",["row"],["given","side","A","branches"],
 (.cons (.new 1 (.lst .nil))
 (.cons (.for_ (.tp [2,3]) (.sq (.var 0))
 (.cons (.asg (.nm 4) (.call 8 (.cons (.var 2) (.cons (.var 3) (.cons (.str "") .nil)))))
 (.cons (.ifs (.and (.var 4) (.blt .all (.cons (.comp 1 (.nm 5) (.sq (.var 4)) .no (.call 16 (.cons (.var 0) (.cons (.var 5) .nil)))) .nil)))
 (.cons (.append 1 (.tup (.cons (.blt .len (.cons (.var 4) .nil)) (.cons (.var 2) (.cons (.var 3) .nil)))))
 .nil)
 .nil)
 .nil)))
 (.cons (.ret (.var 1))
 .nil))),false⟩
def gf:Fd:=⟨"found_by",["row","side","A"],["kids","branch","has_tree","told"],
 (.cons (.new 3 (.lst .nil))
 (.cons (.for_ (.nm 4) (.sq (.call 8 (.cons (.var 1) (.cons (.var 2) (.cons (.str "") .nil)))))
 (.cons (.asg (.tp [5,6]) (.call 19 (.cons (.call 4 (.cons (.var 0) (.cons (.var 4) .nil))) .nil)))
 (.cons (.ifs (.not (.var 5))
 (.cons (.ret (.tup (.cons (.bl false) (.cons (.var 6) .nil))))
 .nil)
 .nil)
 (.cons (.ifs (.call 14 (.cons (.var 0) (.cons (.var 6) .nil)))
 (.cons (.ret (.tup (.cons (.bl true) (.cons (.var 6) .nil))))
 .nil)
 .nil)
 (.cons (.append 3 (.var 6))
 .nil)))))
 (.cons (.ret (.tup (.cons (.bl true) (.cons (.tup (.cons (.str "rule") (.cons (.var 1) (.cons (.var 2) (.cons (.str "") (.cons (.blt .toTup (.cons (.pk 3) .nil)) .nil)))))) .nil))))
 .nil))),false⟩
def jS:Fd:=⟨"found_at",["row"],["given","side","A"],
 (.cons (.ifs (.call 5 (.cons (.var 0) .nil))
 (.cons (.ret (.tup (.cons (.bl true) (.cons (.glob 4) .nil))))
 .nil)
 .nil)
 (.cons (.asg (.nm 1) (.call 17 (.cons (.var 0) .nil)))
 (.cons (.ifs (.var 1)
 (.cons (.asg (.tp [2,3]) (.sl (.blt .min (.cons (.var 1) .nil)) (.yes (.int 1)) .no))
 (.cons (.ret (.call 18 (.cons (.var 0) (.cons (.var 2) (.cons (.var 3) .nil)))))
 .nil))
 .nil)
 (.cons (.ret (.tup (.cons (.bl false) (.cons (.comp 2 (.tp [4,5]) (.sq (.var 0)) (.yes (.and (.cmp .eq (.var 4) (.str "left")) (.cmp .eq (.ix (.var 5) (.int 0)) (.str "word")))) (.var 5)) .nil))))
 .nil)))),false⟩
def r_find_out:Rs:=(.cons (.ifs (.not (.blt .all (.cons (.comp 2 (.tp [1,2]) (.sq (.var 0)) .no (.call 15 (.cons (.var 2) .nil))) .nil)))
 (.cons (.rse "NotPlain")
 .nil)
 .nil)
 (.cons (.ifs (.cmp .gt (.blt .sum (.cons (.comp 2 (.tp [1,2]) (.sq (.var 0)) .no (.call 2 (.cons (.var 2) .nil))) .nil)) (.glob 5))
 (.cons (.rse "TooGreat")
 .nil)
 .nil)
 (.cons (.st (.ret (.call 19 (.cons (.var 0) .nil))))
 .nil)))
def x_find_out:Fd:=⟨"find_out",["row"],[],nB r_find_out,false⟩
def d_find_out:Fd:=⟨"find_out",["row"],[],
 (qX r_find_out),false⟩
def jP:Fd:=⟨"thing_of",["world","term","around"],[],
 (.cons (.ret (.ite (.call 1 (.cons (.var 1) .nil)) (.ix (.var 2) (.blt .toInt (.cons (.var 1) .nil))) (.dix (.ix (.var 0) (.int 1)) (.var 1))))
 .nil),false⟩
def kR:Fd:=⟨"word_so",["world","A","around"],["told"],
 (.cons (.asg (.nm 3) (.blt .toTup (.cons (.comp 1 (.nm 4) (.sq (.ix (.var 1) (.int 2))) .no (.call 21 (.cons (.var 0) (.cons (.var 4) (.cons (.var 2) .nil))))) .nil)))
 (.cons (.ret (.cmp .isin (.var 3) (.dgt (.ix (.var 0) (.int 2)) (.ix (.var 1) (.int 1)) (.lst .nil))))
 .nil)),false⟩
def dR:Fd:=⟨"so_within",["world","A","around"],["kind"],
 (.cons (.asg (.nm 3) (.ix (.var 1) (.int 0)))
 (.cons (.ifs (.cmp .eq (.var 3) (.str "word"))
 (.cons (.ret (.call 22 (.cons (.var 0) (.cons (.var 1) (.cons (.var 2) .nil)))))
 .nil)
 .nil)
 (.cons (.ifs (.cmp .isin (.var 3) (.glob 1))
 (.cons .bad
 .nil)
 .nil)
 (.cons (.ifs (.cmp .eq (.var 3) (.str "not"))
 (.cons (.ret (.not (.call 23 (.cons (.var 0) (.cons (.ix (.var 1) (.int 1)) (.cons (.var 2) .nil))))))
 .nil)
 .nil)
 (.cons (.ifs (.cmp .eq (.var 3) (.str "and"))
 (.cons (.ret (.and (.call 23 (.cons (.var 0) (.cons (.ix (.var 1) (.int 1)) (.cons (.var 2) .nil)))) (.call 23 (.cons (.var 0) (.cons (.ix (.var 1) (.int 2)) (.cons (.var 2) .nil))))))
 .nil)
 .nil)
 (.cons (.ifs (.cmp .eq (.var 3) (.str "or"))
 (.cons (.ret (.or (.call 23 (.cons (.var 0) (.cons (.ix (.var 1) (.int 1)) (.cons (.var 2) .nil)))) (.call 23 (.cons (.var 0) (.cons (.ix (.var 1) (.int 2)) (.cons (.var 2) .nil))))))
 .nil)
 .nil)
 (.cons (.ifs (.cmp .eq (.var 3) (.str "if"))
 (.cons (.ret (.or (.not (.call 23 (.cons (.var 0) (.cons (.ix (.var 1) (.int 1)) (.cons (.var 2) .nil))))) (.call 23 (.cons (.var 0) (.cons (.ix (.var 1) (.int 2)) (.cons (.var 2) .nil))))))
 .nil)
 .nil)
 (.cons (.ret (.cmp .eq (.var 3) (.str "yes")))
 .nil)))))))),false⟩
def IF:Fd:=⟨"so",["world","A"],[],
 (.cons (.ret (.call 23 (.cons (.var 0) (.cons (.var 1) (.cons (.lst .nil) .nil)))))
 .nil),false⟩
def d_holds:Fd:=⟨"holds",["world","row"],[],
 (.cons (.ret (.blt .any (.cons (.comp 2 (.tp [2,3]) (.sq (.var 1)) .no (.cmp .eq (.call 24 (.cons (.var 0) (.cons (.var 3) .nil))) (.cmp .eq (.var 2) (.str "right")))) .nil)))
 .nil),false⟩
def iQ:Fd:=⟨"_law_once",["_law_some"],["_law_row","_law_one"],
 (.cons (.new 1 (.lst .nil))
 (.cons (.for_ (.nm 2) (.sq (.blt .sorted (.cons (.var 0) .nil)))
 (.cons (.ifs (.cmp .notin (.var 2) (.sl (.pk 1) (.yes (.neg (.int 1))) .no))
 (.cons (.append 1 (.var 2))
 .nil)
 .nil)
 .nil))
 (.cons (.ret (.blt .toTup (.cons (.pk 1) .nil)))
 .nil))),false⟩
def iS:Fd:=⟨"_law_cell",["_law_script","_law_k"],["_law_number"],
 (.cons (.ifs (.cmp .lt (.var 1) (.blt .len (.cons (.var 0) .nil)))
 (.cons (.ret (.ix (.var 0) (.var 1)))
 .nil)
 .nil)
 (.cons (.asg (.nm 2) (.bin .add (.bin .mul (.var 1) (.int 7919)) (.int 5)))
 (.cons (.ifs (.cmp .gt (.blt .len (.cons (.var 0) .nil)) (.int 0))
 (.cons (.asg (.nm 2) (.bin .add (.bin .mod (.bin .mul (.ix (.var 0) (.bin .mod (.bin .mul (.var 1) (.int 7)) (.blt .len (.cons (.var 0) .nil)))) (.int 48271)) (.int 2147483647)) (.bin .mul (.var 1) (.int 104729))))
 .nil)
 .nil)
 (.cons (.ret (.bin .mod (.bin .mul (.var 2) (.var 2)) (.int 2147483629)))
 .nil)))),false⟩
def gW:Fd:=⟨"_law_cells",["_law_script","_law_least"],["_law_many"],
 (.cons (.asg (.nm 2) (.blt .min (.cons (.blt .max (.cons (.blt .len (.cons (.var 0) .nil)) (.cons (.var 1) .nil))) (.cons (.int 63) .nil))))
 (.cons (.ret (.comp 1 (.nm 3) (.rng (.var 2)) .no (.bin .mod (.call 27 (.cons (.var 0) (.cons (.var 3) .nil))) (.bin .pow (.int 10) (.int 40)))))
 .nil)),false⟩
def gw:Fd:=⟨"_law_family",["_law_cell_here","_law_filler"],["_law_size","_law_at"],
 (.cons (.asg (.nm 2) (.bin .add (.int 1) (.bin .mod (.var 0) (.int 7))))
 (.cons (.asg (.nm 3) (.bin .mod (.bin .fdiv (.var 0) (.int 7)) (.var 2)))
 (.cons (.ret (.comp 1 (.nm 4) (.sq (.str "bd")) .no (.bin .add (.bin .add (.bin .mul (.var 1) (.var 3)) (.var 4)) (.bin .mul (.var 1) (.bin .sub (.bin .sub (.var 2) (.int 1)) (.var 3))))))
 .nil))),false⟩
def iR:Fd:=⟨"_law_leaf",["_law_cell_here","_law_words","_law_names"],["_law_terms"],
 (.cons (.ifs (.cmp .eq (.bin .mod (.var 0) (.int 9)) (.int 0))
 (.cons (.ret (.ix (.lst (.cons (.tup (.cons (.str "yes") .nil)) (.cons (.tup (.cons (.str "no") .nil)) .nil))) (.bin .mod (.bin .fdiv (.var 0) (.int 9)) (.int 2))))
 .nil)
 .nil)
 (.cons (.asg (.nm 3) (.lst (.cons (.ix (.var 2) (.bin .mod (.bin .fdiv (.var 0) (.int 18)) (.int 2))) (.cons (.ix (.var 2) (.bin .mod (.bin .fdiv (.var 0) (.int 36)) (.int 2))) .nil))))
 (.cons (.ret (.tup (.cons (.str "word") (.cons (.ix (.var 1) (.bin .mod (.bin .fdiv (.var 0) (.int 9)) (.int 2))) (.cons (.blt .toTup (.cons (.sl (.var 3) .no (.yes (.ix (.lst (.cons (.int 0) (.cons (.int 1) (.cons (.int 1) (.cons (.int 2) .nil))))) (.bin .mod (.bin .fdiv (.var 0) (.int 72)) (.int 4))))) .nil)) .nil)))))
 .nil))),false⟩
def eA:Fd:=⟨"_law_built",["_law_cells_here","_law_words","_law_names","_law_most"],["_law_stack","_law_laid","_law_cell_here","_law_way","_law_two","_law_one"],
 (.cons (.new 4 (.lst .nil))
 (.cons (.asg (.nm 5) (.int 0))
 (.cons (.for_ (.nm 6) (.sq (.var 0))
 (.cons (.asg (.nm 7) (.bin .mod (.var 6) (.int 7)))
 (.cons (.ifs (.and (.cmp .lt (.var 7) (.int 3)) (.and (.cmp .gt (.blt .len (.cons (.pk 4) .nil)) (.int 1)) (.cmp .lt (.var 5) (.var 3))))
 (.cons (.asg (.nm 8) (.pop 4))
 (.cons (.asg (.nm 9) (.pop 4))
 (.cons (.append 4 (.tup (.cons (.ix (.lst (.cons (.str "and") (.cons (.str "or") (.cons (.str "if") .nil)))) (.var 7)) (.cons (.var 9) (.cons (.var 8) .nil)))))
 (.cons (.aug 5 .add (.int 1))
 .nil))))
 (.cons (.ifs (.and (.cmp .eq (.var 7) (.int 3)) (.and (.cmp .ne (.pk 4) (.lst .nil)) (.cmp .lt (.var 5) (.var 3))))
 (.cons (.append 4 (.tup (.cons (.str "not") (.cons (.pop 4) .nil))))
 (.cons (.aug 5 .add (.int 1))
 .nil))
 (.cons (.ifs (.cmp .lt (.blt .len (.cons (.pk 4) .nil)) (.int 9))
 (.cons (.append 4 (.call 30 (.cons (.bin .fdiv (.var 6) (.int 7)) (.cons (.var 1) (.cons (.var 2) .nil)))))
 .nil)
 .nil)
 .nil))
 .nil))
 .nil)))
 (.cons (.while_ (.cmp .lt (.var 5) (.var 3))
 (.cons (.append 4 (.tup (.cons (.str "not") (.cons (.pop 4) .nil))))
 (.cons (.aug 5 .add (.int 1))
 .nil)))
 (.cons (.ret (.var 4))
 .nil))))),false⟩
def my:Fd:=⟨"_law_parts",["_law_side","_law_s","_law_name"],["_law_other","_law_one"],
 (.cons (.asg (.nm 3) (.ix (.lst (.cons (.str "left") (.cons (.str "right") .nil))) (.blt .toInt (.cons (.cmp .eq (.var 0) (.str "left")) .nil))))
 (.cons (.ifs (.cmp .eq (.ix (.var 1) (.int 0)) (.str "not"))
 (.cons (.ret (.lst (.cons (.lst (.cons (.tup (.cons (.var 3) (.cons (.ix (.var 1) (.int 1)) .nil))) .nil)) .nil)))
 .nil)
 .nil)
 (.cons (.ifs (.or (.cmp .eq (.ix (.var 1) (.int 0)) (.str "all")) (.cmp .eq (.ix (.var 1) (.int 0)) (.str "some")))
 (.cons .bad
 .nil)
 .nil)
 (.cons (.ifs (.cmp .notin (.ix (.var 1) (.int 0)) (.tup (.cons (.str "and") (.cons (.str "or") (.cons (.str "if") .nil)))))
 (.cons .bad
 .nil)
 .nil)
 (.cons (.asg (.nm 4) (.tup (.cons (.var 0) (.cons (.ix (.var 1) (.int 1)) .nil))))
 (.cons (.ifs (.cmp .eq (.ix (.var 1) (.int 0)) (.str "if"))
 (.cons (.asg (.nm 4) (.tup (.cons (.var 3) (.cons (.ix (.var 1) (.int 1)) .nil))))
 .nil)
 .nil)
 (.cons (.ifs (.cmp .eq (.cmp .eq (.ix (.var 1) (.int 0)) (.str "and")) (.cmp .eq (.var 0) (.str "left")))
 (.cons (.ret (.lst (.cons (.lst (.cons (.var 4) (.cons (.tup (.cons (.var 0) (.cons (.ix (.var 1) (.int 2)) .nil))) .nil))) .nil)))
 .nil)
 .nil)
 (.cons (.ret (.lst (.cons (.lst (.cons (.var 4) .nil)) (.cons (.lst (.cons (.tup (.cons (.var 0) (.cons (.ix (.var 1) (.int 2)) .nil))) .nil)) .nil))))
 .nil)))))))),false⟩
def gx:Fd:=⟨"_law_closes",["_law_row"],["_law_side","_law_s"],
 (.cons (.ifs (.or (.cmp .isin (.tup (.cons (.str "left") (.cons (.tup (.cons (.str "no") .nil)) .nil))) (.var 0)) (.cmp .isin (.tup (.cons (.str "right") (.cons (.tup (.cons (.str "yes") .nil)) .nil))) (.var 0)))
 (.cons (.ret (.bl true))
 .nil)
 .nil)
 (.cons (.for_ (.tp [1,2]) (.sq (.var 0))
 (.cons (.ifs (.and (.cmp .eq (.var 1) (.str "left")) (.cmp .isin (.tup (.cons (.str "right") (.cons (.var 2) .nil))) (.var 0)))
 (.cons (.ret (.bl true))
 .nil)
 .nil)
 .nil))
 (.cons .bad
 .nil))),false⟩
def gU:Fd:=⟨"_law_signs",["_law_ka"],[],
 (.cons (.ifs (.cmp .eq (.ix (.var 0) (.int 0)) (.str "word"))
 (.cons (.ret (.int 0))
 .nil)
 .nil)
 (.cons (.ret (.bin .add (.blt .toInt (.cons (.cmp .gt (.blt .len (.cons (.var 0) .nil)) (.int 1)) .nil)) (.blt .sum (.cons (.comp 1 (.nm 1) (.sq (.sl (.var 0) (.yes (.int 1)) .no)) .no (.call 34 (.cons (.var 1) .nil))) .nil))))
 .nil)),false⟩
def cH:Fd:=⟨"_law_fits",["_law_row","_law_tree"],["_law_branches","_law_k"],
 (.cons (.ifs (.cmp .eq (.var 1) (.tup (.cons (.str "close") .nil)))
 (.cons (.ret (.call 33 (.cons (.var 0) .nil)))
 .nil)
 .nil)
 (.cons (.ifs (.or (.not (.blt .isTup (.cons (.var 1) .nil))) (.or (.cmp .ne (.blt .len (.cons (.var 1) .nil)) (.int 5)) (.or (.cmp .ne (.ix (.var 1) (.int 0)) (.str "rule")) (.cmp .ne (.ix (.var 1) (.int 3)) (.str "")))))
 (.cons .bad
 .nil)
 .nil)
 (.cons (.ifs (.or (.cmp .notin (.tup (.cons (.ix (.var 1) (.int 1)) (.cons (.ix (.var 1) (.int 2)) .nil))) (.var 0)) (.not (.blt .isTup (.cons (.ix (.var 1) (.int 4)) .nil))))
 (.cons .bad
 .nil)
 .nil)
 (.cons (.asg (.nm 2) (.call 32 (.cons (.ix (.var 1) (.int 1)) (.cons (.ix (.var 1) (.int 2)) (.cons (.str "") .nil)))))
 (.cons (.ifs (.or (.cmp .eq (.blt .len (.cons (.var 2) .nil)) (.int 0)) (.cmp .ne (.blt .len (.cons (.var 2) .nil)) (.blt .len (.cons (.ix (.var 1) (.int 4)) .nil))))
 (.cons .bad
 .nil)
 .nil)
 (.cons (.for_ (.nm 3) (.rng (.blt .len (.cons (.var 2) .nil)))
 (.cons (.ifs (.not (.call 35 (.cons (.bin .add (.var 0) (.ix (.var 2) (.var 3))) (.cons (.ix (.ix (.var 1) (.int 4)) (.var 3)) .nil))))
 (.cons .bad
 .nil)
 .nil)
 .nil))
 (.cons (.ret (.bl true))
 .nil))))))),false⟩
def fG:Fd:=⟨"_law_so",["_law_words","_law_ka"],[],
 (.cons (.ifs (.cmp .eq (.ix (.var 1) (.int 0)) (.str "word"))
 (.cons (.ret (.cmp .isin (.var 1) (.var 0)))
 .nil)
 .nil)
 (.cons (.ifs (.cmp .eq (.ix (.var 1) (.int 0)) (.str "not"))
 (.cons (.ret (.not (.call 36 (.cons (.var 0) (.cons (.ix (.var 1) (.int 1)) .nil)))))
 .nil)
 .nil)
 (.cons (.ifs (.cmp .eq (.ix (.var 1) (.int 0)) (.str "and"))
 (.cons (.ret (.and (.call 36 (.cons (.var 0) (.cons (.ix (.var 1) (.int 1)) .nil))) (.call 36 (.cons (.var 0) (.cons (.ix (.var 1) (.int 2)) .nil)))))
 .nil)
 .nil)
 (.cons (.ifs (.cmp .eq (.ix (.var 1) (.int 0)) (.str "or"))
 (.cons (.ret (.or (.call 36 (.cons (.var 0) (.cons (.ix (.var 1) (.int 1)) .nil))) (.call 36 (.cons (.var 0) (.cons (.ix (.var 1) (.int 2)) .nil)))))
 .nil)
 .nil)
 (.cons (.ifs (.cmp .eq (.ix (.var 1) (.int 0)) (.str "if"))
 (.cons (.ret (.or (.call 36 (.cons (.var 0) (.cons (.ix (.var 1) (.int 2)) .nil))) (.not (.call 36 (.cons (.var 0) (.cons (.ix (.var 1) (.int 1)) .nil))))))
 .nil)
 .nil)
 (.cons (.ret (.cmp .eq (.ix (.var 1) (.int 0)) (.str "yes")))
 .nil)))))),false⟩
def wd__law_world:List Wt:=[.st (.newd 2),
 .wl 2 3 (.sq (.var 0)) (.ix (.var 3) (.int 1)) (.blt .toTup (.cons (.comp 1 (.nm 4) (.sq (.ix (.var 3) (.int 2))) .no (.mt .index (.var 1) (.var 4))) .nil)),
 .rw 2 2 (.ix (.var 1) (.int 0)) (.int 0) (.ix (.var 1) (.int 1)) (.int 1)]
def d__law_world:Fd:=⟨"_law_world",["_law_words","_law_names"],["_law_facts","_law_word"],
 (wdS wd__law_world),false⟩
def ft:Fd:=⟨"_law_leaves",["_law_ka"],["_law_leaves_met","_law_part"],
 (.cons (.ifs (.cmp .eq (.ix (.var 0) (.int 0)) (.str "word"))
 (.cons (.ret (.lst (.cons (.var 0) .nil)))
 .nil)
 .nil)
 (.cons (.asg (.nm 1) (.lst .nil))
 (.cons (.for_ (.nm 2) (.sq (.sl (.var 0) (.yes (.int 1)) .no))
 (.cons (.asg (.nm 1) (.bin .add (.var 1) (.call 38 (.cons (.var 2) .nil))))
 .nil))
 (.cons (.ret (.var 1))
 .nil)))),false⟩
def iP:Fd:=⟨"_law_open",["_law_row","_law_words"],["_law_standing","_law_side","_law_ka","_law_k"],
 (.cons (.ifs (.not (.blt .isList (.cons (.var 1) .nil)))
 (.cons .bad
 .nil)
 .nil)
 (.cons (.asg (.nm 2) (.lst .nil))
 (.cons (.for_ (.tp [3,4]) (.sq (.var 0))
 (.cons (.asg (.nm 2) (.bin .add (.var 2) (.call 38 (.cons (.var 4) .nil))))
 .nil))
 (.cons (.for_ (.nm 5) (.rng (.blt .len (.cons (.var 1) .nil)))
 (.cons (.ifs (.or (.cmp .notin (.ix (.var 1) (.var 5)) (.var 2)) (.and (.cmp .gt (.var 5) (.int 0)) (.not (.cmp .lt (.ix (.var 1) (.bin .sub (.var 5) (.int 1))) (.ix (.var 1) (.var 5))))))
 (.cons .bad
 .nil)
 .nil)
 .nil))
 (.cons (.for_ (.tp [3,4]) (.sq (.var 0))
 (.cons (.ifs (.cmp .ne (.call 36 (.cons (.var 1) (.cons (.var 4) .nil))) (.cmp .eq (.var 3) (.str "left")))
 (.cons .bad
 .nil)
 .nil)
 .nil))
 (.cons (.ret (.bl true))
 .nil)))))),false⟩
def ups:List (Str × List Str):=[("NotPlain",["NotPlain","CutlessError"]),("TooGreat",["TooGreat","CutlessError"])]
def pcs:List Str:=["CutlessError","NotPlain","TooGreat"]
def y__law_asked:List Yt:=[.st (.asg (.nm 1) .non),
 .tn (.cons (.asg (.nm 1) (.call 20 (.cons (.var 0) .nil)))
 .nil),
 .st (.ret (.var 1))]
def d__law_asked:Fd:=⟨"_law_asked",["_law_row"],["_law_answer"],
 (yS ups y__law_asked),false⟩
def gB:Fd:=⟨"_law_told",["_law_row","_law_names"],["_law_answer","_law_words"],
 (.cons (.asg (.nm 2) (.call 40 (.cons (.var 0) .nil)))
 (.cons (.ifs (.or (.not (.blt .isTup (.cons (.var 2) .nil))) (.or (.cmp .ne (.blt .len (.cons (.var 2) .nil)) (.int 2)) (.cmp .ne (.call 40 (.cons (.var 0) .nil)) (.var 2))))
 (.cons .bad
 .nil)
 .nil)
 (.cons (.ifs (.cmp .is (.ix (.var 2) (.int 0)) (.bl true))
 (.cons (.cmp false 3 (.comp 1 (.nm 4) (.sq (.var 0)) (.yes (.and (.cmp .eq (.ix (.var 4) (.int 0)) (.str "left")) (.cmp .eq (.ix (.ix (.var 4) (.int 1)) (.int 0)) (.str "word")))) (.ix (.var 4) (.int 1))))
 (.cons (.ret (.and (.call 35 (.cons (.blt .toLst (.cons (.var 0) .nil)) (.cons (.ix (.var 2) (.int 1)) .nil))) (.cmp .is (.call 25 (.cons (.call 37 (.cons (.var 3) (.cons (.var 1) .nil))) (.cons (.var 0) .nil))) (.bl true))))
 .nil))
 .nil)
 (.cons (.ret (.and (.cmp .is (.ix (.var 2) (.int 0)) (.bl false)) (.and (.call 39 (.cons (.var 0) (.cons (.ix (.var 2) (.int 1)) .nil))) (.cmp .is (.call 25 (.cons (.call 37 (.cons (.ix (.var 2) (.int 1)) (.cons (.var 1) .nil))) (.cons (.var 0) .nil))) (.bl false)))))
 .nil)))),false⟩
def y__law_refused:List Yt:=[.st (.asg (.nm 1) (.tup (.cons (.bl false) (.cons (.bl false) (.cons (.bl false) .nil))))),
 .tr (.cons (.cal .bad 20 44 (.cons (.var 0) .nil))
 .nil) 2 (.tup 1 [(.isI "NotPlain"),(.isI "TooGreat"),.ty] .nil),
 .st (.ret (.var 1))]
def d__law_refused:Fd:=⟨"_law_refused",["_law_row"],["_law_kinds","e"],
 (yS ups y__law_refused),false⟩
def d_law:Fd:=⟨"law",["_law_script"],["_law_words","_law_names","_law_most","_law_way","_law_stack","_law_row","_law_k","_law_at","_law_ka","_law_bound","_law_leaf_here","_law_some"],
 (.cons (.asg (.nm 1) (.call 29 (.cons (.call 27 (.cons (.var 0) (.cons (.int 64) .nil))) (.cons (.str "q") .nil))))
 (.cons (.asg (.nm 2) (.call 29 (.cons (.call 27 (.cons (.var 0) (.cons (.int 65) .nil))) (.cons (.str "z") .nil))))
 (.cons (.ifs (.not (.call 41 (.cons (.tup .nil) (.cons (.var 2) .nil))))
 (.cons .bad
 .nil)
 .nil)
 (.cons (.asg (.nm 3) (.bin .mod (.call 27 (.cons (.var 0) (.cons (.int 66) .nil))) (.int 8)))
 (.cons (.asg (.nm 4) (.bin .mod (.call 27 (.cons (.var 0) (.cons (.int 67) .nil))) (.int 6)))
 (.cons (.ifs (.cmp .eq (.var 4) (.int 0))
 (.cons (.asg (.nm 3) (.int 8))
 .nil)
 .nil)
 (.cons (.ifs (.cmp .eq (.var 4) (.int 1))
 (.cons (.asg (.nm 3) (.bin .add (.int 9) (.bin .mod (.call 27 (.cons (.var 0) (.cons (.int 66) .nil))) (.int 4))))
 .nil)
 .nil)
 (.cons (.asg (.nm 5) (.call 31 (.cons (.call 28 (.cons (.var 0) (.cons (.int 8) .nil))) (.cons (.var 1) (.cons (.var 2) (.cons (.var 3) .nil))))))
 (.cons (.new 6 (.lst .nil))
 (.cons (.for_ (.nm 7) (.rng (.blt .len (.cons (.var 5) .nil)))
 (.cons (.append 6 (.tup (.cons (.ix (.lst (.cons (.str "left") (.cons (.str "right") .nil))) (.bin .mod (.bin .fdiv (.call 27 (.cons (.var 0) (.cons (.var 7) .nil))) (.int 5)) (.int 2))) (.cons (.ix (.var 5) (.var 7)) .nil))))
 .nil))
 (.cons (.ifs (.cmp .eq (.bin .mod (.call 27 (.cons (.var 0) (.cons (.int 68) .nil))) (.int 9)) (.int 0))
 (.cons (.asg (.nm 8) (.bin .mod (.call 27 (.cons (.var 0) (.cons (.int 69) .nil))) (.blt .len (.cons (.pk 6) .nil))))
 (.cons (.asg (.nm 9) (.ix (.ix (.pk 6) (.var 8)) (.int 1)))
 (.cons (.asg (.nm 10) (.tup (.cons (.ix (.lst (.cons (.str "all") (.cons (.str "some") .nil))) (.bin .mod (.call 27 (.cons (.var 0) (.cons (.int 69) .nil))) (.int 2))) (.cons (.var 9) .nil))))
 (.cons (.asg (.nm 11) (.call 30 (.cons (.bin .fdiv (.call 27 (.cons (.var 0) (.cons (.int 70) .nil))) (.int 5)) (.cons (.var 1) (.cons (.var 2) .nil)))))
 (.cons (.asg (.nm 12) (.lst (.cons (.var 10) (.cons (.tup (.cons (.str "not") (.cons (.var 10) .nil))) (.cons (.tup (.cons (.str "and") (.cons (.var 11) (.cons (.var 10) .nil)))) (.cons (.tup (.cons (.str "or") (.cons (.var 10) (.cons (.var 11) .nil)))) (.cons (.tup (.cons (.str "if") (.cons (.var 11) (.cons (.var 10) .nil)))) .nil)))))))
 (.cons (.setix 6 (.var 8) (.tup (.cons (.ix (.ix (.pk 6) (.var 8)) (.int 0)) (.cons (.ix (.var 12) (.bin .mod (.call 27 (.cons (.var 0) (.cons (.int 70) .nil))) (.int 5))) .nil))))
 (.cons (.ret (.cmp .eq (.call 42 (.cons (.call 26 (.cons (.var 6) .nil)) .nil)) (.tup (.cons (.bl true) (.cons (.bl false) (.cons (.bl true) .nil))))))
 .nil)))))))
 .nil)
 (.cons (.asg (.nm 6) (.call 26 (.cons (.var 6) .nil)))
 (.cons (.ifs (.cmp .gt (.blt .sum (.cons (.comp 1 (.nm 13) (.sq (.var 6)) .no (.call 34 (.cons (.ix (.var 13) (.int 1)) .nil))) .nil)) (.int 8))
 (.cons (.ret (.cmp .eq (.call 42 (.cons (.var 6) .nil)) (.tup (.cons (.bl false) (.cons (.bl true) (.cons (.bl true) .nil))))))
 .nil)
 .nil)
 (.cons (.ret (.call 41 (.cons (.var 6) (.cons (.var 2) .nil))))
 .nil)))))))))))))),false⟩
noncomputable instance xsi:Xs:=⟨[(20,44)]⟩
def Gd:List Fd:=[wm,jR,oU,gR,uo,mx,mw,jZ,zI,wj,kS,gu,gT,iO,gK,jQ,kT,gS,gf,jS,d_find_out,jP,kR,dR,IF,d_holds,iQ,iS,gW,gw,iR,eA,my,gx,gU,cH,fG,d__law_world,ft,iP,d__law_asked,gB,d__law_refused,d_law]
def Gs:List Fd:=[wm,jR,oU,gR,uo,mx,mw,jZ,zI,wj,kS,gu,gT,iO,gK,jQ,kT,gS,gf,jS,d_find_out,jP,kR,dR,IF,d_holds,iQ,iS,gW,gw,iR,eA,my,gx,gU,cH,fG,d__law_world,ft,iP,d__law_asked,gB,d__law_refused,d_law,x_find_out]
noncomputable instance tbs:Tbs:=⟨[],[],[],[]⟩
def pls:List (String × Nat):=[("inside",7),("is_place",8),("signs",9),("sorted_row",17),("more",18),("closes",19),("other_side",21),("signed_within",22),("parts",23),("is_own",24),("kids_of",27),("added_above",28),("rows_above",29),("stands_at",30),("fits",31),("is_plain",34),("adds_to",35),("rules_left",36),("found_by",37),("found_at",38),("find_out",39),("thing_of",41),("word_so",42),("so_within",45),("so",46),("holds",47),("_law_once",49),("_law_cell",50),("_law_cells",51),("_law_family",52),("_law_leaf",53),("_law_built",54),("_law_parts",56),("_law_closes",57),("_law_signs",58),("_law_fits",59),("_law_so",60),("_law_world",61),("_law_leaves",62),("_law_open",63),("_law_asked",64),("_law_told",65),("_law_refused",66),("law",67)]
def gls:List D:=[.tup [.str "yes",.str "no",.str "word"],.tup [.str "all",.str "some"],.tup [.tup [.str "right",.str "and"],.tup [.str "left",.str "or"],.tup [.str "left",.str "if"]],.tup [.tup [.str "right",.str "all"],.tup [.str "left",.str "some"]],.tup [.str "close"],.int 8]
def gns:List Str:=["LEAVES","BINDERS","FORKS","OWN","CLOSE","MOST_SIGNS"]
inductive B | and | or | imp
inductive U | neg | all | ex
def U.s:U->Str | .neg=>"not" | .all=>"all" | .ex=>"some"
def B.s:B->Str | .and=>"and" | .or=>"or" | .imp=>"if"
inductive F where
 | yes | no | word (w:Str) (ts:List Str) | un (u:U) (a:F) | bi (b:B) (x y:F)
def hd:F->Str
 | .yes=>"yes" | .no=>"no" | .word _ _=>"word" | .un u _=>u.s | .bi b _ _=>b.s
def enc:F->D
 | .yes=>.tup [.str "yes"]
 | .no=>.tup [.str "no"]
 | .word w ts=>.tup [.str "word",.str w,.tup (ts.map .str)]
 | .un u a=>.tup [.str u.s,enc a]
 | .bi b x y=>.tup [.str b.s,enc x,enc y]
def tl:F->List D
 | .yes | .no=>[]
 | .word w ts=>[.str w,.tup (ts.map .str)]
 | .un _ a=>[enc a]
 | .bi _ x y=>[enc x,enc y]
def lL (A:F):enc A = .tup (.str (hd A)::tl A):=by cases A<;>rfl
def kd:F->Nat
 | .yes=>0 | .no=>1 | .word _ _=>2 | .un _ _=>3 | .bi _ _ _=>4
def kdS (s:Str):Nat:=if s = "yes" then 0 else if s = "no" then 1 else if s = "word" then 2 else if s = "not" then 3 else if s = "all" then 3 else if s = "some" then 3 else 4
def Ew:∀ A:F,kdS (hd A) = kd A
 | .yes=>(by decide:kdS "yes" = 0)
 | .no=>(by decide:kdS "no" = 1)
 | .word _ _=>(by decide:kdS "word" = 2)
 | .un .neg _=>(by decide:kdS "not" = 3)
 | .un .all _=>(by decide:kdS "all" = 3)
 | .un .ex _=>(by decide:kdS "some" = 3)
 | .bi .and _ _=>(by decide:kdS "and" = 4)
 | .bi .or _ _=>(by decide:kdS "or" = 4)
 | .bi .imp _ _=>(by decide:kdS "if" = 4)
def nI {A B:F} (h:hd A = hd B):kd A = kd B:=by rw [<- Ew A,<- Ew B,h]
def sz:F->Nat
 | .un _ a=>sz a+1
 | .bi _ x y=>sz x+sz y+1
 | _=>1
def jO (x:Str):dep (.str x) = 0:=by unfold dep;rfl
def wb:∀ ts:List Str,cb (ts.map D.str) = 0
 | []=>by unfold cb;rfl
 | t::ts=>by rw [az];unfold cb;rw [wb ts,jO];rfl
def hF:F->Nat
 | .un _ a=>hF a+1
 | .bi _ x y=>max (hF x) (hF y)+1
 | _=>1
def lx:∀ A:F,hF A<=sz A
 | .yes | .no | .word _ _=>aA _
 | .un _ a=>by have:=lx a;simp only [hF,sz];lia
 | .bi _ x y=>by have:=lx x;have:=lx y;simp only [hF,sz];lia
def mv:∀ A:F,dep (enc A)<=hF A+1
 | .yes | .no=>by unfold enc;simp [dep,cb,hF]
 | .word w ts=>by unfold enc;simp [dep,cb,wb,hF]
 | .un _ a=>by have:=mv a;unfold enc;simp [dep,cb,hF];lia
 | .bi b x y=>by have:=mv x;have:=mv y;unfold enc;simp [dep,cb,hF];lia
def fA (A:F):dep (enc A)<=sz A+1:=by have:=mv A;have:=lx A;lia
def zB:∀ ts us:List Str,fm (ts.map D.str) (us.map D.str) = true->ts = us
 | [],[],_=>rfl
 | [],_::_,h=>by unfold fm at h;cases h
 | _::_,[],h=>by unfold fm at h;cases h
 | t::ts,u::us,h=>by
   rw [az,az] at h;unfold fm eqD at h;rw [aa] at h;rw [show t = u by simpa using h.1,zB ts us h.2]
def nK {A B:F} (h:eqD (enc A) (enc B) = true):hd A = hd B/\fm (tl A) (tl B) = true:=by
 rw [lL,lL] at h;unfold eqD fm eqD at h;rw [aa] at h;exact ⟨by simpa using h.1,h.2⟩
def OG {a b:D} (h:fm [a] [b] = true):eqD a b = true:=by
 unfold fm at h;rw [aa] at h;exact h.1
def Mn {a b x y:D} (h:fm [a,x] [b,y] = true):eqD a b = true/\eqD x y = true:=by
 unfold fm at h;rw [aa] at h;exact ⟨h.1,OG h.2⟩
def MJ:∀ b c:B,b.s = c.s->b = c
 | .and,.and,_ | .or,.or,_ | .imp,.imp,_=>rfl
 | .and,.or,h | .and,.imp,h | .or,.and,h | .or,.imp,h | .imp,.and,h | .imp,.or,h=>absurd h ⇑0
def Kh:∀ b c:U,b.s = c.s->b = c
 | .neg,.neg,_ | .all,.all,_ | .ex,.ex,_=>rfl
 | .neg,.all,h | .neg,.ex,h | .all,.neg,h | .all,.ex,h | .ex,.neg,h | .ex,.all,h=>absurd h ⇑0
def qm:∀ A B:F,eqD (enc A) (enc B) = true->A = B
 | .yes,B,h=>by
   have this:=nI (nK h).1
   cases B with
   | yes=>rfl
   | _=>exact absurd this (by simp [kd])
 | .no,B,h=>by
   have this:=nI (nK h).1
   cases B with
   | no=>rfl
   | _=>exact absurd this (by simp [kd])
 | .word w ts,B,h=>by
   have this:=nI (nK h).1;have h2:=(nK h).2
   cases B with
   | word v us =>
     obtain ⟨h3,h4⟩:=Mn h2;unfold eqD at h3 h4
     rw [show w = v by simpa using h3,zB ts us h4]
   | _=>exact absurd this (by simp [kd])
 | .un u a,B,h=>by
   have this':=(nK h).1;have this:=nI this';have h2:=(nK h).2
   cases B with
   | un v b=>rw [Kh u v this',qm a b (OG h2)]
   | _=>exact absurd this (by simp [kd])
 | .bi b x y,B,h=>by
   have this':=(nK h).1;have this:=nI this';have h2:=(nK h).2
   cases B with
   | bi c u v =>
     obtain ⟨h3,h4⟩:=Mn h2
     rw [MJ b c this',qm x u h3,qm y v h4]
   | _=>exact absurd this (by simp [kd])
def sd (L:Bool):Str:=if L then "left" else "right"
abbrev It:=Bool × F
def itD (p:It):D:=.tup [.str (sd p.1),enc p.2]
def KA:∀ b c:Bool,sd b = sd c->b = c:=by decide
def EV {p q:It} (h:eqD (itD p) (itD q) = true):p = q:=by
 unfold itD eqD at h;obtain ⟨h1,h2⟩:=Mn h;unfold eqD at h1;obtain ⟨a,A⟩:=p;obtain ⟨b,B⟩:=q;rw [show a = b from KA a b (by simpa using h1),show A = B from qm A B h2]
def low (ps:List It):Prop:=∀ p∈ps,sz p.2<=61
def gJ (p:It) (h:sz p.2<=61):dep (itD p)<=64:=by
 have:=fA p.2;unfold itD;simp only [dep,cb,jO]
 lia
def mr:∀ {ps:List It},low ps->cb (ps.map itD)<=64
 | [],_=>by show cb ([]:List D)<=64;unfold cb;lia
 | p::ps,h=>by
   rw [az];unfold cb;have:=gJ p (h p av);have:=mr (ps:=ps) λq hq=>h q (ai _ hq)
   lia
def eq_self (p:It) (h:sz p.2<=61):eqD (itD p) (itD p) = true:=iw _ (by have:=gJ p h;lia)
def has (ps:List It) (q:It):Bool:=(ps.map itD).any λy=>eqD y (itD q)
def dM {ps:List It} {q:It} (h:low ps):has ps q = true↔q∈ps:=by
 unfold has;rw [cz];constructor
 . rintro ⟨y,hy,e⟩;obtain ⟨p,hp,rfl⟩:=bG.mp hy;rw [<- EV e];exact hp
 . intro hq;exact ⟨_,By hq,eq_self q (h q hq)⟩
def EK {ps:List It} {q:It} (h:low ps) (hq:sz q.2<=61):dep (itD q)<=150/\cb (ps.map itD) < 99999:=⟨by have:=gJ q hq;lia,by have:=mr h;lia⟩
def ltn (ys:List D):(dv [] ys).isSome = true:=by cases ys<;>(unfold dv;rfl)
def Pm (ys:List D):(dv ys []).isSome = true:=by cases ys<;>(unfold dv;rfl)
def ltc {x y:D} {xs ys:List D} (h:(ltD x y).isSome = true) (h2:(dv xs ys).isSome = true):(dv (x::xs) (y::ys)).isSome = true:=by
 unfold dv;split
 . exact h2
 . exact h
def lts {s t:Str} {xs ys:List D} (h:s = t->(dv xs ys).isSome = true):(dv (.str s::xs) (.str t::ys)).isSome = true:=by
 unfold dv;split
 . rename_i e;exact h (by unfold eqD at e;simpa using e)
 . unfold ltD;rfl
def zd:∀ xs ys:List Str,(dv (xs.map D.str) (ys.map D.str)).isSome = true
 | [],ys=>ltn _
 | xs,[]=>Pm _
 | x::xs,y::ys=>lts λ_=>zd xs ys
def jG {xs ys:List D} (h:(dv xs ys).isSome = true):(ltD (.tup xs) (.tup ys)).isSome = true:=by unfold ltD;exact h
def mV:∀ A B:F,(ltD (enc A) (enc B)).isSome = true
 | .yes,B=>by rw [lL B];exact jG (lts λ_=>ltn _)
 | .no,B=>by rw [lL B];exact jG (lts λ_=>ltn _)
 | .word w ts,B=>by
   rw [lL B];refine jG (lts λe=>?_);have e:hd (.word w ts) = hd B:=e
   cases B with
   | word v us=>exact lts λ_=>ltc (jG (zd ts us)) (ltn _)
   | _=>exact absurd (nI e) (by simp [kd])
 | .un u a,B=>by
   rw [lL B];refine jG (lts λe=>?_);have e:hd (.un u a) = hd B:=e
   cases B with
   | un v b=>exact ltc (mV a b) (ltn _)
   | _=>exact absurd (nI e) (by simp [kd])
 | .bi b x y,B=>by
   rw [lL B];refine jG (lts λe=>?_);have e:hd (.bi b x y) = hd B:=e
   cases B with
   | bi c u v=>exact ltc (mV x u) (ltc (mV y v) (ltn _))
   | _=>exact absurd (nI e) (by simp [kd])
def lW {row:List It} (h:low row) (hl:row.length < 64):sortable (row.map itD) = true:=by
 unfold PP.sortable;simp only [aa,decide_eq_true_eq,aW];refine ⟨⟨by rw [aw];exact hl,λx hx=>?_⟩,λx hx y hy=>?_⟩
 . have k:∀ d∈row.map itD,bJ d = 3:=λd hd=>by
    obtain ⟨p,_,rfl⟩:=bG.mp hd;rfl
   cases e:row.map itD with
   | nil=>rw [e] at hx;cases hx
   | cons z zs =>
     have e2:bJ ((z::zs).getD 0 .non) = 3:=k z (by rw [e];exact av);rw [k x hx,e2];exact ⟨rfl,rfl⟩
 . obtain ⟨p,hp,rfl⟩:=bG.mp hx;obtain ⟨q,hq,rfl⟩:=bG.mp hy;have:=gJ p (h p hp);have:=gJ q (h q hq);unfold iX;rw [if_pos ∅];exact jG (lts λ_=>ltc (mV _ _) (ltn _))
instance:Inhabited F:=⟨.yes⟩
def mP {α:Type} [Inhabited α] (g:α->D) (xs:List α):∃ ys:List α,jX (xs.map g) = ys.map g/\ys.Perm xs:=by
 unfold jX;rw [aw];split
 . exact ⟨xs,rfl,.refl _⟩
 . have p:=jk (lt:=fR (xs.map g)) xs.length;refine ⟨(ans (fR (xs.map g)) (PySem.W.kas_sort xs.length)).toList.map λi=>xs.getD i default,?_,?_⟩
   . rw [fX];refine Bz λi hi=>?_;have hi:i < xs.length:=dS.mp (p.mem_iff.mp hi);show (xs.map g).getD i .non = g (xs.getD i default);rw [bN,bj,bN,aB hi];rfl
   . refine (p.map _).trans ?_;rw [rh default (λx=>x) xs,List.map_id']
def srt (xs:List It):List It:=Classical.choose (mP itD xs)
def xv (xs:List It):jX (xs.map itD) = (srt xs).map itD:=(si (mP itD xs)).1
def ib (xs:List It):(srt xs).Perm xs:=(si (mP itD xs)).2
def isL (acc:List It) (x:It):Bool:=match acc.getLast? with
 | some y=>eqD (itD y) (itD x)
 | none=>false
def dd:List It->List It->List It
 | acc,[]=>acc
 | acc,x::xs=>dd (if isL acc x = true then acc else acc++[x]) xs
def mo (l:List It):List It:=dd [] (srt l)
def Iw {acc:List It} {x:It} (h:isL acc x = true):x∈acc:=by
 unfold isL at h;split at h
 . rename_i y e;rw [<- EV h];exact zQ e
 . cases h
def EY {p:It}:∀ (xs acc:List It),p∈dd acc xs↔p∈acc\/p∈xs
 | [],acc=>by simp [dd]
 | x::xs,acc=>by
   unfold dd;rw [EY xs];split
   . rename_i h;have:=Iw h;constructor
     . rintro (z | z)
       . exact .inl z
       . exact .inr (ai _ z)
     . rintro (z | z)
       . exact .inl z
       . rcases aD.mp z with z | z
         . rw [z];exact .inl this
         . exact .inr z
   . rw [aN,aC,aD,or_assoc]
def EZ:∀ (xs acc:List It),(dd acc xs).length<=acc.length+xs.length
 | [],acc=>by simp [dd]
 | x::xs,acc=>by
   unfold dd;have:=EZ xs (if isL acc x = true then acc else acc++[x])
   have h2:(if isL acc x = true then acc else acc++[x]).length<=acc.length+1:=by
    split
    . lia
    . rw [ay];simp
   rw [aG]
   lia
def ky {p:It} {l:List It}:p∈mo l↔p∈l:=by
 unfold mo;rw [EY,(ib l).mem_iff];simp
def xM (l:List It):(mo l).length<=l.length:=by
 unfold mo;have:=EZ (srt l) [];rw [(ib l).length_eq] at this;simpa using this
def lH {l:List It} (h:low l):low (mo l):=λp hp=>h p (ky.mp hp)
def low.app {a b:List It} (h:low a) (h2:low b):low (a++b):=λp hp=>(aN.mp hp).elim (h p) (h2 p)
def low.one {p:It} (h:sz p.2<=61):low [p]:=λq hq=>by rw [aC.mp hq];exact h
def zq:∀ ts:List Str,hbL (ts.map D.str) = true
 | []=>by unfold hbL;rfl
 | t::ts=>by rw [az];unfold hbL;rw [zq ts];unfold hb;rfl
def tZ:∀ A:F,hb (enc A) = true
 | .yes | .no=>by unfold enc;decide
 | .word w ts=>by unfold enc;simp only [hb,hbL,zq,jx]
 | .un u a=>by unfold enc;simp only [hb,hbL,tZ a,jx]
 | .bi b x y=>by unfold enc;simp only [hb,hbL,tZ x,tZ y,jx]
def mi (p:It):hb (itD p) = true:=by unfold itD;simp only [hb,hbL,tZ,jx]
def Ez {p q:It} (h:itD p = itD q):p = q:=EV ((oO _ _ (mi p) (mi q)).mpr h)
def ltI (p q:It):Bool:=(ltD (itD p) (itD q)).getD false
def mf (p q:It):ltD (itD p) (itD q) = some (ltI p q):=by
 have:(ltD (itD p) (itD q)).isSome = true:=jG (lts λ_=>ltc (mV _ _) (ltn _));unfold ltI
 cases e:ltD (itD p) (itD q) with
 | none=>rw [e] at this;cases this
 | some k=>rfl
def LP (p q:It) (h:ltI p q = true):ltI q p = false:=by
 rcases oJ _ (itD p) (aA _) (itD q) _ _ (mi p) (mi q) (mf p q) (mf q p) with ⟨_,e,_⟩ | ⟨_,e⟩
 . rw [h] at e;cases e
 . rw [e,h];rfl
def LO (a b c:It) (h1:ltI b a = false) (h2:ltI c b = false):ltI c a = false :=
 ze _ (itD a) (aA _) (itD b) (itD c) _ (mi a) (mi b) (mi c) (by rw [mf,h1]) (by rw [mf,h2]) (mf c a)
def En (p q:It) (h1:ltI p q = false) (h2:ltI q p = false):p = q:=by
 rcases oJ _ (itD p) (aA _) (itD q) _ _ (mi p) (mi q) (mf p q) (mf q p) with ⟨e,_⟩ | ⟨_,e⟩
 . exact Ez e
 . rw [h1,h2] at e;cases e
def vH:∀ {as bs:List It},as.map itD = bs.map itD->as = bs
 | [],[],_=>rfl
 | [],_::_,h=>by cases h
 | _::_,[],h=>by cases h
 | a::as,b::bs,h=>by
   rw [az,az] at h;injection h with h1 h2;rw [Ez h1,vH h2]
def CJ {l:List It} (h:low l):(srt l).Pairwise λa b=>ltI b a = false:=by
 letI:Inhabited { p:It // sz p.2<=61 }:=⟨⟨(true,.yes),⇑0⟩⟩
 have h':∀ p∈l,sz p.2<=61:=h
 obtain ⟨ys,e1,p1,u1⟩:=CK (α:={ p:It // sz p.2<=61 }) (λp=>itD p.1) (λa b=>ltI a.1 b.1) (λx y=>by
  have:=gJ x.1 x.2;have:=gJ y.1 y.2;unfold iX;rw [if_pos ∅,mf]) (λa b=>LP a.1 b.1) (λa b c=>LO a.1 b.1 c.1) (l.attachWith (λp=>sz p.2<=61) h')
 have e2:(l.attachWith (λp:It=>sz p.2<=61) h').map (λp=>itD p.1) = l.map itD:=by
  rw [show (λp:{ p:It // sz p.2<=61 }=>itD p.1) = itD ∘ Subtype.val from rfl,<- fX,List.attachWith_map_subtype_val]
 rw [e2,xv] at e1;have e3:srt l = ys.map Subtype.val:=vH (by rw [e1,fX];rfl);rw [e3];exact FJ.mpr (Gp (lt:=λ(a b:{ p:It // sz p.2<=61 })=>ltI a.1 b.1) u1)
def qr:∀ (xs acc:List It),low (acc++xs)->(acc++xs).Pairwise (λa b=>ltI b a = false)->acc.Nodup->(dd acc xs).Nodup
 | [],acc,_,_,h=>h
 | x::xs,acc,hl,hp,h=>by
   unfold dd;split
   . rename_i z;refine qr xs acc (λp hq=>hl p ?_) (hp.sublist ?_) h
     . rcases aN.mp hq with q | q
       . exact bb _ q
       . exact aM _ (ai _ q)
     . exact nS (wQ x xs) acc
   . rename_i z;rw [List.append_cons] at hl hp;refine qr xs (acc++[x]) hl hp (jr.mpr ⟨h,↥0,λa ha b hb e=>?_⟩);rw [aC] at hb;subst hb;subst e;apply z;rcases gG acc with rfl | ⟨l,y,rfl⟩
     . cases ha
     . rw [gH] at ha hp hl |-;have hp2:=(gQ.mp hp).1;have c1:ltI a y = false:=(gQ.mp hp2).2.2 y ↥0 a ↥0
       have ea:a = y:=by
        rcases aN.mp ha with q | q
        . have c2:ltI y a = false:=(gQ.mp (gQ.mp hp2).1).2.2 a q y ↥0;exact En a y c1 c2
        . exact aC.mp q
       unfold isL;rw [lA,ka,ea];exact eq_self y (hl y ↥0)
def Ej {l:List It} (h:low l):(mo l).Nodup:=qr (srt l) [] (λp hp=>h p ((ib l).mem_iff.mp hp)) (CJ h) iT
def Ik {l:List D} {y:D}:atI (l++[y]) (-1) = some y:=by
 unfold atI ixN;rw [if_neg ⇑0,if_pos (by simp;lia)];show (l++[y])[(-1+((l++[y]).length:Int)).toNat]? = some y;have e:(-1+((l++[y]).length:Int)).toNat = l.length:=by rw [ay];simp;lia
 rw [e,bD (aA _),iF];rfl
def Ol {p q:It} (hp:sz p.2<=61) (hq:sz q.2<=61) {Q:Bool->Prop} (k:Q (!eqD (itD p) (itD q))):qE .ne (itD p) (itD q) Q:=by
 refine ⟨_,?_,k⟩;show (if fU (itD p) (itD q) = true then some (!eqD (itD p) (itD q)) else none) = _;have:=gJ p hp;have:=gJ q hq;rw [if_pos (by unfold fU;rw [show kin (itD p) (itD q) = true from rfl,jw,aa,decide_eq_true_eq,decide_eq_true_eq];lia)]
def s64:(1000:Nat) < sizeLine:=by decide
def EE (l:List It) (y x:It):isL (l++[y]) x = eqD (itD y) (itD x):=by
 unfold isL;rw [lA,ka];rfl
def low.tail {x:It} {xs:List It} (h:low (x::xs)):low xs:=λp hp=>h p (ai _ hp)
def Dt (n:Nat) (l:List It) (h:low l) (hl:l.length < 64):PP.run Gs gls (n+1) 3 [.lst (l.map itD)] = some (.tup ((mo l).map itD)):=by
 apply bc;refine aX gR rfl rfl rfl ?_;simp only [gR,init,SI,Nat.reduceAdd,Nat.reduceSub];simp only [↓WS,WI,↓reduceIte];refine ⟨⇑0,lW h hl,?_⟩;rw [xv];refine fP (g:=itD) (λrest δ=>∃ (acc:List It) (s:Sl),δ = [.val (.lst (l.map itD)),.own (acc.map itD),s]/\low acc/\low rest/\dd acc rest = mo l/\acc.length+rest.length < 64) ?_ ?_ _ _ ⟨[],_,rfl,(λp hp=>by cases hp),(λp hp=>h p ((ib l).mem_iff.mp hp)),rfl,by rw [bf,(ib l).length_eq];lia⟩
 . rintro x rest δ ⟨acc,s,rfl,ha,hr,e,hlen⟩;rw [aG] at hlen;have hx:=hr x av;have ss:=s64;rw [dd] at e
   have app:isL acc x = false->∃ (acc':List It) (s:Sl),([.val (.lst (l.map itD)),.own (acc.map itD++[itD x]),.val (itD x)]:PP.Loc) = [.val (.lst (l.map itD)),.own (acc'.map itD),s]/\low acc'/\low rest/\dd acc' rest = mo l/\acc'.length+rest.length < 64:=λz=>by
    rw [z,if_neg ak] at e;exact ⟨acc++[x],_,by rw [bC];rfl,ha.app (.one hx),hr.tail,e,by rw [ay];simp only [aG,bf];lia⟩
   rcases gG acc with rfl | ⟨l',y,rfl⟩
   . simp only [eK,↓WS,WI,↓reduceIte];exact ⟨⇑0,app rfl⟩
   . rw [gH] at e hlen app ha |-;have hy:=ha y ↥0;rw [bC] at app |-;have hne:(!!(l'.map itD++[y].map itD).isEmpty) = false:=by cases l'<;>rfl
     simp only [hne,↓WS,WI,↓reduceIte];refine ⟨itD y,Ik,Ol hy hx ?_⟩;rw [EE] at app e
     cases eb:eqD (itD y) (itD x) with
     | true =>
       rw [eb,if_pos rfl] at e
       exact ⟨l'++[y],_,by rw [bC],ha,hr.tail,e,∅⟩
     | false=>exact ⟨by simp only [ay,aw,aG,bf] at hlen |-;lia,app eb⟩
 . rintro δ ⟨acc,s,rfl,_,_,e,_⟩;simp only [↓WS,WI,↓reduceIte];rw [<- e];rfl
def Dx (n:Nat) (r ad:List It) (a:D) (ha:a = .lst (ad.map itD)\/a = .tup (ad.map itD)) (h:low (r++ad)) (hl:r.length+ad.length < 64):PP.run Gs gls (n+2) 4 [.tup (r.map itD),a] = some (.tup ((mo (r++ad)).map itD)):=by
 have w:=Dt n (r++ad) h (by rw [ay];exact hl);rw [bC] at w;have ss:=s64;apply bc;refine aX uo rfl rfl rfl ?_;simp only [uo,init,SI,Nat.reduceAdd,Nat.reduceSub];rcases ha with rfl | rfl
 . simp only [↓WS,WI,↓reduceIte];exact ⟨by rw [aw,aw];lia,(fy w).mpr rfl⟩
 . simp only [↓WS,WI,↓reduceIte];exact ⟨by rw [aw,aw];lia,(fy w).mpr rfl⟩
def Du (n:Nat) (l:List It) (h:low l) (hl:l.length < 64):PP.run Gs gls (n+1) 26 [.lst (l.map itD)] = some (.tup ((mo l).map itD)):=by
 apply bc;refine aX iQ rfl rfl rfl ?_;simp only [iQ,init,SI,Nat.reduceAdd,Nat.reduceSub];simp only [↓WS,WI,↓reduceIte];refine ⟨⇑0,lW h hl,?_⟩;rw [xv];refine fP (g:=itD) (λrest δ=>∃ (acc:List It) (s:Sl),δ = [.val (.lst (l.map itD)),.own (acc.map itD),s]/\low acc/\low rest/\dd acc rest = mo l/\acc.length+rest.length < 64) ?_ ?_ _ _ ⟨[],_,rfl,(λp hp=>by cases hp),(λp hp=>h p ((ib l).mem_iff.mp hp)),rfl,by rw [bf,(ib l).length_eq];lia⟩
 . rintro x rest δ ⟨acc,s,rfl,ha,hr,e,hlen⟩;rw [aG] at hlen;have hx:=hr x av;have ss:=s64;rw [dd] at e
   have app:isL acc x = false->(acc.map itD).length < sizeLine/\∃ (acc':List It) (s:Sl),([.val (.lst (l.map itD)),.own (acc.map itD++[itD x]),.val (itD x)]:PP.Loc) = [.val (.lst (l.map itD)),.own (acc'.map itD),s]/\low acc'/\low rest/\dd acc' rest = mo l/\acc'.length+rest.length < 64:=λz=>by
    rw [z,if_neg ak] at e;exact ⟨by rw [aw];lia,acc++[x],_,by rw [bC];rfl,ha.app (.one hx),hr.tail,e,by rw [ay];simp only [aG,bf];lia⟩
   have keep:isL acc x = true->∃ (acc':List It) (s:Sl),([.val (.lst (l.map itD)),.own (acc.map itD),.val (itD x)]:PP.Loc) = [.val (.lst (l.map itD)),.own (acc'.map itD),s]/\low acc'/\low rest/\dd acc' rest = mo l/\acc'.length+rest.length < 64:=λz=>by
    rw [z,if_pos rfl] at e;exact ⟨acc,_,rfl,ha,hr.tail,e,∅⟩
   have cut:cutD (acc.map itD) (some (-1)) none = match acc.getLast? with
    | some y=>[itD y]
    | none=>[]:=by
    rcases gG acc with rfl | ⟨l',y,rfl⟩
    . rfl
    . rw [gH,lA,ka];unfold cutD;rw [show HT.sIx ((l'++[y]).map itD).length ((l'++[y]).map itD).length none = ((l'++[y]).map itD).length from rfl]
      have e1:HT.sIx ((l'++[y]).map itD).length 0 (some (-1)) = l'.length:=by
       unfold HT.sIx;simp
       lia
      rw [e1,bC];simp
   simp only [↓WS,WI,↓reduceIte];refine ⟨_,by show some (D.lst (cutD (acc.map itD) (some (-1)) none)) = _;rw [cut],?_⟩
   have nin:∀ (o:Option It),(∀ y,o = some y->sz y.2<=61)->∀ Q:Bool->Prop,Q (!(match o with | some y=>eqD (itD y) (itD x) | none=>false))->qE .notin (itD x) (.lst (match o with | some y=>[itD y] | none=>[])) Q:=λo ho Q q=>by
    have dx:=gJ x hx
    cases o with
    | none=>exact ⟨true,by show (inD (itD x) (.lst [])).map (!·) = _;unfold inD;dsimp only;rw [if_pos ⟨∅,by unfold cb;lia⟩];rfl,q⟩
    | some y =>
      have dy:=gJ y (ho y rfl);refine ⟨!eqD (itD y) (itD x),?_,q⟩;show (inD (itD x) (.lst [itD y])).map (!·) = _;unfold inD;dsimp only;rw [if_pos ⟨∅,by unfold cb cb;lia⟩];simp
   refine nin _ (λy hy=>ha y (zQ hy)) _ ?_;change if (!isL acc x) = true then _ else _
   cases z:isL acc x with
   | true=>exact keep z
   | false=>exact app z
 . rintro δ ⟨acc,s,rfl,_,_,e,_⟩;simp only [↓WS,WI,↓reduceIte];rw [<- e];rfl
def cl (ps:List It):Bool:=has ps (false,.yes) || (has ps (true,.no) || ps.any λp=>p.1 && has ps (false,p.2))
def clo (S:It->Prop):Prop:=S (false,.yes)\/S (true,.no)\/∃ A,S (true,A)/\S (false,A)
def uu {ps:List It} (h:low ps):cl ps = true↔clo (·∈ps):=by
 unfold cl clo;rw [cK,cK,dM h,dM h,cz];refine or_congr bZ (or_congr bZ ⟨?_,?_⟩)
 . rintro ⟨⟨b,A⟩,hp,e⟩;rw [aa,dM h] at e;obtain ⟨e1,e2⟩:=e
   cases b with
   | true=>exact ⟨A,hp,e2⟩
   | false=>cases e1
 . rintro ⟨A,h1,h2⟩;exact ⟨(true,A),h1,by rw [aa,dM h];exact ⟨rfl,h2⟩⟩
def kU {α:Type} (f:α->Bool):∀ xs:List α,jb (xs.map λx=>D.bl (f x)) = some (xs.map f)
 | []=>rfl
 | x::xs=>by
   rw [az];unfold jb;rw [kU f xs];rfl
def any_map {α:Type} (f:α->Bool) (xs:List α) {Q:D->Prop} (q:Q (.bl (xs.any f))):sF .any [.lst (xs.map λx=>D.bl (f x))] Q:=by
 refine ⟨.bl (xs.any f),?_,q⟩;show (jb (xs.map λx=>D.bl (f x))).map (λbs=>D.bl (bs.any id)) = _;rw [kU];show some (D.bl ((xs.map f).any id)) = _;rw [List.any_map];rfl
def NO (b:Bool):(sd b == "left") = b:=by cases b<;>decide
def vt (n:Nat) (ps:List It) (h:low ps) (hl:ps.length<=1000):PP.run Gs gls (n+1) 5 [.tup (ps.map itD)] = some (.bl (cl ps)):=by
 have ss:=s64;apply bc;refine aX mx rfl rfl rfl ?_;simp only [mx,init,SI,Nat.reduceAdd,Nat.reduceSub];simp only [aG,bf,↓uR,↓WS,WI,↓reduceIte];have dl:=mr h;refine ⟨⇑0,⇑0,⟨⇑0,∅⟩,Io (λh1=>?_) λh1=>⟨⇑0,⇑0,⟨⇑0,∅⟩,Io (λh2=>?_) λh2=>?_⟩⟩
 . have e:has ps (false,.yes) = true:=h1;unfold cl;rw [e];rfl
 . have e:has ps (true,.no) = true:=h2;unfold cl;rw [e,nU,wU]
 . have e1:has ps (false,.yes) = false:=cI.mpr h1;have e2:has ps (true,.no) = false:=cI.mpr h2;refine gZ itD (λ_=>true) (λp=>.bl (p.1 && has ps (false,p.2))) ps (λp hp=>?_) ⟨?_,?_⟩
   . obtain ⟨b,A⟩:=p;show wTg [Sl.val (D.tup (ps.map itD)),.no,.no] (Tg.tp [1,2]) (D.tup [D.str (sd b),enc A]) _;simp only [↓sv,NO,SI,↓WS,WI,↓reduceIte];refine ⟨trivial,?_⟩
     cases b with
     | false=>exact ⟨rfl,rfl⟩
     | true=>exact ⟨⇑0,EK (q:=(false,A)) h (h (true,A) hp),rfl,rfl⟩
   . rw [aw,iA.mpr λ_ _=>rfl];lia
   . rw [iA.mpr λ_ _=>rfl];refine any_map _ _ ?_;unfold cl;rw [e1,e2];rfl
def xT:∀ (xs acc:List It),(dd acc xs).Sublist (acc++xs)
 | [],acc=>by simp [dd]
 | x::xs,acc=>by
   unfold dd;split
   . exact (xT xs acc).trans (nS (wQ x xs) acc)
   . have e:acc++x::xs = (acc++[x])++xs:=by simp
     rw [e];exact xT xs (acc++[x])
def up (row:List It):Prop:=row.Pairwise λa b=>ltI a b = true
def Jm {l:List It} (h:low l):up (mo l):=by
 have h1:(mo l).Pairwise λa b=>ltI b a = false:=(CJ h).sublist (xT (srt l) []);have h2:(mo l).Pairwise λa b=>a≠b:=Ej h;refine (List.pairwise_and_iff.mpr ⟨h1,h2⟩).imp λ{a b} ⟨z1,z2⟩=>?_
 cases e:ltI a b with
 | true=>rfl
 | false=>exact absurd (En a b e z1) z2
def pl:F->Bool
 | .un .neg a=>pl a
 | .un _ _=>false
 | .bi _ x y=>pl x && pl y
 | _=>true
def br:It->List (List It)
 | (s,.un .neg a)=>[[(!s,a)]]
 | (true,.bi .and x y)=>[[(true,x),(true,y)]]
 | (false,.bi .and x y)=>[[(false,x)],[(false,y)]]
 | (true,.bi .or x y)=>[[(true,x)],[(true,y)]]
 | (false,.bi .or x y)=>[[(false,x),(false,y)]]
 | (true,.bi .imp x y)=>[[(false,x)],[(true,y)]]
 | (false,.bi .imp x y)=>[[(true,x),(false,y)]]
 | _=>[]
def brD (bs:List (List It)):D:=.lst (bs.map λb=>.lst (b.map itD))
def sV (n:Nat) (p:It) (h:pl p.2 = true):PP.run Gs gls (n+4) 8 [.str (sd p.1),enc p.2,.str ""] = some (brD (br p)):=by
 obtain ⟨s,A⟩:=p
 cases A with
 | yes=>cases s<;>kernel_rfl
 | no=>cases s<;>kernel_rfl
 | word w ts=>cases s<;>kernel_rfl
 | un u a =>
   cases u with
   | neg=>cases s<;>kernel_rfl
   | all=>cases h
   | ex=>cases h
 | bi b x y=>cases s<;>cases b<;>kernel_rfl
def Dy (n:Nat) (p:It) (h:pl p.2 = true) (hb:br p≠[]):PP.run Gs gls (n+4) 32 [.str (sd p.1),enc p.2,.str ""] = some (brD (br p)):=by
 obtain ⟨s,A⟩:=p
 cases A with
 | yes=>cases s<;>exact absurd rfl hb
 | no=>cases s<;>exact absurd rfl hb
 | word w ts=>cases s<;>exact absurd rfl hb
 | un u a =>
   cases u with
   | neg=>cases s<;>kernel_rfl
   | all=>cases h
   | ex=>cases h
 | bi b x y=>cases s<;>cases b<;>kernel_rfl
def gg (p:It):(br p).length<=2/\∀ b∈br p,b.length<=2:=by
 obtain ⟨s,A⟩:=p
 cases A with
 | un u a=>cases u<;>simp [br]
 | bi b x y=>cases s<;>cases b<;>simp [br]
 | _=>cases s<;>simp [br]
def Jx {p:It} (h:pl p.2 = true):∀ b∈br p,∀ q∈b,pl q.2 = true/\sz q.2 < sz p.2:=by
 obtain ⟨s,A⟩:=p
 cases A with
 | un u a =>
   cases u with
   | neg =>
     have h:pl a = true:=h
     simp [br,sz,h]
   | all=>cases h
   | ex=>cases h
 | bi b x y =>
   have h':(pl x && pl y) = true:=h;rw [aa] at h';obtain ⟨h1,h2⟩:=h';clear h
   cases s<;>cases b<;>simp [br,sz,h1,h2]<;>lia
 | _=>cases s<;>simp [br]
inductive T where
 | cl | r1 (p:It) (t:T) | r2 (p:It) (t u:T)
def bT:T->D
 | .cl=>.tup [.str "close"]
 | .r1 p t=>.tup [.str "rule",.str (sd p.1),enc p.2,.str "",.tup [bT t]]
 | .r2 p t u=>.tup [.str "rule",.str (sd p.1),enc p.2,.str "",.tup [bT t,bT u]]
def ht:T->Nat
 | .cl=>1
 | .r1 _ t=>ht t+1
 | .r2 _ t u=>max (ht t) (ht u)+1
def okP (p:It):Prop:=pl p.2 = true/\sz p.2<=61
def okT:T->Prop
 | .cl=>True
 | .r1 p t=>okP p/\(br p).length = 1/\okT t
 | .r2 p t u=>okP p/\(br p).length = 2/\okT t/\okT u
def b0 (p:It):List It:=(br p).headD []
def b1 (p:It):List It:=((br p).drop 1).headD []
def br1 {p:It} (h:(br p).length = 1):br p = [b0 p]:=by
 unfold b0
 cases e:br p with
 | nil=>rw [e] at h;cases h
 | cons a l =>
   cases l with
   | nil=>rfl
   | cons _ _=>rw [e] at h;simp at h
def br2 {p:It} (h:(br p).length = 2):br p = [b0 p,b1 p]:=by
 unfold b0 b1
 cases e:br p with
 | nil=>rw [e] at h;cases h
 | cons a l =>
   cases l with
   | nil=>rw [e] at h;cases h
   | cons c l =>
     cases l with
     | nil=>rfl
     | cons _ _=>rw [e] at h;simp at h
def fit:List It->T->Bool
 | row,.cl=>P1.cl row
 | row,.r1 p t=>has row p && fit (row++b0 p) t
 | row,.r2 p t u=>has row p && (fit (row++b0 p) t && fit (row++b1 p) u)
def gL {p:It} (h:0 < (br p).length):b0 p∈br p:=by
 unfold b0
 cases e:br p with
 | nil=>rw [e] at h;cases h
 | cons a l=>exact av
def qv {p:It} (h:(br p).length = 2):b1 p∈br p:=by
 rw [br2 h];simp
def fj {row:List It} (h:low row) {p:It} (o:okP p) {b:List It} (hb:b∈br p):low (row++b):=h.app λq hq=>by
 have:=(Jx o.1 b hb q hq).2;have:=o.2
 lia
def rO {r r':List It} (h:low r) (h':low r') (k:∀ p,p∈r↔p∈r') (p:It):has r p = has r' p:=by
 rw [cL,dM h,dM h'];exact k p
def Fh {r r':List It} (h:low r) (h':low r') (k:∀ p,p∈r↔p∈r'):P1.cl r = P1.cl r':=by
 rw [cL,uu h,uu h'];unfold clo;simp only [k]
def kO:∀ (t:T) {r r':List It},low r->low r'->(∀ p,p∈r↔p∈r')->okT t->fit r t = fit r' t
 | .cl,r,r',h,h',k,_=>Fh h h' k
 | .r1 p t,r,r',h,h',k,o=>by
   unfold fit
   rw [rO h h' k p,kO t (fj h o.1 (gL (by rw [o.2.1];decide))) (fj h' o.1 (gL (by rw [o.2.1];decide))) (λq=>by rw [aN,aN,k q]) o.2.2]
 | .r2 p t u,r,r',h,h',k,o=>by
   unfold fit;have m0:=gL (p:=p) (by rw [o.2.1];decide);have m1:=qv o.2.1;rw [rO h h' k p,kO t (fj h o.1 m0) (fj h' o.1 m0) (λq=>by rw [aN,aN,k q]) o.2.2.1,kO u (fj h o.1 m1) (fj h' o.1 m1) (λq=>by rw [aN,aN,k q]) o.2.2.2]
def ue {t:T} {r:List It} (h:low r) (o:okT t):fit (mo r) t = fit r t:=kO t (lH h) h (λp=>ky) o
def wg:∀ t:T,okT t->dep (bT t)<=2 * ht t+64
 | .cl,_=>by unfold bT;simp [dep,cb]
 | .r1 p t,⟨o,_,o1⟩=>by
   have:=wg t o1;have:=fA p.2;have:=o.2;unfold bT;simp only [dep,cb,jO,ht]
   lia
 | .r2 p t u,⟨o,_,o1,o2⟩=>by
   have:=wg t o1;have:=wg u o2;have:=fA p.2;have:=o.2;have k1:=kX (ht t) (ht u);have k2:=kh (ht t) (ht u);have e:∀ {x y k:Nat},x<=k->y<=k->max x y<=k:=λh1 h2=>Nat.max_le.mpr ⟨h1,h2⟩;unfold bT;simp only [dep,cb,jO,ht];generalize max (ht t) (ht u) = m at *;have z:∀ {k:Nat},0<=k:=cA _;exact qy (e z (e z (e ∅ (e z (e (qy (e (k:=2 * m+64) ∅ (e ∅ z))) z)))))
def Pf:Option Out->Option D
 | some (.rt d _)=>some d
 | _=>none
def eM {cx:Cl} {ss:Ss} {δ:PP.Loc} {d:D} {Q:D->Prop} (h:Pf (cY cx ss δ) = some d) (q:Q d):wSs cx ss δ (retS Q):=by
 generalize e:cY cx ss δ = o at h
 match o,h with
 | some (.rt _ _),h=>cases h;exact ⟨_,e,q⟩
def ba (row:List It):D:=.tup (row.map itD)
def ruD (p:It) (k:D):D:=.tup [.str "rule",.str (sd p.1),enc p.2,.str "",k]
def CL:D:=.tup [.str "close"]
def isC:T->Bool
 | .cl=>true
 | _=>false
def eqC {t:T} (o:okT t) (h:ht t<=1000):jT .eq (bT t) CL = some (isC t):=by
 have d:=wg t o;have e:dep CL = 1:=by decide
 have k:fU (bT t) CL = true:=by
  unfold fU;rw [show kin (bT t) CL = true by cases t<;>rfl,e,jw,aa,decide_eq_true_eq,decide_eq_true_eq]
  lia
 show (if fU (bT t) CL = true then some (eqD (bT t) CL) else _) = _;rw [if_pos k];cases t<;>exact congrArg some ⋯
def kids:T->List T
 | .cl=>[]
 | .r1 _ a=>[a]
 | .r2 _ a b=>[a,b]
def KO (n:Nat) {t:T} (o:okT t) (h:ht t<=1000):PP.run Gs gls (n+1) 10 [bT t] = some (.tup ((kids t).map bT)):=by
 have e:=eqC o h;apply bc;refine aX kS rfl rfl rfl ?_;simp only [kS,init,SI,Nat.reduceAdd,Nat.reduceSub]
 cases t with
 | cl=>exact eM (d:=.tup []) ⋯ rfl
 | r1 c a=>exact cu _ (zy (p:=false) (x:=.tup []) (cy (x:=bT (.r1 c a)) ⋯ ⋯ e) ⋯ (y:=.tup [bT a]) ⋯) rfl
 | r2 c a b=>exact cu _ (zy (p:=false) (x:=.tup []) (cy (x:=bT (.r2 c a b)) ⋯ ⋯ e) ⋯ (y:=.tup [bT a,bT b]) ⋯) rfl
def Hq (n:Nat) (p:It) (h:pl p.2 = true) (k:D):PP.run Gs gls (n+5) 11 [ruD p k] = some (brD (br p)):=by
 apply bc;refine aX gu rfl rfl rfl ?_;simp only [gu,init,SI,Nat.reduceAdd,Nat.reduceSub];exact bq true ⋯ (λ_=>kI [.str (sd p.1),enc p.2,.str ""] ⋯ ((fy (sV n p h)).mpr rfl)) λz=>by cases z
def KI (n:Nat) {row:List It} (hr:low row) (hl:row.length<=60) (p:It) (o:okP p) (k:D):PP.run Gs gls (n+6) 12 [ba row,ruD p k] = some (.lst ((br p).map λb=>ba (mo (row++b)))):=by
 have ⟨l1,l2⟩:=gg p;have ss:=s64;apply bc;refine aX gT rfl rfl rfl ?_;simp only [gT,init,SI,Nat.reduceAdd,Nat.reduceSub];refine cu _ (kB (λb:List It=>.lst (b.map itD)) (λb=>ba (mo (row++b))) (λb=>[ba row,.lst (b.map itD)]) (br p) ∅ (uh (aV [ruD p k] ⋯ (Hq n p o.1 k)) rfl) rfl (λb _=>by kernel_rfl) λb hb=>?_) rfl;exact Dx (n+3) row b _ (.inl rfl) (fj hr o hb) (by have:=l2 b hb;lia)
def rF {row:List It} (h:low row) {p:It} (hp:sz p.2<=61):jT .notin (itD p) (ba row) = some (!has row p):=by
 have d:=gJ p hp;have ds:=mr h;show (inD (itD p) (ba row)).map _ = _;unfold inD ba;dsimp only;rw [if_pos ∅];rfl
def Ds (n:Nat) {row:List It} (h:low row) (p:It) (o:okP p) (hb:br p≠[]) (k:D):PP.run Gs gls (n+2) 13 [ba row,ruD p k] = some (.bl (has row p)):=by
 have w:=rF h o.2;apply bc;refine aX iO rfl rfl rfl ?_;simp only [iO,init,SI,Nat.reduceAdd,Nat.reduceSub];refine dc 1 [.val (ba row),.val (ruD p k),.val (.str (sd p.1)),.val (enc p.2),.val (.str "")] ⋯ (bq (!has row p) (cy (x:=itD p) (y:=ba row) ⋯ ⋯ w) (λz=>?_) λz=>?_)
 . rw [dJ] at z;rw [z];exact eM (d:=.bl false) ⋯ rfl
 . rw [iV] at z;rw [z];obtain ⟨s,A⟩:=p;have hp:=o.1
   cases A with
   | un u a =>
     cases u with
     | neg=>cases s<;>exact eM (d:=.bl true) ⋯ rfl
     | all=>cases hp
     | ex=>cases hp
   | bi b x y=>cases s<;>cases b<;>exact eM (d:=.bl true) ⋯ rfl
   | _=>cases s<;>exact absurd rfl hb
def mM {α β:Type}:∀ {bs:List α} {k:List β},bs.length = k.length->bs≠[]->bs.length<=2->(∃ a b,bs = [a]/\k = [b])\/∃ a c b d,bs = [a,c]/\k = [b,d]
 | [],_,_,h,_=>absurd rfl h
 | [a],[b],_,_,_=>.inl ⟨a,b,rfl,rfl⟩
 | [a,c],[b,d],_,_,_=>.inr ⟨a,c,b,d,rfl,rfl⟩
 | [a],[],h,_,_=>by cases h
 | [a],_::_::_,h,_,_=>by simp at h
 | [a,c],[],h,_,_=>by cases h
 | [a,c],[_],h,_,_=>by simp at h
 | [a,c],_::_::_::_,h,_,_=>by simp at h
 | _::_::_::_,_,_,_,h=>by simp at h
def rR (n:Nat) {row:List It} (h:low row) (hl:row.length<=60) (t:T) (p:It) (k:List T) (et:bT t = ruD p (.tup (k.map bT))) (ek:kids t = k) (hc:isC t = false) (hh:ht t<=1000) (ot:okT t) (o:okP p) (hb:(br p).length = k.length) (hk:k≠[]) {Q:D->Prop} (q0:has row p = false->Q (.bl false))
 (q:has row p = true->kb ⟨PP.run Gs gls (n+8),gls,hfs Gs⟩ (.tp [4,5]) (qk (dF 5 gK.body)) (((br p).zip k).map λx=>.tup [ba (mo (row++x.1)),bT x.2]) [.val (ba row),.val (bT t),.val (.lst ((br p).map λb=>ba (mo (row++b)))),.val (.tup (k.map bT)),.no,.no] (lT ⟨PP.run Gs gls (n+8),gls,hfs Gs⟩ (dF 6 gK.body) (retS Q))):fZ Gs gls (n+9) 14 [ba row,bT t] Q:=by
 have e:=eqC ot hh;rw [hc] at e;have wk:=KO (n+7) ot hh;rw [ek] at wk;have wr:=KI (n+2) h hl p o (.tup (k.map bT));have bne:br p≠[]:=λz=>by rw [z] at hb;exact hk (dW.mp hb.symm)
 have ws:=Ds (n+6) h p o bne (.tup (k.map bT));have l1:=gg p;refine aX gK rfl rfl rfl ?_;simp only [gK,init,SI,Nat.reduceAdd,Nat.reduceSub];refine bq false (cy (x:=bT t) ⋯ ⋯ e) (λz=>by cases z) λ_=>?_;rw [et];refine bq (!has row p) ((jL (p:=true) (q:=!has row p) ⋯ (kP (p:=has row p) (jK [ba row,ruD p (.tup (k.map bT))] ⋯ ws))).trans (by rw [jw])) (λz=>?_) λz=>?_
 . rw [dJ] at z;exact eM (d:=.bl false) ⋯ (q0 z)
 rw [iV] at z;have q:=q z;rw [et] at q wk;refine fE [ba row,ruD p (.tup (k.map bT))] ⋯ ((fy wr).mpr ⟨_,rfl,fE [ruD p (.tup (k.map bT))] ⋯ ((fy wk).mpr ⟨_,rfl,?_⟩)⟩);refine bq false ?_ (λz=>by cases z) λ_=>gk _ (Ml (ds:=[.lst ((br p).map λb=>ba (mo (row++b))),.tup (k.map bT)]) ⋯ ?_) q
 . have z:=mM hb bne l1.1;generalize br p = bs at z |-;rcases z with ⟨a,b,rfl,rfl⟩ | ⟨a,c,b,d,rfl,rfl⟩<;>kernel_rfl
 . have z:=mM hb bne l1.1;generalize br p = bs at z |-;rcases z with ⟨a,b,rfl,rfl⟩ | ⟨a,c,b,d,rfl,rfl⟩<;>kernel_rfl
def mY {n:Nat} {R K s1 s2 s3 s4:Sl} {r:List It} {k:T} {xs:List D} {p:Bool} {Q:Out->Prop} (w:PP.run Gs gls n 14 [ba r,bT k] = some (.bl p)) (h0:p = false->Q (.rt (.bl false) [s1,s2,R,K,.val (ba r),.val (bT k)])) (h1:p = true->kb ⟨PP.run Gs gls n,gls,hfs Gs⟩ (.tp [4,5]) (qk (dF 5 gK.body)) xs [s1,s2,R,K,.val (ba r),.val (bT k)] Q):kb ⟨PP.run Gs gls n,gls,hfs Gs⟩ (.tp [4,5]) (qk (dF 5 gK.body)) (.tup [ba r,bT k]::xs) [s1,s2,R,K,s3,s4] Q:=by
 rw [ji];refine ⟨[s1,s2,R,K,.val (ba r),.val (bT k)],rfl,?_⟩;refine bq (!p) (kP (jK [ba r,bT k] ⋯ w)) (λz=>?_) λz=>?_
 . cases p with
   | true=>cases z
   | false=>exact ⟨.rt (.bl false) [s1,s2,R,K,.val (ba r),.val (bT k)],⋯,h0 rfl⟩
 . cases p with
   | false=>cases z
   | true=>exact ⟨.nx [s1,s2,R,K,.val (ba r),.val (bT k)],⋯,h1 rfl⟩
def vT {n:Nat} {R K s1 s2 s3 s4:Sl} {Q:D->Prop} (q:Q (.bl true)):kb ⟨PP.run Gs gls n,gls,hfs Gs⟩ (.tp [4,5]) (qk (dF 5 gK.body)) [] [s1,s2,R,K,s3,s4] (lT ⟨PP.run Gs gls n,gls,hfs Gs⟩ (dF 6 gK.body) (retS Q)):=by
 rw [jh];exact eM (d:=.bl true) ⋯ q
def oI {row b:List It} (h:b.length<=2):(mo (row++b)).length<=row.length+2:=by
 have:=xM (row++b);rw [ay] at this
 lia
def sW:∀ (t:T) (n:Nat) (row:List It),ht t+8<=n->ht t<=100->okT t->low row->row.length+2 * ht t<=62->PP.run Gs gls n 14 [ba row,bT t] = some (.bl (fit row t))
 | .cl,n,row,hn,hh,o,h,hl=>by
   obtain ⟨n,rfl⟩:∃ k,n = k+2:=⟨n - 2,by simp only [ht] at hn;lia⟩;apply bc;refine aX gK rfl rfl rfl ?_;simp only [gK,init,SI,Nat.reduceAdd,Nat.reduceSub]
   exact bq true ⋯ (λ_=>kI [ba row] ⋯ ((fy (vt n row h ∅)).mpr rfl)) λz=>by cases z
 | .r1 p a,n,row,hn,hh,o,h,hl=>by
   simp only [ht] at hn hh hl;obtain ⟨n,rfl⟩:∃ k,n = k+9:=⟨n - 9,∅⟩;have m0:=gL (p:=p) (by rw [o.2.1];decide);have ih:=sW a (n+8) (mo (row++b0 p)) ∅ ∅ o.2.2 (lH (fj h o.1 m0)) (by have:=oI (row:=row) ((gg p).2 _ m0);lia);rw [ue (fj h o.1 m0) o.2.2] at ih;apply bc;refine rR n h ∅ (.r1 p a) p [a] rfl rfl rfl (by simp only [ht];lia) o o.1 o.2.1 ↥0 (λz=>by rw [fit,z];rfl) λz=>?_;have ez:(br p).zip [a] = [(b0 p,a)]:=by rw [br1 o.2.1];rfl
   rw [ez,fit,z,jw,az,eK];refine mY ih (λz=>?_) λz=>vT ?_
   . rw [z];rfl
   . rw [z]
 | .r2 p a b,n,row,hn,hh,o,h,hl=>by
   simp only [ht] at hn hh hl;obtain ⟨n,rfl⟩:∃ k,n = k+9:=⟨n - 9,∅⟩;have m0:=gL (p:=p) (by rw [o.2.1];decide);have m1:=qv o.2.1;have i1:=sW a (n+8) (mo (row++b0 p)) ∅ ∅ o.2.2.1 (lH (fj h o.1 m0)) (by have:=oI (row:=row) ((gg p).2 _ m0);lia);have i2:=sW b (n+8) (mo (row++b1 p)) ∅ ∅ o.2.2.2 (lH (fj h o.1 m1)) (by have:=oI (row:=row) ((gg p).2 _ m1);lia);rw [ue (fj h o.1 m0) o.2.2.1] at i1;rw [ue (fj h o.1 m1) o.2.2.2] at i2;apply bc;refine rR n h ∅ (.r2 p a b) p [a,b] rfl rfl rfl (by simp only [ht];lia) o o.1 o.2.1 ↥0 (λz=>by rw [fit,z];rfl) λz=>?_;have ez:(br p).zip [a,b] = [(b0 p,a),(b1 p,b)]:=by rw [br2 o.2.1];rfl
   rw [ez,fit,z,jw,az,az,eK];refine mY i1 (λz=>?_) λz=>mY i2 (λz2=>?_) λz2=>vT ?_
   . rw [z];rfl
   . rw [z,z2];rfl
   . rw [z,z2];rfl
def NQ (n:Nat) (ps:List It) (h:low ps) (hc:cl ps = true):PP.run Gs gls (n+1) 33 [.lst (ps.map itD)] = some (.bl true):=by
 have dl:=mr h;apply bc;refine aX gx rfl rfl rfl ?_;simp only [gx,init,SI,Nat.reduceAdd,Nat.reduceSub];simp only [aG,bf,↓WS,WI,↓reduceIte]
 have inL:∀ {q:It} {Q:Bool->Prop},sz q.2<=61->Q (has ps q)->qE .isin (itD q) (.lst (ps.map itD)) Q:=λ{q Q} hq k=>by
  refine ⟨_,?_,k⟩;show inD (itD q) (.lst (ps.map itD)) = _;unfold inD;dsimp only;rw [if_pos (EK h hq)];rfl
 refine ⟨⇑0,⇑0,inL (q:=(true,.no)) (by simp [sz]) (Io (λh1=>trivial) λh1=>⟨⇑0,⇑0,inL (q:=(false,.yes)) (by simp [sz]) (Io (λh2=>trivial) λh2=>?_)⟩)⟩;have e1:has ps (true,.no) = false:=cI.mpr h1;have e2:has ps (false,.yes) = false:=cI.mpr h2;have ec:(ps.any λp=>p.1 && has ps (false,p.2)) = true:=by unfold cl at hc;rw [e1,e2] at hc;exact hc
 refine fP (g:=itD) (λrest δ=>∃ s1 s2:Sl,δ = [.val (.lst (ps.map itD)),s1,s2]/\(∀ p∈rest,p∈ps)/\(rest.any λp=>p.1 && has ps (false,p.2)) = true) ?_ ?_ _ _ ⟨_,_,rfl,λ_ z=>z,ec⟩
 . rintro ⟨b,A⟩ rest δ ⟨s1,s2,rfl,hm,e⟩;show wTg _ (Tg.tp [1,2]) (D.tup [D.str (sd b),enc A]) _;simp only [↓sv,NO,SI,↓WS,WI,↓reduceIte];rw [eT] at e
   cases b with
   | false=>exact ⟨_,_,rfl,λp z=>hm p (ai _ z),e⟩
   | true =>
     refine ⟨⇑0,inL (q:=(false,A)) (h (true,A) (hm _ av)) ?_⟩
     cases hh:has ps (false,A) with
     | true=>exact AS trivial
     | false =>
       rw [show (((true,A):It).1 && has ps (false,((true,A):It).2)) = false from hh,uI] at e;exact AU ⟨_,_,rfl,λp z=>hm p (ai _ z),e⟩
 . rintro δ ⟨s1,s2,rfl,_,e⟩;cases e
def Fw {l b:List It} (h:l.length<=990) (hb:b.length<=2):opD .add (.lst (l.map itD)) (.lst (b.map itD)) = some (.lst ((l++b).map itD)):=by
 have ss:=s64;show (if (l.map itD).length+(b.map itD).length<=sizeLine then some (D.lst (l.map itD++b.map itD)) else none) = _;rw [if_pos (by rw [aw,aw];lia),bC]
def lJ {n:Nat} {l b:List It} {t:T} {i:Int} {R B s3:Sl} {xs:List D} {Q:Out->Prop} (h:l.length<=990) (hb:b.length<=2) (e1:evE ⟨PP.run Gs gls n,gls,hfs Gs⟩ (.ix (.var 2) (.var 3)) [.val (.lst (l.map itD)),R,B,.val (.int i)] = some (.lst (b.map itD),[.val (.lst (l.map itD)),R,B,.val (.int i)]))
 (e2:evE ⟨PP.run Gs gls n,gls,hfs Gs⟩ (.ix (.ix (.var 1) (.int 4)) (.var 3)) [.val (.lst (l.map itD)),R,B,.val (.int i)] = some (bT t,[.val (.lst (l.map itD)),R,B,.val (.int i)])) (w:PP.run Gs gls n 35 [.lst ((l++b).map itD),bT t] = some (.bl true))
 (k:kb ⟨PP.run Gs gls n,gls,hfs Gs⟩ (.nm 3) (qk (dF 5 cH.body)) xs [.val (.lst (l.map itD)),R,B,.val (.int i)] Q):kb ⟨PP.run Gs gls n,gls,hfs Gs⟩ (.nm 3) (qk (dF 5 cH.body)) (.int i::xs) [.val (.lst (l.map itD)),R,B,s3] Q:=by
 rw [ji];refine ⟨[.val (.lst (l.map itD)),R,B,.val (.int i)],rfl,?_⟩;refine bq false (kP (p:=true) (jK [.lst ((l++b).map itD),bT t] (bM (di ⋯ e1 (Fw h hb)) (bM e2 rfl)) w)) (λz=>by cases z) λ_=>?_;exact ⟨.nx [.val (.lst (l.map itD)),R,B,.val (.int i)],⋯,k⟩
def qd (n:Nat) {l:List It} (h:low l) (t:T) (p:It) (k:List T) (et:bT t = ruD p (.tup (k.map bT))) (hc:isC t = false) (hh:ht t<=1000) (ot:okT t) (o:okP p) (hb:(br p).length = k.length) (hk:k≠[]) (hp:has l p = true) {Q:D->Prop}
 (q:kb ⟨PP.run Gs gls (n+8),gls,hfs Gs⟩ (.nm 3) (qk (dF 5 cH.body)) (lX 0 k.length) [.val (.lst (l.map itD)),.val (bT t),.val (brD (br p)),.no] (lT ⟨PP.run Gs gls (n+8),gls,hfs Gs⟩ (dF 6 cH.body) (retS Q))):fZ Gs gls (n+9) 35 [.lst (l.map itD),bT t] Q:=by
 have e:=eqC ot hh;rw [hc] at e;have bne:br p≠[]:=λz=>by rw [z] at hb;exact hk (dW.mp hb.symm)
 have wp:=Dy (n+4) p o.1 bne
 have hin:jT .notin (itD p) (.lst (l.map itD)) = some false:=by
  show (inD (itD p) (.lst (l.map itD))).map (!·) = _;unfold inD;dsimp only;rw [if_pos (EK h (q:=p) o.2)];exact congrArg (λb=>some !b) hp
 have tw:=mM hb bne (gg p).1;refine aX cH rfl rfl rfl ?_;simp only [cH,init,SI,Nat.reduceAdd,Nat.reduceSub];refine bq false (cy (x:=bT t) ⋯ ⋯ e) (λz=>by cases z) λ_=>?_;rw [et] at q |-;refine bq false ⋯ (λz=>by cases z) λ_=>?_;refine bq false (ug (p:=false) (q:=false) (cy (x:=itD p) (y:=.lst (l.map itD)) ⋯ ⋯ hin) ⋯) (λz=>by cases z) λ_=>?_;refine fE [.str (sd p.1),enc p.2,.str ""] ⋯ ((fy wp).mpr ⟨_,rfl,?_⟩);refine bq false ?_ (λz=>by cases z) λ_=>gk _ ?_ q
 . generalize br p = bs at tw |-;rcases tw with ⟨a,b,rfl,rfl⟩ | ⟨a,c,b,d,rfl,rfl⟩<;>kernel_rfl
 . generalize br p = bs at tw |-;rcases tw with ⟨a,b,rfl,rfl⟩ | ⟨a,c,b,d,rfl,rfl⟩<;>kernel_rfl
def rJ {n:Nat} {R K s1 s2:Sl} {Q:D->Prop} (q:Q (.bl true)):kb ⟨PP.run Gs gls n,gls,hfs Gs⟩ (.nm 3) (qk (dF 5 cH.body)) [] [s1,s2,R,K] (lT ⟨PP.run Gs gls n,gls,hfs Gs⟩ (dF 6 cH.body) (retS Q)):=by
 rw [jh];exact eM (d:=.bl true) ⋯ q
def oB:∀ (t:T) (n:Nat) (l:List It),ht t+8<=n->ht t<=100->okT t->low l->l.length+2 * ht t<=900->fit l t = true->PP.run Gs gls n 35 [.lst (l.map itD),bT t] = some (.bl true)
 | .cl,n,l,hn,hh,o,h,hl,f=>by
   obtain ⟨n,rfl⟩:∃ k,n = k+2:=⟨n - 2,by simp only [ht] at hn;lia⟩;apply bc;refine aX cH rfl rfl rfl ?_;simp only [cH,init,SI,Nat.reduceAdd,Nat.reduceSub]
   exact bq true ⋯ (λ_=>kI [.lst (l.map itD)] ⋯ ((fy (NQ n l h f)).mpr rfl)) λz=>by cases z
 | .r1 p a,n,l,hn,hh,o,h,hl,f=>by
   simp only [ht] at hn hh hl;obtain ⟨n,rfl⟩:∃ k,n = k+9:=⟨n - 9,∅⟩;have m0:=gL (p:=p) (by rw [o.2.1];decide);have l0:=(gg p).2 _ m0;unfold fit at f;rw [aa] at f;have ih:=oB a (n+8) (l++b0 p) ∅ ∅ o.2.2 (fj h o.1 m0) (by rw [ay];lia) f.2;apply bc;refine qd n h (.r1 p a) p [a] rfl rfl (by simp only [ht];lia) o o.1 o.2.1 ↥0 f.1 ?_;rw [br1 o.2.1]
   exact lJ (i:=0) ∅ l0 ⋯ ⋯ ih (rJ rfl)
 | .r2 p a b,n,l,hn,hh,o,h,hl,f=>by
   simp only [ht] at hn hh hl;obtain ⟨n,rfl⟩:∃ k,n = k+9:=⟨n - 9,∅⟩;have m0:=gL (p:=p) (by rw [o.2.1];decide);have m1:=qv o.2.1;have l0:=(gg p).2 _ m0;have l1:=(gg p).2 _ m1;unfold fit at f;rw [aa,aa] at f;have i1:=oB a (n+8) (l++b0 p) ∅ ∅ o.2.2.1 (fj h o.1 m0) (by rw [ay];lia) f.2.1;have i2:=oB b (n+8) (l++b1 p) ∅ ∅ o.2.2.2 (fj h o.1 m1) (by rw [ay];lia) f.2.2;apply bc;refine qd n h (.r2 p a b) p [a,b] rfl rfl (by simp only [ht];lia) o o.1 o.2.1 ↥0 f.1 ?_;rw [br2 o.2.1];exact lJ (i:=0) ∅ l0 ⋯ ⋯ i1 (lJ (i:=1) ∅ l1 ⋯ ⋯ i2 (rJ rfl))
def hw (ws:List F) (A:F):Bool:=(ws.map enc).any λy=>eqD y (enc A)
def EU (A:F) (h:sz A<=61):eqD (enc A) (enc A) = true:=iw _ (by have:=fA A;lia)
def tY {ws:List F} {A:F} (h:sz A<=61):hw ws A = true↔A∈ws:=by
 unfold hw;rw [cz];constructor
 . rintro ⟨y,hy,e⟩;obtain ⟨B,hB,rfl⟩:=bG.mp hy;rw [<- qm B A e];exact hB
 . intro hA;exact ⟨_,By hA,EU A h⟩
def tr (ws:List F):F->Bool
 | .yes=>true
 | .no=>false
 | .word w ts=>hw ws (.word w ts)
 | .un _ a=>!tr ws a
 | .bi .and x y=>tr ws x && tr ws y
 | .bi .or x y=>tr ws x || tr ws y
 | .bi .imp x y=>!tr ws x || tr ws y
def Fq (ws:List F) {p:It} (hp:pl p.2 = true) (hb:br p≠[]) (h:∀ b∈br p,∃ q∈b,tr ws q.2 = !q.1):tr ws p.2 = !p.1:=by
 obtain ⟨s,A⟩:=p
 cases A with
 | un u a =>
   cases u with
   | neg =>
     obtain ⟨q,hq,e⟩:=h _ (show [(!s,a)]∈br (s,.un .neg a) by cases s<;>simp [br]);rw [aC.mp hq] at e;show (!tr ws a) = !s;rw [e]
     cases s<;>rfl
   | all=>cases hp
   | ex=>cases hp
 | bi b x y =>
   cases s<;>cases b<;>simp [br] at h<;>simp only [tr]<;>revert h<;>cases tr ws x<;>cases tr ws y<;>simp
 | _=>cases s<;>exact absurd rfl hb
def oK (ws:List F):∀ (t:T) (row:List It),low row->okT t->fit row t = true->∃ p∈row,tr ws p.2 = !p.1
 | .cl,row,h,_,f=>by
   rcases (uu h).mp f with k | k | ⟨A,k1,k2⟩
   . exact ⟨_,k,rfl⟩
   . exact ⟨_,k,rfl⟩
   . cases e:tr ws A with
     | true=>exact ⟨_,k2,e⟩
     | false=>exact ⟨_,k1,e⟩
 | .r1 p a,row,h,o,f=>by
   have m0:=gL (p:=p) (by rw [o.2.1];decide);unfold fit at f;rw [aa,dM h] at f;obtain ⟨q,hq,e⟩:=oK ws a _ (fj h o.1 m0) o.2.2 f.2;rcases aN.mp hq with hq | hq
   . exact ⟨q,hq,e⟩
   . refine ⟨p,f.1,Fq ws o.1.1 (λz=>by rw [z] at m0;cases m0) λb hb=>?_⟩;rw [br1 o.2.1,aC] at hb;rw [hb]
     exact ⟨q,hq,e⟩
 | .r2 p a c,row,h,o,f=>by
   have m0:=gL (p:=p) (by rw [o.2.1];decide);have m1:=qv o.2.1;unfold fit at f;rw [aa,aa,dM h] at f;obtain ⟨q,hq,e⟩:=oK ws a _ (fj h o.1 m0) o.2.2.1 f.2.1;obtain ⟨r,hr,e2⟩:=oK ws c _ (fj h o.1 m1) o.2.2.2 f.2.2;rcases aN.mp hq with hq | hq
   . exact ⟨q,hq,e⟩
   rcases aN.mp hr with hr | hr
   . exact ⟨r,hr,e2⟩
   refine ⟨p,f.1,Fq ws o.1.1 (λz=>by rw [z] at m0;cases m0) λb hb=>?_⟩;rw [br2 o.2.1,aD,aC] at hb;rcases hb with rfl | rfl
   . exact ⟨q,hq,e⟩
   . exact ⟨r,hr,e2⟩
def isW:F->Bool
 | .word _ _=>true
 | _=>false
def lw (row:List It):List F:=(row.filter λp=>p.1 && isW p.2).map (·.2)
def tK {row:List It} {A:F}:A∈lw row↔(true,A)∈row/\isW A = true:=by
 unfold lw;rw [bG];constructor
 . rintro ⟨⟨s,B⟩,h,rfl⟩;rw [cn,aa] at h;obtain ⟨h1,h2,h3⟩:=h;have e:s = true:=h2;subst e;exact ⟨h1,h3⟩
 . rintro ⟨h1,h2⟩;exact ⟨(true,A),cn.mpr ⟨h1,h2⟩,rfl⟩
def Hf {row:List It} (h:low row) (hc:cl row = false) (hp:∀ p∈row,pl p.2 = true) (hs:∀ p∈row,br p = []\/∃ b∈br p,∀ q∈b,q∈row):∀ (A:F) (s:Bool),(s,A)∈row->tr (lw row) A = s:=by
 have nc:¬ clo (·∈row):=λz=>by rw [(uu h).mpr z] at hc;cases hc
 intro A
 induction A with
 | yes =>
   intro s m
   cases s with
   | true=>rfl
   | false=>exact absurd (FP m) nc
 | no =>
   intro s m
   cases s with
   | false=>rfl
   | true=>exact absurd (Or.inr (FP m)) nc
 | word w ts =>
   intro s m;show hw (lw row) (.word w ts) = s
   cases s with
   | true=>exact (tY (h _ m)).mpr (tK.mpr ⟨m,rfl⟩)
   | false =>
     rw [cI];intro z;have z2:=(tK.mp ((tY (h _ m)).mp z)).1
     exact nc (.inr (.inr ⟨_,z2,m⟩))
 | un u a ih =>
   intro s m;have pp:=hp _ m
   cases u with
   | all=>cases pp
   | ex=>cases pp
   | neg =>
     rcases hs _ m with z | ⟨b,hb,k⟩
     . cases s<;>cases z
     . have e:b = [(!s,a)]:=by cases s<;>simpa [br] using hb
       subst e;have:=ih (!s) (k _ (List.mem_singleton_self _));show (!tr (lw row) a) = s
       rw [this,Bool.not_not]
 | bi b x y ihx ihy =>
   intro s m;rcases hs _ m with z | ⟨c,hc,k⟩
   . cases s<;>cases b<;>cases z
   . cases s<;>cases b<;>simp [br] at hc<;>(try rcases hc with rfl | rfl)<;>(try subst hc)<;>simp at k<;>simp only [tr]<;>first | (rw [ihx _ k.1,ihy _ k.2];done) | (rw [ihx _ k];simp;done) | (rw [ihy _ k];simp;done) | (rw [ihx _ k.1,ihy _ k.2];rfl)
def un:Bool->F->List It
 | s,.un u a=>(s,.un u a)::un (!s) a
 | s,.bi .imp x y=>(s,.bi .imp x y)::(un (!s) x++un s y)
 | s,.bi b x y=>(s,.bi b x y)::(un s x++un s y)
 | s,A=>[(s,A)]
def sg:F->Nat
 | .un _ a=>sg a+1
 | .bi _ x y=>sg x+sg y+1
 | _=>0
def oj (s:Bool) (A:F):(s,A)∈un s A:=by
 cases A with
 | bi b x y=>cases b<;>simp [un]
 | _=>simp [un]
def pz:∀ (A:F) (s:Bool),(un s A).length<=2 * sg A+1
 | .yes,_ | .no,_ | .word _ _,_=>by simp [un]
 | .un u a,s=>by have:=pz a (!s);simp only [un,sg,aG];lia
 | .bi b x y,s=>by
   have h1:=pz x (!s);have h2:=pz x s;have h3:=pz y s;cases b<;>simp only [un,sg,aG,ay]<;>lia
def yz:∀ (A:F) (s:Bool),pl A = true->∀ p∈un s A,pl p.2 = true/\sz p.2<=sz A
 | .yes,_,h,p,hp | .no,_,h,p,hp | .word _ _,_,h,p,hp=>by rw [aC.mp hp];exact ⟨h,aA _⟩
 | .un u a,s,h,p,hp=>by
   rcases aD.mp hp with rfl | hq
   . exact ⟨h,aA _⟩
   . cases u with
     | neg =>
       obtain ⟨h1,h2⟩:=yz a (!s) h p hq
       exact ⟨h1,by simp only [sz];lia⟩
     | all=>cases h
     | ex=>cases h
 | .bi b x y,s,h,p,hp=>by
   have h':(pl x && pl y) = true:=h;rw [aa] at h'
   have key:p = (s,.bi b x y)\/(∃ s',p∈un s' x)\/p∈un s y:=by
    cases b<;>(simp only [un,aD,aN] at hp;rcases hp with z | z | z<;>first | exact .inl z | exact .inr (.inl ⟨_,z⟩) | exact .inr (.inr z))
   rcases key with rfl | ⟨s',z⟩ | z
   . exact ⟨h,aA _⟩
   . obtain ⟨k1,k2⟩:=yz x s' h'.1 p z;exact ⟨k1,by simp only [sz];lia⟩
   . obtain ⟨k1,k2⟩:=yz y s h'.2 p z;exact ⟨k1,by simp only [sz];lia⟩
def uV (s:Bool) (A:F):∀ b∈br (s,A),∀ q∈b,q∈un s A:=by
 cases A with
 | un u a =>
   cases u with
   | neg =>
     intro b hb q hq;have e:b = [(!s,a)]:=by cases s<;>simpa [br] using hb
     subst e;rw [aC.mp hq]
     exact ai _ (oj _ _)
   | all=>cases s<;>simp [br]
   | ex=>cases s<;>simp [br]
 | bi b x y=>cases s<;>cases b<;>simp [br,un,oj]
 | _=>cases s<;>simp [br]
def sI:∀ (A:F) (s:Bool),∀ p∈un s A,∀ b∈br p,∀ q∈b,q∈un s A
 | .yes,s,p,hp,b,hb,q,hq=>by rw [aC.mp hp] at hb;exact uV s _ b hb q hq
 | .no,s,p,hp,b,hb,q,hq=>by rw [aC.mp hp] at hb;exact uV s _ b hb q hq
 | .word _ _,s,p,hp,b,hb,q,hq=>by rw [aC.mp hp] at hb;exact uV s _ b hb q hq
 | .un u a,s,p,hp,b,hb,q,hq=>by
   rcases aD.mp hp with rfl | hp
   . exact uV s _ b hb q hq
   . exact ai _ (sI a (!s) p hp b hb q hq)
 | .bi c x y,s,p,hp,b,hb,q,hq=>by
   cases c<;>(simp only [un,aD,aN] at hp;rcases hp with rfl | z | z<;>first | exact uV s _ b hb q hq | exact ai _ (bb _ (sI x _ p z b hb q hq)) | exact ai _ (aM _ (sI y _ p z b hb q hq)))
def Un (row:List It):List It:=row.flatMap λp=>un p.1 p.2
structure Cls (U:List It):Prop where
 ok:∀ p∈U,okP p
 br:∀ p∈U,∀ b∈br p,∀ q∈b,q∈U
def MQ {row:List It} (h:∀ p∈row,okP p):Cls (Un row):=⟨λp hp=>by
 obtain ⟨q,hq,z⟩:=dU.mp hp;have:=yz q.2 q.1 (h q hq).1 p z;exact ⟨this.1,by have:=(h q hq).2;lia⟩,λp hp b hb r hr=>by
 obtain ⟨q,hq,z⟩:=dU.mp hp;exact dU.mpr ⟨q,hq,sI q.2 q.1 p z b hb r hr⟩⟩
def MP {row:List It}:∀ p∈row,p∈Un row:=λp hp=>dU.mpr ⟨p,hp,oj p.1 p.2⟩
def mu (U row:List It):Nat:=U.countP λp=>!has row p
def qt {α:Type} {p q:α->Bool} (h:∀ x,p x = true->q x = true):∀ {l:List α} {a:α},a∈l->q a = true->p a = false->l.countP p < l.countP q
 | x::l,a,ha,hq,hp=>by
   have mono:=List.countP_mono_left (l:=l) λx _=>h x;rcases aD.mp ha with rfl | ha
   . rw [List.countP_cons_of_pos hq,List.countP_cons_of_neg (by rw [hp];simp)]
     lia
   . have ih:=qt h ha hq hp;rw [FV,FV]
     cases e:p x with
     | true=>rw [if_pos rfl,if_pos (h x e)];lia
     | false=>rw [if_neg ↥0];split<;>lia
def Ic {U row row':List It} (h:low row) (h':low row') (k:∀ p∈row,p∈row') {q:It} (hq:q∈U) (n:q∉row) (m:q∈row'):mu U row' < mu U row:=by
 refine qt (λx e=>?_) hq (by rw [dJ,cI];exact λz=>n ((dM h).mp z)) (by rw [(dM h').mpr m];rfl);rw [dJ,cI] at e |-;exact λz=>e ((dM h').mpr (k x ((dM h).mp z)))
def Eg {row:List It} (h:low row):mu (Un row) row<=2 * (row.map λp=>sg p.2).sum:=by
 have key:∀ l:List It,(∀ p∈l,p∈row)->(l.flatMap λp=>un p.1 p.2).countP (λp=>!has row p)<=2 * (l.map λp=>sg p.2).sum:=λl=>by
  induction l with
  | nil=>intro _;simp
  | cons a l ih =>
    intro k;have ih:=ih λp hp=>k p (ai _ hp);rw [nR,List.countP_append,az,cS]
    have e1:(un a.1 a.2).countP (λp=>!has row p)<=2 * sg a.2:=by
     have ul:=pz a.2 a.1;have hm:=oj a.1 a.2;have hin:has row a = true:=(dM h).mpr (k a av);have lt:(un a.1 a.2).countP (λp=>!has row p) < (un a.1 a.2).countP λ_=>true:=qt (λ_ _=>rfl) hm rfl (by show (!has row a) = false;rw [hin];rfl);rw [List.countP_true] at lt
     lia
    lia
 exact key row λp hp=>hp
def sub:F->List F
 | .un _ a=>[a]
 | .bi _ x y=>[x,y]
 | _=>[]
def pN (n:Nat) (A:F):PP.run Gs gls (n+1) 0 [enc A] = some (.tup ((sub A).map enc)):=by
 cases A with
 | un u a=>cases u<;>kernel_rfl
 | bi b x y=>cases b<;>kernel_rfl
 | _=>kernel_rfl
def ints_map {α:Type} (f:α->Int):∀ xs:List α,nJ (xs.map λx=>D.int (f x)) = some (xs.map f)
 | []=>rfl
 | x::xs=>by
   rw [az];unfold nJ;rw [ints_map f xs];rfl
def sub_len (A:F):(sub A).length<=2:=by cases A<;>simp [sub]
def sO {cx:Cl} {e:E} {δ:PP.Loc} {α:Type} {f:α->Int} {xs:List α} (h:evE cx e δ = some (.lst (xs.map λx=>D.int (f x)),δ)):evE cx (.blt .sum (.cons e .nil)) δ = some (.int (xs.map f).sum,δ) :=
 gq (bM h rfl) (by show (nJ _).map _ = _;rw [ints_map];rfl)
def ye {cx:Cl} {e:E} {δ:PP.Loc} {α:Type} {f:α->Bool} {xs:List α} (h:evE cx e δ = some (.lst (xs.map λx=>D.bl (f x)),δ)):evE cx (.blt .all (.cons e .nil)) δ = some (.bl (xs.all f),δ) :=
 gq (bM h rfl) (by show (jb _).map _ = _;rw [kU];show some (D.bl ((xs.map f).all id)) = _;rw [List.all_map];rfl)
def Fu {cx:Cl} {e:E} {δ:PP.Loc} {α:Type} {f:α->Bool} {xs:List α} (h:evE cx e δ = some (.lst (xs.map λx=>D.bl (f x)),δ)):evE cx (.blt .any (.cons e .nil)) δ = some (.bl (xs.any f),δ) :=
 gq (bM h rfl) (by show (jb _).map _ = _;rw [kU];show some (D.bl ((xs.map f).any id)) = _;rw [List.any_map];rfl)
def pL (n:Nat) (A:F) (hl:∀ m,PP.run Gs gls (m+1) 0 [enc A] = some (.tup ((sub A).map enc))) (ih:∀ B∈sub A,PP.run Gs gls (n+1) 2 [enc B] = some (.int (sg B))) (h0:sg A = ((sub A).map sg).sum+1) (hz:∀ δ:PP.Loc,evT ⟨PP.run Gs gls (n+1),gls,hfs Gs⟩ (.cmp .isin (.ix (.var 0) (.int 0)) (.glob 0)) [.val (enc A)] = some (false,[.val (enc A)])):PP.run Gs gls (n+2) 2 [enc A] = some (.int (sg A)):=by
 have ss:=s64;have sl:=sub_len A;apply bc;refine aX oU rfl rfl rfl ?_;simp only [oU,init,SI,Nat.reduceAdd,Nat.reduceSub];refine bq false (hz []) (λz=>by cases z) λ_=>?_;refine cu _ (di (x:=.int 1) ⋯ (sO (f:=λB:F=>(sg B:Int)) (xs:=sub A) (kB enc (λB=>.int (sg B)) (λB=>[enc B]) (sub A) ∅ (uh (aV [enc A] ⋯ (hl n)) rfl) rfl (λB _=>by kernel_rfl) ih)) rfl) ?_;congr 1
 have:((sub A).map λB:F=>(sg B:Int)).sum = (((sub A).map sg).sum:Nat):=by
  generalize sub A = l
  induction l with
  | nil=>rfl
  | cons a l ih=>rw [az,cS,az,cS,ih];lia
 rw [this,h0]
 lia
def oz:∀ (A:F) (n:Nat),hF A+1<=n->PP.run Gs gls n 2 [enc A] = some (.int (sg A))
 | .yes,n,h | .no,n,h | .word _ _,n,h=>by
   obtain ⟨n,rfl⟩:∃ k,n = k+1:=⟨n - 1,∅⟩
   kernel_rfl
 | .un u a,n,h=>by
   obtain ⟨n,rfl⟩:∃ k,n = k+2:=⟨n - 2,by simp only [hF] at h;lia⟩;refine pL n _ (λm=>pN m _) (λB hB=>?_) (by simp [sub,sg]) λ_=>by cases u<;>kernel_rfl
   rw [aC.mp hB]
   exact oz a (n+1) (by simp only [hF] at h;lia)
 | .bi b x y,n,h=>by
   obtain ⟨n,rfl⟩:∃ k,n = k+2:=⟨n - 2,by simp only [hF] at h;lia⟩;refine pL n _ (λm=>pN m _) (λB hB=>?_) (by simp [sub,sg]) λ_=>by cases b<;>kernel_rfl
   simp only [hF] at h;have i1:=oz x (n+1) ∅;have i2:=oz y (n+1) ∅;simp only [sub,aD,cj,or_false] at hB;rcases hB with rfl | rfl
   . exact i1
   . exact i2
def jB (n:Nat) (A:F) (p:Bool) (ih:p = true->∀ B∈sub A,PP.run Gs gls (n+1) 15 [enc B] = some (.bl (pl B))) (hz:evE ⟨PP.run Gs gls (n+1),gls,hfs Gs⟩ (.cmp .notin (.ix (.var 0) (.int 0)) (.glob 1)) [.val (enc A)] = some (.bl p,[.val (enc A)])) (h0:pl A = (p && (sub A).all pl)):PP.run Gs gls (n+2) 15 [enc A] = some (.bl (pl A)):=by
 have ss:=s64;have sl:=sub_len A;rw [h0];apply bc;refine aX jQ rfl rfl rfl ?_;simp only [jQ,init,SI,Nat.reduceAdd,Nat.reduceSub];refine cm.mpr (mJ.mpr (xh.mpr ⟨.bl p,_,hz,p,rfl,?_⟩))
 cases p with
 | false=>exact rfl
 | true =>
   have c:=ye (f:=pl) (xs:=sub A) (kB (G:=Gs) (gl:=gls) (n:=n+1) (f:=15) (i:=1) (δ:=[.val (enc A)]) (src:=.sq (.call 0 (.cons (.var 0) .nil))) (es:=.cons (.var 1) .nil) enc (λB=>.bl (pl B)) (λB=>[enc B]) (sub A) ∅ (uh (aV [enc A] ⋯ (pN n A)) rfl) rfl (λB _=>by kernel_rfl) (ih rfl));exact ⟨_,_,c,rfl⟩
def oA:∀ (A:F) (n:Nat),hF A+1<=n->PP.run Gs gls n 15 [enc A] = some (.bl (pl A))
 | .yes,n,h | .no,n,h | .word _ _,n,h=>by
   obtain ⟨n,rfl⟩:∃ k,n = k+2:=⟨n - 2,by simp only [hF] at h;lia⟩
   kernel_rfl
 | .un u a,n,h=>by
   obtain ⟨n,rfl⟩:∃ k,n = k+2:=⟨n - 2,by simp only [hF] at h;lia⟩;have i1:=oA a (n+1) (by simp only [hF] at h;lia)
   have one:∀ B∈sub (.un u a),PP.run Gs gls (n+1) 15 [enc B] = some (.bl (pl B)):=λB hB=>by
    rw [aC.mp hB];exact i1
   cases u with
   | neg=>exact jB n _ true (λ_=>one) ⋯ (by simp [pl,sub])
   | all=>exact jB n _ false (λz=>by cases z) ⋯ rfl
   | ex=>exact jB n _ false (λz=>by cases z) ⋯ rfl
 | .bi b x y,n,h=>by
   obtain ⟨n,rfl⟩:∃ k,n = k+2:=⟨n - 2,by simp only [hF] at h;lia⟩;simp only [hF] at h;have i1:=oA x (n+1) ∅;have i2:=oA y (n+1) ∅;refine jB n _ true (λ_ B hB=>?_) (by cases b<;>kernel_rfl) (by simp [pl,sub]);simp only [sub,aD,cj,or_false] at hB;rcases hB with rfl | rfl
   . exact i1
   . exact i2
section
variable {cx:Cl} {δ:PP.Loc} {i j:Nat} {src:PP.It} {ifs:Eo} {elt:E}
def kA {α:Type} (g h:α->D) (p:α->Bool) (xs:List α) (hi:evI cx src δ = some (xs.map g,δ)) (hd:i = δ.length) (hg:∀ x∈xs,evG cx ifs (δ++[.val (g x)]) = some (p x,δ++[.val (g x)])) (he:∀ x∈xs,p x = true->evE cx elt (δ++[.val (g x)]) = some (h x,δ++[.val (g x)])) (hl:xs.length<=sizeLine):evE cx (.comp 1 (.nm i) src ifs elt) δ = some (.lst ((xs.filter p).map h),δ):=by
 subst hd
 have:wE cx (.comp 1 (.nm δ.length) src ifs elt) δ λd δ'=>d = .lst ((xs.filter p).map h)/\δ' = δ:=by
  refine oh.mpr ⟨_,_,hi,gZ g p h xs (λx hx=>?_) ?_⟩
  . refine ⟨δ++[.val (g x)],?_,p x,_,hg x hx,rfl,?_⟩
    . show (if δ.length < (δ++aU 1 Sl.no).length then _ else _) = _;rw [if_pos ↥0];simp [gC]
    . cases e:p x with
      | true=>rw [if_pos rfl];exact ⟨_,_,he x hx e,rfl,↥0⟩
      | false=>rw [if_neg ↥0];simp
  . rw [aw];exact ⟨bx (gF _ _) hl,rfl,rfl⟩
 obtain ⟨_,_,e,rfl,rfl⟩:=this;exact e
def mq (h:It->D) (p:It->Bool) (xs:List It) (hi:evI cx src δ = some (xs.map itD,δ)) (hd:i = δ.length) (hd2:j = δ.length+1) (hg:∀ x∈xs,evG cx ifs (δ++[.val (.str (sd x.1)),.val (enc x.2)]) = some (p x,δ++[.val (.str (sd x.1)),.val (enc x.2)])) (he:∀ x∈xs,p x = true->evE cx elt (δ++[.val (.str (sd x.1)),.val (enc x.2)]) = some (h x,δ++[.val (.str (sd x.1)),.val (enc x.2)])) (hl:xs.length<=sizeLine):evE cx (.comp 2 (.tp [i,j]) src ifs elt) δ = some (.lst ((xs.filter p).map h),δ):=by
 subst hd hd2
 have:wE cx (.comp 2 (.tp [δ.length,δ.length+1]) src ifs elt) δ λd δ'=>d = .lst ((xs.filter p).map h)/\δ' = δ:=by
  refine oh.mpr ⟨_,_,hi,gZ itD p h xs (λx hx=>?_) ?_⟩
  . refine ⟨δ++[.val (.str (sd x.1)),.val (enc x.2)],?_,p x,_,hg x hx,rfl,?_⟩
    . show (if [δ.length,δ.length+1].length = [D.str (sd x.1),enc x.2].length/\[δ.length,δ.length+1].all (· < (δ++aU 2 Sl.no).length) = true then some (([δ.length,δ.length+1].zip [D.str (sd x.1),enc x.2]).foldl (λδ p=>δ.set p.1 (.val p.2)) (δ++aU 2 Sl.no)) else none) = _;rw [if_pos ⟨rfl,↥0⟩];simp [gC,aU]
    . cases e:p x with
      | true=>rw [if_pos rfl];exact ⟨_,_,he x hx e,rfl,↥0⟩
      | false=>rw [if_neg ↥0];simp
  . rw [aw];exact ⟨bx (gF _ _) hl,rfl,rfl⟩
 obtain ⟨_,_,e,rfl,rfl⟩:=this;exact e
end
def iu {α:Type} (xs:List α):xs.filter (λ_=>true) = xs:=iA.mpr λ_ _=>rfl
def adds (row b:List It):Bool:=b.any λq=>!has row q
def KP (n:Nat) {row b:List It} (h:low row) (hb:low b) (hl:b.length<=2):PP.run Gs gls (n+1) 16 [ba row,.lst (b.map itD)] = some (.bl (adds row b)):=by
 have ss:=s64;apply bc;refine aX kT rfl rfl rfl ?_;simp only [kT,init,SI,Nat.reduceAdd,Nat.reduceSub];refine cu _ (Fu (f:=λq=>!has row q) (xs:=b) ?_) rfl;have c:=kA (cx:=⟨PP.run Gs gls n,gls,hfs Gs⟩) (δ:=[.val (ba row),.val (.lst (b.map itD))]) (i:=2) (src:=.sq (.var 1)) (ifs:=.no) (elt:=.cmp .notin (.var 2) (.var 0)) itD (λq=>.bl (!has row q)) (λ_=>true) b ⋯ rfl (λ_ _=>rfl) (λq hq _=>jM (x:=itD q) (y:=ba row) ⋯ ⋯ (rF h (hb q hq))) ∅;rw [iu] at c;exact c
def gD (p:It):D:=.tup [.int (br p).length,.str (sd p.1),enc p.2]
def gv (row:List It) (p:It):Bool:=!(br p).isEmpty && (br p).all λb=>adds row b
def Hk (n:Nat) {row:List It} (h:low row) (hp:∀ p∈row,pl p.2 = true) (hl:row.length<=62):PP.run Gs gls (n+6) 17 [ba row] = some (.lst ((row.filter (gv row)).map gD)):=by
 have ss:=s64;apply bc;refine aX gS rfl rfl rfl ?_;simp only [gS,init,SI,Nat.reduceAdd,Nat.reduceSub];refine dc 1 [.val (ba row),.own [],.no,.no,.no] ⋯ ?_;refine gk (row.map itD) ⋯ ?_;refine fP (g:=itD) (λrest δ=>∃ (acc:List It) (s2 s3 s4:Sl),δ = [.val (ba row),.own (acc.map gD),s2,s3,s4]/\(∀ p∈rest,p∈row)/\acc.length+rest.length<=62/\acc++rest.filter (gv row) = row.filter (gv row)) ?_ ?_ _ _ ⟨[],_,_,_,rfl,λp z=>z,by simpa using hl,rfl⟩
 . rintro p rest δ ⟨acc,s2,s3,s4,rfl,hm,ha,e⟩;have hpr:=hm p av;have hpp:=hp p hpr;have w:=sV (n+1) p hpp;have bl:=gg p;rw [aG] at ha;have ca:=ye (f:=λb=>adds row b) (xs:=br p) (e:=.comp 1 (.nm 5) (.sq (.var 4)) .no (.call 16 (.cons (.var 0) (.cons (.var 5) .nil)))) (kB (G:=Gs) (gl:=gls) (n:=n+5) (f:=16) (δ:=[.val (ba row),.own (acc.map gD),.val (.str (sd p.1)),.val (enc p.2),.val (brD (br p))]) (i:=5) (src:=.sq (.var 4)) (es:=.cons (.var 0) (.cons (.var 5) .nil)) (λb:List It=>.lst (b.map itD)) (λb=>.bl (adds row b)) (λb=>[ba row,.lst (b.map itD)]) (br p) ∅ ⋯ rfl (λb _=>by kernel_rfl) λb hb=>KP (n+4) h (λq hq=>by have:=(Jx hpp b hb q hq).2;have:=h p hpr;lia) (bl.2 b hb));refine ⟨[.val (ba row),.own (acc.map gD),.val (.str (sd p.1)),.val (enc p.2),s4],rfl,?_⟩;refine fE [.str (sd p.1),enc p.2,.str ""] ⋯ ((fy w).mpr ⟨_,rfl,?_⟩)
   have ev:evT ⟨PP.run Gs gls (n+5),gls,hfs Gs⟩ (.and (.var 4) (.blt .all (.cons (.comp 1 (.nm 5) (.sq (.var 4)) .no (.call 16 (.cons (.var 0) (.cons (.var 5) .nil)))) .nil))) [.val (ba row),.own (acc.map gD),.val (.str (sd p.1)),.val (enc p.2),.val (brD (br p))] = some (gv row p,[.val (ba row),.own (acc.map gD),.val (.str (sd p.1)),.val (enc p.2),.val (brD (br p))]):=by
    refine jL (p:=!(br p).isEmpty) (q:=(br p).all λb=>adds row b) ?_ ?_
    . cases eb:br p with
      | nil=>kernel_rfl
      | cons a l=>kernel_rfl
    . obtain ⟨x,y,e3⟩:∃ x y:Nat,x = y:=⟨0,0,rfl⟩;simp only [evE,af,ae] at ca;obtain ⟨⟨ds,δ1⟩,e1,d2,e2,e3⟩:=ca;cases e3;simp only [evT,af,ae];exact ⟨(ds,_),e1,_,e2,_,rfl,rfl⟩
   refine bq (gv row p) ev (λz=>?_) λz=>?_
   . refine lC (gD p) ?_ (by rfl) (by rw [aw];lia) ?_
     . cases eb:br p with
       | nil=>unfold gD;rw [eb];kernel_rfl
       | cons a l =>
         unfold gD;rw [eb];exact mj (bM (gq (bM (d:=brD (a::l)) ⋯ rfl) (by show some (D.int _) = _;rw [aw])) ⋯) (by show 3<=sizeLine;decide)
     . refine ⟨.nx [.val (ba row),.own (acc.map gD++[gD p]),.val (.str (sd p.1)),.val (enc p.2),.val (brD (br p))],⋯,acc++[p],_,_,_,by rw [bC];rfl,λq hq=>hm q (ai _ hq),by rw [ay];simp only [aG,bf];lia,?_⟩;rw [wM z] at e;rw [fY];exact e
   . refine ⟨.nx [.val (ba row),.own (acc.map gD),.val (.str (sd p.1)),.val (enc p.2),.val (brD (br p))],⋯,acc,_,_,_,rfl,λq hq=>hm q (ai _ hq),∅,?_⟩;rw [wN (by rw [z];simp)] at e;exact e
 . rintro δ ⟨acc,s2,s3,s4,rfl,_,_,e⟩;rw [List.filter_nil,cq] at e;subst e;exact eM (d:=.lst _) ⋯ rfl
def Ek {l:List It} (hne:l≠[]) (h:low l):∃ p∈l,jU .min [.lst (l.map gD)] = some (gD p):=by
 have lt:∀ p∈l,∀ q∈l,(iX (gD p) (gD q)).isSome = true:=λp hp q hq=>by
  have:=fA p.2;have:=fA q.2;have:=h p hp;have:=h q hq;unfold iX;rw [if_pos (by simp only [gD,dep,cb,jO];lia)];refine jG ?_;unfold dv;split
  . exact lts λ_=>ltc (mV _ _) (ltn _)
  . unfold ltD;rfl
 have hlen:PySem.argBest (fR (l.map gD)) ((l.map gD).length - 1) < l.length:=by
  have:=argBest_lt (fR (l.map gD)) ((l.map gD).length - 1);have:=iz.mpr hne;rw [aw] at *
  lia
 refine ⟨l[PySem.argBest (fR (l.map gD)) ((l.map gD).length - 1)],bS hlen,?_⟩;show (if l.map gD≠[]/\((l.map gD).all λx=>(l.map gD).all λy=>(iX x y).isSome) = true then some ((l.map gD).getD (PySem.argBest (fR (l.map gD)) ((l.map gD).length - 1)) .non) else none) = _
 rw [if_pos ⟨by simpa using hne,by
  rw [aW];intro x hx;obtain ⟨p,hp,rfl⟩:=bG.mp hx;rw [aW];intro y hy;obtain ⟨q,hq,rfl⟩:=bG.mp hy;exact lt p hp q hq⟩]
 rw [bN,bj,aB hlen];rfl
def Bad (U row:List It) (ws:List F):Prop:=(∀ A∈ws,isW A = true/\(true,A)∈U)/\(ws.Pairwise λA B=>ltI (true,A) (true,B) = true)/\ws.length<=62/\∀ p∈row,tr ws p.2 = p.1
def Res (U row:List It) (N:Nat) (d:D):Prop :=
 (∃ t,d = .tup [.bl true,bT t]/\okT t/\ht t<=N+1/\fit row t = true)\/∃ ws:List F,d = .tup [.bl false,.lst (ws.map enc)]/\Bad U row ws
section
variable {n N:Nat} {U row:List It} {p:It} (hU:Cls U) (hr:∀ q∈row,q∈U) (hp:p∈row) (hl:row.length+2 * (N+1)<=62) (hn:N+12<=n)
include hU hr hp hl hn
theorem uf {b:List It} (hb:b∈br p) {ks:List T} (hk:ks.length<=2) {s4 s5 s6:Sl} {xs:List D} {Q:Out->Prop} (w:fZ Gs gls n 19 [ba (mo (row++b))] (Res U (mo (row++b)) N)) (q1:∀ d δ,Res U row (N+1) d->Q (.rt d δ))
 (k:∀ (t:T) (s5 s6:Sl),okT t->ht t<=N+1->fit (row++b) t = true->kb ⟨PP.run Gs gls n,gls,hfs Gs⟩ (.nm 4) (qk (dF 1 gf.body)) xs [.val (ba row),.val (.str (sd p.1)),.val (enc p.2),.own ((ks++[t]).map bT),.val (.lst (b.map itD)),s5,s6] Q) :
 kb ⟨PP.run Gs gls n,gls,hfs Gs⟩ (.nm 4) (qk (dF 1 gf.body)) (.lst (b.map itD)::xs) [.val (ba row),.val (.str (sd p.1)),.val (enc p.2),.own (ks.map bT),s4,s5,s6] Q:=by
 have ss:=s64;have low':low row:=λq hq=>(hU.ok q (hr q hq)).2;have o:=hU.ok p (hr p hp);have lb:=fj low' o hb;have bl:=(gg p).2 b hb;rw [ji];refine ⟨[.val (ba row),.val (.str (sd p.1)),.val (enc p.2),.own (ks.map bT),.val (.lst (b.map itD)),s5,s6],rfl,?_⟩;refine fE [ba (mo (row++b))] (bM (aV [ba row,.lst (b.map itD)] ⋯ (by have:=Dx (n - 2) row b _ (.inl rfl) lb ∅;rw [show n - 2+2 = n by lia] at this;exact this)) rfl) (mK w ?_);rintro d (⟨t,rfl,ot,hh,f⟩ | ⟨ws,rfl,bd⟩)
 . refine ⟨[.val (ba row),.val (.str (sd p.1)),.val (enc p.2),.own (ks.map bT),.val (.lst (b.map itD)),.val (.bl true),.val (bT t)],rfl,?_⟩;refine bq false ⋯ (λz=>by cases z) λ_=>?_;have wf:=sW t n row ∅ ∅ ot low' ∅;rw [ue lb ot] at f;refine bq (fit row t) (jK [ba row,bT t] ⋯ wf) (λz=>?_) λz=>?_
   . exact ⟨.rt (.tup [.bl true,bT t]) [.val (ba row),.val (.str (sd p.1)),.val (enc p.2),.own (ks.map bT),.val (.lst (b.map itD)),.val (.bl true),.val (bT t)],⋯,q1 _ _ (.inl ⟨t,rfl,ot,∅,z⟩)⟩
   . refine lC (bT t) ⋯ rfl (by rw [aw];lia) ?_;refine ⟨.nx [.val (ba row),.val (.str (sd p.1)),.val (enc p.2),.own (ks.map bT++[bT t]),.val (.lst (b.map itD)),.val (.bl true),.val (bT t)],⋯,?_⟩;have:=k t (.val (.bl true)) (.val (bT t)) ot hh f;rw [bC] at this;exact this
 . refine ⟨[.val (ba row),.val (.str (sd p.1)),.val (enc p.2),.own (ks.map bT),.val (.lst (b.map itD)),.val (.bl false),.val (.lst (ws.map enc))],rfl,?_⟩;refine bq true ⋯ (λ_=>?_) λz=>by cases z
   exact ⟨.rt (.tup [.bl false,.lst (ws.map enc)]) [.val (ba row),.val (.str (sd p.1)),.val (enc p.2),.own (ks.map bT),.val (.lst (b.map itD)),.val (.bl false),.val (.lst (ws.map enc))],⋯,q1 _ _ (.inr ⟨ws,rfl,bd.1,bd.2.1,bd.2.2.1,λq hq=>bd.2.2.2 q (ky.mpr (bb _ hq))⟩)⟩
theorem AA (hb:0 < (br p).length) (w:∀ b∈br p,fZ Gs gls n 19 [ba (mo (row++b))] (Res U (mo (row++b)) N)):fZ Gs gls (n+1) 18 [ba row,.str (sd p.1),enc p.2] (Res U row (N+1)):=by
 have low':low row:=λq hq=>(hU.ok q (hr q hq)).2;have o:=hU.ok p (hr p hp);have wp:=sV (n - 4) p o.1;rw [show n - 4+4 = n by lia] at wp;have hin:has row p = true:=(dM low').mpr hp;refine aX gf rfl rfl rfl ?_;simp only [gf,init,SI,Nat.reduceAdd,Nat.reduceSub];refine dc 1 [.val (ba row),.val (.str (sd p.1)),.val (enc p.2),.own [],.no,.no,.no] ⋯ ?_;refine gk ((br p).map λb=>.lst (b.map itD)) (uh (aV [.str (sd p.1),enc p.2,.str ""] ⋯ wp) rfl) ?_;have bl:=(gg p).1;have l12:(br p).length = 1\/(br p).length = 2:=by lia
 rcases l12 with e | e
 . have m0:=gL (p:=p) ∅;rw [br1 e,az,eK];refine uf hU hr hp hl hn m0 (ks:=[]) ↥0 (w _ m0) (λd δ z=>z) λt s5 s6 ot hh f=>?_;rw [jh];refine eM (d:=.tup [.bl true,bT (.r1 p t)]) ⋯ (.inl ⟨.r1 p t,rfl,⟨o,e,ot⟩,by simp only [ht];lia,?_⟩);unfold fit;rw [hin,f];rfl
 . have m0:=gL (p:=p) ∅;have m1:=qv e;rw [br2 e,az,az,eK];refine uf hU hr hp hl hn m0 (ks:=[]) ↥0 (w _ m0) (λd δ z=>z) λt s5 s6 ot hh f=>?_;refine uf hU hr hp hl hn m1 (ks:=[t]) ↥0 (w _ m1) (λd δ z=>z) λu s5 s6 ou hu f2=>?_;rw [jh];refine eM (d:=.tup [.bl true,bT (.r2 p t u)]) ⋯ (.inl ⟨.r2 p t u,rfl,⟨o,e,ot,ou⟩,by simp only [ht];lia,?_⟩);unfold fit;rw [hin,f,f2];rfl
end
def Oq {row:List It} (h:up row):(lw row).Pairwise λA B=>ltI (true,A) (true,B) = true:=by
 unfold lw;rw [FJ];refine (h.filter _).imp_of_mem λ{a b} ha hb z=>?_;have e1:=(cn.mp ha).2;have e2:=(cn.mp hb).2;rw [aa] at e1 e2;obtain ⟨s,A⟩:=a;obtain ⟨s2,B⟩:=b;rw [show s = true from e1.1,show s2 = true from e2.1] at z;exact z
def xR (n:Nat) {row:List It} (h:low row) (hl:row.length<=62) (s1 s2 s3:Sl):evE ⟨PP.run Gs gls n,gls,hfs Gs⟩ (.comp 2 (.tp [4,5]) (.sq (.var 0)) (.yes (.and (.cmp .eq (.var 4) (.str "left")) (.cmp .eq (.ix (.var 5) (.int 0)) (.str "word")))) (.var 5)) [.val (ba row),s1,s2,s3] = some (.lst ((lw row).map enc),[.val (ba row),s1,s2,s3]):=by
 have ss:=s64;have c:=mq (cx:=⟨PP.run Gs gls n,gls,hfs Gs⟩) (δ:=[.val (ba row),s1,s2,s3]) (i:=4) (j:=5) (src:=.sq (.var 0)) (ifs:=.yes (.and (.cmp .eq (.var 4) (.str "left")) (.cmp .eq (.ix (.var 5) (.int 0)) (.str "word")))) (elt:=.var 5) (λp=>enc p.2) (λp=>p.1 && isW p.2) row ⋯ rfl rfl (λp hp=>?_) (λp _ _=>by kernel_rfl) ∅
 . rw [c];unfold lw;rw [fX];rfl
 . obtain ⟨s,A⟩:=p
   cases A with
   | un u a=>cases s<;>cases u<;>kernel_rfl
   | bi b x y=>cases s<;>cases b<;>kernel_rfl
   | _=>cases s<;>kernel_rfl
def Mm {cx:Cl} {δ:PP.Loc} {a:E} {lo hi:Eo} {x z:D} {l h:Option Int} (ha:evE cx a δ = some (x,δ)) (hl:evO cx lo δ = some (l,δ)) (hh:evO cx hi δ = some (h,δ)) (hs:slD x l h = some z):evE cx (.sl a lo hi) δ = some (z,δ):=by
 simp only [evE,ha,hl,hh,hs,af,aP];rfl
def qj {U:List It} (hU:Cls U) (N:Nat) (ih:∀ N',N = N'+1->∀ (n:Nat) (row:List It),up row->(∀ q∈row,q∈U)->mu U row<=N'->row.length+2 * N'<=62->2 * N'+20<=n->fZ Gs gls n 19 [ba row] (Res U row N')) (n:Nat) (row:List It) (hup:up row) (hr:∀ q∈row,q∈U) (hm:mu U row<=N) (hl:row.length+2 * N<=62) (hn:2 * N+20<=n):fZ Gs gls n 19 [ba row] (Res U row N):=by
 have ss:=s64;have lw':low row:=λq hq=>(hU.ok q (hr q hq)).2;have hpl:∀ q∈row,pl q.2 = true:=λq hq=>(hU.ok q (hr q hq)).1;obtain ⟨n,rfl⟩:∃ k,n = k+8:=⟨n - 8,∅⟩;refine aX jS rfl rfl rfl ?_;simp only [jS,init,SI,Nat.reduceAdd,Nat.reduceSub];refine bq (cl row) (jK [ba row] ⋯ (vt (n+6) row lw' ∅)) (λz=>?_) λhc=>?_
 . exact eM (d:=.tup [.bl true,bT .cl]) ⋯ (.inl ⟨.cl,rfl,trivial,by simp only [ht];lia,z⟩)
 refine fE [ba row] ⋯ ((fy (Hk (n+1) lw' hpl ∅)).mpr ⟨_,rfl,?_⟩)
 cases eg:row.filter (gv row) with
 | nil =>
   refine bq false ⋯ (λz=>by cases z) λ_=>?_;refine cu _ (mj (bM (d:=.bl false) ⋯ (bM (xR _ lw' ∅ _ _ _) rfl)) (by show 2<=sizeLine;decide)) (.inr ⟨lw row,rfl,λA hA=>?_,Oq hup,?_,λq hq=>?_⟩)
   . obtain ⟨h1,h2⟩:=tK.mp hA;exact ⟨h2,hr _ h1⟩
   . have:(lw row).length<=row.length:=by
      unfold lw;rw [aw];exact gF _ _
     lia
   . refine Hf lw' hc hpl (λp hp=>?_) q.2 q.1 hq
     have e:gv row p = false:=by
      cases e:gv row p with
      | false=>rfl
      | true =>
        have z:=cn.mpr ⟨hp,e⟩;rw [eg] at z;cases z
     unfold gv at e;rw [Bool.and_eq_false_iff] at e;rcases e with e | e
     . left;simpa using e
     . right;rw [List.all_eq_false] at e;obtain ⟨b,hb,z⟩:=e;refine ⟨b,hb,λr hrb=>?_⟩;unfold adds at z;simp only [cz,not_exists,not_and,Bool.not_eq_true,iV] at z
       exact (dM lw').mp (z r hrb)
 | cons g0 gs =>
   rw [<- eg];have gne:row.filter (gv row)≠[]:=by rw [eg];simp
   have glow:low (row.filter (gv row)):=λq hq=>lw' q (cn.mp hq).1;obtain ⟨p,hp,hmin⟩:=Ek gne glow;obtain ⟨hp1,hp2⟩:=cn.mp hp;unfold gv at hp2;rw [aa] at hp2;have o:=hU.ok p (hr p hp1)
   have bpos:0 < (br p).length:=by
    have:=hp2.1
    cases e:br p with
    | nil=>rw [e] at this;cases this
    | cons _ _=>simp
   have less:∀ b∈br p,mu U (mo (row++b)) < mu U row:=λb hb=>by
    have z:=aW.mp hp2.2 b hb;unfold adds at z;obtain ⟨q,hq,e⟩:=cz.mp z;have lb:=fj lw' o hb;refine Ic lw' (lH lb) (λr h=>ky.mpr (bb _ h)) (q:=q) (hU.br p (hr p hp1) b hb q hq) (λh=>?_) (ky.mpr (aM _ hq));rw [(dM lw').mpr h] at e;cases e
   obtain ⟨N',rfl⟩:∃ k,N = k+1:=⟨N - 1,by have:=less _ (gL bpos);lia⟩
   have e1:evT ⟨PP.run Gs gls (n+7),gls,hfs Gs⟩ (.var 1) [.val (ba row),.val (.lst ((row.filter (gv row)).map gD)),.no,.no] = some (true,[.val (ba row),.val (.lst ((row.filter (gv row)).map gD)),.no,.no]):=by
    rw [eg];kernel_rfl
   refine bq true e1 (λ_=>?_) λz=>by cases z
   have e2:evE ⟨PP.run Gs gls (n+7),gls,hfs Gs⟩ (.blt .min (.cons (.var 1) .nil)) [.val (ba row),.val (.lst ((row.filter (gv row)).map gD)),.no,.no] = some (gD p,[.val (ba row),.val (.lst ((row.filter (gv row)).map gD)),.no,.no]):=gq (bM (d:=.lst ((row.filter (gv row)).map gD)) ⋯ rfl) hmin;refine dD (.tup [.str (sd p.1),enc p.2]) ?_ ⟨[.val (ba row),.val (.lst ((row.filter (gv row)).map gD)),.val (.str (sd p.1)),.val (enc p.2)],rfl,?_⟩
   . exact Mm e2 (l:=some 1) (h:=none) ⋯ ⋯ ⋯
   refine kI [ba row,.str (sd p.1),enc p.2] ⋯ ?_;refine AA (n:=n+6) hU hr hp1 ∅ ∅ bpos λb hb=>?_;have lb:=fj lw' o hb;refine ih N' rfl (n+6) _ (Jm lb) (λq hq=>?_) (by have:=less b hb;lia) (by have:=oI (row:=row) ((gg p).2 b hb);lia) ∅;rcases aN.mp (ky.mp hq) with z | z
   . exact hr q z
   . exact hU.br p (hr p hp1) b hb q z
def yO {U:List It} (hU:Cls U):∀ (N n:Nat) (row:List It),up row->(∀ q∈row,q∈U)->mu U row<=N->row.length+2 * N<=62->2 * N+20<=n->fZ Gs gls n 19 [ba row] (Res U row N)
 | 0=>qj hU 0 λN' e=>by cases e
 | N+1=>qj hU (N+1) λN' e=>by cases e;exact yO hU N
def IC {cx:Cl} {δ:PP.Loc} {f:Blt} {es:Es} {p:Bool} (h:evE cx (.blt f es) δ = some (.bl p,δ)):evT cx (.blt f es) δ = some (p,δ):=by
 simp only [evE,af,ae] at h;obtain ⟨⟨ds,δ1⟩,e1,d2,e2,e3⟩:=h;cases e3;simp only [evT,af,ae];exact ⟨(ds,_),e1,_,e2,_,rfl,rfl⟩
def sE {cx:Cl} {δ:PP.Loc} {t:E} {a b r:Rs} {Q:OR->Prop} (k:Bool) (h:evT cx t δ = some (k,δ)) (ha:k = true->wRs cx a δ (CD cx r Q)) (hb:k = false->wRs cx b δ (CD cx r Q)):wRs cx (.cons (.ifs t a b) r) δ Q:=by
 refine jg.mpr (JP.mpr ⟨k,δ,h,?_⟩)
 cases k with
 | true=>exact ha rfl
 | false=>exact hb rfl
def sgs (row:List It):Nat:=(row.map λp=>sg p.2).sum
section
variable {n:Nat} {row:List It} (h:low row) (hl:row.length<=62) (hn:63<=n)
include h hl hn
theorem yB:evT ⟨PP.run Gs gls n,gls,hfs Gs⟩ (.not (.blt .all (.cons (.comp 2 (.tp [1,2]) (.sq (.var 0)) .no (.call 15 (.cons (.var 2) .nil))) .nil))) [.val (ba row)] = some (!row.all λp=>pl p.2,[.val (ba row)]):=by
 have ss:=s64;have c:=mq (cx:=⟨PP.run Gs gls n,gls,hfs Gs⟩) (δ:=[.val (ba row)]) (i:=1) (j:=2) (src:=.sq (.var 0)) (ifs:=.no) (elt:=.call 15 (.cons (.var 2) .nil)) (λp=>.bl (pl p.2)) (λ_=>true) row ⋯ rfl rfl (λp _=>rfl) (λp hp _=>aV [enc p.2] ⋯ (oA p.2 n (by have:=lx p.2;have:=h p hp;lia))) ∅;rw [iu] at c;exact kP (IC (ye (f:=λp:It=>pl p.2) c))
theorem yA:evT ⟨PP.run Gs gls n,gls,hfs Gs⟩ (.cmp .gt (.blt .sum (.cons (.comp 2 (.tp [1,2]) (.sq (.var 0)) .no (.call 2 (.cons (.var 2) .nil))) .nil)) (.glob 5)) [.val (ba row)] = some (decide (8 < sgs row),[.val (ba row)]):=by
 have ss:=s64;have c:=mq (cx:=⟨PP.run Gs gls n,gls,hfs Gs⟩) (δ:=[.val (ba row)]) (i:=1) (j:=2) (src:=.sq (.var 0)) (ifs:=.no) (elt:=.call 2 (.cons (.var 2) .nil)) (λp=>.int (sg p.2)) (λ_=>true) row ⋯ rfl rfl (λp _=>rfl) (λp hp _=>aV [enc p.2] ⋯ (oz p.2 n (by have:=lx p.2;have:=h p hp;lia))) ∅;rw [iu] at c
 have e:((row.map λp:It=>(sg p.2:Int)).sum) = ((sgs row:Nat):Int):=by
  unfold sgs;clear c h hl
  induction row with
  | nil=>rfl
  | cons a l ih=>rw [az,cS,az,cS,ih];lia
 have c2:=sO (f:=λp:It=>(sg p.2:Int)) c;rw [e] at c2;refine cy c2 (y:=.int 8) ⋯ ?_;show some (decide ((8:Int) < (sgs row:Int))) = _;congr 1;rw [decide_eq_decide]
 lia
theorem zT (hb:(row.all λp=>pl p.2) = false\/8 < sgs row):PP.run Gs gls (n+1) 44 [ba row] = some (.str (if (row.all λp=>pl p.2) = false then "NotPlain" else "TooGreat")):=by
 apply bc;refine aX x_find_out rfl rfl rfl ?_;simp only [x_find_out,init,SI,Nat.reduceAdd,Nat.reduceSub];refine Nj (sE _ (yB h hl hn) (λe=>?_) λe=>?_)
 . rw [dJ] at e;rw [e,if_pos rfl];exact jg.mpr (Cc.mpr ⟨_,_,rfl,rfl⟩)
 . rw [iV] at e;rw [e,if_neg ↥0];have z:8 < sgs row:=hb.resolve_left (by rw [e];simp);refine sD.mpr (sE _ (yA h hl hn) (λ_=>?_) λe2=>by simp at e2;lia);exact jg.mpr (Cc.mpr ⟨_,_,rfl,rfl⟩)
theorem AB (hup:up row) (hp:(row.all λp=>pl p.2) = true) (hs:sgs row<=8) (h30:row.length<=30):fZ Gs gls (n+1) 20 [ba row] (Res (Un row) row 16):=by
 have ok:∀ p∈row,okP p:=λp hp'=>⟨aW.mp hp p hp',h p hp'⟩;have w:=yO (MQ ok) 16 n row hup MP (by have:=Eg h;unfold sgs at hs;lia) ∅ ∅;refine aX d_find_out rfl rfl rfl ?_;simp only [d_find_out,init,SI,Nat.reduceAdd,Nat.reduceSub];refine Nk (sE _ (yB h hl hn) (λe=>by rw [hp] at e;cases e) λ_=>sD.mpr (sE _ (yA h hl hn) (λe2=>by simp at e2;lia) λ_=>sD.mpr (jg.mpr (Nm.mpr ?_))));obtain ⟨d,e,q⟩:=w;exact mJ.mpr ⟨d,[.val (ba row)],aV [ba row] ⋯ e,_,rfl,q⟩
end
def Nl {cx:Cl} {δ:PP.Loc} {ss:Ss} {Q:Out->Prop} (h:wSs cx ss δ Q):wS cx (.opq (Gq ss)) δ Q:=by
 obtain ⟨o,e,q⟩:=h;exact ⟨o,by simp only [evS,Gq];exact e,q⟩
def Ho {n:Nat} {row:List It} {d:D} (e:PP.run Gs gls n 20 [ba row] = some d):PP.run Gs gls (n+1) 40 [ba row] = some d:=by
 apply bc;refine aX d__law_asked rfl rfl rfl ?_;simp only [d__law_asked,init,SI,Nat.reduceAdd,Nat.reduceSub];refine dc 1 [.val (ba row),.val .non] ⋯ (cm.mpr (Nl ?_));refine fE [ba row] ⋯ ((fy e).mpr ⟨[.val (ba row),.val d],rfl,gj.mpr ?_⟩);show wSs _ _ _ _;exact eM (d:=d) ⋯ rfl
def rm {n:Nat} {row:List It} (h:low row) (hl:row.length<=62) (hn:63<=n) (hb:(row.all λp=>pl p.2) = false\/8 < sgs row):PP.run Gs gls (n+2) 42 [ba row] = some (.tup [.bl (!row.all λp=>pl p.2),.bl (row.all λp=>pl p.2),.bl true]):=by
 have x:=zT h hl hn hb;apply bc;refine aX d__law_refused rfl rfl rfl ?_;simp only [d__law_refused,init,SI,Nat.reduceAdd,Nat.reduceSub];refine dc 1 [.val (ba row),.val (.tup [.bl false,.bl false,.bl false]),.no] ⋯ (cm.mpr (JM ?_))
 cases e:row.all λp=>pl p.2 with
 | false =>
   rw [e,if_pos rfl] at x;refine jg.mpr (yx ⟨[ba row],[.val (ba row),.val (.tup [.bl false,.bl false,.bl false]),.no],⋯,"NotPlain",x,"NotPlain",[.val (ba row),.val (.tup [.bl false,.bl false,.bl false]),.no],["NotPlain","CutlessError"],rfl,⋯,rfl,?_⟩);show wSs _ _ _ _
   exact eM (d:=.tup [.bl true,.bl false,.bl true]) ⋯ rfl
 | true =>
   rw [e,if_neg ↥0] at x;refine jg.mpr (yx ⟨[ba row],[.val (ba row),.val (.tup [.bl false,.bl false,.bl false]),.no],⋯,"TooGreat",x,"TooGreat",[.val (ba row),.val (.tup [.bl false,.bl false,.bl false]),.no],["TooGreat","CutlessError"],rfl,⋯,rfl,?_⟩);show wSs _ _ _ _;exact eM (d:=.tup [.bl false,.bl true,.bl true]) ⋯ rfl
def nm (t:Str):Prop:=∃ c r,t.cps.toList = c::r/\97<=c/\c<=122
def isN (t:Str):Bool:=!(decide (t.length > 0) && t.cps.all eF)
def ED {t:Str} (h:nm t):isN t = true:=by
 obtain ⟨c,r,e,h1,h2⟩:=h
 have hc:eF c = false:=by
  have:∀ c:Nat,c < 123->97<=c->eF c = false:=by decide
  exact this c ∅ h1
 have:t.cps.all eF = false:=by
  rw [<- Array.all_toList,e];simp [hc]
 unfold isN;rw [this];simp
def NR (n:Nat) (t:Str):PP.run Gs gls (n+1) 1 [.str t] = some (.bl (!isN t)):=by
 apply bc;refine aX jR rfl rfl rfl ?_;simp only [jR,init,SI,Nat.reduceAdd,Nat.reduceSub];simp only [↓uQ,↓WS,WI,↓reduceIte];simp [isN]
def sk {x:Str} {d:D}:∀ (ks:List Str) (dss:List (List D)),ks.length = dss.length->(fi ks dss x d).1.length = (fi ks dss x d).2.length/\(fi ks dss x d).1.length<=ks.length+1
 | [],[],_=>by unfold fi;simp
 | [],_::_,h=>by cases h
 | _::_,[],h=>by cases h
 | k::ks,ds::dss,h=>by
   unfold fi;have ih:=sk (x:=x) (d:=d) ks dss (cO h);split
   . exact ⟨h,↥0⟩
   . simp only [aG]
     lia
def yt {x:Str} {d:D} {m:Nat}:∀ (ks:List Str) (dss:List (List D)),(∀ ds∈dss,ds.length<=m)->∀ ds∈(fi ks dss x d).2,ds.length<=m+1
 | [],dss,h,es,he=>by
   unfold fi at he;rw [aC.mp he]
   simp
 | k::ks,[],h,es,he=>by
   unfold fi at he;rw [aC.mp he]
   simp
 | k::ks,ds::dss,h,es,he=>by
   have hd:=h ds av;unfold fi at he;split at he
   . rcases aD.mp he with rfl | z
     . rw [ay,kY];lia
     . have:=h es (ai _ z);lia
   . rcases aD.mp he with rfl | z
     . lia
     . exact yt ks dss (λa ha=>h a (ai _ ha)) es z
def jY:List Str->List (List D)->Str->List D
 | k::ks,ds::dss,w=>if k = w then ds else jY ks dss w
 | _,_,_=>[]
def vK (x w:Str) (d:D):∀ (ks:List Str) (dss:List (List D)),ks.length = dss.length->jY (fi ks dss x d).1 (fi ks dss x d).2 w = if x = w then jY ks dss w++[d] else jY ks dss w
 | [],[],_=>by unfold fi;simp only [jY];split<;>simp
 | [],_::_,h=>by cases h
 | _::_,[],h=>by cases h
 | k::ks,ds::dss,h=>by
   have ih:=vK x w d ks dss (cO h);unfold fi;by_cases e:k = x
   . subst e;rw [if_pos rfl];simp only [jY];split
     . rfl
     . rfl
   . rw [if_neg e];simp only [jY];by_cases e2:k = w
     . subst e2;rw [if_pos rfl,if_pos rfl,if_neg λz=>e z.symm]
     . rw [if_neg e2,if_neg e2];exact ih
def vL (w:Str):∀ (ks:List Str) (dss:List (List D)),ks.length = dss.length->(gP ks (dss.map D.lst) w).getD (.lst []) = .lst (jY ks dss w)
 | [],[],_=>rfl
 | [],_::_,h=>by cases h
 | _::_,[],h=>by cases h
 | k::ks,ds::dss,h=>by
   rw [az];simp only [gP,jY];split
   . rfl
   . exact vL w ks dss (cO h)
section
variable (n0 n1:Str)
def ix (t:Str):Int:=if n0 = t then 0 else 1
def ixs (ts:List Str):D:=.tup (ts.map λt=>.int (ix n0 t))
def wtx:F->Str
 | .word w _=>w
 | _=>""
def wtm:F->List Str
 | .word _ ts=>ts
 | _=>[]
def okw (A:F):Prop:=isW A = true/\(wtm A).length<=3/\∀ t∈wtm A,t = n0\/t = n1
def stp (s:List Str × List (List D)) (A:F):List Str × List (List D):=fi s.1 s.2 (wtx A) (ixs n0 (wtm A))
def AZ (ws:List F):List Str × List (List D):=ws.foldl (stp n0) ([],[])
def wD (ws:List F):D:=.tup [.int 2,.dct (dG [n0] [.int 0] n1 (.int 1)).1 (dG [n0] [.int 0] n1 (.int 1)).2,.dct (AZ n0 ws).1 ((AZ n0 ws).2.map D.lst)]
theorem rQ (w:Str):∀ (ws:List F) (s:List Str × List (List D)),s.1.length = s.2.length->(ws.foldl (stp n0) s).1.length = (ws.foldl (stp n0) s).2.length/\jY (ws.foldl (stp n0) s).1 (ws.foldl (stp n0) s).2 w = jY s.1 s.2 w++(ws.filter λA=>decide (wtx A = w)).map λA=>ixs n0 (wtm A)
 | [],s,h=>⟨h,↥0⟩
 | A::ws,s,h=>by
   rw [kG];have hl:(stp n0 s A).1.length = (stp n0 s A).2.length:=(sk _ _ h).1;obtain ⟨g1,g2⟩:=rQ w ws (stp n0 s A) hl;refine ⟨g1,?_⟩;rw [g2];unfold stp;rw [vK _ _ _ _ _ h,List.filter_cons];by_cases e:wtx A = w
   . rw [if_pos e,if_pos (decide_eq_true e),az,fY];rfl
   . rw [if_neg e,if_neg (by rw [decide_eq_false e];simp)]
theorem ER (w:Str) (ws:List F):(gP (AZ n0 ws).1 ((AZ n0 ws).2.map D.lst) w).getD (.lst []) = .lst ((ws.filter λA=>decide (wtx A = w)).map λA=>ixs n0 (wtm A)):=by
 obtain ⟨g1,g2⟩:=rQ n0 w ws ([],[]) rfl;refine (vL _ _ _ g1).trans ?_;show D.lst (jY (ws.foldl (stp n0) ([],[])).1 (ws.foldl (stp n0) ([],[])).2 w) = _;rw [g2];rfl
end
def zD:∀ ts us:List Int,fm (ts.map D.int) (us.map D.int) = true->ts = us
 | [],[],_=>rfl
 | [],_::_,h=>by unfold fm at h;cases h
 | _::_,[],h=>by unfold fm at h;cases h
 | t::ts,u::us,h=>by
   rw [az,az] at h;unfold fm eqD at h;rw [aa] at h;rw [show t = u by simpa using h.1,zD ts us h.2]
def wd:∀ ts:List Int,cb (ts.map D.int) = 0
 | []=>by unfold cb;rfl
 | t::ts=>by rw [az];unfold cb;rw [wd ts];unfold dep;rfl
section
variable {n0 n1:Str} (hne:n0≠n1) (h0:nm n0) (h1:nm n1)
theorem xP (ts:List Str):ixs n0 ts = .tup ((ts.map (ix n0)).map D.int):=by
 unfold ixs;rw [fX];rfl
theorem uk (ts:List Str):dep (ixs n0 ts) = 1:=by
 rw [xP];unfold dep;rw [wd]
include hne in
theorem Ey:∀ {as bs:List Str},(∀ t∈as,t = n0\/t = n1)->(∀ t∈bs,t = n0\/t = n1)->as.map (ix n0) = bs.map (ix n0)->as = bs
 | [],[],_,_,_=>rfl
 | [],_::_,_,_,h=>by cases h
 | _::_,[],_,_,h=>by cases h
 | a::as,b::bs,ha,hb,h=>by
   rw [az,az] at h;injection h with e1 e2;rw [Ey (λt ht=>ha t (ai _ ht)) (λt ht=>hb t (ai _ ht)) e2];congr 1;unfold ix at e1;rcases ha a av with rfl | rfl<;>rcases hb b av with rfl | rfl
   . rfl
   . rw [if_pos rfl,if_neg hne] at e1;cases e1
   . rw [if_pos rfl,if_neg hne] at e1;cases e1
   . rfl
include hne in
theorem Il {as bs:List Str} (ha:∀ t∈as,t = n0\/t = n1) (hb:∀ t∈bs,t = n0\/t = n1) (h:eqD (ixs n0 as) (ixs n0 bs) = true):as = bs:=by
 rw [xP,xP] at h;unfold eqD at h;exact Ey hne ha hb (zD _ _ h)
theorem Ex (as:List Str):eqD (ixs n0 as) (ixs n0 as) = true:=iw _ (by rw [uk];lia)
theorem pY {A:F} (h:isW A = true):A = .word (wtx A) (wtm A):=by
 cases A<;>first | rfl | cases h
include hne in
theorem Ba {ws:List F} (hw':∀ A∈ws,okw n0 n1 A) {w:Str} {ts:List Str} (ht:∀ t∈ts,t = n0\/t = n1):((ws.filter λA=>decide (wtx A = w)).map λA=>ixs n0 (wtm A)).any (λy=>eqD y (ixs n0 ts)) = hw ws (.word w ts):=by
 rw [cL,tY (by simp [sz]),cz];constructor
 . rintro ⟨y,hy,e⟩;obtain ⟨A,hA,rfl⟩:=bG.mp hy;obtain ⟨hA,e2⟩:=cn.mp hA;have o:=hw' A hA;have e3:=pY o.1;rw [of_decide_eq_true e2,Il hne o.2.2 ht e] at e3;rw [<- e3];exact hA
 . intro hA;exact ⟨ixs n0 ts,bG.mpr ⟨_,cn.mpr ⟨hA,decide_eq_true rfl⟩,rfl⟩,Ex ts⟩
def ekW:E:=.ix (.var 3) (.int 1)
def evW:E:=.blt .toTup (.cons (.comp 1 (.nm 4) (.sq (.ix (.var 3) (.int 2))) .no (.mt .index (.var 1) (.var 4))) .nil)
include hne in
theorem Mj (cx:Cl) (W:D) (A:F) (o:okw n0 n1 A):evE cx evW [.val W,.val (.lst [.str n0,.str n1]),.no,.val (enc A)] = some (ixs n0 (wtm A),[.val W,.val (.lst [.str n0,.str n1]),.no,.val (enc A)]):=by
 have ss:=s64;have e:=pY o.1;have c:=kA (cx:=cx) (δ:=[.val W,.val (.lst [.str n0,.str n1]),.no,.val (.tup [.str "word",.str (wtx A),.tup ((wtm A).map .str)])]) (i:=4) (src:=.sq (.ix (.var 3) (.int 2))) (ifs:=.no) (elt:=.mt .index (.var 1) (.var 4)) D.str (λt=>.int (ix n0 t)) (λ_=>true) (wtm A) ⋯ rfl (λ_ _=>rfl) (λt ht _=>?_) (by have:=o.2.1;lia)
 . rw [iu] at c;have e2:enc A = .tup [.str "word",.str (wtx A),.tup ((wtm A).map .str)]:=by rw [e];rfl
   rw [e2];exact rT c
 . have hix:mtD .index (.lst [.str n0,.str n1]) (.str t) = some (.int (ix n0 t)):=by
    show (if dep (.str t)<=150/\cb [D.str n0,.str n1] < 99999 then (([D.str n0,.str n1].findIdx? λd=>eqD d (.str t)).map λi:Nat=>D.int (i:Int)) else none) = _;rw [if_pos ⟨by rw [jO];lia,by simp only [cb,jO];lia⟩,fN];have eq0:eqD (.str n0) (.str t) = decide (n0 = t):=by unfold eqD;exact yp _ _
    have eq1:eqD (.str n1) (.str t) = decide (n1 = t):=by unfold eqD;exact yp _ _
    rw [eq0];unfold ix;by_cases z:n0 = t
    . rw [if_pos (decide_eq_true z),if_pos z];rfl
    . rw [if_neg (by simpa using z),if_neg z,fN,eq1,if_pos (decide_eq_true (((o.2.2 t ht).resolve_left λe=>z e.symm).symm))];rfl
   simp only [evE,af];show ((mtD .index (.lst [.str n0,.str n1]) (.str t)).bind λd=>some (d,_)) = _;rw [hix];rfl
include hne in
theorem rP (cx:Cl) (W:D):∀ (ws:List F) (s:List Str × List (List D)) (s3:Sl) (m:Nat),(∀ A∈ws,okw n0 n1 A)->s.1.length = s.2.length->s.1.length<=m->(∀ ds∈s.2,ds.length<=m)->m+ws.length<=200 ->
 ∃ s3',AX (lS cx 2 3 ekW evW) (ws.map enc) [.val W,.val (.lst [.str n0,.str n1]),.no,s3] s.1 s.2 = some ([.val W,.val (.lst [.str n0,.str n1]),.no,s3'],ws.foldl (stp n0) s)
 | [],s,s3,m,_,_,_,_,_=>⟨s3,rfl⟩
 | A::ws,s,s3,m,ha,he,hk,hd,hl=>by
   have o:=ha A av;rw [aG] at hl;have e:=sk (x:=wtx A) (d:=ixs n0 (wtm A)) _ _ he;obtain ⟨s3',ih⟩:=rP cx W ws (stp n0 s A) (.val (enc A)) (m+1) (λB hB=>ha B (ai _ hB)) e.1 (by have:=e.2;unfold stp;lia) (yt _ _ hd) ∅;refine ⟨s3',?_⟩;rw [az,kG,<- ih];show ((lS cx 2 3 ekW evW (enc A) [.val W,.val (.lst [.str n0,.str n1]),.no,s3] s.1 s.2).bind λp=>AX (lS cx 2 3 ekW evW) (ws.map enc) p.1 p.2.1 p.2.2) = _
   have e1:evE cx ekW [.val W,.val (.lst [.str n0,.str n1]),.no,.val (enc A)] = some (.str (wtx A),[.val W,.val (.lst [.str n0,.str n1]),.no,.val (enc A)]):=by
    rw [pY o.1];kernel_rfl
   have e3:(s.2.all λds=>decide (ds.length < 1000)) = true:=aW.mpr λds h=>decide_eq_true (by have:=hd ds h;lia)
   have et:lS cx 2 3 ekW evW (enc A) [.val W,.val (.lst [.str n0,.str n1]),.no,s3] s.1 s.2 = some ([.val W,.val (.lst [.str n0,.str n1]),.no,.val (enc A)],stp n0 s A):=by
    unfold lS IL;rw [if_pos ⟨⇑0,by show 3 < 4;decide⟩];show ((evE cx ekW [.val W,.val (.lst [.str n0,.str n1]),.no,.val (enc A)]).bind _) = _;rw [e1,aP];show ((evE cx evW [.val W,.val (.lst [.str n0,.str n1]),.no,.val (enc A)]).bind _) = _;rw [Mj hne cx W A o,aP,if_pos ⟨∅,e3⟩];rfl
   rw [et];rfl
include hne in
theorem yL (n:Nat) (ws:List F) (ha:∀ A∈ws,okw n0 n1 A) (hl:ws.length<=100):PP.run Gs gls (n+1) 37 [.lst (ws.map enc),.lst [.str n0,.str n1]] = some (wD n0 n1 ws):=by
 apply bc;refine aX d__law_world rfl rfl rfl ?_;simp only [d__law_world,init,SI,Nat.reduceAdd,Nat.reduceSub];obtain ⟨s3,ef⟩:=rP hne ⟨PP.run Gs gls n,gls,hfs Gs⟩ (.lst (ws.map enc)) ws ([],[]) .no 0 ha rfl (aA _) (λds h=>by cases h) ∅;refine dc 1 [.val (.lst (ws.map enc)),.val (.lst [.str n0,.str n1]),.odc [] [],.no] ⋯ ?_;refine cm.mpr ⟨.nx [.val (.lst (ws.map enc)),.val (.lst [.str n0,.str n1]),.val (.dct (AZ n0 ws).1 ((AZ n0 ws).2.map D.lst)),s3],?_,?_⟩
 . show wlF 2 3 (.sq (.var 0)) ekW evW ⟨PP.run Gs gls n,gls,hfs Gs⟩ [.val (.lst (ws.map enc)),.val (.lst [.str n0,.str n1]),.odc [] [],.no] = _;unfold wlF;show ((AX (lS ⟨PP.run Gs gls n,gls,hfs Gs⟩ 2 3 ekW evW) (ws.map enc) [.val (.lst (ws.map enc)),.val (.lst [.str n0,.str n1]),.no,.no] [] []).bind _) = _;rw [ef];rfl
 . exact eM (d:=wD n0 n1 ws) ⋯ rfl
include hne h0 h1 in
theorem Hj (n:Nat) (ws:List F) {t:Str} (ht:t = n0\/t = n1) (ar:D):PP.run Gs gls (n+2) 21 [wD n0 n1 ws,.str t,ar] = some (.int (ix n0 t)):=by
 have hn:isN t = true:=by rcases ht with rfl | rfl;exact ED h0;exact ED h1
 have w:=NR n t;rw [hn] at w;apply bc;refine aX jP rfl rfl rfl ?_;simp only [jP,init,SI,Nat.reduceAdd,Nat.reduceSub];refine cm.mpr (mJ.mpr (Ka.mpr ⟨_,_,jK [.str t] ⋯ w,?_⟩));show wE _ (.dix (.ix (.var 0) (.int 1)) (.var 1)) _ _;refine ⟨.int (ix n0 t),[.val (wD n0 n1 ws),.val (.str t),.val ar],?_,rfl⟩
 have hg:gP (dG [n0] [.int 0] n1 (.int 1)).1 (dG [n0] [.int 0] n1 (.int 1)).2 t = some (.int (ix n0 t)):=by
  simp only [dG,if_neg hne];unfold ix gP;rcases ht with rfl | rfl
  . rw [if_pos rfl,if_pos rfl]
  . rw [if_neg hne,if_neg hne];simp [gP]
 simp only [evE,af];show ((gP (dG [n0] [.int 0] n1 (.int 1)).1 (dG [n0] [.int 0] n1 (.int 1)).2 t).map λd=>(d,([.val (wD n0 n1 ws),.val (.str t),.val ar]:PP.Loc))) = _;rw [hg];rfl
end
section
variable {cx:Cl} {δ:PP.Loc} {a b e:E} {p q:Bool}
def oN (ha:evE cx a δ = some (.bl p,δ)) (hb:evE cx b δ = some (.bl q,δ)):evE cx (.or a b) δ = some (.bl (p || q),δ):=by
 have:wE cx (.or a b) δ λd δ'=>d = .bl (p || q)/\δ' = δ:=Nu.mpr ⟨_,_,ha,p,rfl,by
  cases p
  . exact ⟨_,_,hb,rfl,rfl⟩
  . exact ⟨rfl,rfl⟩⟩
 obtain ⟨_,_,e,rfl,rfl⟩:=this;exact e
def kC (ha:evE cx a δ = some (.bl p,δ)) (hb:evE cx b δ = some (.bl q,δ)):evE cx (.and a b) δ = some (.bl (p && q),δ):=by
 have:wE cx (.and a b) δ λd δ'=>d = .bl (p && q)/\δ' = δ:=xh.mpr ⟨_,_,ha,p,rfl,by
  cases p
  . exact ⟨rfl,rfl⟩
  . exact ⟨_,_,hb,rfl,rfl⟩⟩
 obtain ⟨_,_,e,rfl,rfl⟩:=this;exact e
def mn (ha:evE cx a δ = some (.bl p,δ)):evE cx (.not a) δ = some (.bl (!p),δ):=by
 have:wE cx (.not a) δ λd δ'=>d = .bl (!p)/\δ' = δ:=JX.mpr ⟨_,_,ha,p,rfl,rfl,rfl⟩;obtain ⟨_,_,e,rfl,rfl⟩:=this;exact e
end
def dr:F->List F
 | .word w ts=>[.word w ts]
 | .un _ a=>dr a
 | .bi _ x y=>dr x++dr y
 | _=>[]
section
variable {n0 n1:Str} (hne:n0≠n1) (h0:nm n0) (h1:nm n1)
include hne h0 h1
theorem Dq (n:Nat) {ws:List F} (hws:∀ A∈ws,okw n0 n1 A) (hl:ws.length<=100) (A:F) (o:okw n0 n1 A):PP.run Gs gls (n+3) 22 [wD n0 n1 ws,enc A,.lst []] = some (.bl (hw ws A)):=by
 have ss:=s64;have e:=pY o.1;have e2:enc A = .tup [.str "word",.str (wtx A),.tup ((wtm A).map .str)]:=by rw [e];rfl
 rw [e2];apply bc;refine aX kR rfl rfl rfl ?_;simp only [kR,init,SI,Nat.reduceAdd,Nat.reduceSub];have c:=kA (cx:=⟨PP.run Gs gls (n+2),gls,hfs Gs⟩) (δ:=[.val (wD n0 n1 ws),.val (.tup [.str "word",.str (wtx A),.tup ((wtm A).map .str)]),.val (.lst []),.no]) (i:=4) (src:=.sq (.ix (.var 1) (.int 2))) (ifs:=.no) (elt:=.call 21 (.cons (.var 0) (.cons (.var 4) (.cons (.var 2) .nil)))) D.str (λt=>.int (ix n0 t)) (λ_=>true) (wtm A) ⋯ rfl (λ_ _=>rfl) (λt ht _=>aV [wD n0 n1 ws,.str t,.lst []] ⋯ (Hj hne h0 h1 n ws (o.2.2 t ht) _)) (by have:=o.2.1;lia);rw [iu] at c;refine dD (ixs n0 (wtm A)) (rT c) ⟨[.val (wD n0 n1 ws),.val (.tup [.str "word",.str (wtx A),.tup ((wtm A).map .str)]),.val (.lst []),.val (ixs n0 (wtm A))],rfl,?_⟩;have fl:=Ba hne hws (w:=wtx A) (ts:=wtm A) o.2.2;rw [<- e] at fl;refine cu _ (jM (x:=ixs n0 (wtm A)) (y:=.lst ((ws.filter λB=>decide (wtx B = wtx A)).map λB=>ixs n0 (wtm B))) rfl ?_ ?_) rfl
 . rw [<- ER];rfl
 . unfold jT inD;dsimp only
   have dl:∀ l:List F,cb (l.map λB=>ixs n0 (wtm B))<=1:=λl=>by
    induction l with
    | nil=>simp [cb]
    | cons a l ih=>rw [az];unfold cb;rw [uk];lia
   rw [if_pos ⟨by rw [uk];lia,by have:=dl (ws.filter λB=>decide (wtx B = wtx A));lia⟩,fl]
theorem yM {ws:List F} (hws:∀ A∈ws,okw n0 n1 A) (hl:ws.length<=100):∀ (A:F) (n:Nat),hF A+4<=n->pl A = true->(∀ B∈dr A,okw n0 n1 B)->PP.run Gs gls n 23 [wD n0 n1 ws,enc A,.lst []] = some (.bl (tr ws A))
 | .yes,n,h,_,_ | .no,n,h,_,_=>by
   obtain ⟨n,rfl⟩:∃ k,n = k+1:=⟨n - 1,∅⟩
   kernel_rfl
 | .word w ts,n,h,_,o=>by
   obtain ⟨n,rfl⟩:∃ k,n = k+4:=⟨n - 4,∅⟩;have w1:=Dq hne h0 h1 n hws hl (.word w ts) (o _ (by simp [dr]));apply bc;refine aX dR rfl rfl rfl ?_;simp only [dR,init,SI,Nat.reduceAdd,Nat.reduceSub];refine dc 1 [.val (wD n0 n1 ws),.val (enc (.word w ts)),.val (.lst []),.val (.str "word")] ⋯ (bq true ⋯ (λ_=>?_) λz=>by cases z)
   exact cu _ (aV [wD n0 n1 ws,enc (.word w ts),.lst []] ⋯ w1) rfl
 | .un .neg a,n,h,hp,o=>by
   obtain ⟨n,rfl⟩:∃ k,n = k+1:=⟨n - 1,∅⟩;have w1:=yM hws hl a n (by simp only [hF] at h;lia) hp o;apply bc;refine aX dR rfl rfl rfl ?_;simp only [dR,init,SI,Nat.reduceAdd,Nat.reduceSub];refine dc 3 [.val (wD n0 n1 ws),.val (enc (.un .neg a)),.val (.lst []),.val (.str "not")] ⋯ (bq true ⋯ (λ_=>?_) λz=>by cases z)
   exact cu _ (mn (aV [wD n0 n1 ws,enc a,.lst []] ⋯ w1)) rfl
 | .un .all a,n,h,hp,o=>by cases hp
 | .un .ex a,n,h,hp,o=>by cases hp
 | .bi b x y,n,h,hp,o=>by
   obtain ⟨n,rfl⟩:∃ k,n = k+1:=⟨n - 1,∅⟩;have hp':(pl x && pl y) = true:=hp;rw [aa] at hp';simp only [hF] at h;have w1:=yM hws hl x n ∅ hp'.1 λB hB=>o B (bb _ hB);have w2:=yM hws hl y n ∅ hp'.2 λB hB=>o B (aM _ hB);apply bc;refine aX dR rfl rfl rfl ?_;simp only [dR,init,SI,Nat.reduceAdd,Nat.reduceSub]
   cases b with
   | and =>
     refine dc 4 [.val (wD n0 n1 ws),.val (enc (.bi .and x y)),.val (.lst []),.val (.str "and")] ⋯ (bq true ⋯ (λ_=>?_) λz=>by cases z)
     exact cu _ (kC (aV [wD n0 n1 ws,enc x,.lst []] ⋯ w1) (aV [wD n0 n1 ws,enc y,.lst []] ⋯ w2)) rfl
   | or =>
     refine dc 5 [.val (wD n0 n1 ws),.val (enc (.bi .or x y)),.val (.lst []),.val (.str "or")] ⋯ (bq true ⋯ (λ_=>?_) λz=>by cases z)
     exact cu _ (oN (aV [wD n0 n1 ws,enc x,.lst []] ⋯ w1) (aV [wD n0 n1 ws,enc y,.lst []] ⋯ w2)) rfl
   | imp =>
     refine dc 6 [.val (wD n0 n1 ws),.val (enc (.bi .imp x y)),.val (.lst []),.val (.str "if")] ⋯ (bq true ⋯ (λ_=>?_) λz=>by cases z);exact cu _ (oN (mn (aV [wD n0 n1 ws,enc x,.lst []] ⋯ w1)) (aV [wD n0 n1 ws,enc y,.lst []] ⋯ w2)) rfl
theorem Pg {ws:List F} (hws:∀ A∈ws,okw n0 n1 A) (hl:ws.length<=100) {A:F} {n:Nat} (h:hF A+4<=n) (hp:pl A = true) (o:∀ B∈dr A,okw n0 n1 B):PP.run Gs gls (n+1) 24 [wD n0 n1 ws,enc A] = some (.bl (tr ws A)):=by
 have w1:=yM hne h0 h1 hws hl A n h hp o;apply bc;refine aX IF rfl rfl rfl ?_;simp only [IF,init,SI,Nat.reduceAdd,Nat.reduceSub];exact cu _ (aV [wD n0 n1 ws,enc A,.lst []] ⋯ w1) rfl
theorem r_holds {ws:List F} (hws:∀ A∈ws,okw n0 n1 A) (hl:ws.length<=100) {row:List It} {n:Nat} (h:low row) (hr:row.length<=62) (hn:70<=n) (hp:∀ p∈row,pl p.2 = true) (o:∀ p∈row,∀ B∈dr p.2,okw n0 n1 B):PP.run Gs gls (n+1) 25 [wD n0 n1 ws,ba row] = some (.bl (row.any λp=>tr ws p.2 == !p.1)):=by
 have ss:=s64;apply bc;refine aX d_holds rfl rfl rfl ?_;simp only [d_holds,init,SI,Nat.reduceAdd,Nat.reduceSub];refine cu _ (Fu (f:=λp:It=>tr ws p.2 == !p.1) (xs:=row) ?_) rfl;have c:=mq (cx:=⟨PP.run Gs gls n,gls,hfs Gs⟩) (δ:=[.val (wD n0 n1 ws),.val (ba row)]) (i:=2) (j:=3) (src:=.sq (.var 1)) (ifs:=.no) (elt:=.cmp .eq (.call 24 (.cons (.var 0) (.cons (.var 3) .nil))) (.cmp .eq (.var 2) (.str "right"))) (λp=>.bl (tr ws p.2 == !p.1)) (λ_=>true) row ⋯ rfl rfl (λp _=>rfl) (λp hp' _=>?_) ∅
 . rw [iu] at c;exact c
 . obtain ⟨m,rfl⟩:∃ m,n = m+1:=⟨n - 1,∅⟩;refine jM (x:=.bl (tr ws p.2)) (y:=.bl (!p.1)) (aV [wD n0 n1 ws,enc p.2] ⋯ (Pg hne h0 h1 hws hl (by have:=lx p.2;have:=h p hp';lia) (hp p hp') (o p hp'))) ?_ ?_
   . obtain ⟨s,A⟩:=p;cases s<;>kernel_rfl
   . generalize tr ws p.2 = x;generalize p.1 = y;cases x<;>cases y<;>kernel_rfl
end
def yN {ws:List F} (hl:low (ws.map λA=>(true,A))) (hn:ws.length<=100):∀ (A:F) (n:Nat),hF A+1<=n->pl A = true->sz A<=61->PP.run Gs gls n 36 [.lst (ws.map enc),enc A] = some (.bl (tr ws A))
 | .yes,n,h,_,_ | .no,n,h,_,_=>by
   obtain ⟨n,rfl⟩:∃ k,n = k+1:=⟨n - 1,∅⟩
   kernel_rfl
 | .word w ts,n,h,_,hz=>by
   obtain ⟨n,rfl⟩:∃ k,n = k+1:=⟨n - 1,∅⟩;apply bc;refine aX fG rfl rfl rfl ?_;simp only [fG,init,SI,Nat.reduceAdd,Nat.reduceSub];refine bq true ⋯ (λ_=>?_) λz=>by cases z
   refine cu _ (jM (x:=enc (.word w ts)) (y:=.lst (ws.map enc)) rfl rfl ?_) rfl;unfold jT inD;dsimp only;have d1:=fA (.word w ts)
   have d2:∀ l:List F,low (l.map λA=>(true,A))->cb (l.map enc)<=62:=λl=>by
    induction l with
    | nil=>intro _;simp [cb]
    | cons a l ih =>
      intro q;have:=ih λp hp=>q p (ai _ hp);have:=q (true,a) av;have:=fA a;rw [az];unfold cb;dsimp only at *
      lia
   rw [if_pos ⟨∅,by have:=d2 ws hl;lia⟩]
   rfl
 | .un .neg a,n,h,hp,hz=>by
   obtain ⟨n,rfl⟩:∃ k,n = k+1:=⟨n - 1,∅⟩;have w1:=yN hl hn a n (by simp only [hF] at h;lia) hp (by simp only [sz] at hz;lia);apply bc;refine aX fG rfl rfl rfl ?_;simp only [fG,init,SI,Nat.reduceAdd,Nat.reduceSub];refine dc 1 [.val (.lst (ws.map enc)),.val (enc (.un .neg a))] ⋯ (bq true ⋯ (λ_=>?_) λz=>by cases z)
   exact cu _ (mn (aV [.lst (ws.map enc),enc a] ⋯ w1)) rfl
 | .un .all a,n,h,hp,_=>by cases hp
 | .un .ex a,n,h,hp,_=>by cases hp
 | .bi b x y,n,h,hp,hz=>by
   obtain ⟨n,rfl⟩:∃ k,n = k+1:=⟨n - 1,∅⟩;have hp':(pl x && pl y) = true:=hp;rw [aa] at hp';simp only [hF] at h;simp only [sz] at hz;have w1:=yN hl hn x n ∅ hp'.1 ∅;have w2:=yN hl hn y n ∅ hp'.2 ∅;apply bc;refine aX fG rfl rfl rfl ?_;simp only [fG,init,SI,Nat.reduceAdd,Nat.reduceSub]
   cases b with
   | and =>
     refine dc 2 [.val (.lst (ws.map enc)),.val (enc (.bi .and x y))] ⋯ (bq true ⋯ (λ_=>?_) λz=>by cases z)
     exact cu _ (kC (aV [.lst (ws.map enc),enc x] ⋯ w1) (aV [.lst (ws.map enc),enc y] ⋯ w2)) rfl
   | or =>
     refine dc 3 [.val (.lst (ws.map enc)),.val (enc (.bi .or x y))] ⋯ (bq true ⋯ (λ_=>?_) λz=>by cases z)
     exact cu _ (oN (aV [.lst (ws.map enc),enc x] ⋯ w1) (aV [.lst (ws.map enc),enc y] ⋯ w2)) rfl
   | imp =>
     refine dc 4 [.val (.lst (ws.map enc)),.val (enc (.bi .imp x y))] ⋯ (bq true ⋯ (λ_=>?_) λz=>by cases z);refine cu (.bl (tr ws y || !tr ws x)) (oN (aV [.lst (ws.map enc),enc y] ⋯ w2) (mn (aV [.lst (ws.map enc),enc x] ⋯ w1))) ?_;show D.bl _ = D.bl (!tr ws x || tr ws y);rw [Bool.or_comm]
def og:∀ A:F,(dr A).length<=sz A
 | .yes | .no=>by simp [dr]
 | .word _ _=>by simp [dr,sz]
 | .un _ a=>by have:=og a;simp only [dr,sz];lia
 | .bi _ x y=>by have:=og x;have:=og y;simp only [dr,sz,ay];lia
def Ga (A:F) (h:isW A = false):dr A = (sub A).flatMap dr:=by
 cases A with
 | word w ts=>cases h
 | _=>simp [dr,sub]
def wA {l b:List F} (h:l.length+b.length<=1000):opD .add (.lst (l.map enc)) (.lst (b.map enc)) = some (.lst ((l++b).map enc)):=by
 have ss:=s64;show (if (l.map enc).length+(b.map enc).length<=sizeLine then some (D.lst (l.map enc++b.map enc)) else none) = _;rw [if_pos (by rw [aw,aw];lia),bC]
def nH (n:Nat) (A:F) (hw0:isW A = false) (hz:sz A<=61) (e1:cY ⟨PP.run Gs gls n,gls,hfs Gs⟩ (pD 2 ft.body) [.val (enc A),.no,.no] = some (.nx [.val (enc A),.val (.lst []),.no])) (e2:evI ⟨PP.run Gs gls n,gls,hfs Gs⟩ (.sq (.sl (.var 0) (.yes (.int 1)) .no)) [.val (enc A),.val (.lst []),.no] = some ((sub A).map enc,[.val (enc A),.val (.lst []),.no])) (ih:∀ B∈sub A,PP.run Gs gls n 38 [enc B] = some (.lst ((dr B).map enc))):PP.run Gs gls (n+1) 38 [enc A] = some (.lst ((dr A).map enc)):=by
 have wl:=og A;have we:=Ga A hw0;apply bc;refine aX ft rfl rfl rfl ?_;simp only [ft,init,SI,Nat.reduceAdd,Nat.reduceSub];refine dc 2 [.val (enc A),.val (.lst []),.no] e1 ?_;refine gk _ e2 ?_;refine fP (g:=enc) (λrest δ=>∃ (acc:List F) (s2:Sl),δ = [.val (enc A),.val (.lst (acc.map enc)),s2]/\(∀ B∈rest,B∈sub A)/\acc++rest.flatMap dr = dr A) ?_ ?_ _ _ ⟨[],_,rfl,λ_ z=>z,by rw [we];rfl⟩
 . rintro B rest δ ⟨acc,s2,rfl,hm,e⟩;refine ⟨[.val (enc A),.val (.lst (acc.map enc)),.val (enc B)],rfl,?_⟩;rw [nR,<- fY] at e;have el:=congrArg lz e;rw [ay,ay] at el;refine dD (.lst ((acc++dr B).map enc)) (di (x:=.lst (acc.map enc)) rfl (aV [enc B] ⋯ (ih B (hm B av))) (wA ∅)) ⟨[.val (enc A),.val (.lst ((acc++dr B).map enc)),.val (enc B)],rfl,?_⟩;exact gj.mpr ⟨acc++dr B,_,rfl,λq z=>hm q (ai _ z),e⟩
 . rintro δ ⟨acc,s2,rfl,_,e⟩;rw [FT,cq] at e;subst e;exact eM (d:=.lst _) ⋯ rfl
def lZ:∀ (A:F) (n:Nat),hF A+1<=n->sz A<=61->PP.run Gs gls n 38 [enc A] = some (.lst ((dr A).map enc))
 | .yes,n,h,_ | .no,n,h,_ | .word _ _,n,h,_=>by
   obtain ⟨n,rfl⟩:∃ k,n = k+1:=⟨n - 1,∅⟩
   kernel_rfl
 | .un u a,n,h,hz=>by
   obtain ⟨n,rfl⟩:∃ k,n = k+1:=⟨n - 1,∅⟩;refine nH n _ rfl hz (by cases u<;>kernel_rfl) ⋯ λB hB=>?_;rw [aC.mp hB]
   exact lZ a n (by simp only [hF] at h;lia) (by simp only [sz] at hz;lia)
 | .bi b x y,n,h,hz=>by
   obtain ⟨n,rfl⟩:∃ k,n = k+1:=⟨n - 1,∅⟩;simp only [hF] at h;simp only [sz] at hz;have i1:=lZ x n ∅ ∅;have i2:=lZ y n ∅ ∅;refine nH n _ rfl (by simp only [sz];lia) (by cases b<;>kernel_rfl) ⋯ λB hB=>?_;simp only [sub,aD,cj,or_false] at hB;rcases hB with rfl | rfl
   . exact i1
   . exact i2
def tM {l:List F} (h:∀ A∈l,sz A<=61):cb (l.map enc)<=62:=by
 induction l with
 | nil=>simp [cb]
 | cons a l ih =>
   have:=ih λp hp=>h p (ai _ hp);have:=h a av;have:=fA a;rw [az];unfold cb
   lia
def El {A B:F} (hA:sz A<=61) (hB:sz B<=61) (h:ltI (true,A) (true,B) = true):jT .lt (enc A) (enc B) = some true:=by
 have d1:=fA A;have d2:=fA B;show iX (enc A) (enc B) = _;unfold iX;rw [if_pos ∅];have e:=mf (true,A) (true,B);rw [h] at e;unfold itD at e;unfold ltD dv at e;rw [if_pos (show eqD (D.str (sd true)) (D.str (sd true)) = true by kernel_rfl)] at e;unfold dv at e;split at e
 . unfold dv at e;cases e
 . exact e
def Mg {A:F} {l:List F} (hA:isW A = true) (h:A∈l) (hl:∀ B∈l,sz B<=61):jT .notin (enc A) (.lst (l.map enc)) = some false:=by
 have z:=hl A h;have d1:=fA A;have d2:=tM hl;unfold jT inD;dsimp only;rw [if_pos ⟨∅,∅⟩];have:=(tY z).mpr h;unfold hw at this;rw [this];rfl
def sr:∀ A:F,∀ B∈dr A,sz B<=61
 | .yes,_,h | .no,_,h=>by cases h
 | .word _ _,_,h=>by rw [aC.mp h];simp [sz]
 | .un _ a,B,h=>sr a B h
 | .bi _ x y,B,h=>(aN.mp h).elim (sr x B) (sr y B)
section
variable {row:List It} {ws:List F} (h:low row) (hp:∀ p∈row,pl p.2 = true) (hr:row.length<=62)
 (hs:((row.map λp=>(dr p.2).length).sum)<=900) (w1:∀ A∈ws,isW A = true/\A∈row.flatMap λp=>dr p.2)
 (w2:ws.Pairwise λA B=>ltI (true,A) (true,B) = true) (w3:ws.length<=62) (w4:∀ p∈row,tr ws p.2 = p.1)
include h hp hr hs w1 w2 w3 w4
theorem KJ (n:Nat) (hn:70<=n):PP.run Gs gls (n+1) 39 [ba row,.lst (ws.map enc)] = some (.bl true):=by
 have ss:=s64
 have fl:∀ B∈row.flatMap λp=>dr p.2,sz B<=61:=λB hB=>by
  obtain ⟨p,_,z⟩:=dU.mp hB;exact sr p.2 B z
 have wz:∀ A∈ws,sz A<=61:=λA hA=>fl A (w1 A hA).2;apply bc;refine aX iP rfl rfl rfl ?_;simp only [iP,init,SI,Nat.reduceAdd,Nat.reduceSub];refine dc 2 [.val (ba row),.val (.lst (ws.map enc)),.val (.lst []),.no,.no,.no] ⋯ ?_;refine gk (row.map itD) ⋯ ?_;refine fP (g:=itD) (λrest δ=>∃ (acc:List F) (s3 s4:Sl),δ = [.val (ba row),.val (.lst (ws.map enc)),.val (.lst (acc.map enc)),s3,s4,.no]/\(∀ p∈rest,p∈row)/\acc++(rest.flatMap λp=>dr p.2) = row.flatMap λp=>dr p.2) ?_ ?_ _ _ ⟨[],_,_,rfl,λ_ z=>z,rfl⟩
 . rintro p rest δ ⟨acc,s3,s4,rfl,hm,e⟩;refine ⟨[.val (ba row),.val (.lst (ws.map enc)),.val (.lst (acc.map enc)),.val (.str (sd p.1)),.val (enc p.2),.no],rfl,?_⟩;rw [nR,<- fY] at e;have el:=congrArg lz e;rw [ay,ay,List.length_flatMap (l:=row)] at el;have hpz:=h p (hm p av);refine dD (.lst ((acc++dr p.2).map enc)) (di (x:=.lst (acc.map enc)) rfl (aV [enc p.2] ⋯ (lZ p.2 n (by have:=lx p.2;lia) hpz)) (wA ∅)) ⟨[.val (ba row),.val (.lst (ws.map enc)),.val (.lst ((acc++dr p.2).map enc)),.val (.str (sd p.1)),.val (enc p.2),.no],rfl,?_⟩;exact gj.mpr ⟨acc++dr p.2,_,_,rfl,λq z=>hm q (ai _ z),e⟩
 rintro δ ⟨acc,s3,s4,rfl,_,e⟩;rw [FT,cq] at e;subst e;show wSs _ _ _ _;generalize (row.flatMap λp=>dr p.2) = st at w1 fl |-;refine gk (lX 0 ws.length) (zx (j:=(ws.length:Int)) (gq (ds:=[.lst (ws.map enc)]) ⋯ (by show some (D.int _) = _;rw [aw])) ∅ ∅) ?_;unfold lX;refine fP (g:=λi:Nat=>D.int (0+i)) (λrest δ=>∃ (s5:Sl),δ = [.val (ba row),.val (.lst (ws.map enc)),.val (.lst (st.map enc)),s3,s4,s5]/\∀ i∈rest,i < ws.length) ?_ ?_ _ _ ⟨_,rfl,λi hi=>dS.mp hi⟩
 . rintro i rest δ ⟨s5,rfl,hm⟩;have hi:=hm i av;refine ⟨[.val (ba row),.val (.lst (ws.map enc)),.val (.lst (st.map enc)),s3,s4,.val (.int (0+i))],rfl,?_⟩;have fin:∃ s5,([.val (ba row),.val (.lst (ws.map enc)),.val (.lst (st.map enc)),s3,s4,.val (.int (0+i))]:PP.Loc) = [.val (ba row),.val (.lst (ws.map enc)),.val (.lst (st.map enc)),s3,s4,s5]/\∀ j∈rest,j < ws.length:=⟨_,rfl,λj hj=>hm j (ai _ hj)⟩;have ei:∀ j:Nat,(hj:j < ws.length)->L2.atI (ws.map enc) (j:Int) = some (enc ws[j]):=λj hj=>L2.atI_nat (by rw [bj,aB hj];rfl)
   have ev:∀ (cx:Cl),evE cx (.ix (.var 1) (.var 5)) [.val (ba row),.val (.lst (ws.map enc)),.val (.lst (st.map enc)),s3,s4,.val (.int (0+i))] = some (enc ws[i],[.val (ba row),.val (.lst (ws.map enc)),.val (.lst (st.map enc)),s3,s4,.val (.int (0+i))]):=λcx=>by
    have e0:((0:Int)+(i:Int)) = (i:Int):=by lia
    rw [e0];exact ja (x:=.lst (ws.map enc)) (y:=.int i) rfl rfl (ei i hi)
   refine bq false (ug (p:=false) (q:=false) (cy (x:=enc ws[i]) (y:=.lst (st.map enc)) (ev _) rfl (Mg (w1 _ (bS hi)).1 (w1 _ (bS hi)).2 fl)) ?_) (λz=>by cases z) λ_=>gj.mpr fin
   cases i with
   | zero=>kernel_rfl
   | succ j =>
     refine jL (p:=true) (q:=false) (cy (x:=.int (0+((j+1:Nat):Int))) (y:=.int 0) rfl rfl ?_) (kP (p:=true) (cy (x:=enc ws[j]) (y:=enc ws[j+1]) ?_ (ev _) (El (wz _ (bS _)) (wz _ (bS _)) (uD.mp w2 j (j+1) ∅ hi ∅))))
     . show some (decide ((0:Int) < 0+((j+1:Nat):Int))) = some true;congr 1;exact decide_eq_true ∅
     . refine ja (x:=.lst (ws.map enc)) (y:=.int j) rfl ?_ (ei j ∅);refine di (x:=.int (0+((j+1:Nat):Int))) (y:=.int 1) rfl rfl ?_;show some (D.int (0+((j+1:Nat):Int) - 1)) = _;congr 2
       lia
 rintro δ ⟨s5,rfl,_⟩;show wSs _ _ _ _;refine gk (row.map itD) ⋯ ?_;refine fP (g:=itD) (λrest δ=>∃ (s3 s4:Sl),δ = [.val (ba row),.val (.lst (ws.map enc)),.val (.lst (st.map enc)),s3,s4,s5]/\∀ p∈rest,p∈row) ?_ ?_ _ _ ⟨_,_,rfl,λ_ z=>z⟩
 . rintro p rest δ ⟨s3,s4,rfl,hm⟩;have hpr:=hm p av;have hpz:=h p hpr;refine ⟨[.val (ba row),.val (.lst (ws.map enc)),.val (.lst (st.map enc)),.val (.str (sd p.1)),.val (enc p.2),s5],rfl,?_⟩
   have wl:=yN (ws:=ws) (λq hq=>by
    obtain ⟨A,hA,rfl⟩:=bG.mp hq;exact wz A hA) ∅ p.2 n (by have:=lx p.2;lia) (hp p hpr) hpz
   rw [w4 p hpr] at wl;refine bq false (cy (x:=.bl p.1) (y:=.bl p.1) (aV [.lst (ws.map enc),enc p.2] ⋯ wl) ?_ ?_) (λz=>by cases z) λ_=>gj.mpr ⟨_,_,rfl,λq z=>hm q (ai _ z)⟩
   . obtain ⟨s,A⟩:=p;cases s<;>kernel_rfl
   . cases p.1<;>kernel_rfl
 rintro δ ⟨s3,s4,rfl,_⟩;exact eM (d:=.bl true) ⋯ rfl
end
def sH:∀ (A:F) (s:Bool),∀ p∈un s A,∀ B∈dr p.2,B∈dr A
 | .yes,_,p,hp,B,h | .no,_,p,hp,B,h | .word _ _,_,p,hp,B,h=>by rw [aC.mp hp] at h;exact h
 | .un u a,s,p,hp,B,h=>by
   rcases aD.mp hp with rfl | hq
   . exact h
   . exact sH a _ p hq B h
 | .bi b x y,s,p,hp,B,h=>by
   have key:p = (s,.bi b x y)\/(∃ s',p∈un s' x)\/p∈un s y:=by
    cases b<;>(simp only [un,aD,aN] at hp;rcases hp with z | z | z<;>first | exact .inl z | exact .inr (.inl ⟨_,z⟩) | exact .inr (.inr z))
   rcases key with rfl | ⟨s',z⟩ | z
   . exact h
   . exact bb _ (sH x s' p z B h)
   . exact aM _ (sH y s p z B h)
def uM {A:F} (h:isW A = true):dr A = [A]:=by
 cases A<;>first | rfl | cases h
def OK {row:List It} {s:Bool} {A:F} (h:(s,A)∈Un row) (hA:isW A = true):∃ p∈row,A∈dr p.2:=by
 obtain ⟨p,hp,z⟩:=dU.mp h;exact ⟨p,hp,sH p.2 p.1 _ z A (by rw [uM hA];exact aC.mpr rfl)⟩
def su:∀ A:F,(dr A).length<=sg A+1
 | .yes | .no | .word _ _=>by simp [dr]
 | .un _ a=>by have:=su a;simp only [dr,sg];lia
 | .bi _ x y=>by have:=su x;have:=su y;simp only [dr,sg,ay];lia
def yu:∀ row:List It,(row.map λp=>(dr p.2).length).sum<=sgs row+row.length
 | []=>by simp
 | p::row=>by
   have:=yu row;have:=su p.2;unfold sgs at *;simp only [az,cS,aG]
   lia
section
variable {n0 n1:Str} (hne:n0≠n1) (h0:nm n0) (h1:nm n1)
variable {row:List It} (hup:up row) (h:low row) (hp:(row.all λp=>pl p.2) = true) (hs:sgs row<=8) (h30:row.length<=30)
 (o:∀ p∈row,∀ B∈dr p.2,okw n0 n1 B)
include hne h0 h1 hup h hp hs h30 o
theorem qZ (n:Nat) (hn:80<=n) {d:D} {b:Bool} {x:D} (ed:d = .tup [.bl b,x]) (hd:dep d<=150) (e:PP.run Gs gls n 40 [ba row] = some d) {Q:D->Prop} (k:wSs ⟨PP.run Gs gls n,gls,hfs Gs⟩ (dF 2 gB.body) [.val (ba row),.val (.lst [.str n0,.str n1]),.val d,.no] (retS Q)):fZ Gs gls (n+1) 41 [ba row,.lst [.str n0,.str n1]] Q:=by
 refine aX gB rfl rfl rfl ?_;simp only [gB,init,SI,Nat.reduceAdd,Nat.reduceSub];refine fE [ba row] ⋯ ((fy e).mpr ⟨[.val (ba row),.val (.lst [.str n0,.str n1]),.val d,.no],rfl,?_⟩)
 have ne:jT .ne d d = some false:=by
  have k1:fU d d = true:=by
   unfold fU;rw [show kin d d = true by rw [ed];rfl,decide_eq_true (show min (dep d) (dep d)<=150 by lia),decide_eq_true (show max (dep d) (dep d) < 100000 by lia)];rfl
  show (if fU d d = true then some (!eqD d d) else none) = _;rw [if_pos k1,iw d ∅];rfl
 refine bq false (ug (p:=false) (q:=false) ?_ (ug (p:=false) (q:=false) ?_ (cy (x:=d) (y:=d) (aV [ba row] ⋯ e) rfl ne))) (λz=>by cases z) λ_=>k
 . subst ed;kernel_rfl
 . subst ed;kernel_rfl
theorem Dr (n:Nat) (hn:80<=n):PP.run Gs gls (n+1) 41 [ba row,.lst [.str n0,.str n1]] = some (.bl true):=by
 have ss:=s64;have hpl:∀ p∈row,pl p.2 = true:=λp hp'=>aW.mp hp p hp';have ok:∀ p∈row,okP p:=λp hp'=>⟨hpl p hp',h p hp'⟩;have wsum:=yu row;obtain ⟨m,rfl⟩:∃ m,n = m+2:=⟨n - 2,∅⟩;obtain ⟨d,e,r⟩:=AB h ∅ (show 63<=m by lia) hup hp hs h30;have ea:=Ho e;rcases r with ⟨t,rfl,ot,hh,f⟩ | ⟨ws,rfl,b1,b2,b3,b4⟩
 . have dt:=wg t ot;apply bc;refine qZ hne h0 h1 hup h hp hs h30 o (m+2) hn (b:=true) (x:=bT t) rfl (by simp only [dep,cb];lia) ea ?_;show wSs _ _ _ _;refine bq true ⋯ (λ_=>?_) λz=>by cases z
   have c:=kA (cx:=⟨PP.run Gs gls (m+2),gls,hfs Gs⟩) (δ:=[.val (ba row),.val (.lst [.str n0,.str n1]),.val (.tup [.bl true,bT t]),.no]) (i:=4) (src:=.sq (.var 0)) (ifs:=.yes (.and (.cmp .eq (.ix (.var 4) (.int 0)) (.str "left")) (.cmp .eq (.ix (.ix (.var 4) (.int 1)) (.int 0)) (.str "word")))) (elt:=.ix (.var 4) (.int 1)) itD (λp=>enc p.2) (λp=>p.1 && isW p.2) row ⋯ rfl (λp _=>?_) (λp _ _=>by kernel_rfl) ∅
   . have lwe:((row.filter λp=>p.1 && isW p.2).map λp=>enc p.2) = (lw row).map enc:=by
      unfold lw;rw [fX];rfl
     rw [lwe] at c
     have lwl:(lw row).length<=30:=by
      unfold lw;rw [aw];exact bx (gF _ _) h30
     have lwo:∀ A∈lw row,okw n0 n1 A:=λA hA=>by
      obtain ⟨z1,z2⟩:=tK.mp hA;exact o _ z1 A (by rw [uM z2];exact aC.mpr rfl)
     refine BS _ c ↥0 ?_;show wSs _ _ [.val (ba row),.val (.lst [.str n0,.str n1]),.val (.tup [.bl true,bT t]),.val (.lst ((lw row).map enc))] _
     have any1:(row.any λp=>tr (lw row) p.2 == !p.1) = true:=by
      obtain ⟨p,hp',e⟩:=oK (lw row) t row h ot f;exact cz.mpr ⟨p,hp',by rw [e];cases p.1<;>rfl⟩
     have wh:=r_holds hne h0 h1 (ws:=lw row) lwo ∅ (n:=m+1) h ∅ ∅ hpl o;rw [any1] at wh;refine cu (.bl true) (kC (p:=true) (q:=true) (aV [.lst (row.map itD),bT t] ⋯ (oB t (m+2) row ∅ ∅ ot h ∅ f)) (jM (x:=.bl true) (y:=.bl true) (aV [wD n0 n1 (lw row),ba row] (bM (aV [.lst ((lw row).map enc),.lst [.str n0,.str n1]] ⋯ (yL hne (m+1) (lw row) lwo ∅)) ⋯) wh) rfl rfl)) rfl
   . obtain ⟨s,A⟩:=p;cases s
     . kernel_rfl
     . cases A with
       | un u a=>cases u<;>kernel_rfl
       | bi b x y=>cases b<;>kernel_rfl
       | _=>kernel_rfl
 . have wz:∀ A∈ws,sz A<=61:=λA hA=>by
    have:=pY (b1 A hA).1;rw [this];simp [sz]
   have dl:=tM wz;have wst:∀ A∈ws,∃ p∈row,A∈dr p.2:=λA hA=>OK (b1 A hA).2 (b1 A hA).1
   have wo:∀ A∈ws,okw n0 n1 A:=λA hA=>by
    obtain ⟨p,hp',z⟩:=wst A hA;exact o p hp' A z
   apply bc;refine qZ hne h0 h1 hup h hp hs h30 o (m+2) hn (b:=false) (x:=.lst (ws.map enc)) rfl (by simp only [dep,cb];lia) ea ?_;show wSs _ _ _ _;refine bq false ⋯ (λz=>by cases z) λ_=>?_
   have any1:(row.any λp=>tr ws p.2 == !p.1) = false:=by
    rw [List.any_eq_false];intro p hp';rw [b4 p hp'];cases p.1<;>simp
   have wh:=r_holds hne h0 h1 (ws:=ws) wo ∅ (n:=m+1) h ∅ ∅ hpl o;rw [any1] at wh;have op:=KJ h hpl ∅ ∅ (λA hA=>⟨(b1 A hA).1,dU.mpr (wst A hA)⟩) b2 b3 b4 (m+1) ∅;refine cu (.bl true) (kC (p:=true) (q:=true) ⋯ (kC (p:=true) (q:=true) (aV [ba row,.lst (ws.map enc)] ⋯ op) (jM (x:=.bl false) (y:=.bl false) (aV [wD n0 n1 ws,ba row] (bM (aV [.lst (ws.map enc),.lst [.str n0,.str n1]] ⋯ (yL hne (m+1) ws wo ∅)) ⋯) wh) rfl rfl))) rfl
end
def jA (n:Nat) (ns:List Int) (k:Int) (h0:0<=k) (h1:k<=1000):fZ Gs gls (n+1) 27 [.lst (ns.map .int),.int k] λd=>∃ c:Int,d = .int c:=by
 refine aX iS rfl rfl rfl ?_;simp only [iS,init,SI,Nat.reduceAdd,Nat.reduceSub];simp only [↓WS,WI,↓reduceIte];have hl:(ns.map D.int).length = ns.length:=aw _;rw [hl];split
 . rename_i h;obtain ⟨d,hm,e⟩:=Jy (ds:=ns.map D.int) h0 (by rw [hl];exact h);obtain ⟨c,_,rfl⟩:=bG.mp hm;exact ⟨_,e,c,rfl⟩
 . refine ⟨mul_r ⇑0 ⇑0,?_⟩;split
   . rename_i h;obtain ⟨d,hm,e⟩:=Jy (ds:=ns.map D.int) (j:=k * 7 % (ns.length:Int)) (dI _ ∅) (by rw [hl];exact dB _ h);obtain ⟨c,_,rfl⟩:=bG.mp hm;refine ⟨mul_r ⇑0 ⇑0,h,_,e,?_⟩;simp only [↓WS,WI,↓reduceIte];have a1:=dI (c * 48271) (show (2147483647:Int)≠0 by decide);have a2:=dB (c * 48271) (show (0:Int) < 2147483647 by decide);exact ⟨mul_r ⇑0 ⇑0,⇑0,mul_r ⇑0 ⇑0,mul_r ∅ ∅,⇑0,_,rfl⟩
   . exact ⟨mul_r ∅ ∅,⇑0,_,rfl⟩
def Hm (n:Nat) (ns:List Int) (hn:ns.length<=63):fZ Gs gls (n+2) 28 [.lst (ns.map .int),.int 8] λd=>∃ cs:List Int,d = .lst (cs.map .int)/\8<=cs.length/\cs.length<=63:=by
 refine aX gW rfl rfl rfl ?_;simp only [gW,init,SI,Nat.reduceAdd,Nat.reduceSub];simp only [↓WS,WI,↓reduceIte];have hl:(ns.map D.int).length = ns.length:=aw _;rw [hl];generalize em:(if (63:Int) < (if (8:Int) > (ns.length:Int) then 8 else (ns.length:Int)) then 63 else (if (8:Int) > (ns.length:Int) then 8 else (ns.length:Int))) = m
 have hm:8<=m/\m<=63:=by
  rw [<- em];split<;>split<;>lia
 refine ⟨∅,?_⟩;refine lD (λx y=>∃ c:Int,y = .int c) _ ?_ ?_
 . intro x hx;obtain ⟨i,hi,rfl⟩:=Hg hx;simp only [SI,↓WS,WI,↓reduceIte];refine ⟨trivial,mK (jA n ns _ ∅ ∅) ?_⟩;rintro _ ⟨c,rfl⟩;simp only [↓WS,WI,↓reduceIte];exact ⟨⇑0,⇑0,⟨_,rfl⟩,rfl⟩
 . intro ys r
   have:∀ (ds ys:List D),Paired (λx y=>∃ c:Int,y = D.int c) ds ys->∃ cs:List Int,ys = cs.map .int/\cs.length = ds.length:=by
    intro ds ys r
    induction r with
    | nil=>exact ⟨[],rfl,rfl⟩
    | cons h t ih =>
      obtain ⟨c,rfl⟩:=h;obtain ⟨cs,rfl,hl⟩:=ih;exact ⟨c::cs,rfl,by simp [hl]⟩
   obtain ⟨cs,rfl,hl⟩:=this _ _ r;rw [Hh] at hl;refine ⟨by rw [aw];exact small ∅,cs,rfl,∅,∅⟩
def xJ {a b:Str} (h:nm a):nm (a++b):=by
 obtain ⟨c,r,e,h1,h2⟩:=h;refine ⟨c,r++b.cps.toList,?_,h1,h2⟩;show (a.cps++b.cps).toList = _;rw [hW,e];rfl
def sU (x:Str) (n:Nat):(qG x n).length = n * x.length:=by
 show ((aU n x.cps.toList).flatten.toArray).size = n * x.cps.size;rw [aF,List.length_flatten];simp
def Ee {f:Str} (hf:nm f) (n:Nat) (a:Str) (ha:nm a):nm (qG f n++a):=by
 cases n with
 | zero =>
   obtain ⟨c,r,e,h⟩:=ha;refine ⟨c,r,?_,h⟩;show ((qG f 0).cps++a.cps).toList = _;rw [hW,e]
   rfl
 | succ n =>
   refine xJ ?_;obtain ⟨c,r,e,h⟩:=hf;refine ⟨c,r++(aU n f.cps.toList).flatten,?_,h⟩;show (aU (n+1) f.cps.toList).flatten.toArray.toList = _;rw [Bx,List.flatten_cons,e];simp
def Gz {a b:Str} {u v:Nat} (h:(a++(⟨#[u]⟩:Str))++b = (a++(⟨#[v]⟩:Str))++b):u = v:=by
 have e:((a++(⟨#[u]⟩:Str))++b).cps.toList = ((a++(⟨#[v]⟩:Str))++b).cps.toList:=by rw [h]
 have c:∀ w:Nat,((a++(⟨#[w]⟩:Str))++b).cps.toList = a.cps.toList++(w::b.cps.toList):=λw=>by
  show ((a.cps ++ #[w])++b.cps).toList = _;rw [hW,hW];simp
 rw [c,c] at e;have e2:=List.append_cancel_left e;injection e2
def vq (n:Nat) (c:Int) (f:Str) (hf:f.length = 1) (hn:nm f):fZ Gs gls (n+1) 29 [.int c,.str f] λd=>∃ t0 t1:Str,d = .lst [.str t0,.str t1]/\t0≠t1/\nm t0/\nm t1:=by
 refine aX gw rfl rfl rfl ?_;simp only [gw,init,SI,Nat.reduceAdd,Nat.reduceSub]
 try simp only [↓WS,WI,↓reduceIte]
 have a1:=dI c (show (7:Int)≠0 by decide);have a2:=dB c (show (0:Int) < 7 by decide);have a3:=dI (c / 7) (show (1+c % 7:Int)≠0 by lia);have a4:=dB (c / 7) (show (0:Int) < 1+c % 7 by lia);refine ⟨⇑0,⇑0,∅,⇑0,?_⟩;refine lD (λx y=>∃ u:Nat,x = .str ⟨#[u]⟩/\y = .str ((qG f (c / 7 % (1+c % 7)).toNat++(⟨#[u]⟩:Str))++qG f (1+c % 7 - 1 - c / 7 % (1+c % 7)).toNat)) _ ?_ ?_
 . intro x hx;obtain ⟨u,hu,rfl⟩:=bG.mp hx;have e1:(⟨#[u]⟩:Str).length = 1:=rfl;simp only [SI,↓WS,WI,↓reduceIte];refine ⟨trivial,⟨∅,∅,∅⟩,small ?_,⟨∅,∅,∅⟩,small ?_,⟨u,rfl,rfl⟩,rfl⟩
   . rw [sU,hf,e1];lia
   . rw [GA,sU,sU,hf,e1];lia
 . intro ys r;have eb:("bd":Str).cps.toList = [98,100]:=by decide
   rw [eb] at r
   cases r with
   | cons h t =>
     cases t with
     | cons h2 t =>
       cases t;obtain ⟨u,hu,rfl⟩:=h;obtain ⟨v,hv,rfl⟩:=h2;have nu:∀ w:Nat,97<=w->w<=122->nm ⟨#[w]⟩:=λw h1 h2=>⟨w,[],rfl,h1,h2⟩;injection hu with hu;injection hu with hu;injection hv with hv;injection hv with hv;have hu:98 = u:=by simpa using hu
       have hv:100 = v:=by simpa using hv
       subst hu hv;exact ⟨small ↥0,_,_,rfl,λz=>absurd (Gz z) ⇑0,xJ (Ee hn _ _ (nu _ ⇑0 ⇑0)),xJ (Ee hn _ _ (nu _ ⇑0 ⇑0))⟩
def nmq:nm "q":=⟨113,[],⇑0,⇑0,⇑0⟩
def nmz:nm "z":=⟨122,[],⇑0,⇑0,⇑0⟩
def mod2 (c:Int):c % 2 = 0\/c % 2 = 1:=by lia
def okS (n0 n1:Str) (A:F):Prop:=pl A = true/\∀ B∈dr A,okw n0 n1 B
def at2 (a b:D) (c:Int):∃ d,L2.atI [a,b] (c % 2) = some d/\(d = a\/d = b):=by
 rcases mod2 c with e | e
 . exact ⟨a,by rw [e];rfl,.inl rfl⟩
 . exact ⟨b,by rw [e];rfl,.inr rfl⟩
def at4 (c:Int):∃ k:Int,(k = 0\/k = 1\/k = 2)/\L2.atI [D.int 0,.int 1,.int 1,.int 2] (c % 4) = some (.int k):=by
 rcases (show c % 4 = 0\/c % 4 = 1\/c % 4 = 2\/c % 4 = 3 by lia) with e | e | e | e
 . exact ⟨0,.inl rfl,by rw [e];rfl⟩
 . exact ⟨1,.inr (.inl rfl),by rw [e];rfl⟩
 . exact ⟨1,.inr (.inl rfl),by rw [e];rfl⟩
 . exact ⟨2,.inr (.inr rfl),by rw [e];rfl⟩
def pZ {n0 n1:Str} (w:Str) {ts:List Str} (h:ts.length<=3) (o:∀ t∈ts,t = n0\/t = n1):okS n0 n1 (.word w ts):=⟨rfl,λB hB=>by
 rw [aC.mp hB];exact ⟨rfl,h,o⟩⟩
def Dz (n:Nat) (c:Int) (w0 w1 n0 n1:Str):fZ Gs gls (n+1) 30 [.int c,.lst [.str w0,.str w1],.lst [.str n0,.str n1]] λd=>∃ A:F,d = enc A/\sg A = 0/\okS n0 n1 A:=by
 have pick:∀ (a b:Str) (c:Int),∃ t,L2.atI [D.str a,.str b] (c % 2) = some (.str t)/\(t = a\/t = b):=λa b c=>by
  obtain ⟨d,e,z⟩:=at2 (.str a) (.str b) c;rcases z with rfl | rfl
  . exact ⟨_,e,.inl rfl⟩
  . exact ⟨_,e,.inr rfl⟩
 refine aX iR rfl rfl rfl ?_;simp only [iR,init,SI,Nat.reduceAdd,Nat.reduceSub];simp only [aG,bf,↓WS,WI,↓reduceIte];refine ⟨⇑0,?_⟩;split
 . obtain ⟨d,e,z⟩:=at2 (.tup [.str "yes"]) (.tup [.str "no"]) (c / 9);refine ⟨⇑0,⇑0,⇑0,⇑0,⇑0,d,e,?_⟩;rcases z with rfl | rfl
   . exact ⟨.yes,rfl,rfl,rfl,λB h=>by cases h⟩
   . exact ⟨.no,rfl,rfl,rfl,λB h=>by cases h⟩
 . obtain ⟨t0,e0,z0⟩:=pick n0 n1 (c / 18);obtain ⟨t1,e1,z1⟩:=pick n0 n1 (c / 36);obtain ⟨w,ew,_⟩:=pick w0 w1 (c / 9);obtain ⟨k,hk,ek⟩:=at4 (c / 72);refine ⟨⇑0,⇑0,_,e0,⇑0,⇑0,_,e1,⇑0,⇑0,⇑0,_,ew,⇑0,⇑0,⇑0,_,ek,k,rfl,?_⟩;rcases hk with rfl | rfl | rfl
   . exact ⟨.lst [],rfl,.tup [],rfl,⇑0,.word w [],rfl,rfl,pZ w ↥0 λt h=>by cases h⟩
   . exact ⟨.lst [.str t0],rfl,.tup [.str t0],rfl,⇑0,.word w [t0],rfl,rfl,pZ w ↥0 λt h=>by rw [aC.mp h];exact z0⟩
   . refine ⟨.lst [.str t0,.str t1],rfl,.tup [.str t0,.str t1],rfl,⇑0,.word w [t0,t1],rfl,rfl,pZ w ↥0 λt h=>?_⟩;simp only [aD,cj,or_false] at h;rcases h with rfl | rfl
     . exact z0
     . exact z1
def rg:∀ A:F,sz A<=2 * sg A+1
 | .yes | .no | .word _ _=>by simp [sz,sg]
 | .un _ a=>by have:=rg a;simp only [sz,sg];lia
 | .bi _ x y=>by have:=rg x;have:=rg y;simp only [sz,sg];lia
def nE (n:Nat) (A:F) (ih:∀ B∈sub A,PP.run Gs gls n 34 [enc B] = some (.int (sg B))) (h0:sg A = ((sub A).map sg).sum+1) (hz:evT ⟨PP.run Gs gls n,gls,hfs Gs⟩ (.cmp .eq (.ix (.var 0) (.int 0)) (.str "word")) [.val (enc A)] = some (false,[.val (enc A)])) (h1:evE ⟨PP.run Gs gls n,gls,hfs Gs⟩ (.blt .toInt (.cons (.cmp .gt (.blt .len (.cons (.var 0) .nil)) (.int 1)) .nil)) [.val (enc A)] = some (.int 1,[.val (enc A)])) (h2:evI ⟨PP.run Gs gls n,gls,hfs Gs⟩ (.sq (.sl (.var 0) (.yes (.int 1)) .no)) [.val (enc A)] = some ((sub A).map enc,[.val (enc A)])):PP.run Gs gls (n+1) 34 [enc A] = some (.int (sg A)):=by
 have ss:=s64;have sl:=sub_len A;apply bc;refine aX gU rfl rfl rfl ?_;simp only [gU,init,SI,Nat.reduceAdd,Nat.reduceSub];refine bq false hz (λz=>by cases z) λ_=>?_;refine cu _ (di h1 (sO (f:=λB:F=>(sg B:Int)) (xs:=sub A) (kB enc (λB=>.int (sg B)) (λB=>[enc B]) (sub A) ∅ h2 rfl (λB _=>by kernel_rfl) ih)) rfl) ?_;congr 1
 have:((sub A).map λB:F=>(sg B:Int)).sum = (((sub A).map sg).sum:Nat):=by
  generalize sub A = l
  induction l with
  | nil=>rfl
  | cons a l ih=>rw [az,cS,az,cS,ih];lia
 rw [this,h0]
 lia
def lY:∀ (A:F) (n:Nat),hF A<=n->PP.run Gs gls n 34 [enc A] = some (.int (sg A))
 | .yes,n,h | .no,n,h | .word _ _,n,h=>by
   obtain ⟨n,rfl⟩:∃ k,n = k+1:=⟨n - 1,by simp only [hF] at h;lia⟩
   kernel_rfl
 | .un u a,n,h=>by
   obtain ⟨n,rfl⟩:∃ k,n = k+1:=⟨n - 1,by simp only [hF] at h;lia⟩;have i1:=lY a n (by simp only [hF] at h;lia);refine nE n _ (λB hB=>?_) (by simp [sub,sg]) (by cases u<;>kernel_rfl) ⋯ ⋯;rw [aC.mp hB]
   exact i1
 | .bi b x y,n,h=>by
   obtain ⟨n,rfl⟩:∃ k,n = k+1:=⟨n - 1,by simp only [hF] at h;lia⟩;simp only [hF] at h;have i1:=lY x n ∅;have i2:=lY y n ∅;refine nE n _ (λB hB=>?_) (by simp [sub,sg]) (by cases b<;>kernel_rfl) ⋯ ⋯;simp only [sub,aD,cj,or_false] at hB;rcases hB with rfl | rfl
   . exact i1
   . exact i2
def lt_int (a b:Int):jT .lt (.int a) (.int b) = some (decide (a < b)):=by kernel_rfl
def eq_int (a b:Int):jT .eq (.int a) (.int b) = some (decide (a = b)):=by kernel_rfl
def sgl (l:List F):Nat:=(l.map sg).sum
def iI (l:List F) (A:F):sgl (l++[A]) = sgl l+sg A:=by simp [sgl]
def sS {A:F}:∀ {l:List F},A∈l->sg A<=sgl l
 | B::l,h=>by
   rcases aD.mp h with rfl | h
   . simp [sgl]
   . have:=sS h;simp only [sgl,az,cS] at *
     lia
def zh {α:Type} {l:List α} (h:l≠[]):∃ L A,l = L++[A]:=by
 rcases gG l with e | ⟨L,b,e⟩
 . exact absurd e h
 . exact ⟨L,b,by rw [e,gH]⟩
section
variable {n0 n1:Str}
def oH {l:List F} {C:F} (h:∀ B∈l,okS n0 n1 B) (hc:okS n0 n1 C):∀ B∈l++[C],okS n0 n1 B:=λB hB=>by
 rcases aN.mp hB with q | q
 . exact h B q
 . rw [aC.mp q];exact hc
def LG {x y:F} (b:B) (hx:okS n0 n1 x) (hy:okS n0 n1 y):okS n0 n1 (.bi b x y):=⟨by show (pl x && pl y) = true;rw [hx.1,hy.1];rfl,λB hB=>(aN.mp hB).elim (hx.2 B) (hy.2 B)⟩
variable (n0 n1) in
def inv (cs ws:D) (most:Nat) (xs:List D) (δ:PP.Loc):Prop:=∃ (st:List F) (l:Nat) (s6 s7 s8 s9:Sl),δ = [.val cs,.val ws,.val (.lst [.str n0,.str n1]),.val (.int most),.own (st.map enc),.val (.int l),s6,s7,s8,s9]/\sgl st = l/\l<=most/\st.length<=9/\(∀ A∈st,okS n0 n1 A)/\(st≠[]\/xs≠[])/\∀ x∈xs,∃ c:Int,x = .int c
theorem KH (n:Nat) (w0 w1:Str) (cs:D) (most:Nat) (hmo:most<=12) (x:D) (xs:List D) (δ:PP.Loc) (h:inv n0 n1 cs (.lst [.str w0,.str w1]) most (x::xs) δ) (Q:Out->Prop) :
 wTg δ (.nm 6) x λδ2=>wSs ⟨PP.run Gs gls (n+1),gls,hfs Gs⟩ (qk (dF 2 eA.body)) δ2 (qb (inv n0 n1 cs (.lst [.str w0,.str w1]) most xs) Q):=by
 obtain ⟨st,l,s6,s7,s8,s9,rfl,h1,h2,h3,h4,h5,h6⟩:=h;obtain ⟨c,rfl⟩:=h6 _ av;have h6':∀ x∈xs,∃ c:Int,x = .int c:=λx h=>h6 x (ai _ h);have ss:=s64
 have hz:∀ A∈st,sz A<=61:=λA hA=>by
  have e1:=rg A;have e2:sg A<=sgl st:=sS hA
  lia
 have hlen:(st.map enc).length = st.length:=aw _
 have mk:∀ (own:List D) (m':Int) (st':List F) (l':Nat) (s6 s7 s8 s9:Sl),own = st'.map enc->m' = (l':Int)->sgl st' = l'->l'<=most->st'.length<=9->(∀ A∈st',okS n0 n1 A)->st'≠[]->inv n0 n1 cs (.lst [.str w0,.str w1]) most xs [.val cs,.val (.lst [.str w0,.str w1]),.val (.lst [.str n0,.str n1]),.val (.int most),.own own,.val (.int m'),s6,s7,s8,s9]:=by
  rintro _ _ st' l' s6 s7 s8 s9 rfl rfl e1 e2 e3 e4 e5;exact ⟨st',l',s6,s7,s8,s9,rfl,e1,e2,e3,e4,.inl e5,h6'⟩
 refine ⟨[.val cs,.val (.lst [.str w0,.str w1]),.val (.lst [.str n0,.str n1]),.val (.int most),.own (st.map enc),.val (.int l),.val (.int c),s7,s8,s9],rfl,?_⟩;refine dD (.int (c % 7)) (di (x:=.int c) (y:=.int 7) rfl rfl rfl) ⟨[.val cs,.val (.lst [.str w0,.str w1]),.val (.lst [.str n0,.str n1]),.val (.int most),.own (st.map enc),.val (.int l),.val (.int c),.val (.int (c % 7)),s8,s9],rfl,?_⟩;refine bq (decide (c % 7 < 3) && (decide (1 < (st.length:Int)) && decide ((l:Int) < most))) ?_ (λz=>?_) λz=>?_
 . refine jL (cy (x:=.int (c % 7)) (y:=.int 3) rfl rfl (lt_int _ _)) (jL (cy (x:=.int (st.length:Int)) (y:=.int 1) (gq (ds:=[.lst (st.map enc)]) rfl ?_) rfl rfl) (cy (x:=.int l) (y:=.int most) rfl rfl (lt_int _ _)));show some (D.int _) = _;rw [hlen]
 . rw [aa,aa,decide_eq_true_eq,decide_eq_true_eq,decide_eq_true_eq] at z;obtain ⟨z1,z2,z3⟩:=z;obtain ⟨L,A,e⟩:=zh (l:=st) (by rintro rfl;simp at z2);obtain ⟨L',A',e'⟩:=zh (l:=L) (by rintro rfl;rw [e] at z2;simp at z2);have a1:=dI c (show (7:Int)≠0 by decide)
   obtain ⟨b,hb⟩:∃ b:B,L2.atI [D.str "and",D.str "or",D.str "if"] (c % 7) = some (.str b.s):=by
    rcases (show c % 7 = 0\/c % 7 = 1\/c % 7 = 2 by lia) with z | z | z
    . exact ⟨.and,by rw [z];rfl⟩
    . exact ⟨.or,by rw [z];rfl⟩
    . exact ⟨.imp,by rw [z];rfl⟩
   have e1:sgl st = sgl L'+sg A'+sg A:=by rw [e,iI,e',iI]
   have e4:st.length = L'.length+2:=by rw [e,e'];simp
   simp only [qN,aG,bf,Nat.reduceAdd,↓WS,WI,↓reduceIte];refine ⟨L.map enc,enc A,by rw [e];simp,L'.map enc,enc A',by rw [e'];simp,⇑0,_,hb,⇑0,by rw [aw];lia,mk _ _ (L'++[.bi b A' A]) (l+1) _ _ _ _ (by rw [bC];rfl) ∅ (by rw [iI];simp only [sg];lia) ∅ (by simp only [ay,aG,bf];lia) (oH (λB hB=>h4 B (by rw [e,e'];simp [hB])) (LG b (h4 A' (by rw [e,e'];simp)) (h4 A (by rw [e];simp)))) ↥0⟩
 refine bq (decide (c % 7 = 3) && (!st.isEmpty && decide ((l:Int) < most))) ?_ (λz=>?_) λz=>?_
 . refine jL (cy (x:=.int (c % 7)) (y:=.int 3) rfl rfl (eq_int _ _)) (jL (cy (x:=.lst (st.map enc)) (y:=.lst []) rfl rfl ?_) (cy (x:=.int l) (y:=.int most) rfl rfl (lt_int _ _)));have d:=tM hz
   have k1:fU (.lst (st.map enc)) (.lst []) = true:=by
    have d0:cb ([]:List D) = 0:=by unfold cb;rfl
    unfold fU;unfold dep;rw [d0,decide_eq_true (show min (cb (st.map enc)+1) (0+1)<=150 by lia),decide_eq_true (show max (cb (st.map enc)+1) (0+1) < 100000 by lia)];rfl
   show (if fU (.lst (st.map enc)) (.lst []) = true then some (!eqD (.lst (st.map enc)) (.lst [])) else none) = _;rw [if_pos k1];cases st<;>rfl
 . rw [aa,aa,decide_eq_true_eq,decide_eq_true_eq] at z;obtain ⟨z1,z2,z3⟩:=z;obtain ⟨L,A,e⟩:=zh (l:=st) (by rintro rfl;cases z2);have e1:sgl st = sgl L+sg A:=by rw [e,iI]
   have e4:st.length = L.length+1:=by rw [e];simp
   simp only [qN,aG,bf,Nat.reduceAdd,↓WS,WI,↓reduceIte];exact ⟨L.map enc,enc A,by rw [e];simp,⇑0,by rw [aw];lia,mk _ _ (L++[.un .neg A]) (l+1) _ _ _ _ (by rw [bC];rfl) ∅ (by rw [iI];simp only [sg];lia) ∅ (by simp only [ay,aG,bf];lia) (oH (λB hB=>h4 B (by rw [e];simp [hB])) (h4 A (by rw [e];simp))) ↥0⟩
 refine bq (decide ((st.length:Int) < 9)) (cy (x:=.int (st.length:Int)) (y:=.int 9) (gq (ds:=[.lst (st.map enc)]) rfl ?_) rfl (lt_int _ _)) (λz=>?_) λz=>?_
 . show some (D.int _) = _;rw [hlen]
 . rw [decide_eq_true_eq] at z;simp only [qN,↓WS,WI,↓reduceIte];refine ⟨⇑0,mK (Dz n (c / 7) w0 w1 n0 n1) ?_⟩;rintro _ ⟨A,rfl,g0,gA⟩;exact ⟨by rw [aw];lia,mk _ _ (st++[A]) l _ _ _ _ (by rw [bC];rfl) rfl (by rw [iI,g0];lia) h2 (by simp only [ay,aG,bf];lia) (oH h4 gA) ↥0⟩
 . simp only [qN,↓WS,WI,↓reduceIte];refine mk _ _ st l _ _ _ _ rfl rfl h1 h2 h3 h4 ?_;rintro rfl;simp at z
end
section
variable {n0 n1:Str}
def Oj:Ss:=match dF 3 eA.body with
 | .cons (.while_ _ b) _=>b
 | _=>.nil
def Dv (cx:Cl) (cs ws:D) (most:Nat) (hmo:most<=12) (s6 s7 s8 s9:Sl) (Q:Out->Prop) (q:∀ st:List F,st≠[]->sgl st = most->st.length<=9->(∀ A∈st,okS n0 n1 A)->Q (.nx [.val cs,.val ws,.val (.lst [.str n0,.str n1]),.val (.int most),.own (st.map enc),.val (.int most),s6,s7,s8,s9])):∀ (f:Nat) (st:List F) (l:Nat),most < l+f->l<=most->st≠[]->sgl st = l->st.length<=9->(∀ A∈st,okS n0 n1 A) ->
 pv cx (.cmp .lt (.var 5) (.var 3)) Oj f [.val cs,.val ws,.val (.lst [.str n0,.str n1]),.val (.int most),.own (st.map enc),.val (.int l),s6,s7,s8,s9] Q
 | 0,st,l,h,h1,_,_,_,_=>by lia
 | f+1,st,l,h,h1,h2,h3,h4,h5=>by
   have ss:=s64;rw [uN];refine ⟨decide ((l:Int) < most),_,cy (x:=.int l) (y:=.int most) rfl rfl (lt_int _ _),?_⟩;by_cases z:(l:Int) < most
   . rw [decide_eq_true z];dsimp only;rw [if_pos rfl];obtain ⟨L,A,e⟩:=zh h2;have e1:sgl st = sgl L+sg A:=by rw [e,iI]
     have e4:st.length = L.length+1:=by rw [e];simp
     have r:=Dv cx cs ws most hmo s6 s7 s8 s9 Q q f (L++[.un .neg A]) (l+1) ∅ ∅ ↥0 (by rw [iI];simp only [sg];lia) (by simp only [ay,aG,bf];lia) (oH (λB hB=>h5 B (by rw [e];simp [hB])) (h5 A (by rw [e];simp)));simp only [Oj,dF,eA,aG,bf,Nat.reduceAdd,↓WS,WI,↓reduceIte];refine ⟨L.map enc,enc A,by rw [e];simp,⇑0,by rw [aw];lia,?_⟩;rw [bC] at r;exact r
   . rw [decide_eq_false z];dsimp only;rw [if_neg ak];have e:l = most:=by lia
     subst e;exact q st h2 h3 h4 h5
def Hn (n:Nat) (cs:List Int) (w0 w1:Str) (most:Nat) (hmo:most<=12) (hc:8<=cs.length):fZ Gs gls (n+2) 31 [.lst (cs.map .int),.lst [.str w0,.str w1],.lst [.str n0,.str n1],.int most] λd=>∃ st:List F,d = .lst (st.map enc)/\st≠[]/\st.length<=9/\sgl st = most/\∀ A∈st,okS n0 n1 A:=by
 refine aX eA rfl rfl rfl ?_;simp only [eA,init,SI,Nat.reduceAdd,Nat.reduceSub];refine dc 2 [.val (.lst (cs.map .int)),.val (.lst [.str w0,.str w1]),.val (.lst [.str n0,.str n1]),.val (.int most),.own [],.val (.int 0),.no,.no,.no,.no] ⋯ ?_;refine gk (cs.map .int) ⋯ ?_;refine uP (inv n0 n1 (.lst (cs.map .int)) (.lst [.str w0,.str w1]) most) ?_ ?_ _ _ ?_
 . intro x xs δ h;exact KH n w0 w1 _ most hmo x xs δ h _
 . rintro δ ⟨st,l,s6,s7,s8,s9,rfl,h1,h2,h3,h4,h5,_⟩;have hs:st≠[]:=h5.resolve_right λz=>z rfl;refine cm.mpr (BW.mpr (Dv _ _ _ most hmo s6 s7 s8 s9 _ (λst' g1 g2 g3 g4=>?_) 1000 st l ∅ h2 hs h1 h3 h4));exact eM (d:=.lst (st'.map enc)) ⋯ ⟨st',rfl,g1,g3,g2,g4⟩
 . refine ⟨[],0,_,_,_,_,rfl,rfl,cA _,↥0,λA h=>(by cases h),.inr ?_,λx hx=>?_⟩
   . intro z;have:=congrArg lz z;rw [aw] at this;simp at this;simp [this] at hc
   . obtain ⟨c,_,rfl⟩:=bG.mp hx;exact ⟨c,rfl⟩
end
section
variable {n0 n1:Str} (hne:n0≠n1) (h0:nm n0) (h1:nm n1)
theorem LF {A:F} (h:sg A<=12):sz A<=25:=by have:=rg A;lia
def okR (n0 n1:Str) (row:List It):Prop:=∀ p∈row,okS n0 n1 p.2/\sz p.2<=25
theorem okR.low {row:List It} (h:okR n0 n1 row):low row:=λp hp=>by have:=(h p hp).2;lia
theorem KN {n:Nat} {row:List It} (h:okR n0 n1 row) (hl:row.length<=9) (hn:63<=n) {s0 s1 s2 s3 s4 s5 s7 s8 s9 s10 s11 s12:Sl}:evE ⟨PP.run Gs gls n,gls,hfs Gs⟩ (.blt .sum (.cons (.comp 1 (.nm 13) (.sq (.var 6)) .no (.call 34 (.cons (.ix (.var 13) (.int 1)) .nil))) .nil)) [s0,s1,s2,s3,s4,s5,.val (ba row),s7,s8,s9,s10,s11,s12] = some (.int (sgs row),[s0,s1,s2,s3,s4,s5,.val (ba row),s7,s8,s9,s10,s11,s12]):=by
 have ss:=s64;have c:=kA (cx:=⟨PP.run Gs gls n,gls,hfs Gs⟩) (δ:=[s0,s1,s2,s3,s4,s5,.val (ba row),s7,s8,s9,s10,s11,s12]) (i:=13) (src:=.sq (.var 6)) (ifs:=.no) (elt:=.call 34 (.cons (.ix (.var 13) (.int 1)) .nil)) itD (λp=>.int (sg p.2)) (λ_=>true) row ⋯ rfl (λ_ _=>rfl) (λp hp _=>aV [enc p.2] ?_ (lY p.2 n (by have:=lx p.2;have:=(h p hp).2;lia))) ∅
 . rw [iu] at c
   have e:((row.map λp:It=>(sg p.2:Int)).sum) = ((sgs row:Nat):Int):=by
    unfold sgs;clear c h hl
    induction row with
    | nil=>rfl
    | cons a l ih=>rw [az,cS,az,cS,ih];lia
   have c2:=sO (f:=λp:It=>(sg p.2:Int)) c;rw [e] at c2;exact c2
 . kernel_rfl
end
def KL {n:Nat} {Q:Out->Prop} {a b c e x0 x1 x2 x3 x4 x5 x6 x7:Sl} (q66 q67:Int) {σ:D} (w66:PP.run Gs gls n 27 [σ,.int 66] = some (.int q66)) (w67:PP.run Gs gls n 27 [σ,.int 67] = some (.int q67)) (q:∀ (most:Nat) (w:Int),most<=12->wSs ⟨PP.run Gs gls n,gls,hfs Gs⟩ (dF 7 d_law.body) [.val σ,a,b,.val (.int most),.val (.int w),x0,x1,x2,x3,x4,x5,x6,x7] Q):wSs ⟨PP.run Gs gls n,gls,hfs Gs⟩ (dF 3 d_law.body) [.val σ,a,b,c,e,x0,x1,x2,x3,x4,x5,x6,x7] Q:=by
 have g1:=dI q66 (show (8:Int)≠0 by decide);have g2:=dB q66 (show (0:Int) < 8 by decide);have g3:=dI q66 (show (4:Int)≠0 by decide);have g4:=dB q66 (show (0:Int) < 4 by decide)
 have rest:∀ most:Nat,most<=8->wSs ⟨PP.run Gs gls n,gls,hfs Gs⟩ (dF 6 d_law.body) [.val σ,a,b,.val (.int most),.val (.int (q67 % 6)),x0,x1,x2,x3,x4,x5,x6,x7] Q:=λmost hm=>by
  refine bq (decide (q67 % 6 = 1)) (cy (x:=.int (q67 % 6)) (y:=.int 1) rfl rfl (eq_int _ _)) (λ_=>?_) λ_=>q most _ ∅;refine dD (.int ((9+(q66 % 4).toNat:Nat):Int)) (di (x:=.int 9) (y:=.int (q66 % 4)) rfl (di (x:=.int q66) (y:=.int 4) (aV [σ,.int 66] rfl w66) rfl rfl) ?_) ⟨_,rfl,q _ _ ∅⟩;show some (D.int (9+q66 % 4)) = _;congr 2
  lia
 refine dD (.int ((q66 % 8).toNat:Int)) (di (x:=.int q66) (y:=.int 8) (aV [σ,.int 66] rfl w66) rfl ?_) ⟨_,rfl,?_⟩
 . show some (D.int (q66 % 8)) = _;congr 2
   lia
 refine dD (.int (q67 % 6)) (di (x:=.int q67) (y:=.int 6) (aV [σ,.int 67] rfl w67) rfl rfl) ⟨_,rfl,?_⟩;refine bq (decide (q67 % 6 = 0)) (cy (x:=.int (q67 % 6)) (y:=.int 0) rfl rfl (eq_int _ _)) (λ_=>?_) λ_=>rest _ ∅;exact dD (.int ((8:Nat):Int)) rfl ⟨_,rfl,rest 8 ∅⟩
def Hl {n:Nat} {Q:Out->Prop} {n0 n1:Str} {σ a b c e x1 x2 x3 x4 x5:Sl} {s:D} (hs:σ = .val s) (wc:∀ k:Nat,k<=9->∃ q:Int,PP.run Gs gls n 27 [s,.int k] = some (.int q)) {st:List F} (h1:st.length<=9) (h2:∀ A∈st,okS n0 n1 A/\sz A<=25) {x0:Sl} (q:∀ (row:List It) (x0:Sl),row.length = st.length->okR n0 n1 row->wSs ⟨PP.run Gs gls n,gls,hfs Gs⟩ (dF 10 d_law.body) [σ,a,b,c,e,.val (.lst (st.map enc)),.own (row.map itD),x0,x1,x2,x3,x4,x5] Q):wSs ⟨PP.run Gs gls n,gls,hfs Gs⟩ (dF 9 d_law.body) [σ,a,b,c,e,.val (.lst (st.map enc)),.own [],x0,x1,x2,x3,x4,x5] Q:=by
 subst hs;have ss:=s64;refine gk (lX 0 st.length) (zx (j:=(st.length:Int)) (gq (ds:=[.lst (st.map enc)]) rfl (by show some (D.int _) = _;rw [aw])) ∅ ∅) ?_;unfold lX;refine fP (g:=λi:Nat=>D.int (0+i)) (λrest δ=>∃ (acc:List It) (x0:Sl),δ = [.val s,a,b,c,e,.val (.lst (st.map enc)),.own (acc.map itD),x0,x1,x2,x3,x4,x5]/\acc.length+rest.length = st.length/\okR n0 n1 acc/\∀ i∈rest,i < st.length) ?_ ?_ _ _ ⟨[],_,rfl,↥0,λp h=>(by cases h),λi hi=>dS.mp hi⟩
 . rintro i rest δ ⟨acc,x0,rfl,hl,ha,hm⟩;have hi:=hm i av;rw [aG] at hl;obtain ⟨k,ek⟩:=wc i ∅;refine ⟨[.val s,a,b,c,e,.val (.lst (st.map enc)),.own (acc.map itD),.val (.int (0+i)),x1,x2,x3,x4,x5],rfl,?_⟩;have e0:((0:Int)+(i:Int)) = (i:Int):=by lia
   rw [e0]
   obtain ⟨b',hb⟩:∃ b':Bool,L2.atI [D.str "left",D.str "right"] (k / 5 % 2) = some (.str (sd b')):=by
    rcases mod2 (k / 5) with z | z
    . exact ⟨true,by rw [z];rfl⟩
    . exact ⟨false,by rw [z];rfl⟩
   have hA:=h2 _ (bS hi);refine lC (itD (b',st[i])) (mj (bM (ja (x:=.lst [.str "left",.str "right"]) (y:=.int (k / 5 % 2)) ⋯ (di (x:=.int (k / 5)) (y:=.int 2) (di (x:=.int k) (y:=.int 5) (aV [s,.int i] rfl ek) rfl ⋯) rfl rfl) hb) (bM (ja (x:=.lst (st.map enc)) (y:=.int i) rfl rfl (L2.atI_nat (by rw [bj,aB hi];rfl))) rfl)) (by show 2<=sizeLine;decide)) rfl (by rw [aw];lia) (gj.mpr ?_);refine ⟨acc++[(b',st[i])],.val (.int i),?_,by simp only [ay,aG,bf];lia,λp hp=>?_,λj hj=>hm j (ai _ hj)⟩
   . rw [bC];rfl
   . rcases aN.mp hp with z | z
     . exact ha p z
     . rw [aC.mp z];exact hA
 . rintro δ ⟨acc,x0,rfl,hl,ha,_⟩;exact q acc x0 (by simpa using hl) ha
section
variable {n0 n1:Str}
def at5 (x0 x1 x2 x3 x4:D) (c:Int):∃ d∈[x0,x1,x2,x3,x4],L2.atI [x0,x1,x2,x3,x4] (c % 5) = some d:=by
 rcases (show c % 5 = 0\/c % 5 = 1\/c % 5 = 2\/c % 5 = 3\/c % 5 = 4 by lia) with e | e | e | e | e<;>rw [e]
 . exact ⟨x0,↥0,rfl⟩
 . exact ⟨x1,↥0,rfl⟩
 . exact ⟨x2,↥0,rfl⟩
 . exact ⟨x3,↥0,rfl⟩
 . exact ⟨x4,↥0,rfl⟩
def NS {n:Nat} (hn:70<=n) {σ s3 s4 s5 s7 s8 s9 s10 s11 s12:Sl} {s:D} {w0 w1:Str} (hs:σ = .val s) {q69 q70:Int} (w69:PP.run Gs gls n 27 [s,.int 69] = some (.int q69)) (w70:PP.run Gs gls n 27 [s,.int 70] = some (.int q70)) {row:List It} (hr:okR n0 n1 row) (hl:row.length<=9) (hne:row≠[]) (r:Ss):wSs ⟨PP.run Gs gls n,gls,hfs Gs⟩ (qN (match dF 10 d_law.body with | .cons (.ifs _ a _) _=>a | _=>.nil) r) [σ,.val (.lst [.str w0,.str w1]),.val (.lst [.str n0,.str n1]),s3,s4,s5,.own (row.map itD),s7,s8,s9,s10,s11,s12] (retS λd=>d = .bl true):=by
 subst hs;have ss:=s64;have hlen:(row.map itD).length = row.length:=aw _;have hpos:=iz.mpr hne;have g1:=dI q69 (show (row.length:Int)≠0 by lia);have g2:=dB q69 (show (0:Int) < row.length by lia);obtain ⟨i,ei⟩:∃ i:Nat,q69 % (row.length:Int) = i:=⟨(q69 % (row.length:Int)).toNat,∅⟩;have hi:i < row.length:=by lia
 obtain ⟨t,A,ep⟩:∃ t A,row[i] = (t,A):=⟨_,_,rfl⟩;have hA:=hr _ (bS hi);rw [ep] at hA;have atr:L2.atI (row.map itD) (i:Int) = some (itD (t,A)):=L2.atI_nat (by rw [bj,aB hi,ep];rfl)
 obtain ⟨u,hu,eu⟩:∃ u:U,(∀ B,pl (.un u B) = false)/\L2.atI [D.str "all",D.str "some"] (q69 % 2) = some (.str u.s):=by
  rcases mod2 q69 with z | z
  . exact ⟨.all,λ_=>rfl,by rw [z];rfl⟩
  . exact ⟨.ex,λ_=>rfl,by rw [z];rfl⟩
 obtain ⟨m,rfl⟩:∃ m,n = m+1:=⟨n - 1,∅⟩;obtain ⟨_,el,L,rfl,l0,okL⟩:=Dz m (q70 / 5) w0 w1 n0 n1;have szL:=rg L
 have hset:∀ C:F,pl C = false->sz C<=30->∃ d,PP.run Gs gls (m+1) 26 [.lst ((row.map itD).set i (itD (t,C)))] = some d/\PP.run Gs gls (m+1) 42 [d] = some (.tup [.bl true,.bl false,.bl true]):=λC hC hz=>by
  have low':low (row.set i (t,C)):=λp hp=>by
   rcases List.mem_or_eq_of_mem_set hp with z | rfl
   . exact hr.low p z
   . dsimp only;lia
  have w1:=Du m (row.set i (t,C)) low' (by rw [bu];lia);have ml:=xM (row.set i (t,C));rw [bu] at ml
  have e:((mo (row.set i (t,C))).all λp=>pl p.2) = false:=by
   rw [cI];intro z;have:=aW.mp z _ (ky.mpr (List.mem_set hi _));rw [hC] at this;cases this
  have w2:=rm (n:=m - 1) (lH low') ∅ ∅ (.inl e);rw [e,show m - 1+2 = m+1 by lia] at w2;rw [List.map_set] at w1;exact ⟨_,w1,w2⟩
 have hC:∀ d∈[enc (.un u A),enc (.un .neg (.un u A)),enc (.bi .and L (.un u A)),enc (.bi .or (.un u A) L),enc (.bi .imp L (.un u A))],∃ C,d = enc C/\pl C = false/\sz C<=30:=λd hd=>by
  have f1:∀ b:Bool,(b && false) = false:=λb=>by cases b<;>rfl
  have pu:=hu A;have zA:=hA.2;simp only [aD,cj,or_false] at hd;rcases hd with rfl | rfl | rfl | rfl | rfl
  . exact ⟨_,rfl,pu,by simp only [sz];lia⟩
  . exact ⟨_,rfl,pu,by simp only [sz];lia⟩
  . exact ⟨_,rfl,by simp only [pl,pu,f1],by simp only [sz];lia⟩
  . exact ⟨_,rfl,by simp only [pl,pu,Bool.false_and],by simp only [sz];lia⟩
  . exact ⟨_,rfl,by simp only [pl,pu,f1],by simp only [sz];lia⟩
 obtain ⟨d5,hd5,e5⟩:=at5 (enc (.un u A)) (enc (.un .neg (.un u A))) (enc (.bi .and L (.un u A))) (enc (.bi .or (.un u A) L)) (enc (.bi .imp L (.un u A))) q70;obtain ⟨C,rfl,pC,zC⟩:=hC d5 hd5;obtain ⟨d,wo,wr⟩:=hset C pC zC;refine dD (.int i) (di (x:=.int q69) (y:=.int (row.length:Int)) (aV [s,.int 69] rfl w69) (gq (ds:=[.lst (row.map itD)]) rfl ?_) ?_) ⟨_,rfl,?_⟩
 . show some (D.int _) = _;rw [hlen]
 . rw [<- ei];show (if (0:Int) < (row.length:Int) then some (D.int (q69 % (row.length:Int))) else none) = _;rw [if_pos ∅]
 refine dD (enc A) (ja (x:=itD (t,A)) (y:=.int 1) (ja (x:=.lst (row.map itD)) (y:=.int i) rfl rfl atr) rfl rfl) ⟨_,rfl,?_⟩;refine dD (enc (.un u A)) (mj (bM (ja (x:=.lst [.str "all",.str "some"]) (y:=.int (q69 % 2)) ⋯ (di (x:=.int q69) (y:=.int 2) (aV [s,.int 69] rfl w69) rfl rfl) eu) (bM (d:=enc A) rfl rfl)) (by show 2<=sizeLine;decide)) ⟨_,rfl,?_⟩;refine dD (enc L) (aV [.int (q70 / 5),.lst [.str w0,.str w1],.lst [.str n0,.str n1]] (bM (di (x:=.int q70) (y:=.int 5) (aV [s,.int 70] rfl w70) rfl ⋯) rfl) el) ⟨_,rfl,?_⟩;refine dD (.lst [enc (.un u A),enc (.un .neg (.un u A)),enc (.bi .and L (.un u A)),enc (.bi .or (.un u A) L),enc (.bi .imp L (.un u A))]) ⋯ ⟨_,rfl,?_⟩;refine cm.mpr (BX.mpr ⟨itD (t,C),_,mj (bM (ja (x:=itD (t,A)) (y:=.int 0) (ja (x:=.lst (row.map itD)) (y:=.int i) rfl rfl atr) rfl rfl) (bM (ja (y:=.int (q70 % 5)) rfl (di (x:=.int q70) (y:=.int 5) (aV [s,.int 70] rfl w70) rfl rfl) e5) rfl)) (by show 2<=sizeLine;decide),?_⟩);simp only [qN,List.set,↓WS,WI,↓reduceIte];refine ⟨i,i,rfl,?_,d,wo,_,wr,⇑0,⟨true,⋯,rfl⟩⟩;unfold L2.ixN;rw [if_pos ∅,hlen];simp [hi]
end
def ET {n f:Nat} {as:List D} {es:Es} {d:D} {δ δ':PP.Loc} (he:eh ⟨PP.run Gs gls n,gls,hfs Gs⟩ es δ = some (as,δ')) (hc:PP.run Gs gls n f as = some d):evE ⟨PP.run Gs gls n,gls,hfs Gs⟩ (.call f es) δ = some (d,δ'):=by
 simp only [evE,he,hc,af,aP];rfl
def main (ns:List Int) (hn:ns.length<=63):PP.run Gs gls 200 43 [.lst (ns.map .int)] = some (.bl true):=by
 have ss:=s64;obtain ⟨_,e64,q64,rfl⟩:=jA 198 ns 64 ⇑0 ⇑0;obtain ⟨_,e65,q65,rfl⟩:=jA 198 ns 65 ⇑0 ⇑0;obtain ⟨_,e66,q66,rfl⟩:=jA 198 ns 66 ⇑0 ⇑0;obtain ⟨_,e67,q67,rfl⟩:=jA 198 ns 67 ⇑0 ⇑0;obtain ⟨_,e68,q68,rfl⟩:=jA 198 ns 68 ⇑0 ⇑0;obtain ⟨_,e69,q69,rfl⟩:=jA 198 ns 69 ⇑0 ⇑0;obtain ⟨_,e70,q70,rfl⟩:=jA 198 ns 70 ⇑0 ⇑0;obtain ⟨_,ew,w0,w1,rfl,_⟩:=vq 198 q64 "q" rfl nmq;obtain ⟨_,en,n0,n1,rfl,hne,h0,h1⟩:=vq 198 q65 "z" rfl nmz;obtain ⟨_,ec,cs,rfl,hc,_⟩:=Hm 197 ns hn;have t0:=Dr hne h0 h1 (row:=[]) .nil (λp h=>by cases h) rfl ⇑0 ⇑0 (λp h=>by cases h) 198 ⇑0;apply bc;refine aX d_law rfl rfl rfl ?_;simp only [d_law,init,SI,Nat.reduceAdd,Nat.reduceSub];generalize hs:D.lst (ns.map D.int) = σ at *;refine dD _ (aV [.int q64,.str "q"] (bM (aV [σ,.int 64] rfl e64) rfl) ew) ⟨_,rfl,?_⟩;refine dD _ (aV [.int q65,.str "z"] (bM (aV [σ,.int 65] rfl e65) rfl) en) ⟨_,rfl,?_⟩;refine bq false (kP (p:=true) (jK [.tup [],.lst [.str n0,.str n1]] rfl t0)) (λz=>by cases z) λ_=>?_;refine KL q66 q67 e66 e67 λmost w hm=>?_;obtain ⟨_,eb,st,rfl,st0,st9,stS,stO⟩:=Hn (n0:=n0) (n1:=n1) 197 cs w0 w1 most hm hc;refine dD _ (aV [.lst (cs.map .int),.lst [.str w0,.str w1],.lst [.str n0,.str n1],.int most] (bM (aV [σ,.int 8] rfl ec) rfl) eb) ⟨_,rfl,?_⟩;refine dc 1 _ rfl ?_;refine Hl rfl (λk hk=>?_) st9 (λA hA=>⟨stO A hA,LF (bx (sS hA) ∅)⟩) λrow x0 hl hr=>?_
 . obtain ⟨_,e,q,rfl⟩:=jA 198 ns k ∅ ∅;rw [hs] at e;exact ⟨q,e⟩
 have hrn:row≠[]:=λz=>by
  rw [z] at hl;exact st0 (dW.mp hl.symm)
 refine bq (decide (q68 % 9 = 0)) (cy (x:=.int (q68 % 9)) (y:=.int 0) (di (x:=.int q68) (y:=.int 9) (aV [σ,.int 68] rfl e68) rfl rfl) rfl (eq_int _ _)) (λ_=>?_) λ_=>?_
 . exact NS (n:=199) ⇑0 rfl e69 e70 hr ∅ hrn _
 have low':=lH hr.low;have ml:=xM row;have wo:=Du 198 row hr.low ∅;have hr':okR n0 n1 (mo row):=λp hp=>hr p (ky.mp hp);have hpl:((mo row).all λp=>pl p.2) = true:=aW.mpr λp hp=>(hr' p hp).1.1;have hup:=Jm hr.low;generalize mo row = row' at *;refine cm.mpr (sy.mpr ⟨ba row',_,ET rfl wo,_,rfl,?_⟩);refine bq (decide ((8:Int) < sgs row')) (cy (x:=.int (sgs row')) (y:=.int 8) (KN hr' ∅ ⇑0) rfl rfl) (λz=>?_) λz=>?_
 . rw [decide_eq_true_eq] at z;have wr:=rm (n:=197) low' ∅ ⇑0 (.inr ∅);rw [hpl] at wr;exact cu (.bl true) (jM (x:=.tup [.bl false,.bl true,.bl true]) (y:=.tup [.bl false,.bl true,.bl true]) (aV [ba row'] rfl wr) ⋯ ⋯) rfl
 . rw [decide_eq_false_iff_not] at z;exact cu _ (aV [ba row',.lst [.str n0,.str n1]] rfl (Dr hne h0 h1 hup low' hpl ∅ ∅ (λp hp=>(hr' p hp).1.2) 198 ⇑0)) rfl
end P1
end
section
namespace PySem.W.Fast
def tw7448863769506527986:=0
def tw4387103066816072566:=0
def tw6772456287503916152:=0
def tw3895407281340434171:=0
def tw3296643764227320330:=0
def tw18378592277388091976:=0
def tw12129607046951511402:=0
def tw14909189441269841834:=0
def tw8524709352184559606:=0
def tw80453852046937122:=0
def tw14041985101831691917:=0
def tw8752481939593570490:=0
def tw15189102381116505578:=0
def tw14169002950162374540:=0
def tw2237520630168570753:=0
def tw6208293702700722109:=0
def tw3167316397160188757:=0
def tw469555644197655260:=0
def tw441700810711400617:=0
def tw12032371020141047091:=0
def tw735825121665324384:=0
def tw4414706118661288354:=0
def tw6818325299856137023:=0
def tw9527716695355641168:=0
def tw18361356684812727964:=0
def tw6720245356264450231:=0
def tw13578419143045976973:=0
def tw6952280420396801119:=0
def tw16320484482026802329:=0
def tw1725335079541166790:=0
def tw1260085198628978635:=0
def tw8680040577711532936:=0
def tw11430217240619334119:=0
def tw14322269060703971214:=0
def tw14889222281252211759:=0
def tw6120633294557438705:=0
def tw13308413872302438170:=0
def tw14416383329941058935:=0
def tw5787636837439087302:=0
def tw7814176113803186462:=0
def tw8157106421524363462:=0
def tw3764983449135049856:=0
def tw4746652811151150594:=0
def tw11372649072640847694:=0
def tw6114336566643864875:=0
def tw15561188335212840186:=0
def tw9742591900743748572:=0
def tw11489629422499662561:=0
def tw6217572882053989151:=0
def tw15612781709311563922:=0
def tw3691726212564695465:=0
def tw13811294661196559835:=0
def tw6822662814000977240:=0
def tw4833165478982291819:=0
def tw5343534057167607095:=0
def tw7021586706582511156:=0
def tw4636320269844236874:=0
def tw653066420125866347:=0
def tw6572493622834087226:=0
def tw17024221957633365127:=0
def tw14492807090904465600:=0
def tw11799051656890923029:=0
def tw11126678506157666911:=0
def tw13714881628194447507:=0
def tw1421130712079291791:=0
def tw16785454077960964496:=0
def tw7317066859582879894:=0
def tw10993206907368072085:=0
def tw13009882127629676490:=0
def tw5896699393923430916:=0
def tw4068754687773944815:=0
def tw6472362461792341532:=0
def tw11365653504838420226:=0
def tw1383850250059826514:=0
def tw1253458310631541071:=0
def tw13586558720361121845:=0
def tw234315022980810967:=0
def tw6216770303107672696:=0
def tw11705361630660846579:=0
def tw14358217129245161930:=0
def tw17204460667602755987:=0
def tw11341129389254956347:=0
def tw3253263763471590996:=0
def tw2467954000370743348:=0
def tw13472678052487921690:=0
def tw2764812540182421998:=0
def tw17689103129618060013:=0
def tw14115330874169495302:=0
def tw53581110364372817:=0
def tw6678824691041741001:=0
def tw2221246557336445079:=0
def tw6487423035779778810:=0
def tw12818583431551712074:=0
def tw2661718637166586483:=0
def tw6921018993535393528:=0
def tw10218135330235962708:=0
def tw2080362501609004852:=0
def tw7804547347491774021:=0
def tw10839906664177436011:=0
def tw5268210622842156592:=0
def tw11780974539213010489:=0
def tw5671314719382448447:=0
def tw17622181645566354419:=0
def tw16018870704841830451:=0
def tw11222470930848306467:=0
def tw1967258837349061074:=0
def tw17808376781101712358:=0
def tw7105118198076133673:=0
def tw16845467685115104354:=0
def tw16246727843687239543:=0
def tw4516152326023638199:=0
def tw12766090301944734976:=0
def tw5241629267265149358:=0
def tw8089354403448985716:=0
def tw17673600613252778669:=0
def tw13682707655864964059:=0
def tw2820272633595649309:=0
def tw4490769768915858957:=0
def tw7849933690042269186:=0
def tw12172982700353537298:=0
def tw7186423036078536424:=0
def tw3612124144022754762:=0
def tw3260648715169355764:=0
def tw10280039044578368344:=0
def tw325852613485360766:=0
def tw11321149511527817706:=0
def tw3444340601169550082:=0
def tw2855955897890507417:=0
def tw9090323708641730602:=0
def tw2492900002524449686:=0
def tw9598055981049727645:=0
def tw7307426375010344295:=0
def tw2085235673073046512:=0
def tw10870746592202878674:=0
def tw7734169163825965139:=0
def tw3025592591551258945:=0
def tw2573638405038738106:=0
def tw8563213658879169943:=0
def tw5916491372050311485:=0
def tw9612367111135718179:=0
def tw17569172919427605954:=0
def tw10770328310665144485:=0
def tw17924269230481926733:=0
def tw11878183212579287493:=0
def tw355977333680331473:=0
def tw15480847203531839229:=0
def tw7342661605089979496:=0
def tw3530283515418083956:=0
def tw2826539588525565995:=0
def tw9407308381514286421:=0
def tw12625194543426096743:=0
def tw4456925212565187979:=0
def tw8365038875058205586:=0
def tw118025527862320398:=0
def tw9012521520226475346:=0
def tw2892098976379151539:=0
def tw17519675887216376332:=0
def tw12824795985481119026:=0
def tw9769888443307581596:=0
def tw13881214019475118425:=0
def tw10455231877810867767:=0
def tw15660787629747764508:=0
def tw16818582338464513053:=0
def tw10869835324533641385:=0
def tw12773651445181844870:=0
def tw3558200455301458218:=0
def tw14627605560720596150:=0
def tw4172413193106603147:=0
def tw31536275130579514:=0
def tw4068284431132036418:=0
def tw17793469675064011894:=0
def tw12921992970597586810:=0
def tw4943885487246346880:=0
def tw2996877623402398432:=0
def tw11988001954191718080:=0
def tw18312278495695181407:=0
def tw10900512323101241716:=0
def tw5170051651751049732:=0
def tw10538148575995049765:=0
def tw2920753597804009899:=0
def tw5909216905863755715:=0
def tw1891937803954318535:=0
def tw7962695242889877550:=0
def tw6953010743428934363:=0
def tw11538095047454716509:=0
def tw13670934712943933967:=0
def tw11564245726053017139:=0
def tw4377885214316639748:=0
def tw12226306461139151460:=0
def tw13009785792822979330:=0
def tw15040660903238822932:=0
def tw4292887383071027176:=0
def tw4949407245274143229:=0
def tw5961701764985317941:=0
def tw8506506264635392895:=0
def tw2774914765409211317:=0
def tw16929624108480878882:=0
def tw17010691335415888057:=0
def tw7071120752557253993:=0
def tw15740536430177236258:=0
def tw1984698170528198622:=0
def tw7666337733055496686:=0
def tw12757518664760444312:=0
def tw2725421352353105341:=0
def tw1098939070574724733:=0
def tw16040995489922324176:=0
def tw15126664533104440750:=0
def tw5653996874849416834:=0
def tw11564307655361138192:=0
def tw3316831837589152680:=0
def tw2674236863949556331:=0
def tw15386671820954661663:=0
def tw11160237904841343980:=0
def tw6422909189549797294:=0
def tw10808116839030138177:=0
def tw14540127032506229428:=0
def tw8441922675925801913:=0
def tw11861928894372818703:=0
def tw15355495911574543932:=0
def tw9824359186050717273:=0
def tw15924164436786335348:=0
def tw2243073722327661641:=0
def tw12275876544376918269:=0
def tw13121935163542846466:=0
def tw17371430608949816150:=0
def tw6648113629470519031:=0
def tw15848734449038323062:=0
def tw15426692221554921389:=0
def tw15181302606355910781:=0
def tw11120005478676800032:=0
def tw10978162349673949115:=0
def tw11074507275115137560:=0
def tw7210066811722789507:=0
def tw5717630164665403433:=0
def tw9158063010548839538:=0
def tw18205900661274476641:=0
def tw3968450827720860376:=0
def tw9904675346195359513:=0
def tw6801838542030734084:=0
def tw1735124215308565878:=0
def tw8744503118546137206:=0
def tw8126114075812740030:=0
def tw3698044461271537852:=0
def tw5090457432233075580:=0
def tw9243028698132856460:=0
def tw10057027431625408703:=0
def tw9020386827796870643:=0
def tw16816764575737422358:=0
def tw6457252134761783210:=0
def tw14646833923657062730:=0
def tw13942131740814517781:=0
def tw15141077439228517577:=0
def tw5442577635194544034:=0
def tw11113446506069244664:=0
def tw17227725359689363440:=0
def tw8240812137635595462:=0
def tw4238435639758084451:=0
def tw3511162549310086023:=0
def tw7554807844079061259:=0
def tw16819582234554115049:=0
def tw735867726883198600:=0
def tw15286792146362044797:=0
def tw11712133054435853401:=0
def tw4555314904896063191:=0
def tw16183212033716039104:=0
def tw5259775827629010499:=0
def tw6136634753668744841:=0
def tw4885050512067032316:=0
def tw11736246570483433014:=0
def tw7209817816693559846:=0
def tw17448787214391904299:=0
def tw5908770247163794943:=0
def tw8776189281399103131:=0
def tw14213771498336559486:=0
def tw13833280882650752237:=0
def tw14560597199619127922:=0
def tw6707586275830455348:=0
def tw7836611376752371844:=0
def tw2945706927715042028:=0
def tw13129729490725833463:=0
def tw8778076719134713410:=0
def tw8784951000570018576:=0
def tw6010956671097524629:=0
def tw9115132299217602459:=0
def tw16432710438245494939:=0
def tw11061633301913838467:=0
def tw8246037580822919370:=0
def tw16193103320207616440:=0
def tw2700985664100430204:=0
def tw2253348103650967927:=0
def tw10352966937808394510:=0
def tw14723682351188955346:=0
def tw6641541313028008817:=0
def tw9314808383082804930:=0
def tw3734590945303436715:=0
def tw8636276896495370769:=0
def tw17283637810470104998:=0
def tw15472292389880646345:=0
def tw4584234889582757909:=0
def tw4946577262731050635:=0
def tw17568094084167587373:=0
def tw3189884854120543670:=0
def tw13141754988307354173:=0
def tw3527216058000198353:=0
def tw17068875381123543993:=0
def tw10273520809258924748:=0
def tw6145675037356813112:=0
def tw15583642084497251770:=0
def tw6770630346356823179:=0
def tw5464535839170178479:=0
def tw8703536995289648871:=0
def tw9958733455487665265:=0
def tw18122858284502187098:=0
def tw11658139594116185415:=0
def tw509074787352999882:=0
def tw6035271888953775267:=0
def tw1355523393720376587:=0
def tw11698891251768154761:=0
def tw10576524271042270563:=0
def tw925928534912519083:=0
def tw16996468913716393158:=0
def tw5014971400770585318:=0
def tw13320926379747559613:=0
def tw8910035531670236090:=0
def tw13352736689844882349:=0
def tw18183823481567063225:=0
def tw13883134172727621613:=0
def tw11597309999524337375:=0
def tw12131937737874748802:=0
def tw2518148085121912988:=0
def tw12586570840377258979:=0
def tw402841933559130424:=0
def tw5378118846392303288:=0
def tw14566026073635201256:=0
def tw13229167350092417115:=0
def tw17091896777585190781:=0
def tw16304906978016402640:=0
def tw13610676400255067942:=0
def tw18087982049286062077:=0
def tw2737621978939153126:=0
def tw13816285582893575674:=0
def tw2145350794739146545:=0
def tw8771587303941174254:=0
def tw14703159942845378714:=0
end PySem.W.Fast
open PySem PySem.W PyProof.Rows
set_option maxRecDepth 100000 in
set_option maxHeartbeats 0 in
theorem PySem.Challenge.cw_cutless_k44_found_out_holds : PySem.Challenge.rw_cutless_k44_found_out.Holds := by
 w_on
 refine PySem.W.holds_law ⇑0 λsaid=>?_
 k_head;(case hw=>w_witness2)
 k_fill
 refine PP.walk_run (l:=PySem.Challenge.rw_cutless_k44_found_out) (G:=P1.Gs) (Gd:=P1.Gd) (gl:=P1.gls) (gn:=P1.gns) (i:=43) (fd:=P1.d_law) (x:="_law_script") P1.main rfl rfl rfl rfl (λw h Y=>⟨PySem.W.km_in_of Y,λt ht=>by cases ht⟩) rfl λw mg h KX G=>?_
 have mz:mg "ValueError" = none:=by
  refine PySem.W.mg_none_of KX G ?_
  k_is
 have hz:=PP.Clss.get KX G (l:=["CutlessError","NotPlain","TooGreat"]) (by
  iterate 3 (apply PP.Clss.cons;k_is;kernel_rfl)
  exact .nil)
 have hu:=PP.Ups.get KX G (l:=P1.ups) (ps:=P1.pcs) (by
  iterate 2 (apply PP.Ups.cons;k_is;kernel_rfl;(iterate 3 (apply PP.Us.cons;k_is;kernel_rfl));exact .nil)
  exact .nil)
 apply PP.xd_mk (d:=P1.d_find_out) (x:="find_out") (rs:=P1.r_find_out) (cls:=["NotPlain","TooGreat"]) (cf:=PP.cfOf P1.Gd) (gn:=P1.gns) (tp:=P1.top) (i:=39) KX G;k_is;k_is;k_is;k_is;decide;rfl;exact λn h=>hz n (ju ((by decide:∀ n∈(["NotPlain","TooGreat"]:List Str),FU n (["CutlessError","NotPlain","TooGreat"]:List Str) = true) n h));intro o20;apply PP.td_mk (d:=P1.d__law_asked) (x:="_law_asked") (ys:=P1.y__law_asked) (ups:=P1.ups) (ps:=P1.pcs) (cf:=PP.cfOf P1.Gd) (gn:=P1.gns) (tp:=P1.top) (i:=64) KX G;k_is;k_is;k_is;k_is;decide;rfl;exact mz;exact λn h=>hz n (ju ((by decide:∀ n∈P1.pcs,FU n (["CutlessError","NotPlain","TooGreat"]:List Str) = true) n h));exact hu;exact (λp h=>by cases h);intro o40;apply PP.td_mk (d:=P1.d__law_refused) (x:="_law_refused") (ys:=P1.y__law_refused) (ups:=P1.ups) (ps:=P1.pcs) (cf:=PP.cfOf P1.Gd) (gn:=P1.gns) (tp:=P1.top) (i:=66) KX G;k_is;k_is;k_is;k_is;decide;rfl;exact mz;exact λn h=>hz n (ju ((by decide:∀ n∈P1.pcs,FU n (["CutlessError","NotPlain","TooGreat"]:List Str) = true) n h));exact hu;exact (λp h=>by cases h);intro o42;apply PP.wd_mk (d:=P1.d__law_world) (x:="_law_world") (ws:=P1.wd__law_world) (cf:=PP.cfOf P1.Gd) (gn:=P1.gns) (tp:=P1.top) (i:=61) KX G;k_is;k_is;k_is;k_is;decide;rfl;intro o37;refine ⟨PP.top_mk (tp:=P1.top) (is:=P1.pls) KX G ?H (PP.sub_app (b:=[P1.x_find_out])) ?W ⇑0 ?B ?GL (λn l h=>by cases h) (λf h=>by cases h),λt ht=>by cases ht⟩
 case W =>
  exact .cons o20 rfl rfl (.nil)
 case H =>
  iterate 20 (apply PP.Hds.cons;k_is;k_is;k_is;k_is;decide)
  refine .own o20.dn ?_
  iterate 16 (apply PP.Hds.cons;k_is;k_is;k_is;k_is;decide)
  refine .own o37 ?_
  iterate 2 (apply PP.Hds.cons;k_is;k_is;k_is;k_is;decide)
  refine .own o40 ?_
  iterate 1 (apply PP.Hds.cons;k_is;k_is;k_is;k_is;decide)
  refine .own o42 ?_
  iterate 1 (apply PP.Hds.cons;k_is;k_is;k_is;k_is;decide)
  exact .nil
 case B=>kernel_rfl
 case GL=>repeat' first | exact .nil | exact .str | exact .int | exact Nat.le_of_ble_eq_true rfl | (apply PP.InK.tup;k_is) | (apply PP.Gls.cons;k_is) | apply PP.InKs.cons
end
