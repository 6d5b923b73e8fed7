import PyProof.Rows.All
import Wide.All
import OpenK.AllK
import Wide.FinOn
import Lean
import PyProof.EqAt
import PyProof.EqKinds
import PyProof.TupleCall
import KE.KSortAsk
import KE.KIntText
import PyProof.MinMaxWalk
import KE.KMinBuiltin
import KE.KRevIter
import PyProof.MeetsStr2
import KE.KTabLook
import KE.KIsAll
import PyProof.StrLawsIn
import PySem.Challenge.RW_cutless_k52_statements_refused
local macro_rules|`(∅)=>`(by lia)
local macro_rules|`(⋯)=>`(by kernel_rfl)
local macro_rules|`(⇑$_)=>`(by decide)
local macro_rules|`(↥$_)=>`(by simp)
local macro_rules|`(command|def $n:declId $s:optDeclSig $v:declVal)=>`(command|noncomputable def $n:declId $s:optDeclSig $v:declVal)
local macro_rules|`(tactic|decide)=>`(tactic|decide +kernel)
open And renaming intro->aG
open Array renaming toList_extract->fb,getElem?_eq_some_iff->fc,toList_inj->fo,toList_append->lE,length_toList->lF,toList->nu,getElem?_toList->vQ,getElem?_mapIdx->vR
open Bool renaming and_eq_true->aa,false_ne_true->aq,or_eq_true->bF,eq_iff_iff->bJ,false_eq_true->cI,and_true->cT,not_eq_true'->dc,not_eq_false'->du,or_eq_true_iff->fG,or_eq_false_iff->gP,false_or->mE,true_or->nQ,or_true->nR,not_true->ug,and_self->uh,eq_false_iff->EK
open False renaming elim->bu
open ForInStep renaming yield->ji
open Iff renaming rfl->dE
open Int renaming emod_lt_of_pos->ba,emod_nonneg->bx,toNat_natCast->de,zero_add->xI
open List renaming length_cons->ag,length_map->ak,mem_cons_of_mem->ao,map_cons->aw,mem_cons_self->ay,length_append->az,mem_cons->aA,size_toArray->aB,replicate->aC,getElem?_eq_some_iff->aF,length_nil->aL,getElem?_set_ne->aM,getElem?_eq_getElem->aN,mem_append_right->aO,findSome?_cons->aQ,length_drop->aR,sum_cons->aW,length_set->aZ,length_reverse->bb,lookup_cons->bp,append_nil->bq,filterMap_cons->bt,length_take->bw,getElem?_set_self->bG,getElem?_map->bH,all_eq_true->bK,drop_eq_getElem_cons->bN,map_append->bP,not_mem_nil->bQ,mem_singleton->bX,mem_append_left->bY,mem_append->cc,all_cons->cg,take_of_length_le->cm,getElem?_append_left->cw,append_assoc->cz,take_append_drop->cB,mem_map->cE,reverse_cons->cL,length_singleton->cP,length_replicate->cQ,range'->cX,mem_of_getElem?->cY,map_nil->dm,extract_eq_take_drop->dC,getElem?_take_of_lt->dF,any_cons->dG,eraseIdx_eq_take_drop_succ->dJ,range->dW,drop_eq_nil_of_le->dX,set_append_right->eM,reverse_reverse->fh,getElem?_append_right->fi,drop_length->fq,getLast?_eq_getElem?->fC,forIn_cons->fM,find?_cons->fN,length_eq_zero_iff->fY,getElem?_replicate->fZ,findIdx?_eq_some_iff_getElem->gb,mem_range->gf,length_range->gg,drop_zero->gh,getElem?_eq_none->gC,dropLast_eq_take->gD,take_length->gE,cons_append->gF,map_take->gK,map_drop->gL,mem_of_mem_take->gN,mem_of_mem_drop->gO,nodup_cons->hJ,nil_append->hU,foldl_cons->hZ,take_left->iI,contains_cons->iJ,length->je,getElem?_set->jf,count_append->jg,map_map->jP,lookup_nil->kl,getElem?_reverse->kF,count_cons_of_ne->kG,tail_drop->kU,length_dropLast->kW,getLast?_append->kX,length_pos_iff->lJ,filter_eq_self->lK,eraseDups_cons->lL,zip_cons_cons->mF,getElem?_drop->mG,findIdx?_cons->mH,filterMap_nil->mI,mem_range'_1->nO,eraseIdxIfInBounds_toArray->oh,drop_append_of_le_length->pY,take_left'->qa,of_mem_zip->qb,findIdx?_eq_none_iff->tW,mem_of_elem_eq_true->ud,all_nil->vP,drop_eq_nil_iff->zd,count_cons_self->ze,take_succ_cons->Aw,replicate_zero->Ax,replicate_succ->Ay,map_congr_left->Az,getElem_of_mem->AA,drop_succ_cons->AD,mem_filterMap->AG,getLast?_cons->AH,take_add_one->EG,reverse_drop->EH,nodup_append->EI,range'_succ->EO,map_reverse->ER,getElem_mem->ES,sum_append->HZ,mem_filter->Ia,head?_drop->Ib
open Nat renaming le_refl->aD,lt_of_lt_of_le->aK,ne_of_lt->aS,le_trans->aX,zero_le->bM,le_of_lt->cG,lt_of_le_of_lt->cJ,lt_irrefl->cV,lt_succ_of_lt->jh,le_of_eq->kj,min_self->oa,lt_or_ge->og,min_le_right->pW,min_eq_right->pX,min_le_left->qv,min_eq_left->qw,not_lt->tV,zero_add->xF,sub_zero->xG,add_zero->xH,add_le_add_left->AF,lt_succ_self->HX,le_max_right->HY,not_lt_zero->IT,le_max_left->IU
open Nat.succ renaming inj->lI
open Option renaming bind_eq_bind->ae,bind_eq_some_iff->af,bind_some->ah,map_eq_some_iff->aj,map_some->bg,isNone_iff_eq_none->cN,bind_none->fg,map->fK,getD_some->nN,isSome_iff_exists->rH,map_eq_none_iff->uc,isSome_map->Av,getD_none->AE
open Option.some renaming inj->bT
open Prod renaming fst->iH
open PyProof.Rows renaming callWith_type1->gy,AllBare->jR,slot_tuple_getitem->kJ,assignInOrder_cons->pV,Subscript_->xD,subscriptTail_builtinR->EB,IntsAre->EJ,tail_any->HU,IsTup->Ic,assignInOrder_nil->Md
open PyProof.Rows.IsTup renaming new->oi
open PySem renaming Value->ai,Shared->au,Addr->av,Expr->aE,wpAny_bind->aI,Program->aP,wpAny_pure->bf,World->bA,Around->bB,Stmt->bE,Heap->bV,wpAny_truthy_bool->bW,wpAny_mono->cu,wpAny_newObj_type->dM,wpAny_loadPart_at->dN,Scope->dO,Keyword->dP,call_meets->dR,FuncData->dZ,wpAny_passesOwn->eZ,typeIs_str->fI,Operator->gJ,wpAny_field->ir,wpAny_execs_nil->iQ,wpAny_isSubtype_exc->iR,wpAny_Call_Name_kw->jD,NameKind->jE,wpAny_pyIter_list->jO,wpAny_standAt->kg,wpAny_holding->kh,ExceptHandler->km,Comprehension->kn,noFill_tuple_add->kI,PassesOwn->nM,seq_tuple_add->oJ,IsPart->pZ,codeAny_mono->qt,wpAny_execs_cons->tQ,Arguments->ua,sizeLine_eq->ub,CmpOp->ue,wpAny_loadPart'->vJ,OwnTail->vO,GenState->xK,wpAny_getItem_list_slice->Ap,wpAny_comprehension_free->Aq,evalPart_none->Ar,compTurn_list->As,seqIndex_neg->EC,concat_meets->ED,codeAny_compStart_list->EE,wpAny_isTrue_Compare1->EL,builtinLookup_eq_fast->EM,wpAny_pyIter_revIter->HQ,wpAny_newFunctionEnv->HR,wpAny_loadName_local->HS,seqIndex_of->HV,codeAny_call_builtin->HW,Const->Ie,wpAny_loadName_cell->IS,wpAny_Name->LZ,Result->Ma,PlainAttrs->Mb,wpAny_assign_Name->Mc
open PySem.Builtin.Int renaming intBits->rK
open PySem.Builtin.List renaming listFitsIndex->mJ
open PySem.Builtin.Slice renaming slicePlaces->eK,sliceAdjust->gM,sliceApplied->mD
open PySem.Builtin.Str renaming occurrences->cR,strKind->eV,tooLong->rJ,strSub->tZ,glued->uf
open PySem.Builtin.Tuple renaming tupleExact->eU
open PySem.Calls renaming callWith_builtin->jN,evalArgs_plain->kL,spliced_cons->mC,Name_function_global->qx,spliced_nil->AI
open PySem.Heap renaming get?_push_of_some->ax,lt_size->aJ,get?_push_size->aV,get?_update_other->gi,SameBut->jQ,size_push->kY,get?_none_of_le->kZ,get?_update_self->xJ
open PySem.Heap.IsSliceOf renaming new->qd
open PySem.Heap.SameBut renaming refl->tY
open PySem.NameKind renaming free->bO,cell->kK
open PySem.Obj renaming mapSeq->nr,mapFields->vM,data_mapFields->EF
open PySem.PassesOwn renaming never->nq
open PySem.PyData renaming str->jH,int->jI
open PySem.ScopeKind renaming function->vL
open PySem.SeqAt.EqAt renaming same->ET
open PySem.Spec renaming same->EN
open PySem.Str renaming empty->vN,ofString->xE
open PySem.StrLaws renaming occBody->dw,sliceText->iG,sliceText_from->tU,sliceText_to->vK
open PySem.Txt renaming slice->lH
open PySem.Value renaming ref->cj,none->jM,builtin->lG,str->nX,int->nY,bool->qu
open PySem.Walks renaming list->Au
open Sum renaming inr->ki,inl->nZ
open True renaming intro->fO
set_option Elab.async false
set_option linter.all false
set_option genInjectivity false
set_option genSizeOf false
set_option maxRecDepth 100000
set_option maxHeartbeats 4000000
section
-- CHANGE: your row's module here,as the last of these rows
namespace L2
open PySem PySem.Spec PyProof.Rows
abbrev Key:=Sum Int Str
def qZ:Key->ai->Bool
 |.inl k,v=>Value.isInt k v
 |.inr x,v=>Value.isStrOf x v
def Of(w:bA):Key->Int
 |.inl k=>hashInt k
 |.inr x=>hashStr w x
def dB:∀{k:Key}{v:ai},qZ k v=true->(∃i t,k=nZ i/\v=nY i t)\/(∃x t,k=ki x/\v=nX x t)
 |.inl i,v,h=>by
  obtain⟨t,e⟩:=Value.isInt_shape (k:=i) (v:=v) h
  exact .inl ⟨i,t,rfl,e⟩
 |.inr x,v,h=>by
  obtain⟨t,e⟩:=Value.isStrOf_shape (x:=x) (v:=v) h;exact .inr ⟨x,t,rfl,e⟩
def zU(i:Int)(t:Tok):qZ (.inl i) (.int i t)=true:=by simp[qZ,Value.isInt]
def zT(x:Str)(t:Tok):qZ (.inr x) (.str x t)=true:=by simp[qZ,Value.isStrOf]
def KY(a b:Int):decide ((nZ a:Key)=nZ b)=(a==b):=by
 by_cases e:a=b
 .subst e;simp
 .have h:¬(nZ a:Key)=nZ b:=λq=>e (Sum.inl.inj q);rw[decide_eq_false h];exact(beq_eq_false_iff_ne.mpr e).symm
def KS(a b:Str):decide ((ki a:Key)=ki b)=decide (a=b):=by
 by_cases e:a=b
 .subst e;simp
 .have h:¬(ki a:Key)=ki b:=λq=>e (Sum.inr.inj q);rw[decide_eq_false h,decide_eq_false e]
def KW(a:Int)(b:Str):decide ((nZ a:Key)=ki b)=false:=decide_eq_false (λq=>nomatch q)
def KU(a:Str)(b:Int):decide ((ki a:Key)=nZ b)=false:=decide_eq_false (λq=>nomatch q)
def dA(prog:aP)(w:bA):PySem.KeyKind prog w Key where
 is:=qZ
 hash:=Of w
 inj:=λv a b ha hb=>by
  rcases dB ha with⟨i,t,rfl,rfl⟩|⟨x,t,rfl,rfl⟩
  .rcases dB hb with⟨j,u,rfl,e⟩|⟨y,u,rfl,e⟩
   .injection e with e1 _;rw[e1]
   .exact nomatch e
  .rcases dB hb with⟨j,u,rfl,e⟩|⟨y,u,rfl,e⟩
   .exact nomatch e
   .injection e with e1 _;rw[e1]
 byValue:=λk v h=>by
  rcases dB h with⟨i,t,rfl,rfl⟩|⟨x,t,rfl,rfl⟩<;>rfl
 pyHash:=λhv h=>by
  rcases dB hv with⟨i,t,rfl,rfl⟩|⟨x,t,rfl,rfl⟩
  .exact wpAny_pyHash_int h
  .exact wpAny_pyHash_str h
 eqBool:=λhu hv h=>by
  rcases dB hu with⟨i,t,rfl,rfl⟩|⟨x,t,rfl,rfl⟩
  .rcases dB hv with⟨j,u,rfl,rfl⟩|⟨y,u,rfl,rfl⟩
   .rw[KY]at h;exact wpAny_eqBool_int h
   .rw[KW]at h;exact SeqAt.EqAt.int_str i t y u _ _ _ _ h
  .rcases dB hv with⟨j,u,rfl,rfl⟩|⟨y,u,rfl,rfl⟩
   .rw[KU]at h;exact SeqAt.EqAt.str_int x t j u _ _ _ _ h
   .rw[KS]at h;exact wpAny_eqBool_str h
 «strs»:=λk x t v h=>by
  rcases dB h with⟨i,u,rfl,e⟩|⟨y,u,rfl,e⟩
  .exact nomatch e
  .injection e with e1 _;subst e1;cases v<;>rfl
def vg(prog:aP)(w:bA)(i:Int)(t:Tok):(dA prog w).is (.inl i) (.int i t)=true:=zU i t
def vf(prog:aP)(w:bA)(x:Str)(t:Tok):(dA prog w).is (.inr x) (.str x t)=true:=zT x t
end L2
namespace L2
open PySem PySem.Spec PyProof.Rows
set_option genInjectivity true in
inductive V where
 |non|bl (b:Bool)|int (i:Int)|str (x:Str)|ref (a:av)|ty (n:String)
 deriving DecidableEq
def RelV:V->ai->Prop
 |.non,u=>u=jM
 |.bl b,u=>u=qu b
 |.int i,u=>∃t,u=nY i t
 |.str x,u=>∃t,u=nX x t
 |.ref a,u=>u=cj a
 |.ty n,u=>u=Value.type n
abbrev Vals:List V->List ai->Prop:=Paired RelV
def Vals.length{xs:List V}{us:List ai}(r:Vals xs us):xs.length=us.length:=Paired.length r
def Vals.get:∀{xs:List V}{us:List ai}{i:Nat}{x:V},Vals xs us->xs[i]?=some x->∃u,us[i]?=some u/\RelV x u
 |_,_,_,_,.nil,e=>by simp at e
 |_,_,0,_,.cons r _,e=>by simp at e;subst e;exact⟨_,rfl,r⟩
 |_,_,i+1,x,.cons _ t,e=>by
  obtain⟨u,h1,h2⟩:=Vals.get (i:=i) (x:=x) t (by simpa using e);exact⟨u,by simpa using h1,h2⟩
def Vals.set{x:V}{u:ai}(r:RelV x u):∀{xs:List V}{us:List ai}(i:Nat),Vals xs us->Vals (xs.set i x) (us.set i u)
 |_,_,_,.nil=>.nil
 |_,_,0,.cons _ t=>.cons r t
 |_,_,i+1,.cons q t=>.cons q (Vals.set r i t)
def Vals.append:∀{xs ys:List V}{us ws:List ai},Vals xs us->Vals ys ws->Vals (xs++ys) (us++ws)
 |_,_,_,_,.nil,s=>s
 |_,_,_,_,.cons r t,s=>.cons r (Vals.append t s)
def Vals.take:∀{xs:List V}{us:List ai}(n:Nat),Vals xs us->Vals (xs.take n) (us.take n)
 |_,_,0,_=>.nil
 |_,_,_+1,.nil=>.nil
 |_,_,n+1,.cons r t=>.cons r (Vals.take n t)
def Vals.drop:∀{xs:List V}{us:List ai}(n:Nat),Vals xs us->Vals (xs.drop n) (us.drop n)
 |_,_,0,r=>r
 |_,_,_+1,.nil=>.nil
 |_,_,n+1,.cons _ t=>Vals.drop n t
def gw:Option V->Option ai->Prop
 |some v,some u=>RelV v u
 |none,none=>True
 |_,_=>False
def KV{κ:Type}:List (κ×V)->List (κ×ai)->Prop:=Paired λ(p:κ×V)(q:κ×ai)=>p.1=q.1/\RelV p.2 q.2
def kV:Key->V
 |.inl i=>.int i
 |.inr x=>.str x
inductive HO where
 |lst (xs:List V)
 |tup (xs:List V)
 |dK (kvs:List (Key×V))|dT (kvs:List (List Key×V))
 |own (x:av)
 |frz (o:Obj) (u:HO)
 |tbl (ps:Array ai)
 |ext (φ:bV->Prop)
abbrev Hp:=av->Option HO
def upd(H:Hp)(a:av)(o:HO):Hp:=λb=>if b=a then some o else H b
def bI{H:Hp}{a:av}{o:HO}:upd H a o a=some o:=by unfold upd;rw[if_pos rfl]
def bD{H:Hp}{a b:av}{o:HO}(h:b≠a):upd H a o b=H b:=by unfold upd;rw[if_neg h]
def gm{H:Hp}{a b:av}{o:HO}(h:H a=some o)(h':H b=none):a≠b:=by
 intro e;subst e;rw[h]at h';cases h'
section
variable(P:aP)(w:bA)
def eJ(H:Hp)(h:bV)(a:av):HO->Prop
 |.lst xs=>xs.length<=sizeLine/\∃(its:List ai)(n:Nat),Vals xs its/\h.get? a=some {cls:=.type "list",data:=.seq its.toArray n}
 |.tup xs=>xs.length<=sizeLine/\∃its:List ai,Vals xs its/\Ic h a its.toArray
 |.dK kvs=>kvs.length<=sizeLine/\(a==sysModules)=false/\∃vs,KV kvs vs/\h.DictOf (dA P w) a vs
 |.dT kvs=>kvs.length<=sizeLine/\(a==sysModules)=false/\∃xs:List (List Key×av×ai),
   Paired (λ(p:List Key×V)(q:List Key×av×ai)=>p.1=q.1/\H q.2.1=some (.tup (p.1.map kV))/\RelV p.2 q.2.2) kvs xs /\
   ∃o es ep,h.get? a=some o/\o.ExactDict/\o.data=.dict es ep/\es.toList=xs.map (entryOfKey (tupleKind (dA P w)))/\(xs.map (·.1)).Nodup
 |.own _=>∃o,h.get? a=some o
 |.frz o u=>h.get? a=some o/\eJ H h a u
 |.tbl ps=>h.get? a=some {cls:=.none,data:=.fields ps}
 |.ext φ=>φ h/\(∃o,h.get? a=some o)/\∀h1 h2:bV,φ h1->(∀o,h1.get? a=some o->h2.get? a=some o)->φ h2
def HOk(H:Hp)(h:bV):Prop:=∀a o,H a=some o->eJ P w H h a o
end
section
variable{P:aP}{w:bA}{H H':Hp}{h h':bV}{a:av}{o:HO}
def eJ.lt(x:eJ P w H h a o):a<h.objs.size:=by
 cases o with
 |lst xs=>obtain⟨_,_,_,_,e⟩:=x;exact aJ e
 |tup xs=>obtain⟨_,_,_,p⟩:=x;exact p.lt
 |dK kvs=>obtain⟨_,_,_,_,o,_,_,e,_⟩:=x;exact aJ e
 |dT kvs=>obtain⟨_,_,_,_,o,_,_,e,_⟩:=x;exact aJ e
 |own y=>obtain⟨_,e⟩:=x;exact aJ e
 |frz ob u=>obtain⟨e,_⟩:=x;exact aJ e
 |tbl ps=>exact aJ (show h.get? a=some _ from x)
 |ext φ=>obtain⟨_,⟨_,e⟩,_⟩:=x;exact aJ e
def Paired.mapP{α β:Type}{F G:α->β->Prop}:∀{l₁:List α}{l₂:List β},Paired F l₁ l₂->(∀a b,F a b->G a b)->Paired G l₁ l₂
 |_,_,.nil,_=>.nil
 |_,_,.cons r t,f=>.cons (f _ _ r) (Paired.mapP t f)
def eJ.stay(x:eJ P w H h a o)(k:∀b u,(b=a\/H b=some (.own a))->h.get? b=some u->h'.get? b=some u)
 (ho:∀b,H b=some (.own a)->H' b=some (.own a))(ht:∀b xs,H b=some (.tup xs)->H' b=some (.tup xs)):eJ P w H' h' a o:=by
 induction o with
 |lst xs=>obtain⟨z,its,n,r,e⟩:=x;exact⟨z,its,n,r,k _ _ (.inl rfl) e⟩
 |tup xs=>obtain⟨z,its,r,ob,e,c⟩:=x;exact⟨z,its,r,ob,k _ _ (.inl rfl) e,c⟩
 |dK kvs=>obtain⟨z,y,vs,r,ob,es,ep,e,c⟩:=x;exact⟨z,y,vs,r,ob,es,ep,k _ _ (.inl rfl) e,c⟩
 |dT kvs =>
  obtain⟨z,y,xs,r,ob,es,ep,e,c⟩:=x
  exact⟨z,y,xs,Paired.mapP r λp q z=>⟨z.1,ht _ _ z.2.1,z.2.2⟩,ob,es,ep,k _ _ (.inl rfl) e,c⟩
 |own y=>obtain⟨ob,e⟩:=x;exact⟨ob,k _ _ (.inl rfl) e⟩
 |frz ob u ih=>obtain⟨e,q⟩:=x;exact⟨k _ _ (.inl rfl) e,ih q⟩
 |tbl ps =>
  have e:h.get? a=some {cls:=.none,data:=.fields ps}:=x;show h'.get? a=some {cls:=.none,data:=.fields ps}
  exact k a _ (.inl rfl) e
 |ext φ=>obtain⟨p,⟨o,e⟩,st⟩:=x;exact⟨st _ _ p λo q=>k _ _ (.inl rfl) q,⟨o,k _ _ (.inl rfl) e⟩,st⟩
def HOk.lt(x:HOk P w H h)(e:H a=some o):a<h.objs.size:=(x a o e).lt
def HOk.fresh(x:HOk P w H h)(e:h.objs.size<=a):H a=none:=by
 cases q:H a with
 |none=>rfl
 |some u=>exact absurd (aK (x.lt q) e) (cV _)
def HOk.kept(x:HOk P w H h)(k:∀b u,h.get? b=some u->h'.get? b=some u):HOk P w H h':=λa o e =>
 (x a o e).stay (λb u _ q=>k b u q) (λ_ q=>q) λ_ _ q=>q
def HOk.laid(x:HOk P w H h)(k:∀b u,h.get? b=some u->h'.get? b=some u)(hp:h.objs.size<=a)(new:eJ P w (upd H a o) h' a o):HOk P w (upd H a o) h':=λb u e=>by
 have hn:=x.fresh hp;by_cases hb:b=a
 .subst hb;rw[bI]at e;cases e;exact new
 .rw[bD hb]at e;exact(x b u e).stay (λc v _ q=>k c v q) (λc q=>by rw[bD (gm q hn)];exact q) λc xs q=>by rw[bD (gm q hn)];exact q
end
def Rd(H:Hp)(a:av)(u:HO):Prop:=H a=some u\/∃o,H a=some (.frz o u)
def Rd.ok{P:aP}{w:bA}{H:Hp}{h:bV}{a:av}{u:HO}(r:Rd H a u)(x:HOk P w H h):eJ P w H h a u:=by
 rcases r with r|⟨o,r⟩
 .exact x a u r
 .obtain⟨_,q⟩:=x a _ r;exact q
def Mut:Option HO->Prop
 |some (.lst _)=>True
 |some (.dK _)=>True
 |some (.dT _)=>True
 |some (.ext _)=>True
 |_=>False
section
variable{P:aP}{w:bA}{H:Hp}{h h':bV}{x e:av}{o':HO}
def HOk.write(ok:HOk P w H h)(mu:Mut (H x))(he:e=x\/H e=some (.own x))(k:∀b u,b≠e->h.get? b=some u->h'.get? b=some u)(heo:∃u,h'.get? e=some u)
 (new:eJ P w (upd H x o') h' x o'):HOk P w (upd H x o') h':=λb u q=>by
 have nown:∀c y,H c=some (.own y)->c≠x:=λc y r z=>by subst z;rw[r]at mu;exact mu
 have ntup:∀c xs,H c=some (.tup xs)->c≠x:=λc xs r z=>by subst z;rw[r]at mu;exact mu
 by_cases hb:b=x
 .subst hb;rw[bI]at q;cases q;exact new
 .rw[bD hb]at q;by_cases hbe:b=e
  .have q':H b=some (.own x):=by
    rcases he with z|z
    .exact absurd (hbe.trans z) hb
    .rw[hbe];exact z
   rw[q]at q';cases q';obtain⟨v,hv⟩:=heo;exact⟨v,by rw[hbe];exact hv⟩
  .refine(ok b u q).stay (λc v hc r=>k c v ?_ r) (λc r=>by rw[bD (nown c b r)];exact r) λc xs r=>by rw[bD (ntup c xs r)];exact r
   rcases hc with rfl|hc
   .exact hbe
   .rintro rfl;rcases he with z|z
    .exact nown c b hc z
    .rw[hc]at z;cases z;exact hb rfl
end
structure Un(fs ex:List av)(H H':Hp)(h h':bV):Prop where
 keep:∀b o,h.get? b=some o->H b=none->b∉fs->b∉ex->h'.get? b=some o
 slot:∀b o,h.get? b=some o->H b=none->b∈fs->b∉ex->∃sl,h'.get? b=some {o with slots:=sl}
 free:∀b o,h.get? b=some o->H b=none->b∉ex->H' b=none
 there:∀b o,h.get? b=some o->b∉ex->∃o',h'.get? b=some o'
 tups:∀b xs,H b=some (.tup xs)->H' b=some (.tup xs)
 frzs:∀b o u,H b=some (.frz o u)->H' b=some (.frz o u)
 tbls:∀b ps,H b=some (.tbl ps)->∃more,H' b=some (.tbl (ps++more))
section
variable{fs fs' ex ex':List av}{H H1 H2:Hp}{h h1 h2 h':bV}{a x e:av}{o:HO}
def Un.any(u:Un fs ex H H1 h h1)(q:h.get? b=some ob)(n:H b=none)(hx:b∉ex):∃sl,h1.get? b=some {ob with slots:=sl}:=by
 by_cases hb:b∈fs
 .exact u.slot b ob q n hb hx
 .exact⟨ob.slots,u.keep b ob q n hb hx⟩
def Un.kept(k:∀b u,h.get? b=some u->h'.get? b=some u):Un fs ex H H h h' :=
 ⟨λb ob q _ _ _=>k b ob q,λb ob q _ _ _=>⟨ob.slots,k b ob q⟩,λ_ _ _ n _=>n,λb ob q _=>⟨ob,k b ob q⟩,λ_ _ q=>q,λ_ _ _ q=>q,λ_ ps q=>⟨#[],by rw[q];simp⟩⟩
def Un.refl:Un fs ex H H h h:=Un.kept λ_ _ q=>q
def Un.laid(k:∀b u,h.get? b=some u->h'.get? b=some u)(hp:h.objs.size<=a)(hn:H a=none):Un fs ex H (upd H a o) h h' where
 keep:=λb u q _ _ _=>k b u q
 slot:=λb u q _ _ _=>⟨u.slots,k b u q⟩
 free:=λb u q n _=>by rw[bD (aS (aK (aJ q) hp))];exact n
 there:=λb u q _=>⟨u,k b u q⟩
 tups:=λb xs q=>by rw[bD (gm q hn)];exact q
 frzs:=λb u xs q=>by rw[bD (gm q hn)];exact q
 tbls:=λb ps q=>⟨#[],by rw[bD (gm q hn),q];simp⟩
def Un.write(mu:Mut (H x))(he:e=x\/H e=some (.own x))(k:∀b u,b≠e->h.get? b=some u->h'.get? b=some u)(heo:∃u,h'.get? e=some u):Un fs ex H (upd H x o) h h':=by
 have hx:∀b,H b=none->b≠x:=λb n z=>by subst z;rw[n]at mu;exact mu
 have hb:∀b,H b=none->b≠e:=λb n z=>by
  subst z;rcases he with r|r
  .exact hx b n r
  .rw[n]at r;cases r
 have hm:∀b u,H b=some u->¬Mut (some u)->b≠x:=λb u q nm z=>by subst z;rw[q]at mu;exact nm mu
 refine⟨λb u q n _ _=>k b u (hb b n) q,λb u q n _ _=>⟨u.slots,k b u (hb b n) q⟩,λb u q n _=>by rw[bD (hx b n)];exact n,λb u q _=>?_,
  λb xs q=>by rw[bD (hm b _ q λz=>z)];exact q,λb u xs q=>by rw[bD (hm b _ q λz=>z)];exact q,λb ps q=>⟨#[],by rw[bD (hm b _ q λz=>z),q];simp⟩⟩
 by_cases hbe:b=e
 .subst hbe;exact heo
 .exact⟨u,k b u hbe q⟩
end
def trk(h:bV)(H:Hp):List av:=(dW h.objs.size).filter λa=>(H a).isSome
def qk(h:bV)(H:Hp):bV:=PySem.W.hideAll h (trk h H)
def zW(h:bV)(H:Hp):(qk h H).objs.size=h.objs.size:=PySem.W.hideAll_size _ _
def DJ(e:h.get? b=some o)(n:H b=none):(qk h H).get? b=some o :=
 PySem.W.hideAll_get _ e λhm=>by
  have q:(H b).isSome=true:=(Ia.mp hm).2;rw[n]at q;simp at q
def GQ(e:(qk h H).get? b=some o):h.get? b=some o/\H b=none:=by
 have e':h.get? b=some o:=PySem.W.of_hideAll (trk h H) e;refine⟨e',?_⟩
 cases q:H b with
 |none=>rfl
 |some x =>
  have hm:b∈trk h H:=Ia.mpr ⟨gf.mpr (aJ e'),by simp[q]⟩;have z:(qk h H).get? b=none:=PySem.W.hideAll_none (trk h H) hm;rw[z]at e;cases e
end L2
namespace L2
open PySem PySem.Spec PyProof.Rows
structure Mod(K:PySem.W.Frag)(mg:Str->Option ai)(base:bV):Prop where
 kin:K.In base
 glob:base.Ns mainGlobals mg
 blt:∃mb,base.Ns builtinsNs mb/\∀x:Str,x≠"__name__"->mb x=bootBuiltins x
 nolimit:base.NoLimit
structure Cx where
 prog:aP
 w:bA
 K:PySem.W.Frag
 mg:Str->Option ai
 base:bV
 A:bB
 N:List Str
 s₀:au
 H₀:Hp
 env:Env
 outer:List Env
 stack:List Env
 ex:List av
 fn:Str->Bool
 calm:Bool
 pn:List (av×Obj)
 xe:ai->au->Prop
def frs(l:List Env):List av:=l.filterMap (·.frame)
noncomputable abbrev Cx.fs(X:Cx):List av:=frs X.outer
def Vis(sc:dO)(x:Str):Prop:=sc.names.lookup x=some .local\/sc.names.lookup x=some .cell\/sc.names.lookup x=some .free
def Loc(sc:dO)(x:Str):Prop:=sc.names.lookup x=some .local\/sc.names.lookup x=some .cell
def Look(env:Env)(h:bV)(m:Str->Option ai)(x:Str)(u:ai):Prop :=
 (env.kindOf x=some .local/\m x=some u)\/((env.kindOf x=some .cell\/env.kindOf x=some .free)/\∃c,env.cells.lookup x=some c/\h.IsCell c (some u))
structure Cx.Ok(X:Cx):Prop where
 mod:Mod X.K X.mg X.base
 kind:X.env.scope.kind=.function
 glob:X.env.globals=mainGlobals
 blt:X.env.builtins=builtinsNs
 above:X.s₀.heap.objs.size<=X.env.locals
 inj:∀x y c,X.env.cells.lookup x=some c->X.env.cells.lookup y=some c->x=y
 has:∀x,(X.env.kindOf x=some .cell\/X.env.kindOf x=some .free)->∃c,X.env.cells.lookup x=some c
 cab:∀x c,X.fn x=true->X.env.cells.lookup x=some c->X.s₀.heap.objs.size<=c
 hd:X.calm=true->X.A.handled=none
 frames:X.A.frames=some X.stack
 stk:X.stack=X.outer\/(X.stack=X.env::X.outer/\X.env.frame=some X.env.locals)
 exf:∀b∈X.ex,b≠X.env.locals/\∀x c,X.env.cells.lookup x=some c->c≠b
 bs:∀b o,X.base.get? b=some o->X.s₀.heap.get? b=some o/\X.H₀ b=none
 bsz:X.base.objs.size<=X.s₀.heap.objs.size
 noex:∀b o,X.base.get? b=some o->b∉X.ex
 exfs:∀b∈X.ex,b∉X.fs
 funs:X.s₀.heap.FunFrames X.base X.outer
 frf:∀b∈X.fs,X.H₀ b=none
structure Inv(X:Cx)(pins:List (av×Obj))(σ:List (Option V))(H:Hp)(s:au):Prop where
 ok:X.Ok
 os:s.os=X.s₀.os
 bare:jR s.gens
 base:Un X.fs X.ex X.H₀ H X.s₀.heap s.heap
 loc:∃m,s.heap.Ns X.env.locals m/\∀(i:Nat)(x:Str)(v:V),X.N[i]?=some x->σ[i]?=some (some v)->Vis X.env.scope x->∃u,RelV v u/\Look X.env s.heap m x u
 cell:∀x c,X.env.cells.lookup x=some c->∃v,s.heap.IsCell c v
 free:H X.env.locals=none
 freeC:∀x c,X.env.cells.lookup x=some c->H c=none
 pin:∀p∈X.pn++pins,s.heap.get? p.1=some p.2/\H p.1=none/\p.1≠X.env.locals/\p.1∉X.fs/\∀v,p.2.data≠.cell v
 hok:HOk X.prog X.w H s.heap
 len:σ.length=X.N.length
section
variable{X:Cx}{pins:List (av×Obj)}{σ:List (Option V)}{H H':Hp}{s:au}{h':bV}
def Cx.Ok.nofr(ok:X.Ok)(e:X.base.get? b=some o):b∉X.fs:=λhb=>by
 have:=(ok.funs.mem hb).1;rw[e]at this;cases this
def Inv.bs(I:Inv X pins σ H s):∀b o,X.base.get? b=some o->s.heap.get? b=some o/\H b=none:=λb o e =>
 ⟨I.base.keep b o (I.ok.bs b o e).1 (I.ok.bs b o e).2 (I.ok.nofr e) (I.ok.noex b o e),I.base.free b o (I.ok.bs b o e).1 (I.ok.bs b o e).2 (I.ok.noex b o e)⟩
def Inv.bk(I:Inv X pins σ H s):∀b o,X.base.get? b=some o->s.heap.get? b=some o:=λb o e=>(I.bs b o e).1
def Inv.mod(I:Inv X pins σ H s):Mod X.K X.mg X.base:=I.ok.mod
def Inv.kIn(I:Inv X pins σ H s):X.K.In s.heap:=I.ok.mod.kin.keeps I.bk
def Inv.lt(I:Inv X pins σ H s):X.env.locals<s.heap.objs.size:=let⟨_,hn,_⟩:=I.loc;hn.lt
def Inv.sz(I:Inv X pins σ H s):X.s₀.heap.objs.size<=s.heap.objs.size:=aX I.ok.above (cG I.lt)
def Inv.nofs(I:Inv X pins σ H s)(h:s.heap.objs.size<=a):a∉X.fs:=λhb=>by
 obtain⟨_,o,ho,_⟩:=I.ok.funs.mem hb;exact absurd (aK (aJ ho) (aX I.sz h)) (cV _)
def Inv.cne(I:Inv X pins σ H s):∀x c,X.env.cells.lookup x=some c->c≠X.env.locals:=λx c e z=>by
 obtain⟨v,o,ho,hd⟩:=I.cell x c e;obtain⟨m,⟨o',es,ep,ho',hd',_⟩,_⟩:=I.loc;rw[z,ho']at ho;cases ho;rw[hd']at hd;cases hd
def Inv.funs(I:Inv X pins σ H s):s.heap.FunFrames X.base X.outer:=by
 have all:∀(l:List Env),(∀b∈frs l,b∈X.fs)->X.s₀.heap.FunFrames X.base l->s.heap.FunFrames X.base l:=by
  intro l
  induction l with
  |nil=>intro _ _;trivial
  |cons env r ih =>
   intro hs hl;obtain⟨hk,⟨L,o,hf,hn,ho,hd⟩,hr⟩:=hl;have hL:L∈X.fs:=hs L (by unfold frs;rw[bt,hf];exact ay);obtain⟨sl,e⟩:=I.base.slot L o ho (I.ok.frf L hL) hL λz=>I.ok.exfs L z hL;exact⟨hk,⟨L,_,hf,hn,e,hd⟩,ih (λb hb=>hs b (by unfold frs;rw[bt,hf];exact ao _ hb)) hr⟩
 exact all X.outer (λ_ hb=>hb) I.ok.funs
def Inv.stack(I:Inv X pins σ H s):s.heap.FunFrames X.base X.stack:=by
 rcases I.ok.stk with e|⟨e,hf⟩
 .rw[e];exact I.funs
 .rw[e];obtain⟨m,hn,_⟩:=I.loc;refine .cons (by rw[I.ok.kind];decide) hf hn ?_ I.funs;exact kZ (aX I.ok.bsz I.ok.above)
def Inv.stkSub(I:Inv X pins σ H s):∀b∈frs X.stack,b∈X.env.locals::X.fs:=λb hb=>by
 rcases I.ok.stk with e|⟨e,hf⟩
 .rw[e]at hb;exact ao _ hb
 .rw[e]at hb;unfold frs at hb;rw[bt,hf]at hb;exact hb
def Inv.stkFree(I:Inv X pins σ H s):∀b∈frs X.stack,H b=none:=λb hb=>by
 rcases aA.mp (I.stkSub b hb)with e|hb
 .rw[e];exact I.free
 .obtain⟨_,o,ho,_⟩:=I.ok.funs.mem hb;exact I.base.free b o ho (I.ok.frf b hb) λz=>I.ok.exfs b z hb
def Inv.step{g':Array xK}{t':Nat}{d':Drawn}{ch:List av}(I:Inv X pins σ H s)
 (hch:∀b∈ch,(b∈X.ex\/X.s₀.heap.objs.size<=b)/\b≠X.env.locals/\(∀x c,X.env.cells.lookup x=some c->c≠b)/\∀p∈X.pn++pins,p.1≠b)
 (keep:∀b o,b≠X.env.locals->b∉X.fs->b∉ch->s.heap.get? b=some o->H b=none->h'.get? b=some o)
 (slot:∀b o,b≠X.env.locals->b∈X.fs->b∉ch->s.heap.get? b=some o->H b=none->∃sl,h'.get? b=some {o with slots:=sl})(free:∀b o,b∉ch->s.heap.get? b=some o->H b=none->H' b=none)
 (there:∀b o,b∉ch->s.heap.get? b=some o->∃o',h'.get? b=some o')
 (tups:∀b xs,H b=some (.tup xs)->H' b=some (.tup xs))(frzs:∀b o u,H b=some (.frz o u)->H' b=some (.frz o u))(tbls:∀b ps,H b=some (.tbl ps)->∃more,H' b=some (.tbl (ps++more)))
 (ns:∀m,s.heap.Ns X.env.locals m->h'.Ns X.env.locals m)(hok:HOk X.prog X.w H' h')(hg:jR g') :
 Inv X pins σ H' {s with heap:=h',gens:=g',drawn:=d',toks:=t'}:=by
 have neL:∀b o,X.s₀.heap.get? b=some o->b≠X.env.locals:=λb o e=>aS (aK (aJ e) I.ok.above)
 have neC:∀b o,X.s₀.heap.get? b=some o->b∉X.ex->b∉ch:=λb o e hx hb=>by
  rcases(hch b hb).1 with z|z
  .exact hx z
  .exact absurd (aK (aJ e) z) (cV _)
 have cellK:∀x c,X.env.cells.lookup x=some c->∀v,s.heap.IsCell c v->h'.IsCell c v:=λx c e v zz=>by
  obtain⟨o,ho,hd⟩:=zz;have nch:c∉ch:=λz=>(hch c z).2.2.1 x c e rfl;by_cases hc:c∈X.fs
  .obtain⟨sl,q⟩:=slot c o (I.cne x c e) hc nch ho (I.freeC x c e);exact⟨_,q,hd⟩
  .exact⟨o,keep c o (I.cne x c e) hc nch ho (I.freeC x c e),hd⟩
 refine⟨I.ok,I.os,hg,⟨λb o e n hb hx=>?_,λb o e n hb hx=>?_,λb o e n hx=>?_,λb o e hx=>?_,λb xs e=>tups b xs (I.base.tups b xs e),λb o xs e=>frzs b o xs (I.base.frzs b o xs e),λb ps e=>?_⟩,?_,λx c e=>?_,?_,λx c e=>?_,λp hp=>?_,hok,I.len⟩
 .exact keep b o (neL b o e) hb (neC b o e hx) (I.base.keep b o e n hb hx) (I.base.free b o e n hx)
 .obtain⟨sl,e1⟩:=I.base.slot b o e n hb hx;obtain⟨sl',e2⟩:=slot b _ (neL b o e) hb (neC b o e hx) e1 (I.base.free b o e n hx);exact⟨sl',e2⟩
 .obtain⟨o',e1⟩:=I.base.there b o e hx;exact free b o' (neC b o e hx) e1 (I.base.free b o e n hx)
 .obtain⟨o',e1⟩:=I.base.there b o e hx;exact there b o' (neC b o e hx) e1
 .obtain⟨m1,e1⟩:=I.base.tbls b ps e;obtain⟨m2,e2⟩:=tbls b _ e1;exact⟨m1++m2,by rw[e2,Array.append_assoc]⟩
 .obtain⟨m,hn,hl⟩:=I.loc;refine⟨m,ns m hn,λi x v e1 e2 e3=>?_⟩;obtain⟨u,r,l⟩:=hl i x v e1 e2 e3;refine⟨u,r,?_⟩;rcases l with l|⟨k,c,e,z⟩
  .exact .inl l
  .exact .inr ⟨k,c,e,cellK x c e _ z⟩
 .obtain⟨v,z⟩:=I.cell x c e;exact⟨v,cellK x c e v z⟩
 .obtain⟨m,⟨o,_,_,ho,_⟩,_⟩:=I.loc;exact free _ o (λz=>(hch _ z).2.1 rfl) ho I.free
 .obtain⟨v,o,ho,hd⟩:=I.cell x c e;exact free c o (λz=>(hch c z).2.2.1 x c e rfl) ho (I.freeC x c e)
 .obtain⟨e,n,ne,nf,d⟩:=I.pin p hp;have nch:p.1∉ch:=λz=>(hch p.1 z).2.2.2 p hp rfl;exact⟨keep p.1 p.2 ne nf nch e n,free p.1 p.2 nch e n,ne,nf,d⟩
def Inv.un{t':Nat}(I:Inv X pins σ H s)(u:Un X.fs [] H H' s.heap h')(hok:HOk X.prog X.w H' h'):Inv X pins σ H' {s with heap:=h',toks:=t'}:=by
 obtain⟨m,⟨o,es,ep,ho,r⟩,_⟩:=id I.loc;obtain⟨sl,hL⟩:=u.any ho I.free ↥0
 exact I.step (g':=s.gens) (d':=s.drawn) (ch:=[]) (λ_ z=>nomatch z) (λb o _ hb _ e n=>u.keep b o e n hb ↥0) (λb o _ hb _ e n=>u.slot b o e n hb ↥0) (λb o _ e n=>u.free b o e n ↥0) (λb o _ e=>u.there b o e ↥0) u.tups u.frzs u.tbls (λm' hm=>by
  obtain⟨o',es',ep',ho',r'⟩:=hm;rw[ho]at ho';cases ho';exact⟨_,es',ep',hL,r'⟩) hok I.bare
def Inv.call{g':Array xK}{t':Nat}{d':Drawn}{ch:List av}(I:Inv X pins σ H s)(u:Un (frs X.stack) ch H H' s.heap h')(hok:HOk X.prog X.w H' h')(hg:jR g')
 (hch:∀b∈ch,(b∈X.ex\/X.s₀.heap.objs.size<=b)/\b≠X.env.locals/\(∀x c,X.env.cells.lookup x=some c->c≠b)/\∀p∈X.pn++pins,p.1≠b) :
 Inv X pins σ H' {s with heap:=h',gens:=g',drawn:=d',toks:=t'}:=by
 obtain⟨m,⟨o,es,ep,ho,r⟩,_⟩:=id I.loc;obtain⟨sl,hL⟩:=u.any ho I.free λz=>(hch _ z).2.1 rfl
 exact I.step (ch:=ch) hch (λb o hL hb hc e n=>u.keep b o e n (λz=>(aA.mp (I.stkSub b z)).elim hL hb) hc) (λb o _ _ hc e n=>u.any e n hc) (λb o hc e n=>u.free b o e n hc) (λb o hc e=>u.there b o e hc) u.tups u.frzs u.tbls (λm' hm=>by
  obtain⟨o',es',ep',ho',r'⟩:=hm;rw[ho]at ho';cases ho';exact⟨_,es',ep',hL,r'⟩) hok hg
def Inv.turned{t':Nat}{it:av}(I:Inv X pins σ H s)(k:∀b o,b≠it->s.heap.get? b=some o->h'.get? b=some o)(hn:H it=none)(hL:it≠X.env.locals)
 (h1:it∈X.ex\/X.s₀.heap.objs.size<=it)(h2:∀x c,X.env.cells.lookup x=some c->c≠it)(h3:∀p∈X.pn++pins,p.1≠it):Inv X pins σ H {s with heap:=h',toks:=t'}:=by
 have nit:∀b u,H b=some u->b≠it:=λb u e z=>by rw[z,hn]at e;cases e
 refine I.step (g':=s.gens) (d':=s.drawn) (ch:=[it]) (λb hb=>?_) (λb o _ _ hc e _=>k b o (λz=>hc (by simp[z])) e) (λb o _ _ hc e _=>⟨o.slots,k b o (λz=>hc (by simp[z])) e⟩) (λ_ _ _ _ n=>n)
  (λb o hc e=>⟨o,k b o (λz=>hc (by simp[z])) e⟩) (λ_ _ e=>e) (λ_ _ _ e=>e) (λb ps e=>⟨#[],by rw[e];simp⟩) (λm hm=>?_) (λb u e=>?_) I.bare
 .have e:b=it:=by simpa using hb
  subst e;exact⟨h1,hL,h2,h3⟩
 .obtain⟨o,es,ep,ho,r⟩:=hm;exact⟨o,es,ep,k _ o (Ne.symm hL) ho,r⟩
 .refine(I.hok b u e).stay (λc v hc q=>k c v ?_ q) (λ_ q=>q) λ_ _ q=>q;rcases hc with z|z
  .rw[z];exact nit b u e
  .exact nit c _ z
def Inv.tok(I:Inv X pins σ H s)(t:Nat):Inv X pins σ H {s with toks:=t}:=I.un (h':=s.heap) (t':=t) Un.refl I.hok
def Inv.kept{t':Nat}(I:Inv X pins σ H s)(k:∀b u,s.heap.get? b=some u->h'.get? b=some u):Inv X pins σ H {s with heap:=h',toks:=t'}:=I.un (Un.kept k) (I.hok.kept k)
def Inv.laid{a:av}{o:HO}{t':Nat}(I:Inv X pins σ H s)(k:∀b u,s.heap.get? b=some u->h'.get? b=some u)(hp:s.heap.objs.size<=a)(new:eJ X.prog X.w (upd H a o) h' a o) :
 Inv X pins σ (upd H a o) {s with heap:=h',toks:=t'}:=I.un (Un.laid k hp (I.hok.fresh hp)) (I.hok.laid k hp new)
def Inv.write(I:Inv X pins σ H s)(mu:Mut (H x))(he:e=x\/H e=some (.own x))(k:∀b u,b≠e->s.heap.get? b=some u->h'.get? b=some u)(heo:∃u,h'.get? e=some u)
 (new:eJ X.prog X.w (upd H x o) h' x o):Inv X pins σ (upd H x o) {s with heap:=h',toks:=t'}:=I.un (Un.write mu he k heo) (I.hok.write mu he k heo new)
def Inv.pins_of(I:Inv X pins σ H s)(h:∀p∈pins',s.heap.get? p.1=some p.2/\H p.1=none/\p.1≠X.env.locals/\p.1∉X.fs/\∀v,p.2.data≠.cell v):Inv X pins' σ H s :=
 ⟨I.ok,I.os,I.bare,I.base,I.loc,I.cell,I.free,I.freeC,λp hp=>(cc.mp hp).elim (λz=>I.pin p (bY _ z)) (h p),I.hok,I.len⟩
def vc{N:List Str}(hN:N.Nodup){i j:Nat}{x:Str}(a:N[i]?=some x)(b:N[j]?=some x):i=j:=by
 obtain⟨h1,e1⟩:=aF.mp a;obtain⟨h2,e2⟩:=aF.mp b;exact(List.getElem_inj hN).mp (e1.trans e2.symm)
def zA{M:Model}{A:bB}{E:ai->au->Prop}{i:Nat}{x:Str}{v:V}{u:ai}{Q:Unit->au->Prop}(I:Inv X pins σ H s)(hN:X.N.Nodup)(hi:X.N[i]?=some x)(hx:Loc X.env.scope x)(r:RelV v u)
 (h:∀s',Inv X pins (σ.set i (some v)) H s'->(∃a,jQ a s.heap s'.heap/\(a=X.env.locals\/X.env.cells.lookup x=some a))->Q () s')(hf:X.fn x=true\/X.env.scope.names.lookup x=some .local:=by first|exact .inl rfl|exact .inr rfl|assumption):wpAny M A (storeName X.env x u) Q E s:=by
 obtain⟨m,hn,hl⟩:=id I.loc;have hcls:(X.env.scope.kind==.class||(X.env.scope.kind==.module&&X.env.locals != X.env.globals))=false:=by rw[I.ok.kind];rfl
 have hiσ:i<σ.length:=by rw[I.len];exact(aF.mp hi).1
 have cne:=I.cne
 have tracked:∀{a:av}{h':bV},(∃o,s.heap.get? a=some o/\H a=none)->jQ a s.heap h'->HOk X.prog X.w H h':=λ{a h'}ha hs b ob e=>by
  obtain⟨_,_,hfree⟩:=ha;refine(I.hok b ob e).stay (λc w' hc q=>(hs.2 c ?_).trans q) (λ_ q=>q) λ_ _ q=>q;rintro rfl;rcases hc with rfl|hc
  .rw[hfree]at e;cases e
  .rw[hfree]at hc;cases hc
 rcases hx with hk|hk
 .refine wpAny_storeName_local hk hn (λh' hn' hs=>?_) hcls;obtain⟨oL,_,_,hoL,_⟩:=id hn;refine h _ ⟨I.ok,I.os,I.bare,⟨λb o e n hb hx=>?_,λb o e n hb hx=>?_,I.base.free,λb o e hx=>?_,I.base.tups,I.base.frzs,I.base.tbls⟩,⟨_,hn',λj y v' e1 e2 e3=>?_⟩,λy c e=>?_,I.free,I.freeC,λp hp=>?_,tracked ⟨oL,hoL,I.free⟩ hs,by simpa using I.len⟩ ⟨_,hs,.inl rfl⟩
  .exact(hs.2 b (aS (aK (aJ e) I.ok.above))).trans (I.base.keep b o e n hb hx)
  .obtain⟨sl,e1⟩:=I.base.slot b o e n hb hx;exact⟨sl,(hs.2 b (aS (aK (aJ e) I.ok.above))).trans e1⟩
  .obtain⟨o',e1⟩:=I.base.there b o e hx;exact⟨o',(hs.2 b (aS (aK (aJ e) I.ok.above))).trans e1⟩
  .by_cases hj:j=i
   .subst hj;rw[hi]at e1;cases e1;rw[bG hiσ]at e2;cases e2;exact⟨u,r,.inl ⟨hk,↥0⟩⟩
   .rw[aM (Ne.symm hj)]at e2;obtain⟨u',r',q⟩:=hl j y v' e1 e2 e3;refine⟨u',r',?_⟩;rcases q with⟨k,e⟩|⟨k,c,e,z⟩
    .refine .inl ⟨k,?_⟩;have:y≠x:=λe=>hj (vc hN e1 (e▸hi));simp[this,e]
    .exact .inr ⟨k,c,e,z.sameBut hs (cne y c e)⟩
  .obtain⟨w',z⟩:=I.cell y c e;exact⟨w',z.sameBut hs (cne y c e)⟩
  .obtain⟨e,n,ne,nf,d⟩:=I.pin p hp;exact⟨(hs.2 p.1 ne).trans e,n,ne,nf,d⟩
 .have hfn:X.fn x=true:=by
   rcases hf with z|z
   .exact z
   .rw[z]at hk;cases hk
  obtain⟨c,hc⟩:=I.ok.has x (.inl hk);obtain⟨w',z⟩:=I.cell x c hc;refine wpAny_storeName_cell I.ok.kind hk hc z (λh' hc' hs=>?_);obtain⟨oc,hoc,hocd⟩:=id z;refine h {s with heap:=h'} ⟨I.ok,I.os,I.bare,⟨λb o e n hb hx=>?_,λb o e n hb hx=>?_,I.base.free,λb o e hx=>?_,I.base.tups,I.base.frzs,I.base.tbls⟩,⟨m,hn.sameBut hs (Ne.symm (cne x c hc)),λj y v' e1 e2 e3=>?_⟩,λy c' e=>?_,I.free,I.freeC,λp hp=>?_,tracked ⟨oc,hoc,I.freeC x c hc⟩ hs,by simpa using I.len⟩ ⟨c,hs,.inr hc⟩
  .exact(hs.2 b (aS (aK (aJ e) (I.ok.cab x c hfn hc)))).trans (I.base.keep b o e n hb hx)
  .obtain⟨sl,e1⟩:=I.base.slot b o e n hb hx;exact⟨sl,(hs.2 b (aS (aK (aJ e) (I.ok.cab x c hfn hc)))).trans e1⟩
  .obtain⟨o',e1⟩:=I.base.there b o e hx;exact⟨o',(hs.2 b (aS (aK (aJ e) (I.ok.cab x c hfn hc)))).trans e1⟩
  .by_cases hj:j=i
   .subst hj;rw[hi]at e1;cases e1;rw[bG hiσ]at e2;cases e2;exact⟨u,r,.inr ⟨.inl hk,c,hc,hc'⟩⟩
   .rw[aM (Ne.symm hj)]at e2;obtain⟨u',r',q⟩:=hl j y v' e1 e2 e3;refine⟨u',r',?_⟩;rcases q with q|⟨k,c',e,z'⟩
    .exact .inl q
    .refine .inr ⟨k,c',e,z'.sameBut hs ?_⟩;rintro rfl;exact hj (vc hN e1 (I.ok.inj _ _ _ e hc▸hi))
  .by_cases hcc:c'=c
   .subst hcc;exact⟨_,hc'⟩
   .obtain⟨w2,z2⟩:=I.cell y c' e;exact⟨w2,z2.sameBut hs hcc⟩
  .obtain⟨e,n,ne,nf,d⟩:=I.pin p hp;refine⟨(hs.2 p.1 ?_).trans e,n,ne,nf,d⟩;intro q;rw[q,hoc]at e;have q':oc=p.2:=bT e;exact d w' (by rw[<- q'];exact hocd)
def ia(I:Inv X pins σ H s)(hN:X.N.Nodup)(hi:X.N[i]?=some x)(hx:Loc X.env.scope x)(r:RelV v u)
 (h:∀s',Inv X pins (σ.set i (some v)) H s'->Q () s')(hf:X.fn x=true\/X.env.scope.names.lookup x=some .local:=by first|exact .inl rfl|exact .inr rfl|assumption):wpAny M A (storeName X.env x u) Q E s :=
 zA I hN hi hx r (λs' I' _=>h s' I') hf
def Inv.call'(I:Inv X pins σ H s)(ho:s'.os=s.os)(u:Un (frs X.stack) ch H H' s.heap s'.heap)(hok:HOk X.prog X.w H' s'.heap)(hg:jR s'.gens)
 (hch:∀b∈ch,(b∈X.ex\/X.s₀.heap.objs.size<=b)/\b≠X.env.locals/\(∀x c,X.env.cells.lookup x=some c->c≠b)/\∀p∈X.pn++pins,p.1≠b):Inv X pins σ H' s':=by
 obtain⟨h',g',d',t',o'⟩:=s';have e:o'=s.os:=ho;subst e;exact I.call (g':=g') (t':=t') (d':=d') u hok hg hch
end
abbrev XK:=ai->Option av->Hp->Prop
abbrev St:=List (Option V)
abbrev VK:=V->Hp->Prop
abbrev TE:=St->Hp->VK->Prop
abbrev TT:=St->Hp->(Bool->Hp->Prop)->Prop
abbrev TA:=St->Hp->(List V->Hp->Prop)->Prop
structure Ends where
 nx:St->Hp->Prop
 rt:VK
 bk:St->Hp->Prop:=λ_ _=>False
 ct:St->Hp->Prop:=λ_ _=>False
abbrev TS:=Ends->St->Hp->Prop
def EP(X:Cx)(pins:List (av×Obj))(σ:St)(Q:VK)(u:ai)(s':au):Prop:=∃v H',Inv X pins σ H' s'/\RelV v u/\Q v H'
def TP(X:Cx)(pins:List (av×Obj))(σ:St)(Q:Bool->Hp->Prop)(b:Bool)(s':au):Prop:=∃H',Inv X pins σ H' s'/\Q b H'
def AP(X:Cx)(pins:List (av×Obj))(σ:St)(Q:List V->Hp->Prop)(us:List ai)(s':au):Prop:=∃vs H',Inv X pins σ H' s'/\Vals vs us/\Q vs H'
def SP(X:Cx)(pins:List (av×Obj))(D:Ends)(f:Flow)(s':au):Prop :=
 match f with
 |.next=>∃σ' H',Inv X pins σ' H' s'/\D.nx σ' H'
 |.brk=>∃σ' H',Inv X pins σ' H' s'/\D.bk σ' H'
 |.cont=>∃σ' H',Inv X pins σ' H' s'/\D.ct σ' H'
 |.ret u=>∃v σ' H',Inv X pins σ' H' s'/\RelV v u/\D.rt v H'
def PE(X:Cx)(e:aE)(t:TE):Prop :=
 ∀(pins:List (av×Obj))(s:au)(σ:St)(H:Hp)(Q:VK),Inv X pins σ H s->t σ H Q->wpAny (model X.prog X.w) X.A (eval e X.env) (EP X pins σ Q) X.xe s
def PT(X:Cx)(e:aE)(t:TT):Prop :=
 ∀(pins:List (av×Obj))(s:au)(σ:St)(H:Hp)(Q:Bool->Hp->Prop),Inv X pins σ H s->t σ H Q->wpAny (model X.prog X.w) X.A (isTrue e X.env (eval e X.env)) (TP X pins σ Q) X.xe s
def PW(X:Cx)(e:aE)(t:TT):Prop :=
 ∀(whole:Sem ai)(pins:List (av×Obj))(s:au)(σ:St)(H:Hp)(Q:Bool->Hp->Prop),Inv X pins σ H s->t σ H Q->wpAny (model X.prog X.w) X.A (isTrue e X.env whole) (TP X pins σ Q) X.xe s
def PW.pt{X:Cx}{e:aE}{t:TT}(h:PW X e t):PT X e t:=h _
def PA(X:Cx)(es:List aE)(t:TA):Prop :=
 ∀(pos:Pos)(pins:List (av×Obj))(s:au)(σ:St)(H:Hp)(Q:List V->Hp->Prop),Inv X pins σ H s->t σ H Q->wpAny (model X.prog X.w) X.A (spliced (backTo pos (starEach es X.env))) (AP X pins σ Q) X.xe s
def PS(X:Cx)(st:bE)(t:TS):Prop :=
 ∀(pins:List (av×Obj))(s:au)(σ:St)(H:Hp)(D:Ends),Inv X pins σ H s->t D σ H->wpAny (model X.prog X.w) X.A (exec st X.env) (SP X pins D) X.xe s
def PSs(X:Cx)(st:List bE)(t:TS):Prop :=
 ∀(pins:List (av×Obj))(s:au)(σ:St)(H:Hp)(D:Ends),Inv X pins σ H s->t D σ H->wpAny (model X.prog X.w) X.A (execs st X.env) (SP X pins D) X.xe s
def thn{α:Type}{t:Sem α}{Q Q':α->au->Prop}{M:Model}{A:bB}{E:ai->au->Prop}{s:au}(h:wpAny M A t Q E s)(hQ:∀a s,Q a s->Q' a s):wpAny M A t Q' E s:=cu h hQ λ_ _ x=>x
end L2
namespace L2
open PySem PySem.Spec PyProof.Rows
section
variable{X:Cx}
def wb(i:Nat):TE:=λσ H Q=>∃v,σ[i]?=some (some v)/\Q v H
def tC(v:V):TE:=λ_ H Q=>Q v H
def fH(hN:X.N[i]?=some x)(hv:Vis X.env.scope x)(hd:(x==("__debug__":Str))=false:=by decide)(hcd:(x==("__classdict__":Str))=false:=by decide):PE X (.Name x pos) (wb i):=by
 intro pins s σ H Q I h;obtain⟨v,e,h⟩:=h;obtain⟨m,hn,hl⟩:=I.loc;obtain⟨u,r,l⟩:=hl i x v hN e hv;have fin:EP X pins σ Q u s:=⟨v,H,I,r,h⟩;rcases l with⟨hk,hm⟩|⟨hk,c,hc,hcell⟩
 .exact LZ (HS I.ok.kind hk hn hm fin) hd
 .rcases hk with hk|hk
  .exact LZ (IS I.ok.kind hk hc hcell fin) hd
  .exact LZ (wpAny_loadName_free I.ok.kind hk hc hcell fin hcd) hd
def CJ:PE X (.Constant (.int i) j pos) (tC (.int i)):=λ_ _ _ H _ I h=>wpAny_Constant_int ⟨.int i,H,I.tok _,⟨_,rfl⟩,h⟩
def MS:PE X (.Constant (.bool b) j pos) (tC (.bl b)):=λ_ _ _ H _ I h=>Constant_bool ⟨.bl b,H,I,rfl,h⟩
def Ki:PE X (.Constant .none j pos) (tC .non):=λ_ _ _ H _ I h=>Constant_none ⟨.non,H,I,rfl,h⟩
def wA:PE X (.Constant (.str x) j pos) (tC (.str x)):=λ_ _ _ H _ I h=>Calls.Constant_str ⟨.str x,H,I.tok _,⟨_,rfl⟩,h⟩
def Gl(X:Cx)(x:Str):Prop:=X.env.kindOf x=some .globalImplicit
def kA(I:Inv X pins σ H s)(hg:Gl X x)(hm:X.mg x=some u)(h:Q u s)
 (hd:(x==("__debug__":Str))=false:=by decide):wpAny (model X.prog X.w) X.A (eval (.Name x pos) X.env) Q E s :=
 qx I.ok.kind hg (Calls.loadGlobal_global (by rw[I.ok.glob];exact I.mod.glob.keeps I.bk) hm h) hd
def pG{E:ai->au->Prop}{pins:List (av×Obj)}{s:au}{σ:St}{H:Hp}{x:Str}{u:ai}{pos:Pos}{Q:ai->au->Prop}(I:Inv X pins σ H s)(hg:Gl X x)(hm:X.mg x=none)(hv:bootBuiltins x=some u)(h:Q u s)
 (hn:x≠"__name__":=by decide)(hd:(x==("__debug__":Str))=false:=by decide):wpAny (model X.prog X.w) X.A (eval (.Name x pos) X.env) Q E s:=by
 obtain⟨mb,h1,h2⟩:=I.mod.blt;exact qx I.ok.kind hg (Calls.loadGlobal_builtin (by rw[I.ok.glob];exact I.mod.glob.keeps I.bk) hm (by rw[I.ok.blt];exact h1.keeps I.bk) ((h2 x hn).trans hv) h) hd
def oy(hg:Gl X x)(hm:X.mg x=some u)(r:RelV v u)(hd:(x==("__debug__":Str))=false:=by decide):PE X (.Name x pos) (tC v) :=
 λ_ _ _ H _ I h=>kA I hg hm ⟨v,H,I,r,h⟩ hd
def yt(hg:Gl X x)(hm:X.mg x=none)(hv:bootBuiltins x=some u)(r:RelV v u)(hn:x≠"__name__":=by decide)(hd:(x==("__debug__":Str))=false:=by decide):PE X (.Name x pos) (tC v) :=
 λ_ _ _ H _ I h=>pG I hg hm hv ⟨v,H,I,r,h⟩ hn hd
variable{a b:aE}{ta tb:TE}{pos:Pos}
def PC(X:Cx)(op:ue)(a b:aE)(t:TE):Prop :=
 ∀(pins:List (av×Obj))(s:au)(σ:St)(H:Hp)(Q:VK),Inv X pins σ H s->t σ H Q ->
  wpAny (model X.prog X.w) X.A (eval a X.env) (λv s₁=>wpAny (model X.prog X.w) X.A (eval b X.env) (λu s₂=>wpAny (model X.prog X.w) X.A (compareOp op v u) (EP X pins σ Q) X.xe s₂) X.xe s₁) X.xe s
def NP(ta:TE):TE:=λσ H Q=>ta σ H λx H1=>Q (.bl (decide (x=.non))) H1
def RelV.none_iff(r:RelV x v):(v==jM)=decide (x=.non):=by
 cases x with
 |non=>cases r;rfl
 |bl _=>cases r;rfl
 |int _=>obtain⟨t,rfl⟩:=r;rfl
 |str _=>obtain⟨t,rfl⟩:=r;rfl
 |ref _=>cases r;rfl
 |ty _=>cases r;rfl
def Kl{j pos'}(ha:PE X a ta):PC X .Is a (.Constant .none j pos') (NP ta):=by
 intro pins s σ H Q I h;refine thn (ha pins s σ H _ I h) λv s1 zz=>?_;obtain⟨x,H1,I1,r1,q1⟩:=zz;exact Constant_none (is_none_gen ⟨.bl _,H1,I1,by rw[r1.none_iff];rfl,q1⟩)
def tB(t:TE):TT:=λσ H Q=>t σ H λx H1=>∃c,x=.bl c/\Q c H1
def JW{op:ue}{t:TE}(h:PC X op a b t)(h1:behindInMarks op b=false:=by first|exact nobehind _ ⇑0 ⇑0|rfl):PT X (.Compare a [op] [b] pos) (tB t):=by
 intro pins s σ H Q I hw;refine EL (thn (h pins s σ H _ I hw) λv s1 h1=>thn h1 λu s2 h2=>thn h2 λc s3⟨x,H1,I1,r1,q1⟩=>?_) h1;obtain⟨d,rfl,q⟩:=q1;cases r1;exact bW ⟨H1,I1,q⟩
def wu{e:aE}{t:TE}(h:PE X e t)(he:∀whole,isTrue e X.env whole=(do let v <- whole;standAt e.pos;holding [v] (truthy v)):=by intro _;rfl):PT X e (tB t):=by
 intro pins s σ H Q I hw;refine isTrue_plain (thn (h pins s σ H _ I hw) λv s1⟨x,H1,I1,r1,q1⟩=>?_) (he _);obtain⟨d,rfl,q⟩:=q1;cases r1;exact bW ⟨H1,I1,q⟩
variable{tA tB':TT}{rest:List aE}
def Mz(t u:TT):TT:=λσ H Q=>t σ H λc H1=>if c=true then u σ H1 Q else Q false H1
def tOr(t u:TT):TT:=λσ H Q=>t σ H λc H1=>if c=true then Q true H1 else u σ H1 Q
def NN(t:TT):TT:=λσ H Q=>t σ H λc H1=>Q (!c) H1
def yh(ha:PT X a tA):PW X (.BoolOp .And [a] pos) tA:=by
 intro wh pins s σ H Q I h;refine isTrue_and (thn (ha pins s σ H Q I h) λc s1 e=>?_)
 cases c with
 |true=>exact isTrue_and_nil e
 |false=>exact e
def JU(ha:PT X a tA):PW X (.BoolOp .Or [a] pos) tA:=by
 intro wh pins s σ H Q I h;refine isTrue_or (thn (ha pins s σ H Q I h) λc s1 e=>?_)
 cases c with
 |false=>exact isTrue_or_nil e
 |true=>exact e
def wt(ha:PT X a tA)(hb:PW X (.BoolOp .And (b::rest) pos) tB'):PW X (.BoolOp .And (a::b::rest) pos) (Mz tA tB'):=by
 intro wh pins s σ H Q I h;refine isTrue_and (thn (ha pins s σ H _ I h) λc s1⟨H1,I1,q1⟩=>?_)
 cases c with
 |true=>exact hb wh pins s1 σ H1 Q I1 q1
 |false=>exact⟨H1,I1,q1⟩
def MO(ha:PT X a tA)(hb:PW X (.BoolOp .Or (b::rest) pos) tB'):PW X (.BoolOp .Or (a::b::rest) pos) (tOr tA tB'):=by
 intro wh pins s σ H Q I h;refine isTrue_or (thn (ha pins s σ H _ I h) λc s1⟨H1,I1,q1⟩=>?_)
 cases c with
 |true=>exact⟨H1,I1,q1⟩
 |false=>exact hb wh pins s1 σ H1 Q I1 q1
def JV(ha:PT X a tA):PT X (.UnaryOp .Not a pos) (NN tA):=by
 intro pins s σ H Q I h;exact isTrue_not (ha pins s σ H (λc H1=>Q (!c) H1) I h)
def My(ta tb:TE):TE:=λσ H Q=>ta σ H λx H1=>∃c,x=.bl c/\if c=true then tb σ H1 Q else Q (.bl false) H1
def NM(ta tb:TE):TE:=λσ H Q=>ta σ H λx H1=>∃c,x=.bl c/\if c=true then Q (.bl true) H1 else tb σ H1 Q
def Mr(ta:TE):TE:=λσ H Q=>ta σ H λx H1=>∃c,x=.bl c/\Q (.bl (!c)) H1
def wB(h:PE X a t):PE X (.BoolOp op [a] pos) t:=λpins s σ H Q I hw=>BoolOp_one (h pins s σ H Q I hw)
def CO(ha:PE X a ta)(hb:PE X (.BoolOp .And (b::rest) pos) tb):PE X (.BoolOp .And (a::b::rest) pos) (My ta tb):=by
 intro pins s σ H Q I h;refine BoolOp_and (thn (ha pins s σ H _ I h) λv s1⟨x,H1,I1,r1,q1⟩=>?_);obtain⟨c,rfl,q1⟩:=q1;cases r1;refine bW ?_
 cases c with
 |true=>exact hb pins s1 σ H1 Q I1 q1
 |false=>exact⟨.bl false,H1,I1,rfl,q1⟩
def MQ(ha:PE X a ta)(hb:PE X (.BoolOp .Or (b::rest) pos) tb):PE X (.BoolOp .Or (a::b::rest) pos) (NM ta tb):=by
 intro pins s σ H Q I h;refine BoolOp_or (thn (ha pins s σ H _ I h) λv s1⟨x,H1,I1,r1,q1⟩=>?_);obtain⟨c,rfl,q1⟩:=q1;cases r1;refine bW ?_
 cases c with
 |false=>exact hb pins s1 σ H1 Q I1 q1
 |true=>exact⟨.bl true,H1,I1,rfl,q1⟩
def Kh(ha:PE X a ta):PE X (.UnaryOp .Not a pos) (Mr ta):=by
 intro pins s σ H Q I h;refine UnaryOp_ (thn (ha pins s σ H _ I h) λv s1⟨x,H1,I1,r1,q1⟩=>?_);obtain⟨c,rfl,q1⟩:=q1;cases r1;exact not_of (bW ⟨.bl (!c),H1,I1,rfl,q1⟩)
def tIf(t:TT)(ta tb:TE):TE:=λσ H Q=>t σ H λc H1=>if c=true then ta σ H1 Q else tb σ H1 Q
def CK{c:aE}(hc:PT X c tA)(ha:PE X a ta)(hb:PE X b tb):PE X (.IfExp c a b pos) (tIf tA ta tb):=by
 intro pins s σ H Q I h;refine wpAny_IfExp (thn (hc pins s σ H _ I h) λd s1⟨H1,I1,q1⟩=>?_)
 cases d with
 |true=>exact ha pins s1 σ H1 Q I1 q1
 |false=>exact hb pins s1 σ H1 Q I1 q1
end
end L2
namespace L2
open PySem PySem.Spec PyProof.Rows
def SqL(K:PySem.W.Frag)(H:Hp)(a:av)(xs:List V):Prop :=
 Rd H a (.lst xs) \/
  ∃(o:Obj)(its:Array ai)(n:Nat),K.lookup a=some o/\o.cls=.type "list"/\o.dict=none/\o.data=.seq its n/\its.size<=sizeLine/\Vals xs its.toList
def SqT(K:PySem.W.Frag)(H:Hp)(a:av)(xs:List V):Prop :=
 Rd H a (.tup xs) \/
  ∃(o:Obj)(its:Array ai)(n:Nat),K.lookup a=some o/\o.cls=.type "tuple"/\o.data=.seq its n/\its.size<=sizeLine/\Vals xs its.toList
def Ov:ai->Option V
 |.none=>some .non
 |.bool b=>some (.bl b)
 |.int i _=>some (.int i)
 |.str x _=>some (.str x)
 |.ref a=>some (.ref a)
 |.type n=>some (.ty n)
 |_=>none
def RelV.abs(r:RelV x u):Ov u=some x:=by
 cases x with
 |non=>cases r;rfl
 |bl _=>cases r;rfl
 |int _=>obtain⟨t,rfl⟩:=r;rfl
 |str _=>obtain⟨t,rfl⟩:=r;rfl
 |ref _=>cases r;rfl
 |ty _=>cases r;rfl
def RelV.inj{x y:V}{u:ai}(r:RelV x u)(q:RelV y u):x=y:=bT (r.abs.symm.trans q.abs)
def Vals.inj:∀{xs ys:List V}{us:List ai},Vals xs us->Vals ys us->xs=ys
 |_,_,_,.nil,.nil=>rfl
 |_,_,_,.cons r t,.cons r' t'=>by rw[r.inj r',Vals.inj t t']
section
variable{X:Cx}{pins:List (av×Obj)}{σ:St}{H:Hp}{s:au}{a:av}{xs ys:List V}
def SqT.of{K:PySem.W.Frag}(h:H a=some (.tup xs)):SqT K H a xs:=.inl (.inl h)
def Inv.list(I:Inv X pins σ H s)(h:SqL X.K H a xs):∃its:List ai,Vals xs its/\PlainL s.heap a its.toArray/\xs.length<=sizeLine:=by
 rcases h with h|⟨o,its,n,hk,hc,hd,hs,hz,r⟩
 .obtain⟨z,its,n,r,e⟩:=h.ok I.hok;exact⟨its,r,⟨_,n,e,rfl,rfl,rfl⟩,z⟩
 .refine⟨its.toList,r,⟨o,n,I.kIn a o hk,hc,hd,by simpa using hs⟩,?_⟩;have e:=r.length;simp only[lF]at e
  lia
def Inv.tuple(I:Inv X pins σ H s)(h:SqT X.K H a xs):∃its:List ai,Vals xs its/\Ic s.heap a its.toArray/\xs.length<=sizeLine:=by
 rcases h with h|⟨o,its,n,hk,hc,hs,hz,r⟩
 .obtain⟨z,its,r,p⟩:=h.ok I.hok;exact⟨its,r,p,z⟩
 .refine⟨its.toList,r,⟨o,I.kIn a o hk,hc,n,by simpa using hs⟩,?_⟩;have e:=r.length;simp only[lF]at e
  lia
def Inv.list_inj(I:Inv X pins σ H s)(h:SqL X.K H a xs)(h':SqL X.K H a ys):xs=ys:=by
 obtain⟨its,r,⟨o,n,e,_,_,d⟩,_⟩:=I.list h;obtain⟨its',r',⟨o',n',e',_,_,d'⟩,_⟩:=I.list h';rw[e]at e';cases e';rw[d]at d';injection d' with d1 _;have:its=its':=by simpa using congrArg nu d1
 subst this;exact r.inj r'
def Inv.tuple_inj(I:Inv X pins σ H s)(h:SqT X.K H a xs)(h':SqT X.K H a ys):xs=ys:=by
 obtain⟨its,r,⟨o,e,_,n,d⟩,_⟩:=I.tuple h;obtain⟨its',r',⟨o',e',_,n',d'⟩,_⟩:=I.tuple h';rw[e]at e';cases e';rw[d]at d';injection d' with d1 _;have:its=its':=by simpa using congrArg nu d1
 subst this;exact r.inj r'
end
abbrev Cx.wish(X:Cx)(E:ai->au->Prop):Cx:={X with xe:=E}
abbrev Cx.nox(X:Cx):Cx:=X.wish λ_ _=>False
def Cx.Ok.wish{X:Cx}(ok:X.Ok)(E:ai->au->Prop):(X.wish E).Ok :=
 ⟨ok.mod,ok.kind,ok.glob,ok.blt,ok.above,ok.inj,ok.has,ok.cab,ok.hd,ok.frames,ok.stk,ok.exf,ok.bs,ok.bsz,ok.noex,ok.exfs,ok.funs,ok.frf⟩
def Cx.Ok.unwish{X:Cx}{E:ai->au->Prop}(ok:(X.wish E).Ok):X.Ok :=
 ⟨ok.mod,ok.kind,ok.glob,ok.blt,ok.above,ok.inj,ok.has,ok.cab,ok.hd,ok.frames,ok.stk,ok.exf,ok.bs,ok.bsz,ok.noex,ok.exfs,ok.funs,ok.frf⟩
section
variable{X:Cx}{pins:List (av×Obj)}{σ:St}{H:Hp}{s:au}{E:ai->au->Prop}
def Inv.wish(I:Inv X pins σ H s)(E:ai->au->Prop):Inv (X.wish E) pins σ H s:=⟨I.ok.wish E,I.os,I.bare,I.base,I.loc,I.cell,I.free,I.freeC,I.pin,I.hok,I.len⟩
def Inv.unwish(I:Inv (X.wish E) pins σ H s):Inv X pins σ H s:=⟨I.ok.unwish,I.os,I.bare,I.base,I.loc,I.cell,I.free,I.freeC,I.pin,I.hok,I.len⟩
def SP.unwish{D:Ends}{f:Flow}{s':au}(h:SP (X.wish E) pins D f s'):SP X pins D f s':=by
 cases f with
 |next=>obtain⟨σ',H',I,q⟩:=h;exact⟨σ',H',I.unwish,q⟩
 |brk=>obtain⟨σ',H',I,q⟩:=h;exact⟨σ',H',I.unwish,q⟩
 |cont=>obtain⟨σ',H',I,q⟩:=h;exact⟨σ',H',I.unwish,q⟩
 |ret u=>obtain⟨v,σ',H',I,r,q⟩:=h;exact⟨v,σ',H',I.unwish,r,q⟩
def PE.nox{e:aE}{t:TE}(h:PE X.nox e t):PE X e t:=λpins s σ H Q I hw =>
 cu (h pins s σ H Q (I.wish _) hw) (λ_ _⟨v,H',I',r,q⟩=>⟨v,H',I'.unwish,r,q⟩) λ_ _ z=>bu z
def PT.nox{e:aE}{t:TT}(h:PT X.nox e t):PT X e t:=λpins s σ H Q I hw =>
 cu (h pins s σ H Q (I.wish _) hw) (λ_ _⟨H',I',q⟩=>⟨H',I'.unwish,q⟩) λ_ _ z=>bu z
def PSs.nox{st:List bE}{t:TS}(h:PSs X.nox st t):PSs X st t:=λpins s σ H D I hw =>
 cu (h pins s σ H D (I.wish _) hw) (λ_ _ q=>q.unwish) λ_ _ z=>bu z
end
section
variable{X:Cx}{st:bE}{rest:List bE}{t u:TS}{e:aE}{te:TE}{pos:Pos}
def Ms:TS:=λD σ H=>D.nx σ H
def NJ(t u:TS):TS:=λD σ H=>t {D with nx:=u D} σ H
def lX:PSs X [] Ms:=λ_ _ σ H _ I h=>iQ ⟨σ,H,I,h⟩
def jV(h1:PS X st t)(h2:PSs X rest u):PSs X (st::rest) (NJ t u):=by
 intro pins s σ H D I h;refine tQ (thn (h1 pins s σ H {D with nx:=u D} I h) λf s1 q=>?_)
 cases f with
 |next =>
  obtain⟨σ',H',I',q⟩:=q
  exact h2 pins s1 σ' H' D I' q
 |ret v=>exact q
 |brk=>exact q
 |cont=>exact q
def Gm(h1:PS X st t):PSs X [st] t:=by
 intro pins s σ H D I h;refine tQ (thn (h1 pins s σ H D I h) λf s1 q=>?_)
 cases f with
 |next=>exact iQ q
 |ret v=>exact q
 |brk=>exact q
 |cont=>exact q
def Inv.quiet{pins:List (av×Obj)}{σ:St}{H:Hp}{s:au}(I:Inv X pins σ H s):interactive X.env=false:=by simp[interactive,I.ok.kind]
def Mv(te:TE):TS:=λD σ H=>te σ H λ_ H1=>D.nx σ H1
def sk(he:PE X e te)(hs:swapsWith e none pos.line X.env=pure false:=by rfl):PS X (.Expr e pos) (Mv te):=by
 intro pins s σ H D I h;exact wpAny_Expr_any (thn (he pins s σ H _ I h) λv s1⟨x,H1,I1,r1,q1⟩=>⟨σ,H1,I1,q1⟩) I.quiet hs
def NK(te:TE):TS:=λD σ H=>te σ H D.rt
def Cz(he:PE X e te):PS X (.Return (some e) pos) (NK te):=by
 intro pins s σ H D I h;exact wpAny_Return_some (thn (he pins s σ H _ I h) λv s1⟨x,H1,I1,r1,q1⟩=>⟨x,σ,H1,I1,r1,q1⟩)
def NQ(c:TT)(t u:TS):TS:=λD σ H=>c σ H λb H1=>if b=true then t D σ H1 else u D σ H1
def uP{c:aE}{a b:List bE}{tc:TT}(hc:PT X c tc)(ha:PSs X a t)(hb:PSs X b u):PS X (.If c a b pos) (NQ tc t u):=by
 intro pins s σ H D I h;refine wpAny_If (thn (hc pins s σ H _ I h) λd s1⟨H1,I1,q1⟩=>?_)
 cases d with
 |true=>exact ha pins s1 σ H1 D I1 q1
 |false=>exact hb pins s1 σ H1 D I1 q1
def Jx:TS:=λ_ _ _=>False
def CB:PS X st Jx:=λ_ _ _ _ _ _ h=>h.elim
end
abbrev TG:=V->St->Hp->(St->Hp->Prop)->Prop
abbrev TGs:=List V->St->Hp->(St->Hp->Prop)->Prop
def PG(X:Cx)(target:aE)(t:TG):Prop :=
 ∀(pins:List (av×Obj))(s:au)(σ:St)(H:Hp)(v:V)(u:ai)(Q:St->Hp->Prop),Inv X pins σ H s->RelV v u->t v σ H Q ->
  wpAny (model X.prog X.w) X.A (assign target X.env u) (λ_ s'=>∃σ' H',Inv X pins σ' H' s'/\Q σ' H') X.xe s
def PGs(X:Cx)(ts:List aE)(t:TGs):Prop :=
 ∀(pins:List (av×Obj))(s:au)(σ:St)(H:Hp)(vs:List V)(us:List ai)(Q:St->Hp->Prop),Inv X pins σ H s->Vals vs us->t vs σ H Q ->
  wpAny (model X.prog X.w) X.A (assignInOrder ((assignEach ts X.env).map (·.2)) us) (λ_ s'=>∃σ' H',Inv X pins σ' H' s'/\Q σ' H') X.xe s
abbrev LW:=V->V->V->Hp->(Hp->Prop)->Prop
def NF(X:Cx)(t:LW):Prop :=
 ∀(pins:List (av×Obj))(s:au)(σ:St)(H:Hp)(o i v:V)(ov iv u:ai)(Q:Hp->Prop),Inv X pins σ H s->RelV o ov->RelV i iv->RelV v u->t o i v H Q ->
  wpAny (model X.prog X.w) X.A (setItem ov iv u) (λ_ s'=>∃H',Inv X pins σ H' s'/\Q H') X.xe s
abbrev TIp:=V->V->Hp->VK->Prop
def PIp(X:Cx)(op:gJ)(t:TIp):Prop :=
 ∀(pins:List (av×Obj))(s:au)(σ:St)(H:Hp)(x y:V)(v u:ai)(Q:VK),Inv X pins σ H s->RelV x v->RelV y u->t x y H Q ->
  wpAny (model X.prog X.w) X.A (inplaceOp op v u) (EP X pins σ Q) X.xe s
section
variable{X:Cx}{pos:Pos}
def pK(i:Nat):TG:=λv σ H Q=>Q (σ.set i (some v)) H
def su(hN:X.N.Nodup)(hi:X.N[i]?=some x)(hx:Loc X.env.scope x)(hf:X.fn x=true\/X.env.scope.names.lookup x=some .local:=by first|exact .inl rfl|exact .inr rfl|assumption):PG X (.Name x pos) (pK i):=by
 intro pins s σ H v u Q I r h;exact Mc (ia I hN hi hx r (λs' I'=>⟨_,H,I',h⟩) hf)
def Lj:TGs:=λvs σ H Q=>vs=[]/\Q σ H
def yL(t:TG)(u:TGs):TGs:=λvs σ H Q=>∃v r,vs=v::r/\t v σ H λσ' H'=>u r σ' H' Q
def ym:PGs X [] Lj:=by
 intro pins s σ H vs us Q I r h;obtain⟨e,h⟩:=h;subst e;cases r;exact Md ⟨σ,H,I,h⟩
def pC{e:aE}{es:List aE}{t:TG}{u:TGs}(h1:PG X e t)(h2:PGs X es u)
 (hs:(assignEach (e::es) X.env).map (·.2)=assign e X.env::(assignEach es X.env).map (·.2):=by rfl):PGs X (e::es) (yL t u):=by
 intro pins s σ H vs us Q I r h;obtain⟨v,vr,e1,h⟩:=h;subst e1
 cases r with
 |cons r rr =>
  rw[hs];refine pV (thn (h1 pins s σ H _ _ _ I r h) λ_ s1⟨σ1,H1,I1,q1⟩=>?_);exact h2 pins s1 σ1 H1 _ _ Q I1 rr q1
def Om(K:PySem.W.Frag)(n:Nat)(t:TGs):TG:=λv σ H Q=>∃a xs,v=.ref a/\SqT K H a xs/\xs.length=n/\t xs σ H Q
def Ke(hc:X.calm=true)(h:PGs X es t)
 (hn:(assignEach es X.env).length=n:=by rfl)(hst:(assignEach es X.env).findIdx? (·.1)=none:=by rfl):PG X (.Tuple es k pos) (Om X.K n t):=by
 intro pins s σ H v u Q I r hw;obtain⟨a,xs,e1,hq,hl,hw⟩:=hw;subst e1;cases r;obtain⟨its,rv,ht,hz⟩:=I.tuple hq;refine assign_Tuple_tuple (I.ok.hd hc) ht (by simp[hn,<- hl,rv.length]) hst λh' hx=>?_;have I1:Inv X pins σ H {s with heap:=h'}:=I.kept (t':=s.toks) λb o e=>hx b o (aS (aJ e)) e;exact h pins _ σ H xs _ Q I1 (by simpa using rv) hw
def Oo(to ti:TE)(t:LW):TG:=λv σ H Q=>to σ H λo H1=>ti σ H1 λi H2=>t o i v H2 λH3=>Q σ H3
def Kf{o i:aE}{to ti:TE}{t:LW}(ho:PE X o to)(hi:PE X i ti)(hs:NF X t)
 (ha:∀v,assign (.Subscript o i pos) X.env v=(do
   let ov <- holding [v] (eval o X.env)
   let iv <- holding [v,ov] (eval i X.env)
   standAt pos
   holding [v,ov,iv] (setItem ov iv v)
   release [v,ov,iv] []):=by intro _;rfl):PG X (.Subscript o i pos) (Oo to ti t):=by
 intro pins s σ H v u Q I r h;rw[ha];refine aI (kh (thn (ho pins s σ H _ I h) λov s1⟨x,H1,I1,r1,q1⟩=>?_));refine aI (kh (thn (hi pins s1 σ H1 _ I1 q1) λiv s2⟨y,H2,I2,r2,q2⟩=>?_));refine aI (kg (aI (kh (thn (hs pins s2 σ H2 x y v ov iv u _ I2 r1 r2 r q2) λ_ s3⟨H3,I3,q3⟩=>?_))));exact wpAny_release ⟨σ,H3,I3,q3⟩
def By(te:TE)(g:TG):TS:=λD σ H=>te σ H λx H1=>g x σ H1 D.nx
def sr{tg e:aE}{te:TE}{g:TG}(he:PE X e te)(hg:PG X tg g)(hs:swapsWithSole [tg] e pos.line X.env=pure false:=by rfl)(hw:swappedStores [tg] e X.env=pure none:=by rfl)
 (h1:(assignEach [tg] X.env).map (·.2)=[assign tg X.env]:=by rfl):PS X (.Assign [tg] e pos) (By te g):=by
 intro pins s σ H D I h;refine wpAny_Assign_stores (thn (he pins s σ H _ I h) λv s1⟨x,H1,I1,r1,q1⟩=>?_) hs hw;rw[h1];exact thn (hg pins s1 σ H1 x v _ I1 r1 q1) λ_ s2 q=>q
def Cy{i:Nat}{x:Str}{e:aE}{te:TE}{pos':Pos}(hN:X.N.Nodup)(hi:X.N[i]?=some x)(hx:Loc X.env.scope x)(he:PE X e te)(hs:swapsWith e (some (.Name x pos')) pos.line X.env=pure false:=by rfl)(hf:X.fn x=true\/X.env.scope.names.lookup x=some .local:=by first|exact .inl rfl|exact .inr rfl|assumption) :
 PS X (.Assign [.Name x pos'] e pos) (By te (pK i)):=by
 intro pins s σ H D I h;refine wpAny_Assign_Name (thn (he pins s σ H _ I h) λv s1⟨y,H1,I1,r1,q1⟩=>?_) hs;exact ia I1 hN hi hx r1 (λs2 I2=>⟨_,H1,I2,q1⟩) hf
def NL(i j:Nat)(ta:TA):TS:=λD σ H=>ta σ H λvs H1=>∃v w,vs=[v,w]/\D.nx ((σ.set i (some v)).set j (some w)) H1
def JX{i j:Nat}{x y:Str}{a b:aE}{ta:TA}{px py pt:Pos}{kt k2 pt2}(hc:X.calm=true)(hN:X.N.Nodup)(hi:X.N[i]?=some x)(hj:X.N[j]?=some y)(hij:i≠j)
 (hx:X.env.scope.names.lookup x=some .local)(hy:X.env.scope.names.lookup y=some .local)(ha:PA X [a,b] ta)
 (hw:swappedStores [.Tuple [.Name x px,.Name y py] kt pt] (.Tuple [a,b] k2 pt2) X.env=pure (some [x,y]))
 (hs:swapsWithSole [.Tuple [.Name x px,.Name y py] kt pt] (.Tuple [a,b] k2 pt2) pos.line X.env=pure false:=by rfl) :
 PS X (.Assign [.Tuple [.Name x px,.Name y py] kt pt] (.Tuple [a,b] k2 pt2) pos) (NL i j ta):=by
 intro pins s σ H D I h;rw[exec_Assign_arm];refine aI (kg ?_);rw[hs];refine aI (bf ?_);rw[if_neg ⇑0];refine aI (Tuple_ (thn (ha _ pins s σ H _ I h) λus s1⟨vs,H1,I1,r1,q1⟩=>?_));obtain⟨v,w,e1,q1⟩:=q1;subst e1
 obtain⟨u1,u2,rfl,rv,rw'⟩:∃u1 u2,us=[u1,u2]/\RelV v u1/\RelV w u2:=by
  cases r1 with
  |cons p q =>
   cases q with
   |cons p' q' =>
    cases q';exact⟨_,_,rfl,p,p'⟩
 refine dM ?_ (by show 2<=sizeLine;decide);have I2:Inv X pins σ H1 {s1 with heap:=s1.heap.push {cls:=.type "tuple",data:=.seq [u1,u2].toArray} }:=I1.kept (t':=s1.toks) λb o e=>ax _ e;rw[hw];refine aI (bf ?_);show wpAny (model X.prog X.w) X.A (do rule "assign.swapped-stores";let items <- unpackItems (.ref s1.heap.objs.size) 2 none;assignInOrder [λv=>bindName X.env y v,λv=>bindName X.env x v] items.reverse;pure Flow.next) _ _ _;refine aI (wpAny_rule (aI (unpackItems_tuple (items := #[u1,u2]) (I.ok.hd hc) (oi s1.heap _) λh' hx'=>?_)));have I3:=I2.kept (h':=h') (t':=s1.toks) λb o e=>hx' b o (aS (aJ e)) e;show wpAny _ _ (assignInOrder [λv=>bindName X.env y v,λv=>bindName X.env x v] [u2,u1] >>= λ_=>pure Flow.next) _ _ _;refine aI (pV (wpAny_bindName (ia I3 hN hj (.inl hy) rw' (λs2 I4=>?_) (.inr hy))));refine pV (wpAny_bindName (ia I4 hN hi (.inl hx) rv (λs3 I5=>Md (bf ?_)) (.inr hx)));rw[List.set_comm _ _ (Ne.symm hij)]at I5;exact⟨_,H1,I5,q1⟩
def NU(i:Nat)(te:TE)(ti:TIp):TS:=λD σ H=>∃x,σ[i]?=some (some x)/\te σ H λy H1=>ti x y H1 λz H2=>D.nx (σ.set i (some z)) H2
def JY{i:Nat}{x:Str}{e:aE}{te:TE}{op:gJ}{ti:TIp}{pos':Pos}(hN:X.N.Nodup)(hi:X.N[i]?=some x)(hx:Loc X.env.scope x)(he:PE X e te)(ho:PIp X op ti)(hf:X.fn x=true\/X.env.scope.names.lookup x=some .local:=by first|exact .inl rfl|exact .inr rfl|assumption) :
 PS X (.AugAssign (.Name x pos') op e pos) (NU i te ti):=by
 intro pins s σ H D I h;obtain⟨v,e1,h⟩:=h;obtain⟨m,hn,hl⟩:=I.loc;have vis:Vis X.env.scope x:=by rcases hx with k|k;exact .inl k;exact .inr (.inl k)
 obtain⟨u,r,l⟩:=hl i x v hi e1 vis;refine wpAny_AugAssign_Name ?_
 have go:wpAny (model X.prog X.w) X.A (eval e X.env) (λw s₂=>wpAny (model X.prog X.w) X.A (inplaceOp op u w) (λr s₃=>wpAny (model X.prog X.w) X.A (storeName X.env x r) (λ_=>SP X pins D .next) X.xe s₃) X.xe s₂) X.xe s:=by
  refine thn (he pins s σ H _ I h) λw s1 zz=>?_;obtain⟨y,H1,I1,r1,q1⟩:=zz;refine thn (ho pins s1 σ H1 v y u w _ I1 r r1 q1) λz s2 zz=>?_;obtain⟨zv,H2,I2,r2,q2⟩:=zz;exact ia I2 hN hi hx r2 (λs3 I3=>⟨_,H2,I3,q2⟩) hf
 rcases l with⟨hk,hm⟩|⟨hk,c,hc,hcell⟩
 .exact HS I.ok.kind hk hn hm go
 .rcases hk with hk|hk
  .exact IS I.ok.kind hk hc hcell go
  .rcases hx with k|k
   .have:X.env.scope.names.lookup x=some .free:=hk;rw[k]at this;cases this
   .have:X.env.scope.names.lookup x=some .free:=hk;rw[k]at this;cases this
def ipI(f:Int->Int->Int):TIp:=λx y H Q=>∃i j,x=.int i/\y=.int j/\Q (.int (f i j)) H
def Lh:PIp X .Add (ipI λi j=>i+j):=by
 intro pins s σ H x y v u Q I r1 r2 h;obtain⟨i,j,e1,e2,q⟩:=h;subst e1;subst e2;obtain⟨t,rfl⟩:=r1;obtain⟨t',rfl⟩:=r2;exact iadd_int ⟨.int _,H,I.tok _,⟨_,rfl⟩,q⟩
end
section
variable{X:Cx}{pos:Pos}
def Jw(c:TT)(tb:TS):TS:=λD σ H=>∃W:Nat->St->Hp->Prop,(∃m,W m σ H)/\∀m σ H,W m σ H ->
 c σ H λb H1=>if b=true then ∃N:St->Hp->Prop,(∀σ' H',N σ' H'->∃m',m'<m/\W m' σ' H')/\tb {D with nx:=N,ct:=N,bk:=D.nx} σ H1 else D.nx σ H1
def Cw{c:aE}{body:List bE}{tc:TT}{tb:TS}(hp:nM (model X.prog X.w) X.A X.env X.xe)(hc:PT X c tc)(hb:PSs X body tb):PS X (.While c body [] pos) (Jw tc tb):=by
 intro pins s σ H D I h;obtain⟨W,⟨m0,w0⟩,turn⟩:=h;refine wpAny_While (codeAny_whileLoop (λn s'=>∃σ' H',Inv X pins σ' H' s'/\W n σ' H') ?_ m0 ⟨σ,H,I,w0⟩);rintro n s1 ⟨σ1,H1,I1,w1⟩;refine eZ hp (thn (hc pins s1 σ1 H1 _ I1 (turn n σ1 H1 w1)) λb s2⟨H2,I2,q2⟩=>?_)
 cases b with
 |true =>
  obtain⟨N,hN,q2⟩:=q2;rw[if_pos rfl];refine eZ hp (thn (hb pins s2 σ1 H2 _ I2 q2) λf s3 q3=>?_)
  cases f with
  |next =>
   obtain⟨σ3,H3,I3,n3⟩:=q3;obtain⟨m',hm,w3⟩:=hN σ3 H3 n3
   exact⟨m',hm,σ3,H3,I3,w3⟩
  |cont =>
   obtain⟨σ3,H3,I3,n3⟩:=q3;obtain⟨m',hm,w3⟩:=hN σ3 H3 n3
   exact⟨m',hm,σ3,H3,I3,w3⟩
  |brk=>exact q3
  |ret v=>exact q3
 |false =>
  rw[if_neg aq];exact iQ ⟨σ1,H2,I2,q2⟩
end
structure It where
 go:Nat->Hp->Prop
 yld:Nat->Hp->V->Hp->Prop
 stop:Nat->Hp->Prop
def lD(X:Cx)(pins:List (av×Obj))(H:Hp)(b:av):Prop :=
 H b=none/\b≠X.env.locals/\b∉X.fs/\(b∈X.ex\/X.s₀.heap.objs.size<=b)/\(∀x c,X.env.cells.lookup x=some c->c≠b)/\∀p∈X.pn++pins,p.1≠b
def Inv.fpOk(I:Inv X pins σ H s)(hb:s.heap.objs.size<=b)(hn:H' b=none):lD X pins H' b:=by
 refine⟨hn,Nat.ne_of_gt (aK I.lt hb),I.nofs hb,.inr (aX I.sz hb),λx c e z=>?_,λp hp z=>?_⟩
 .obtain⟨v,q⟩:=I.cell x c e;exact absurd (aK q.lt (by rw[z];exact hb)) (cV _)
 .exact absurd (aK (aJ (I.pin p hp).1) (by rw[z];exact hb)) (cV _)
structure Turn(P:aP)(w:bA)(K:PySem.W.Frag)(tg:aE)(J:It)(fp:List av)(it:av)(tn:Nat->bV->Prop):Prop where
 mem:it∈fp
 obj:∀i h,tn i h->∀b∈fp,∃o,h.get? b=some o/\∀v,o.data≠.cell v
 keep:∀i h h',tn i h->(∀b∈fp,∀o,h.get? b=some o->h'.get? b=some o)->tn i h'
 item:∀(X:Cx),X.prog=P->X.w=w->X.K=K->X.calm=true->∀(i:Nat)(pins:List (av×Obj))(s:au)(σ:St)(H:Hp)(E:ai->au->Prop),Inv X pins σ H s->(∀b∈fp,lD X pins H b)->tn i s.heap->J.go i H ->
  wpAny (model P w) X.A (pyNext (.ref it)) (λr s1=>∃u,r=some u /\
   wpAny (model P w) X.A (letOwnedTupleGo tg (.ref it) u) (λ_ s2=>∃x H',Inv X pins σ H' s2/\RelV x u/\J.yld i H x H'/\tn (i+1) s2.heap/\∀b∈fp,H' b=none) E s1) E s
 done:∀(X:Cx),X.prog=P->X.w=w->X.K=K->X.calm=true->∀(i:Nat)(pins:List (av×Obj))(s:au)(σ:St)(H:Hp)(E:ai->au->Prop),Inv X pins σ H s->(∀b∈fp,lD X pins H b)->tn i s.heap->J.stop i H ->
  wpAny (model P w) X.A (pyNext (.ref it)) (λr s1=>r=none/\Inv X pins σ H s1) E s
 self:∀(A:bB)(i:Nat)(s:au)(Q:ai->au->Prop)(E:ai->au->Prop),tn i s.heap->Q (.ref it) s->wpAny (model P w) A (pyIter (.ref it)) Q E s
abbrev TI:=St->Hp->(It->Hp->Prop)->Prop
def PIE(X:Cx)(pins:List (av×Obj))(σ:St)(tg:aE)(R:It->Hp->Prop)(itv:ai)(s2:au):Prop :=
 ∃(it:av)(fp:List av)(tn:Nat->bV->Prop)(J:It)(H':Hp),itv=.ref it/\Inv X pins σ H' s2/\Turn X.prog X.w X.K tg J fp it tn/\tn 0 s2.heap/\(∀b∈fp,lD X pins H' b)/\R J H'
def PI(X:Cx)(tg iter:aE)(wi:TI):Prop :=
 ∀(pins:List (av×Obj))(s:au)(σ:St)(H:Hp)(R:It->Hp->Prop),Inv X pins σ H s->wi σ H R ->
  wpAny (model X.prog X.w) X.A (eval iter X.env) (λv s1=>wpAny (model X.prog X.w) X.A (pyIter v) (PIE X pins σ tg R) X.xe s1) X.xe s
def vv(ho:s.heap.get? it=some o)(hc:o.cls=.type n)(hd:o.data=.fields vs)
 (hn:["enumerate","zip","dict_itemiterator","dict_reverseitemiterator","odict_iterator","itertools.zip_longest","itertools.pairwise"].contains n=false)(hQ:Q () s):wpAny M A (letOwnedTupleGo tg (.ref it) u) Q E s:=by
 unfold letOwnedTupleGo
 cases tg<;>first
  |exact bf hQ
  |(cases u<;>first
     |exact bf hQ
     |(refine aI (wpAny_load ho ?_)
       rw[hc,hd];show wpAny M A (if(["enumerate","zip","dict_itemiterator","dict_reverseitemiterator","odict_iterator","itertools.zip_longest","itertools.pairwise"].contains n&&vs[0]?==some (rawInt _))=true then _ else _) Q E s;rw[if_neg (by intro h;rw[hn,Bool.false_and]at h;cases h)];exact bf hQ))
def Itl(K:PySem.W.Frag)(a:av):It :=
 ⟨λi H=>∃xs x,SqL K H a xs/\xs[i]?=some x,λi H x H'=>H'=H/\∀xs,SqL K H a xs->xs[i]?=some x,λi H=>∃xs,SqL K H a xs/\xs.length<=i⟩
def Itt(K:PySem.W.Frag)(a:av):It :=
 ⟨λi H=>∃xs x,SqT K H a xs/\xs[i]?=some x,λi H x H'=>H'=H/\∀xs,SqT K H a xs->xs[i]?=some x,λi H=>∃xs,SqT K H a xs/\xs.length<=i⟩
def Itr(lo:Int)(n:Nat):It:=⟨λi _=>i<n,λi H x H'=>H'=H/\x=.int (lo+i),λi _=>n<=i⟩
def zw{P:aP}{w:bA}{K:PySem.W.Frag}{tg:aE}(a it:av):Turn P w K tg (Itl K a) [it] it (λi h=>h.IsListIter it a i)where
 mem:=by simp
 obj:=λi h st b hb=>by
  have e:b=it:=by simpa using hb
  subst e;obtain⟨o,e,c,d⟩:=st;exact⟨o,e,λv z=>by rw[d]at z;cases z⟩
 keep:=λi h h' st k=>st.at λo e=>k it ↥0 o e
 item:=by
  intro X hP hw hK hc i pins s σ H E I hf st hg;subst hP hw hK;obtain⟨xs,x,hq,hx⟩:=hg;obtain⟨its,rv,p,hz⟩:=I.list hq;obtain⟨u,hu,ru⟩:=rv.get hx;obtain⟨f0,f1,f2,f3,f4,f5⟩:=hf it ↥0;refine wpAny_pyNext_list_item st p.isList (x:=u) (by simpa using hu) λh' st' sb=>?_;have I1:Inv X pins σ H {s with heap:=h'}:=I.turned (t':=s.toks) (λb o hb e=>(sb.2 b hb).trans e) f0 f1 f3 f4 f5;obtain⟨o,e,c,d⟩:=id st';exact⟨u,rfl,vv (s:={s with heap:=h'}) e c d ⇑0 ⟨x,H,I1,ru,⟨rfl,λys hy=>by rw[I.list_inj hy hq];exact hx⟩,st',λb hb=>(hf b hb).1⟩⟩
 done:=by
  intro X hP hw hK hc i pins s σ H E I hf st hg;subst hP hw hK;obtain⟨xs,hq,hx⟩:=hg;obtain⟨its,rv,p,hz⟩:=I.list hq;obtain⟨f0,f1,f2,f3,f4,f5⟩:=hf it ↥0;have hl:=rv.length;exact wpAny_pyNext_list_end (I.ok.hd hc) st p.isList (by simp;lia) λh' eb=>⟨rfl,I.turned (t':=s.toks) (λb o hb e=>eb b o hb e) f0 f1 f3 f4 f5⟩
 self:=λ_ _ _ _ _ st h=>wpAny_pyIter_listiter st h
def vW{P:aP}{w:bA}{K:PySem.W.Frag}{tg:aE}(a it:av):Turn P w K tg (Itt K a) [it] it (λi h=>h.IsTupleIter it a i)where
 mem:=by simp
 obj:=λi h st b hb=>by
  have e:b=it:=by simpa using hb
  subst e;obtain⟨o,e,c,d⟩:=st;exact⟨o,e,λv z=>by rw[d]at z;cases z⟩
 keep:=λi h h' st k=>st.at λo e=>k it ↥0 o e
 item:=by
  intro X hP hw hK hc i pins s σ H E I hf st hg;subst hP hw hK;obtain⟨xs,x,hq,hx⟩:=hg;obtain⟨its,rv,p,hz⟩:=I.tuple hq;obtain⟨u,hu,ru⟩:=rv.get hx;obtain⟨f0,f1,f2,f3,f4,f5⟩:=hf it ↥0;refine wpAny_pyNext_tuple_item st (show s.heap.IsTuple a its.toArray from p) (x:=u) (by simpa using hu) λh' st' sb=>?_;have I1:Inv X pins σ H {s with heap:=h'}:=I.turned (t':=s.toks) (λb o hb e=>(sb.2 b hb).trans e) f0 f1 f3 f4 f5;obtain⟨o,e,c,d⟩:=id st';exact⟨u,rfl,vv (s:={s with heap:=h'}) e c d ⇑0 ⟨x,H,I1,ru,⟨rfl,λys hy=>by rw[I.tuple_inj hy hq];exact hx⟩,st',λb hb=>(hf b hb).1⟩⟩
 done:=by
  intro X hP hw hK hc i pins s σ H E I hf st hg;subst hP hw hK;obtain⟨xs,hq,hx⟩:=hg;obtain⟨its,rv,p,hz⟩:=I.tuple hq;obtain⟨f0,f1,f2,f3,f4,f5⟩:=hf it ↥0;have hl:=rv.length;exact wpAny_pyNext_tuple_end (I.ok.hd hc) st (show s.heap.IsTuple a its.toArray from p) (by simp;lia) λh' eb=>⟨rfl,I.turned (t':=s.toks) (λb o hb e=>eb b o hb e) f0 f1 f3 f4 f5⟩
 self:=λ_ _ _ _ _ st h=>wpAny_pyIter_tupleiter st h
def vX{P:aP}{w:bA}{K:PySem.W.Frag}{tg:aE}(it:av)(lo:Int)(n:Nat):Turn P w K tg (Itr lo n) [it] it (λi h=>IsRangeIter h it (lo+(i:Nat)*1) ((n:Int)-(i:Nat)) 1)where
 mem:=by simp
 obj:=λi h st b hb=>by
  have e:b=it:=by simpa using hb
  subst e
  exact⟨_,st,λv z=>by
   have z':Data.fields _=Data.cell v:=z;cases z'⟩
 keep:=λi h h' st k=>k it ↥0 _ st
 item:=by
  intro X hP hw hK hc i pins s σ H E I hf st hg;subst hP hw hK;obtain⟨f0,f1,f2,f3,f4,f5⟩:=hf it ↥0;have W:=Walks.range (prog:=X.prog) (w:=X.w) (I.ok.hd hc) it lo 1 n;refine W.item i s _ _ hg st λv h' tk hv st' kk=>?_;obtain⟨t,rfl⟩:=hv;have I1:Inv X pins σ H {s with heap:=h',toks:=tk}:=I.turned (λb o hb e=>kk b o (by simpa using hb) e) f0 f1 f3 f4 f5;refine⟨_,rfl,vv (s:={s with heap:=h',toks:=tk}) (n:="range_iterator") st' rfl rfl ⇑0 ⟨.int (lo+i),H,I1,⟨t,?_⟩,⟨rfl,rfl⟩,st',λb hb=>(hf b hb).1⟩⟩;rw[Int.mul_one]
 done:=by
  intro X hP hw hK hc i pins s σ H E I hf st hg;subst hP hw hK;obtain⟨f0,f1,f2,f3,f4,f5⟩:=hf it ↥0;exact wpAny_pyNext_range_end (I.ok.hd hc) st (by have:n<=i:=hg;lia) λh' eb=>⟨rfl,I.turned (t':=s.toks) (λb o hb e=>eb b o hb e) f0 f1 f3 f4 f5⟩
 self:=λ_ _ _ _ _ st h=>wpAny_pyIter_rangeiter st h
end L2
namespace L2
open PySem PySem.Spec PyProof.Rows
section
variable{X:Cx}{tg:aE}
def Ci{pins:List (av×Obj)}{σ:St}{H:Hp}{s:au}{R:It->Hp->Prop}{E:ai->au->Prop}{lo hi:Int}{t u v:Tok}{tk:Nat}(I:Inv X pins σ H s)(h1:-(2^62)<=lo)(h2:lo<2^62)(h3:-(2^62)<=hi)(h4:hi<2^62)
 (q:R (Itr lo (hi-lo).toNat) H):wpAny (model X.prog X.w) X.A (pyIter (.ref s.heap.objs.size)) (PIE X pins σ tg R) E {s with heap:=s.heap.push {cls:=.type "range",data:=.fields #[.int lo t,.int hi u,.int 1 v]},toks:=tk}:=by
 refine wpAny_pyIter_range (IsRange.new ..) (small_one h1 h2 h3 h4) ?_;have I1:Inv X pins σ H {s with heap:=s.heap.push {cls:=.type "range",data:=.fields #[.int lo t,.int hi u,.int 1 v]},toks:=tk}:=I.kept λb o e=>ax _ e
 refine⟨(s.heap.push {cls:=.type "range",data:=.fields #[.int lo t,.int hi u,.int 1 v]}).objs.size,[(s.heap.push {cls:=.type "range",data:=.fields #[.int lo t,.int hi u,.int 1 v]}).objs.size],_,_,H,rfl,
  I1.kept (t':=tk) λb o e=>ax _ e,vX _ lo (hi-lo).toNat,?_,λb hb=>?_,q⟩
 .have e1:lo+((0:Nat):Int)*1=lo:=by simp
  have e2:(((hi-lo).toNat:Nat):Int)-((0:Nat):Int)=Builtin.Range.rangeSize lo hi 1:=by rw[rangeSize_one];split<;>lia
  show IsRangeIter _ _ (lo+((0:Nat):Int)*1) ((((hi-lo).toNat:Nat):Int)-((0:Nat):Int)) 1;rw[e1,e2];exact aV _ rfl
 .have e:b=(s.heap.push {cls:=.type "range",data:=.fields #[.int lo t,.int hi u,.int 1 v]}).objs.size:=by simpa using hb
  subst e;exact I1.fpOk (aD _) (I1.hok.fresh (aD _))
def Nr(ta:TA):TI:=λσ H R=>ta σ H λvs H1=>∃j:Int,vs=[.int j]/\-(2^62)<=j/\j<2^62/\R (Itr 0 j.toNat) H1
def zJ{a:aE}{ta:TA}{p pos:Pos}(hg:Gl X "range")(hm:X.mg "range"=none)(ha:PA X [a] ta)(hs:starEach [a] X.env=[(false,eval a X.env)]:=by rfl):PI X tg (.Call (.Name "range" p) [a] [] pos) (Nr ta):=by
 intro pins s σ H R I h;refine Call_ (pG I hg hm boot_range (gy (thn (ha pos pins s σ H _ I h) λus s1⟨vs,H1,I1,r1,q1⟩=>?_) hs rfl));obtain⟨j,e,q1,q2,q⟩:=q1;subst e
 cases r1 with
 |cons r rr =>
  cases rr;obtain⟨t,rfl⟩:=r;exact call_range_1 (Ci I1 ∅ ∅ q1 q2 (by simpa using q))
def NR(wi:TI)(g:TG)(tb:TS):TS:=λD σ H=>wi σ H λJ H1=>∃W:Nat->Nat->St->Hp->Prop,(∃m,W 0 m σ H1)/\∀i m σ H,W i m σ H ->
 (J.stop i H/\D.nx σ H)\/(J.go i H/\∃N:St->Hp->Prop,(∀σ' H',N σ' H'->∃m',m'<m/\W (i+1) m' σ' H')/\∀x H',J.yld i H x H'->g x σ H' λσ2 H2=>tb {D with nx:=N,ct:=N,bk:=D.nx} σ2 H2)
def pB(fp:List av)(h:bV):List (av×Obj):=fp.filterMap λb=>(h.get? b).map λo=>(b,o)
def jv(hb:b∈fp)(e:h.get? b=some o):(b,o)∈pB fp h:=AG.mpr ⟨b,hb,by rw[e];rfl⟩
def zQ(hp:p∈pB fp h):p.1∈fp/\h.get? p.1=some p.2:=by
 obtain⟨b,hb,e⟩:=AG.mp hp
 cases q:h.get? b with
 |none=>rw[q]at e;cases e
 |some o =>
  rw[q]at e;have e':(b,o)=p:=bT e;subst e';exact⟨hb,q⟩
def Inv.pinned(I:Inv X pins σ H s)(hf:∀b∈fp,lD X pins H b)(ho:∀b∈fp,∃o,s.heap.get? b=some o/\∀v,o.data≠.cell v):Inv X (pins++pB fp s.heap) σ H s :=
 I.pins_of λp hp=>(cc.mp hp).elim (λz=>I.pin p (aO _ z)) λz=>by
  obtain⟨hb,e⟩:=zQ z;obtain⟨f0,f1,f2,_⟩:=hf p.1 hb;obtain⟨o,e',d⟩:=ho p.1 hb;rw[e]at e';cases e';exact⟨e,f0,f1,f2,d⟩
def Inv.unpinned(I:Inv X (pins++pl) σ H s):Inv X pins σ H s:=I.pins_of λp hp=>I.pin p (aO _ (bY _ hp))
def CD(hp:nM (model X.prog X.w) X.A X.env X.xe)(hc:X.calm=true)(hi:PI X tg iter wi)(hg:PG X tg g)(hb:PSs X body tb)
 (hs:∀x,foldedSetIterable iter X.env x=pure x:=by intro _;rfl):PS X (.For tg iter body [] pos) (NR wi g tb):=by
 intro pins s σ H D I h;refine wpAny_For (thn (hi pins s σ H _ I h) λv s1 h1=>thn h1 λitv s2 h2=>?_) hs;obtain⟨it,fp,tn,J,H2,e,I2,T,st2,f2,W,⟨m0,w0⟩,turn⟩:=h2;subst e
 -- what stays true of the iterator's objects through the loop
 have stat:∀{H':Hp},(∀b∈fp,H' b=none)->∀b∈fp,lD X pins H' b:=λhn b hb=>⟨hn b hb,(f2 b hb).2⟩;refine codeAny_forLoop_any (λn s'=>∃i σ' H',Inv X pins σ' H' s'/\tn i s'.heap/\(∀b∈fp,H' b=none)/\W i n σ' H') ?_ m0 ⟨0,σ,H2,I2,st2,λb hb=>(f2 b hb).1,w0⟩;rintro n s3 ⟨i,σ3,H3,I3,st3,fr3,w3⟩;rcases turn i n σ3 H3 w3 with⟨stop,qn⟩|⟨go,N,hN,step⟩
 .refine eZ hp (thn (T.done X rfl rfl rfl hc i pins s3 σ3 H3 X.xe I3 (stat fr3) st3 stop) λr s4⟨hr,I4⟩=>?_);subst hr;exact iQ ⟨σ3,H3,I4,qn⟩
 .refine eZ hp (thn (T.item X rfl rfl rfl hc i pins s3 σ3 H3 X.xe I3 (stat fr3) st3 go) λr s4⟨u,hr,h4⟩=>?_);subst hr;refine eZ hp (thn h4 λ_ s5⟨x,H5,I5,r5,y5,st5,fr5⟩=>?_);have I5':=I5.pinned (stat fr5) (T.obj _ _ st5);refine eZ hp (thn (hg _ s5 σ3 H5 x u _ I5' r5 (step x H5 y5)) λ_ s6⟨σ6,H6,I6,q6⟩=>?_);refine eZ hp (thn (hb _ s6 σ6 H6 _ I6 q6) λf s7 q7=>?_)
  have again:∀{σ7:St}{H7:Hp},Inv X (pins++pB fp s5.heap) σ7 H7 s7->N σ7 H7->∃m,m<n/\∃i σ' H',Inv X pins σ' H' s7/\tn i s7.heap/\(∀b∈fp,H' b=none)/\W i m σ' H':=λ{σ7 H7}I7 n7=>by
   obtain⟨m',hm,w7⟩:=hN σ7 H7 n7;refine⟨m',hm,i+1,σ7,H7,I7.unpinned,T.keep _ _ _ st5 λb hb o e=>(I7.pin (b,o) (aO _ (aO _ (jv hb e)))).1,λb hb=>?_,w7⟩;obtain⟨o,e,d⟩:=T.obj _ _ st5 b hb;exact(I7.pin (b,o) (aO _ (aO _ (jv hb e)))).2.1
  cases f with
  |next=>obtain⟨σ7,H7,I7,n7⟩:=q7;exact again I7 n7
  |cont=>obtain⟨σ7,H7,I7,n7⟩:=q7;exact again I7 n7
  |brk=>obtain⟨σ7,H7,I7,q7⟩:=q7;exact⟨σ7,H7,I7.unpinned,q7⟩
  |ret v=>obtain⟨x7,σ7,H7,I7,r7,q7⟩:=q7;exact⟨x7,σ7,H7,I7.unpinned,r7,q7⟩
end
end L2
namespace L2
open PySem PySem.Spec PyProof.Rows
abbrev R2:=V->V->Hp->VK->Prop
def OpR(X:Cx)(f:ai->ai->Sem ai)(r:R2):Prop :=
 ∀(pins:List (av×Obj))(s:au)(σ:St)(H:Hp)(x y:V)(v u:ai)(Q:VK),Inv X pins σ H s->RelV x v->RelV y u->r x y H Q ->
  wpAny (model X.prog X.w) X.A (f v u) (EP X pins σ Q) X.xe s
def UnR(X:Cx)(f:ai->Sem ai)(r:V->Hp->VK->Prop):Prop :=
 ∀(pins:List (av×Obj))(s:au)(σ:St)(H:Hp)(x:V)(v:ai)(Q:VK),Inv X pins σ H s->RelV x v->r x H Q ->
  wpAny (model X.prog X.w) X.A (f v) (EP X pins σ Q) X.xe s
def cC(X:Cx)(f:ai)(r:List V->Hp->VK->Prop):Prop :=
 ∀(pins:List (av×Obj))(s:au)(σ:St)(H:Hp)(xs:List V)(us:List ai)(Q:VK),Inv X pins σ H s->Vals xs us->r xs H Q ->
  wpAny (model X.prog X.w) X.A (call f us) (EP X pins σ Q) X.xe s
def Ow(X:Cx)(r:V->Hp->(Bool->Hp->Prop)->Prop):Prop :=
 ∀(pins:List (av×Obj))(s:au)(σ:St)(H:Hp)(x:V)(v:ai)(Q:Bool->Hp->Prop),Inv X pins σ H s->RelV x v->r x H Q ->
  wpAny (model X.prog X.w) X.A (truthy v) (TP X pins σ Q) X.xe s
def tOp(r:R2)(ta tb:TE):TE:=λσ H Q=>ta σ H λx H1=>tb σ H1 λy H2=>r x y H2 Q
def tUn(r:V->Hp->VK->Prop)(ta:TE):TE:=λσ H Q=>ta σ H λx H1=>r x H1 Q
def rI(C:Int->Int->Prop)(g:Int->Int->V):R2:=λx y H Q=>∃i j,x=.int i/\y=.int j/\C i j/\Q (g i j) H
def rI0(g:Int->Int->V):R2:=λx y H Q=>∃i j,x=.int i/\y=.int j/\Q (g i j) H
def rU(g:Int->V):V->Hp->VK->Prop:=λx H Q=>∃i,x=.int i/\Q (g i) H
section
variable{X:Cx}{a b c:aE}{ta tb tc:TE}{pos:Pos}
def LM(ha:PE X a ta)(hb:PE X b tb){pins:List (av×Obj)}{s:au}{σ:St}{H:Hp}{R:V->V->Hp->Prop}(I:Inv X pins σ H s)
 (h:ta σ H λx H1=>tb σ H1 λy H2=>R x y H2){Q:ai->au->Prop}{f:ai->ai->Sem ai}
 (hf:∀v u s2 x y H2,Inv X pins σ H2 s2->RelV x v->RelV y u->R x y H2->wpAny (model X.prog X.w) X.A (f v u) Q X.xe s2) :
 wpAny (model X.prog X.w) X.A (eval a X.env) (λv s₁=>wpAny (model X.prog X.w) X.A (eval b X.env) (λu s₂=>wpAny (model X.prog X.w) X.A (f v u) Q X.xe s₂) X.xe s₁) X.xe s:=by
 refine thn (ha pins s σ H _ I h) λv s1 zz=>?_;obtain⟨x,H1,I1,r1,q1⟩:=zz;refine thn (hb pins s1 σ H1 _ I1 q1) λu s2 zz=>?_;obtain⟨y,H2,I2,r2,q2⟩:=zz;exact hf v u s2 x y H2 I2 r1 r2 q2
def qP{op:gJ}{r:R2}(ho:OpR X (binaryOp op) r)(ha:PE X a ta)(hb:PE X b tb):PE X (.BinOp a op b pos) (tOp r ta tb):=by
 intro pins s σ H Q I h;exact wpAny_BinOp (LM ha hb I h λv u s2 x y H2 I2 rx ry q=>ho pins s2 σ H2 x y v u Q I2 rx ry q)
def MP(ho:UnR X (unaryOp op) r)(ha:PE X a ta):PE X (.UnaryOp op a pos) (tUn r ta):=by
 intro pins s σ H Q I h;exact UnaryOp_ (thn (ha pins s σ H _ I h) λv s1⟨x,H1,I1,r1,q1⟩=>ho pins s1 σ H1 x v Q I1 r1 q1)
def opI{f:ai->ai->Sem ai}{C:Int->Int->Prop}{g:Int->Int->Int}
 (rule:∀(i j:Int)(t u:Tok)(s:au)(Q:ai->au->Prop)(E:ai->au->Prop),C i j->Q (.int (g i j) s.toks) {s with toks:=s.toks+1}->wpAny (model X.prog X.w) X.A (f (.int i t) (.int j u)) Q E s) :
 OpR X f (rI C λi j=>.int (g i j)):=by
 intro pins s σ H x y v u Q I rx ry h;obtain⟨i,j,rfl,rfl,hc,q⟩:=h;obtain⟨t,rfl⟩:=rx;obtain⟨t',rfl⟩:=ry;exact rule i j t t' s _ _ hc ⟨.int (g i j),H,I.tok _,⟨_,rfl⟩,q⟩
def Nd{f:ai->ai->Sem ai}{g:Int->Int->Int}
 (rule:∀(i j:Int)(t u:Tok)(s:au)(Q:ai->au->Prop)(E:ai->au->Prop),Q (.int (g i j) s.toks) {s with toks:=s.toks+1}->wpAny (model X.prog X.w) X.A (f (.int i t) (.int j u)) Q E s) :
 OpR X f (rI0 λi j=>.int (g i j)):=by
 intro pins s σ H x y v u Q I rx ry h;obtain⟨i,j,rfl,rfl,q⟩:=h;obtain⟨t,rfl⟩:=rx;obtain⟨t',rfl⟩:=ry;exact rule i j t t' s _ _ ⟨.int (g i j),H,I.tok _,⟨_,rfl⟩,q⟩
def Kx{f:ai->ai->Sem ai}{g:Int->Int->Bool}
 (rule:∀(i j:Int)(t u:Tok)(s:au)(Q:ai->au->Prop)(E:ai->au->Prop),Q (.bool (g i j)) s->wpAny (model X.prog X.w) X.A (f (.int i t) (.int j u)) Q E s) :
 OpR X f (rI0 λi j=>.bl (g i j)):=by
 intro pins s σ H x y v u Q I rx ry h;obtain⟨i,j,rfl,rfl,q⟩:=h;obtain⟨t,rfl⟩:=rx;obtain⟨t',rfl⟩:=ry;exact rule i j t t' s _ _ ⟨.bl (g i j),H,I,rfl,q⟩
def Ox(i j:Int):Prop:=0<=j/\j<=1000000/\i.natAbs<2^64
def Kw:OpR X (binaryOp .Add) (rI0 λi j=>.int (i+j)):=Nd λ_ _ _ _ _ _ _ q=>add_int q
def Kn:OpR X (binaryOp .Sub) (rI0 λi j=>.int (i-j)):=Nd λ_ _ _ _ _ _ _ q=>sub_int q
def Kq:OpR X (binaryOp .Mod) (rI (λ_ j=>0<j) λi j=>.int (i%j)):=opI λi j _ _ _ _ _ hc q=>by
 have h1:(0:Int)<j:=hc;exact mod_int' ∅ (by rw[Int.fmod_eq_emod_of_nonneg i ∅];exact q)
def Ko:OpR X (binaryOp .Pow) (rI Ox λi j=>.int (i^j.toNat)):=opI λ_ _ _ _ _ _ _ hc q=>pow_int_small hc.1 hc.2.1 hc.2.2 q
def unI{f:ai->Sem ai}{g:Int->Int}
 (rule:∀(i:Int)(t:Tok)(s:au)(Q:ai->au->Prop)(E:ai->au->Prop),Q (.int (g i) s.toks) {s with toks:=s.toks+1}->wpAny (model X.prog X.w) X.A (f (.int i t)) Q E s) :
 UnR X f (rU λi=>.int (g i)):=by
 intro pins s σ H x v Q I rx h;obtain⟨i,rfl,q⟩:=h;obtain⟨t,rfl⟩:=rx;exact rule i t s _ _ ⟨.int (g i),H,I.tok _,⟨_,rfl⟩,q⟩
def Js:UnR X (unaryOp .USub) (rU λi=>.int (-i)):=unI λ_ _ _ _ _ q=>neg_int q
end
def NY:V->V->Bool
 |.non,.non=>true|.non,.int _=>true|.int _,.non=>true|.non,.bl _=>true|.bl _,.non=>true|.non,.str _=>true|.str _,.non=>true
 |.int _,.int _=>true|.bl _,.bl _=>true|.str _,.str _=>true
 |.int _,.str _=>true|.str _,.int _=>true|.bl _,.str _=>true|.str _,.bl _=>true
 |_,_=>false
def rEq:R2:=λx y H Q=>NY x y=true/\Q (.bl (decide (x=y))) H
def Ht:decide (V.int i=V.int j)=(i==j):=by
 rw[bJ];simp
def Lq:decide (V.bl i=V.bl j)=(i==j):=by
 rw[bJ];simp
def Hs:decide (V.str i=V.str j)=(i==j):=by
 rw[bJ];simp
section
variable{X:Cx}{a b c:aE}{ta tb tc:TE}{pos:Pos}
def fk(I:Inv X pins σ H s)(q:Q (.bl k) H)(e:k=k'):EP X pins σ Q (.bool k') s:=by
 subst e;exact⟨.bl k,H,I,rfl,q⟩
def Nb:OpR X (compareOp .Eq) rEq:=by
 intro pins s σ H x y v u Q I rx ry h;obtain⟨hs,q⟩:=h
 cases x with
 |non =>
  cases rx
  cases y with
  |non=>cases ry;exact PySem.EqNone.eq_none_none (fk I q ↥0)
  |bl j=>cases ry;exact PySem.EqNone.eq_none_bool (fk I q ↥0)
  |int j=>obtain⟨t',rfl⟩:=ry;exact PySem.EqNone.eq_none_int (fk I q ↥0)
  |str j=>obtain⟨t',rfl⟩:=ry;exact PySem.EqNone.eq_none_str (fk I q ↥0)
  |_=>exact absurd (show false=true from hs) aq
 |bl i =>
  cases rx
  cases y with
  |non=>cases ry;exact PySem.EqNone.eq_bool_none (fk I q ↥0)
  |bl j=>cases ry;exact eq_bool (fk I q Lq)
  |str j=>obtain⟨t',rfl⟩:=ry;exact PySem.EqMixed.eq_bool_str (fk I q ↥0)
  |_=>exact absurd (show false=true from hs) aq
 |int i =>
  obtain⟨t,rfl⟩:=rx
  cases y with
  |non=>cases ry;exact PySem.EqNone.eq_int_none (fk I q ↥0)
  |int j=>obtain⟨t',rfl⟩:=ry;exact eq_int (fk I q Ht)
  |str j=>obtain⟨t',rfl⟩:=ry;exact PySem.EqMixed.eq_int_str (fk I q ↥0)
  |_=>exact absurd (show false=true from hs) aq
 |str i =>
  obtain⟨t,rfl⟩:=rx
  cases y with
  |non=>cases ry;exact PySem.EqNone.eq_str_none (fk I q ↥0)
  |bl j=>cases ry;exact PySem.EqMixed.eq_str_bool (fk I q ↥0)
  |int j=>obtain⟨t',rfl⟩:=ry;exact PySem.EqMixed.eq_str_int (fk I q ↥0)
  |str j=>obtain⟨t',rfl⟩:=ry;exact eq_str (fk I q Hs)
  |_=>exact absurd (show false=true from hs) aq
 |_=>cases y<;>exact absurd (show false=true from hs) aq
def MY:OpR X (compareOp .Lt) (rI0 λi j=>.bl (decide (i<j))):=Kx λ_ _ _ _ _ _ _ q=>lt_int q
def MZ:OpR X (compareOp .LtE) (rI0 λi j=>.bl (decide (i<=j))):=Kx λ_ _ _ _ _ _ _ q=>le_int q
def Na:OpR X (compareOp .Gt) (rI0 λi j=>.bl (decide (j<i))):=Kx λ_ _ _ _ _ _ _ q=>gt_int q
def zO:OpR X (compareOp .In) (λx y H Q=>∃i j,x=.str i/\y=.str j/\Q (.bl (!(cR j i 0 j.length 1).isEmpty)) H):=by
 intro pins s σ H x y v u Q I rx ry h;obtain⟨i,j,rfl,rfl,q⟩:=h;obtain⟨t,rfl⟩:=rx;obtain⟨t',rfl⟩:=ry;exact in_str (fk I q rfl)
def Kr:OpR X (compareOp .Is) (λx y H Q=>y=.non/\Q (.bl (decide (x=.non))) H):=by
 intro pins s σ H x y v u Q I rx ry h;obtain⟨rfl,q⟩:=h;cases ry;refine is_none_gen (fk I q ?_)
 cases x<;>first
  |(cases rx;rfl)
  |(obtain⟨t,rfl⟩:=rx;rfl)
def OpR.or{f:ai->ai->Sem ai}{r r':R2}(h:OpR X f r)(h':OpR X f r'):OpR X f (λx y H Q=>r x y H Q\/r' x y H Q):=by
 intro pins s σ H x y v u Q I rx ry q;rcases q with q|q
 .exact h pins s σ H x y v u Q I rx ry q
 .exact h' pins s σ H x y v u Q I rx ry q
def yq{op:ue}{r:R2}(ho:OpR X (compareOp op) r)(ha:PE X a ta)(hb:PE X b tb)(hm:behindInMarks op b=false):PE X (.Compare a [op] [b] pos) (tOp r ta tb):=by
 intro pins s σ H Q I h;exact wpAny_Compare1 (LM ha hb I h λv u s2 x y H2 I2 rx ry q=>ho pins s2 σ H2 x y v u Q I2 rx ry q) hm
def Ik(t:TE):TT:=λσ H Q=>t σ H λx H'=>∃k,x=.bl k/\Q k H'
def yj(ho:OpR X (compareOp op) r)(ha:PE X a ta)(hb:PE X b tb)(hm:behindInMarks op b=false):PT X (.Compare a [op] [b] pos) (Ik (tOp r ta tb)):=by
 intro pins s σ H Q I h
 refine EL (thn (ha pins s σ H _ I h) λv s1⟨x,H1,I1,r1,q1⟩=>thn (hb pins s1 σ H1 _ I1 q1) λu s2⟨y,H2,I2,r2,q2⟩ =>
  thn (ho pins s2 σ H2 x y v u _ I2 r1 r2 q2) λc s3⟨z,H3,I3,r3,k,e,q3⟩=>?_) hm
 subst e;cases r3;exact bW ⟨H3,I3,q3⟩
def wc(r r':R2)(ta tb tc:TE):TE:=λσ H Q=>ta σ H λx H1=>tb σ H1 λy H2=>r x y H2 λz H3=>∃k,z=.bl k /\
 (if k=true then tc σ H3 λw' H4=>r' y w' H4 Q else Q (.bl false) H3)
def CN(ho:OpR X (compareOp op) r)(ho':OpR X (compareOp op') r')(ha:PE X a ta)(hb:PE X b tb)(hc:PE X c tc)
 (hm:lastMarks [op,op'] [b,c]=false:=by with_unfolding_all rfl):PE X (.Compare a [op,op'] [b,c] pos) (wc r r' ta tb tc):=by
 intro pins s σ H Q I h
 refine Compare_chain (thn (ha pins s σ H _ I h) λv s1⟨x,H1,I1,r1,q1⟩=>chain_link (thn (hb pins s1 σ H1 _ I1 q1) λu s2⟨y,H2,I2,r2,q2⟩ =>
  thn (ho pins s2 σ H2 x y v u _ I2 r1 r2 q2) λd s3⟨z,H3,I3,r3,k,e,q3⟩=>?_)) hm
 subst e;cases r3;refine bW ?_
 cases k with
 |false=>exact ite_ff ⟨.bl false,H3,I3,rfl,q3⟩
 |true=>exact ite_tt (chain_last (thn (hc pins s3 σ H3 _ I3 q3) λw' s4⟨z',H4,I4,r4,q4⟩=>ho' pins s4 σ H4 y z' u w' Q I4 r2 r4 q4))
def Cu(ho:OpR X (compareOp op) r)(ho':OpR X (compareOp op') r')(ha:PE X a ta)(hb:PE X b tb)(hc:PE X c tc)
 (hm:lastMarks [op,op'] [b,c]=false:=by with_unfolding_all rfl):PT X (.Compare a [op,op'] [b,c] pos) (Ik (wc r r' ta tb tc)):=by
 intro pins s σ H Q I h
 refine isTrue_chain (thn (ha pins s σ H _ I h) λv s1⟨x,H1,I1,r1,q1⟩=>test_link (thn (hb pins s1 σ H1 _ I1 q1) λu s2⟨y,H2,I2,r2,q2⟩ =>
  thn (ho pins s2 σ H2 x y v u _ I2 r1 r2 q2) λd s3⟨z,H3,I3,r3,k,e,q3⟩=>?_)) hm
 subst e;cases r3;refine bW ?_
 cases k with
 |false =>
  obtain⟨k',e',q'⟩:=q3;cases e'
  exact ite_ff ⟨H3,I3,q'⟩
 |true =>
  refine ite_tt (test_last (thn (hc pins s3 σ H3 _ I3 q3) λw' s4⟨z',H4,I4,r4,q4⟩=>thn (ho' pins s4 σ H4 y z' u w' _ I4 r2 r4 q4) λd' s5⟨z2,H5,I5,r5,k2,e2,q5⟩=>?_));subst e2;cases r5;exact bW ⟨H5,I5,q5⟩
def LV(K:PySem.W.Frag)(x:V)(H:Hp)(k:Bool):Prop :=
 match x with
 |.non=>k=false
 |.bl b=>k=b
 |.int i=>k=(i != 0)
 |.str y=>y.length<=sizeLine/\k=((y.length:Int) != 0)
 |.ref p=>(∃xs,SqL K H p xs/\k=!xs.isEmpty)\/(∃xs,SqT K H p xs/\k=!xs.isEmpty)\/∃kvs,H p=some (.dK kvs)/\k=!kvs.isEmpty
 |_=>False
def wY{κ:Type}{kvs:List (κ×V)}{vs:List (κ×ai)}(r:KV kvs vs):(!vs.isEmpty)=!kvs.isEmpty:=by
 cases r<;>rfl
def pI{xs:List V}{its:List ai}(r:Vals xs its):(!its.toArray.isEmpty)=!xs.isEmpty:=by
 cases r<;>simp
def lu:(sizeLine:Nat)<2^63:=by rw[ub];decide
def Ju:Ow X (λx H Q=>∃k,LV X.K x H k/\Q k H):=by
 intro pins s σ H x v Q I rx h;obtain⟨k,e,q⟩:=h;have hl:=lu;have hs:sizeLine=16777216:=ub
 cases x with
 |non =>
  cases rx;have e':k=false:=e;subst e'
  exact truthy_none ⟨H,I,q⟩
 |bl b =>
  cases rx;have e':k=b:=e;subst e'
  exact bW ⟨H,I,q⟩
 |int i =>
  obtain⟨t,rfl⟩:=rx;have e':k=(i != 0):=e;subst e'
  exact PySem.P.truthy_int ⟨H,I,q⟩
 |str y =>
  obtain⟨t,rfl⟩:=rx;obtain⟨hy,e'⟩:y.length<=sizeLine/\k=((y.length:Int) != 0):=e;subst e'
  exact PySem.P.truthy_str ∅ ⟨H,I.tok _,q⟩
 |ref p =>
  cases rx;have e':(∃xs,SqL X.K H p xs/\k=!xs.isEmpty)\/(∃xs,SqT X.K H p xs/\k=!xs.isEmpty)\/∃kvs,H p=some (.dK kvs)/\k=!kvs.isEmpty:=e;rcases e' with⟨xs,hx,e'⟩|⟨xs,hx,e'⟩|⟨kvs,hx,e'⟩
  .subst e';obtain⟨its,r,pl,hz⟩:=I.list hx;have hlen:=r.length;exact wpAny_truthy_list pl.isList (by simp only[aB];lia) ⟨H,I.tok _,by rw[pI r];exact q⟩
  .subst e';obtain⟨its,r,pl,hz⟩:=I.tuple hx;have hlen:=r.length;exact truthy_tuple pl (by simp only[aB];lia) ⟨H,I.tok _,by rw[pI r];exact q⟩
  .subst e';obtain⟨hz,hS,vs,r,m⟩:kvs.length<=sizeLine/\(p==sysModules)=false/\∃vs,KV kvs vs/\s.heap.DictOf (dA X.prog X.w) p vs:=I.hok p _ hx;have hlen:kvs.length=vs.length:=Paired.length r
   exact wpAny_truthy_dict hS m ∅ ⟨H,I.tok _,by rw[wY r];exact q⟩
 |_=>exact(show False from e).elim
def pv(ha:PE X a ta)(he:∀whole,isTrue a X.env whole=(do let v <- whole;standAt a.pos;holding [v] (truthy v))) :
 PT X a (λσ H Q=>ta σ H λx H'=>∃k,LV X.K x H' k/\Q k H'):=by
 intro pins s σ H Q I h;exact isTrue_plain (thn (ha pins s σ H _ I h) λv s1⟨x,H1,I1,r1,q1⟩=>Ju pins s1 σ H1 x v Q I1 r1 q1) (he _)
def wD:OpR X (binaryOp .Add) (λx y H Q=>∃i j,x=.str i/\y=.str j/\i.length+j.length<=sizeLine/\Q (.str (i++j)) H):=by
 intro pins s σ H x y v u Q I rx ry h;obtain⟨i,j,rfl,rfl,hz,q⟩:=h;obtain⟨t,rfl⟩:=rx;obtain⟨t',rfl⟩:=ry;exact add_str (λt' tk=>⟨.str (i++j),H,I.tok _,⟨_,rfl⟩,q⟩) hz
def vals1(r:Vals [x] us):∃u,us=[u]/\RelV x u:=by
 cases r with
 |cons r1 r2=>cases r2;exact⟨_,rfl,r1⟩
def vals2(r:Vals [x,y] us):∃u w',us=[u,w']/\RelV x u/\RelV y w':=by
 cases r with
 |cons r1 r2 =>
  cases r2 with
  |cons r3 r4=>cases r4;exact⟨_,_,rfl,r1,r3⟩
def Ai(hc:X.calm=true):cC X (.builtin "max") (λxs H Q=>∃i j,xs=[.int i,.int j]/\Q (.int (if j>i then j else i)) H):=by
 intro pins s σ H xs us Q I r h;obtain⟨i,j,rfl,q⟩:=h;obtain⟨u,w',rfl,⟨t,rfl⟩,⟨t',rfl⟩⟩:=vals2 r;refine max_two_ints (I.ok.hd hc) λh' tk k=>⟨_,H,I.kept k,?_,q⟩;by_cases hj:j>i
 .rw[if_pos hj,if_pos hj];exact⟨_,rfl⟩
 .rw[if_neg hj,if_neg hj];exact⟨_,rfl⟩
def Ak:cC X (.type "int") (λxs H Q=>(∃i,xs=[.int i]/\Q (.int i) H)\/∃k,xs=[.bl k]/\Q (.int (if k then 1 else 0)) H):=by
 intro pins s σ H xs us Q I r h;rcases h with⟨i,rfl,q⟩|⟨k,rfl,q⟩
 .obtain⟨u,rfl,t,rfl⟩:=vals1 r;exact call_int_int ⟨.int i,H,I,⟨_,rfl⟩,q⟩
 .obtain⟨u,rfl,r1⟩:=vals1 r;cases r1;exact call_int_bool ⟨.int (if k then 1 else 0),H,I.tok _,⟨_,rfl⟩,q⟩
def tw:cC X (.type "str") (λxs H Q=>∃i,xs=[.int i]/\i.natAbs.log2<1920/\Q (.str (toString i)) H):=by
 intro pins s σ H xs us Q I r h;obtain⟨i,rfl,hz,q⟩:=h;obtain⟨u,rfl,t,rfl⟩:=vals1 r;exact PySem.P.str_of_int hz ⟨.str _,H,I.tok _,⟨_,rfl⟩,q⟩
end
end L2
namespace L2
open PySem PySem.Spec PyProof.Rows
section
variable{prog:aP}{w:bA}{A:bB}{E:ai->au->Prop}{s:au}{K:PySem.W.Frag}{x dx C f:av}{mA:Str->Option ai}{name:Str}{v:ai}
end
section
variable{P:aP}{w:bA}{H H':Hp}{h h':bV}{a C dx:av}{fs fs':List (Str×V)}
end
section
variable{X:Cx}{pins:List (av×Obj)}{σ:St}{H:Hp}{s:au}{a C dx:av}{fs:List (Str×V)}{f:Str}{v:V}{A:bB}{E:ai->au->Prop}
end
section
variable{X:Cx}{o e value:aE}{f:Str}{pos pos' tpos:Pos}{ta tv:TE}
end
section
variable{X:Cx}{pins:List (av×Obj)}{σ:St}{H:Hp}{s:au}{A:bB}{E:ai->au->Prop}{Q:ai->au->Prop}{c:ai}{b:Bool}
end
end L2
namespace L2
open PySem PySem.Spec PyProof.Rows
structure jL(k:Nat)(A:bB):Prop where
 hd:A.handled=none
 dp:A.depth+3*k+5<recursionLimit
 un:A.units+16*k+200<cLine
def jL.deeper{k:Nat}{A:bB}(r:jL (k+1) A)(env:Env):jL k (A.deeper env) :=
 ⟨r.hd,by have:=r.dp;show A.depth+1+3*k+5<_;lia,by have:=r.un;show A.units+3+16*k+200<_;lia⟩
def jL.depth{k:Nat}{A:bB}(r:jL k A):A.depth<recursionLimit:=by have:=r.dp;lia
def Bx:TA:=λ_ H Q=>Q [] H
def nB(ta:TE)(tr:TA):TA:=λσ H Q=>ta σ H λx H1=>tr σ H1 λxs H2=>Q (x::xs) H2
section
variable{X:Cx}{e:aE}{es:List aE}{te:TE}{t:TA}{pos:Pos}
def iM:PA X [] Bx:=λ_ _ _ _ H Q I h=>AI ⟨[],H,I,.nil,h⟩
def dQ(ha:PE X e te)(hr:PA X es t)(hs:starEach (e::es) X.env=(false,eval e X.env)::starEach es X.env:=by rfl):PA X (e::es) (nB te t):=by
 intro pos pins s σ H Q I h;rw[hs];show wpAny _ _ (spliced ((false,eval e X.env)::backTo pos (starEach es X.env))) _ _ s;refine mC (thn (ha pins s σ H _ I h) λu s1⟨x,H1,I1,r1,q1⟩=>?_);exact thn (hr pos pins s1 σ H1 _ I1 q1) λus s2⟨xs,H2,I2,r2,q2⟩=>⟨x::xs,H2,I2,.cons r1 r2,q2⟩
def NI(t:TA):TE:=λσ H Q=>t σ H λxs H1=>xs.length<=sizeLine/\∀p,H1 p=none->Q (.ref p) (upd H1 p (.tup xs))
def NO(t:TA):TE:=λσ H Q=>t σ H λxs H1=>xs.length<=sizeLine/\∀p,H1 p=none->Q (.ref p) (upd H1 p (.lst xs))
def wz(h:PA X es t):PE X (.Tuple es x1 pos) (NI t):=by
 intro pins s σ H Q I hq;refine wpAny_Tuple_spliced (thn (h pos pins s σ H _ I hq) λus s1⟨xs,H1,I1,r,z,q⟩=>⟨by rw[<- r.length];exact z,?_⟩);have hf:H1 s1.heap.objs.size=none:=I1.hok.fresh (aD _);refine⟨.ref s1.heap.objs.size,upd H1 s1.heap.objs.size (.tup xs),I1.laid (t':=s1.toks) (λb u e=>ax _ e) (aD _) ?_,rfl,q _ hf⟩;exact⟨z,us,r,⟨_,aV _ rfl,rfl,_,rfl⟩⟩
def CH(h:PA X es t):PE X (.List es pos) (NO t):=by
 intro pins s σ H Q I hq;refine wpAny_List_spliced (thn (h pos pins s σ H _ I hq) λus s1⟨xs,H1,I1,r,z,q⟩=>⟨by rw[<- r.length];exact z,?_⟩);have hf:H1 s1.heap.objs.size=none:=I1.hok.fresh (aD _);refine⟨.ref s1.heap.objs.size,upd H1 s1.heap.objs.size (.lst xs),I1.laid (t':=s1.toks) (λb u e=>ax _ e) (aD _) ?_,rfl,q _ hf⟩;exact⟨z,us,0,r,aV _ rfl⟩
end
abbrev Sp:=List V->Hp->VK->XK->Prop
abbrev CXT:=List Env->Hp->au->XK->ai->au->Prop
structure HP(P:aP)(w:bA)(K:PySem.W.Frag)(mg:Str->Option ai)(base:bV)(A:bB)(outer:List Env)(s:au)(H:Hp):Prop where
 frames:A.frames=some outer
 mod:Mod K mg base
 bs:∀b o,base.get? b=some o->s.heap.get? b=some o/\H b=none
 bsz:base.objs.size<=s.heap.objs.size
 funs:s.heap.FunFrames base outer
 frf:∀b∈frs outer,H b=none
 hok:HOk P w H s.heap
 bare:jR s.gens
def CE(outer:List Env)(P:aP)(w:bA)(H:Hp)(s:au)(Q:VK)(u:ai)(s':au):Prop :=
 ∃v H',s'.os=s.os/\jR s'.gens/\Un (frs outer) [] H H' s.heap s'.heap/\HOk P w H' s'.heap/\RelV v u/\Q v H'
def CR(CX:CXT)(outer:List Env)(P:aP)(w:bA)(H:Hp)(s:au)(Q:VK)(E:XK)(r:Ma)(s':au):Prop :=
 match r with
 |.ok (.ret u)=>CE outer P w H s Q u s'
 |.ok _=>False
 |.error e=>CX outer H s E e s'
structure gB(P:aP)(w:bA)(K:PySem.W.Frag)(mg:Str->Option ai)(base:bV)(CX:CXT)(k:Nat)(f:av)(fd:dZ)(ps:List Str)(sp:Sp):Prop where
 len:∀vs H Q E,sp vs H Q E->vs.length=ps.length
 run:∀(A:bB)(outer:List Env)(s:au)(H:Hp)(args:Args)(us:List ai)(vs:List V)(Q:VK)(E:XK),jL k A->HP P w K mg base A outer s H->BindsTo s fd args (ps.zip us)->Vals vs us->sp vs H Q E ->
  codeAny (model P w) A (.call (.ref f) args) (CR CX outer P w H s Q E) s
section
variable{X:Cx}{pins:List (av×Obj)}{σ:St}{H:Hp}{s s':au}
def Inv.env0(I:Inv X pins σ H s):HP X.prog X.w X.K X.mg X.base X.A X.stack s H :=
 ⟨I.ok.frames,I.ok.mod,I.bs,aX I.ok.bsz I.sz,I.stack,I.stkFree,I.hok,I.bare⟩
def Inv.after(I:Inv X pins σ H s)(h:CE X.stack X.prog X.w H s Q u s'):EP X pins σ Q u s':=by
 obtain⟨v,H',os,bare,un,hok,r,q⟩:=h;obtain⟨hh,g,d,t,os'⟩:=s';obtain rfl:os'=s.os:=os;exact⟨v,H',I.call (h':=hh) (g':=g) (d':=d) (t':=t) (ch:=[]) un hok bare (λb z=>absurd z ↥0),r,q⟩
end
def Mx(sp:Sp)(dvs:List V)(E:XK)(t:TA):TE:=λσ H Q=>t σ H λvs H1=>sp (vs++dvs) H1 Q E
def Binds(K:PySem.W.Frag)(fd:dZ)(ps:List Str)(ds:List ai):Prop :=
 ∀(s:au)(us:List ai),K.In s.heap->(us++ds).length=ps.length->BindsTo s fd ⟨us,[]⟩ (ps.zip (us++ds))
def Binds.all{K:PySem.W.Frag}{fd:dZ}{ps:List Str}(h:∀us:List ai,us.length=ps.length->bindArgs fd ⟨us,[]⟩=pure (ps.zip us)):Binds K fd ps []:=λs us _ hl=>by
 rw[bq]at hl |-;exact .of_eq (h us hl)
def Passes(CX:CXT)(X:Cx)(E:XK):Prop:=∀(pins:List (av×Obj))(σ:St)(H:Hp)(s:au)(e:ai)(s':au),Inv X pins σ H s->CX X.stack H s E e s'->X.xe e s'
section
variable{X:Cx}{CX:CXT}{k:Nat}{f C:av}{fd:dZ}{ps:List Str}{sp:Sp}{dvs:List V}{ds:List ai}{E:XK}{x m:Str}{p pos apos:Pos}{e o:aE}{es:List aE}{ta:TE}{t:TA}
def JR(F:gB X.prog X.w X.K X.mg X.base CX k f fd ps sp)(hr:jL k X.A)(hb:Binds X.K fd ps ds)(hd:Vals dvs ds)(hx:Passes CX X E)
 (I:Inv X pins σ H s)(r:Vals vs us)(h:sp (vs++dvs) H Q E):wpAny (model X.prog X.w) X.A (call (.ref f) us) (EP X pins σ Q) X.xe s:=by
 have r2:Vals (vs++dvs) (us++ds):=r.append hd;have hl:(us++ds).length=ps.length:=by rw[<- r2.length];exact F.len _ _ _ _ h
 refine wpAny_call (qt (F.run X.A X.stack s H ⟨us,[]⟩ (us++ds) (vs++dvs) Q E hr I.env0 (hb s us I.kIn hl) r2 h) λr s' hq=>?_)
 cases r with
 |error e=>exact hx pins σ H s e s' I hq
 |ok fl =>
  cases fl with
  |ret u=>exact I.after hq
  |next=>exact bu hq
  |brk=>exact bu hq
  |cont=>exact bu hq
def Gv(F:gB X.prog X.w X.K X.mg X.base CX k f fd ps sp)(hr:jL k X.A)(hg:Gl X x)(hm:X.mg x=some (.ref f))(hk:PySem.W.keepIn X.K (.ref f)=true)(hb:Binds X.K fd ps ds)(hd:Vals dvs ds)(hx:Passes CX X E)
 (ha:PA X (e::es) t)(hdb:(x==("__debug__":Str))=false:=by decide)(he:starEach (e::es) X.env=(false,eval e X.env)::starEach es X.env:=by rfl)(hpl:(backTo pos (starEach es X.env)).any (·.1)=false:=by rfl) :
 PE X (.Call (.Name x p) (e::es) [] pos) (Mx sp dvs E t):=by
 intro pins s σ H Q I h;refine jD (kA I hg hm ?_ hdb);refine PySem.W.callWith_K (h₀:=X.base) I.ok.mod.kin hk (thn (ha pos pins s σ H _ I h) λus s1⟨vs,H1,I1,r,q⟩=>⟨I1.kIn,?_⟩) he hpl;exact JR F hr hb hd hx I1 r q
end
section
variable{X:Cx}{CX:CXT}{k:Nat}{f C:av}{fd:dZ}{ps ks:List Str}{sp:Sp}{E:XK}{x m:Str}{p pos apos kpos:Pos}{e o:aE}{es:List aE}{kws:List dP}{te ta:TE}{t tk:TA}{nm:Option Str}
variable{g:List ai->List ai->List ai}{gV:List V->List V->List V}
end
structure kE(N P:List Str)(sc:dO):Prop where
 kind:sc.kind=.function
 co:sc.isCoroutine=false
 gen:sc.isGenerator=false
 nd:N.Nodup
 pre:N.take P.length=P
 par:∀x∈P,sc.names.lookup x=some .local\/sc.names.lookup x=some .cell
 nofree:∀y∈sc.names,y.2≠.free
def rD{kindOf:Str->Option jE}{x:Str}:∀{binds:List (Str×ai)}{m:Str->Option ai},(∀v,(x,v)∉binds)->bindL kindOf binds m x=m x
 |[],_,_=>rfl
 |(n,v)::r,m,h=>by
  unfold bindL;rw[rD λw hw=>h w (ao _ hw)];split
  .have:x≠n:=by rintro rfl;exact h v ay
   simp[this]
  .rfl
def rF{kindOf:Str->Option jE}{x:Str}:∀{binds:List (Str×ai)}{m:Str->Option ai},(∀v,(x,v)∉binds)->bindC kindOf binds m x=m x
 |[],_,_=>rfl
 |(n,v)::r,m,h=>by
  unfold bindC;rw[rF λw hw=>h w (ao _ hw)];split
  .rfl
  .have:x≠n:=by rintro rfl;exact h v ay
   simp[this]
def rE{kindOf:Str->Option jE}{x:Str}{v:ai}:∀{P:List Str}{vs:List ai}{i:Nat}{m:Str->Option ai},P.Nodup->P[i]?=some x->vs[i]?=some v->kindOf x=some .local ->
 bindL kindOf (P.zip vs) m x=some v
 |[],_,_,_,_,h,_,_=>by simp at h
 |_::_,[],_,_,_,_,h,_=>by simp at h
 |p::P,w::vs,0,m,nd,h1,h2,hk=>by
  simp at h1 h2;subst h1;subst h2;show bindL kindOf ((p,w)::P.zip vs) m p=_;unfold bindL;rw[rD λv hv=>(hJ.mp nd).1 (qb hv).1,if_pos hk]
  simp
 |p::P,w::vs,i+1,m,nd,h1,h2,hk=>by
  show bindL kindOf ((p,w)::P.zip vs) m x=_;unfold bindL;exact rE (i:=i) (hJ.mp nd).2 (by simpa using h1) (by simpa using h2) hk
def rG{kindOf:Str->Option jE}{x:Str}{v:ai}:∀{P:List Str}{vs:List ai}{i:Nat}{m:Str->Option ai},P.Nodup->P[i]?=some x->vs[i]?=some v->kindOf x≠some .local ->
 bindC kindOf (P.zip vs) m x=some v
 |[],_,_,_,_,h,_,_=>by simp at h
 |_::_,[],_,_,_,_,h,_=>by simp at h
 |p::P,w::vs,0,m,nd,h1,h2,hk=>by
  simp at h1 h2;subst h1;subst h2;show bindC kindOf ((p,w)::P.zip vs) m p=_;unfold bindC;rw[rF λv hv=>(hJ.mp nd).1 (qb hv).1,if_neg hk]
  simp
 |p::P,w::vs,i+1,m,nd,h1,h2,hk=>by
  show bindC kindOf ((p,w)::P.zip vs) m x=_;unfold bindC;exact rG (i:=i) (hJ.mp nd).2 (by simpa using h1) (by simpa using h2) hk
def start(N:List Str)(vs:List V):St:=vs.map some++aC (N.length-vs.length) none
def ka(CX:CXT)(P:aP)(w:bA)(K:PySem.W.Frag)(mg:Str->Option ai)(base:bV)(N:List Str)(qual:Str)(scope:dO)(f:av)(cd:ai)(A:bB)(outer:List Env)(s:au)(H:Hp)(E:XK):Cx where
 prog:=P
 w:=w
 K:=K
 mg:=mg
 base:=base
 A:=A.deeper (envOfC qual scope s.heap.objs.size f cd)
 N:=N
 s₀:=s
 H₀:=H
 env:=envOfC qual scope s.heap.objs.size f cd
 outer:=outer
 stack:=envOfC qual scope s.heap.objs.size f cd::outer
 ex:=[]
 calm:=true
 fn:=λ_=>true
 pn:=[]
 xe:=λe s'=>wpAny (model P w) (A.deeper (envOfC qual scope s.heap.objs.size f cd)) (leaving (envOfC qual scope s.heap.objs.size f cd) e) (λ_ s''=>CX outer H s E e s'') (λe' s''=>CX outer H s E e' s'') s'
def vB{sc:dO}{n:Nat}{x:Str}(h:sc.names.lookup x=some .cell):∃c,(cellsFrom n sc.names []).lookup x=some c:=by
 have q:=PySem.W.cellsFrom_some sc.names n [] (.inl h);exact rH.mp q
def zV{CX:CXT}{P:aP}{w:bA}{K:PySem.W.Frag}{mg:Str->Option ai}{base:bV}{N ps:List Str}{qual:Str}{scope:dO}{f:av}{cd:ai}{A:bB}{outer:List Env}{s s1:au}{H:Hp}{E:XK}{us:List ai}{vs:List V}
 (S:kE N ps scope)(hd:A.handled=none)(e0:HP P w K mg base A outer s H)(hl:vs.length=ps.length)(r:Vals vs us)
 (x:InCallC s s.heap.objs.size (bindL (envOfC qual scope s.heap.objs.size f cd).kindOf (ps.zip us) λ_=>none) (cellsFrom (s.heap.objs.size+1) scope.names []) (bindC (envOfC qual scope s.heap.objs.size f cd).kindOf (ps.zip us) λ_=>none) s1) :
 Inv (ka CX P w K mg base N qual scope f cd A outer s H E) [] (start N vs) H s1:=by
 have hpl:ps.length<=N.length:=by have:=congrArg je S.pre;rw[bw]at this;lia
 obtain⟨h1,tk,rfl,hk⟩:=x.done;have noA:∀b:av,b∉(ka CX P w K mg base N qual scope f cd A outer s H E).ex:=λb z=>absurd (show b∈([]:List av)from z) ↥0
 refine⟨⟨e0.mod,S.kind,rfl,rfl,aD _,λy z c h1 h2=>?_,λy hy=>?_,λy c _ h=>?_,λ_=>hd,Around.frames_deeper e0.frames,.inr ⟨rfl,rfl⟩,λb z=>absurd z (noA b),e0.bs,e0.bsz,λb _ _=>noA b,λb z=>absurd z (noA b),e0.funs,e0.frf⟩,
  rfl,e0.bare,Un.kept hk,⟨_,x.toInCall.ns,λi y v h1 h2 h3=>?_⟩,λy c h=>⟨_,x.cell y c h⟩,e0.hok.fresh (aD _),λy c h=>?_,λp hp=>absurd (show p∈([]:List (av×Obj))from hp) ↥0,e0.hok.kept hk,?_⟩
 .exact name_of_addr x.apart (PySem.mem_of_lookup h1) (PySem.mem_of_lookup h2)
 .have hy:scope.names.lookup y=some .cell\/scope.names.lookup y=some .free:=hy;rcases hy with hy|hy
  .exact vB hy
  .exact absurd rfl (S.nofree _ (PySem.mem_of_lookup hy))
 .exact cG (x.above y c (PySem.mem_of_lookup h))
 .have hi:i<vs.length:=by
   unfold start at h2;by_cases hi:i<vs.length
   .exact hi
   .rw[fi (by simpa using hi)]at h2;rw[fZ]at h2;split at h2<;>cases h2
  have ha:vs[i]?=some v:=by
   unfold start at h2;rw[cw (by simpa using hi),bH]at h2
   cases e:vs[i]? with
   |none=>rw[e]at h2;cases h2
   |some a=>rw[e]at h2;cases h2;rfl
  obtain⟨u,hu,rv⟩:=r.get ha
  have hp:ps[i]?=some y:=by
   rw[<- S.pre,dF ∅];exact h1
  have ndP:ps.Nodup:=by rw[<- S.pre];exact S.nd.sublist (List.take_sublist _ _)
  refine⟨u,rv,?_⟩;rcases S.par y (cY hp)with k|k
  .exact .inl ⟨k,rE ndP hp hu k⟩
  .obtain⟨c,e⟩:=vB (n:=s.heap.objs.size+1) k;refine .inr ⟨.inl k,c,e,?_⟩;have q:=x.cell y c e;rw[rG ndP hp hu (by show scope.names.lookup y≠_;rw[k];decide)]at q;exact q
 .exact e0.hok.fresh (cG (x.above y c (PySem.mem_of_lookup h)))
 .unfold start;show _=N.length;rw[az,ak,cQ]
  lia
def IH{CX:CXT}{P:aP}{w:bA}{K:PySem.W.Frag}{mg:Str->Option ai}{base:bV}{k:Nat}{f:av}{name qual:Str}{params:ua}{body:List bE}{scope:dO}{dV kV doc pm cdv ct oc:ai}{an od:Option av}
 {osl:Array (Option ai)}{N ps:List Str}{sp:Sp}(lk:K.lookup f=some ⟨oc,od,.func (PySem.W.fnOf name qual params body scope dV kV doc pm an cdv ct),osl⟩)(hcd:PySem.W.codeIn K cdv qual=true)(S:kE N ps scope)
 (len:∀vs H Q E,sp vs H Q E->vs.length=ps.length)
 (hbody:∀(A:bB)(outer:List Env)(s:au)(H:Hp)(vs:List V)(Q:VK)(E:XK),jL k (A.deeper (envOfC qual scope s.heap.objs.size f cdv))->sp vs H Q E ->
   ∃t,PSs (ka CX P w K mg base N qual scope f cdv A outer s H E) body t/\t {nx:=λ_ H'=>Q .non H',rt:=Q} (start N vs) H) :
 gB P w K mg base CX (k+1) f (PySem.W.fnOf name qual params body scope dV kV doc pm an cdv ct) ps sp:=by
 refine⟨len,λA outer s H args us vs Q E hr e0 hb r hsp=>?_⟩;have hl:=len _ _ _ _ hsp;have KX:K.In s.heap:=e0.mod.kin.keeps λb o e=>(e0.bs b o e).1;have lim:s.heap.NoLimit:=e0.mod.nolimit.keeps λb o e=>(e0.bs b o e).1
 have hkind:∀y∈ps.zip us,scope.names.lookup y.1=some .local\/(scope.names.lookup y.1=some .cell/\((cellsFrom (s.heap.objs.size+1) scope.names []).lookup y.1).isSome=true):=λ⟨n,v⟩hy=>by
  rcases S.par n (qb hy).1 with q|q
  .exact .inl q
  .exact .inr ⟨q,PySem.W.cellsFrom_some _ _ _ (.inl q)⟩
 refine codeAny_call_function hr.depth (KX _ _ lk) rfl S.co S.gen rfl (PySem.W.codeRec_of KX hcd) (hb _ _ _ _ ?_);refine wpAny_newFunctionEnv_cells S.kind hkind λenv he s1 x=>?_;subst he;refine⟨lim.keeps x.toInCall.keep,codeAny_func ?_⟩;obtain⟨t,ht,hq⟩:=hbody A outer s H vs Q E (hr.deeper _) hsp;have I:Inv (ka CX P w K mg base N qual scope f cdv A outer s H E) [] (start N vs) H s1:=zV S hr.hd e0 hl r x;refine cu (ht [] s1 (start N vs) H _ I hq) (λfl s' hs=>?_) λe s' hs=>hs
 have fin:∀{σ':St}{H':Hp}{v:V}{u:ai},Inv (ka CX P w K mg base N qual scope f cdv A outer s H E) [] σ' H' s'->RelV v u->Q v H'->CE outer P w H s Q u s' :=
  λ{σ' H' v u}J rv q=>⟨v,H',J.os,J.bare,J.base,J.hok,rv,q⟩
 cases fl with
 |ret u =>
  obtain⟨v,σ',H',J,rv,q⟩:=hs
  exact fin J rv q
 |next =>
  obtain⟨σ',H',J,q⟩:=hs
  exact fin (v:=V.non) (u:=jM) J rfl q
 |brk =>
  obtain⟨_,_,_,q⟩:=hs
  exact bu q
 |cont =>
  obtain⟨_,_,_,q⟩:=hs;exact bu q
end L2
namespace L2
open PySem PySem.Spec PyProof.Rows
section
variable{X:Cx}{x:Str}{p pos:Pos}{e:aE}{es:List aE}{t:TA}{id T:String}{r:List V->Hp->VK->Prop}
def tCB(r:List V->Hp->VK->Prop)(t:TA):TE:=λσ H Q=>t σ H λvs H1=>r vs H1 Q
def gz(hc:cC X (.builtin id) r)(hg:Gl X x)(hm:X.mg x=none)(hv:bootBuiltins x=some (.builtin id))(ha:PA X (e::es) t)(hn:x≠"__name__":=by decide)(hdb:(x==("__debug__":Str))=false:=by decide)
 (he:starEach (e::es) X.env=(false,eval e X.env)::starEach es X.env:=by rfl)(hpl:(backTo pos (starEach es X.env)).any (·.1)=false:=by rfl):PE X (.Call (.Name x p) (e::es) [] pos) (tCB r t):=by
 intro pins s σ H Q I h;refine jD (pG I hg hm hv ?_ hn hdb);exact PyProof.Rows.callWith_builtin1 (thn (ha pos pins s σ H _ I h) λus s1⟨vs,H1,I1,r1,q1⟩=>hc pins s1 σ H1 vs us Q I1 r1 q1) he hpl
def gZ(hc:cC X (.type T) r)(hg:Gl X x)(hm:X.mg x=none)(hv:bootBuiltins x=some (.type T))(ha:PA X (e::es) t)(hn:x≠"__name__":=by decide)(hdb:(x==("__debug__":Str))=false:=by decide)
 (he:starEach (e::es) X.env=(false,eval e X.env)::starEach es X.env:=by rfl)(hpl:(backTo pos (starEach es X.env)).any (·.1)=false:=by rfl):PE X (.Call (.Name x p) (e::es) [] pos) (tCB r t):=by
 intro pins s σ H Q I h;refine jD (pG I hg hm hv ?_ hn hdb);exact gy (thn (ha pos pins s σ H _ I h) λus s1⟨vs,H1,I1,r1,q1⟩=>hc pins s1 σ H1 vs us Q I1 r1 q1) he hpl
end
end L2
namespace HT
open PySem PyProof.Rows
section
open PySem.SeqAt
open PySem.AutoSeq1 (wpAny_loadPart')
open PySem.MeetsSeq PySem.MeetsSeq2 PySem.MeetsSeq3
end
section
variable{prog:aP}{w:bA}{A:bB}{E:ai->au->Prop}{s:au}
def cat_tup(ht:Ic s.heap t vs.toArray)(hb:Ic s.heap b ws.toArray)(hv:vs≠[])
 (h1:ws=[]->Q (.ref t) s)(h2:ws≠[]->Q (.ref s.heap.objs.size) {s with heap:=s.heap.push {cls:=.type "tuple",data:=.seq (vs++ws).toArray} })
 (hsz:vs.length+ws.length<=sizeLine):wpAny (model prog w) A (binaryOp .Add (.ref t) (.ref b)) Q E s:=by
 obtain⟨⟨cls,dd,data,sl⟩,ho,hc,n,hd⟩:=id ht;obtain⟨⟨cls2,dd2,data2,sl2⟩,ho2,hc2,n2,hd2⟩:=id hb;simp only at hc hd hc2 hd2;subst hc hd hc2 hd2;have e:vs.toArray++ws.toArray=(vs++ws).toArray:=by simp
 by_cases hw:ws=[]
 .exact ED ⟨_,ho,rfl⟩ ⟨_,ho2,rfl⟩ kI oJ PySem.F.slot_tuple_add PySem.F.entry_tuple_add (PySem.F.args_tuple_add_2 _ _)
   (tuple_addW1 t b vs.toArray ws.toArray n n2 dd dd2 sl sl2 (by simpa using hv) (by simp[hw])) ⟨ho,ho2,h1 hw⟩
 .refine ED ⟨_,ho,rfl⟩ ⟨_,ho2,rfl⟩ kI oJ PySem.F.slot_tuple_add PySem.F.entry_tuple_add (PySem.F.args_tuple_add_2 _ _)
   (tuple_addW2 t b vs.toArray ws.toArray n n2 dd dd2 sl sl2 (by simpa using hv) (by simpa using hw) (by rw[aB,aB];exact hsz)) ⟨ho,ho2,?_⟩
  rw[e];exact h2 hw
def sIx(n d:Nat):Option Int->Nat
 |none=>d
 |some v=>if v<0 then(v+(n:Int)).toNat else min v.toNat n
def sIx_none(n d:Nat):sIx n d none=d:=rfl
def sIx_nat(n d k:Nat):sIx n d (some (k:Int))=min k n:=by
 show(if(k:Int)<0 then((k:Int)+(n:Int)).toNat else min (k:Int).toNat n)=min k n;rw[if_neg ∅,de]
def JQ(n d:Nat)(hd:d<=n)(o:Option Int):sIx n d o<=n:=by
 cases o with
 |none=>exact hd
 |some v =>
  show(if v<0 then(v+(n:Int)).toNat else min v.toNat n)<=n;by_cases hv:v<0
  .rw[if_pos hv];lia
  .rw[if_neg hv];exact pW _ _
def yT(v:Int)(n d:Nat):(if v<0 then max (v+(n:Int)) 0 else min v (n:Int))=((sIx n d (some v):Nat):Int):=by
 show(if v<0 then max (v+(n:Int)) 0 else min v (n:Int))=(((if v<0 then(v+(n:Int)).toNat else min v.toNat n):Nat):Int);by_cases hv:v<0
 .simp only[if_pos hv];lia
 .simp only[if_neg hv];lia
def xB(lo hi:Option Int)(n:Nat):gM lo hi 1 (n:Int)=(((sIx n 0 lo:Nat):Int),((sIx n n hi:Nat):Int)):=by
 have h1:¬((1:Int)<0):=by lia
 unfold gM;simp only[h1,if_false];refine Prod.ext ?_ ?_
 .cases lo with
  |none=>rfl
  |some v=>exact yT v n 0
 .cases hi with
  |none=>rfl
  |some v=>exact yT v n n
def wx(i j:Nat):eK (i:Int) (j:Int) 1=j-i:=by
 unfold eK;have h1:(1:Int)>0:=by lia
 simp only[h1,if_true,Int.ediv_one];split<;>lia
def pg{v:ai}{o:Option Int}{Q:Option Int->au->Prop}(p:pZ v o)(h:Q o s):wpAny (model prog w) A (Builtin.Slice.slicePartIndex v) Q E s:=by
 cases p with
 |none=>exact slicePart_none h
 |int i t=>exact slicePart_int h
def mP{sl:av}{vl vu:ai}{lo hi:Option Int}{n:Nat}{Q:Int×Int×Nat->au->Prop}(hs:s.heap.IsSliceOf sl vl vu .none)(pl:pZ vl lo)(pu:pZ vu hi)
 (h:Q (((sIx n 0 lo:Nat):Int),1,sIx n n hi-sIx n 0 lo) s):wpAny (model prog w) A (mD (.ref sl) (pure (n:Int))) Q E s:=by
 obtain⟨os,hos,hcs,hds⟩:=id hs;unfold mD Builtin.Slice.sliceFields;refine aI (aI (ir hos hds (x:=vl) rfl (aI (ir hos hds (x:=vu) rfl (aI (ir hos hds (x:=.none) rfl (bf ?_)))))));refine aI (slicePart_none ?_);show wpAny _ _ (if((1:Int)==0)=true then _ else _) _ _ s;rw[if_neg ⇑0];refine aI (pg pl (aI (pg pu (aI (bf ?_)))));show wpAny _ _ (match gM lo hi 1 (n:Int)with|(lo,hi)=>pure (lo,(1:Int),eK lo hi 1)) _ _ s;rw[xB lo hi n];show wpAny _ _ (pure (((sIx n 0 lo:Nat):Int),(1:Int),eK ((sIx n 0 lo:Nat):Int) ((sIx n n hi:Nat):Int) 1)) _ _ s;rw[wx];exact bf h
def CG(xs:Array ai)(i k:Nat):((dW k).filterMap λ(m:Nat)=>xs[((i:Int)+(m:Int)*1).toNat]?).toArray=((xs.toList.drop i).take k).toArray:=by
 have e:(λ(m:Nat)=>xs[((i:Int)+(m:Int)*1).toNat]?)=λm=>xs[i+m]? := by
  funext m
  have:((i:Int)+(m:Int)*1).toNat=i+m:=by lia
  rw[this]
 rw[e];have:=pick_run xs i k;rw[List.filterMap_map]at this;have e2:((λx=>xs[x]?) ∘ λx=>i+x)=λm=>xs[i+m]? := rfl;rw[e2]at this;rw[this]
def getItem_tuple_cut{t sl:av}{items:Array ai}{vl vu:ai}{lo hi:Option Int}{Q:ai->au->Prop}(ht:Ic s.heap t items)(hs:s.heap.IsSliceOf sl vl vu .none)(pl:pZ vl lo)(pu:pZ vu hi)
 (hw:¬(sIx items.size 0 lo=0/\sIx items.size items.size hi=items.size))
 (h:Q (.ref s.heap.objs.size) {s with heap:=s.heap.push {cls:=.type "tuple",data:=.seq ((items.toList.drop (sIx items.size 0 lo)).take (sIx items.size items.size hi-sIx items.size 0 lo)).toArray} })
 (hsz:items.size<=sizeLine):wpAny (model prog w) A (getItem (.ref t) (.ref sl)) Q E s:=by
 have htake:sizeOk (.seq ((items.toList.drop (sIx items.size 0 lo)).take (sIx items.size items.size hi-sIx items.size 0 lo)).toArray):=by
  show((items.toList.drop (sIx items.size 0 lo)).take (sIx items.size items.size hi-sIx items.size 0 lo)).toArray.size<=sizeLine;rw[aB,bw,aR,lF];omega
 have hj:sIx items.size items.size hi<=items.size:=JQ _ _ (aD _) hi;obtain⟨os,hos,hcs,hds⟩:=id hs;have hTs:s.TypeIs (.ref sl) "slice":=⟨os,hos,hcs⟩;unfold getItem
 try with_reducible refine kh ?_
 first|refine aI (bf ?_)|skip
 refine aI (wpAny_sequenceKey ht.typeIs ⇑0 ?_)
 refine aI (wpAny_callSpecial?_slot (name:=xE "__getitem__") ht.typeIs kJ
  (wpAny_call_entry kJ ht.typeIs entry_tuple_getitem ?_ (args_tuple_getitem _ _)))
 show wpAny _ _ (Builtin.Tuple.tupleItemsOf (.ref t) >>= _) _ _ s;refine aI (tupleItemsOf_ ht ?_);refine aI (wpAny_typeOf hTs ?_);rw[if_pos ⇑0];refine aI (mP hs pl pu ?_)
 have hno:¬((((sIx items.size 0 lo:Nat):Int)==0&&(1:Int)==1&&(sIx items.size items.size hi-sIx items.size 0 lo)==items.size)=true):=by
  intro q;rw[aa,aa]at q;have q1:((sIx items.size 0 lo:Nat):Int)=0:=eq_of_beq q.1.1;have q2:sIx items.size items.size hi-sIx items.size 0 lo=items.size:=eq_of_beq q.2;exact hw ⟨by omega,by omega⟩
 show wpAny _ _ (if(((sIx items.size 0 lo:Nat):Int)==0&&(1:Int)==1&&(sIx items.size items.size hi-sIx items.size 0 lo)==items.size)=true then _ else _) _ _ s;rw[if_neg hno,CG]
 first
  |exact aI (m:=eU _) (dM (bf ⟨_,rfl,bf h⟩) htake)
  |exact aI (m:=eU _) (dM (aI (bf (bf ⟨_,rfl,bf h⟩))) htake)
  |exact aI (aI (m:=eU _) (dM (bf (bf ⟨_,rfl,bf h⟩)) htake))
  |exact aI (aI (m:=eU _) (dM (bf ⟨_,rfl,bf h⟩) htake))
end
end HT
namespace L2
open PySem PySem.Spec PyProof.Rows
abbrev TO:=St->Hp->(Option Int->Hp->Prop)->Prop
def PO(X:Cx)(e:Option aE)(t:TO):Prop :=
 ∀(pins:List (av×Obj))(s:au)(σ:St)(H:Hp)(Q:Option Int->Hp->Prop),Inv X pins σ H s->t σ H Q ->
  wpAny (model X.prog X.w) X.A (evalPart e X.env) (λu s'=>∃o H',Inv X pins σ H' s'/\pZ u o/\Q o H') X.xe s
def Fm:TO:=λ_ H Q=>Q none H
def Mq(t:TE):TO:=λσ H Q=>t σ H λx H1=>∃i,x=.int i/\Q (some i) H1
section
variable{X:Cx}{e:aE}{te:TE}{lo hi:Option aE}{tl th:TO}{pos p2:Pos}
def Gq:PO X none Fm:=by
 intro pins s σ H Q I h;rw[Ar];exact bf ⟨none,H,I,.none,h⟩
def Gp(h:PE X e te):PO X (some e) (Mq te):=by
 intro pins s σ H Q I hw;rw[evalPart_some];refine thn (h pins s σ H _ I hw) λu s1 zz=>?_;obtain⟨x,H1,I1,r1,q1⟩:=zz;obtain⟨i,rfl,q⟩:=q1;obtain⟨t,rfl⟩:=r1;exact⟨some i,H1,I1,.int i t,q⟩
def SlR(X:Cx)(r:V->Option Int->Option Int->Hp->VK->Prop):Prop :=
 ∀(pins:List (av×Obj))(s:au)(σ:St)(H:Hp)(x:V)(v vl vu:ai)(lo hi:Option Int)(sl:av)(Q:VK),Inv X pins σ H s->RelV x v->s.heap.IsSliceOf sl vl vu .none->pZ vl lo->pZ vu hi->r x lo hi H Q ->
  ∃T id,typeLookup (.type T) "__getitem__"=pure (some (.builtin id))/\s.TypeIs v T/\wpAny (model X.prog X.w) X.A (getItem v (.ref sl)) (EP X pins σ Q) X.xe s
def SlR.or{r r':V->Option Int->Option Int->Hp->VK->Prop}(h:SlR X r)(h':SlR X r'):SlR X (λx lo hi H Q=>r x lo hi H Q\/r' x lo hi H Q):=by
 intro pins s σ H x v vl vu lo hi sl Q I rx hs pl pu q;rcases q with q|q
 .exact h pins s σ H x v vl vu lo hi sl Q I rx hs pl pu q
 .exact h' pins s σ H x v vl vu lo hi sl Q I rx hs pl pu q
def tSl(r:V->Option Int->Option Int->Hp->VK->Prop)(te:TE)(tl th:TO):TE:=λσ H Q=>te σ H λx H1=>tl σ H1 λl H2=>th σ H2 λu H3=>r x l u H3 Q
def uR(hr:SlR X r)(he:PE X e te)(hl:PO X lo tl)(hu:PO X hi th):PE X (.Subscript e (.Slice lo hi none p2) pos) (tSl r te tl th):=by
 intro pins s σ H Q I h;refine xD (thn (he pins s σ H _ I h) λv s1⟨x,H1,I1,r1,q1⟩=>?_);refine wpAny_Slice (thn (hl pins s1 σ H1 _ I1 q1) λvl s2⟨l,H2,I2,pl,q2⟩=>thn (hu pins s2 σ H2 _ I2 q2) λvu s3⟨u,H3,I3,pu,q3⟩=>?_);rw[Ar];refine bf ?_;have I4:Inv X pins σ H3 {s3 with heap:=s3.heap.push {cls:=.type "slice",data:=.fields #[vl,vu,.none]} }:=I3.kept (t':=s3.toks) λb ob q=>ax _ q;obtain⟨T,id,hT,ht,hg⟩:=hr pins {s3 with heap:=s3.heap.push {cls:=.type "slice",data:=.fields #[vl,vu,.none]} } σ H3 x v vl vu l u s3.heap.objs.size Q I4 r1 (qd ..) pl pu q3;show wpAny (model X.prog X.w) X.A (subscriptTail e (.Slice lo hi none p2) v (.ref s3.heap.objs.size)) (EP X pins σ Q) X.xe {s3 with heap:=s3.heap.push {cls:=.type "slice",data:=.fields #[vl,vu,.none]} };exact HU (ops:=[.ref s3.heap.objs.size,v]) ht hT hg (by with_unfolding_all rfl)
def qm(xs:List V)(lo hi:Option Int):List V:=(xs.drop (HT.sIx xs.length 0 lo)).take (HT.sIx xs.length xs.length hi-HT.sIx xs.length 0 lo)
def nH(xs:List V)(lo hi:Option Int):(qm xs lo hi).length<=xs.length:=by
 unfold qm;rw[bw,aR]
 lia
def NZ(K:PySem.W.Frag):V->Option Int->Option Int->Hp->VK->Prop:=λx lo hi H Q=>∃a xs,x=.ref a/\SqT K H a xs /\
 ¬(HT.sIx xs.length 0 lo=0/\HT.sIx xs.length xs.length hi=xs.length)/\∀p,H p=none->Q (.ref p) (upd H p (.tup (qm xs lo hi)))
def JO:SlR X (NZ X.K):=by
 intro pins s σ H x v vl vu lo hi sl Q I rx hs pl pu h;obtain⟨a,xs,rfl,hx,hw,q⟩:=h;cases rx;obtain⟨its,r,ht,hz⟩:=I.tuple hx;have hlen:its.toArray.size=xs.length:=by rw[aB];exact r.length.symm
 refine⟨"tuple",_,PyProof.Rows.slot_tuple_getitem.lookup,ht.typeIs,?_⟩;refine HT.getItem_tuple_cut ht hs pl pu (by rw[hlen];exact hw) ?_ (by rw[hlen];exact hz);rw[hlen];refine⟨.ref s.heap.objs.size,_,I.laid (t':=s.toks) (o:=.tup (qm xs lo hi)) (λb ob q=>ax _ q) (aD _) ?_,rfl,q _ (I.hok.fresh (aD _))⟩;exact⟨aX (nH xs lo hi) hz,_,(r.drop (HT.sIx xs.length 0 lo)).take (HT.sIx xs.length xs.length hi-HT.sIx xs.length 0 lo),oi _ _⟩
def Ir(K:PySem.W.Frag):R2:=λx y H Q=>∃a b xs ys,x=.ref a/\y=.ref b/\SqT K H a xs/\SqT K H b ys/\xs≠[]/\xs.length+ys.length<=sizeLine /\
 (ys=[]->Q (.ref a) H)/\(ys≠[]->∀p,H p=none->Q (.ref p) (upd H p (.tup (xs++ys))))
def Vals.nil_iff(r:Vals xs us):us=[]↔xs=[]:=by
 cases r with
 |nil=>simp
 |cons _ _=>simp
def GF:OpR X (binaryOp .Add) (Ir X.K):=by
 intro pins s σ H x y v u Q I rx ry h;obtain⟨a,b,xs,ys,rfl,rfl,ha,hb,hx,hz,q1,q2⟩:=h;cases rx;cases ry;obtain⟨its,r1,p1,_⟩:=I.tuple ha;obtain⟨its2,r2,p2,_⟩:=I.tuple hb;refine HT.cat_tup p1 p2 (λz=>hx (r1.nil_iff.mp z)) (λz=>⟨.ref a,H,I,rfl,q1 (r2.nil_iff.mp z)⟩) (λz=>?_) (by rw[<- r1.length,<- r2.length];exact hz);refine⟨.ref s.heap.objs.size,_,I.laid (t':=s.toks) (o:=.tup (xs++ys)) (λb ob q=>ax _ q) (aD _) ?_,rfl,q2 (λw=>z (r2.nil_iff.mpr w)) _ (I.hok.fresh (aD _))⟩;exact⟨by rw[az];exact hz,_,r1.append r2,oi _ _⟩
end
end L2
namespace L2
open PySem PySem.Spec PyProof.Rows
def ixN(n:Nat)(i:Int):Option Nat:=if 0<=i then(if i<n then some i.toNat else none)else if -(n:Int)<=i then some (i+n).toNat else none
def atI{α:Type}(xs:List α)(i:Int):Option α:=(ixN xs.length i).bind λj=>xs[j]?
def sH(h:ixN n i=some j):seqIndex? i n=some j/\j<n/\-(n:Int)<=i/\i<n:=by
 unfold ixN at h;by_cases h0:0<=i
 .rw[if_pos h0]at h;by_cases h1:i<n
  .rw[if_pos h1]at h;have e:i.toNat=j:=bT h;exact⟨by rw[HV h0 h1,e],∅,∅,h1⟩
  .rw[if_neg h1]at h;cases h
 .rw[if_neg h0]at h;by_cases h1:-(n:Int)<=i
  .rw[if_pos h1]at h;have e:(i+n).toNat=j:=bT h;exact⟨by rw[EC ∅ h1,e],∅,h1,∅⟩
  .rw[if_neg h1]at h;cases h
def tH{α:Type}{xs:List α}{i:Int}{v:α}(h:atI xs i=some v):∃j,seqIndex? i xs.length=some j/\xs[j]?=some v/\j<xs.length/\-(xs.length:Int)<=i/\i<xs.length:=by
 unfold atI at h
 cases e:ixN xs.length i with
 |none=>rw[e]at h;cases h
 |some j =>
  rw[e]at h;obtain⟨h1,h2,h3,h4⟩:=sH e;exact⟨j,h1,h,h2,h3,h4⟩
def atI_nat{α:Type}{xs:List α}{j:Nat}{v:α}(h:xs[j]?=some v):atI xs (j:Int)=some v:=by
 have hj:j<xs.length:=(aF.mp h).1
 have e:ixN xs.length (j:Int)=some j:=by
  unfold ixN;rw[if_pos ∅,if_pos ∅];simp
 unfold atI;rw[e];exact h
def PlainIx(b:aE):Prop:=∀o i,subscripted b false o i=operate [o,i] (getItem o i)
def IxR(X:Cx)(r:R2):Prop :=
 ∀(value slice:aE)(pins:List (av×Obj))(s:au)(σ:St)(H:Hp)(x y:V)(v u:ai)(Q:VK),Inv X pins σ H s->RelV x v->RelV y u->r x y H Q ->
  subscripted slice false v u=operate [v,u] (getItem v u)->wpAny (model X.prog X.w) X.A (subscriptTail value slice v u) (EP X pins σ Q) X.xe s
def MtR(X:Cx)(id:String)(r:V->List V->Hp->VK->Prop):Prop :=
 ∀(pins:List (av×Obj))(s:au)(σ:St)(H:Hp)(x:V)(xs:List V)(v:ai)(us:List ai)(Q:VK),Inv X pins σ H s->RelV x v->Vals xs us->r x xs H Q ->
  wpAny (model X.prog X.w) X.A (call (.builtin id) (v::us)) (EP X pins σ Q) X.xe s
section
variable{X:Cx}{a b:aE}{ta tb:TE}{pos:Pos}
def IxR.or{r r':R2}(h:IxR X r)(h':IxR X r'):IxR X (λx y H Q=>r x y H Q\/r' x y H Q):=by
 intro value slice pins s σ H x y v u Q I rx ry q hs;rcases q with q|q
 .exact h value slice pins s σ H x y v u Q I rx ry q hs
 .exact h' value slice pins s σ H x y v u Q I rx ry q hs
def MR(hr:IxR X r)(ha:PE X a ta)(hb:PE X b tb)(hs:PlainIx b):PE X (.Subscript a b pos) (tOp r ta tb):=by
 intro pins s σ H Q I h;exact xD (LM ha hb I h λv u s2 x y H2 I2 rx ry q=>hr a b pins s2 σ H2 x y v u Q I2 rx ry q (hs _ _))
def MN(K:PySem.W.Frag):R2:=λx y H Q=>∃p xs i v,x=.ref p/\y=.int i/\SqL K H p xs/\atI xs i=some v/\Q v H
def ML(K:PySem.W.Frag):R2:=λx y H Q=>∃p xs i v,x=.ref p/\y=.int i/\SqT K H p xs/\atI xs i=some v/\Q v H
def MM:R2:=λx y H Q=>∃z i c,x=.str z/\y=.int i/\z.length<=sizeLine/\atI z.cps.toList i=some c/\Q (.str ⟨#[c]⟩) H
def He:IxR X (MN X.K):=by
 intro value slice pins s σ H x y v u Q I rx ry h hs;obtain⟨p,xs,i,z,rfl,rfl,hq,he,q⟩:=h;cases rx;obtain⟨t,rfl⟩:=ry;obtain⟨its,r,pl,hz⟩:=I.list hq;obtain⟨j,h1,h2,h3,h4,h5⟩:=tH he;obtain⟨w,ew,rw'⟩:=r.get h2;have hl:=r.length;have hn:=lu;have fin:EP X pins σ Q w s:=⟨z,H,I,rw',q⟩;by_cases h0:0<=i
 .have hj:i.toNat=j:=by
   rw[HV h0 h5]at h1;exact bT h1
  exact item_listR pl.isList h0 ∅ (by rw[hj];simpa using ew) fin hs
 .have hj:(i+(its.toArray.size:Int)).toNat=j:=by
   rw[EC ∅ h4]at h1;rw[aB,<- hl];exact bT h1
  exact EB (x:=w) pl.isList.typeIs slot_list_getitem.lookup
   (wpAny_getItem_list_neg (Q:=λr s'=>r=w/\EP X pins σ Q r s') pl.isList ∅ (by rw[aB]<;>lia) ∅ (by rw[hj];simpa using ew) ⟨rfl,fin⟩) hs
def KZ:IxR X (ML X.K):=by
 intro value slice pins s σ H x y v u Q I rx ry h hs;obtain⟨p,xs,i,z,rfl,rfl,hq,he,q⟩:=h;cases rx;obtain⟨t,rfl⟩:=ry;obtain⟨its,r,pl,hz⟩:=I.tuple hq;obtain⟨j,h1,h2,h3,h4,h5⟩:=tH he;obtain⟨w,ew,rw'⟩:=r.get h2;have hl:=r.length;have hn:=lu;have fin:EP X pins σ Q w s:=⟨z,H,I,rw',q⟩
 exact EB (x:=w) pl.typeIs slot_tuple_getitem.lookup
  (getItem_tuple (j:=j) (Q:=λr s'=>r=w/\EP X pins σ Q r s') pl ∅ ∅ (by rw[aB,<- hl];exact h1) (by simpa using ew) ⟨rfl,fin⟩) hs
def La:IxR X MM:=by
 intro value slice pins s σ H x y v u Q I rx ry h hs;obtain⟨z,i,c,rfl,rfl,hz,he,q⟩:=h;obtain⟨t,rfl⟩:=rx;obtain⟨t',rfl⟩:=ry;obtain⟨j,h1,h2,h3,h4,h5⟩:=tH he;have hl:z.cps.toList.length=z.length:=by simp[Str.length]
 rw[hl]at h1 h4 h5;have hn:=lu
 exact HU (fI s z t) slot_str_getitem.lookup (getItem_str (c:=c) (by
  have e1:decide (i < -(2^63:Int))=false:=decide_eq_false ∅;have e2:decide (i ≥ 2^63)=false:=decide_eq_false ∅;rw[e1,e2,Bool.or_false]) (by rw[h1];simpa using h2) ⟨.str ⟨#[c]⟩,H,I.tok _,⟨_,rfl⟩,q⟩) hs
def rIx(K:PySem.W.Frag):R2:=λx y H Q=>MN K x y H Q\/ML K x y H Q\/MM x y H Q
def Lb:IxR X (rIx X.K):=He.or (KZ.or La)
def wW(its:List ai)(n j:Nat)(u:ai):nr (·.setIfInBounds j u) {cls:=.type "list",data:=.seq its.toArray n}={cls:=.type "list",data:=.seq (its.set j u).toArray n}:=by
 simp[nr]
def Inv.lst{pins:List (av×Obj)}{σ:St}{H:Hp}{s:au}{p:av}{xs:List V}(I:Inv X pins σ H s)(h:H p=some (.lst xs)) :
 ∃(its:List ai)(n:Nat),Vals xs its/\s.heap.get? p=some {cls:=.type "list",data:=.seq its.toArray n}/\xs.length<=sizeLine:=by
 obtain⟨z,its,n,r,e⟩:=I.hok p _ h;exact⟨its,n,r,e,z⟩
def Inv.lstUpd{pins:List (av×Obj)}{σ:St}{H:Hp}{s:au}{p:av}{xs ys:List V}{its its':List ai}{n n':Nat}{f:Obj->Obj}(I:Inv X pins σ H s)(h:H p=some (.lst xs))
 (ho:s.heap.get? p=some {cls:=.type "list",data:=.seq its.toArray n})(hf:f {cls:=.type "list",data:=.seq its.toArray n}={cls:=.type "list",data:=.seq its'.toArray n'})(r:Vals ys its')(hz:ys.length<=sizeLine)(t:Nat) :
 Inv X pins σ (upd H p (.lst ys)) {s with heap:=s.heap.update p f,toks:=t}:=by
 have e:(s.heap.update p f).get? p=some {cls:=.type "list",data:=.seq its'.toArray n'}:=by
  rw[xJ f ho (by rw[hf]<;>rfl),hf]
 refine I.write (x:=p) (e:=p) (by rw[h];trivial) (.inl rfl) (λb u hb q=>(gi _ _ (Ne.symm hb)).trans q) ⟨_,e⟩ ?_;exact⟨hz,its',n',r,e⟩
def MK:V->V->V->Hp->(Hp->Prop)->Prop:=λo i v H Q=>∃p xs k j,o=.ref p/\i=.int k/\H p=some (.lst xs)/\ixN xs.length k=some j/\Q (upd H p (.lst (xs.set j v)))
def set_list:NF X MK:=by
 intro pins s σ H o i v ov iv u Q I ro ri rv h;obtain⟨p,xs,k,j,rfl,rfl,hp,hj,q⟩:=h;cases ro;obtain⟨t,rfl⟩:=ri;obtain⟨its,n,r,ho,hz⟩:=I.lst hp;obtain⟨h1,h2,h3,h4⟩:=sH hj;have hl:=r.length;have hn:=lu
 have I':Inv X pins σ (upd H p (.lst (xs.set j v))) {s with heap:=s.heap.update p (nr (·.setIfInBounds j u))} :=
  I.lstUpd hp ho (wW its n j u) (r.set rv j) (by rw[aZ];exact hz) s.toks
 by_cases h0:0<=k
 .have hk:k.toNat=j:=by
   rw[HV h0 h4]at h1;exact bT h1
  exact PySem.W.ki_setAt ho h0 ∅ (by rw[aB,<- hl];exact h4) (by rw[hk];exact⟨_,I',q⟩)
 .have hk:(k+(its.toArray.size:Int)).toNat=j:=by
   rw[EC ∅ h3]at h1;rw[aB,<- hl];exact bT h1
  exact PySem.W.ki_setBack ho ∅ (by rw[aB,<- hl];exact h3) ∅ (by rw[hk];exact⟨_,I',q⟩)
def rZ(lo hi:Option Int)(n:Nat):(sliceBounds lo hi none n).1=((HT.sIx n 0 lo:Nat):Int)/\(sliceBounds lo hi none n).2.1=((HT.sIx n n hi:Nat):Int)/\(sliceBounds lo hi none n).2.2=1:=by
 refine⟨?_,?_,rfl⟩
 .cases lo with
  |none=>simp[sliceBounds,HT.sIx]
  |some i =>
   simp only[sliceBounds,HT.sIx,AE,show(1:Int)>0 by decide,if_true];by_cases h:i<0
   .simp only[h,if_true]<;>lia
   .simp only[h,if_false]<;>lia
 .cases hi with
  |none=>simp[sliceBounds,HT.sIx]
  |some i =>
   simp only[sliceBounds,HT.sIx,AE,show(1:Int)>0 by decide,if_true];by_cases h:i<0
   .simp only[h,if_true]<;>lia
   .simp only[h,if_false]<;>lia
def qf(its:List ai)(lo hi:Option Int):slicePick its.toArray lo hi none=((its.drop (HT.sIx its.length 0 lo)).take (HT.sIx its.length its.length hi-HT.sIx its.length 0 lo)).toArray:=by
 obtain⟨h1,h2,h3⟩:=rZ lo hi its.toArray.size;unfold slicePick;rw[h1,h2,h3];simp only[sliceRange_one,pick_run,aB]<;>rfl
def Ob(K:PySem.W.Frag):V->Option Int->Option Int->Hp->VK->Prop:=λx lo hi H Q=>∃a xs,x=.ref a/\SqL K H a xs/\∀p,H p=none->Q (.ref p) (upd H p (.lst (qm xs lo hi)))
def xY:SlR X (Ob X.K):=by
 intro pins s σ H x v vl vu lo hi sl Q I rx hs pl pu h;obtain⟨a,xs,rfl,hx,q⟩:=h;cases rx;obtain⟨its,r,ht,hz⟩:=I.list hx;have hlen:=r.length;refine⟨"list",_,slot_list_getitem.lookup,ht.isList.typeIs,?_⟩;refine Ap ht.isList hs pl pu .none ↥0 ?_ (by rw[aB]<;>lia);rw[qf,<- hlen];refine⟨.ref s.heap.objs.size,_,I.laid (t':=s.toks) (o:=.lst (qm xs lo hi)) (λb ob q=>ax _ q) (aD _) ?_,rfl,q _ (I.hok.fresh (aD _))⟩;exact⟨aX (nH xs lo hi) hz,_,0,(r.drop (HT.sIx xs.length 0 lo)).take (HT.sIx xs.length xs.length hi-HT.sIx xs.length 0 lo),aV _ rfl⟩
def tF:cC X (.builtin "len") (λxs H Q=>∃p ys,xs=[.ref p]/\(SqL X.K H p ys\/SqT X.K H p ys)/\Q (.int ys.length) H):=by
 intro pins s σ H xs us Q I r h;obtain⟨p,ys,rfl,hq,q⟩:=h;obtain⟨u,rfl,rx⟩:=vals1 r;cases rx;have hn:=lu;rcases hq with hq|hq
 .obtain⟨its,r',pl,hz⟩:=I.list hq;have hlen:=r'.length;exact Calls.call_len_list pl.isList (by simp only[aB]<;>lia) ⟨.int ys.length,H,I.tok _,⟨s.toks+1,by rw[aB,hlen]⟩,q⟩
 .obtain⟨its,r',pl,hz⟩:=I.tuple hq;have hlen:=r'.length;exact len_tuple pl (by simp only[aB]<;>lia) ⟨.int ys.length,H,I.tok _,⟨s.toks+1,by rw[aB,hlen]⟩,q⟩
def tD:cC X (.builtin "len") (λxs H Q=>∃z,xs=[.str z]/\z.length<=sizeLine/\Q (.int z.length) H):=by
 intro pins s σ H xs us Q I r h;obtain⟨z,rfl,hz,q⟩:=h;obtain⟨u,rfl,t,rfl⟩:=vals1 r;have hn:=lu;exact len_str ∅ ⟨.int z.length,H,I.tok _,⟨_,rfl⟩,q⟩
def cC.or{f:ai}{r r':List V->Hp->VK->Prop}(h:cC X f r)(h':cC X f r'):cC X f (λxs H Q=>r xs H Q\/r' xs H Q):=by
 intro pins s σ H xs us Q I rs q;rcases q with q|q
 .exact h pins s σ H xs us Q I rs q
 .exact h' pins s σ H xs us Q I rs q
def my:cC X (.type "list") (λxs H Q=>∃p ys,xs=[.ref p]/\(SqL X.K H p ys\/SqT X.K H p ys)/\∀l,H l=none->Q (.ref l) (upd H l (.lst ys))):=by
 intro pins s σ H xs us Q I r h;obtain⟨p,ys,rfl,hq,q⟩:=h;obtain⟨u,rfl,rx⟩:=vals1 r;cases rx
 have fin:∀(its:List ai),Vals ys its->ys.length<=sizeLine->∀(h':bV)(c':Nat),(∀b o',s.heap.get? b=some o'->h'.get? b=some o') ->
  h'.get? s.heap.objs.size=some {cls:=.type "list",dict:=none,data:=.seq its.toArray c',slots := #[]}->EP X pins σ Q (.ref s.heap.objs.size) {s with heap:=h'}:=λits r' hz h' c' kp e =>
  ⟨.ref s.heap.objs.size,_,I.laid (t':=s.toks) kp (aD _) (show eJ X.prog X.w _ h' _ (.lst ys)from⟨hz,its,c',r',e⟩),rfl,q _ (I.hok.fresh (aD _))⟩
 rcases hq with hq|hq
 .obtain⟨its,r',pl,hz⟩:=I.list hq;have hlen:=r'.length;obtain⟨o,ho,hc,n,hd⟩:=pl.isList;exact call_list_seq p (.inl rfl) ho hc hd (λh' c' kp e=>fin its r' hz h' c' kp e) (by simp only[aB]<;>lia)
 .obtain⟨its,r',pl,hz⟩:=I.tuple hq;have hlen:=r'.length;obtain⟨o,ho,hc,n,hd⟩:=pl;exact call_list_seq p (.inr rfl) ho hc hd (λh' c' kp e=>fin its r' hz h' c' kp e) (by simp only[aB]<;>lia)
def qr:cC X (.type "tuple") (λxs H Q=>∃p ys,xs=[.ref p]/\((SqL X.K H p ys/\∀l,H l=none->Q (.ref l) (upd H l (.tup ys)))\/(SqT X.K H p ys/\Q (.ref p) H))):=by
 intro pins s σ H xs us Q I r h;obtain⟨p,ys,rfl,h⟩:=h;obtain⟨u,rfl,rx⟩:=vals1 r;cases rx;rcases h with⟨hq,q⟩|⟨hq,q⟩
 .obtain⟨its,r',pl,hz⟩:=I.list hq;have hlen:=r'.length;refine call_tuple_list pl.isList (λh' kp=>?_) (by simp only[aB]<;>lia);have I1:Inv X pins σ H {s with heap:=h'}:=I.kept (t':=s.toks) kp
  have I2:Inv X pins σ (upd H h'.objs.size (.tup ys)) {s with heap:=h'.push {cls:=.type "tuple",data:=.seq its.toArray} } :=
   I1.laid (t':=s.toks) (λb o e=>ax _ e) (aD _) (show eJ X.prog X.w _ _ _ (.tup ys)from⟨hz,its,r',oi _ _⟩)
  exact⟨.ref h'.objs.size,_,I2,rfl,q _ (I1.hok.fresh (aD _))⟩
 .obtain⟨its,r',pl,hz⟩:=I.tuple hq;exact call_tuple_same pl ⟨.ref p,H,I,rfl,q⟩
def tyV(K:PySem.W.Frag)(T:String)(x:V)(H:Hp):Prop:=match x with
 |.str _=>T="str"
 |.int _=>T="int"
 |.ref p=>(T="list"/\∃xs,SqL K H p xs)\/(T="tuple"/\∃o,K.lookup p=some o/\o.cls=.type "tuple"/\o.dict=none) \/
   (T="dict"/\((∃kvs,H p=some (.dK kvs))\/∃kvs,H p=some (.dT kvs)))
 |_=>False
def Bq(I:Inv X pins σ H s)(r:RelV x v)(ty:tyV X.K T x H) :
 s.TypeIs v T/\∀a,v=.ref a->∃ob,s.heap.get? a=some ob/\ob.dict=none:=by
 cases x with
 |str z =>
  obtain⟨t,rfl⟩:=r;cases(show T="str" from ty)
  exact⟨fI s z t,λ_ e=>nomatch e⟩
 |int i =>
  obtain⟨t,rfl⟩:=r;cases(show T="int" from ty)
  exact⟨typeIs_int s i t,λ_ e=>nomatch e⟩
 |ref p =>
  cases r;rcases ty with⟨rfl,xs,hq⟩|⟨rfl,o,hk,hc,hd⟩|⟨rfl,hk⟩
  .obtain⟨its,_,pl,_⟩:=I.list hq;refine⟨pl.isList.typeIs,λa e=>?_⟩;cases e;obtain⟨o,n,e,c,hd,_⟩:=pl;exact⟨o,e,hd⟩
  .refine⟨⟨o,I.kIn p o hk,hc⟩,λa e=>?_⟩;cases e;exact⟨o,I.kIn _ o hk,hd⟩
  .have z:∃o,s.heap.get? p=some o/\o.ExactDict:=by
    rcases hk with⟨kvs,hk⟩|⟨kvs,hk⟩
    .obtain⟨_,_,_,_,o,_,_,e,ex,_⟩:=I.hok p _ hk;exact⟨o,e,ex⟩
    .obtain⟨_,_,_,_,o,_,_,e,ex,_⟩:=I.hok p _ hk;exact⟨o,e,ex⟩
   obtain⟨o,e,ex⟩:=z;refine⟨⟨o,e,ex.1⟩,λa e2=>?_⟩;cases e2
   exact⟨o,e,ex.2.1⟩
 |_=>exact bu ty
def NS(K:PySem.W.Frag)(T:String)(r:V->List V->Hp->VK->Prop)(to:TE):TE:=λσ H Q=>to σ H λx H1=>tyV K T x H1/\r x [] H1 Q
def tBM(K:PySem.W.Frag)(T:String)(r:V->List V->Hp->VK->Prop)(to:TE)(t:TA):TE:=λσ H Q=>to σ H λx H1=>tyV K T x H1/\t σ H1 λxs H2=>r x xs H2 Q
variable{o e:aE}{es:List aE}{to:TE}{t:TA}{name:Str}{apos cpos:Pos}{T id:String}{r:V->List V->Hp->VK->Prop}
def Kk(pa:Mb T)(slot:Slot T name id)(hty:typeOf (.builtin id)=pure (.type "method_descriptor"))(hm:MtR X id r)(ho:PE X o to)
 (hbase:attributeBase o name X.env (eval o X.env)=eval o X.env:=by rfl)(hline:(apos.endLine==cpos.line)=true:=by rfl):PE X (.Call (.Attribute o name apos) [] [] cpos) (NS X.K T r to):=by
 intro pins s σ H Q I h;refine wpAny_Call_method0_late hbase hline (thn (ho pins s σ H _ I h) λv s1⟨x,H1,I1,r1,ty,q1⟩=>?_);obtain⟨h1,h2⟩:=Bq I1 r1 ty;exact⟨T,id,pa,slot,hty,h1,h2,jN rfl (PySem.evalArgs_none (hm pins s1 σ H1 x [] v [] Q I1 r1 .nil q1))⟩
def uT(pa:Mb T)(slot:Slot T name id)(hty:typeOf (.builtin id)=pure (.type "method_descriptor"))(hm:MtR X id r)(ho:PE X o to)(ha:PA X (e::es) t)
 (hbase:attributeBase o name X.env (eval o X.env)=eval o X.env:=by rfl)
 (hfew:((backTo cpos (starEach (e::es) X.env)).all (λx=>!x.1)&&(backToKw cpos (keywordEach [] X.env)).all (λx=>x.1.isSome)
   && decide ((e::es).length+([]:List dP).length+(if([]:List dP).isEmpty then 0 else 1)<30))=true:=by rfl)
 (hline:(apos.endLine==cpos.line)=true:=by rfl) (hs:starEach (e::es) X.env=(false,eval e X.env)::starEach es X.env:=by rfl) (hplain:(backTo cpos (starEach es X.env)).any (·.1)=false:=by rfl) :
 PE X (.Call (.Attribute o name apos) (e::es) [] cpos) (tBM X.K T r to t):=by
 intro pins s σ H Q I h;refine wpAny_Call_method_late hbase hfew hline rfl (thn (ho pins s σ H _ I h) λv s1⟨x,H1,I1,r1,ty,q1⟩=>?_);obtain⟨h1,h2⟩:=Bq I1 r1 ty;refine⟨T,id,pa,slot,hty,h1,h2,?_⟩;have hA:=ha cpos pins s1 σ H1 _ I1 q1;rw[hs]at hA |-;refine jN (by show(false||(backTo cpos (starEach es X.env)).any (·.1))=false;rw[hplain]<;>rfl) (kL ?_);exact thn hA λus s2⟨vs,H2,I2,r2,q2⟩=>hm pins s2 σ H2 x vs v us Q I2 r1 r2 q2
end
end L2
namespace L2
open PySem PySem.Spec PyProof.Rows
def MtM(X:Cx)(id:String)(r:V->List V->Hp->VK->Prop):Prop :=
 ∀(pins:List (av×Obj))(s:au)(σ:St)(H:Hp)(x:V)(xs:List V)(v:ai)(us:List ai)(Q:VK),Inv X pins σ H s->RelV x v->Vals xs us->r x xs H Q ->
  wpAny (model X.prog X.w) X.A (call (.builtin id) (v::us)) (EP X pins σ Q) X.xe s
def Vals.one:∀{x:V}{us:List ai},Vals [x] us->∃u,us=[u]/\RelV x u
 |_,_,.cons r .nil=>⟨_,rfl,r⟩
def Vals.two(h:Vals [x,y] us):∃u v,us=[u,v]/\RelV x u/\RelV y v:=by
 cases h with
 |cons r t =>
  obtain⟨u,rfl,q⟩:=Vals.one t;exact⟨_,_,rfl,r,q⟩
def Vals.zero:∀{us:List ai},Vals [] us->us=[]
 |_,.nil=>rfl
def Vals.dropLast(h:Vals xs us):Vals xs.dropLast us.dropLast:=by
 induction h with
 |nil=>exact .nil
 |cons r t ih =>
  cases t with
  |nil=>exact .nil
  |cons q t'=>exact .cons r ih
def Vals.eraseIdx:∀{xs:List V}{us:List ai}(i:Nat),Vals xs us->Vals (xs.eraseIdx i) (us.eraseIdx i)
 |_,_,_,.nil=>.nil
 |_,_,0,.cons _ t=>t
 |_,_,i+1,.cons r t=>.cons r (Vals.eraseIdx i t)
def xj{α:Type}(l:List α):l.eraseIdx (l.length-1)=l.dropLast:=by
 induction l with
 |nil=>rfl
 |cons a r ih =>
  cases r with
  |nil=>rfl
  |cons b r =>
   have e:(a::b::r).length-1=((b::r).length-1)+1:=by
    have h1:(a::b::r).length=r.length+2:=rfl;have h2:(b::r).length=r.length+1:=rfl
    lia
   rw[e,List.eraseIdx_cons_succ,ih]
   all_goals rfl
def qY{α:Type}:∀(l:List α)(i:Nat),(l.eraseIdx i).length<=l.length
 |[],_=>aD _
 |_::_,0=>Nat.le_succ _
 |_::r,i+1=>Nat.succ_le_succ (qY r i)
section
variable{X:Cx}{pins:List (av×Obj)}{σ:St}{H:Hp}{s:au}{l b:av}{xs ys zs:List V}
def Inv.lset{its its':List ai}{n:Nat}{f:Array ai->Array ai}{t':Nat}(I:Inv X pins σ H s)(hH:H l=some (.lst xs))
 (e:s.heap.get? l=some {cls:=.type "list",data:=.seq its.toArray n})(hf:f its.toArray=its'.toArray)(hv:Vals ys its')(hz:ys.length<=sizeLine) :
 Inv X pins σ (upd H l (.lst ys)) {s with heap:=s.heap.update l (nr f),toks:=t'}:=by
 have q:=PySem.IsL.update e f;rw[hf]at q;refine I.write (x:=l) (e:=l) (by rw[hH];exact trivial) (.inl rfl) (λb' u hb hu=>(gi s.heap (nr f) (Ne.symm hb)).trans hu) ⟨_,q⟩ ?_;exact⟨hz,its',_,hv,q⟩
def Inv.lnew(I:Inv X pins σ H s)(hv:Vals ys its)(hz:ys.length<=sizeLine) :
 Inv X pins σ (upd H s.heap.objs.size (.lst ys)) {s with heap:=s.heap.push {cls:=.type "list",data:=.seq its.toArray},toks:=t'} :=
 I.laid (λ_ _ q=>ax _ q) (aD _) ⟨hz,its,0,hv,aV _ rfl⟩
def Inv.fresh(I:Inv X pins σ H s):H s.heap.objs.size=none:=I.hok.fresh (aD _)
def Inv.lstM(I:Inv X pins σ H s)(hH:H l=some (.lst xs)):xs.length<=sizeLine/\∃(its:List ai)(n:Nat),Vals xs its/\xs.length=its.length/\s.heap.get? l=some {cls:=.type "list",data:=.seq its.toArray n}:=by
 obtain⟨z,its,n,r,e⟩:=I.hok l _ hH;exact⟨z,its,n,r,r.length,e⟩
end
section
variable{X:Cx}
def Gg:V->List V->Hp->VK->Prop:=λx vs H Q=>∃l xs y,x=.ref l/\vs=[y]/\H l=some (.lst xs)/\xs.length<sizeLine/\Q .non (upd H l (.lst (xs++[y])))
def qX:MtM X "list.append" Gg:=by
 intro pins s σ H x vs v us Q I rx rv h;obtain⟨l,xs,y,rfl,rfl,hH,hz,q⟩:=h;cases rx;obtain⟨u,rfl,ru⟩:=rv.one;obtain⟨z,its,n,r,hl,e⟩:=I.lstM hH;refine dR F.slot_list_append ⟨_,e,rfl⟩ F.entry_list_append (F.args_list_append_2 _ _) (PySem.list_append l its.toArray n u (by rw[aB];lia)) ⟨e,?_⟩;refine⟨.non,_,I.lset (its':=its++[u]) hH e ↥0 (r.append (.cons ru .nil)) ?_,rfl,q⟩;rw[az,cP]
 lia
def Oc:V->List V->Hp->VK->Prop:=λx vs H Q=>∃l xs y,x=.ref l/\vs=[]/\H l=some (.lst xs)/\xs[xs.length-1]?=some y/\Q y (upd H l (.lst xs.dropLast))
def KI:MtM X "list.pop" Oc:=by
 intro pins s σ H x vs v us Q I rx rv h;obtain⟨l,xs,y,rfl,rfl,hH,hy,q⟩:=h;cases rx;have hus:=rv.zero;subst hus;obtain⟨z,its,n,r,hl,e⟩:=I.lstM hH;obtain⟨u,hu,ru⟩:=r.get hy
 have hy':its.toArray[its.toArray.size-1]?=some u:=by
  show its.toArray[its.length-1]?=some u;rw[<- vQ,<- hl];exact hu
 refine dR F.slot_list_pop ⟨_,e,rfl⟩ F.entry_list_pop (F.args_list_pop_1 _) (MeetsSeq.list_pop_last l its.toArray n u hy' (by rw[aB];lia)) ⟨e,?_⟩;refine⟨y,_,I.lset (its':=its.dropLast) hH e ?_ r.dropLast ?_,ru,q⟩
 .show its.toArray.eraseIdxIfInBounds (its.toArray.size-1)=its.dropLast.toArray;rw[aB,oh,xj]
 .rw[kW]
  lia
def JT:V->List V->Hp->VK->Prop:=λx vs H Q=>∃l xs i k y,x=.ref l/\vs=[.int i]/\H l=some (.lst xs)/\-(2^63)<=i/\i<2^63/\seqIndex? i xs.length=some k/\xs[k]?=some y/\Q y (upd H l (.lst (xs.eraseIdx k)))
def Dm:MtM X "list.pop" JT:=by
 intro pins s σ H x vs v us Q I rx rv h;obtain⟨l,xs,i,k,y,rfl,rfl,hH,h1,h2,hk,hy,q⟩:=h;cases rx;obtain⟨u,rfl,ru⟩:=rv.one;obtain⟨t,rfl⟩:=ru;obtain⟨z,its,n,r,hl,e⟩:=I.lstM hH;obtain⟨w,hw,rw'⟩:=r.get hy
 refine dR F.slot_list_pop ⟨_,e,rfl⟩ F.entry_list_pop (F.args_list_pop_2 _ _)
  (MeetsSeq.list_pop_at l its.toArray n i t k w (fitsIndex_both h1 h2) (by rw[aB,<- hl];exact hk) (by rw[<- vQ];exact hw) (by rw[aB];lia)) ⟨e,?_⟩
 refine⟨y,_,I.lset (its':=its.eraseIdx k) hH e ?_ (r.eraseIdx k) ?_,rw',q⟩
 .show its.toArray.eraseIdxIfInBounds k=(its.eraseIdx k).toArray;rw[oh]
 .have:=qY xs k
  lia
end
section
variable{prog:aP}{w:bA}{A:bB}{E:ai->au->Prop}{s:au}
end
section
variable{X:Cx}
end
end L2
namespace Att
open PySem PySem.W PySem.Calls PyProof.Rows
def nU:∀(ns:List Int)(vs:List ai),WellAll P h vs (ns.map WData.int)->EJ vs ns:=by
 intro ns
 induction ns with
 |nil =>
  intro vs w;rw[dm]at w;cases w
  exact .nil
 |cons n ns ih =>
  intro vs w;rw[aw]at w
  cases w with
  |cons a b =>
   cases a;exact .cons _ _ (ih _ b)
def zG{l:OpenLaw}{n:Nat}(hn:l.most=some n){P:Params}{h:bV}{args:List WData}{vals:List ai}
 (hpre:l.row.toRowW.claim.pre args=true)(hwl:WellAll P h vals args) :
 ∃a vs ns,vals=[cj a]/\args=[WData.list (ns.map WData.int)]/\h.get? a=some {cls:=.type "list",data:=.seq vs.toArray}/\EJ vs ns/\ns.length<=n:=by
 have hsh:WShape.hasAll [] args [.list .int]=true:=(pre_splitW hpre).1;have hc:l.pre.holds [] {args:=args}=true:=(pre_splitW hpre).2;obtain⟨d,r,rfl,h1,h2⟩:=hasAllW_cons hsh;obtain rfl:=hasAllW_nil h2;obtain⟨xs,rfl,h3⟩:=hasW_list h1;obtain⟨ns,rfl⟩:=items_int h3
 have hlen:ns.length<=n:=by
  unfold OpenLaw.pre at hc
  have h4:(WTm.not (.lt (.lit (.int (n:Int))) (.len (.arg 0)))).holds [] {args:=[.list (ns.map .int)]}=true:=by
   have h4:=(holds_andW hc).1;rw[hn]at h4;exact h4
  have h5:=condW_of h4 (w_not (w_lt w_lit (w_len_list (w_arg rfl))));rw[ak]at h5;refine Nat.le_of_not_lt λq=>?_;have q':(n:Int)<((ns.length:Nat):Int):=by lia
  first
   |(rw[decide_eq_true q']at h5;exact absurd h5 ⇑0)
   |(simp at h5;lia)
 cases hwl with
 |cons w1 w2 =>
  cases w2
  cases w1 with
  |list ho hall=>exact⟨_,_,ns,rfl,rfl,ho,nU ns _ hall,hlen⟩
def zI(l:OpenLaw)(args:List WData):l.row.toRowW.claim.post args (.bool true) args=true :=
 postW_of (r:=l.row.toRowW) (X:=(true==true))
  (show WShape.has [] (.bool true) .bool=true by first|rfl|decide|simp[WShape.has,WShape.arms,WShape.armsAll])
  (show(WTm.eq .res (.lit (.bool true))).value [] {args:=args,res:=some (.bool true),after:=args}=some (.bool (true==true))from w_eq_bool (w_res rfl) w_lit) rfl
def attach_call{l:OpenLaw}{n:Nat}{q:aP}{loose:List Str}{XP:(Str->Option ai)->bV->Prop}{YP:bA->bV->Prop}{d:DefRec}
 (hn:l.most=some n)(hdf:d.params.defaults=[])
 (call:∀(w:bA)(s₀ s₁:au)(mg mb:Str->Option ai)(fa:av)(o:Obj)(pm cd doc:ai)(a:av)(vs:List ai)(ns:List Int),
   Ground q loose [] XP w s₀ mg mb s₁.heap->YP w s₁.heap ->
   s₁.heap.get? fa=some o->o.data=.func (docDef d.name d.params d.body d.scope pm cd doc)->s₁.heap.CodeRec cd d.name->mg d.name=some (.ref fa) ->
   s₁.heap.get? a=some {cls:=.type "list",data:=.seq vs.toArray}->EJ vs ns->ns.length<=n->s₁.gens=#[] ->
   codeAny (model l.prog w) callerA (.call (.ref fa) ⟨[.ref a],[]⟩) (λr s'=>r=.ok (.ret (.bool true))/\OldK s₁.heap s'.heap/\s'.os=s₁.os/\jR s'.gens) s₁) :
 WalkO q loose XP YP l.row.toRowW d [] (λf vs=>PySem.call f vs):=by
 intro w s₀ s₁ mg mb G Y fa o pm cd doc dV kV ho hd hcd hD hmg hg args vals as hpre hlay hrd hwl hlo;obtain rfl:dV=.none:=Dflts.none hD hdf;obtain rfl:kV=.none:=Dflts.noKw hD;obtain⟨a,vs,ns,rfl,rfl,hobj,hints,hlen⟩:=zG hn hpre hwl;refine enter_call (qt (call w s₀ s₁ mg mb fa o pm cd doc a vs ns G Y ho (fd_plain hd) hcd hmg hobj hints hlen hg) λr s' hq=>?_);obtain⟨rfl,h2,h3,h4⟩:=hq;exact⟨.inl ⟨.bool true,.bool true,[],rfl,λ_=>rfl,.bool true,zI l _,λ_=>⟨List.Pairwise.nil,λ_ hm=>(nomatch hm)⟩⟩,h2,h3,h4⟩
section
variable{prog:aP}{w:bA}{A:bB}{E:ai->au->Prop}{s:au}{K:Frag}
end
end Att
namespace L2
open PySem PySem.Spec PyProof.Rows
def qF:∀{vs:List ai}{ns:List Int},EJ vs ns->Vals (ns.map V.int) vs
 |_,_,.nil=>.nil
 |_,_,.cons n t h=>.cons ⟨t,rfl⟩ (qF h)
end L2
namespace L2
open PySem PySem.Spec PyProof.Rows
end L2
namespace L2
open PySem PySem.Spec PyProof.Rows
def fF(s:bE):ua:=match s with
 |.FunctionDef _ a _ _ _ _ _ _ _ _=>a
 |_=>{posonlyargs:=[],args:=[],vararg:=none,kwonlyargs:=[],kw_defaults:=[],kwarg:=none,defaults:=[]}
def dt(s:bE):List bE:=match s with
 |.FunctionDef _ _ b _ _ _ _ _ _ _=>b
 |_=>[]
def aU(s:bE):dO:=match s with
 |.FunctionDef _ _ _ _ _ _ sc _ _ _=>sc
 |_=>{kind:=.function,names:=[],isGenerator:=false,isCoroutine:=false}
abbrev CX0:CXT:=λ_ _ _ _ _ _=>False
abbrev E0:XK:=λ_ _ _=>False
def MU:Passes CX0 X E0:=λ_ _ _ _ _ _ _ h=>h.elim
structure Fun(K:PySem.W.Frag)(x qual:Str)(st:bE)(f:av)(fd:dZ):Prop where
 ex:∃(oc:ai)(od:Option av)(dV kV doc pm:ai)(an:Option av)(cdv ct:ai)(osl:Array (Option ai)),
  fd=PySem.W.fnOf x qual (fF st) (dt st) (aU st) dV kV doc pm an cdv ct/\K.lookup f=some ⟨oc,od,.func fd,osl⟩/\PySem.W.codeIn K cdv qual=true
 kp:PySem.W.keepIn K (.ref f)=true
section
variable{P:aP}{w:bA}{K:PySem.W.Frag}{mg:Str->Option ai}{base:bV}
def xf{x qual:Str}{st:bE}{f:av}{oc:ai}{od an:Option av}{osl:Array (Option ai)}{dV kV doc pm cdv ct:ai}(l:K.lookup f=some ⟨oc,od,.func (PySem.W.fnOf x qual (fF st) (dt st) (aU st) dV kV doc pm an cdv ct),osl⟩)
 (c:PySem.W.codeIn K cdv qual=true)(k:PySem.W.keepIn K (.ref f)=true):Fun K x qual st f (PySem.W.fnOf x qual (fF st) (dt st) (aU st) dV kV doc pm an cdv ct):=⟨⟨oc,od,dV,kV,doc,pm,an,cdv,ct,osl,rfl,l,c⟩,k⟩
end
section
variable{X:Cx}
end
def sI{A B:Prop}(h:B):if false=true then A else B:=by
 rw[if_neg aq];exact h
def qj{A B:Prop}(h:A):if true=true then A else B:=by
 rw[if_pos rfl];exact h
def fA(H H':Hp):Prop:=∀b o,H b=some o->H' b=some o
def fA.refl(H:Hp):fA H H:=λ_ _ h=>h
end L2
end
section
namespace L2
open PySem PySem.Spec PyProof.Rows
section
variable{κ:Type}[DecidableEq κ]
def lp(kvs:List (κ×V))(k:κ):Option V:=(kvs.find? λkv=>decide (kv.1=k)).map (·.2)
def putK(kvs:List (κ×V))(k:κ)(v:V):List (κ×V) :=
 if(kvs.any λkv=>decide (kv.1=k))=true then kvs.map (λkv=>if kv.1=k then(kv.1,v)else kv)else kvs++[(k,v)]
def lR{p:κ×V}{r:List (κ×V)}{k:κ}(e:p.1=k):lp (p::r) k=some p.2:=by simp[lp,fN,e]
def jS{p:κ×V}{r:List (κ×V)}{k:κ}(e:¬p.1=k):lp (p::r) k=lp r k:=by simp[lp,fN,e]
def uw(k:κ):∀kvs:List (κ×V),(kvs.any λkv=>decide (kv.1=k))=(lp kvs k).isSome
 |[]=>rfl
 |p::r=>by
  rw[dG];by_cases e:p.1=k
  .simp only[lR e,decide_eq_true e,nQ,Option.isSome_some]
  .rw[jS e,decide_eq_false e,mE];exact uw k r
def vo(kvs:List (κ×V))(k:κ)(v:V):(putK kvs k v).length<=kvs.length+1:=by
 unfold putK;split
 .rw[ak];lia
 .rw[az,ag,aL];lia
def Ct{kvs:List (κ×V)}{k:κ}(v:V)(h:lp kvs k=none):putK kvs k v=kvs++[(k,v)]:=by
 unfold putK;rw[uw,h];exact if_neg ⇑0
def gw.getD{o:Option V}{u:Option ai}{d:V}{d':ai}(r:gw o u)(rd:RelV d d'):RelV (o.getD d) (u.getD d'):=by
 cases o with
 |none=>cases u with
  |none=>exact rd
  |some _=>exact(show False from r).elim
 |some _=>cases u with
  |none=>exact(show False from r).elim
  |some _=>exact r
def KV.val{kvs:List (κ×V)}{vs:List (κ×ai)}(r:KV kvs vs)(k:κ):gw (lp kvs k) (valueAt vs k):=by
 unfold KV at r
 induction r with
 |nil=>exact fO
 | @cons p q ps qs h t ih =>
   obtain⟨h1,h2⟩:=h;by_cases e:p.1=k
   .have e':q.1=k:=h1.symm.trans e;have b:valueAt (q::qs) k=some q.2:=by simp[valueAt,fN,e']
    rw[lR e,b];exact h2
   .have e':¬q.1=k:=λz=>e (h1.trans z);have b:valueAt (q::qs) k=valueAt qs k:=by simp[valueAt,fN,e']
    rw[jS e,b];exact ih
def KV.any{kvs:List (κ×V)}{vs:List (κ×ai)}(r:KV kvs vs)(k:κ):(kvs.any λkv=>decide (kv.1=k))=vs.any λkv=>decide (kv.1=k):=by
 unfold KV at r
 induction r with
 |nil=>rfl
 |cons h t ih=>rw[dG,dG,ih,h.1]
def KV.repl{kvs:List (κ×V)}{vs:List (κ×ai)}(r:KV kvs vs)(k:κ){y:V}{u:ai}(ry:RelV y u) :
 KV (kvs.map λkv=>if kv.1=k then(kv.1,y)else kv) (vs.map λkv=>if kv.1=k then(kv.1,u)else kv):=by
 unfold KV at r |-
 induction r with
 |nil=>exact .nil
 | @cons p q ps qs h t ih =>
   rw[aw,aw];refine .cons ?_ ih;obtain⟨h1,h2⟩:=h;by_cases e:p.1=k
   .rw[if_pos e,if_pos (h1.symm.trans e)];exact⟨h1,ry⟩
   .rw[if_neg e,if_neg (λz=>e (h1.trans z))];exact⟨h1,h2⟩
def KV.put{kvs:List (κ×V)}{vs:List (κ×ai)}(r:KV kvs vs)(k:κ){y:V}{u:ai}(ry:RelV y u):KV (putK kvs k y) (stored vs k u):=by
 unfold putK stored;rw[r.any k];by_cases e:(vs.any λkv=>decide (kv.1=k))=true
 .rw[if_pos e,if_pos e];exact r.repl k ry
 .rw[if_neg e,if_neg e];exact Paired.snoc r ⟨rfl,ry⟩
end
def Dx{P:aP}{w:bA}{k:Key}{u:ai}(r:RelV (kV k) u):(dA P w).is k u=true:=by
 cases k with
 |inl i=>obtain⟨t,e⟩:=(show ∃t,u=nY i t from r);subst e;exact vg P w i t
 |inr x=>obtain⟨t,e⟩:=(show ∃t,u=nX x t from r);subst e;exact vf P w x t
def rh{P:aP}{w:bA}:∀{ks:List Key}{us:List ai},Vals (ks.map kV) us->ItemsAre (dA P w) ks us
 |[],_,r=>by rw[dm]at r;cases r;exact .nil
 |k::ks,_,r=>by
  rw[aw]at r
  cases r with
  |cons h t=>exact .cons (Dx h) (rh t)
abbrev KT(H:Hp):List (List Key×V)->List (List Key×av×ai)->Prop:=Paired λp q=>p.1=q.1/\H q.2.1=some (.tup (p.1.map kV))/\RelV p.2 q.2.2
def KT.val{H:Hp}{kvs:List (List Key×V)}{xs:List (List Key×av×ai)}(r:KT H kvs xs)(k:List Key):gw (lp kvs k) ((atKey xs k).map (·.2)):=by
 induction r with
 |nil=>exact fO
 | @cons p q ps qs h t ih =>
   obtain⟨h1,_,h2⟩:=h;by_cases e:p.1=k
   .have e':q.1=k:=h1.symm.trans e;have b:atKey (q::qs) k=some q.2:=by simp[atKey,fN,e']
    rw[lR e,b];exact h2
   .have e':¬q.1=k:=λz=>e (h1.trans z);have b:atKey (q::qs) k=atKey qs k:=by simp[atKey,fN,e']
    rw[jS e,b];exact ih
section
variable{P:aP}{w:bA}{H:Hp}{h:bV}{a:av}
def Iq{u:HO}(ok:HOk P w H h)(e:Rd H a u):eJ P w H h a u:=e.ok ok
def DZ{kvs:List (Key×V)}(ok:HOk P w H h)(e:Rd H a (.dK kvs)):kvs.length<=sizeLine/\(a==sysModules)=false/\∃vs,KV kvs vs/\h.DictOf (dA P w) a vs :=
 show eJ P w H h a (.dK kvs)from Iq ok e
def Nx{kvs:List (Key×V)}(ok:HOk P w H h)(e:H a=some (.dK kvs)):kvs.length<=sizeLine/\(a==sysModules)=false/\∃vs,KV kvs vs/\h.DictOf (dA P w) a vs:=DZ ok (.inl e)
def Dw{ks:List Key}(ok:HOk P w H h)(e:H a=some (.tup (ks.map kV))):(tupleKind (dA P w)).is h ks a:=by
 obtain⟨_,its,r,o,h1,h2,n,h3⟩:=(show eJ P w H h a (.tup (ks.map kV))from ok a _ e);exact⟨o,its.toArray,n,h1,h2,h3,by simpa using rh r⟩
def II{kvs:List (List Key×V)}(ok:HOk P w H h)(e:Rd H a (.dT kvs)):kvs.length<=sizeLine/\(a==sysModules)=false /\
 ∃xs,KT H kvs xs/\h.DictOfH (tupleKind (dA P w)) a xs:=by
 obtain⟨z,y,xs,r,o,es,ep,h1,h2,h3,h4,h5⟩:=(show eJ P w H h a (.dT kvs)from Iq ok e);refine⟨z,y,xs,r,o,es,ep,h1,h2,h3,h4,λx hx=>?_,h5⟩
 have all:∀{l:List (List Key×V)}{m:List (List Key×av×ai)},KT H l m->∀x∈m,(tupleKind (dA P w)).is h x.1 x.2.1:=by
  intro l m q
  induction q with
  |nil=>intro x hx;exact nomatch hx
  | @cons p q ps qs hq t ih =>
    intro x hx;rcases aA.mp hx with e|hx
    .subst e;exact Dw ok (by rw[<- hq.1];exact hq.2.1)
    .exact ih x hx
 exact all r x hx
end
def DGet(H:Hp)(a:av)(y:V)(r:Option V):Prop :=
 (∃kvs k,Rd H a (.dK kvs)/\y=kV k/\r=lp kvs k)\/∃kvs k b,Rd H a (.dT kvs)/\y=.ref b/\H b=some (.tup (k.map kV))/\r=lp kvs k
section
variable{X:Cx}{pins:List (av×Obj)}{σ:St}{H:Hp}{s:au}{a:av}{y v:V}{u r:ai}{o:Option V}{A:bB}{E:ai->au->Prop}
def Inv.big(I:Inv X pins σ H s):sysModules<s.heap.objs.size:=by
 have h:mainGlobals<s.heap.objs.size:=(I.mod.glob.keeps I.bk).lt;exact Nat.lt_trans ⇑0 h
def Hu{h':bV}{t':Nat}{ob:HO}(I:Inv X pins σ H s)(mu:Mut (H a))(hs:jQ a s.heap h')(he:∃q,h'.get? a=some q)(new:eJ X.prog X.w (upd H a ob) h' a ob) :
 Inv X pins σ (upd H a ob) {s with heap:=h',toks:=t'} :=
 I.write (x:=a) (e:=a) mu (.inl rfl) (λb q hb z=>(hs.2 b hb).trans z) he new
def Lp{P:aP}{w:bA}{H':Hp}{h':bV}{kvs:List (Key×V)}{vs:List (Key×ai)}(z:kvs.length<=sizeLine)(hd:(a==sysModules)=false)(rel:KV kvs vs)(dd:h'.DictOf (dA P w) a vs) :
 eJ P w H' h' a (.dK kvs):=⟨z,hd,vs,rel,dd⟩
end
section
variable{X:Cx}{pins:List (av×Obj)}{σ:St}{H:Hp}{s:au}{a:av}{kvs:List (Key×V)}{k:Key}{u:ai}{A:bB}{E:ai->au->Prop}
end
section
variable{X:Cx}{o i e value:aE}{pos pos' tpos:Pos}{td ty tv:TE}
end
def Ea{P:aP}{w:bA}{H:Hp}(h:bV)(hb:sysModules<h.objs.size):eJ P w H (h.push {cls:=.type "dict",data:=.dict #[]}) h.objs.size (.dK []) :=
 ⟨bM _,beq_eq_false_iff_ne.mpr (Ne.symm (aS hb)),[],.nil,Heap.DictOf.new h⟩
section
variable{X:Cx}{pos:Pos}
end
def rY:List (TE×TE)->St->Hp->(List (V×V)->Hp->Prop)->Prop
 |[],_,H,Q=>Q [] H
 |(tk,tv)::r,σ,H,Q=>tk σ H λx H1=>tv σ H1 λy H2=>rY r σ H2 λps H3=>Q ((x,y)::ps) H3
abbrev VV:List (V×V)->List (ai×ai)->Prop:=Paired λp q=>RelV p.1 q.1/\RelV p.2 q.2
def PPs(X:Cx)(pos:Pos)(keys:List (Option aE))(values:List aE)(trs:List (TE×TE)):Prop :=
 ∀(pins:List (av×Obj))(s:au)(σ:St)(H:Hp)(Q:List (V×V)->Hp->Prop),Inv X pins σ H s->rY trs σ H Q ->
  wpAny (model X.prog X.w) X.A (evalPairs (pairTrees keys values X.env pos)) (λvs s'=>∃ps H',Inv X pins σ H' s'/\VV ps vs/\Q ps H') X.xe s
def yk{X:Cx}{pos:Pos}:PPs X pos [] [] []:=λpins s σ H Q I h=>pairTrees_nil_walk ⟨[],H,I,.nil,h⟩
def uQ{X:Cx}{pos:Pos}{k v:aE}{ks:List (Option aE)}{vs:List aE}{tk tv:TE}{trs:List (TE×TE)}(hk:PE X k tk)(hv:PE X v tv)(hr:PPs X pos ks vs trs) :
 PPs X pos (some k::ks) (v::vs) ((tk,tv)::trs):=λpins s σ H Q I h =>
 pairTrees_cons_walk (thn (hk pins s σ H _ I h) λu s1⟨x,H1,I1,rx,q1⟩=>thn (hv pins s1 σ H1 _ I1 q1) λw2 s2⟨y,H2,I2,ry,q2⟩ =>
  thn (hr pins s2 σ H2 _ I2 q2) λws s3⟨ps,H3,I3,rel,q3⟩=>⟨(x,y)::ps,H3,I3,.cons ⟨rx,ry⟩ rel,q3⟩)
def ju(kvs more:List (Key×V)):List (Key×V):=more.foldl (λacc kv=>putK acc kv.1 kv.2) kvs
def KV.merge:∀{more:List (Key×V)}{rs:List (Key×ai)}{kvs:List (Key×V)}{vs:List (Key×ai)},KV more rs->KV kvs vs->KV (ju kvs more) (merged vs rs):=by
 intro more rs kvs vs r;unfold KV at r
 induction r generalizing kvs vs with
 |nil=>intro q;exact q
 | @cons p q ps qs h t ih =>
   intro r0
   have e:KV (putK kvs p.1 p.2) (stored vs q.1 q.2):=by
    have:=r0.put p.1 h.2;rw[<- h.1];exact this
   exact ih e
def kO:∀(more kvs:List (Key×V)),(ju kvs more).length<=kvs.length+more.length
 |[],kvs=>by show kvs.length<=kvs.length+0;lia
 |p::r,kvs=>by
  have h1:=kO r (putK kvs p.1 p.2);have h2:=vo kvs p.1 p.2;show(ju (putK kvs p.1 p.2) r).length<=_;rw[ag];lia
def pT{P:aP}{w:bA}:∀{kvs:List (Key×V)}{ws:List (ai×ai)},VV (kvs.map λkv=>(kV kv.1,kv.2)) ws->∃rs,Carries (dA P w) ws rs/\KV kvs rs
 |[],_,r=>by rw[dm]at r;cases r;exact⟨[],fO,.nil⟩
 |p::kvs,_,r=>by
  rw[aw]at r
  cases r with
  | @cons a b as bs h t =>
    obtain⟨rs,c,q⟩:=pT (P:=P) (w:=w) t;obtain⟨b1,b2⟩:=b;exact⟨(p.1,b2)::rs,⟨Dx h.1,rfl,c⟩,.cons ⟨rfl,h.2⟩ q⟩
def Mw(trs:List (TE×TE)):TE:=λσ H Q=>∀p,H p=none->rY trs σ (upd H p (.dK [])) λps H2=>H2 p=some (.dK [])/\∃kvs:List (Key×V),ps=kvs.map (λkv=>(kV kv.1,kv.2))/\kvs.length<=15/\Q (.ref p) (upd H2 p (.dK (ju [] kvs)))
def yo{X:Cx}{pos:Pos}{keys:List (Option aE)}{values:List aE}{trs:List (TE×TE)}(h:PPs X pos keys values trs)(hall:keys.all (·.isSome)=true)(hl:keys.length=values.length)(h0:keys≠[])
 (h15:keys.length<=15):PE X (.Dict keys values pos) (Mw trs):=by
 intro pins s σ H Q I q;have hn:=I.hok.fresh (aD s.heap.objs.size);have I1:=I.laid (a:=s.heap.objs.size) (o:=.dK []) (h':=s.heap.push {cls:=.type "dict",data:=.dict #[]}) (t':=s.toks) (λ_ _ q=>ax _ q) (aD _) (Ea s.heap I.big);refine wpAny_Dict_walk (knd:=dA X.prog X.w) hall hl h0 h15 (thn (h pins _ σ _ _ I1 (q _ hn)) λws s2⟨ps,H2,I2,rel,e,kvs,ep,lk,q2⟩=>?_);subst ep;obtain⟨rs,c,rk⟩:=pT (P:=X.prog) (w:=X.w) rel;obtain⟨z,hd,vs0,r0,dd⟩:=Nx I2.hok e;cases r0;refine⟨rs,c,dd,λh' dd' hs=>⟨.ref s.heap.objs.size,_,?_,rfl,q2⟩⟩
 have hz:(ju [] kvs).length<=sizeLine:=by
  have h1:=kO kvs [];rw[aL]at h1;rw[ub];lia
 have he:∃q,h'.get? s.heap.objs.size=some q:=let⟨q,_,_,hq,_⟩:=dd';⟨q,hq⟩
 exact Hu I2 (by rw[e];exact fO) hs he (Lp hz hd (rk.merge .nil) dd')
structure M2(X:Cx)(o:aE)(m:Str)(apos:Pos)(e f:aE)(cpos:Pos):Prop where
 base:attributeBase o m X.env (eval o X.env)=eval o X.env
 few:((backTo cpos (starEach [e,f] X.env)).all (λx=>!x.1)&&(backToKw cpos (keywordEach [] X.env)).all (λx=>x.1.isSome)
  && decide (([e,f]:List aE).length+([]:List dP).length+(if([]:List dP).isEmpty then 0 else 1)<30))=true
 line:(apos.endLine==cpos.line)=true
 trees:backTo cpos (starEach [e,f] X.env)=[(false,eval e X.env),(false,eval f X.env)]
def IsD(H:Hp)(a:av):Prop:=(∃kvs,Rd H a (.dK kvs))\/∃kvs,Rd H a (.dT kvs)
def DC{X:Cx}{pins:List (av×Obj)}{σ:St}{H:Hp}{s:au}{a:av}(I:Inv X pins σ H s)(d:IsD H a) :
 s.TypeIs (.ref a) "dict"/\(∀b,cj a=.ref b->∃ob,s.heap.get? b=some ob/\ob.dict=none)/\(a==sysModules)=false:=by
 rcases d with⟨kvs,e⟩|⟨kvs,e⟩
 .obtain⟨_,hd,vs,_,dd⟩:=DZ I.hok e;refine⟨dd.typeIs,λb q=>?_,hd⟩;cases q;obtain⟨ob,_,_,h1,h2,_⟩:=dd;exact⟨ob,h1,h2.2.1⟩
 .obtain⟨_,hd,xs,_,dd⟩:=II I.hok e;refine⟨dd.typeIs,λb q=>?_,hd⟩;cases q;obtain⟨ob,_,_,h1,h2,_⟩:=dd;exact⟨ob,h1,h2.2.1⟩
section
variable{X:Cx}{pins:List (av×Obj)}{σ:St}{H:Hp}{s:au}{a:av}{y d:V}{u r:ai}{o:Option V}{A:bB}{E:ai->au->Prop}
def Lr{Q:ai->au->Prop}(hu:A.units+1<cLine)(I:Inv X pins σ H s)(g:DGet H a y o)(ry:RelV y u)(rd:RelV d r)(h:∀w' s',Inv X pins σ H s'->RelV (o.getD d) w'->Q w' s') :
 wpAny (model X.prog X.w) A (call (.builtin "dict.get") [.ref a,u,r]) Q E s:=by
 rcases g with⟨kvs,k,e,ey,l⟩|⟨kvs,k,b,e,ey,eb,l⟩
 .subst ey;obtain⟨z,hd,vs,rel,dd⟩:=DZ I.hok e;refine call_meetsIn PySem.F.slot_dict_get dd.typeIs PySem.F.entry_dict_get (PySem.F.args_dict_get_3 _ _ _) (meets_dict_get_default (dA X.prog X.w) a (Dx ry) hd r) ⟨_,dd.mapOf,h _ _ (I.tok _) ?_⟩;rw[l];exact(rel.val k).getD rd
 .subst ey;cases(show u=cj b from ry);obtain⟨z,hd,xs,rel,dd⟩:=II I.hok e;refine call_meetsIn PySem.F.slot_dict_get dd.typeIs PySem.F.entry_dict_get (PySem.F.args_dict_get_3 _ _ _) (meetsH_dict_get_default (tupleKind (dA X.prog X.w)) a b hd r) ⟨tupleKind_room_in1 hu,k,xs,Dw I.hok eb,dd,h _ _ (I.tok _) ?_⟩;rw[l];exact(rel.val k).getD rd
end
def Jy(td ty tx:TE):TE:=λσ H Q=>td σ H λx H1=>∃a,x=.ref a/\IsD H1 a/\ty σ H1 λy H2=>tx σ H2 λz H3=>∃o,DGet H3 a y o/\Q (o.getD z) H3
section
variable{X:Cx}{o e f:aE}{apos cpos:Pos}{td ty tx:TE}
def CL(hu:X.A.units+1<cLine)(ho:PE X o td)(he:PE X e ty)(hf:PE X f tx)(m:M2 X o "get" apos e f cpos):PE X (.Call (.Attribute o "get" apos) [e,f] [] cpos) (Jy td ty tx):=by
 intro pins s σ H Q I h;refine wpAny_Call_method m.base m.few m.line PySem.F.plainAttrs_dict PySem.F.slot_dict_get PySem.F.type_dict_get (thn (ho pins s σ H _ I h) λu s1⟨x,H1,I1,rx,a,ex,d,q1⟩=>?_);subst ex;obtain rfl:u=cj a:=rx;obtain⟨t1,t2,_⟩:=DC I1 d;refine⟨t1,t2,?_⟩;rw[m.trees]
 refine jN rfl (kL (mC (thn (he pins s1 σ H1 _ I1 q1) λiv s2⟨y,H2,I2,ry,q2⟩ =>
  mC (thn (hf pins s2 σ H2 _ I2 q2) λfv s3⟨z,H3,I3,rz,ov,g,q3⟩=>AI ?_))))
 exact Lr hu I3 g ry rz λw' s4 I4 rw'=>⟨_,H3,I4,rw',q3⟩
end
section
variable{X:Cx}{pins:List (av×Obj)}{σ:St}{H:Hp}{s:au}{a:av}{kvs:List (Key×V)}{A:bB}{E:ai->au->Prop}
end
section
variable{X:Cx}{pins:List (av×Obj)}{σ:St}{H:Hp}{s:au}{a:av}{y:V}{u:ai}{A:bB}{E:ai->au->Prop}
end
abbrev TU:=St->Hp->(St->Hp->Prop)->Prop
def PU(X:Cx)(m:Sem Unit)(t:TU):Prop :=
 ∀(pins:List (av×Obj))(s:au)(σ:St)(H:Hp)(Q:St->Hp->Prop),Inv X pins σ H s->t σ H Q ->
  wpAny (model X.prog X.w) X.A m (λ_ s'=>∃σ' H',Inv X pins σ' H' s'/\Q σ' H') X.xe s
def PTs(X:Cx)(ifs:List aE)(t:TT):Prop :=
 ∀(pins:List (av×Obj))(s:au)(σ:St)(H:Hp)(Q:Bool->Hp->Prop),Inv X pins σ H s->t σ H Q ->
  wpAny (model X.prog X.w) X.A (forIn ifs true λc r=>if r=true then do let ok <- isTrue c X.env (eval c X.env);pure (ji ok)else pure (ji r)) (TP X pins σ Q) X.xe s
section
variable{X:Cx}
def Gk:PTs X [] (λ_ H Q=>Q true H):=λpins s σ H Q I h=>wpAny_tests_nil ⟨H,I,h⟩
def Gj(hc:PT X c t):PTs X [c] t:=λpins s σ H Q I h=>wpAny_tests_one (hc pins s σ H Q I h)
def tLp(J:It)(g:TG)(tt:TT)(tb:TU):TU:=λσ H Q=>∃W:Nat->Nat->St->Hp->Prop,(∃m,W 0 m σ H)/\∀i m σ H,W i m σ H ->
 (J.stop i H/\Q σ H)\/(J.go i H/\∀x H',J.yld i H x H'->g x σ H' λσ2 H2=>tt σ2 H2 λb H3 =>
   if b=true then tb σ2 H3 λσ4 H4=>∃m',m'<m/\W (i+1) m' σ4 H4 else ∃m',m'<m/\W (i+1) m' σ2 H3)
def IL
 {R:Ma->au->Prop}(hx:∀x s',X.xe x s'->notedBy (model X.prog X.w) X.A X.env (λx s'=>R (.error x) s') x s')(hc:X.calm=true)
 (hq:(Code.compLoop e d (.ref it) acc X.env).quiet=true)
 (hden:(model X.prog X.w).den (.compLoop e d (.ref it) acc X.env)=(compTurn e d (.ref it) acc X.env).onRaise (λx=>do noteFrame x X.env;theTreesLotGoes x))
 (hund:X.A.under (.compLoop e d (.ref it) acc X.env)=X.A)
 (hturn:compTurn e d (.ref it) acc X.env=(do
   standAt ip
   match <- pyNext (.ref it)with
   |none=>pure (.done .next)
   |some v =>
    letOwnedTupleGo tg (.ref it) v
    assign tg X.env v
    let mut ok:=true
    for c in ifs do
     if ok then ok <- isTrue c X.env (eval c X.env)
    if ok then body
    again (.compLoop e d (.ref it) acc X.env)))
 (T:Turn X.prog X.w X.K tg J fp it tn) (hg:PG X tg g) (ht:PTs X ifs tt) (hb:PU X body tb)
 {pins:List (av×Obj)} {s:au} {σ:St} {H:Hp} {Q:St->Hp->Prop} (I:Inv X pins σ H s) (st:tn 0 s.heap) (f:∀b∈fp,lD X pins H b) (h:tLp J g tt tb σ H Q)
 (hR:∀s' σ' H',Inv X pins σ' H' s'->Q σ' H'->R (.ok .next) s'):codeAny (model X.prog X.w) X.A (.compLoop e d (.ref it) acc X.env) R s:=by
 obtain⟨W,⟨m0,w0⟩,turn⟩:=h;have stat:∀{H':Hp},(∀b∈fp,H' b=none)->∀b∈fp,lD X pins H' b:=λhn b hb=>⟨hn b hb,(f b hb).2⟩;refine codeAny_loop hq (λn s'=>∃i σ' H',Inv X pins σ' H' s'/\tn i s'.heap/\(∀b∈fp,H' b=none)/\W i n σ' H') ?_ m0 ⟨0,σ,H,I,st,λb hb=>(f b hb).1,w0⟩;rintro n s3 ⟨i,σ3,H3,I3,st3,fr3,w3⟩;rw[hden,hund,hturn];refine wpAny_noted ?_;have cut:∀{α:Type}{m:Sem α}{Q:α->au->Prop}{s:au},wpAny (model X.prog X.w) X.A m Q X.xe s->wpAny (model X.prog X.w) X.A m Q (notedBy (model X.prog X.w) X.A X.env λx s'=>R (.error x) s') s:=λz=>cu z (λ_ _ y=>y) hx;refine aI (kg (aI ?_));rcases turn i n σ3 H3 w3 with⟨stop,qn⟩|⟨go,step⟩
 .refine cut (thn (T.done X rfl rfl rfl hc i pins s3 σ3 H3 X.xe I3 (stat fr3) st3 stop) λr s4⟨hr,I4⟩=>?_);subst hr;exact bf (hR s4 σ3 H3 I4 qn)
 .refine cut (thn (T.item X rfl rfl rfl hc i pins s3 σ3 H3 X.xe I3 (stat fr3) st3 go) λr s4⟨u,hr,h4⟩=>?_);subst hr;refine aI (cut (thn h4 λ_ s5⟨x,H5,I5,r5,y5,st5,fr5⟩=>?_));have I5':=I5.pinned (stat fr5) (T.obj _ _ st5);refine aI (cut (thn (hg _ s5 σ3 H5 x u _ I5' r5 (step x H5 y5)) λ_ s6⟨σ6,H6,I6,q6⟩=>?_))
  have again:∀{σ7:St}{H7:Hp}{s7:au},Inv X (pins++pB fp s5.heap) σ7 H7 s7->(∃m',m'<n/\W (i+1) m' σ7 H7)->∃m,m<n/\∃i σ' H',Inv X pins σ' H' s7/\tn i s7.heap/\(∀b∈fp,H' b=none)/\W i m σ' H':=λ{σ7 H7 s7}I7 n7=>by
   obtain⟨m',hm,w7⟩:=n7;refine⟨m',hm,i+1,σ7,H7,I7.unpinned,T.keep _ _ _ st5 λb hb o e=>(I7.pin (b,o) (aO _ (aO _ (jv hb e)))).1,λb hb=>?_,w7⟩;obtain⟨o,e,d⟩:=T.obj _ _ st5 b hb;exact(I7.pin (b,o) (aO _ (aO _ (jv hb e)))).2.1
  refine aI (cut (thn (ht _ s6 σ6 H6 _ I6 q6) λok s7⟨H7,I7,q7⟩=>?_))
  cases ok with
  |false =>
   rw[if_neg aq]at q7
   exact bf ⟨rfl,again I7 q7⟩
  |true =>
   rw[if_pos rfl]at q7;refine aI (cut (thn (hb _ s7 σ6 H7 _ I7 q7) λ_ s8⟨σ8,H8,I8,q8⟩=>?_));exact bf ⟨rfl,again I8 q8⟩
end
def gv(env:Env):List (Str×jE)->List (Str×av)->List (Str×av)
 |[],cs=>cs
 |(n,k)::r,cs=>gv env r (if k==.free then(n,(env.cells.lookup n).getD 0)::cs else cs)
def yS:∀(names:List (Str×jE))(cs:List (Str×av)),(∀x,(x,bO)∈names->∃c,env.cells.lookup x=some c) ->
 (forIn names cs λx r=>match x with|(name,kind)=>(do
   if(kind==bO)=true then do
    let y <- cellOf env name
    pure (ji ((name,y)::r))
   else pure (ji r):Sem (ForInStep (List (Str×av)))))=(pure (gv env names cs):Sem (List (Str×av)))
 |[],cs,_=>rfl
 |(n,k)::r,cs,h=>by
  have ih:=λcs=>yS (env:=env) r cs λx hx=>h x (ao _ hx);rw[fM];by_cases hk:k=.free
  .subst hk;obtain⟨c,e⟩:=h n ay;have e2:cellOf env n=pure c:=by unfold cellOf;rw[e]
   simp only[beq_self_eq_true,if_true,e2,pure_bind,gv,e,nN];exact ih _
  .have hb:(k==bO)=false:=by simpa using hk
   simp only[hb,cI,if_false,pure_bind,gv];exact ih _
def Eg(h:∀x,(x,bO)∈scope.names->∃c,env.cells.lookup x=some c):closureFor scope env=pure (gv env scope.names []):=by
 have q:=yS (env:=env) scope.names [] h;unfold closureFor;rw[<- bind_pure (pure (gv env scope.names []):Sem _),<- q]
def tm:∀(names:List (Str×jE))(cs:List (Str×av)),(∀x,(x,bO)∈names->∃c,env.cells.lookup x=some c)->∀p∈gv env names cs,p∈cs\/env.cells.lookup p.1=some p.2
 |[],cs,_,p,hp=>.inl hp
 |(n,k)::r,cs,h,p,hp=>by
  unfold gv at hp;have ih:=tm (env:=env) r _ (λx hx=>h x (ao _ hx)) p hp;rcases ih with ih|ih
  .by_cases hk:k=.free
   .subst hk;rw[if_pos ↥0]at ih;rcases aA.mp ih with rfl|ih
    .obtain⟨c,e⟩:=h n ay;right;rw[e];rfl
    .exact .inl ih
   .rw[if_neg (by simpa using hk)]at ih;exact .inl ih
  .exact .inr ih
def tq:∀(names:List (Str×jE))(cs:List (Str×av))(x:Str),((x,bO)∈names\/∃c,(x,c)∈cs)->∃c,(x,c)∈gv env names cs
 |[],cs,x,h=>by
  rcases h with h|h
  .cases h
  .exact h
 |(n,k)::r,cs,x,h=>by
  unfold gv;refine tq (env:=env) r _ x ?_;rcases h with h|⟨c,h⟩
  .rcases aA.mp h with e|h
   .cases e;right;rw[if_pos ↥0];exact⟨_,ay⟩
   .exact .inl h
  .right;split
   .exact⟨c,ao _ h⟩
   .exact⟨c,h⟩
def iN{α:Type}:∀{l:List (Str×α)}{x:Str}{c:α},(x,c)∈l->∃d,l.lookup x=some d
 |[],_,_,h=>by cases h
 |(y,d)::r,x,c,h=>by
  rw[bp]
  cases e:x==y with
  |true=>exact⟨d,rfl⟩
  |false =>
   rcases aA.mp h with q|q
   .cases q;simp at e
   .exact iN q
structure kf(X:Cx)(scope:dO):Prop where
 kind:scope.kind=.function
 nocell:∀y∈scope.names,y.2≠.cell
 names:∀y∈scope.names,y.2=.local->scope.names.lookup y.1=some .local
 free:∀x,(x,bO)∈scope.names->X.env.kindOf x=some .cell\/X.env.kindOf x=some .free
def cxC(X:Cx)(scope:dO)(cl:List (Str×av))(C:av)(Nc:List Str)(s:au)(H:Hp)(fp:List av):Cx :=
 {X with N:=Nc,s₀:=s,H₀:=H,env:=compEnvC scope cl C X.env,outer:=X.stack,ex:=fp,fn:=λ_=>false,pn:=[],xe:=λ_ _=>False}
def ig{scope:dO}{env:Env}:∀(names:List (Str×jE))(x:Str),
 (names.map λ(n,k)=>if(k==bO&&env.scope.kind==.function&&env.kindOf n==some .cell)then(n,kK)else(n,k)).lookup x =
   (names.lookup x).map λk=>if(k==bO&&env.scope.kind==.function&&env.kindOf x==some .cell)then kK else k
 |[],x=>rfl
 |(n,k)::r,x=>by
  have ih:=ig (scope:=scope) (env:=env) r x;rw[aw]
  cases hx:x==n with
  |true =>
   have e:x=n:=by simpa using hx
   subst e;by_cases hc:(k==bO&&env.scope.kind==.function&&env.kindOf x==some .cell)=true
   .simp only[hc,if_true,bp,beq_self_eq_true,bg]
   .simp only[hc,if_false,bp,beq_self_eq_true,bg,cI]
  |false =>
   by_cases hc:(k==bO&&env.scope.kind==.function&&env.kindOf n==some .cell)=true
   .simp only[hc,if_true,bp,hx];exact ih
   .simp only[hc,if_false,bp,hx,cI];exact ih
def mW{scope:dO}{env:Env}{cl:List (Str×av)}{C:av}(x:Str):(compEnvC scope cl C env).kindOf x =
 (scope.names.lookup x).map λk=>if(k==bO&&env.scope.kind==.function&&env.kindOf x==some .cell)then kK else k:=ig (scope:=scope) (env:=env) scope.names x
def qo(nc:∀y∈scope.names,y.2≠.cell)(h:(compEnvC scope cl C env).kindOf x=some .cell\/(compEnvC scope cl C env).kindOf x=some .free) :
 scope.names.lookup x=some .free:=by
 rw[mW]at h
 cases e:scope.names.lookup x with
 |none=>rw[e]at h;simp at h
 |some k =>
  rw[e]at h;have hm:=PySem.mem_of_lookup e;have:=nc _ hm;simp only[bg]at h;cases k<;>simp_all
def rj{X:Cx}{scope:dO}{C:av}{Nc:List Str}{s:au}{h1:bV}{t1:Nat}{H:Hp}{fp:List av}{pins:List (av×Obj)}{σ:St}
 (S:kf X scope)(I:Inv X pins σ H s)(hf:∀b∈fp,lD X pins H b)(hfl:∀b∈fp,b<s.heap.objs.size)(hC:C=s.heap.objs.size)(hns:h1.Ns C λ_=>none)(hk:∀b o,s.heap.get? b=some o->h1.get? b=some o)
 (hN:∀i x,i<X.N.length->Nc[i]?=some x->Vis scope x->X.N[i]?=some x/\scope.names.lookup x=some .free)(hl:X.N.length<=Nc.length) :
 Inv (cxC X scope (gv X.env scope.names []) C Nc s H fp) [] (σ++aC (Nc.length-X.N.length) none) H {s with heap:=h1,toks:=t1}:=by
 have hcl:∀x,(x,bO)∈scope.names->∃c,X.env.cells.lookup x=some c:=λx hx=>I.ok.has x (S.free x hx)
 have hlk:∀x c,(gv X.env scope.names []).lookup x=some c->X.env.cells.lookup x=some c:=λx c e=>by
  have:=tm scope.names [] hcl _ (PySem.mem_of_lookup e);rcases this with z|z
  .cases z
  .exact z
 subst hC
 have neC:∀x c,(gv X.env scope.names []).lookup x=some c->c<s.heap.objs.size:=λx c e=>by
  obtain⟨v,z⟩:=I.cell x c (hlk x c e);exact z.lt
 refine⟨⟨I.ok.mod,S.kind,I.ok.glob,I.ok.blt,aD _,λx y c e1 e2=>I.ok.inj x y c (hlk x c e1) (hlk y c e2),λx hx=>?_,λx c z _=>absurd z aq,I.ok.hd,I.ok.frames,.inl rfl,λb hb=>⟨aS (hfl b hb),λx c e=>(hf b hb).2.2.2.2.1 x c (hlk x c e)⟩,
  I.bs,aX I.ok.bsz I.sz,λb o e hb=>?_,λb hb hz=>?_,I.stack,I.stkFree⟩,rfl,I.bare,Un.kept hk,⟨_,hns,λi x v e1 e2 e3=>?_⟩,λx c e=>?_,I.hok.fresh (aD _),λx c e=>I.freeC x c (hlk x c e),λp hp=>absurd (show p∈([]:List (av×Obj))from hp) ↥0,I.hok.kept hk,?_⟩
 .have q:=qo (cl:=gv X.env scope.names []) (C:=s.heap.objs.size) S.nocell hx;obtain⟨c,hm⟩:=tq (env:=X.env) scope.names [] x (.inl (PySem.mem_of_lookup q));exact iN hm
 .obtain⟨_,_,_,f3,_⟩:=hf b hb;rcases f3 with z|z
  .exact I.ok.noex b o e z
  .exact absurd (aK (aJ e) (aX I.ok.bsz z)) (cV _)
 .obtain⟨_,f1,f2,_⟩:=hf b hb;rcases aA.mp (I.stkSub b hz)with q|q
  .exact f1 q
  .exact f2 q
 .have e1:Nc[i]?=some x:=e1
  have hi:i<X.N.length:=by
   by_cases hi:i<X.N.length
   .exact hi
   .rw[fi (by rw[I.len];omega),fZ]at e2;split at e2<;>cases e2
  rw[cw (by rw[I.len];exact hi)]at e2
  have vis:Vis scope x:=by
   have e3:Vis (relabel scope X.env) x:=e3;unfold Vis relabel at e3;rw[ig (scope:=scope)]at e3;unfold Vis
   cases q:scope.names.lookup x with
   |none=>rw[q]at e3;simp at e3
   |some k =>
    rw[q]at e3;simp only[bg]at e3;have:=S.nocell _ (PySem.mem_of_lookup q);cases k<;>simp_all
  obtain⟨n1,n2⟩:=hN i x hi e1 vis;obtain⟨m,hn,hl'⟩:=I.loc;have kd:=S.free x (PySem.mem_of_lookup n2)
  have visX:Vis X.env.scope x:=by
   rcases kd with z|z
   .exact .inr (.inl z)
   .exact .inr (.inr z)
  obtain⟨u,r,l⟩:=hl' i x v n1 e2 visX;refine⟨u,r,.inr ?_⟩;rcases l with⟨k,_⟩|⟨k,c,ec,z⟩
  .rcases kd with z|z
   .rw[z]at k;cases k
   .rw[z]at k;cases k
  .obtain⟨c',hm⟩:=tq (env:=X.env) scope.names [] x (.inl (PySem.mem_of_lookup n2));obtain⟨c2,hc2⟩:=iN hm;have:=hlk x c2 hc2;rw[ec]at this;cases this;refine⟨?_,c,hc2,?_⟩
   .show(compEnvC scope (gv X.env scope.names []) s.heap.objs.size X.env).kindOf x=some .cell\/(compEnvC scope (gv X.env scope.names []) s.heap.objs.size X.env).kindOf x=some .free;rw[mW,n2];simp only[bg];split
    .exact .inl rfl
    .exact .inr rfl
   .obtain⟨o,ho,hd⟩:=z;exact⟨o,hk _ _ ho,hd⟩
 .obtain⟨v,o,ho,hd⟩:=I.cell x c (hlk x c e);exact⟨v,o,hk _ _ ho,hd⟩
 .show _=Nc.length;rw[az,cQ,I.len];omega
def uD(D:av)(te:TE):TU:=λσ H Q=>te σ H λy H'=>∃xs,H' D=some (.lst xs)/\xs.length<sizeLine/\Q σ (upd H' D (.lst (xs++[y])))
def sj(he:PE X elt te):PU X (do let _ <- call (.builtin "list.append") [.ref D,<- eval elt X.env]) (uD D te):=by
 intro pins s σ H Q I h;refine aI (thn (he pins s σ H _ I h) λu s1⟨y,H1,I1,r1,xs,hD,hz,q⟩=>?_);refine aI (thn (qX pins s1 σ H1 (.ref D) [y] (.ref D) [u] (λ_ H'=>Q σ H') I1 rfl (.cons r1 .nil) ⟨D,xs,y,rfl,rfl,hD,hz,q⟩) λ_ s2⟨_,H2,I2,_,q2⟩=>?_);exact bf ⟨σ,H2,I2,q2⟩
def tLC(k:Nat)(wi:TI)(g:TG)(tt:TT)(te:TE):TE:=λσ H Q=>wi σ H λJ H1=>∀D,H1 D=none ->
 tLp J g tt (uD D te) (σ++aC k none) (upd H1 D (.lst [])) λ_ H2=>Q (.ref D) H2
def lx
 (I:Inv X pins σ H s)(hf:∀b∈fp,lD X pins H b)(hC:C=s.heap.objs.size)(J:Inv (cxC X scope cl C Nc s H fp) [] σ' H' s')(hs:jQ C s'.heap h2):Inv X pins σ H' {s' with heap:=h2}:=by
 have hok:HOk X.prog X.w H' h2:=λb ob e=>by
  refine(J.hok b ob e).stay (λc w' hc q=>(hs.2 c ?_).trans q) (λ_ q=>q) λ_ _ q=>q;rintro rfl;have fr:H' c=none:=J.free;rcases hc with rfl|hc
  .rw[fr]at e;cases e
  .rw[fr]at hc;cases hc
 have neC:∀b o,s.heap.get? b=some o->b≠C:=λb o e=>by rw[hC];exact aS (aJ e)
 refine I.call' (s':={s' with heap:=h2}) (ch:=fp) J.os ⟨λb o e n hb hx=>?_,λb o e n hb hx=>?_,λb o e n hx=>J.base.free b o e n hx,λb o e hx=>?_,J.base.tups,J.base.frzs,J.base.tbls⟩ hok J.bare λb hb=>?_
 .exact(hs.2 b (neC b o e)).trans (J.base.keep b o e n hb hx)
 .obtain⟨sl,z⟩:=J.base.slot b o e n hb hx;exact⟨sl,(hs.2 b (neC b o e)).trans z⟩
 .obtain⟨o',z⟩:=J.base.there b o e hx;exact⟨o',(hs.2 b (neC b o e)).trans z⟩
 .obtain⟨f0,f1,f2,f3,f4,f5⟩:=hf b hb;exact⟨f3,f1,f4,f5⟩
def pL
 (S:kf X scope)(I:Inv X pins σ H s)(hf:∀b∈fp,lD X pins H b)(hfl:∀b∈fp,b<s.heap.objs.size)(hC:C=s.heap.objs.size)(hn:∀b∈fp,H' b=none) :
 ∀b∈fp,lD (cxC X scope (gv X.env scope.names []) C Nc s H fp) [] H' b:=λb hb=>by
 have hcl:∀x,(x,bO)∈scope.names->∃c,X.env.cells.lookup x=some c:=λx hx=>I.ok.has x (S.free x hx);obtain⟨f0,f1,f2,f3,f4,f5⟩:=hf b hb;refine⟨hn b hb,?_,λz=>?_,.inl hb,λx c e=>?_,λp hp=>absurd (show p∈([]:List (av×Obj))from hp) ↥0⟩
 .show b≠C;rw[hC];exact aS (hfl b hb)
 .rcases aA.mp (I.stkSub b z)with q|q
  .exact f1 q
  .exact f2 q
 .have:=tm scope.names [] hcl _ (PySem.mem_of_lookup e);rcases this with z|z
  .cases z
  .exact f4 x c z
def Lm(X:Cx)(C:av)(x:ai)(s':au):Prop:=∃m,s'.heap.Ns C m/\∀h',jQ C s'.heap h'->∀cenv:Env,cenv.locals=C->wpAny (model X.prog X.w) X.A (passOn "comprehension.variables-let-go" x cenv:Sem ai) (λ_ _=>False) X.xe {s' with heap:=h'}
def Blk(X:Cx)(scope:dO)(cl:List (Str×av))(C:av)(s:au)(H:Hp)(fp:List av)(σ:St):Prop:=∃pins,Inv X pins σ H s/\(∀b∈fp,lD X pins H b)/\(∀b∈fp,b<s.heap.objs.size)/\C=s.heap.objs.size/\cl=gv X.env scope.names []
def PG.nox(h:PG X.nox tg t):PG X tg t:=λpins s σ H v u Q I r hw=>cu (h pins s σ H v u Q (I.wish _) r hw) (λ_ _⟨σ',H',I',q⟩=>⟨σ',H',I'.unwish,q⟩) λ_ _ z=>bu z
def PTs.nox(h:PTs X.nox ifs t):PTs X ifs t:=λpins s σ H Q I hw=>cu (h pins s σ H Q (I.wish _) hw) (λ_ _⟨H',I',q⟩=>⟨H',I'.unwish,q⟩) λ_ _ z=>bu z
def qQ{rest:List kn}{body:ai->Env->Sem Unit}{tb:St->av->TU}{xb:List (Str×av)->av->ai->au->Prop}
 (hx:∀cl C x s',xb cl C x s'->notedBy (model X.prog X.w) X.A (compEnvC scope cl C X.env) (Lm X C) x s')(hc:X.calm=true)(S:kf X scope)(hN:∀i x,i<X.N.length->Nc[i]?=some x->Vis scope x->X.N[i]?=some x/\scope.names.lookup x=some .free)(hl:X.N.length<=Nc.length)
 (hi:PI X tg iter wi)(hg:∀cl C s H fp,PG (cxC X scope cl C Nc s H fp) tg g)(ht:∀cl C s H fp,PTs (cxC X scope cl C Nc s H fp) ifs tt)(hb:∀cl C s H fp σ D,Blk X scope cl C s H fp σ->PU ((cxC X scope cl C Nc s H fp).wish (xb cl C)) (body (.ref D) (compEnvC scope cl C X.env)) (tb σ D))
 (hturn:∀it acc env,compTurn (.ListComp elt (⟨tg,iter,ifs,0⟩::rest) scope pos) 0 it acc env=(do
   standAt iter.pos
   match <- pyNext it with
   |none=>pure (.done .next)
   |some v =>
    letOwnedTupleGo tg it v
    assign tg env v
    let mut ok:=true
    for c in ifs do
     if ok then ok <- isTrue c env (eval c env)
    if ok then body acc env
    again (.compLoop (.ListComp elt (⟨tg,iter,ifs,0⟩::rest) scope pos) 0 it acc env)))
 (hs:∀x,foldedSetIterable iter X.env x=pure x):PE X (.ListComp elt (⟨tg,iter,ifs,0⟩::rest) scope pos) (λσ H Q=>wi σ H λJ H1=>∀D,H1 D=none->tLp J g tt (tb σ D) (σ++aC (Nc.length-X.N.length) none) (upd H1 D (.lst [])) λ_ H2=>Q (.ref D) H2):=by
 intro pins s σ H Q I h;rw[eval_ListComp];refine Aq (use:=none) rfl hs (Eg λx hz=>I.ok.has x (S.free x hz)) S.kind S.names (thn (hi pins s σ H _ I h) λv s1 h1=>thn h1 λitv s2 h2=>?_);obtain⟨it,fp,tn,J,H2,e,I2,T,st2,f2,q⟩:=h2;subst e;refine dM (hd:=by size_fits) ?_;have hfr:=I2.fresh;have I3:Inv X pins σ (upd H2 s2.heap.objs.size (.lst [])) {s2 with heap:=s2.heap.push {cls:=.type "list",data:=.seq ([]:List ai).toArray} }:=I2.lnew (t':=s2.toks) (its:=[]) .nil (bM _);have st3:tn 0 (s2.heap.push {cls:=.type "list",data:=.seq ([]:List ai).toArray}):=T.keep _ _ _ st2 λb _ o e=>ax _ e
 have fl3:∀b∈fp,b<s2.heap.objs.size:=λb hb=>by
  obtain⟨o,e,_⟩:=T.obj _ _ st2 b hb;exact aJ e
 have ne3:∀b∈fp,upd H2 s2.heap.objs.size (.lst []) b=none:=λb hb=>by rw[bD (aS (fl3 b hb))];exact(f2 b hb).1
 have f3:∀b∈fp,lD X pins (upd H2 s2.heap.objs.size (.lst [])) b:=λb hb=>⟨ne3 b hb,(f2 b hb).2⟩;have q3:=q s2.heap.objs.size hfr;generalize hH3:upd H2 s2.heap.objs.size (.lst [])=H3 at I3 ne3 f3 q3;generalize hs3:({s2 with heap:=s2.heap.push {cls:=.type "list",data:=.seq ([]:List ai).toArray} }:au)=s3 at I3;have hs3h:s3.heap=s2.heap.push {cls:=.type "list",data:=.seq ([]:List ai).toArray}:=by rw[<- hs3]
 rw[<- hs3h]at st3;have fl4:∀b∈fp,b<s3.heap.objs.size:=λb hb=>by rw[hs3h,kY];exact jh (fl3 b hb)
 refine HR S.nocell (by intro y hy;simp at hy) (λh1 hns hsb=>?_) S.kind;have keep1:∀b o,s3.heap.get? b=some o->h1.get? b=some o:=λb o e=>hsb.extBut b o (aS (aJ e)) (ax _ e);have J0:=rj (h1:=h1) (t1:=s3.toks+([]:List (Str×ai)).length) S I3 f3 fl4 rfl (by simpa using hns) keep1 hN hl;have st4:tn 0 h1:=T.keep _ _ _ st3 λb _ o e=>keep1 b o e
 have loop:∀s4:au,s4={s3 with heap:=h1,toks:=s3.toks+([]:List (Str×ai)).length} ->
  codeAny (model X.prog X.w) X.A (.compLoop (.ListComp elt (⟨tg,iter,ifs,0⟩::rest) scope pos) 0 (.ref it) (.ref s2.heap.objs.size) (compEnvC scope (gv X.env scope.names []) s3.heap.objs.size X.env))
   (compPost (model X.prog X.w) X.A X.xe none (EP X pins σ Q) (.ref s2.heap.objs.size) s3.heap.objs.size) s4:=by
  rintro s4 rfl;refine IL (R:=compPost (model X.prog X.w) X.A X.xe none (EP X pins σ Q) (.ref s2.heap.objs.size) s3.heap.objs.size) (X:=(cxC X scope (gv X.env scope.names []) s3.heap.objs.size Nc s3 H3 fp).wish (xb (gv X.env scope.names []) s3.heap.objs.size)) (ip:=iter.pos) (λx s' z=>hx _ _ x s' z) hc rfl rfl rfl (hturn _ _ _) T (PG.nox (hg _ _ _ _ _)) (PTs.nox (ht _ _ _ _ _)) (hb _ _ _ _ _ σ _ ⟨pins,I3,f3,fl4,rfl,rfl⟩) (J0.wish _) st4 (pL (Nc:=Nc) S I3 f3 fl4 rfl ne3) q3 ?_;intro s' σ' H' J' q';obtain⟨m,hn,_⟩:=J'.loc;exact⟨m,hn,λh2 hs2=>⟨.ref s2.heap.objs.size,H',lx I3 f3 rfl J'.unwish hs2,rfl,q'⟩⟩
 exact EE (loop _ rfl) (T.self _ _ _ _ _ st4 (loop _ rfl))
def zL{rest:List kn}{body:ai->Env->Sem Unit}{tb:av->TU}
 (hc:X.calm=true)(S:kf X scope)(hN:∀i x,i<X.N.length->Nc[i]?=some x->Vis scope x->X.N[i]?=some x/\scope.names.lookup x=some .free)(hl:X.N.length<=Nc.length)
 (hi:PI X tg iter wi)(hg:∀cl C s H fp,PG (cxC X scope cl C Nc s H fp) tg g)(ht:∀cl C s H fp,PTs (cxC X scope cl C Nc s H fp) ifs tt)(hb:∀cl C s H fp D,PU (cxC X scope cl C Nc s H fp) (body (.ref D) (compEnvC scope cl C X.env)) (tb D))
 (hturn:∀it acc env,compTurn (.ListComp elt (⟨tg,iter,ifs,0⟩::rest) scope pos) 0 it acc env=(do
   standAt iter.pos
   match <- pyNext it with
   |none=>pure (.done .next)
   |some v =>
    letOwnedTupleGo tg it v
    assign tg env v
    let mut ok:=true
    for c in ifs do
     if ok then ok <- isTrue c env (eval c env)
    if ok then body acc env
    again (.compLoop (.ListComp elt (⟨tg,iter,ifs,0⟩::rest) scope pos) 0 it acc env)))
 (hs:∀x,foldedSetIterable iter X.env x=pure x):PE X (.ListComp elt (⟨tg,iter,ifs,0⟩::rest) scope pos) (λσ H Q=>wi σ H λJ H1=>∀D,H1 D=none->tLp J g tt (tb D) (σ++aC (Nc.length-X.N.length) none) (upd H1 D (.lst [])) λ_ H2=>Q (.ref D) H2) :=
 qQ (xb:=λ_ _ _ _=>False) (λ_ _ _ _ z=>z.elim) hc S hN hl hi hg ht (λcl C s H fp _ D _=>hb cl C s H fp D) hturn hs
def CI
 (hc:X.calm=true)(S:kf X scope)(hN:∀i x,i<X.N.length->Nc[i]?=some x->Vis scope x->X.N[i]?=some x/\scope.names.lookup x=some .free)(hl:X.N.length<=Nc.length)
 (hi:PI X tg iter wi)(hg:∀cl C s H fp,PG (cxC X scope cl C Nc s H fp) tg g)(ht:∀cl C s H fp,PTs (cxC X scope cl C Nc s H fp) ifs tt)(he:∀cl C s H fp,PE (cxC X scope cl C Nc s H fp) elt te)
 (hs:∀x,foldedSetIterable iter X.env x=pure x):PE X (.ListComp elt [⟨tg,iter,ifs,0⟩] scope pos) (tLC (Nc.length-X.N.length) wi g tt te) :=
 zL hc S hN hl hi hg ht (λ_ _ _ _ _ _=>sj (he _ _ _ _ _)) (λit acc env=>by rw[As]<;>rfl) hs
def CC
 (hx:X.xe=λ_ _=>False)(hc:X.calm=true)(S:kf X scope)(hN:∀i x,i<X.N.length->Nc[i]?=some x->Vis scope x->X.N[i]?=some x/\scope.names.lookup x=some .free)(hl:X.N.length<=Nc.length)
 (hi:PI X tg iter wi)(hg:∀cl C s H fp,PG (cxC X scope cl C Nc s H fp) tg g)(ht:∀cl C s H fp,PTs (cxC X scope cl C Nc s H fp) ifs tt)(he:∀cl C s H fp,PE (cxC X scope cl C Nc s H fp) elt te)
 (hs:∀x,foldedSetIterable iter X.env x=pure x)
 (hNd:X.N.Nodup)(hy:X.N[i]?=some y)(hv:Loc X.env.scope y)(hf:X.fn y=true\/X.env.scope.names.lookup y=some .local)
 (hsw:swapsWith (.ListComp elt [⟨tg,iter,ifs,0⟩] scope pos) (some (.Name y py)) spos.line X.env=pure true) :
 PS X (.Assign [.Name y py] (.ListComp elt [⟨tg,iter,ifs,0⟩] scope pos) spos) (By (tLC (Nc.length-X.N.length) wi g tt te) (pK i)):=by
 intro pins s σ H Q I h;rw[exec_Assign_Name_used _ _ _ _ hsw];refine aI (kg (aI ?_));show wpAny _ X.A (do let _ <- comprehension (.ListComp elt [⟨tg,iter,ifs,0⟩] scope pos) scope X.env _ (newList []) false (eval iter X.env) (some (assign (.Name y py) X.env))) _ _ s
 refine aI (cu (Aq (use:=some (assign (.Name y py) X.env)) (Q:=λ_ s'=>SP X pins Q .next s') rfl hs (Eg λx hz=>I.ok.has x (S.free x hz)) S.kind S.names
  (thn (hi pins s σ H _ I h) λv s1 h1=>thn h1 λitv s2 h2=>?_)) (λ_ s' hq=>bf (bf hq)) λ_ _ e=>e)
 obtain⟨it,fp,tn,J,H2,e,I2,T,st2,f2,q⟩:=h2;subst e;refine dM (hd:=by size_fits) ?_;have hfr:=I2.fresh;have I3:Inv X pins σ (upd H2 s2.heap.objs.size (.lst [])) {s2 with heap:=s2.heap.push {cls:=.type "list",data:=.seq ([]:List ai).toArray} }:=I2.lnew (t':=s2.toks) (its:=[]) .nil (bM _);have st3:tn 0 (s2.heap.push {cls:=.type "list",data:=.seq ([]:List ai).toArray}):=T.keep _ _ _ st2 λb _ o e=>ax _ e
 have fl3:∀b∈fp,b<s2.heap.objs.size:=λb hb=>by
  obtain⟨o,e,_⟩:=T.obj _ _ st2 b hb;exact aJ e
 have ne3:∀b∈fp,upd H2 s2.heap.objs.size (.lst []) b=none:=λb hb=>by rw[bD (aS (fl3 b hb))];exact(f2 b hb).1
 have f3:∀b∈fp,lD X pins (upd H2 s2.heap.objs.size (.lst [])) b:=λb hb=>⟨ne3 b hb,(f2 b hb).2⟩;have q3:=q s2.heap.objs.size hfr;generalize hH3:upd H2 s2.heap.objs.size (.lst [])=H3 at I3 ne3 f3 q3;generalize hs3:({s2 with heap:=s2.heap.push {cls:=.type "list",data:=.seq ([]:List ai).toArray} }:au)=s3 at I3;have hs3h:s3.heap=s2.heap.push {cls:=.type "list",data:=.seq ([]:List ai).toArray}:=by rw[<- hs3]
 rw[<- hs3h]at st3;have fl4:∀b∈fp,b<s3.heap.objs.size:=λb hb=>by rw[hs3h,kY];exact jh (fl3 b hb)
 refine HR S.nocell (by intro y hy;simp at hy) (λh1 hns hsb=>?_) S.kind;have keep1:∀b o,s3.heap.get? b=some o->h1.get? b=some o:=λb o e=>hsb.extBut b o (aS (aJ e)) (ax _ e);have J0:=rj (h1:=h1) (t1:=s3.toks+([]:List (Str×ai)).length) S I3 f3 fl4 rfl (by simpa using hns) keep1 hN hl;have st4:tn 0 h1:=T.keep _ _ _ st3 λb _ o e=>keep1 b o e
 have loop:∀s4:au,s4={s3 with heap:=h1,toks:=s3.toks+([]:List (Str×ai)).length} ->
  codeAny (model X.prog X.w) X.A (.compLoop (.ListComp elt [⟨tg,iter,ifs,0⟩] scope pos) 0 (.ref it) (.ref s2.heap.objs.size) (compEnvC scope (gv X.env scope.names []) s3.heap.objs.size X.env))
   (compPost (model X.prog X.w) X.A X.xe (some (assign (.Name y py) X.env)) (λ_ s'=>SP X pins Q .next s') (.ref s2.heap.objs.size) s3.heap.objs.size) s4:=by
  rintro s4 rfl
  refine IL (X:=cxC X scope (gv X.env scope.names []) s3.heap.objs.size Nc s3 H3 fp) (ip:=iter.pos) (body:=(do let _ <- call (.builtin "list.append") [.ref s2.heap.objs.size,<- eval elt (compEnvC scope (gv X.env scope.names []) s3.heap.objs.size X.env)]))
   (λ_ _ z=>bu z) hc rfl rfl rfl (by rw[As]<;>rfl) T (hg _ _ _ _ _) (ht _ _ _ _ _) (sj (he _ _ _ _ _)) J0 st4 (pL S I3 f3 fl4 rfl ne3) q3 ?_
  intro s' σ' H' J' q';have hC:H' s3.heap.objs.size=none:=J'.free;obtain⟨m,hn,_⟩:=J'.loc;have hn:s'.heap.Ns s3.heap.objs.size m:=hn
  -- the frame's state,the block's own names still there
  have I4:Inv X pins σ H' s':=lx I3 f3 rfl J' (tY _ _);obtain⟨oc,es,ep,ho,hd,hr⟩:=id hn;have above:X.s₀.heap.objs.size<=s3.heap.objs.size:=I3.sz;have hL:s3.heap.objs.size≠X.env.locals:=Nat.ne_of_gt I3.lt;have hfs:s3.heap.objs.size∉X.fs:=I3.nofs (aD _)
  have I5:Inv X (pins++[(s3.heap.objs.size,oc)]) σ H' s':=I4.pins_of λp hp=>by
   rcases cc.mp hp with hp|hp
   .exact I4.pin p (aO _ hp)
   .have:p=(s3.heap.objs.size,oc):=by simpa using hp
    subst this;exact⟨ho,hC,hL,hfs,λv z=>by rw[hd]at z;cases z⟩
  show wpAny _ _ (assign (.Name y py) X.env (.ref s2.heap.objs.size)) _ _ _;refine Mc (ia (v:=.ref s2.heap.objs.size) I5 hNd hy hv rfl (λs5 I6=>?_) hf);have hp6:=I6.pin (s3.heap.objs.size,oc) (aO _ (aO _ ↥0));refine⟨m,⟨oc,es,ep,hp6.1,hd,hr⟩,λh' hsb'=>?_⟩;have I7:Inv X pins (σ.set i (some (.ref s2.heap.objs.size))) H' s5:=I6.unpinned;refine⟨_,H',I7.turned (h':=h') (t':=s5.toks) (it:=s3.heap.objs.size) (λb o hb e=>(hsb'.2 b hb).trans e) hC hL (.inr above) (λx c e z=>?_) (λp hp z=>?_),q'⟩
  .obtain⟨v,o,hoc,hdc⟩:=I3.cell x c e;have:=aJ hoc;rw[z]at this;exact absurd this (cV _)
  .have hq:=(I3.pin p hp).1;have:=aJ hq;rw[z]at this;exact absurd this (cV _)
 exact EE (loop _ rfl) (T.self _ _ _ _ _ st4 (loop _ rfl))
section
variable{X:Cx}
def Oa:V->Option Int->Option Int->Hp->VK->Prop:=λx lo hi H Q=>∃t,x=.str t/\t.length<=sizeLine/\Q (.str (lH t lo hi)) H
def part_of{v:ai}{lo:Option Int}(h:pZ v lo):∃l:Option (Int×Tok),v=partValue l/\l.map (·.1)=lo:=by
 cases h with
 |none=>exact⟨none,rfl,rfl⟩
 |int i t=>exact⟨some (i,t),rfl,rfl⟩
def JP:SlR X Oa:=by
 intro pins s σ H x v vl vu lo hi sl Q I rx hs pl pu h;obtain⟨t,rfl,hz,q⟩:=h;obtain⟨k,rfl⟩:=rx;obtain⟨l,rfl,rfl⟩:=part_of pl;obtain⟨u,rfl,rfl⟩:=part_of pu;refine⟨"str",_,PySem.F.slot_str_getitem.lookup,fI _ _ _,wpAny_getItem_str_slice (l:=l) (u:=u) (st:=none) hs rfl ?_⟩;exact post_val_or_str ⟨aX (Txt.slice_le t _ _) hz,λt' k=>⟨.str _,H,I.tok _,⟨_,rfl⟩,q⟩⟩
def qi:typeLookup (.type "tuple") (dunderI "add")=pure none:=by rw[typeLookup_type,EM];kernel_rfl
def Hg:PIp X .Add (Ir X.K):=by
 intro pins s σ H x y v u Q I rx ry h;obtain⟨a,b,xs,ys,rfl,rfl,ha,hb,hx,hz,q1,q2⟩:=h;cases rx;cases ry;obtain⟨its,r1,p1,_⟩:=I.tuple ha;obtain⟨its2,r2,p2,_⟩:=I.tuple hb;obtain⟨⟨cls,dd,data,sl⟩,ho,hc,n,hd⟩:=id p1;obtain⟨⟨cls2,dd2,data2,sl2⟩,ho2,hc2,n2,hd2⟩:=id p2;simp only at hc hd hc2 hd2;subst hc hd hc2 hd2;have e:its.toArray++its2.toArray=(its++its2).toArray:=by simp
 have hv:its≠[]:=λz=>hx (r1.nil_iff.mp z);refine wpAny_inplaceOp_concat ⟨_,ho,rfl⟩ ⟨_,ho2,rfl⟩ qi kI oJ ?_;by_cases hw:its2=[]
 .exact dR PySem.F.slot_tuple_add ⟨_,ho,rfl⟩ PySem.F.entry_tuple_add (PySem.F.args_tuple_add_2 _ _)
   (tuple_addW1 a b its.toArray its2.toArray n n2 dd dd2 sl sl2 (by simpa using hv) (by simp[hw])) ⟨ho,ho2,⟨.ref a,H,I,rfl,q1 (r2.nil_iff.mp hw)⟩⟩
 .refine dR PySem.F.slot_tuple_add ⟨_,ho,rfl⟩ PySem.F.entry_tuple_add (PySem.F.args_tuple_add_2 _ _)
   (tuple_addW2 a b its.toArray its2.toArray n n2 dd dd2 sl sl2 (by simpa using hv) (by simpa using hw) (by rw[aB,aB,<- r1.length,<- r2.length];exact hz)) ⟨ho,ho2,?_⟩
  rw[e];refine⟨.ref s.heap.objs.size,_,I.laid (t':=s.toks) (o:=.tup (xs++ys)) (λb ob q=>ax _ q) (aD _) ?_,rfl,q2 (λw=>hw (r2.nil_iff.mpr w)) _ (I.hok.fresh (aD _))⟩;exact⟨by rw[az];exact hz,_,r1.append r2,oi _ _⟩
end
end L2
end
section
namespace PP
open PySem PySem.W PyProof.Rows
structure Ord(lt:Nat->Nat->Bool):Prop where
 as:∀a b,lt a b=true->lt b a=false
 tr:∀a b c,lt b a=false->lt c b=false->lt c a=false
section
variable{lt:Nat->Nat->Bool}(O:Ord lt)
include O
end
end PP
end
section
namespace PP
open PySem
set_option genInjectivity true in
inductive D where
 |non|bl (b:Bool)|int (i:Int)|str (x:Str)|lst (ds:List D)|tup (ds:List D)|fn (k:Nat) (ds:List D)|dct (ks:List Str) (ds:List D)
 deriving Inhabited
mutual
noncomputable def eqD:D->D->Bool
 |.non,.non=>true
 |.bl a,.bl b=>a==b
 |.bl a,.int b=>(if a then 1 else 0)==b
 |.int a,.bl b=>a==(if b then 1 else 0)
 |.int a,.int b=>a==b
 |.str a,.str b=>a==b
 |.lst a,.lst b=>lA a b
 |.tup a,.tup b=>lA a b
 |_,_=>false
noncomputable def lA:List D->List D->Bool
 |[],[]=>true
 |x::xs,y::ys=>eqD x y&&lA xs ys
 |_,_=>false
end
mutual
noncomputable def dep:D->Nat
 |.lst ds|.tup ds=>eO ds+1
 |.fn _ _=>100000
 |.dct _ _=>100000
 |_=>0
noncomputable def eO:List D->Nat
 |[]=>0
 |x::xs=>max (dep x) (eO xs)
end
def flat:D->Bool
 |.non|.bl _|.int _|.str _=>true
 |_=>false
def tv:D->Option Bool
 |.non=>some false
 |.bl b=>some b
 |.int i=>some (i != 0)
 |.str x=>if x.length<=sizeLine then some ((x.length:Int) != 0)else none
 |.lst ds|.tup ds=>some (!ds.isEmpty)
 |.fn _ _=>none
 |.dct _ _=>none
inductive Op where
 |add|sub|mul|mod|fdiv|pow
 deriving DecidableEq
inductive Cop where
 |lt|le|gt|eq|ne|isin|notin|is
 deriving DecidableEq
inductive Blt where
 |len|max|toInt|toStr|toTup|toLst|all|sum|isStr
 deriving DecidableEq
def nG(i j:Int):Bool:=(decide (-(2^64)<i)&&decide (i<2^64))||(decide (-(2^64)<j)&&decide (j<2^64))||(decide (i.natAbs<2^200)&&decide (j.natAbs<2^200))
def FZ(x:Str)(n:Nat):Str:=⟨(aC n x.cps.toList).flatten.toArray⟩
def LQ:D->D->Option D
 |.int a,.int b=>some (.int (a+b))
 |.str a,.str b=>if a.length+b.length<=sizeLine then some (.str (a++b))else none
 |.tup [],.tup b=>some (.tup b)
 |.tup (x::a),.tup b=>if(x::a).length+b.length<=sizeLine then some (.tup (x::a++b))else none
 |.lst a,.lst b=>if a.length+b.length<=sizeLine then some (.lst (a++b))else none
 |_,_=>none
def En:D->D->Option D
 |.int a,.int b=>some (.int (a+b))
 |.tup (x::a),.tup b=>if(x::a).length+b.length<=sizeLine then some (.tup (x::a++b))else none
 |_,_=>none
def JA:D->D->Option D
 |.int a,.int b=>some (.int (a-b))
 |_,_=>none
def KH:D->D->Option D
 |.int a,.int b=>if nG a b then some (.int (a*b))else none
 |.str a,.int b=>if 0<=b/\b<=1000/\a.length<=1000 then some (.str (FZ a b.toNat))else none
 |_,_=>none
def KL:D->D->Option D
 |.int a,.int b=>if 0<b then some (.int (a%b))else none
 |_,_=>none
def DO:D->D->Option D
 |.int a,.int b=>if 0<b/\b<1000000000000000000000000000000000000000000000000000000000000 then some (.int (a/b))else none
 |_,_=>none
def JZ:D->D->Option D
 |.int a,.int b=>if 0<=b/\b<=1000000/\a.natAbs<2^64 then some (.int (a^b.toNat))else none
 |_,_=>none
def opD:Op->D->D->Option D
 |.add=>LQ|.sub=>JA|.mul=>KH|.mod=>KL|.fdiv=>DO|.pow=>JZ
def kin:D->D->Bool
 |.bl _,.bl _|.int _,.int _|.str _,.str _|.lst _,.lst _|.tup _,.tup _=>true
 |_,_=>false
def iz(a b:D):Bool:=kin a b&&decide (min (dep a) (dep b)<=150)&&decide (max (dep a) (dep b)<100000)
def Ng:D->D->Bool
 |.int _,.str _=>true
 |.str _,.int _=>true
 |_,_=>false
def GA(p:Int->Int->Bool):D->D->Option Bool
 |.int a,.int b=>some (p a b)
 |_,_=>none
def uZ(y x:Str):Bool:=!(cR y x 0 y.length 1).isEmpty
def inD(a:D):D->Option Bool
 |.lst ds=>if dep a<=150/\eO ds<99999 then some (ds.any λy=>eqD y a)else none
 |.tup ds=>if dep a<=150/\eO ds<99999 then some (ds.any λy=>eqD y a)else none
 |.str y=>match a with
  |.str x=>some (uZ y x)
  |_=>none
 |_=>none
def Le:D->Bool
 |.non=>true
 |_=>false
def isD(a:D):D->Option Bool
 |.non=>some (Le a)
 |.bl b=>match a with
  |.bl c=>some (c==b)
  |_=>none
 |_=>none
def leD:D->D->Option Bool
 |.int a,.int b=>some (decide (a<=b))
 |.str a,.str b=>some (!decide (b.cps.toList<a.cps.toList))
 |_,_=>none
def gu:Cop->D->D->Option Bool
 |.lt,x,y=>GA (λa b=>decide (a<b)) x y
 |.le,x,y=>leD x y
 |.gt,x,y=>GA (λa b=>decide (b<a)) x y
 |.eq,a,b=>if iz a b then some (eqD a b)else if Ng a b=true then some false else none
 |.ne,a,b=>if iz a b then some (!eqD a b)else none
 |.isin,a,y=>inD a y
 |.notin,a,y=>(inD a y).map (!·)
 |.is,a,y=>isD a y
def ixD:D->D->Option D
 |.lst ds,.int i=>L2.atI ds i
 |.tup ds,.int i=>L2.atI ds i
 |.str x,.int i=>if x.length<=sizeLine then(L2.atI x.cps.toList i).map λc=>.str ⟨#[c]⟩else none
 |_,_=>none
def cutD(ds:List D)(lo hi:Option Int):List D:=(ds.drop (HT.sIx ds.length 0 lo)).take (HT.sIx ds.length ds.length hi-HT.sIx ds.length 0 lo)
def slD:D->Option Int->Option Int->Option D
 |.lst ds,lo,hi=>some (.lst (cutD ds lo hi))
 |.tup ds,lo,hi=>if HT.sIx ds.length 0 lo=0/\HT.sIx ds.length ds.length hi=ds.length then none else some (.tup (cutD ds lo hi))
 |.str x,lo,hi=>if x.length<=sizeLine then some (.str (lH x lo hi))else none
 |_,_,_=>none
def md:List D->Option (List Int)
 |[]=>some []
 |.int i::r=>(md r).map (i::·)
 |_=>none
def Hb:List D->Option D
 |[.str x]=>if x.length<=sizeLine then some (.int x.length)else none
 |[.lst ds]=>some (.int ds.length)
 |[.tup ds]=>some (.int ds.length)
 |_=>none
def uy:List Int->Int
 |[]=>0
 |n::ns=>ns.foldl (λa b=>if b>a then b else a) n
def maxD:List D->Option D
 |[.int i,.int j]=>some (.int (if j>i then j else i))
 |[.lst ds]=>(md ds).bind λns=>if ns=[]then none else some (.int (uy ns))
 |_=>none
def rW:List D->Option D
 |[.int i]=>some (.int i)
 |[.bl b]=>some (.int (if b then 1 else 0))
 |[.str x]=>if x.length<=640 then(PySem.intText? x).map .int else none
 |_=>none
def rV:List D->Option D
 |[.int i]=>if i.natAbs.log2<1920 then some (.str (toString i))else none
 |_=>none
def rT:List D->Option D
 |[.lst ds]=>some (.tup ds)
 |[.tup ds]=>some (.tup ds)
 |_=>none
def mL:List D->Option D
 |[.lst ds]=>some (.lst ds)
 |[.tup ds]=>some (.lst ds)
 |_=>none
def Fn:List D->Option D
 |[.lst ds]=>(md ds).map λns=>.int ns.sum
 |_=>none
def lB:List D->Option (List Bool)
 |[]=>some []
 |.bl i::r=>(lB r).map (i::·)
 |_=>none
def HJ:List D->Option D
 |[.lst ds]=>(lB ds).map λbs=>.bl (bs.all id)
 |_=>none
def fU:List D->Option D
 |[.str _]=>some (.bl true)
 |[.fn _ _]=>none
 |[_]=>some (.bl false)
 |_=>none
def gY:Blt->List D->Option D
 |.len=>Hb|.max=>maxD|.toInt=>rW|.toStr=>rV|.toTup=>rT|.toLst=>mL|.all=>HJ|.sum=>Fn
 |.isStr=>fU
inductive Sl where
 |no|val (d:D)|own (ds:List D)|fnc (k:Nat) (cs:List D)|odc (ks:List Str) (ds:List D)
 deriving Inhabited
abbrev Loc:=List Sl
inductive Tg where
 |nm (i:Nat)
 |tp (is:List Nat)
 |pr (i:Nat) (is:List Nat)
def oW:List D->Option (List Str)
 |[]=>some []
 |.str x::r=>(oW r).map (x::·)
 |_=>none
inductive Mt|split|part|ends|join|index|find
def iL(x y:Str):List Str:=if(decide (x.length<y.length)||decide (eV x<eV y))=true then[x]else if(cR x y 0 x.length (x.length+1)).isEmpty=true then[x]else Builtin.Str.partsBetween x (cR x y 0 x.length (x.length+1)) y.length
def jG(x y:Str):Str×Str×Str:=match cR x y 0 x.length 1 with
 |i::_=>(tZ x 0 i,y,tZ x (i+y.length) x.length)
 |[]=>(x,vN,vN)
def mtD:Mt->D->D->Option D
 |.split,.str x,.str y=>if 0<y.length/\x.length<=sizeLine/\(iL x y).length<=sizeLine then some (.lst ((iL x y).map .str))else none
 |.part,.str x,.str y=>if 0<y.length/\x.length<=sizeLine then some (.tup [.str (jG x y).1,.str (jG x y).2.1,.str (jG x y).2.2])else none
 |.find,.str x,.str y=>some (.int (match cR x y 0 x.length 1 with|i::_=>(i:Int)|[]=>-1))
 |.ends,.str x,.str y=>some (.bl (decide (y.length<=x.length)&&Builtin.Str.subAt x y (x.length-y.length)))
 |.join,.str x,.lst ds=>(oW ds).bind λts=>if rJ (ts.toArray.foldl (·+·.length+x.length) 0)=false/\(uf x ts).length<=sizeLine then some (.str (uf x ts))else none
 |.index,.lst ds,b=>if dep b<=150/\eO ds<99999 then(ds.findIdx? λd=>eqD d b).map (λi:Nat=>D.int (i:Int))else none
 |_,_,_=>none
mutual
inductive E where
 |var (i:Nat)
 |pk (i:Nat)
 |glob (g:Nat)
 |int (i:Int)|bl (b:Bool)|non|str (x:Str)
 |bin (op:Op) (a b:E)
 |cmp (op:Cop) (a b:E)
 |and (a b:E)|or (a b:E)|not (a:E)|neg (a:E)
 |ite (c a b:E)
 |tup (es:Es)|lst (es:Es)
 |ix (a b:E)
 |sl (a:E) (lo hi:Eo)
 |rvl (a:E) (h s:Eo)
 |dcc (l:List (Str×Int))
 |dsv (i j:Nat)
 |call (f:Nat) (es:Es)
 |blt (f:Blt) (es:Es)
 |pop (i:Nat)
 |popi (i:Nat) (j:E)
 |bad
 |mt (m:Mt) (a b:E)
 |gin (ng:Bool) (n:Str) (D:List (Str×Int)) (e:E)
 |gix (n:Str) (D:List (Str×Int)) (e:E)
 |chn (o1 o2:Cop) (a b e:E)
 |dgt (a b e:E)
 |comp (k:Nat) (tg:Tg) (src:It) (ifs:Eo) (elt:E)
inductive Es where
 |nil|cons (e:E) (es:Es)
inductive Eo where
 |no|yes (e:E)
inductive It where
 |rng (e:E)|rev (e:E)|sq (e:E)
end
def get(δ:Loc)(i:Nat):Option D:=match δ[i]? with
 |some (.val d)=>some d
 |some (.own ds)=>some (.lst ds)
 |_=>none
def zX(δ:Loc)(i:Nat):Option D:=match δ[i]? with
 |some (.odc ks ds)=>some (.dct ks ds)
 |_=>get δ i
def demote(δ:Loc)(i:Nat):Loc:=match δ[i]? with
 |some (.own ds)=>δ.set i (.val (.lst ds))
 |some (.odc ks ds)=>δ.set i (.val (.dct ks ds))
 |_=>δ
def dy(δ:Loc):Tg->D->Option Loc
 |.nm i,d=>if i<δ.length then some (δ.set i (.val d))else none
 |.tp is,.tup ds=>if is.length=ds.length/\is.all (· < δ.length)=true then some ((is.zip ds).foldl (λδ p=>δ.set p.1 (.val p.2)) δ)else none
 |.tp is,.lst ds=>if is.length=ds.length/\is.all (· < δ.length)=true then some ((is.zip ds).foldl (λδ p=>δ.set p.1 (.val p.2)) δ)else none
 |.pr i is,.tup [a,.tup ds]=>if i<δ.length/\is.length=ds.length/\is.all (· < δ.length)=true then some ((is.zip ds).foldl (λδ p=>δ.set p.1 (.val p.2)) (δ.set i (.val a)))else none
 |_,_=>none
def items:D->Option (List D)
 |.lst ds=>some ds
 |.tup ds=>some ds
 |.str x=>if x.length<=sizeLine then some (x.cps.toList.map λc=>.str ⟨#[c]⟩)else none
 |_=>none
def lq(lo:Int)(n:Nat):List D:=(dW n).map λ(i:Nat)=>D.int (lo+i)
def mr(f:D->Loc->Option (Option D×Loc)):List D->Loc->Option (List D×Loc)
 |[],δ=>some ([],δ)
 |x::xs,δ=>do
  let(o,δ1) <- f x δ
  let(ys,δ2) <- mr f xs δ1
  return (match o with|some y=>y::ys|none=>ys,δ2)
def kQ:List Str->List D->Str->Option D
 |k::ks,d::ds,x=>if k=x then some d else kQ ks ds x
 |_,_,_=>none
structure Cl where
 call:Nat->List D->Option D
 gl:List D
 hf:Nat->Bool
section
variable(cx:Cl)
mutual
noncomputable def evE:E->Loc->Option (D×Loc)
 |.var i,δ=>do return (<- zX δ i,demote δ i)
 |.pk i,δ=>do return (<- get δ i,δ)
 |.glob g,δ=>do return (<- cx.gl[g]?,δ)
 |.int i,δ=>some (.int i,δ)
 |.bl b,δ=>some (.bl b,δ)
 |.non,δ=>some (.non,δ)
 |.str x,δ=>some (.str x,δ)
 |.bin op a b,δ=>do
  let(x,δ1) <- evE a δ
  let(y,δ2) <- evE b δ1
  return (<- opD op x y,δ2)
 |.cmp op a b,δ=>do
  let(x,δ1) <- evE a δ
  let(y,δ2) <- evE b δ1
  return (.bl (<- gu op x y),δ2)
 |.and a b,δ=>do
  match <- evE a δ with
  |(.bl true,δ1)=>evE b δ1
  |(.bl false,δ1)=>some (.bl false,δ1)
  |_=>none
 |.or a b,δ=>do
  match <- evE a δ with
  |(.bl true,δ1)=>some (.bl true,δ1)
  |(.bl false,δ1)=>evE b δ1
  |_=>none
 |.not a,δ=>do
  match <- evE a δ with
  |(.bl b,δ1)=>some (.bl (!b),δ1)
  |_=>none
 |.neg a,δ=>do
  match <- evE a δ with
  |(.int i,δ1)=>some (.int (-i),δ1)
  |_=>none
 |.gin ng _ l e,δ=>do
  match <- evE e δ with
  |(.str x,δ1)=>some (.bl ((l.lookup x).isSome != ng),δ1)
  |_=>none
 |.gix _ l e,δ=>do
  match <- evE e δ with
  |(.str x,δ1)=>(l.lookup x).map λi=>(.int i,δ1)
  |_=>none
 |.mt m a b,δ=>do
  let(x,δ1) <- evE a δ
  let(y,δ2) <- evE b δ1
  return (<- mtD m x y,δ2)
 |.chn o1 o2 a b e,δ=>do
  let(x,δ1) <- evE a δ
  let(y,δ2) <- evE b δ1
  let k <- gu o1 x y
  if k then do
   let(z,δ3) <- evE e δ2
   return (.bl (<- gu o2 y z),δ3)
  else some (.bl false,δ2)
 |.dgt a b e,δ=>do
  let(x,δ1) <- evE a δ
  let(y,δ2) <- evE b δ1
  let(z,δ3) <- evE e δ2
  match x,y with
  |.dct ks ds,.str t=>some ((kQ ks ds t).getD z,δ3)
  |_,_=>none
 |.ite c a b,δ=>do
  let(k,δ1) <- evT c δ
  if k then evE a δ1 else evE b δ1
 |.tup es,δ=>do
  let(ds,δ1) <- cS es δ
  if ds.length<=sizeLine then return (.tup ds,δ1)else none
 |.lst es,δ=>do
  let(ds,δ1) <- cS es δ
  if ds.length<=sizeLine then return (.lst ds,δ1)else none
 |.ix a b,δ=>do
  let(x,δ1) <- evE a δ
  let(y,δ2) <- evE b δ1
  return (<- ixD x y,δ2)
 |.rvl a h s,δ=>do
  let(x,δ1) <- evE a δ
  let(y,δ2) <- evO h δ1
  let(o,δ3) <- evO s δ2
  match x,y with
  |.lst ds,some i=>if i<0/\o=some (-1)then some (.lst (ds.drop (ds.length-(-1-i).toNat)).reverse,δ3)else none
  |_,_=>none
 |.dcc l,δ=>some (.dct (l.map iH) (l.map λp=>.int p.2),δ)
 |.dsv i j,δ=>match δ[i]?,δ[j]? with
  |some (.val (.str x)),some (.val d)=>some (.dct [x] [d],δ)
  |_,_=>none
 |.sl a lo hi,δ=>do
  let(x,δ1) <- evE a δ
  let(l,δ2) <- evO lo δ1
  let(h,δ3) <- evO hi δ2
  return (<- slD x l h,δ3)
 |.call f es,δ=>do
  let(ds,δ1) <- cS es δ
  return (<- cx.call f ds,δ1)
 |.blt f es,δ=>do
  let(ds,δ1) <- cS es δ
  return (<- gY f ds,δ1)
 |.pop i,δ=>do
  match δ[i]? with
  |some (.own ds)=>match ds.getLast? with
   |some d=>some (d,δ.set i (.own ds.dropLast))
   |none=>none
  |_=>none
 |.bad,_=>none
 |.popi i j,δ=>match δ[i]? with
  |some (.own _)=>do
   match <- evE j δ with
   |(.int m,δ1)=>match δ1[i]? with
    |some (.own ds)=>if 0<=m/\m<ds.length/\m<1000000 then(ds[m.toNat]?).map λd=>(d,δ1.set i (.own (ds.eraseIdx m.toNat)))else none
    |_=>none
   |_=>none
  |_=>none
 |.comp k tg src ifs elt,δ=>do
  let(ds,δ1) <- evI src δ
  let(ys,δ2) <- mr (λx δ0=>do
   let δ2 <- dy (δ0++aC k .no) tg x
   let(b,δ3) <- evG ifs δ2
   if b then do
    let(y,δ4) <- evE elt δ3
    return (some y,δ4.take δ0.length)
   else return (none,δ3.take δ0.length)) ds δ1
  if ys.length<=sizeLine then return (.lst ys,δ2)else none
noncomputable def evT:E->Loc->Option (Bool×Loc)
 |.and a b,δ=>do
  let(k,δ1) <- evT a δ
  if k then evT b δ1 else some (false,δ1)
 |.or a b,δ=>do
  let(k,δ1) <- evT a δ
  if k then some (true,δ1)else evT b δ1
 |.not a,δ=>do
  let(k,δ1) <- evT a δ
  return (!k,δ1)
 |.cmp op a b,δ=>do
  let(x,δ1) <- evE a δ
  let(y,δ2) <- evE b δ1
  return (<- gu op x y,δ2)
 |.gin ng _ l e,δ=>do
  match <- evE e δ with
  |(.str x,δ1)=>some ((l.lookup x).isSome != ng,δ1)
  |_=>none
 |.chn o1 o2 a b e,δ=>do
  let(x,δ1) <- evE a δ
  let(y,δ2) <- evE b δ1
  let k <- gu o1 x y
  if k then do
   let(z,δ3) <- evE e δ2
   return (<- gu o2 y z,δ3)
  else some (false,δ2)
 |.mt m a b,δ=>do
  let(x,δ1) <- evE a δ
  let(y,δ2) <- evE b δ1
  let d <- mtD m x y
  return (<- tv d,δ2)
 |.ix a b,δ=>do
  let(x,δ1) <- evE a δ
  let(y,δ2) <- evE b δ1
  let d <- ixD x y
  return (<- tv d,δ2)
 |.var i,δ=>do
  let d <- get δ i
  return (<- tv d,δ)
 |.pk i,δ=>do
  let d <- get δ i
  return (<- tv d,δ)
 |.call f es,δ=>do
  let(ds,δ1) <- cS es δ
  let d <- cx.call f ds
  return (<- tv d,δ1)
 |.blt f es,δ=>do
  let(ds,δ1) <- cS es δ
  let d <- gY f ds
  return (<- tv d,δ1)
 |_,_=>none
noncomputable def cS:Es->Loc->Option (List D×Loc)
 |.nil,δ=>some ([],δ)
 |.cons e es,δ=>do
  let(d,δ1) <- evE e δ
  let(ds,δ2) <- cS es δ1
  return (d::ds,δ2)
noncomputable def evO:Eo->Loc->Option (Option Int×Loc)
 |.no,δ=>some (none,δ)
 |.yes e,δ=>do
  match <- evE e δ with
  |(.int i,δ1)=>some (some i,δ1)
  |_=>none
noncomputable def evG:Eo->Loc->Option (Bool×Loc)
 |.no,δ=>some (true,δ)
 |.yes e,δ=>evT e δ
noncomputable def evI:It->Loc->Option (List D×Loc)
 |.rng e,δ=>do
  match <- evE e δ with
  |(.int j,δ1)=>if -(2^62)<=j/\j<2^62 then some (lq 0 j.toNat,δ1)else none
  |_=>none
 |.rev e,δ=>do
  match <- evE e δ with
  |(.lst ds,δ1)=>some (ds.reverse,δ1)
  |_=>none
 |.sq e,δ=>do
  let(d,δ1) <- evE e δ
  return (<- items d,δ1)
end
end
inductive Out where
 |nx (δ:Loc)|rt (d:D) (δ:Loc)|ro (d:D) (δ:Loc)
mutual
inductive S where
 |asg (tg:Tg) (e:E)
 |new (i:Nat) (e:E)
 |cmp (own:Bool) (i:Nat) (e:E)
 |aug (i:Nat) (op:Op) (e:E)
 |ret (e:E)
 |ifs (c:E) (a b:Ss)
 |for_ (tg:Tg) (src:It) (body:Ss)
 |while_ (c:E) (body:Ss)
 |append (i:Nat) (e:E)
 |ins (i:Nat) (es:Es)
 |setix (i:Nat) (j e:E)
 |opq (f:Cl->Loc->Option Out)
 |bad
inductive Ss where
 |nil|cons (s:S) (ss:Ss)
end
def forL(f:D->Loc->Option Out):List D->Loc->Option Out
 |[],δ=>some (.nx δ)
 |x::xs,δ=>match f x δ with
  |some (.nx δ1)=>forL f xs δ1
  |some (.rt d δ1)=>some (.rt d δ1)
  |some (.ro ds δ1)=>some (.ro ds δ1)
  |none=>none
def lg(c:Loc->Option (Bool×Loc))(f:Loc->Option Out):Nat->Loc->Option Out
 |0,_=>none
 |n+1,δ=>match c δ with
  |some (true,δ1)=>match f δ1 with
   |some (.nx δ2)=>lg c f n δ2
   |some (.rt d δ2)=>some (.rt d δ2)
   |some (.ro ds δ2)=>some (.ro ds δ2)
   |none=>none
  |some (false,δ1)=>some (.nx δ1)
  |none=>none
def sv:Nat:=1000000
section
variable(cx:Cl)
mutual
noncomputable def evS:S->Loc->Option Out
 |.asg tg e,δ=>do
  let(d,δ1) <- evE cx e δ
  return .nx (<- dy δ1 tg d)
 |.new i e,δ=>do
  match <- evE cx e δ with
  |(.lst ds,δ1)=>if i<δ1.length then some (.nx (δ1.set i (.own ds)))else none
  |_=>none
 |.cmp own i e,δ=>do
  match <- evE cx e δ with
  |(.lst ds,δ1)=>if i<δ1.length then some (.nx (δ1.set i (if own then .own ds else .val (.lst ds))))else none
  |_=>none
 |.aug i op e,δ=>do
  match δ[i]? with
  |some (.val x)=>do
   let(y,δ1) <- evE cx e δ
   match op with
   |.add=>(En x y).map λz=>.nx (δ1.set i (.val z))
   |_=>none
  |_=>none
 |.ret e,δ=>do
  let(d,δ1) <- evE cx e δ
  return .rt d δ1
 |.ifs c a b,δ=>do
  let(k,δ1) <- evT cx c δ
  if k then cU a δ1 else cU b δ1
 |.for_ tg src body,δ=>do
  let(ds,δ1) <- evI cx src δ
  forL (λx δ0=>match dy δ0 tg x with
   |some δ2=>cU body δ2
   |none=>none) ds δ1
 |.while_ c body,δ=>lg (λδ0=>evT cx c δ0) (λδ0=>cU body δ0) 1000 δ
 |.append i e,δ=>match δ[i]? with
  |some (.own _)=>do
   let(d,δ1) <- evE cx e δ
   match δ1[i]? with
   |some (.own ds)=>if ds.length<sizeLine then some (.nx (δ1.set i (.own (ds++[d]))))else none
   |_=>none
  |_=>none
 |.ins i es,δ=>match δ[i]? with
  |some (.own _)=>do
   match <- cS cx es δ with
   |([.int n,d],δ1)=>match δ1[i]? with
    |some (.own ds)=>if 0<=n/\n<2^62/\ds.length<sizeLine then some (.nx (δ1.set i (.own (ds.take n.toNat++d::ds.drop n.toNat))))else none
    |_=>none
   |_=>none
  |_=>none
 |.setix i j e,δ=>do
  let(d,δ1) <- evE cx e δ
  match δ1[i]? with
  |some (.own _)=>do
   match <- evE cx j δ1 with
   |(.int k,δ2)=>match δ2[i]? with
    |some (.own ds)=>match L2.ixN ds.length k with
     |some m=>some (.nx (δ2.set i (.own (ds.set m d))))
     |none=>none
    |_=>none
   |_=>none
  |_=>none
 |.opq f,δ=>f cx δ
 |.bad,_=>none
noncomputable def cU:Ss->Loc->Option Out
 |.nil,δ=>some (.nx δ)
 |.cons s ss,δ=>match evS s δ with
  |some (.nx δ1)=>cU ss δ1
  |o=>o
end
end
structure Fd where
 name:Str
 ps:List Str
 loc:List Str
 body:Ss
 hf:Bool:=false
def outD:Option Out->Option D
 |some (.rt d _)=>some d
 |some (.ro d _)=>some d
 |some (.nx _)=>some .non
 |_=>none
def Km:Option Out->Option D
 |some (.ro d _)=>some d
 |_=>none
def init(n:Nat)(ds:List D):Loc:=ds.map .val++aC (n-ds.length) .no
def hfs(G:List Fd)(f:Nat):Bool:=match G[f]? with
 |some fd=>fd.hf
 |none=>false
def Nq(n:Nat)(ds:List D)(k:Nat)(cs:List D):Loc:=ds.map .val++Sl.fnc k cs::aC (n-(ds.length+1)) .no
def entry(hf:Bool)(n:Nat)(ds:List D):Option Loc:=match hf with
 |false=>some (init n ds)
 |true=>match ds.getLast? with
  |some (.fn k cs)=>some (Nq n ds.dropLast k cs)
  |_=>none
def run(G:List Fd)(gl:List D):Nat->Nat->List D->Option D
 |0,_,_=>none
 |n+1,f,ds=>match G[f]? with
  |some fd=>if ds.length=fd.ps.length then(match entry fd.hf (fd.ps++fd.loc).length ds with
   |some δ=>outD (cU ⟨run G gl n,gl,hfs G⟩ fd.body δ)
   |none=>none)else none
  |none=>match G[f-sv]? with
   |some fd=>if sv<=f/\ds.length=fd.ps.length then(match entry fd.hf (fd.ps++fd.loc).length ds with
    |some δ=>Km (cU ⟨run G gl n,gl,hfs G⟩ fd.body δ)
    |none=>none)else none
   |none=>none
def bj:E->Bool
 |.pk _=>true
 |_=>false
mutual
noncomputable def np:E->Bool
 |.bin _ a b|.cmp _ a b|.and a b|.or a b|.ix a b|.mt _ a b=>np a&&np b
 |.chn _ _ a b e=>np a&&np b&&np e
 |.gin _ _ _ e|.gix _ _ e=>np e
 |.dgt a b e=>np a&&np b&&np e
 |.not a=>np a
 |.neg a=>np a
 |.ite c a b=>np c&&np a&&np b
 |.tup es|.lst es|.call _ es|.blt _ es=>npS es
 |.sl a lo hi=>np a&&npO lo&&npO hi
 |.rvl a h s=>np a&&npO h&&npO s
 |.pop _=>false
 |.popi _ _=>false
 |.comp _ _ src ifs elt=>npI src&&npO ifs&&np elt
 |_=>true
noncomputable def npS:Es->Bool
 |.nil=>true
 |.cons e es=>np e&&npS es
noncomputable def npO:Eo->Bool
 |.no=>true
 |.yes e=>np e
noncomputable def npI:It->Bool
 |.rng e=>np e
 |.rev e=>np e
 |.sq e=>np e
end
end PP
example:PP.evE ⟨λ_ _=>none,[],λ_=>false⟩ (.bin .add (.int 1) (.int 2)) []=some (.int 3,[]):=rfl
end
section
namespace PP
open PySem L2
def KLs(K:PySem.W.Frag)(a:av)(xs:List V):Prop:=∃(its:Array ai)(n:Nat),K.lookup a=some ⟨.type "list",none,.seq its n,#[]⟩/\its.size<=sizeLine/\Vals xs its.toList
def Ls(K:PySem.W.Frag)(H:Hp)(F:av->Prop)(a:av)(xs:List V):Prop:=(Rd H a (.lst xs)/\¬F a)\/KLs K a xs
def LsB(K:PySem.W.Frag)(H:Hp)(a:av)(xs:List V):Prop:=Rd H a (.lst xs)\/KLs K a xs
def Ls.b{K:PySem.W.Frag}{H:Hp}{F:av->Prop}{a:av}{xs:List V}(h:Ls K H F a xs):LsB K H a xs:=h.imp (·.1) id
def LsB.sq(h:LsB K H a xs):SqL K H a xs:=by
 rcases h with h|⟨its,n,h1,h2,h3⟩
 .exact .inl h
 .exact .inr ⟨_,its,n,h1,rfl,rfl,rfl,h2,h3⟩
def Ls.sq(h:Ls K H F a xs):SqL K H a xs:=h.b.sq
def LsB.obj(I:Inv X pins σ H s)(h:LsB X.K H a xs) :
 ∃(its:List ai)(n:Nat),Vals xs its/\s.heap.get? a=some {cls:=.type "list",data:=.seq its.toArray n}/\xs.length<=sizeLine:=by
 rcases h with h|⟨its,n,h1,h2,h3⟩
 .obtain⟨z,its,n,r,e⟩:=h.ok I.hok;exact⟨its,n,r,e,z⟩
 .refine⟨its.toList,n,h3,?_,?_⟩
  .have:=I.kIn a _ h1;simpa using this
  .have:=h3.length;rw[this];simpa using h2
def zk:List Str->List V->List (Key×V)
 |k::ks,v::vs=>(.inr k,v)::zk ks vs
 |_,_=>[]
mutual
noncomputable def Rel(K:PySem.W.Frag)(H:Hp)(F:av->Prop):D->V->Prop
 |.non,v=>v=.non
 |.bl b,v=>v=.bl b
 |.int i,v=>v=.int i
 |.str x,v=>v=.str x
 |.lst ds,v=>∃a xs,v=.ref a/\Ls K H F a xs/\aH K H F ds xs
 |.tup ds,v=>∃a xs,v=.ref a/\SqT K H a xs/\aH K H F ds xs
 |.fn _ _,_=>False
 |.dct ks ds,v=>∃a vs,v=.ref a/\Rd H a (.dK (zk ks vs))/\¬F a/\ks.Nodup/\ks.length=ds.length/\aH K H F ds vs
noncomputable def aH(K:PySem.W.Frag)(H:Hp)(F:av->Prop):List D->List V->Prop
 |[],xs=>xs=[]
 |d::ds,xs=>∃y ys,xs=y::ys/\Rel K H F d y/\aH K H F ds ys
end
def NT:HO->Prop
 |.tbl _=>False
 |_=>True
structure Sim(H H':Hp):Prop where
 nt:∀b o,NT o->H b=some o->H' b=some o
 tb:∀b ps,H b=some (.tbl ps)->∃qs,H' b=some (.tbl qs)
def Sim.of(h:fA H H'):Sim H H':=⟨λb o _ e=>h b o e,λb ps e=>⟨ps,h b _ e⟩⟩
def Sim.refl(H:Hp):Sim H H:=⟨λb o _ e=>e,λb ps e=>⟨ps,e⟩⟩
def Sim.trans(a:Sim H H1)(b:Sim H1 H2):Sim H H2:=⟨λx o n e=>b.nt x o n (a.nt x o n e),λx ps e=>by
 obtain⟨qs,e⟩:=a.tb x ps e;exact b.tb x qs e⟩
def Fz(H:Hp)(a:av)(o:Obj):Prop:=H a=some (.frz o (.ext λh=>h.get? a=some o))
structure Lam where
 qual:Str
 params:ua
 body:aE
 scope:dO
 ps:List Str
 caps:List Str
class Tbs where
 ts:List (av×Str)
 lams:List (Nat×Lam)
 gds:List (Str×List (Str×Int))
 dfs:List Nat
variable[Tbs]
def Mo:HO->Prop
 |.lst _=>True
 |.ext _=>True
 |.dK _=>True
 |_=>False
def flV:D->V
 |.bl b=>.bl b
 |.int i=>.int i
 |.str x=>.str x
 |_=>.non
def nk(H:Hp):List av->List D->Prop
 |[],ds=>ds=[]
 |c::r,ds=>∃d ds' o u,ds=d::ds'/\flat d=true/\Fz H c o/\o.data=.cell (some u)/\RelV (flV d) u/\nk H r ds'
def FnV(H:Hp)(k:Nat)(cs:List D)(a:av):Prop:=∃(L:Lam)(pm ctv:ai)(c':av)(oc:Obj)(vs:Array ai)(tk:Tok)(cells:List av),
 Tbs.lams.lookup k=some L/\Fz H a (PySem.W.kla_obj "<lambda>" L.qual L.params L.body L.scope (L.caps.zip cells) pm c' ctv)/\Fz H c' oc/\oc.data=.fields vs/\vs[1]?=some (.str L.qual tk)/\cells.Nodup/\cells.length=L.caps.length/\nk H cells cs
def nk.keep{H H':Hp}(k:∀a o,Fz H a o->Fz H' a o):∀{cells:List av}{cs:List D},nk H cells cs->nk H' cells cs
 |[],_,h=>h
 |c::r,cs,h=>by
  obtain⟨d,ds',o,u,e,h1,h2,h3,h4,h5⟩:=h;exact⟨d,ds',o,u,e,h1,k _ _ h2,h3,h4,nk.keep k h5⟩
def FnV.keep{H H':Hp}(k:∀a o,Fz H a o->Fz H' a o){n:Nat}{cs:List D}{a:av}(h:FnV H n cs a):FnV H' n cs a:=by
 obtain⟨L,pm,ctv,c',oc,vs,tk,cells,h1,h2,h3,h4,h5,h6,h7,h8⟩:=h;exact⟨L,pm,ctv,c',oc,vs,tk,cells,h1,k _ _ h2,k _ _ h3,h4,h5,h6,h7,h8.keep k⟩
def lC(H:Hp):Prop:=∀t∈Tbs.ts,∃ps,H t.1=some (.tbl ps)/\TriplesOk ps.toList/\∀pos cv,codeAmong pos ps.toList=some cv->∃c o vs tk,cv=.ref c/\Fz H c o/\o.data=.fields vs/\vs[1]?=some (.str t.2 tk)
def lC.keep{H H':Hp}(h:lC H)(k:∀b o,¬Mo o->H b=some o->H' b=some o):lC H':=λt ht=>by
 obtain⟨ps,h1,h2,h3⟩:=h t ht;refine⟨ps,k _ _ (λz=>z) h1,h2,λpos cv e=>?_⟩;obtain⟨c,o,vs,tk,e1,e2,e3⟩:=h3 pos cv e;exact⟨c,o,vs,tk,e1,k _ _ (λz=>z) e2,e3⟩
def FD(F:av->Prop)(H:Hp):Prop:=∀b,F b->∃o,H b=some o/\(Mo o\/(∃ps,o=.tbl ps)/\∃t∈Tbs.ts,t.1=b)
def FD.not(fd:FD F H)(e:H a=some o)(n:¬Mo o)(t:NT o):¬F a:=λz=>by
 obtain⟨u,e2,h⟩:=fd a z;rw[e]at e2;cases e2;rcases h with h|⟨⟨ps,rfl⟩,_⟩
 .exact n h
 .exact t
def FD.none(fd:FD F H)(e:H a=Option.none):¬F a:=λz=>by
 obtain⟨u,e2,_⟩:=fd a z;rw[e]at e2;cases e2
def TF(F:av->Prop):Prop:=∀t∈Tbs.ts,F t.1
structure Gh where
 h:Hp
 R:av->Prop
def Gh.free(G:Gh)(a:av):Prop:=G.h a=none/\¬G.R a
def g0:Gh:=⟨λ_=>none,λ_=>False⟩
structure Step(G:Gh)(F:av->Prop)(H:Hp)(F':av->Prop)(H':Hp):Prop where
 keep:∀b o,NT o->H b=some o->¬F b->H' b=some o
 grow:∀b,F' b->F b\/H b=none
 res:∀b o,G.R b->F b->H b=some o->F' b/\H' b=some o
 tb:∀b ps,H b=some (.tbl ps)->∃qs,H' b=some (.tbl qs)
def Step.refl:Step G F H F H:=⟨λ_ _ _ h _=>h,λ_ h=>.inl h,λ_ _ _ h e=>⟨h,e⟩,λ_ ps e=>⟨ps,e⟩⟩
def Step.trans(a:Step G F H F1 H1)(b:Step G F1 H1 F2 H2):Step G F H F2 H2 where
 keep:=λx o t h n=>b.keep x o t (a.keep x o t h n) λz=>by
  rcases a.grow x z with q|q
  .exact n q
  .rw[h]at q;cases q
 grow:=λx h=>by
  rcases b.grow x h with q|q
  .exact a.grow x q
  .by_cases f:F x
   .exact .inl f
   .right
    cases e:H x with
    |none=>rfl
    |some o =>
     by_cases t:NT o
     .rw[a.keep x o t e f]at q;cases q
     .cases o<;>first|(exact absurd trivial t)|skip
      obtain⟨qs,z⟩:=a.tb x _ e;rw[z]at q;cases q
 res:=λx o r h e=>by
  obtain⟨h1,e1⟩:=a.res x o r h e;exact b.res x o r h1 e1
 tb:=λx ps e=>by
  obtain⟨qs,e⟩:=a.tb x ps e;exact b.tb x qs e
def Step.of_same(h:fA H H'):Step G F H F H':=⟨λb o _ e _=>h b o e,λ_ h=>.inl h,λb o _ f e=>⟨f,h b o e⟩,λb ps e=>⟨ps,h b _ e⟩⟩
section
variable{K:PySem.W.Frag}{G:Gh}{H H':Hp}{F F':av->Prop}
def ye(t:NT u)(k:∀b o,NT o->H b=some o->¬F b->H' b=some o)(n:¬F a)(h:Rd H a u):Rd H' a u:=by
 rcases h with h|⟨o,h⟩
 .exact .inl (k a _ t h n)
 .exact .inr ⟨o,k a _ trivial h n⟩
def uH(fd:FD F H)(k:∀b o,NT o->H b=some o->¬F b->H' b=some o)(h:SqT K H a xs):SqT K H' a xs:=by
 rcases h with h|h
 .refine .inl (ye trivial k (λz=>?_) h);rcases h with h|⟨o,h⟩
  .exact fd.not h (λz=>z) trivial z
  .exact fd.not h (λz=>z) trivial z
 .exact .inr h
def Ls.step{a:av}{xs:List V}(s:Step G F H F' H')(h:Ls K H F a xs):Ls K H' F' a xs:=by
 rcases h with⟨h1,h2⟩|h
 .refine .inl ⟨ye trivial s.keep h2 h1,λz=>?_⟩;rcases s.grow a z with q|q
  .exact h2 q
  .rcases h1 with h|⟨o,h⟩
   .rw[h]at q;cases q
   .rw[h]at q;cases q
 .exact .inr h
def sP(fd:FD F H)(k:∀b o,NT o->H b=some o->¬F b->H' b=some o):∀a o,Fz H a o->Fz H' a o:=λa o h=>by
 exact k a _ trivial h (fd.not h (λz=>z) trivial)
mutual
theorem Rel.step(fd:FD F H)(s:Step G F H F' H'):∀(d:D)(v:V),Rel K H F d v->Rel K H' F' d v
 |.non,v,h=>by unfold Rel at h |-;exact h
 |.bl b,v,h=>by unfold Rel at h |-;exact h
 |.int i,v,h=>by unfold Rel at h |-;exact h
 |.str x,v,h=>by unfold Rel at h |-;exact h
 |.lst ds,v,h=>by
  unfold Rel at h |-;obtain⟨a,xs,e,h1,h3⟩:=h
  exact⟨a,xs,e,h1.step s,aH.step fd s ds xs h3⟩
 |.tup ds,v,h=>by
  unfold Rel at h |-;obtain⟨a,xs,e,h1,h3⟩:=h
  exact⟨a,xs,e,uH fd s.keep h1,aH.step fd s ds xs h3⟩
 |.fn _ _,v,h=>by unfold Rel at h;exact h.elim
 |.dct ks ds,v,h=>by
  unfold Rel at h |-;obtain⟨a,vs,e,h1,h2,h3,h4,h5⟩:=h;refine⟨a,vs,e,h1.elim (λh1=>.inl (s.keep a _ trivial h1 h2)) λ⟨o,h1⟩=>.inr ⟨o,s.keep a _ trivial h1 h2⟩,λz=>?_,h3,h4,aH.step fd s ds vs h5⟩;rcases s.grow a z with q|q
  .exact h2 q
  .rcases h1 with h1|⟨o,h1⟩<;>(rw[h1]at q;cases q)
theorem aH.step(fd:FD F H)(s:Step G F H F' H'):∀(ds:List D)(xs:List V),aH K H F ds xs->aH K H' F' ds xs
 |[],xs,h=>by unfold aH at h |-;exact h
 |d::ds,xs,h=>by
  unfold aH at h |-;obtain⟨y,ys,e,h1,h2⟩:=h;exact⟨y,ys,e,Rel.step fd s d y h1,aH.step fd s ds ys h2⟩
end
def Rel.less(fd:FD F H)(hs:∀b,F' b->F b){d:D}{v:V}(h:Rel K H F d v):Rel K H F' d v :=
 Rel.step (G:=g0) fd ⟨λ_ _ _ h _=>h,λb z=>.inl (hs b z),λ_ _ r _ _=>r.elim,λ_ ps e=>⟨ps,e⟩⟩ d v h
def aH.less(fd:FD F H)(hs:∀b,F' b->F b){ds:List D}{xs:List V}(h:aH K H F ds xs):aH K H F' ds xs :=
 aH.step (G:=g0) fd ⟨λ_ _ _ h _=>h,λb z=>.inl (hs b z),λ_ _ r _ _=>r.elim,λ_ ps e=>⟨ps,e⟩⟩ ds xs h
def aH.length:∀{ds:List D}{xs:List V},aH K H F ds xs->xs.length=ds.length
 |[],xs,h=>by unfold aH at h;subst h;rfl
 |d::ds,xs,h=>by
  unfold aH at h;obtain⟨y,ys,e,_,h2⟩:=h;subst e;rw[ag,ag,aH.length h2]
def aH.get:∀{ds:List D}{xs:List V}{i:Nat}{d:D},aH K H F ds xs->ds[i]?=some d->∃v,xs[i]?=some v/\Rel K H F d v
 |[],_,_,_,_,e=>by simp at e
 |d::ds,xs,i,d',h,e=>by
  unfold aH at h;obtain⟨y,ys,q,h1,h2⟩:=h;subst q
  cases i with
  |zero=>simp at e;subst e;exact⟨y,rfl,h1⟩
  |succ i =>
   obtain⟨v,h3,h4⟩:=aH.get (i:=i) h2 (by simpa using e);exact⟨v,by simpa using h3,h4⟩
def aH.append:∀{ds es:List D}{xs ys:List V},aH K H F ds xs->aH K H F es ys->aH K H F (ds++es) (xs++ys)
 |[],es,xs,ys,h,h'=>by unfold aH at h;subst h;exact h'
 |d::ds,es,xs,ys,h,h'=>by
  unfold aH at h;obtain⟨y,zs,q,h1,h2⟩:=h;subst q;show aH K H F (d::(ds++es)) (y::(zs++ys));unfold aH;exact⟨y,zs++ys,rfl,h1,aH.append h2 h'⟩
def aH.one(h:Rel K H F d v):aH K H F [d] [v]:=by
 unfold aH;exact⟨v,[],rfl,h,by unfold aH;rfl⟩
def aH.nil:aH K H F [] []:=by unfold aH;rfl
def aH.cons{d:D}{v:V}{ds:List D}{xs:List V}(h:Rel K H F d v)(t:aH K H F ds xs):aH K H F (d::ds) (v::xs):=by
 unfold aH;exact⟨v,xs,rfl,h,t⟩
def aH.take:∀{ds:List D}{xs:List V}(n:Nat),aH K H F ds xs->aH K H F (ds.take n) (xs.take n)
 |[],xs,n,h=>by unfold aH at h;subst h;simp;exact aH.nil
 |d::ds,xs,0,h=>by simp;exact aH.nil
 |d::ds,xs,n+1,h=>by
  unfold aH at h;obtain⟨y,ys,q,h1,h2⟩:=h;subst q;rw[Aw,Aw];exact aH.cons h1 (aH.take n h2)
def aH.drop:∀{ds:List D}{xs:List V}(n:Nat),aH K H F ds xs->aH K H F (ds.drop n) (xs.drop n)
 |[],xs,n,h=>by unfold aH at h;subst h;simp;exact aH.nil
 |d::ds,xs,0,h=>h
 |d::ds,xs,n+1,h=>by
  unfold aH at h;obtain⟨y,ys,q,h1,h2⟩:=h;subst q;rw[AD,AD];exact aH.drop n h2
def aH.set{d:D}{v:V}(r:Rel K H F d v):∀{ds:List D}{xs:List V}(n:Nat),aH K H F ds xs->aH K H F (ds.set n d) (xs.set n v)
 |[],xs,n,h=>by unfold aH at h;subst h;simp;exact aH.nil
 |e::ds,xs,0,h=>by
  unfold aH at h;obtain⟨y,ys,q,h1,h2⟩:=h;subst q
  exact aH.cons r h2
 |e::ds,xs,n+1,h=>by
  unfold aH at h;obtain⟨y,ys,q,h1,h2⟩:=h;subst q;exact aH.cons h1 (aH.set r n h2)
def aH.dropLast(h:aH K H F ds xs):aH K H F ds.dropLast xs.dropLast:=by
 rw[gD,gD,h.length];exact h.take _
def aH.cut(lo hi:Option Int)(h:aH K H F ds xs):aH K H F (cutD ds lo hi) (qm xs lo hi):=by
 unfold cutD qm;rw[h.length];exact(h.drop _).take _
end
def cZ(K:PySem.W.Frag)(H:Hp)(F:av->Prop)(d:D)(v:V):Prop:=Rel K H F d v\/∃a xs ds,d=.lst ds/\v=.ref a/\H a=some (.lst xs)/\aH K H F ds xs
def RelM(m:Bool)(K:PySem.W.Frag)(H:Hp)(F:av->Prop)(d:D)(v:V):Prop:=if m=true then cZ K H F d v else Rel K H F d v
def RelM.b{m:Bool}{K:PySem.W.Frag}{H:Hp}{F:av->Prop}{d:D}{v:V}(h:RelM m K H F d v):cZ K H F d v:=by
 unfold RelM at h;split at h
 .exact h
 .exact .inl h
def cZ.same{K:PySem.W.Frag}{G:Gh}{H H':Hp}{F F':av->Prop}{d:D}{v:V}(fd:FD F H)(s:Step G F H F' H')(k:Sim H H')(h:cZ K H F d v):cZ K H' F' d v:=by
 rcases h with h|⟨a,xs,ds,e1,e2,h1,h2⟩
 .exact .inl (Rel.step fd s d v h)
 .exact .inr ⟨a,xs,ds,e1,e2,k.nt _ _ trivial h1,aH.step fd s ds xs h2⟩
def RelM.step{m:Bool}{K:PySem.W.Frag}{G:Gh}{H H':Hp}{F F':av->Prop}{d:D}{v:V}(fd:FD F H)(s:Step G F H F' H')(k:m=true->Sim H H')(h:RelM m K H F d v):RelM m K H' F' d v:=by
 cases m with
 |true=>exact cZ.same fd s (k rfl) h
 |false=>exact Rel.step fd s d v h
def eT(K:PySem.W.Frag)(G:Gh)(F:av->Prop)(H:Hp)(o:Option (Option V)):Sl->Prop
 |.no=>True
 |.val d=>∃v,o=some (some v)/\Rel K H F d v
 |.own ds=>∃a xs,o=some (some (.ref a))/\F a/\G.free a/\H a=some (.lst xs)/\aH K H F ds xs
 |.fnc k cs=>∃a,o=some (some (.ref a))/\FnV H k cs a
 |.odc ks ds=>∃a vs,o=some (some (.ref a))/\F a/\G.free a/\H a=some (.dK (zk ks vs))/\ks.Nodup/\ks.length=ds.length/\aH K H F ds vs
def ow:Sl->Bool
 |.own _=>true
 |.odc _ _=>true
 |_=>false
structure Ok(K:PySem.W.Frag)(G:Gh)(F:av->Prop)(σ:St)(H:Hp)(δ:Loc):Prop where
 same:Sim G.h H
 fd:FD F H
 rf:∀b,G.R b->F b
 rl:∀b,G.R b->∃o,H b=some o/\Mo o
 tf:TF F
 tabs:lC H
 len:δ.length=σ.length
 sl:∀(i:Nat)(s:Sl),δ[i]?=some s->eT K G F H σ[i]? s
 apart:∀(i j:Nat)(s t:Sl)(a:av),δ[i]?=some s->δ[j]?=some t->ow s=true->ow t=true->σ[i]?=some (some (.ref a))->σ[j]?=some (some (.ref a))->i=j
section
variable{K:PySem.W.Frag}{G:Gh}{H H':Hp}{F F':av->Prop}{σ:St}{δ:Loc}
def eT.same{o:Option (Option V)}(fd:FD F H)(k:fA H H'):∀{s:Sl},eT K G F H o s->eT K G F H' o s
 |.no,_=>trivial
 |.val d,h=>by
  obtain⟨v,e,h⟩:=h
  exact⟨v,e,Rel.step (G:=G) fd (Step.of_same k) d v h⟩
 |.own ds,h=>by
  obtain⟨a,xs,e,h1,h2,h3,h4⟩:=h
  exact⟨a,xs,e,h1,h2,k _ _ h3,aH.step (G:=G) fd (Step.of_same k) ds xs h4⟩
 |.fnc n cs,h=>by
  obtain⟨a,e,h⟩:=h
  exact⟨a,e,h.keep λa o z=>k _ _ z⟩
 |.odc ks ds,h=>by
  obtain⟨a,xs,e,h1,h2,h3,h4,h5,h6⟩:=h;exact⟨a,xs,e,h1,h2,k _ _ h3,h4,h5,aH.step (G:=G) fd (Step.of_same k) ds xs h6⟩
def FD.same(fd:FD F H)(k:fA H H'):FD F H':=λb h=>by
 obtain⟨o,e,q⟩:=fd b h;exact⟨o,k _ _ e,q⟩
def yc{P:av->Prop}(h:∀b,P b->∃o,H b=some o/\Mo o)(k:fA H H'):∀b,P b->∃o,H' b=some o/\Mo o:=λb z=>by
 obtain⟨o,e,q⟩:=h b z;exact⟨o,k _ _ e,q⟩
def Ok.same'(h:Ok K G F σ H δ)(k:fA H H'):Ok K G F σ H' δ :=
 ⟨h.same.trans (.of k),h.fd.same k,h.rf,yc h.rl k,h.tf,h.tabs.keep λb o _ e=>k b o e,h.len,λi s e=>(h.sl i s e).same h.fd k,h.apart⟩
def cF(h:H p=none)(o:HO):fA H (upd H p o):=λb u q=>by rw[bD (gm q h)];exact q
def eT.less{o:Option (Option V)}(fd:FD F H)(hs:∀b,F' b->F b):∀{s:Sl},(∀a,ow s=true->o=some (some (.ref a))->F' a)->eT K G F H o s->eT K G F' H o s
 |.no,_,_=>trivial
 |.val d,_,h=>by
  obtain⟨v,e,h⟩:=h
  exact⟨v,e,Rel.less fd hs h⟩
 |.own ds,q,h=>by
  obtain⟨a,xs,e,h1,h2,h3,h4⟩:=h
  exact⟨a,xs,e,q a rfl e,h2,h3,aH.less fd hs h4⟩
 |.fnc n cs,_,h=>h
 |.odc ks ds,q,h=>by
  obtain⟨a,xs,e,h1,h2,h3,h4,h5,h6⟩:=h;exact⟨a,xs,e,q a rfl e,h2,h3,h4,h5,aH.less fd hs h6⟩
inductive gw(K:PySem.W.Frag)(H:Hp)(F:av->Prop):D->HO->Prop
 |lst {ds:List D} {xs:List V}:aH K H F ds xs->gw K H F (.lst ds) (.lst xs)
 |dct {ks:List Str} {ds:List D} {vs:List V}:ks.Nodup->ks.length=ds.length->aH K H F ds vs->gw K H F (.dct ks ds) (.dK (zk ks vs))
def owS:D->Sl
 |.lst ds=>.own ds
 |.dct ks ds=>.odc ks ds
 |_=>.no
def Gz{d d':D}(h:ow (owS d)=true)(e:owS d=owS d'):d=d':=by
 cases d<;>first|(cases h;done)|skip
 .cases d'<;>first|(cases e;rfl)|cases e
 .cases d'<;>first|(cases e;rfl)|cases e
def gw.mo{d:D}{o:HO}(h:gw K H F d o):Mo o/\ow (owS d)=true:=by
 cases h<;>exact⟨trivial,rfl⟩
def gw.step(fd:FD F H)(s:Step G F H F' H'){d:D}{o:HO}(h:gw K H F d o):gw K H' F' d o:=by
 cases h with
 |lst h=>exact .lst (aH.step fd s _ _ h)
 |dct h1 h2 h3=>exact .dct h1 h2 (aH.step fd s _ _ h3)
def gw.sl{o:Option (Option V)}{a:av}{d:D}{u:HO}(e:o=some (some (.ref a)))(hF:F a)(hg:G.free a)(h:H a=some u)(r:gw K H F d u):eT K G F H o (owS d):=by
 cases r with
 |lst r=>exact⟨a,_,e,hF,hg,h,r⟩
 |dct h1 h2 h3=>exact⟨a,_,e,hF,hg,h,h1,h2,h3⟩
def eT.ow{o:Option (Option V)}{s:Sl}(h:eT K G F H o s)(q:ow s=true):∃a u d,o=some (some (.ref a))/\F a/\G.free a/\H a=some u/\gw K H F d u/\s=owS d:=by
 cases s with
 |own ds =>
  obtain⟨a,xs,e,h1,h2,h3,h4⟩:=h
  exact⟨a,_,.lst ds,e,h1,h2,h3,.lst h4,rfl⟩
 |odc ks ds =>
  obtain⟨a,xs,e,h1,h2,h3,h4,h5,h6⟩:=h
  exact⟨a,_,.dct ks ds,e,h1,h2,h3,.dct h4 h5 h6,rfl⟩
 |_=>cases q
def eT.stay0(fd:FD F H)(st:Step G' F H F' H')(k:∀a u,o=some (some (.ref a))->F a->G.free a->H a=some u->F' a/\H' a=some u):∀{s:Sl},eT K G F H o s->eT K G F' H' o s
 |.no,_=>trivial
 |.fnc n cs,h=>by
  obtain⟨v,e,z⟩:=h
  exact⟨v,e,z.keep (sP fd st.keep)⟩
 |.val d,h=>by
  obtain⟨v,e,z⟩:=h
  exact⟨v,e,Rel.step fd st d v z⟩
 |.own ds,h=>by
  obtain⟨a,u,d,e,h1,h2,h3,h4,e5⟩:=eT.ow h rfl;rw[e5];obtain⟨k1,k2⟩:=k a u e h1 h2 h3
  exact gw.sl e k1 h2 k2 (h4.step fd st)
 |.odc ks ds,h=>by
  obtain⟨a,u,d,e,h1,h2,h3,h4,e5⟩:=eT.ow h rfl;rw[e5];obtain⟨k1,k2⟩:=k a u e h1 h2 h3;exact gw.sl e k1 h2 k2 (h4.step fd st)
def eT.stay{o:Option (Option V)}(fd:FD F H)(st:Step G F H F' H')(k:∀a u,o=some (some (.ref a))->F a->G.free a->H a=some u->F' a/\H' a=some u){s:Sl}(h:eT K G F H o s):eT K G F' H' o s:=eT.stay0 fd st k h
def eT.free{G':Gh}{o:Option (Option V)}(k:∀a,F a->G.free a->G'.free a):∀{s:Sl},eT K G F H o s->eT K G' F H o s
 |.no,_=>trivial
 |.fnc n cs,h=>h
 |.val d,h=>h
 |.own ds,h=>by
  obtain⟨a,xs,e,h1,h2,h3⟩:=h
  exact⟨a,xs,e,h1,k a h1 h2,h3⟩
 |.odc ks ds,h=>by
  obtain⟨a,xs,e,h1,h2,h3⟩:=h;exact⟨a,xs,e,h1,k a h1 h2,h3⟩
def gw.rel(fd:FD F H)(hs:∀b,F' b->F b){a:av}(n:¬F' a){d:D}{u:HO}(h:H a=some u)(r:gw K H F d u):Rel K H F' d (.ref a):=by
 cases r with
 |lst r =>
  unfold Rel
  exact⟨a,_,rfl,.inl ⟨.inl h,n⟩,aH.less fd hs r⟩
 |dct h1 h2 h3 =>
  unfold Rel;exact⟨a,_,rfl,.inl h,n,h1,h2,aH.less fd hs h3⟩
inductive Hand(K:PySem.W.Frag)(H:Hp)(F:av->Prop)(a:av):D->V->Prop
 |one {d:D} {u:HO}:H a=some u->gw K H F d u->Hand K H F a d (.ref a)
 |tup {l zs:List D} {xs vs:List V} {t:av}:H a=some (.lst xs)->aH K H F l xs->SqT K H t (.ref a::vs)->aH K H F zs vs->Hand K H F a (.tup (.lst l::zs)) (.ref t)
def Hand.less(fd:FD F H)(hs:∀b,F' b->F b){a:av}{d:D}{v:V}(h:Hand K H F a d v):Hand K H F' a d v:=by
 cases h with
 |one h r =>
  refine .one h ?_
  cases r with
  |lst r=>exact .lst (aH.less fd hs r)
  |dct h1 h2 h3=>exact .dct h1 h2 (aH.less fd hs h3)
 |tup h r t z=>exact .tup h (aH.less fd hs r) t (aH.less fd hs z)
def Hand.rel(fd:FD F H)(hs:∀b,F' b->F b){a:av}(n:¬F' a){d:D}{v:V}(h:Hand K H F a d v):Rel K H F' d v:=by
 cases h with
 |one h r=>exact gw.rel fd hs n h r
 |tup h r t z =>
  have e:=gw.rel fd hs n h (.lst r);unfold Rel;refine⟨_,_,rfl,t,?_⟩;unfold aH;exact⟨_,_,rfl,e,aH.less fd hs z⟩
def fD{α:Type}{l:List α}{i j:Nat}{x y:α}(hi:i<l.length)(q:(l.set i x)[j]?=some y):(j=i/\y=x)\/(j≠i/\l[j]?=some y):=by
 by_cases hj:j=i
 .subst hj;rw[bG hi]at q;cases q;exact .inl ⟨rfl,rfl⟩
 .rw[aM (Ne.symm hj)]at q;exact .inr ⟨hj,q⟩
def Ok.demote(h:Ok K G F σ H δ){i:Nat}{d:D}{a:av}(e:δ[i]?=some (owS d))(eo:ow (owS d)=true)(ea:σ[i]?=some (some (.ref a))) :
 Ok K G (λb=>F b/\b≠a) σ H (δ.set i (.val d))/\Rel K H (λb=>F b/\b≠a) d (.ref a):=by
 have hi:i<δ.length:=(aF.mp e).1;obtain⟨a',u,d',e1,h1,h2,h3,h4,ed⟩:=eT.ow (h.sl i _ e) eo;rw[ea]at e1;cases e1;have ed:=Gz eo ed;subst ed;have hs:∀b,(F b/\b≠a)->F b:=λb z=>z.1;have r:Rel K H (λb=>F b/\b≠a) d (.ref a):=gw.rel h.fd hs (λz=>z.2 rfl) h3 h4
 have tf':TF λb=>F b/\b≠a:=λt ht=>⟨h.tf t ht,λw=>by
  obtain⟨ps,e2,_⟩:=h.tabs t ht;rw[w,h3]at e2;cases e2;exact h4.mo.1⟩
 refine⟨⟨h.same,λb z=>h.fd b z.1,λb z=>⟨h.rf b z,λw=>h2.2 (by rw[<- w];exact z)⟩,h.rl,tf',h.tabs,by rw[aZ];exact h.len,λj s q=>?_,λj k s t b q1 q2 o1 o2 p1 p2=>?_⟩,r⟩
 .rcases fD hi q with⟨rfl,rfl⟩|⟨hj,q⟩
  .exact⟨.ref a,ea,r⟩
  .refine(h.sl j s q).less h.fd hs λb z zb=>?_;obtain⟨b',u',d',e1,f1,_⟩:=eT.ow (h.sl j _ q) z;rw[zb]at e1;cases e1;exact⟨f1,λw=>hj (h.apart j i _ _ a q e z eo (by rw[zb,w]) ea)⟩
 .rcases fD hi q1 with⟨rfl,rfl⟩|⟨hj,q1⟩
  .cases o1
  .rcases fD hi q2 with⟨rfl,rfl⟩|⟨hk,q2⟩
   .cases o2
   .exact h.apart j k s t b q1 q2 o1 o2 p1 p2
def Ok.set(h:Ok K G F σ H δ){i:Nat}{d:D}{v:V}(hi:i<δ.length)(r:Rel K H F d v):Ok K G F (σ.set i (some v)) H (δ.set i (.val d)):=by
 have hi':i<σ.length:=by rw[<- h.len];exact hi
 refine⟨h.same,h.fd,h.rf,h.rl,h.tf,h.tabs,by rw[aZ,aZ];exact h.len,λj s q=>?_,λj k s t b q1 q2 o1 o2 p1 p2=>?_⟩
 .rcases fD hi q with⟨rfl,rfl⟩|⟨hj,q⟩
  .exact⟨v,by rw[bG hi'],r⟩
  .rw[aM (Ne.symm hj)];exact h.sl j s q
 .rcases fD hi q1 with⟨rfl,rfl⟩|⟨hj,q1⟩
  .cases o1
  .rcases fD hi q2 with⟨rfl,rfl⟩|⟨hk,q2⟩
   .cases o2
   .rw[aM (Ne.symm hj)]at p1;rw[aM (Ne.symm hk)]at p2;exact h.apart j k s t b q1 q2 o1 o2 p1 p2
def Ok.ownO(h:Ok K G F σ H δ){i:Nat}{d:D}{u:HO}{p:av}(hi:i<δ.length)(hp:F p)(hg:G.free p)(e:H p=some u)(r:gw K H F d u)
 (hn:∀(j:Nat)s,δ[j]?=some s->ow s=true->σ[j]?≠some (some (.ref p))):Ok K G F (σ.set i (some (.ref p))) H (δ.set i (owS d)):=by
 have hi':i<σ.length:=by rw[<- h.len];exact hi
 refine⟨h.same,h.fd,h.rf,h.rl,h.tf,h.tabs,by rw[aZ,aZ];exact h.len,λj s q=>?_,λj k s t b q1 q2 o1 o2 p1 p2=>?_⟩
 .rcases fD hi q with⟨rfl,rfl⟩|⟨hj,q⟩
  .exact gw.sl (by rw[bG hi']) hp hg e r
  .rw[aM (Ne.symm hj)];exact h.sl j s q
 .rcases fD hi q1 with⟨rfl,rfl⟩|⟨hj,q3⟩
  .rcases fD hi q2 with⟨rfl,rfl⟩|⟨hk,q2⟩
   .rfl
   .rw[bG hi']at p1;rw[aM (Ne.symm hk)]at p2;cases p1;exact(hn k t q2 o2 p2).elim
  .rw[aM (Ne.symm hj)]at p1;rcases fD hi q2 with⟨rfl,rfl⟩|⟨hk,q2⟩
   .rw[bG hi']at p2;cases p2;exact(hn j s q3 o1 p1).elim
   .rw[aM (Ne.symm hk)]at p2;exact h.apart j k s t b q3 q2 o1 o2 p1 p2
def Ok.own(h:Ok K G F σ H δ){i:Nat}{ds:List D}{xs:List V}{p:av}(hi:i<δ.length)(hp:F p)(hg:G.free p)(e:H p=some (.lst xs))(r:aH K H F ds xs)
 (hn:∀(j:Nat)s,δ[j]?=some s->ow s=true->σ[j]?≠some (some (.ref p))):Ok K G F (σ.set i (some (.ref p))) H (δ.set i (.own ds)):=h.ownO (d:=.lst ds) hi hp hg e (.lst r) hn
def Ok.writeO(h:Ok K G F σ H δ){i:Nat}{d d':D}{a:av}{u:HO}(e:δ[i]?=some (owS d))(eo:ow (owS d)=true)(ea:σ[i]?=some (some (.ref a)))(r:gw K H F d' u) :
 Ok K G F σ (upd H a u) (δ.set i (owS d'))/\Step G F H F (upd H a u):=by
 have hi:i<δ.length:=(aF.mp e).1;have e':=e;obtain⟨a',x,d0,e1,h1,h2,h3,h4,_⟩:=eT.ow (h.sl i _ e) eo;rw[ea]at e1;cases e1
 have nt:NT x:=by
  have m:=h4.mo.1;cases x<;>first|trivial|exact m
 have st:Step G F H F (upd H a u):=⟨λb o _ q n=>by
  rw[bD (λz:b=a=>n (by rw[z];exact h1))];exact q,λb z=>.inl z,λb o r z e=>⟨z,by rw[bD (λw:b=a=>h2.2 (by rw[<- w];exact r))];exact e⟩,λb ps e=>⟨ps,by rw[bD (λw:b=a=>by rw[w,h3]at e;cases e;exact nt)];exact e⟩⟩
 have tb':lC (upd H a u):=h.tabs.keep λb o n e=>by rw[bD (λw:b=a=>by rw[w,h3]at e;cases e;exact n h4.mo.1)];exact e
 refine⟨⟨⟨λb o t q=>?_,λb ps q=>?_⟩,λb z=>?_,h.rf,λb z=>?_,h.tf,tb',by rw[aZ];exact h.len,λj s q=>?_,λj k s t b q1 q2 o1 o2 p1 p2=>?_⟩,st⟩
 .have:=h.same.nt b o t q;rw[bD (λz:b=a=>by rw[z,h2.1]at q;cases q)];exact this
 .rw[bD (λz:b=a=>by rw[z,h2.1]at q;cases q)];exact h.same.tb b ps q
 .by_cases hb:b=a
  .subst hb;exact⟨u,bI,.inl r.mo.1⟩
  .rw[bD hb];exact h.fd b z
 .by_cases hb:b=a
  .subst hb;exact⟨u,bI,r.mo.1⟩
  .rw[bD hb];exact h.rl b z
 .rcases fD hi q with⟨rfl,rfl⟩|⟨hj,q⟩
  .exact gw.sl ea h1 h2 bI (r.step h.fd st)
  .cases eq:ow s with
   |true =>
    refine eT.stay h.fd st (λb v e f1 f2 f3=>⟨f1,?_⟩) (h.sl j s q);rw[bD (λw:b=a=>hj (h.apart j i _ _ a q e' eq eo (by rw[e,w]) ea))]
    exact f3
   |false =>
    have z:=h.sl j s q
    cases s with
    |no=>trivial
    |fnc n cs =>
     obtain⟨v,e,z⟩:=z
     exact⟨v,e,z.keep (sP h.fd st.keep)⟩
    |val d =>
     obtain⟨v,e,z⟩:=z
     exact⟨v,e,Rel.step h.fd st d v z⟩
    |own _=>cases eq
    |odc _ _=>cases eq
 .have un:∀(m:Nat)(g:Sl),(δ.set i (owS d'))[m]?=some g->ow g=true->∃g',δ[m]?=some g'/\ow g'=true:=λm g q o=>by
   rcases fD hi q with⟨rfl,rfl⟩|⟨hj,q⟩
   .exact⟨_,e,eo⟩
   .exact⟨g,q,o⟩
  obtain⟨g1,q1,o1⟩:=un j _ q1 o1;obtain⟨g2,q2,o2⟩:=un k _ q2 o2;exact h.apart j k g1 g2 b q1 q2 o1 o2 p1 p2
def Ok.write(h:Ok K G F σ H δ)(e:δ[i]?=some (.own ds))(ea:σ[i]?=some (some (.ref a)))(r:aH K H F es ys) :
 Ok K G F σ (upd H a (.lst ys)) (δ.set i (.own es))/\Step G F H F (upd H a (.lst ys)):=h.writeO (d:=.lst ds) (d':=.lst es) e rfl ea (.lst r)
def Mo.nt{o:HO}(m:Mo o):NT o:=by
 cases o<;>first|trivial|exact m
def Step.of_sim(rl:∀b,G.R b->∃o,H b=some o/\Mo o)(k:Sim H H'):Step G F H F H':=⟨λb o t e _=>k.nt b o t e,λb z=>.inl z,λb o r f e=>⟨f,by
 obtain⟨u,e2,m⟩:=rl b r;rw[e]at e2;cases e2;exact k.nt b _ m.nt e⟩,k.tb⟩
def Ok.call(h:Ok K G F σ H δ)(k:Sim H H')(t:lC H'):Ok K G F σ H' δ/\Step G F H F H':=by
 have st:Step G F H F H':=Step.of_sim h.rl k;refine⟨⟨h.same.trans k,λb z=>?_,h.rf,λb z=>?_,h.tf,t,h.len,λi s e=>?_,h.apart⟩,st⟩
 .obtain⟨o,e,m⟩:=h.fd b z;rcases m with m|⟨⟨ps,rfl⟩,t⟩
  .exact⟨o,k.nt _ _ m.nt e,.inl m⟩
  .obtain⟨qs,e⟩:=k.tb b ps e;exact⟨_,e,.inr ⟨⟨qs,rfl⟩,t⟩⟩
 .obtain⟨o,e,m⟩:=h.rl b z;exact⟨o,k.nt _ _ m.nt e,m⟩
 .cases eq:ow s with
  |true =>
   obtain⟨_,_,_,_,_,_,h3,h4,_⟩:=eT.ow (h.sl i s e) eq;refine eT.stay h.fd st (λb v e2 f1 f2 f3=>⟨f1,?_⟩) (h.sl i s e);obtain⟨o,e3,m⟩:=h.fd b f1;rw[f3]at e3;cases e3;rcases m with m|⟨⟨ps,rfl⟩,t,ht,eb⟩
   .exact k.nt _ _ m.nt f3
   .exfalso;obtain⟨c,w,d,e5,_,_,e7,r7,_⟩:=eT.ow (h.sl i s e) eq;rw[e2]at e5;cases e5;rw[f3]at e7;cases e7
    exact r7.mo.1
  |false =>
   have q:=h.sl i s e
   cases s with
   |no=>trivial
   |fnc n cs =>
    obtain⟨v,e,r⟩:=q
    exact⟨v,e,r.keep (sP h.fd st.keep)⟩
   |val d =>
    obtain⟨v,e,r⟩:=q
    exact⟨v,e,Rel.step h.fd st d v r⟩
   |own _=>cases eq
   |odc _ _=>cases eq
end
end PP
end
section
namespace PP
open PySem L2 PyProof.Rows PySem.SeqAt
variable[Tbs]
def zY(xs:List (Array Nat)):∀a:Array Nat,(xs.foldl (·++·) a).toList=a.toList++(xs.map (·.toList)).flatten:=by
 induction xs with
 |nil=>intro a;simp
 |cons x r ih=>intro a;rw[hZ,ih];simp
def GV(x:Str)(n:Int)(h:0<=n):Txt.mul x n=FZ x n.toNat:=by
 unfold Txt.mul FZ;by_cases h1:n<1
 .have:n=0:=by lia
  subst this;rfl
 .rw[if_neg h1];by_cases h2:(n==1||x.length==0)=true
  .rw[if_pos h2];rw[bF]at h2;rcases h2 with h2|h2
   .have:n=1:=by simpa using h2
    subst this;simp
   .have e:x.cps=#[]:=by
     have:x.cps.size=0:=by simpa[Str.length]using h2
     exact Array.eq_empty_of_size_eq_zero this
    cases x;simp at e;subst e;simp
  .rw[if_neg h2];congr 1;apply Array.ext';rw[zY];simp
def GB:OpR X (binaryOp .Mult) (λx y H Q=>∃i n,x=.str i/\y=.int n/\(0<=n/\n<=1000/\i.length<=1000)/\Q (.str (FZ i n.toNat)) H):=by
 intro pins s σ H x y v u Q I rx ry h;obtain⟨i,n,rfl,rfl,⟨h1,h2,h3⟩,q⟩:=h;obtain⟨t,rfl⟩:=rx;obtain⟨t',rfl⟩:=ry;refine SB.mul ⟨?_,λa _ b=>?_,λa _=>?_⟩ λt' k=>?_
 .simp;lia
 .have:(1000:Int)<=(2^63-1)/n:=by rw[Int.le_ediv_iff_mul_le ∅];lia
  lia
 .have:i.length*n.toNat<=1000*1000:=Nat.mul_le_mul h3 ∅;have z:=ub;unfold rJ;simp
  lia
 .rw[GV i n h1];exact⟨.str _,H,I.tok _,⟨_,rfl⟩,q⟩
mutual
noncomputable def RdV(h:bV):D->ai->Prop
 |.non,u=>u=.none
 |.bl b,u=>u=.bool b
 |.int i,u=>∃t,u=.int i t
 |.str x,u=>∃t,u=.str x t
 |.lst ds,u=>∃a its,u=.ref a/\h.IsList a its/\RdL h ds its.toList
 |.tup ds,u=>∃a its,u=.ref a/\h.IsTuple a its/\RdL h ds its.toList
 |.fn _ _,_=>False
 |.dct _ _,_=>False
noncomputable def RdL(h:bV):List D->List ai->Prop
 |[],us=>us=[]
 |d::ds,us=>∃w ws,us=w::ws/\RdV h d w/\RdL h ds ws
end
mutual
theorem Cg(I:Inv X pins σ H s):∀(d:D)(v:V)(u:ai),Rel X.K H F d v->RelV v u->dep d<100000->RdV s.heap d u
 |.non,v,u,h,r,_=>by unfold Rel at h;subst h;unfold RdV;exact r
 |.bl b,v,u,h,r,_=>by unfold Rel at h;subst h;unfold RdV;exact r
 |.int b,v,u,h,r,_=>by unfold Rel at h;subst h;unfold RdV;exact r
 |.str b,v,u,h,r,_=>by unfold Rel at h;subst h;unfold RdV;exact r
 |.lst ds,v,u,h,r,hd=>by
  unfold dep at hd;unfold Rel at h;obtain⟨a,xs,e,h1,h3⟩:=h;subst e;cases(show u=cj a from r);obtain⟨its,rv,p,hz⟩:=I.list h1.sq;unfold RdV
  exact⟨a,its.toArray,rfl,p.isList,sg I ds xs its h3 rv ∅⟩
 |.tup ds,v,u,h,r,hd=>by
  unfold dep at hd;unfold Rel at h;obtain⟨a,xs,e,h1,h3⟩:=h;subst e;cases(show u=cj a from r);obtain⟨its,rv,p,hz⟩:=I.tuple h1;unfold RdV
  exact⟨a,its.toArray,rfl,p,sg I ds xs its h3 rv ∅⟩
 |.fn _ _,v,u,h,r,_=>by unfold Rel at h;exact h.elim
 |.dct _ _,v,u,h,r,hd=>by unfold dep at hd;exact absurd hd (cV _)
theorem sg(I:Inv X pins σ H s):∀(ds:List D)(xs:List V)(us:List ai),aH X.K H F ds xs->Vals xs us->eO ds<100000->RdL s.heap ds us
 |[],xs,us,h,r,_=>by unfold aH at h;subst h;cases r;unfold RdL;rfl
 |d::ds,xs,us,h,r,hd=>by
  unfold eO at hd;unfold aH at h;obtain⟨y,ys,e,h1,h2⟩:=h;subst e
  cases r with
  |cons r1 r2 =>
   unfold RdL;exact⟨_,_,rfl,Cg I d y _ h1 r1 ∅,sg I ds ys _ h2 r2 ∅⟩
end
def fj(I:Inv X pins σ H s)(h:cZ X.K H F d v)(r:RelV v u)(hd:dep d<100000):RdV s.heap d u:=by
 rcases h with h|⟨a,xs,ds,rfl,rfl,h1,h2⟩
 .exact Cg I d v u h r hd
 .cases(show u=cj a from r);obtain⟨its,rv,p,hz⟩:=I.list (.inl (.inl h1));unfold RdV;unfold dep at hd;exact⟨a,its.toArray,rfl,p.isList,sg I ds xs its h2 rv ∅⟩
mutual
theorem RdV.inj:∀(d e:D)(u:ai),RdV h d u->RdV h e u->d=e
 |.non,e,u,a,b=>by
  unfold RdV at a;subst a
  cases e<;>unfold RdV at b<;>first|rfl|(obtain⟨_,_,b,_⟩:=b;cases b;done)|(obtain⟨_,b⟩:=b;cases b;done)|(cases b;done)
 |.bl x,e,u,a,b=>by
  unfold RdV at a;subst a
  cases e<;>unfold RdV at b<;>first|(cases b;rfl)|(obtain⟨_,_,b,_⟩:=b;cases b;done)|(obtain⟨_,b⟩:=b;cases b;done)|(cases b;done)
 |.int x,e,u,a,b=>by
  unfold RdV at a;obtain⟨t,a⟩:=a;subst a
  cases e<;>unfold RdV at b<;>first|(obtain⟨_,_,b,_⟩:=b;cases b;done)|(obtain⟨_,b⟩:=b;cases b;rfl)|(obtain⟨_,b⟩:=b;cases b;done)|(cases b;done)
 |.str x,e,u,a,b=>by
  unfold RdV at a;obtain⟨t,a⟩:=a;subst a
  cases e<;>unfold RdV at b<;>first|(obtain⟨_,_,b,_⟩:=b;cases b;done)|(obtain⟨_,b⟩:=b;cases b;rfl)|(obtain⟨_,b⟩:=b;cases b;done)|(cases b;done)
 |.lst ds,e,u,a,b=>by
  unfold RdV at a;obtain⟨l,its,a,h1,h2⟩:=a;subst a
  cases e with
  |lst es =>
   unfold RdV at b;obtain⟨l',its',b,k1,k2⟩:=b;cases b;obtain⟨o,g1,g2,n,g3⟩:=h1;obtain⟨o',f1,f2,n',f3⟩:=k1;rw[g1]at f1;cases f1;rw[g3]at f3;cases f3
   rw[RdL.inj ds es _ h2 k2]
  |tup es =>
   unfold RdV at b;obtain⟨l',its',b,k1,k2⟩:=b;cases b;obtain⟨o,g1,g2,_⟩:=h1;obtain⟨o',f1,f2,_⟩:=k1;rw[g1]at f1;cases f1
   rw[g2]at f2;injection f2 with f2;exact absurd f2 ⇑0
  |_=>unfold RdV at b;first|(obtain⟨_,b⟩:=b;cases b)|cases b
 |.tup ds,e,u,a,b=>by
  unfold RdV at a;obtain⟨l,its,a,h1,h2⟩:=a;subst a
  cases e with
  |tup es =>
   unfold RdV at b;obtain⟨l',its',b,k1,k2⟩:=b;cases b;obtain⟨o,g1,g2,n,g3⟩:=h1;obtain⟨o',f1,f2,n',f3⟩:=k1;rw[g1]at f1;cases f1;rw[g3]at f3;cases f3
   rw[RdL.inj ds es _ h2 k2]
  |lst es =>
   unfold RdV at b;obtain⟨l',its',b,k1,k2⟩:=b;cases b;obtain⟨o,g1,g2,_⟩:=h1;obtain⟨o',f1,f2,_⟩:=k1;rw[g1]at f1;cases f1
   rw[g2]at f2;injection f2 with f2;exact absurd f2 ⇑0
  |_=>unfold RdV at b;first|(obtain⟨_,b⟩:=b;cases b)|cases b
 |.fn _ _,e,u,a,b=>by unfold RdV at a;exact a.elim
 |.dct _ _,e,u,a,b=>by unfold RdV at a;exact a.elim
theorem RdL.inj:∀(ds es:List D)(us:List ai),RdL h ds us->RdL h es us->ds=es
 |[],es,us,a,b=>by
  unfold RdL at a;subst a
  cases es with
  |nil=>rfl
  |cons e es=>unfold RdL at b;obtain⟨_,_,b,_⟩:=b;cases b
 |d::ds,es,us,a,b=>by
  unfold RdL at a;obtain⟨w,ws,a,h1,h2⟩:=a;subst a
  cases es with
  |nil=>unfold RdL at b;cases b
  |cons e es =>
   unfold RdL at b;obtain⟨_,_,b,k1,k2⟩:=b;cases b;rw[RdV.inj d e w h1 k1,RdL.inj ds es ws h2 k2]
end
mutual
theorem mj:∀d:D,dep d<100000->eqD d d=true
 |.non,_=>by unfold eqD;rfl
 |.bl b,_=>by unfold eqD;simp
 |.int b,_=>by unfold eqD;simp
 |.str b,_=>by unfold eqD;simp
 |.lst ds,h=>by unfold eqD;exact mU ds (by unfold dep at h;lia)
 |.tup ds,h=>by unfold eqD;exact mU ds (by unfold dep at h;lia)
 |.fn _ _,h=>by unfold dep at h;lia
 |.dct _ _,h=>by unfold dep at h;lia
theorem mU:∀ds:List D,eO ds<100000->lA ds ds=true
 |[],_=>by unfold lA;rfl
 |d::ds,h=>by
  unfold eO at h;unfold lA;rw[mj d ∅,mU ds ∅];rfl
end
def pairD(ds es:List D)(j:Nat):Bool:=match ds[j]?,es[j]? with
 |some x,some y=>eqD x y
 |_,_=>false
def ky:∀(ds es:List D),(dW (min ds.length es.length)).all (pairD ds es)=true/\ds.length=es.length↔lA ds es=true
 |[],[]=>by unfold lA;simp
 |[],_::_=>by unfold lA;simp
 |_::_,[]=>by unfold lA;simp
 |d::ds,e::es=>by
  have ih:=ky ds es;have e1:min (d::ds).length (e::es).length=min ds.length es.length+1:=by simp only[ag];lia
  rw[e1,List.range_succ_eq_map,cg,List.all_map];have e2:(pairD (d::ds) (e::es) ∘ Nat.succ)=pairD ds es:=by funext j;simp[pairD]
  rw[e2];unfold lA;rw[aa,aa,<- ih];have e3:pairD (d::ds) (e::es) 0=eqD d e:=rfl;rw[e3];simp only[ag];constructor
  .rintro⟨⟨a,b⟩,c⟩;exact⟨a,b,∅⟩
  .rintro⟨a,b,c⟩;exact⟨⟨a,b⟩,∅⟩
def pP(h:ds.length=es.length):(dW ds.length).all (pairD ds es)=lA ds es:=by
 have q:=ky ds es;rw[<- h,oa]at q;rw[bJ];rw[<- q];simp
def sU(h:ds.length≠es.length):lA ds es=false:=by
 have q:=ky ds es;rw[EK];intro z;exact h (q.mpr z).2
def mV(ds es:List D):((dW (min ds.length es.length)).all (pairD ds es)&&ds.length==es.length)=lA ds es:=by
 have q:=ky ds es;rw[bJ,aa,<- q];simp
def RdL.length:∀{ds:List D}{us:List ai},RdL h ds us->us.length=ds.length
 |[],us,a=>by unfold RdL at a;subst a;rfl
 |d::ds,us,a=>by
  unfold RdL at a;obtain⟨w,ws,a,_,h2⟩:=a;subst a;rw[ag,ag,RdL.length h2]
def mm1(a b c d:Nat):min a c<=min (max a b) (max c d):=Nat.le_min.mpr ⟨aX (qv _ _) (IU _ _),aX (pW _ _) (IU _ _)⟩
def mm2(a b c d:Nat):min b d<=min (max a b) (max c d):=Nat.le_min.mpr ⟨aX (qv _ _) (HY _ _),aX (pW _ _) (HY _ _)⟩
mutual
theorem DX:∀(a b:D)(A:bB)(s:au)(u v:ai),RdV s.heap a u->RdV s.heap b v->A.units+min (dep a) (dep b)<cLine->EqAt A s u v (eqD a b)
 |.non,b,A,s,u,v,ra,rb,hu=>by
  unfold RdV at ra;subst ra
  cases b with
  |non=>unfold RdV at rb;subst rb;unfold eqD;exact ET _
  |bl b=>unfold RdV at rb;subst rb;unfold eqD;exact EqAt.none_bool b
  |int b=>unfold RdV at rb;obtain⟨t,rfl⟩:=rb;unfold eqD;exact EqAt.none_int b t
  |str b=>unfold RdV at rb;obtain⟨t,rfl⟩:=rb;unfold eqD;exact EqAt.none_str b t
  |lst ds=>unfold RdV at rb;obtain⟨l,its,rfl,h1,h2⟩:=rb;unfold eqD;exact EqAt.none_list h1 ∅
  |tup ds=>unfold RdV at rb;obtain⟨l,its,rfl,h1,h2⟩:=rb;unfold eqD;exact EqAt.none_tuple h1 ∅
  |fn _ _=>unfold RdV at rb;exact rb.elim
  |dct _ _=>unfold RdV at rb;exact rb.elim
 |.bl a,b,A,s,u,v,ra,rb,hu=>by
  unfold RdV at ra;subst ra
  cases b with
  |non=>unfold RdV at rb;subst rb;unfold eqD;exact EqAt.bool_none a
  |bl b=>unfold RdV at rb;subst rb;unfold eqD;exact EqAt.bool_bool a b
  |int b=>unfold RdV at rb;obtain⟨t,rfl⟩:=rb;unfold eqD;exact EqAt.bool_int a b t
  |str b=>unfold RdV at rb;obtain⟨t,rfl⟩:=rb;unfold eqD;exact EqAt.bool_str a b t
  |lst ds=>unfold RdV at rb;obtain⟨l,its,rfl,h1,h2⟩:=rb;unfold eqD;exact EqAt.bool_list a h1 ∅
  |tup ds=>unfold RdV at rb;obtain⟨l,its,rfl,h1,h2⟩:=rb;unfold eqD;exact EqAt.bool_tuple a h1 ∅
  |fn _ _=>unfold RdV at rb;exact rb.elim
  |dct _ _=>unfold RdV at rb;exact rb.elim
 |.int a,b,A,s,u,v,ra,rb,hu=>by
  unfold RdV at ra;obtain⟨t',rfl⟩:=ra
  cases b with
  |non=>unfold RdV at rb;subst rb;unfold eqD;exact EqAt.int_none a t'
  |bl b=>unfold RdV at rb;subst rb;unfold eqD;exact EqAt.int_bool a t' b
  |int b=>unfold RdV at rb;obtain⟨t,rfl⟩:=rb;unfold eqD;exact EqAt.int_int a t' b t
  |str b=>unfold RdV at rb;obtain⟨t,rfl⟩:=rb;unfold eqD;exact EqAt.int_str a t' b t
  |lst ds=>unfold RdV at rb;obtain⟨l,its,rfl,h1,h2⟩:=rb;unfold eqD;exact EqAt.int_list a t' h1 ∅
  |tup ds=>unfold RdV at rb;obtain⟨l,its,rfl,h1,h2⟩:=rb;unfold eqD;exact EqAt.int_tuple a t' h1 ∅
  |fn _ _=>unfold RdV at rb;exact rb.elim
  |dct _ _=>unfold RdV at rb;exact rb.elim
 |.str a,b,A,s,u,v,ra,rb,hu=>by
  unfold RdV at ra;obtain⟨t',rfl⟩:=ra
  cases b with
  |non=>unfold RdV at rb;subst rb;unfold eqD;exact EqAt.str_none a t'
  |bl b=>unfold RdV at rb;subst rb;unfold eqD;exact EqAt.str_bool a t' b
  |int b=>unfold RdV at rb;obtain⟨t,rfl⟩:=rb;unfold eqD;exact EqAt.str_int a t' b t
  |str b=>unfold RdV at rb;obtain⟨t,rfl⟩:=rb;unfold eqD;exact EqAt.str_str a t' b t
  |lst ds=>unfold RdV at rb;obtain⟨l,its,rfl,h1,h2⟩:=rb;unfold eqD;exact EqAt.str_list a t' h1 ∅
  |tup ds=>unfold RdV at rb;obtain⟨l,its,rfl,h1,h2⟩:=rb;unfold eqD;exact EqAt.str_tuple a t' h1 ∅
  |fn _ _=>unfold RdV at rb;exact rb.elim
  |dct _ _=>unfold RdV at rb;exact rb.elim
 |.lst ds,b,A,s,u,v,ra,rb,hu=>by
  have ra':=ra;unfold RdV at ra;obtain⟨l,its,rfl,h1,h2⟩:=ra
  cases b with
  |non=>unfold RdV at rb;subst rb;unfold eqD;exact EqAt.list_none h1 ∅
  |bl b=>unfold RdV at rb;subst rb;unfold eqD;exact EqAt.list_bool b h1 ∅
  |int b=>unfold RdV at rb;obtain⟨t,rfl⟩:=rb;unfold eqD;exact EqAt.list_int b t h1 ∅
  |str b=>unfold RdV at rb;obtain⟨t,rfl⟩:=rb;unfold eqD;exact EqAt.list_str b t h1 ∅
  |tup es=>unfold RdV at rb;obtain⟨l',its',rfl,k1,k2⟩:=rb;unfold eqD;exact EqAt.list_tuple h1 k1 ∅
  |lst es =>
   have rb':=rb;unfold RdV at rb;obtain⟨l',its',rfl,k1,k2⟩:=rb;by_cases hl:l=l'
   .subst hl;have e:=RdV.inj _ _ _ ra' rb';cases e;have hd:dep (.lst ds)<100000:=by rw[oa]at hu;have:cLine=9900:=rfl;lia
    rw[mj _ hd];exact ET _
   .unfold eqD;have n1:its.size=ds.length:=by simpa using h2.length
    have n2:its'.size=es.length:=by simpa using k2.length
    have he:∀j(j1:j<its.size)(j2:j<its'.size),EqAt A.in1 s its[j] its'[j] (pairD ds es j):=λj j1 j2=>by
     have q:=jA ds es A.in1 s its.toList its'.toList h2 k2 (by show A.units+1+_<_;unfold dep at hu;lia) j (by simpa using j1) (by simpa using j2);simpa using q
    refine EqAt.of_refs hl ?_;by_cases hsz:its.size=its'.size
    .rw[<- pP (by lia:ds.length=es.length),<- n1];exact RcAt.lists h1 k1 hsz ∅ he
    .rw[sU (by lia:ds.length≠es.length)]
     exact RcAt.lists_lengths h1 k1 (by simpa using hsz) ∅
  |fn _ _=>unfold RdV at rb;exact rb.elim
  |dct _ _=>unfold RdV at rb;exact rb.elim
 |.tup ds,b,A,s,u,v,ra,rb,hu=>by
  have ra':=ra;unfold RdV at ra;obtain⟨l,its,rfl,h1,h2⟩:=ra
  cases b with
  |non=>unfold RdV at rb;subst rb;unfold eqD;exact EqAt.tuple_none h1 ∅
  |bl b=>unfold RdV at rb;subst rb;unfold eqD;exact EqAt.tuple_bool b h1 ∅
  |int b=>unfold RdV at rb;obtain⟨t,rfl⟩:=rb;unfold eqD;exact EqAt.tuple_int b t h1 ∅
  |str b=>unfold RdV at rb;obtain⟨t,rfl⟩:=rb;unfold eqD;exact EqAt.tuple_str b t h1 ∅
  |lst es=>unfold RdV at rb;obtain⟨l',its',rfl,k1,k2⟩:=rb;unfold eqD;exact EqAt.tuple_list h1 k1 ∅
  |tup es =>
   have rb':=rb;unfold RdV at rb;obtain⟨l',its',rfl,k1,k2⟩:=rb;by_cases hl:l=l'
   .subst hl;have e:=RdV.inj _ _ _ ra' rb';cases e;have hd:dep (.tup ds)<100000:=by rw[oa]at hu;have:cLine=9900:=rfl;lia
    rw[mj _ hd];exact ET _
   .unfold eqD;have n1:its.size=ds.length:=by simpa using h2.length
    have n2:its'.size=es.length:=by simpa using k2.length
    have he:∀j(j1:j<its.size)(j2:j<its'.size),EqAt A.in1 s its[j] its'[j] (pairD ds es j):=λj j1 j2=>by
     have q:=jA ds es A.in1 s its.toList its'.toList h2 k2 (by show A.units+1+_<_;unfold dep at hu;lia) j (by simpa using j1) (by simpa using j2);simpa using q
    refine EqAt.of_refs hl ?_;rw[<- mV,<- n1,<- n2]
    exact RcAt.tuples h1 k1 ∅ he
  |fn _ _=>unfold RdV at rb;exact rb.elim
  |dct _ _=>unfold RdV at rb;exact rb.elim
 |.fn _ _,b,A,s,u,v,ra,rb,hu=>by unfold RdV at ra;exact ra.elim
 |.dct _ _,b,A,s,u,v,ra,rb,hu=>by unfold RdV at ra;exact ra.elim
theorem jA:∀(ds es:List D)(A:bB)(s:au)(us vs:List ai),RdL s.heap ds us->RdL s.heap es vs->A.units+min (eO ds) (eO es)<cLine->∀j(h1:j<us.length)(h2:j<vs.length),EqAt A s us[j] vs[j] (pairD ds es j)
 |[],_,_,_,us,_,ra,_,_,j,h1,_=>by unfold RdL at ra;subst ra;exact absurd h1 (IT _)
 |_::_,[],_,_,_,vs,_,rb,_,j,_,h2=>by unfold RdL at rb;subst rb;exact absurd h2 (IT _)
 |d::ds,e::es,A,s,us,vs,ra,rb,hu,j,h1,h2=>by
  unfold RdL at ra rb;obtain⟨w,ws,rfl,a1,a2⟩:=ra;obtain⟨w',ws',rfl,b1,b2⟩:=rb;unfold eO at hu
  cases j with
  |zero=>exact DX d e A s w w' a1 b1 (cJ (AF (mm1 _ _ _ _) _) hu)
  |succ j =>
   have q:=jA ds es A s ws ws' a2 b2 (cJ (AF (mm2 _ _ _ _) _) hu) j (by simpa using h1) (by simpa using h2);simpa[pairD]using q
end
def yU(h:i.natAbs<2^200):rK i<=2^20:=by
 unfold rK;split
 .exact bM _
 .rename_i h0;have:i.natAbs.log2<200:=(Nat.log2_lt (by simpa using h0)).mpr h;have:(200:Nat)<=2^20:=by decide
  lia
def GW(h:nG i j=true):IntMulOk i j:=by
 unfold nG at h;simp only[bF,aa,decide_eq_true_eq]at h;rcases h with(h|h)|h
 .exact .of_left (intBits_le_64 h.1 h.2)
 .exact .of_right (intBits_le_64 h.1 h.2)
 .exact .of_bits (yU h.1) (yU h.2)
def GC:OpR X (binaryOp .Mult) (rI IntMulOk λi j=>.int (i*j)):=opI λ_ _ _ _ _ _ _ hc q=>PyProof.Rows.mul_int q hc
def CT:OpR X (binaryOp .FloorDiv) (rI (λ_ j=>0<j/\j<1000000000000000000000000000000000000000000000000000000000000) λi j=>.int (i/j)):=opI λi j _ _ _ _ _ hc q=>by
 have h1:(0:Int)<j:=hc.1;have h2:j<1000000000000000000000000000000000000000000000000000000000000:=hc.2;refine PyProof.Rows.floordiv_int ∅ (by rw[Int.fdiv_eq_ediv_of_nonneg i ∅];exact q) (.inl (PyProof.noPylong_of_log2 ?_));exact Nat.lt_trans ((Nat.log2_lt (k:=200) ∅).mpr (aK (show j.natAbs<1000000000000000000000000000000000000000000000000000000000000 by lia) ⇑0)) ⇑0
section
variable{X:Cx}
def Kv(hu:X.A.units+200<cLine):OpR X (compareOp .Eq) (λx y H Q=>∃F a b,cZ X.K H F a x/\cZ X.K H F b y/\iz a b=true/\Q (.bl (eqD a b)) H):=by
 intro pins s σ H x y v u Q I rx ry h;obtain⟨F,a,b,ha,hb,hk,q⟩:=h;unfold iz at hk;rw[aa,aa]at hk;obtain⟨⟨hk,hd⟩,hm⟩:=hk;replace hd:=of_decide_eq_true hd;replace hm:=of_decide_eq_true hm;have ra:=fj I ha rx ∅;have rb:=fj I hb ry ∅;have fin:∀k:Bool,k=eqD a b->EP X pins σ Q (.bool k) s:=λk e=>⟨.bl k,H,I,rfl,by rw[e];exact q⟩
 cases a<;>cases b<;>first
  |(exact absurd (show false=true from hk) aq)
  |skip
 .unfold RdV at ra rb;subst ra;subst rb;exact RcAt.bool_bool _ _ _ _ _ _ (fin _ (by unfold eqD;rfl))
 .unfold RdV at ra rb;obtain⟨t,rfl⟩:=ra;obtain⟨t',rfl⟩:=rb;exact RcAt.int_int _ _ _ _ _ _ _ _ (fin _ (by unfold eqD;rfl))
 .unfold RdV at ra rb;obtain⟨t,rfl⟩:=ra;obtain⟨t',rfl⟩:=rb;exact RcAt.str_str _ _ _ _ _ _ _ _ (fin _ (by unfold eqD;rfl))
 .rename_i ds es;unfold RdV at ra rb;obtain⟨l,its,rfl,h1,h2⟩:=ra;obtain⟨l',its',rfl,k1,k2⟩:=rb;have n1:its.size=ds.length:=by simpa using h2.length
  have n2:its'.size=es.length:=by simpa using k2.length
  have he:∀j(j1:j<its.size)(j2:j<its'.size),EqAt X.A.in1 s its[j] its'[j] (pairD ds es j):=λj j1 j2=>by
   have q:=jA ds es X.A.in1 s its.toList its'.toList h2 k2 (by show X.A.units+1+_<_;unfold dep at hd;lia) j (by simpa using j1) (by simpa using j2);simpa using q
  by_cases hsz:its.size=its'.size
  .refine eq_listAt h1 k1 hsz ∅ he (fin _ ?_);unfold eqD;rw[n1];exact pP ∅
  .refine eq_list_lengthsAt h1 k1 (by simpa using hsz) ∅ (fin _ ?_);unfold eqD;exact(sU ∅).symm
 .rename_i ds es;unfold RdV at ra rb;obtain⟨l,its,rfl,h1,h2⟩:=ra;obtain⟨l',its',rfl,k1,k2⟩:=rb;have n1:its.size=ds.length:=by simpa using h2.length
  have n2:its'.size=es.length:=by simpa using k2.length
  have he:∀j(j1:j<its.size)(j2:j<its'.size),EqAt X.A.in1 s its[j] its'[j] (pairD ds es j):=λj j1 j2=>by
   have q:=jA ds es X.A.in1 s its.toList its'.toList h2 k2 (by show X.A.units+1+_<_;unfold dep at hd;lia) j (by simpa using j1) (by simpa using j2);simpa using q
  refine eq_tupleAt h1 k1 ∅ he (fin _ ?_);unfold eqD;rw[n1,n2];exact mV ds es
def Kp(hu:X.A.units+200<cLine):OpR X (compareOp .NotEq) (λx y H Q=>∃F a b,cZ X.K H F a x/\cZ X.K H F b y/\iz a b=true/\Q (.bl (!eqD a b)) H):=by
 intro pins s σ H x y v u Q I rx ry h;obtain⟨F,a,b,ha,hb,hk,q⟩:=h;unfold iz at hk;rw[aa,aa]at hk;obtain⟨⟨hk,hd⟩,hm⟩:=hk;replace hd:=of_decide_eq_true hd;replace hm:=of_decide_eq_true hm;have ra:=fj I ha rx ∅;have rb:=fj I hb ry ∅;have fin:∀k:Bool,k=(!eqD a b)->EP X pins σ Q (.bool k) s:=λk e=>⟨.bl k,H,I,rfl,by rw[e];exact q⟩
 cases a<;>cases b<;>first
  |(exact absurd (show false=true from hk) aq)
  |skip
 .unfold RdV at ra rb;subst ra;subst rb;exact RcNeAt.bool_bool _ _ _ _ _ _ (fin _ (by unfold eqD;rfl))
 .unfold RdV at ra rb;obtain⟨t,rfl⟩:=ra;obtain⟨t',rfl⟩:=rb;exact RcNeAt.int_int _ _ _ _ _ _ _ _ (fin _ (by unfold eqD;rfl))
 .unfold RdV at ra rb;obtain⟨t,rfl⟩:=ra;obtain⟨t',rfl⟩:=rb;exact RcNeAt.str_str _ _ _ _ _ _ _ _ (fin _ (by unfold eqD;rfl))
 .rename_i ds es;unfold RdV at ra rb;obtain⟨l,its,rfl,h1,h2⟩:=ra;obtain⟨l',its',rfl,k1,k2⟩:=rb;have n1:its.size=ds.length:=by simpa using h2.length
  have n2:its'.size=es.length:=by simpa using k2.length
  have he:∀j(j1:j<its.size)(j2:j<its'.size),EqAt X.A.in1 s its[j] its'[j] (pairD ds es j):=λj j1 j2=>by
   have q:=jA ds es X.A.in1 s its.toList its'.toList h2 k2 (by show X.A.units+1+_<_;unfold dep at hd;lia) j (by simpa using j1) (by simpa using j2);simpa using q
  by_cases hsz:its.size=its'.size
  .refine RcNeAt.lists h1 k1 hsz ∅ he _ _ _ _ (fin _ ?_);unfold eqD;rw[n1,pP ∅]
  .refine RcNeAt.lists_lengths h1 k1 (by simpa using hsz) ∅ _ _ _ _ (fin _ ?_);unfold eqD;rw[sU ∅];rfl
 .rename_i ds es;unfold RdV at ra rb;obtain⟨l,its,rfl,h1,h2⟩:=ra;obtain⟨l',its',rfl,k1,k2⟩:=rb;have n1:its.size=ds.length:=by simpa using h2.length
  have n2:its'.size=es.length:=by simpa using k2.length
  have he:∀j(j1:j<its.size)(j2:j<its'.size),EqAt X.A.in1 s its[j] its'[j] (pairD ds es j):=λj j1 j2=>by
   have q:=jA ds es X.A.in1 s its.toList its'.toList h2 k2 (by show X.A.units+1+_<_;unfold dep at hd;lia) j (by simpa using j1) (by simpa using j2);simpa using q
  refine RcNeAt.tuples h1 k1 ∅ he _ _ _ _ (fin _ ?_);unfold eqD;rw[n1,n2,mV ds es]
open Classical in
def isEq(h:bV)(a:D)(u:ai):Bool:=if ∃d,RdV h d u/\eqD d a=true then true else false
def sJ(r:RdV h d u):isEq h a u=eqD d a:=by
 unfold isEq
 cases e:eqD d a with
 |true=>rw[if_pos ⟨d,r,e⟩]
 |false =>
  rw[if_neg];rintro⟨d',r',e'⟩;rw[RdV.inj d d' u r r',e']at e;cases e
def ke:∀{ds:List D}{us:List ai},RdL h ds us->us.any (isEq h a)=ds.any λd=>eqD d a
 |[],us,r=>by unfold RdL at r;subst r;rfl
 |d::ds,us,r=>by
  unfold RdL at r;obtain⟨w,ws,rfl,h1,h2⟩:=r;rw[dG,dG,sJ h1,ke h2]
def iY(rv:RdV s.heap a v)(hu:A.units+dep a<cLine):∀{ds:List D}{us:List ai},RdL s.heap ds us->∀u∈us,EqAt A s u v (isEq s.heap a u)
 |[],us,r=>λu hm=>by unfold RdL at r;subst r;cases hm
 |d::ds,us,r=>λu hm=>by
  unfold RdL at r;obtain⟨w,ws,rfl,h1,h2⟩:=r;rcases aA.mp hm with rfl|hm
  .rw[sJ h1];exact DX d a A s u v h1 rv ∅
  .exact iY rv hu h2 u hm
def Ku(hu:X.A.units+200<cLine):OpR X (compareOp .In) (λx y H Q=>∃F a ds,cZ X.K H F a x/\(cZ X.K H F (.lst ds) y\/cZ X.K H F (.tup ds) y)/\(dep a<=150/\eO ds<99999)/\Q (.bl (ds.any λd=>eqD d a)) H):=by
 intro pins s σ H x y v u Q I rx ry h;obtain⟨F,a,ds,ha,hb,⟨hd,hm⟩,q⟩:=h;have ra:=fj I ha rx ∅;have fin:∀k:Bool,k=(ds.any λd=>eqD d a)->EP X pins σ Q (.bool k) s:=λk e=>⟨.bl k,H,I,rfl,by rw[e];exact q⟩;rcases hb with hb|hb
 .have rb:=fj I hb ry (by unfold dep;lia);unfold RdV at rb;obtain⟨l',its',rfl,k1,k2⟩:=rb;refine in_listAt (isEq s.heap a) k1 (λw hw=>iY ra (by show X.A.units+1+_<_;lia) k2 w (by simpa using hw)) (fin _ ?_);rw[show its'.any (isEq s.heap a)=its'.toList.any (isEq s.heap a) by simp,ke k2]
 .have rb:=fj I hb ry (by unfold dep;lia);unfold RdV at rb;obtain⟨l',its',rfl,k1,k2⟩:=rb;refine in_tupleAt (isEq s.heap a) k1 (λw hw=>iY ra (by show X.A.units+1+_<_;lia) k2 w (by simpa using hw)) (fin _ ?_);rw[show its'.any (isEq s.heap a)=its'.toList.any (isEq s.heap a) by simp,ke k2]
def zM(hu:X.A.units+200<cLine):OpR X (compareOp .NotIn) (λx y H Q=>∃F a ds,cZ X.K H F a x/\(cZ X.K H F (.lst ds) y\/cZ X.K H F (.tup ds) y)/\(dep a<=150/\eO ds<99999)/\Q (.bl (!ds.any λd=>eqD d a)) H):=by
 intro pins s σ H x y v u Q I rx ry h;obtain⟨F,a,ds,ha,hb,⟨hd,hm⟩,q⟩:=h;have ra:=fj I ha rx ∅;have fin:∀k:Bool,k=(!ds.any λd=>eqD d a)->EP X pins σ Q (.bool k) s:=λk e=>⟨.bl k,H,I,rfl,by rw[e];exact q⟩;rcases hb with hb|hb
 .have rb:=fj I hb ry (by unfold dep;lia);unfold RdV at rb;obtain⟨l',its',rfl,k1,k2⟩:=rb;refine notIn_listAt (isEq s.heap a) k1 (λw hw=>iY ra (by show X.A.units+1+_<_;lia) k2 w (by simpa using hw)) (fin _ ?_);rw[show its'.any (isEq s.heap a)=its'.toList.any (isEq s.heap a) by simp,ke k2]
 .have rb:=fj I hb ry (by unfold dep;lia);unfold RdV at rb;obtain⟨l',its',rfl,k1,k2⟩:=rb;refine notIn_tupleAt (isEq s.heap a) k1 (λw hw=>iY ra (by show X.A.units+1+_<_;lia) k2 w (by simpa using hw)) (fin _ ?_);rw[show its'.any (isEq s.heap a)=its'.toList.any (isEq s.heap a) by simp,ke k2]
def pA(ns:List Int):∀j,preSum (λi=>ns.getD i 0) j=(ns.take j).sum
 |0=>by simp[preSum]
 |j+1=>by
  rw[preSum,pA ns j,EG,HZ]
  cases e:ns[j]? with
  |none=>simp[e]
  |some v=>simp[e]
def uv{ns:List Int}:∀{xs:List V}{us:List ai},xs=ns.map V.int->Vals xs us->∀i v,us[i]?=some v->∃t,v=nY (ns.getD i 0) t:=by
 induction ns with
 |nil=>intro xs us e r i v h;subst e;cases r;simp at h
 |cons n ns ih =>
  intro xs us e r i v h;subst e
  cases r with
  |cons r1 r2 =>
   cases i with
   |zero=>simp at h;subst h;obtain⟨t,e⟩:=r1;exact⟨t,by simpa using e⟩
   |succ i =>
    obtain⟨t,e⟩:=ih rfl r2 i v (by simpa using h);exact⟨t,by simpa using e⟩
def Fi{ns:List Bool}:∀{xs:List V}{us:List ai},xs=ns.map V.bl->Vals xs us->∀i v,us[i]?=some v->v=qu (ns.getD i false):=by
 induction ns with
 |nil=>intro xs us e r i v h;subst e;cases r;simp at h
 |cons n ns ih =>
  intro xs us e r i v h;subst e
  cases r with
  |cons r1 r2 =>
   cases i with
   |zero=>simp at h;subst h;have e:_=qu n:=r1;simpa using e
   |succ i=>simpa using ih rfl r2 i v (by simpa using h)
def wo(bs:List Bool):((dW bs.length).all λi=>bs.getD i false)=bs.all id:=by
 rw[bJ,bK,bK];constructor
 .intro h b hb;obtain⟨i,hi,rfl⟩:=AA hb;have:=h i (gf.mpr hi);simpa[List.getD,aN hi]using this
 .intro h i hi;have hi':=gf.mp hi;have:=h bs[i] (ES hi');simpa[List.getD,aN hi']using this
def Al(hc:X.calm=true):cC X (.builtin "all") (λxs H Q=>∃(p:av)(ns:List Bool),xs=[.ref p]/\SqL X.K H p (ns.map V.bl)/\Q (.bl (ns.all id)) H):=by
 intro pins s σ H xs us Q I r h;obtain⟨p,ns,rfl,hq,q⟩:=h;obtain⟨u,rfl,rx⟩:=vals1 r;cases rx;obtain⟨its,rv,pl,hz⟩:=I.list hq;have hlt:p<s.heap.objs.size:=by obtain⟨o,e,_⟩:=pl.isList;exact aJ e
 refine call_all_walk (jO pl.isList ?_)
 refine⟨s.heap.objs.size,[s.heap.objs.size,p],[s.heap.objs.size],its.toArray.size,_,_,λi=>ns.getD i false,rfl,Au (A:=X.A.in1) (I.ok.hd hc) s.heap.objs.size p (aS hlt) its.toArray,
  ⟨⟨_,aV _ rfl,rfl,rfl⟩,?_⟩,λi v s' Q' E' hP hQ=>?_,λh' tk hk=>?_⟩
 .obtain⟨o,e,r⟩:=pl.isList;exact⟨o,ax _ e,r⟩
 .rw[Fi rfl rv i v (by simpa using hP)];exact bW hQ
 .have e:its.toArray.size=ns.length:=by rw[aB,<- rv.length,ak]
  rw[e,wo];exact⟨.bl (ns.all id),H,I.kept (h':=h') (t':=tk) (λb o e=>hk b o (by simp;exact aS (aJ e)) (ax _ e)),rfl,q⟩
def Ag(hc:X.calm=true):cC X (.builtin "sum") (λxs H Q=>∃(p:av)(ns:List Int),xs=[.ref p]/\SqL X.K H p (ns.map V.int)/\Q (.int ns.sum) H):=by
 intro pins s σ H xs us Q I r h;obtain⟨p,ns,rfl,hq,q⟩:=h;obtain⟨u,rfl,rx⟩:=vals1 r;cases rx;obtain⟨its,rv,pl,hz⟩:=I.list hq;have hlt:p<s.heap.objs.size:=by obtain⟨o,e,_⟩:=pl.isList;exact aJ e
 refine call_sum_walkG (jO pl.isList ?_)
 refine⟨s.heap.objs.size,[s.heap.objs.size,p],[s.heap.objs.size],its.toArray.size,_,_,λi=>ns.getD i 0,rfl,Au (A:=X.A.in1) (I.ok.hd hc) s.heap.objs.size p (aS hlt) its.toArray,
  ⟨⟨_,aV _ rfl,rfl,rfl⟩,?_⟩,λb hb=>?_,λi v e=>?_,λh' tk t' hk=>?_⟩
 .obtain⟨o,e,r⟩:=pl.isList;exact⟨o,ax _ e,r⟩
 .have:b=s.heap.objs.size\/b=p:=by simpa using hb
  show b<(s.heap.push _).objs.size;rw[kY];rcases this with rfl|rfl
  .exact HX _
  .exact jh hlt
 .exact uv rfl rv i v (by simpa using e)
 .refine⟨.int ns.sum,H,I.kept (h':=h') (t':=tk) λb o e=>?_,⟨t',?_⟩,q⟩
  .exact hk b o (by simp;exact aS (aJ e)) (ax _ e)
  .rw[pA];have e:its.toArray.size=ns.length:=by rw[aB,<- rv.length,ak]
   rw[e,gE]
def zx(h:ns≠[]):uy (ns++[v])=if v>uy ns then v else uy ns:=by
 cases ns with
 |nil=>exact absurd rfl h
 |cons n ns =>
  show(ns++[v]).foldl _ n=_;rw[List.foldl_append];rfl
def vD(ns:List Int):∀k,k<ns.length->ns.getD (argBest (λi j=>decide (ns.getD i 0>ns.getD j 0)) k) 0=uy (ns.take (k+1))
 |0,h=>by
  cases ns with
  |nil=>cases h
  |cons n ns=>simp[argBest,uy]
 |k+1,h=>by
  have ih:=vD ns k ∅;have e:ns[k+1]?=some (ns.getD (k+1) 0):=by rw[List.getD_eq_getElem?_getD,aN h];rfl
  have e2:ns.take (k+1+1)=ns.take (k+1)++[ns.getD (k+1) 0]:=by rw[EG,e];rfl
  rw[e2,zx (by cases ns with
   |nil=>cases h
   |cons _ _=>simp),<- ih]
  show ns.getD (if decide (ns.getD (k+1) 0>ns.getD (argBest (λi j=>decide (ns.getD i 0>ns.getD j 0)) k) 0)=true then k+1 else argBest (λi j=>decide (ns.getD i 0>ns.getD j 0)) k) 0=_;by_cases hb:ns.getD (k+1) 0>ns.getD (argBest (λi j=>decide (ns.getD i 0>ns.getD j 0)) k) 0
  .rw[if_pos (decide_eq_true hb),if_pos hb]
  .rw[if_neg (by simpa using hb),if_neg hb]
def Ah(hc:X.calm=true):cC X (.builtin "max") (λxs H Q=>∃(p:av)(ns:List Int),xs=[.ref p]/\ns≠[]/\SqL X.K H p (ns.map V.int)/\Q (.int (uy ns)) H):=by
 intro pins s σ H xs us Q I r h;obtain⟨p,ns,rfl,hne,hq,q⟩:=h;obtain⟨u,rfl,rx⟩:=vals1 r;cases rx;obtain⟨its,rv,pl,hz⟩:=I.list hq;have hlt:p<s.heap.objs.size:=by obtain⟨o,e,_⟩:=pl.isList;exact aJ e
 have hlen:its.toArray.size=ns.length:=by rw[aB,<- rv.length,ak]
 have hpos:0<ns.length:=lJ.mpr hne;have hval:∀i v,its.toArray[i]?=some v->∃t,v=nY (ns.getD i 0) t:=λi v e=>uv rfl rv i v (by simpa using e);refine call_max_walk (jO pl.isList ?_)
 refine⟨s.heap.objs.size,[s.heap.objs.size,p],[s.heap.objs.size],its.toArray.size,_,_,λi j=>decide (ns.getD i 0>ns.getD j 0),rfl,Au (A:=X.A.in1) (I.ok.hd hc) s.heap.objs.size p (aS hlt) its.toArray,
  ⟨⟨_,aV _ rfl,rfl,rfl⟩,?_⟩,λb hb=>?_,by rw[hlen];exact hpos,CmpOf.ints_gt (λi=>ns.getD i 0) hval,λv h' tk hv hk=>?_⟩
 .obtain⟨o,e,r⟩:=pl.isList;exact⟨o,ax _ e,r⟩
 .have:b=s.heap.objs.size\/b=p:=by simpa using hb
  show b<(s.heap.push _).objs.size;rw[kY];rcases this with rfl|rfl
  .exact HX _
  .exact jh hlt
 .refine⟨.int (uy ns),H,I.kept (h':=h') (t':=tk) λb o e=>?_,?_,q⟩
  .exact hk b o (by simp;exact aS (aJ e)) (ax _ e)
  .obtain⟨t,rfl⟩:=hval _ _ hv;refine⟨t,?_⟩;rw[vD ns _ ∅,hlen,show ns.length-1+1=ns.length by lia,gE]
def Ek{prog:aP}{w:bA}{A:bB}{E:ai->au->Prop}{s:au}{t b:av}{ws:List ai}{Q:ai->au->Prop}(ht:Ic s.heap t ([]:List ai).toArray)(hb:Ic s.heap b ws.toArray)(h:Q (.ref b) s):wpAny (model prog w) A (binaryOp .Add (.ref t) (.ref b)) Q E s:=by
 obtain⟨⟨cls,dd,data,sl⟩,ho,hc,n,hd⟩:=id ht;obtain⟨⟨cls2,dd2,data2,sl2⟩,ho2,hc2,n2,hd2⟩:=id hb;simp only at hc hd hc2 hd2;subst hc hd hc2 hd2;exact ED ⟨_,ho,rfl⟩ ⟨_,ho2,rfl⟩ kI oJ PySem.F.slot_tuple_add PySem.F.entry_tuple_add (PySem.F.args_tuple_add_2 _ _) (tuple_addW0 t b _ ws.toArray n n2 dd dd2 sl sl2 rfl) ⟨ho,ho2,h⟩
def GH:OpR X (binaryOp .Add) (λx y H Q=>∃a b ys,x=.ref a/\y=.ref b/\SqT X.K H a []/\SqT X.K H b ys/\Q (.ref b) H):=by
 intro pins s σ H x y v u Q I rx ry h;obtain⟨a,b,ys,rfl,rfl,ha,hb,q⟩:=h;cases rx;cases ry;obtain⟨its,r1,p1,_⟩:=I.tuple ha;obtain⟨its2,r2,p2,_⟩:=I.tuple hb;cases r1;exact Ek p1 p2 ⟨.ref b,H,I,rfl,q⟩
def tyName:Blt->Option String
 |.isStr=>some "str"
 |_=>none
def Ld(I:Inv X pins σ H s)(h:cZ X.K H F (.lst ds) v)(r:RelV v u):∃l its,u=.ref l/\s.heap.IsList l its:=by
 rcases h with h|⟨a,xs,_,_,rfl,h1,_⟩
 .unfold Rel at h;obtain⟨a,xs,rfl,h1,_⟩:=h;obtain⟨its,_,p,_⟩:=I.list h1.sq;exact⟨a,_,r,p.isList⟩
 .obtain⟨its,_,p,_⟩:=I.list (.inl (.inl h1));exact⟨a,_,r,p.isList⟩
def Lc(I:Inv X pins σ H s)(h:cZ X.K H F (.tup ds) v)(r:RelV v u):∃l its,u=.ref l/\s.heap.IsTuple l its:=by
 rcases h with h|⟨a,xs,_,e,_⟩
 .unfold Rel at h;obtain⟨a,xs,rfl,h1,_⟩:=h;obtain⟨its,_,p,_⟩:=I.tuple h1;exact⟨a,_,r,p⟩
 .cases e
def El(hT:tyName f=some T):cC X (.builtin "isinstance") (λxs H Q=>∃F d x b,cZ X.K H F d x/\xs=[x,.ty T]/\gY f [d]=some (.bl b)/\Q (.bl b) H):=by
 intro pins s σ H xs us Q I r h;obtain⟨F,d,x,b,hr,rfl,hb,q⟩:=h;obtain⟨u,w',rfl,ru,rw'⟩:=vals2 r;cases(show w'=Value.type T from rw');have fin:∀tk,EP X pins σ Q (.bool b) {s with toks:=tk}:=λtk=>⟨.bl b,H,I.tok tk,rfl,q⟩
 cases d with
 |non=>have rd:=fj I hr ru (by unfold dep;lia);unfold RdV at rd;subst rd;cases f<;>simp[tyName]at hT<;>subst hT<;>simp[gY,fU]at hb<;>subst hb<;>exact PySem.W.kia_one PySem.W.kitx_none I.kIn fO rfl (λz=>nomatch z) fin
 |bl y=>have rd:=fj I hr ru (by unfold dep;lia);unfold RdV at rd;subst rd;cases f<;>simp[tyName]at hT<;>subst hT<;>simp[gY,fU]at hb<;>subst hb<;>exact PySem.W.kia_one PySem.W.kitx_bool I.kIn fO rfl (λz=>nomatch z) fin
 |int y=>have rd:=fj I hr ru (by unfold dep;lia);unfold RdV at rd;obtain⟨t,rfl⟩:=rd;cases f<;>simp[tyName]at hT<;>subst hT<;>simp[gY,fU]at hb<;>subst hb<;>exact PySem.W.kia_one PySem.W.kitx_int I.kIn fO rfl (λz=>nomatch z) fin
 |str y=>have rd:=fj I hr ru (by unfold dep;lia);unfold RdV at rd;obtain⟨t,rfl⟩:=rd;cases f<;>simp[tyName]at hT<;>subst hT<;>simp[gY,fU]at hb<;>subst hb<;>exact PySem.W.kia_one PySem.W.kitx_str I.kIn fO rfl (λz=>nomatch z) fin
 |lst y =>
  obtain⟨l,its,rfl,⟨o,h1,h2,_⟩⟩:=Ld I hr ru
  cases f<;>simp[tyName]at hT<;>subst hT<;>simp[gY,fU]at hb<;>subst hb<;>exact PySem.W.kia_one PySem.W.kitx_list I.kIn ⟨o,h1,h2⟩ rfl (λz=>nomatch z) fin
 |tup y =>
  obtain⟨l,its,rfl,⟨o,h1,h2,_⟩⟩:=Lc I hr ru
  cases f<;>simp[tyName]at hT<;>subst hT<;>simp[gY,fU]at hb<;>subst hb<;>exact PySem.W.kia_one PySem.W.kitx_tuple I.kIn ⟨o,h1,h2⟩ rfl (λz=>nomatch z) fin
 |fn _ _=>cases f<;>simp[tyName]at hT<;>simp[gY,fU]at hb
 |dct ks ds =>
  obtain⟨l,rfl,hty⟩:∃l,u=.ref l/\s.TypeIs (.ref l) "dict":=by
   rcases hr with h|⟨a,xs,_,e,_⟩
   .unfold Rel at h;obtain⟨a,vs,rfl,h1,_⟩:=h;exact⟨a,ru,(DC I (.inl ⟨_,h1⟩)).1⟩
   .cases e
  obtain⟨o,h1,h2⟩:=hty;cases f<;>simp[tyName]at hT<;>subst hT<;>simp[gY,fU]at hb<;>subst hb<;>exact PySem.W.kia_one PySem.W.kitx_dict I.kIn ⟨o,h1,h2⟩ rfl (λz=>nomatch z) fin
def Its(x:Str):L2.It:=⟨λi _=>i<x.cps.size,λi H v H'=>H'=H/\∃c,x.cps[i]?=some c/\v=.str ⟨#[c]⟩,λi _=>i=x.cps.size⟩
def oU{P:aP}{w:bA}{K:PySem.W.Frag}{tg:aE}{it:av}{n:Nat}{PV:Nat->ai->Prop}{St:Nat->bV->Prop}{J:L2.It}{ty:String}
 (W:∀A:bB,A.handled=none->Walks P w A it [it] [it] n PV St)(hst:∀i h,St i h->∃(o:Obj)(vs:Array ai),h.get? it=some o/\o.cls=.type ty/\o.data=.fields vs)
 (hn:["enumerate","zip","dict_itemiterator","dict_reverseitemiterator","odict_iterator","itertools.zip_longest","itertools.pairwise"].contains ty=false)
 (go:∀i H,J.go i H->i<n)(stop:∀i H,J.stop i H->i=n)(yld:∀i v H,PV i v->∃x,RelV x v/\J.yld i H x H)
 (self:∀(A:bB)(i:Nat)(s:au)(Q:ai->au->Prop)(E:ai->au->Prop),St i s.heap->Q (.ref it) s->wpAny (model P w) A (pyIter (.ref it)) Q E s) :
 Turn P w K tg J [it] it St where
 mem:=by simp
 obj:=λi h st b hb=>by
  have e:b=it:=by simpa using hb
  subst e;obtain⟨o,vs,e,c,d⟩:=hst i h st;exact⟨o,e,λv z=>by rw[d]at z;cases z⟩
 keep:=λi h h' st k=>(W { } rfl).frame i h h' st k
 item:=by
  intro X hP hw hK hc i pins s σ H E I hf st hg;subst hP hw hK;obtain⟨f0,f1,f2,f3,f4,f5⟩:=hf it ↥0;refine(W X.A (I.ok.hd hc)).item i s _ _ (go i H hg) st λv h' tk hv st' kk=>?_;have I1:Inv X pins σ H {s with heap:=h',toks:=tk}:=I.turned (λb o hb e=>kk b o (by simpa using hb) e) f0 f1 f3 f4 f5;obtain⟨o,vs,e,c,d⟩:=hst _ _ st';obtain⟨x,r,y⟩:=yld i v H hv;exact⟨v,rfl,vv (s:={s with heap:=h',toks:=tk}) e c d hn ⟨x,H,I1,r,y,st',λb hb=>(hf b hb).1⟩⟩
 done:=by
  intro X hP hw hK hc i pins s σ H E I hf st hg;subst hP hw hK;obtain⟨f0,f1,f2,f3,f4,f5⟩:=hf it ↥0;have e:=stop i H hg;subst e;exact(W X.A (I.ok.hd hc)).done s _ _ st λh' tk kk=>⟨rfl,I.turned (λb o hb e=>kk b o (by simpa using hb) e) f0 f1 f3 f4 f5⟩
 self:=self
def Br{P:aP}{w:bA}{K:PySem.W.Frag}{tg:aE}(it:av)(x:Str)(t:Tok):Turn P w K tg (Its x) [it] it (λi h=>h.IsStrIter it (strIterType x) x t i):=by
 unfold strIterType;split
 .exact oU (ty:="str_ascii_iterator") (λA hA=>Walks.strAscii hA it x t) (λi h⟨o,e,c,d⟩=>⟨o,_,e,c,d⟩) ⇑0 (λi H z=>z) (λi H z=>z) (λi v H⟨c,u,h1,h2⟩=>⟨.str ⟨#[c]⟩,⟨u,h2⟩,rfl,c,h1,rfl⟩) λ_ _ _ _ _ st h=>wpAny_pyIter_striter_ascii st h
 .exact oU (ty:="str_iterator") (λA hA=>Walks.strWide hA it x t) (λi h⟨o,e,c,d⟩=>⟨o,_,e,c,d⟩) ⇑0 (λi H z=>z) (λi H z=>z) (λi v H⟨c,u,h1,h2⟩=>⟨.str ⟨#[c]⟩,⟨u,h2⟩,rfl,c,h1,rfl⟩) λ_ _ _ _ _ st h=>wpAny_pyIter_striter_wide st h
end
end PP
end
section
namespace PP
open PySem L2 PyProof.Rows PySem.SeqAt
open AutoSeq1 (wpAny_loadPart')
variable[Tbs]
section
variable{P:aP}{w:bA}{A:bB}{s:au}
end
section
variable{K:PySem.W.Frag}{H:Hp}{F:av->Prop}
def DH{k x:Str}(h:¬k=x):¬(ki k:Key)=ki x:=λe=>h (Sum.inr.inj e)
def vy(x:Str):∀{ks:List Str}{ds:List D}{vs:List V},ks.length=ds.length->aH K H F ds vs ->
 (∀d,kQ ks ds x=some d->∃v,lp (zk ks vs) (.inr x)=some v/\Rel K H F d v)/\(kQ ks ds x=none->lp (zk ks vs) (.inr x)=none)
 |[],ds,vs,_,_=>⟨λd e=>(by unfold kQ at e;cases e),λ_=>(by unfold zk;rfl)⟩
 |k::ks,[],vs,hl,_=>by cases hl
 |k::ks,d::ds,vs,hl,r=>by
  unfold aH at r;obtain⟨v,vs',rfl,r1,r2⟩:=r;have ih:=vy x (lI hl) r2;unfold kQ zk;by_cases h:k=x
  .rw[if_pos h,lR (by rw[h])];exact⟨λd e=>(by cases e;exact⟨v,rfl,r1⟩),λe=>(by cases e)⟩
  .rw[if_neg h,jS (DH h)];exact ih
end
section
variable{X:Cx}{pins:List (av×Obj)}{σ:L2.St}{H:Hp}{s:au}{F:av->Prop}{A:bB}
end
end PP
end
section
namespace PP
open PySem L2 PyProof.Rows PySem.SeqAt PySem.Calls
section
variable{prog:aP}{w:bA}{A:bB}{R:Ma->au->Prop}{I:av}{fp wr:List av}{n:Nat}{P:Nat->ai->Prop}{St:Nat->bV->Prop}
end
variable{X:Cx}[Tbs]
end PP
end
section
namespace PP
open PySem L2 PySem.SeqAt PyProof.Rows PySem.W
open AutoSeq1 (wpAny_loadPart')
open MeetsSeq MeetsSeq2 MeetsSeq3 SeqRoads2
variable[Tbs]
def GG:OpR X (binaryOp .Add) (λx y H Q=>∃l b xs zs,x=.ref l/\y=.ref b/\LsB X.K H l xs/\LsB X.K H b zs/\xs.length+zs.length<=sizeLine/\∀p,H p=none->Q (.ref p) (upd H p (.lst (xs++zs)))):=by
 intro pins s σ H x y v u Q I rx ry h;obtain⟨l,b,xs,zs,rfl,rfl,h1,h2,hz,q⟩:=h;cases rx;cases ry;obtain⟨i1,n1,r1,e1,z1⟩:=h1.obj I;obtain⟨i2,n2,r2,e2,z2⟩:=h2.obj I;have l1:=r1.length;have l2:=r2.length;refine PySem.P.add_list e1 e2 ?_ (by simp only[aB];omega);rw[show i1.toArray++i2.toArray=(i1++i2).toArray by simp];exact⟨.ref _,_,I.lnew (t':=s.toks) (r1.append r2) (by rw[az];omega),rfl,q _ I.fresh⟩
end PP
end
section
namespace PP
open PySem PySem.W PyProof.Rows
section
variable{lt:Nat->Nat->Bool}{n:Nat}
end
section
variable{prog:aP}{w:bA}{A:bB}{E:ai->au->Prop}{s:au}
end
end PP
end
section
namespace PP
open PySem L2 PySem.SeqAt PyProof.Rows PySem.W
variable[Tbs]
section
variable{lt:Nat->Nat->Bool}
end
section
variable{prog:aP}{w:bA}{s:au}
end
end PP
end
section
namespace PP
open PySem
structure Ck where
 N:List Str
 sc:dO
 fns:List (Str×List Str)
 gn:List Str
def zu(sc:dO)(x:Str):Bool:=match sc.names.lookup x with
 |some .local=>true|some .cell=>true|some .free=>true|_=>false
def KQ(sc:dO)(x:Str):Bool:=match sc.names.lookup x with
 |some .local=>true|some .cell=>true|_=>false
def glB(sc:dO)(x:Str):Bool:=match sc.names.lookup x with
 |some .globalImplicit=>true|_=>false
def Di(x:Str):Bool:=!(x==("__debug__":Str))&&!(x==("__classdict__":Str))&&!(x==("__name__":Str))
def dI(c:Ck)(i:Nat)(x:Str):Bool:=decide (c.N[i]?=some x)&&zu c.sc x&&Di x
def fR(c:Ck)(i:Nat)(x:Str):Bool:=decide (c.N[i]?=some x)&&KQ c.sc x&&Di x
def di(c:Ck)(x:Str):Bool:=glB c.sc x&&Di x
def GI:Op->gJ->Bool
 |.add,.Add=>true|.sub,.Sub=>true|.mul,.Mult=>true|.mod,.Mod=>true|.fdiv,.FloorDiv=>true|.pow,.Pow=>true
 |_,_=>false
def jc:Cop->ue->Bool
 |.lt,.Lt=>true|.le,.LtE=>true|.gt,.Gt=>true|.eq,.Eq=>true|.ne,.NotEq=>true|.isin,.In=>true|.notin,.NotIn=>true|.is,.Is=>true
 |_,_=>false
def rA:Blt->Str
 |.len=>"len"|.max=>"max"|.toInt=>"int"|.toStr=>"str"|.toTup=>"tuple"|.toLst=>"list"|.all=>"all"|.sum=>"sum"
 |.isStr=>"isinstance"
def mtN:Mt->Str
 |.split=>"split"|.part=>"partition"|.ends=>"endswith"|.join=>"join"|.index=>"index"|.find=>"find"
def jd:List Str:=["len","min","max","int","str","tuple","list","dict","sum","isinstance","bool","range","sorted","set","zip","any","divmod","reversed","all"]
def iW:Es->Bool
 |.nil=>true
 |.cons e es=>!bj e&&iW es
def qh:Es->Bool
 |.nil=>true
 |.cons e es=>(!bj e||npS es)&&qh es
def DW:Es->Nat
 |.nil=>0
 |.cons _ es=>DW es+1
def st(x:aE):Str:=match x with
 |.Name y _=>y
 |.Attribute _ m _=>m
 |_=>""
def cst(x:aE):Ie:=match x with
 |.Constant v _ _=>v
 |_=>.none
def e1(x:aE):aE:=match x with
 |.BinOp y _ _ _=>y
 |.Compare y _ _ _=>y
 |.UnaryOp _ y _=>y
 |.IfExp t _ _ _=>t
 |.Subscript y _ _=>y
 |.Call f _ _ _=>f
 |.Attribute y _ _=>y
 |.ListComp e _ _ _=>e
 |.SetComp e _ _ _=>e
 |_=>x
def bop(x:aE):gJ:=match x with
 |.BinOp _ o _ _=>o
 |_=>.Add
def e2(x:aE):aE:=match x with
 |.BinOp _ _ z _=>z
 |.IfExp _ y _ _=>y
 |.Subscript _ z _=>z
 |_=>x
def Ot(x:aE):List ue:=match x with
 |.Compare _ os _ _=>os
 |_=>[]
def ls(x:aE):List aE:=match x with
 |.Compare _ _ zs _=>zs
 |.BoolOp _ vs _=>vs
 |.Tuple es _ _=>es
 |.List es _=>es
 |.Call _ as _ _=>as
 |_=>[]
def Ou(x:aE):PySem.BoolOp:=match x with
 |.BoolOp o _ _=>o
 |_=>.And
def po(x:aE):Pos:=match x with
 |.Name _ p=>p
 |.BoolOp _ _ p=>p
 |.Call _ _ _ p=>p
 |.Attribute _ _ p=>p
 |.ListComp _ _ _ p=>p
 |_=>⟨0,0,0,0⟩
def uop(x:aE):PySem.UnaryOp:=match x with
 |.UnaryOp o _ _=>o
 |_=>.Not
def e3(x:aE):aE:=match x with
 |.IfExp _ _ z _=>z
 |_=>x
def o1(x:aE):Option aE:=match x with
 |.Slice l _ _ _=>l
 |_=>none
def o2(x:aE):Option aE:=match x with
 |.Slice _ h _ _=>h
 |_=>none
def o3(x:aE):Option aE:=match x with
 |.Slice _ _ s _=>s
 |_=>none
def kws(x:aE):List dP:=match x with
 |.Call _ _ ks _=>ks
 |_=>[]
def gns(x:aE):List kn:=match x with
 |.ListComp _ gs _ _=>gs
 |.SetComp _ gs _ _=>gs
 |_=>[]
def scp(x:aE)(d:dO):dO:=match x with
 |.ListComp _ _ sc _=>sc
 |.SetComp _ _ sc _=>sc
 |_=>d
def ft:aE->Nat
 |.Name .. => 0
 |.Constant .. => 1
 |.BinOp .. => 2
 |.Compare .. => 3
 |.BoolOp .. => 4
 |.UnaryOp .. => 5
 |.IfExp .. => 6
 |.Tuple .. => 7
 |.List .. => 8
 |.Subscript .. => 9
 |.Slice .. => 10
 |.Call .. => 11
 |.Attribute .. => 12
 |.ListComp .. => 13
 |.SetComp .. => 14
 |.JoinedStr .. => 15
 |.FormattedValue .. => 16
 |.Dict .. => 17
 |_=>99
def Np(x:aE):Nat->Prop
 |0=>∃y p,x=.Name y p
 |1=>∃v n p,x=.Constant v n p
 |2=>∃y o z p,x=.BinOp y o z p
 |3=>∃y os zs p,x=.Compare y os zs p
 |4=>∃o vs p,x=.BoolOp o vs p
 |5=>∃o y p,x=.UnaryOp o y p
 |6=>∃t y z p,x=.IfExp t y z p
 |7=>∃es n p,x=.Tuple es n p
 |8=>∃es p,x=.List es p
 |9=>∃y z p,x=.Subscript y z p
 |10=>∃l u s p,x=.Slice l u s p
 |11=>∃f as ks p,x=.Call f as ks p
 |12=>∃y m p,x=.Attribute y m p
 |13=>∃e gs sc p,x=.ListComp e gs sc p
 |14=>∃e gs sc p,x=.SetComp e gs sc p
 |15=>∃vs p,x=.JoinedStr vs p
 |16=>∃y cv sp p,x=.FormattedValue y cv sp p
 |17=>∃ks vs p,x=.Dict ks vs p
 |_=>True
def DG(x:aE):Np x (ft x):=by
 cases x<;>first|trivial|exact⟨_,_,rfl⟩|exact⟨_,_,_,rfl⟩|exact⟨_,_,_,_,rfl⟩|exact⟨_,_,_,_,_,rfl⟩
def cK(h:((ft x==n)&&b)=true):Np x n/\b=true:=by
 rw[aa]at h;exact⟨eq_of_beq h.1▸DG x,h.2⟩
@[irreducible] noncomputable def cq (x:aE) (k:Str->Bool):Bool:=(ft x==0)&&k (st x)
def aY(h:cq x k=true):∃y p,x=.Name y p/\k y=true:=by
 unfold cq at h;obtain⟨⟨y,p,rfl⟩,h⟩:=cK h;exact⟨y,p,rfl,h⟩
@[irreducible] noncomputable def onC (x:aE) (k:Ie->Bool):Bool:=(ft x==1)&&k (cst x)
def jt(h:onC x k=true):∃v n p,x=.Constant v n p/\k v=true:=by
 unfold onC at h;obtain⟨⟨v,n,p,rfl⟩,h⟩:=cK h;exact⟨v,n,p,rfl,h⟩
@[irreducible] noncomputable def De (x:aE) (k:aE->gJ->aE->Bool):Bool:=(ft x==2)&&k (e1 x) (bop x) (e2 x)
def uX(h:De x k=true):∃y o z p,x=.BinOp y o z p/\k y o z=true:=by
 unfold De at h;obtain⟨⟨y,o,z,p,rfl⟩,h⟩:=cK h;exact⟨y,o,z,p,rfl,h⟩
@[irreducible] noncomputable def qR (x:aE) (k:aE->List ue->List aE->Bool):Bool:=(ft x==3)&&k (e1 x) (Ot x) (ls x)
def fy(h:qR x k=true):∃y os zs p,x=.Compare y os zs p/\k y os zs=true:=by
 unfold qR at h;obtain⟨⟨y,os,zs,p,rfl⟩,h⟩:=cK h;exact⟨y,os,zs,p,rfl,h⟩
@[irreducible] noncomputable def zP (x:aE) (k:PySem.BoolOp->List aE->Pos->Bool):Bool:=(ft x==4)&&k (Ou x) (ls x) (po x)
def kz(h:zP x k=true):∃o vs p,x=.BoolOp o vs p/\k o vs p=true:=by
 unfold zP at h;obtain⟨⟨o,vs,p,rfl⟩,h⟩:=cK h;exact⟨o,vs,p,rfl,h⟩
@[irreducible] noncomputable def CU (x:aE) (k:PySem.UnaryOp->aE->Bool):Bool:=(ft x==5)&&k (uop x) (e1 x)
def oz(h:CU x k=true):∃o y p,x=.UnaryOp o y p/\k o y=true:=by
 unfold CU at h;obtain⟨⟨o,y,p,rfl⟩,h⟩:=cK h;exact⟨o,y,p,rfl,h⟩
@[irreducible] noncomputable def KA (x:aE) (k:aE->aE->aE->Bool):Bool:=(ft x==6)&&k (e1 x) (e2 x) (e3 x)
def yy(h:KA x k=true):∃t y z p,x=.IfExp t y z p/\k t y z=true:=by
 unfold KA at h;obtain⟨⟨t,y,z,p,rfl⟩,h⟩:=cK h;exact⟨t,y,z,p,rfl,h⟩
@[irreducible] noncomputable def jW (x:aE) (k:List aE->Bool):Bool:=(ft x==7)&&k (ls x)
def dH(h:jW x k=true):∃es n p,x=.Tuple es n p/\k es=true:=by
 unfold jW at h;obtain⟨⟨es,n,p,rfl⟩,h⟩:=cK h;exact⟨es,n,p,rfl,h⟩
@[irreducible] noncomputable def CY (x:aE) (k:List aE->Bool):Bool:=(ft x==8)&&k (ls x)
def pE(h:CY x k=true):∃es p,x=.List es p/\k es=true:=by
 unfold CY at h;obtain⟨⟨es,p,rfl⟩,h⟩:=cK h;exact⟨es,p,rfl,h⟩
def dk:aE->List (Option aE)
 |.Dict ks _ _=>ks
 |_=>[]
def dv:aE->List aE
 |.Dict _ vs _=>vs
 |_=>[]
@[irreducible] noncomputable def GO (x:aE) (k:List (Option aE)->List aE->Bool):Bool:=(ft x==17)&&k (dk x) (dv x)
def oA(h:GO x k=true):∃ks vs p,x=.Dict ks vs p/\k ks vs=true:=by
 unfold GO at h;obtain⟨⟨ks,vs,p,rfl⟩,h⟩:=cK h;exact⟨ks,vs,p,rfl,h⟩
@[irreducible] noncomputable def nD (x:aE) (k:aE->aE->Bool):Bool:=(ft x==9)&&k (e1 x) (e2 x)
def gA(h:nD x k=true):∃y z p,x=.Subscript y z p/\k y z=true:=by
 unfold nD at h;obtain⟨⟨y,z,p,rfl⟩,h⟩:=cK h;exact⟨y,z,p,rfl,h⟩
@[irreducible] noncomputable def GK (x:aE) (k:Option aE->Option aE->Option aE->Bool):Bool:=(ft x==10)&&k (o1 x) (o2 x) (o3 x)
def sy(h:GK x k=true):∃l u s p,x=.Slice l u s p/\k l u s=true:=by
 unfold GK at h;obtain⟨⟨l,u,s,p,rfl⟩,h⟩:=cK h;exact⟨l,u,s,p,rfl,h⟩
@[irreducible] noncomputable def sE (x:aE) (k:aE->List aE->List dP->Pos->Bool):Bool:=(ft x==11)&&k (e1 x) (ls x) (kws x) (po x)
def qS(h:sE x k=true):∃f as ks p,x=.Call f as ks p/\k f as ks p=true:=by
 unfold sE at h;obtain⟨⟨f,as,ks,p,rfl⟩,h⟩:=cK h;exact⟨f,as,ks,p,rfl,h⟩
@[irreducible] noncomputable def KD (x:aE) (k:aE->Str->Pos->Bool):Bool:=(ft x==12)&&k (e1 x) (st x) (po x)
def GP(h:KD x k=true):∃y m p,x=.Attribute y m p/\k y m p=true:=by
 unfold KD at h;obtain⟨⟨y,m,p,rfl⟩,h⟩:=cK h;exact⟨y,m,p,rfl,h⟩
@[irreducible] noncomputable def GN (x:aE) (k:aE->List kn->dO->Pos->Bool):Bool:=(ft x==13)&&k (e1 x) (gns x) (scp x default) (po x)
def lZ(h:GN x k=true):∃e gs sc p,x=.ListComp e gs sc p/\k e gs sc p=true:=by
 unfold GN at h;obtain⟨⟨e,gs,sc,p,rfl⟩,h⟩:=cK h;exact⟨e,gs,sc,p,rfl,h⟩
def sls(x:bE):List aE:=match x with
 |.Assign ts _ _=>ts
 |_=>[]
def s1(x:bE):aE:=match x with
 |.Assign _ y _=>y
 |.AugAssign t _ _ _=>t
 |.If t _ _ _=>t
 |.For t _ _ _ _=>t
 |.While t _ _ _=>t
 |.Expr y _=>y
 |_=>.Constant .none 0 ⟨0,0,0,0⟩
def sop(x:bE):gJ:=match x with
 |.AugAssign _ o _ _=>o
 |_=>.Add
def s2(x:bE):aE:=match x with
 |.AugAssign _ _ y _=>y
 |.For _ it _ _ _=>it
 |_=>.Constant .none 0 ⟨0,0,0,0⟩
def so(x:bE):Option aE:=match x with
 |.Return y _=>y
 |_=>none
def sb(x:bE):List bE:=match x with
 |.If _ y _ _=>y
 |.For _ _ y _ _=>y
 |.While _ y _ _=>y
 |_=>[]
def sc2(x:bE):List bE:=match x with
 |.If _ _ z _=>z
 |.For _ _ _ z _=>z
 |.While _ _ z _=>z
 |_=>[]
def rX:bE->Nat
 |.Assign .. => 0
 |.AugAssign .. => 1
 |.Return .. => 2
 |.If .. => 3
 |.For .. => 4
 |.While .. => 5
 |.Expr .. => 6
 |_=>99
def Nn(x:bE):Nat->Prop
 |0=>∃ts y p,x=.Assign ts y p
 |1=>∃t o y p,x=.AugAssign t o y p
 |2=>∃y p,x=.Return y p
 |3=>∃t y z p,x=.If t y z p
 |4=>∃t it y z p,x=.For t it y z p
 |5=>∃t y z p,x=.While t y z p
 |6=>∃y p,x=.Expr y p
 |_=>True
def DF(x:bE):Nn x (rX x):=by
 cases x<;>first|trivial|exact⟨_,_,rfl⟩|exact⟨_,_,_,rfl⟩|exact⟨_,_,_,_,rfl⟩|exact⟨_,_,_,_,_,rfl⟩
def jx(h:((rX x==n)&&b)=true):Nn x n/\b=true:=by
 rw[aa]at h;exact⟨eq_of_beq h.1▸DF x,h.2⟩
@[irreducible] noncomputable def nE (x:bE) (k:List aE->aE->Bool):Bool:=(rX x==0)&&k (sls x) (s1 x)
def iV(h:nE x k=true):∃ts y p,x=.Assign ts y p/\k ts y=true:=by
 unfold nE at h;obtain⟨⟨ts,y,p,rfl⟩,h⟩:=jx h;exact⟨ts,y,p,rfl,h⟩
@[irreducible] noncomputable def Dg (x:bE) (k:aE->gJ->aE->Bool):Bool:=(rX x==1)&&k (s1 x) (sop x) (s2 x)
def Df(h:Dg x k=true):∃t o y p,x=.AugAssign t o y p/\k t o y=true:=by
 unfold Dg at h;obtain⟨⟨t,o,y,p,rfl⟩,h⟩:=jx h;exact⟨t,o,y,p,rfl,h⟩
@[irreducible] noncomputable def yx (x:bE) (k:Option aE->Bool):Bool:=(rX x==2)&&k (so x)
def uV(h:yx x k=true):∃y p,x=.Return y p/\k y=true:=by
 unfold yx at h;obtain⟨⟨y,p,rfl⟩,h⟩:=jx h;exact⟨y,p,rfl,h⟩
@[irreducible] noncomputable def pF (x:bE) (k:aE->List bE->List bE->Bool):Bool:=(rX x==3)&&k (s1 x) (sb x) (sc2 x)
def jY(h:pF x k=true):∃t y z p,x=.If t y z p/\k t y z=true:=by
 unfold pF at h;obtain⟨⟨t,y,z,p,rfl⟩,h⟩:=jx h;exact⟨t,y,z,p,rfl,h⟩
@[irreducible] noncomputable def yz (x:bE) (k:aE->aE->List bE->List bE->Bool):Bool:=(rX x==4)&&k (s1 x) (s2 x) (sb x) (sc2 x)
def uW(h:yz x k=true):∃t it y z p,x=.For t it y z p/\k t it y z=true:=by
 unfold yz at h;obtain⟨⟨t,it,y,z,p,rfl⟩,h⟩:=jx h;exact⟨t,it,y,z,p,rfl,h⟩
@[irreducible] noncomputable def Kz (x:bE) (k:aE->List bE->List bE->Bool):Bool:=(rX x==5)&&k (s1 x) (sb x) (sc2 x)
def GJ(h:Kz x k=true):∃t y z p,x=.While t y z p/\k t y z=true:=by
 unfold Kz at h;obtain⟨⟨t,y,z,p,rfl⟩,h⟩:=jx h;exact⟨t,y,z,p,rfl,h⟩
@[irreducible] noncomputable def Dc (x:bE) (k:aE->Bool):Bool:=(rX x==6)&&k (s1 x)
def sD(h:Dc x k=true):∃y p,x=.Expr y p/\k y=true:=by
 unfold Dc at h;obtain⟨⟨y,p,rfl⟩,h⟩:=jx h;exact⟨y,p,rfl,h⟩
section
variable{α:Type}{xs:List α}
@[irreducible] noncomputable def on0 (xs:List α) (k:Bool):Bool:=match xs with
 |[]=>k
 |_=>false
def dh(h:on0 xs k=true):xs=[]/\k=true:=by
 unfold on0 at h;cases xs<;>first|exact⟨rfl,h⟩|cases h
@[irreducible] noncomputable def onS (xs:List α) (k:α->List α->Bool):Bool:=match xs with
 |y::ys=>k y ys
 |_=>false
def cD(h:onS xs k=true):∃y ys,xs=y::ys/\k y ys=true:=by
 unfold onS at h;cases xs<;>first|exact⟨_,_,rfl,h⟩|cases h
@[irreducible] noncomputable def on1 (xs:List α) (k:α->Bool):Bool:=onS xs λy ys=>on0 ys (k y)
def cy(h:on1 xs k=true):∃y,xs=[y]/\k y=true:=by
 unfold on1 at h;obtain⟨y,ys,rfl,h1⟩:=cD h;obtain⟨rfl,h2⟩:=dh h1;exact⟨y,rfl,h2⟩
@[irreducible] noncomputable def on2 (xs:List α) (k:α->α->Bool):Bool:=onS xs λy ys=>on1 ys (k y)
def fQ(h:on2 xs k=true):∃y z,xs=[y,z]/\k y z=true:=by
 unfold on2 at h;obtain⟨y,ys,rfl,h1⟩:=cD h;obtain⟨z,rfl,h2⟩:=cy h1;exact⟨y,z,rfl,h2⟩
end
@[irreducible] noncomputable def onI (v:Ie) (k:Int->Bool):Bool:=match v with
 |.int i=>k i
 |_=>false
def CZ(h:onI v k=true):∃i,v=.int i/\k i=true:=by
 unfold onI at h;cases v<;>first|exact⟨_,rfl,h⟩|cases h
@[irreducible] noncomputable def onB (v:Ie) (k:Bool->Bool):Bool:=match v with
 |.bool i=>k i
 |_=>false
def KC(h:onB v k=true):∃i,v=.bool i/\k i=true:=by
 unfold onB at h;cases v<;>first|exact⟨_,rfl,h⟩|cases h
@[irreducible] noncomputable def onT (v:Ie) (k:Str->Bool):Bool:=match v with
 |.str i=>k i
 |_=>false
def wF(h:onT v k=true):∃i,v=.str i/\k i=true:=by
 unfold onT at h;cases v<;>first|exact⟨_,rfl,h⟩|cases h
def IE:Ie->Bool
 |.none=>true
 |_=>false
def DA(h:IE v=true):v=.none:=by
 cases v<;>first|rfl|cases h
@[irreducible] noncomputable def kH (x:aE) (k:Str->List aE->Bool):Bool:=sE x λf as ks _=>cq f λn=>on0 ks (k n as)
def dz(h:kH x k=true):∃n np as p,x=.Call (.Name n np) as [] p/\k n as=true:=by
 unfold kH at h;obtain⟨f,as,ks,p,rfl,h1⟩:=qS h;obtain⟨n,np,rfl,h2⟩:=aY h1;obtain⟨rfl,h3⟩:=dh h2;exact⟨n,np,as,p,rfl,h3⟩
@[irreducible] noncomputable def onM (x:aE) (k:aE->Str->List aE->Bool):Bool:=sE x λf as ks cp=>KD f λy m ap=>on0 ks (decide (ap.endLine=cp.line)&&k y m as)
def jX(h:onM x k=true):∃y m ap as cp,x=.Call (.Attribute y m ap) as [] cp/\ap.endLine=cp.line/\k y m as=true:=by
 unfold onM at h;obtain⟨f,as,ks,cp,rfl,h1⟩:=qS h;obtain⟨y,m,ap,rfl,h2⟩:=GP h1;obtain⟨rfl,h3⟩:=dh h2;rw[aa]at h3;exact⟨y,m,ap,as,cp,rfl,of_decide_eq_true h3.1,h3.2⟩
@[irreducible] noncomputable def onG (g:kn) (k:aE->aE->List aE->Bool):Bool:=decide (g.is_async=0)&&k g.target g.iter g.ifs
def wJ(h:onG g k=true):∃t it il,g=⟨t,it,il,0⟩/\k t it il=true:=by
 obtain⟨t,it,il,a⟩:=g;unfold onG at h;rw[aa]at h;have e:a=0:=of_decide_eq_true h.1;subst e;exact⟨t,it,il,rfl,h.2⟩
def Fj:aE->Option (List Str)
 |.Name x _=>some [x]
 |.Tuple es _ _=>es.mapM fun|.Name x _=>some x|_=>none
 |_=>none
def HC(c:Ck):List Nat->List aE->Bool
 |[],es=>on0 es true
 |i::is,es=>onS es λe r=>cq e (λx=>fR c i x)&&HC c is r
def qp(c:Ck):Tg->aE->Bool
 |.nm i,x=>cq x λy=>fR c i y
 |.tp is,x=>jW x λes=>HC c is es
 |.pr i is,x=>jW x λes=>on2 es λa b=>cq a (λy=>fR c i y)&&jW b λes=>HC c is es
def vZ(n:Nat):Tg->Bool
 |.nm i=>decide (n<=i)
 |.tp is=>is.all λi=>decide (n<=i)
 |.pr i is=>decide (n<=i)&&is.all λi=>decide (n<=i)
def ma(ts:List Str)(N:List Str):List Str:=N.map λy=>if ts.contains y then y++(" ":Str)else y
def lW(c:Ck)(sc:dO):Bool :=
 decide (sc.kind=.function)&&sc.names.all λp=>decide (p.2≠.cell)&&(!decide (p.2=.local)||decide (sc.names.lookup p.1=some .local)) &&
  (!decide (p.2=.free)||(match c.sc.names.lookup p.1 with|some .cell=>true|some .free=>true|_=>false))
def namesOk(c:Ck)(sc:dO)(Nc:List Str):Bool :=
 decide Nc.Nodup&&(dW c.N.length).all λi=>match Nc[i]? with
  |some x=>!zu sc x||(decide (c.N[i]?=some x)&&decide (sc.names.lookup x=some .free))
  |none=>false
def ID:PySem.UnaryOp->Bool
 |.Not=>true
 |_=>false
def isNeg:PySem.UnaryOp->Bool
 |.USub=>true
 |_=>false
def vq(h:ID o=true):o=.Not:=by cases o<;>first|rfl|cases h
def DB(h:isNeg o=true):o=.USub:=by cases o<;>first|rfl|cases h
@[irreducible] noncomputable def onO (x:Option aE) (k:aE->Bool):Bool:=match x with
 |some y=>k y
 |none=>false
def lr(h:onO x k=true):∃y,x=some y/\k y=true:=by
 unfold onO at h
 cases x with
 |none=>cases h
 |some y=>exact⟨y,rfl,h⟩
def Nk(x:aE):Bool:=ft x==9
def Oi(x:aE):Bool:=ft x==17
def LA:List (Str×Int)->List (Option aE)->List aE->Bool
 |[],ks,vs=>on0 ks (on0 vs true)
 |p::l,ks,vs=>onS ks λk ks=>onS vs λv vs=>onO k λk=>onC k λa=>onT a λt=>onC v λb=>onI b λi=>decide (t=p.1)&&(decide (i=p.2)&&LA l ks vs)
def dY:aE->Bool
 |.Name .. |.Constant .. |.BinOp .. |.Compare .. |.BoolOp .. |.UnaryOp .. |.IfExp .. |.Tuple .. |.List .. |.Subscript .. |.Call .. |.ListComp .. => true
 |.JoinedStr .. => true
 |.Dict .. => true
 |_=>false
variable[Tbs]
def Nj(x:aE):Bool:=ft x==7
mutual
noncomputable def ckE(c:Ck):E->aE->Bool
 |.var i,x=>cq x λy=>dI c i y
 |.pk i,x=>cq x λy=>dI c i y
 |.glob g,x=>cq x λy=>decide (c.gn[g]?=some y)&&di c y
 |.int i,x=>onC x λv=>onI v λj=>decide (i=j)
 |.bl b,x=>onC x λv=>onB v λj=>decide (b=j)
 |.non,x=>onC x IE
 |.str t,x=>onC x λv=>onT v λu=>decide (t=u)
 |.bin op a b,x=>De x λy o z=>GI op o&&ckE c a y&&ckE c b z&&(!bj a||np b)
 |.cmp op a b,x=>qR x λy os zs=>on1 os λo=>on1 zs λz=>jc op o&&ckE c a y&&ckE c b z&&(!bj a||np b)
 |.and a b,x=>zP x λo vs p=>onS vs λy r=>onS r λz r2=>(match o with
  |.And=>true
  |.Or=>false)&&ckE c a y&&ckE c b (match r2 with
  |[]=>z
  |_::_=>.BoolOp .And (z::r2) p)&&!bj a&&!bj b
 |.or a b,x=>zP x λo vs p=>onS vs λy r=>onS r λz r2=>(match o with
  |.And=>false
  |.Or=>true)&&ckE c a y&&ckE c b (match r2 with
  |[]=>z
  |_::_=>.BoolOp .Or (z::r2) p)&&!bj a&&!bj b
 |.not a,x=>CU x λo y=>ID o&&ckE c a y&&!bj a
 |.neg a,x=>CU x λo y=>isNeg o&&ckE c a y&&!bj a
 |.ite k a b,x=>KA x λt y z=>ckE c k t&&ckE c a y&&ckE c b z&&!bj a&&!bj b
 |.tup es,x=>jW x λxs=>iP c es xs&&iW es
 |.lst es,x=>CY x λxs=>iP c es xs&&iW es
 |.ix a b,x=>nD x λy z=>ckE c a y&&ckE c b z&&(!bj a||np b)&&!bj b
 |.rvl a hi s,x=>nD x λy z=>GK z λl h t=>l.isNone&&(ckE c a y&&(ckO c hi h&&(ckO c s t&&!bj a)))
 |.dcc l,x=>GO x λks vs=>decide (l.map iH).Nodup&&(decide (l.length<=15)&&(!l.isEmpty&&LA l ks vs))
 |.dsv i j,x=>GO x λks vs=>on1 ks λk=>on1 vs λv=>onO k λk=>cq k λy=>cq v λz=>dI c i y&&dI c j z
 |.sl a lo hi,x=>nD x λy z=>GK z λl h s=>s.isNone&&(ckE c a y&&ckO c lo l&&ckO c hi h&&(!bj a||(npO lo&&npO hi)))
 |.call f es,x=>kH x λn xs=>(match c.fns[f]? with
   |some (m,ps)=>decide (m=n)&&di c n&&decide (ps.length=DW es)&&iP c es xs&&iW es&&!xs.isEmpty
   |none=>false)
 |.blt f es,x=>kH x λn xs=>decide (rA f=n)&&di c n&&(match tyName f with
   |some T=>on2 xs λy w=>cq w λt=>decide (t=(T:Str))&&di c t&&iP c es [y]&&qh es
   |none=>!xs.isEmpty&&iP c es xs&&qh es)
 |.pop i,x=>onM x λy m as=>cq y λy=>on0 as (decide (m=("pop":Str))&&dI c i y)
 |.bad,x=>dY x
 |.popi i j,x=>onM x λy m as=>cq y λy=>on1 as λz=>decide (m=("pop":Str))&&dI c i y&&ckE c j z&&!bj j
 |.gin ng n l e,x=>qR x λy os zs=>on1 os λo=>on1 zs λz=>cq z λm=>decide (m=n)&&di c m&&decide (Tbs.gds.lookup m=some l)&&jc (if ng then .notin else .isin) o&&ckE c e y&&!bj e
 |.gix n l e,x=>nD x λy z=>cq y λm=>decide (m=n)&&di c m&&decide (Tbs.gds.lookup m=some l)&&ckE c e z&&!bj e
 |.mt m a b,x=>onM x λy n as=>on1 as λz=>decide (n=mtN m)&&ckE c a y&&ckE c b z&&!bj a&&!bj b&&(ft y==0||ft y==1||ft y==9)
 |.chn o1 o2 a b e,x=>qR x λy os zs=>on2 os λq1 q2=>on2 zs λz w=>jc o1 q1&&jc o2 q2&&ckE c a y&&ckE c b z&&ckE c e w&&!bj a&&!bj b&&!bj e
 |.dgt a b e,x=>onM x λy m as=>on2 as λu v=>decide (m=("get":Str))&&ckE c a y&&ckE c b u&&ckE c e v&&!bj a&&!bj b&&!bj e&&(Nk y||Oi y)
 |.comp k tg src ifs elt,x=>GN x λex gs sc _=>on1 gs λg=>onG g λt it il=>(match Fj t with
   |some ts=>decide (ts.length=k)&&vZ c.N.length tg&&lW c sc&&namesOk c sc (ma ts c.N++ts)&&qp ⟨ma ts c.N++ts,sc,c.fns,c.gn⟩ tg t&&ckI c src t it &&
     ckG ⟨ma ts c.N++ts,sc,c.fns,c.gn⟩ ifs il&&ckE ⟨ma ts c.N++ts,sc,c.fns,c.gn⟩ elt ex&&!bj elt
   |none=>false)
noncomputable def iP(c:Ck):Es->List aE->Bool
 |.nil,xs=>on0 xs true
 |.cons e es,xs=>onS xs λy ys=>ckE c e y&&iP c es ys
noncomputable def ckO(c:Ck):Eo->Option aE->Bool
 |.no,x=>x.isNone
 |.yes e,x=>onO x λy=>ckE c e y&&!bj e
noncomputable def ckG(c:Ck):Eo->List aE->Bool
 |.no,x=>on0 x true
 |.yes e,x=>on1 x λy=>ckE c e y
noncomputable def ckI(c:Ck):It->aE->aE->Bool
 |.rng e,_,x=>kH x λn xs=>on1 xs λy=>decide (n=("range":Str))&&di c n&&ckE c e y&&!bj e
 |.rev e,_,x=>kH x λn xs=>on1 xs λy=>decide (n=("reversed":Str))&&di c n&&ckE c e y&&!bj e
 |.sq e,_,x=>ckE c e x&&!bj e
end
def fJ(h:iP c es (y::ys)=true):∃e es',es=.cons e es'/\ckE c e y=true/\iP c es' ys=true:=by
 cases es with
 |nil=>cases(dh h).1
 |cons e es =>
  obtain⟨_,_,q,h'⟩:=cD h;cases q;rw[aa]at h';exact⟨e,es,rfl,h'⟩
def uB(h:qp c tg t=true):(∃x p,t=.Name x p)\/∃es n p,t=.Tuple es n p:=by
 cases tg with
 |nm i=>obtain⟨x,p,rfl,_⟩:=aY h;exact .inl ⟨x,p,rfl⟩
 |tp is=>obtain⟨es,n,p,rfl,_⟩:=dH h;exact .inr ⟨es,n,p,rfl⟩
 |pr i is=>obtain⟨es,n,p,rfl,_⟩:=dH h;exact .inr ⟨es,n,p,rfl⟩
def hdN(h:cq x k=true):dY x=true:=by obtain⟨_,_,rfl,_⟩:=aY h;rfl
def hdC(h:onC x k=true):dY x=true:=by obtain⟨_,_,_,rfl,_⟩:=jt h;rfl
def hdF(h:kH x k=true):dY x=true:=by obtain⟨_,_,_,_,rfl,_⟩:=dz h;rfl
def hdM(h:onM x k=true):dY x=true:=by obtain⟨_,_,_,_,_,rfl,_⟩:=jX h;rfl
def hdB(h:zP x k=true):dY x=true:=by obtain⟨_,_,_,rfl,_⟩:=kz h;rfl
def hdU(h:CU x k=true):dY x=true:=by obtain⟨_,_,_,rfl,_⟩:=oz h;rfl
def hdS(h:nD x k=true):dY x=true:=by obtain⟨_,_,_,rfl,_⟩:=gA h;rfl
def bo(h:ckE c e x=true):dY x=true:=by
 cases e with
 |var i=>exact hdN h
 |pk i=>exact hdN h
 |glob g=>exact hdN h
 |int i=>exact hdC h
 |bl b=>exact hdC h
 |non=>exact hdC h
 |str t=>exact hdC h
 |bin op a b=>obtain⟨_,_,_,_,rfl,_⟩:=uX h;rfl
 |cmp op a b=>obtain⟨_,_,_,_,rfl,_⟩:=fy h;rfl
 |and a b=>exact hdB h
 |or a b=>exact hdB h
 |not a=>exact hdU h
 |neg a=>exact hdU h
 |ite k a b=>obtain⟨_,_,_,_,rfl,_⟩:=yy h;rfl
 |tup es=>obtain⟨_,_,_,rfl,_⟩:=dH h;rfl
 |lst es=>obtain⟨_,_,rfl,_⟩:=pE h;rfl
 |ix a b=>exact hdS h
 |sl a lo hi=>exact hdS h
 |rvl a h' s=>exact hdS h
 |dcc l=>obtain⟨_,_,_,rfl,_⟩:=oA h;rfl
 |dsv i j=>obtain⟨_,_,_,rfl,_⟩:=oA h;rfl
 |call f es=>exact hdF h
 |blt f es=>exact hdF h
 |pop i=>exact hdM h
 |popi i j=>exact hdM h
 |bad=>exact h
 |gin ng n l e=>obtain⟨_,_,_,_,rfl,_⟩:=fy h;rfl
 |gix n l e=>obtain⟨_,_,_,rfl,_⟩:=gA h;rfl
 |mt m a b=>exact hdM h
 |chn o1 o2 a b e=>obtain⟨_,_,_,_,rfl,_⟩:=fy h;rfl
 |dgt a b e=>exact hdM h
 |comp k tg src ifs elt=>obtain⟨_,_,_,_,rfl,_⟩:=lZ h;rfl
def br(h:dY x=true)(xs:List aE)(env:Env):starEach (x::xs) env=(false,eval x env)::starEach xs env:=by
 cases x<;>first|rfl|(exact absurd h aq)
def DK(h:dY x=true)(env:Env)(v:ai):foldedSetIterable x env v=pure v:=by
 cases x<;>first|rfl|(exact absurd h aq)
def kB(h:dY x=true)(op:ue):behindInMarks op x=false:=by
 cases x<;>first|rfl|(exact absurd h aq)
def yJ(h:dY x=true):L2.PlainIx x:=by
 intro o i;cases x<;>first|rfl|(exact absurd h aq)
def jZ:aE->Bool
 |.ListComp .. => true
 |_=>false
def head_swaps(h:dY x=true)(hc:jZ x=false)(t:Option aE)(n:Nat)(env:Env):swapsWith x t n env=pure false:=by
 cases x<;>first|rfl|(exact absurd h aq)|(exact absurd hc.symm aq)
def DD:E->Bool
 |.comp .. => true
 |_=>false
@[irreducible] noncomputable def wH (x:aE) (k:Str->Pos->Bool):Bool:=(ft x==0)&&k (st x) (po x)
def lY(h:wH x k=true):∃y p,x=.Name y p/\k y p=true:=by
 unfold wH at h;obtain⟨⟨y,p,rfl⟩,h⟩:=cK h;exact⟨y,p,rfl,h⟩
def newOk:E->Bool
 |.lst _=>true
 |.blt .toLst _=>true
 |.sl _ _ _=>true
 |.mt .split _ _=>true
 |_=>false
def isNm(x:aE):Bool:=ft x==0
def MW(c:Ck)(i j:Nat)(es:Es)(t y:aE):Bool:=jW t λus=>on2 us λu v=>wH u λx px=>wH v λz pz=>jW y λvs=>on2 vs λa b =>
 decide (c.N[i]?=some x)&&decide (c.N[j]?=some z)&&decide (c.sc.names.lookup x=some .local)&&decide (c.sc.names.lookup z=some .local)&&decide (x≠z)&&decide (px.line=pz.line)&&iP c es [a,b]&&iW es&&!(foldedForSure 8 a&&foldedForSure 8 b)&&!(constantsAlone 8 a&&constantsAlone 8 b)
def Iv(c:Ck)(tg:Tg)(e:E)(t y:aE):Bool:=match tg,e with
 |.tp [i,j],.tup es=>MW c i j es t y
 |_,_=>false
def MV(c:Ck)(t:aE):Bool:=jW t λus=>on2 us λu v=>wH u λx _=>wH v λ_ _=>decide (c.sc.names.lookup x≠some .local)
mutual
noncomputable def ckS(c:Ck):S->bE->Bool
 |.asg tg e,x=>nE x λts y=>on1 ts λt=>qp c tg t&&ckE c e y&&!bj e&&!jZ y&&(isNm t||!Nj y||MV c t||Iv c tg e t y)
 |.new i e,x=>nE x λts y=>on1 ts λt=>cq t λt=>fR c i t&&ckE c e y&&!jZ y&&newOk e
 |.cmp own i e,x=>DD e&&nE x λts y=>on1 ts λt=>wH t λt tp=>GN y λex gs sc p=>fR c i t&&ckE c e (.ListComp ex gs sc p)&&((decide (c.sc.names.lookup t=some .local)&&decide (tp.line=p.line)&&!(sc.names.any λ(n,k)=>n==t&&(k==.local||k==.cell)))||(!own&&decide (c.sc.names.lookup t=some .cell)))
 |.aug i op e,x=>Dg x λt o y=>cq t λt=>fR c i t&&GI op o&&ckE c e y&&!bj e
 |.ret e,x=>yx x λy=>onO y λy=>ckE c e y&&!bj e
 |.ifs k a b,x=>pF x λt y z=>ckE c k t&&nV c a y&&nV c b z
 |.for_ tg src body,x=>yz x λt it y z=>on0 z (qp c tg t&&ckI c src t it&&nV c body y)
 |.while_ k body,x=>Kz x λt y z=>on0 z (ckE c k t&&nV c body y)
 |.ins i es,x=>Dc x λw=>onM w λy m as=>cq y λy=>on2 as λu v=>decide (m=("insert":Str))&&dI c i y&&iP c es [u,v]&&iW es
 |.append i e,x=>Dc x λw=>onM w λy m as=>cq y λy=>on1 as λz=>decide (m=("append":Str))&&dI c i y&&ckE c e z&&!bj e
 |.setix i j e,x=>nE x λts y=>on1 ts λt=>nD t λw z=>cq w λt=>dI c i t&&ckE c e y&&!bj e&&!jZ y&&ckE c j z&&!bj j
 |.opq _,_=>false
 |.bad,_=>true
noncomputable def nV(c:Ck):Ss->List bE->Bool
 |.nil,xs=>on0 xs true
 |.cons s ss,xs=>onS xs λy ys=>ckS c s y&&nV c ss ys
end
end PP
end
section
namespace PP
open PySem L2 PyProof.Rows
variable[Tbs]
def ND(K:PySem.W.Frag)(G:Gh)(F:av->Prop)(σ:L2.St)(H:Hp)(m nP:Bool)(d:D)(δ':Loc)(Q:VK):Prop :=
 ∀v H' F',Step G F H F' H'->(nP=true->Sim H H')->Ok K G F' σ H' δ'->RelM m K H' F' d v->Q v H'
def tE(K:PySem.W.Frag)(cx:Cl)(e:E):TE:=λσ H Q=>∃G F δ d δ',Ok K G F σ H δ/\evE cx e δ=some (d,δ')/\ND K G F σ H (bj e) (np e) d δ' Q
def tT(K:PySem.W.Frag)(cx:Cl)(e:E):TT:=λσ H Q=>∃G F δ b δ',Ok K G F σ H δ/\evT cx e δ=some (b,δ') /\
 ∀H' F',Step G F H F' H'->(np e=true->Sim H H')->Ok K G F' σ H' δ'->Q b H'
def nJ(K:PySem.W.Frag)(H:Hp)(F:av->Prop):Es->List D->List V->Prop
 |.nil,ds,vs=>ds=[]/\vs=[]
 |.cons e es,ds,vs=>∃d ds' v vs',ds=d::ds'/\vs=v::vs'/\RelM (bj e) K H F d v/\nJ K H F es ds' vs'
def tEs(K:PySem.W.Frag)(cx:Cl)(es:Es):TA:=λσ H Q=>∃G F δ ds δ',Ok K G F σ H δ/\cS cx es δ=some (ds,δ') /\
 ∀vs H' F',Step G F H F' H'->(npS es=true->Sim H H')->Ok K G F' σ H' δ'->nJ K H' F' es ds vs->Q vs H'
def tO(K:PySem.W.Frag)(cx:Cl)(o:Eo):TO:=λσ H Q=>∃G F δ d δ',Ok K G F σ H δ/\evO cx o δ=some (d,δ') /\
 ∀H' F',Step G F H F' H'->(npO o=true->Sim H H')->Ok K G F' σ H' δ'->Q d H'
def tG(K:PySem.W.Frag)(cx:Cl)(o:Eo):TT:=λσ H Q=>∃G F δ b δ',Ok K G F σ H δ/\evG cx o δ=some (b,δ') /\
 ∀H' F',Step G F H F' H'->(npO o=true->Sim H H')->Ok K G F' σ H' δ'->Q b H'
def Wk(K:PySem.W.Frag)(G:Gh)(F:av->Prop)(H:Hp)(J:L2.It)(ds:List D):Prop:=∀F2 H2,Step G F H F2 H2->FD F2 H2->∀i:Nat,
 (∀d,ds[i]?=some d->J.go i H2/\∀x H3,J.yld i H2 x H3->fA H2 H3/\Rel K H3 F2 d x)/\(i=ds.length->J.stop i H2)
def tI(K:PySem.W.Frag)(cx:Cl)(t:It):TI:=λσ H R=>∃G F δ ds δ',Ok K G F σ H δ/\evI cx t δ=some (ds,δ') /\
 ∀J H' F',Step G F H F' H'->(npI t=true->Sim H H')->Ok K G F' σ H' δ'->(∀G',Wk K G' F' H' J ds)->R J H'
section
variable{K:PySem.W.Frag}{cx:Cl}{X:Cx}
def PE.imp(h:PE X e t)(w:∀σ H Q,t' σ H Q->t σ H Q):PE X e t':=λpins s σ H Q I q=>h pins s σ H Q I (w σ H Q q)
def PT.imp(h:PT X e t)(w:∀σ H Q,t' σ H Q->t σ H Q):PT X e t':=λpins s σ H Q I q=>h pins s σ H Q I (w σ H Q q)
def two{a b:E}{σ:L2.St}{G:Gh}{H:Hp}{F:av->Prop}{δ δ1 δ2:Loc}{x y:D}(ok:Ok K G F σ H δ)(ea:evE cx a δ=some (x,δ1))(eb:evE cx b δ1=some (y,δ2))(pc:(!bj a||np b)=true){R:V->V->Hp->Prop}
 (k:∀v u H2 F2,Step G F H F2 H2->((np a&&np b)=true->Sim H H2)->Ok K G F2 σ H2 δ2->RelM (bj a) K H2 F2 x v->RelM (bj b) K H2 F2 y u->R v u H2) :
 tE K cx a σ H λv H1=>tE K cx b σ H1 λu H2=>R v u H2:=by
 refine⟨G,F,δ,x,δ1,ok,ea,λv H1 F1 st1 sm1 ok1 r1=>⟨G,F1,δ1,y,δ2,ok1,eb,λu H2 F2 st2 sm2 ok2 r2=>?_⟩⟩;refine k v u H2 F2 (st1.trans st2) (λz=>?_) ok2 (RelM.step ok1.fd st2 (λz=>sm2 (by rw[z]at pc;simpa using pc)) r1) r2;rw[aa]at z;exact(sm1 z.1).trans (sm2 z.2)
def cZ.int{H:Hp}{F:av->Prop}{i:Int}{v:V}(h:cZ K H F (.int i) v):v=.int i:=by
 rcases h with h|⟨_,_,_,e,_⟩
 .unfold Rel at h;exact h
 .cases e
def cZ.bl(h:cZ K H F (.bl i) v):v=.bl i:=by
 rcases h with h|⟨_,_,_,e,_⟩
 .unfold Rel at h;exact h
 .cases e
def cZ.str{H:Hp}{F:av->Prop}{i:Str}{v:V}(h:cZ K H F (.str i) v):v=.str i:=by
 rcases h with h|⟨_,_,_,e,_⟩
 .unfold Rel at h;exact h
 .cases e
def cZ.tup{H:Hp}{F:av->Prop}{ds:List D}{v:V}(h:cZ K H F (.tup ds) v):∃a xs,v=.ref a/\SqT K H a xs/\aH K H F ds xs:=by
 rcases h with h|⟨_,_,_,e,_⟩
 .unfold Rel at h;exact h
 .cases e
def cZ.lst{H:Hp}{F:av->Prop}{ds:List D}{v:V}(h:cZ K H F (.lst ds) v):∃a xs,v=.ref a/\LsB K H a xs/\aH K H F ds xs:=by
 rcases h with h|⟨a,xs,_,e,e2,h1,h2⟩
 .unfold Rel at h;obtain⟨a,xs,e,h1,h2⟩:=h;exact⟨a,xs,e,h1.b,h2⟩
 .cases e;exact⟨a,xs,e2,.inl (.inl h1),h2⟩
def cA{H:Hp}{F:av->Prop}(i:Int):Rel K H F (.int i) (.int i):=by unfold Rel;rfl
def iq(i:Bool):Rel K H F (.bl i) (.bl i):=by unfold Rel;rfl
def eF{H:Hp}{F:av->Prop}(i:Str):Rel K H F (.str i) (.str i):=by unfold Rel;rfl
def yd:Rel K H F .non .non:=by unfold Rel;rfl
def Ok.laid{σ:L2.St}{G:Gh}{H:Hp}{F:av->Prop}{δ:Loc}{p:av}(ok:Ok K G F σ H δ)(hp:H p=none)(o:HO):Ok K G F σ (upd H p o) δ/\Step G F H F (upd H p o)/\Sim H (upd H p o)/\¬F p :=
 ⟨ok.same' (cF hp o),Step.of_same (cF hp o),.of (cF hp o),ok.fd.none hp⟩
def jr{σ:L2.St}{G:Gh}{H:Hp}{F:av->Prop}{δ:Loc}{p:av}{ds:List D}{xs:List V}(ok:Ok K G F σ H δ)(hp:H p=none)(r:aH K H F ds xs):Rel K (upd H p (.tup xs)) F (.tup ds) (.ref p):=by
 unfold Rel;exact⟨p,xs,rfl,SqT.of bI,aH.step (G:=G) ok.fd (Step.of_same (cF hp _)) ds xs r⟩
def js{σ:L2.St}{G:Gh}{H:Hp}{F:av->Prop}{δ:Loc}{p:av}{ds:List D}{xs:List V}(ok:Ok K G F σ H δ)(hp:H p=none)(r:aH K H F ds xs):Rel K (upd H p (.lst xs)) F (.lst ds) (.ref p):=by
 unfold Rel;exact⟨p,xs,rfl,.inl ⟨.inl bI,(ok.laid hp (.lst xs)).2.2.2⟩,aH.step (G:=G) ok.fd (Step.of_same (cF hp _)) ds xs r⟩
def FP{a b:E}{y z:aE}{op:Op}{o:gJ}{pos:Pos}(ho:GI op o=true)(pc:(!bj a||np b)=true)(ha:PE X y (tE X.K cx a))(hb:PE X z (tE X.K cx b)):PE X (.BinOp y o z pos) (tE X.K cx (.bin op a b)):=by
 intro pins s σ H Q I h;obtain⟨G,F,δ,d,δ',ok,ev,post⟩:=h;simp only[evE,ae,af]at ev;obtain⟨⟨x,δ1⟩,ea,⟨y',δ2⟩,eb,d',hd,e⟩:=ev;cases e;dsimp only at eb hd post;have fin:∀v H2 F2,Step G F H F2 H2->((np a&&np b)=true->Sim H H2)->Ok X.K G F2 σ H2 δ2->Rel X.K H2 F2 d v->Q v H2:=λv H2 F2 st sm ok2 r=>post v H2 F2 st sm ok2 r;cases op<;>cases o<;>first|(exact absurd ho aq)|skip
 .refine qP (Kw.or (wD.or (GF.or (GH.or GG)))) ha hb pins s σ H Q I (two ok ea eb pc λv u H2 F2 st sm ok2 r1 r2=>?_);change LQ x y'=some d at hd;unfold LQ at hd;split at hd
  .cases hd;have e1:=r1.b.int;have e2:=r2.b.int;subst e1;subst e2;exact .inl ⟨_,_,rfl,rfl,fin _ _ _ st sm ok2 (cA _)⟩
  .split at hd
   .cases hd;have e1:=r1.b.str;have e2:=r2.b.str;subst e1;subst e2;exact .inr (.inl ⟨_,_,rfl,rfl,‹_›,fin _ _ _ st sm ok2 (eF _)⟩)
   .cases hd
  .cases hd;obtain⟨p1,xs1,e1,s1,l1⟩:=r1.b.tup;obtain⟨p2,xs2,e2,s2,l2⟩:=r2.b.tup;subst e1;subst e2;unfold aH at l1;subst l1;refine .inr (.inr (.inr (.inl ⟨p1,p2,xs2,rfl,rfl,s1,s2,fin _ _ _ st sm ok2 ?_⟩)));unfold Rel;exact⟨p2,xs2,rfl,s2,l2⟩
  .split at hd
   .rename_i q;cases hd;obtain⟨p1,xs1,e1,s1,l1⟩:=r1.b.tup;obtain⟨p2,xs2,e2,s2,l2⟩:=r2.b.tup;subst e1;subst e2;refine .inr (.inr (.inl ⟨p1,p2,xs1,xs2,rfl,rfl,s1,s2,λz=>?_,by rw[l1.length,l2.length];exact q,λz=>?_,λ_ p hp=>?_⟩))
    .have:=l1.length;rw[z]at this;cases this
    .refine fin _ _ _ st sm ok2 ?_;have e:∀{ys:List D},aH X.K H2 F2 ys xs2->ys=[]:=λ{ys}r=>by have:=r.length;rw[z]at this;exact fY.mp this.symm
     have:=e l2;subst this;rw[bq];unfold Rel;exact⟨p1,xs1,rfl,s1,l1⟩
    .obtain⟨o1,o2,o3,o4⟩:=ok2.laid hp (.tup (xs1++xs2));exact fin _ _ _ (st.trans o2) (λz=>(sm z).trans o3) o1 (jr ok2 hp (l1.append l2))
   .cases hd
  .split at hd
   .rename_i q;cases hd;obtain⟨p1,xs1,e1,s1,l1⟩:=r1.b.lst;obtain⟨p2,xs2,e2,s2,l2⟩:=r2.b.lst;subst e1;subst e2;refine .inr (.inr (.inr (.inr ⟨p1,p2,xs1,xs2,rfl,rfl,s1,s2,by rw[l1.length,l2.length];exact q,λp hp=>?_⟩)));obtain⟨o1,o2,o3,o4⟩:=ok2.laid hp (.lst (xs1++xs2));exact fin _ _ _ (st.trans o2) (λz=>(sm z).trans o3) o1 (js ok2 hp (l1.append l2))
   .cases hd
  .cases hd
 .refine qP Kn ha hb pins s σ H Q I (two ok ea eb pc λv u H2 F2 st sm ok2 r1 r2=>?_);change JA x y'=some d at hd;unfold JA at hd;split at hd<;>first|(cases hd;done)|skip
  cases hd;have e1:=r1.b.int;have e2:=r2.b.int;subst e1;subst e2;exact⟨_,_,rfl,rfl,fin _ _ _ st sm ok2 (cA _)⟩
 .refine qP (GC.or GB) ha hb pins s σ H Q I (two ok ea eb pc λv u H2 F2 st sm ok2 r1 r2=>?_);change KH x y'=some d at hd;unfold KH at hd;split at hd<;>first|(cases hd;done)|skip
  .split at hd
   .rename_i q;cases hd;have e1:=r1.b.int;have e2:=r2.b.int;subst e1;subst e2;refine .inl ⟨_,_,rfl,rfl,?_,fin _ _ _ st sm ok2 (cA _)⟩;exact GW q
   .cases hd
  .split at hd
   .rename_i q;cases hd;have e1:=r1.b.str;have e2:=r2.b.int;subst e1;subst e2;exact .inr ⟨_,_,rfl,rfl,q,fin _ _ _ st sm ok2 (eF _)⟩
   .cases hd
 .refine qP Kq ha hb pins s σ H Q I (two ok ea eb pc λv u H2 F2 st sm ok2 r1 r2=>?_);change KL x y'=some d at hd;unfold KL at hd;split at hd<;>first|(cases hd;done)|skip
  split at hd
  .rename_i q;cases hd;have e1:=r1.b.int;have e2:=r2.b.int;subst e1;subst e2;exact⟨_,_,rfl,rfl,q,fin _ _ _ st sm ok2 (cA _)⟩
  .cases hd
 .refine qP CT ha hb pins s σ H Q I (two ok ea eb pc λv u H2 F2 st sm ok2 r1 r2=>?_);change DO x y'=some d at hd;unfold DO at hd;split at hd<;>first|(cases hd;done)|skip
  split at hd
  .rename_i q;cases hd;have e1:=r1.b.int;have e2:=r2.b.int;subst e1;subst e2;exact⟨_,_,rfl,rfl,q,fin _ _ _ st sm ok2 (cA _)⟩
  .cases hd
 .refine qP Ko ha hb pins s σ H Q I (two ok ea eb pc λv u H2 F2 st sm ok2 r1 r2=>?_);change JZ x y'=some d at hd;unfold JZ at hd;split at hd<;>first|(cases hd;done)|skip
  split at hd
  .rename_i q;cases hd;have e1:=r1.b.int;have e2:=r2.b.int;subst e1;subst e2;exact⟨_,_,rfl,rfl,q,fin _ _ _ st sm ok2 (cA _)⟩
  .cases hd
end
end PP
end
section
namespace PP
open PySem L2 PySem.SeqAt PyProof.Rows PySem.W
variable[Tbs]
end PP
end
section
namespace PP
open PySem PySem.W PyProof.Rows
section
variable{prog:aP}{w:bA}{A:bB}{E:ai->au->Prop}{s:au}
end
end PP
end
section
namespace PP
open PySem L2 PySem.SeqAt PyProof.Rows PySem.W
variable[Tbs]
end PP
end
section
namespace PP
open PySem L2 PyProof.Rows PySem.SeqAt PySem.Calls
section
variable{prog:aP}{w:bA}{A:bB}{R:Ma->au->Prop}{I:av}{fp wr:List av}{n:Nat}{P:Nat->ai->Prop}{St:Nat->bV->Prop}
end
end PP
end
section
namespace PP
open PySem L2 PyProof.Rows
variable[Tbs]
section
variable{K:PySem.W.Frag}{cx:Cl}{X:Cx}
def eL(r:Rel K H F d v):RelM false K H F d v:=r
def rC(K:PySem.W.Frag)(op:Cop):R2:=λx y H Q=>∃F a b k,cZ K H F a x/\cZ K H F b y/\gu op a b=some k/\Q (.bl k) H
def CP(h:GA p a b=some k):∃i j,a=.int i/\b=.int j/\k=p i j:=by
 unfold GA at h;split at h
 .cases h;exact⟨_,_,rfl,rfl,rfl⟩
 .cases h
def IF(h:inD a b=some k):(∃ds,(b=.lst ds\/b=.tup ds)/\(dep a<=150/\eO ds<99999)/\k=ds.any λy=>eqD y a)\/∃x y,a=.str x/\b=.str y/\k=uZ y x:=by
 unfold inD at h;split at h
 .split at h
  .cases h;exact .inl ⟨_,.inl rfl,‹_›,rfl⟩
  .cases h
 .split at h
  .cases h;exact .inl ⟨_,.inr rfl,‹_›,rfl⟩
  .cases h
 .split at h
  .cases h;exact .inr ⟨_,_,rfl,rfl,rfl⟩
  .cases h
 .cases h
def sx:OpR X (compareOp .NotIn) (λx y H Q=>∃i j,x=.str i/\y=.str j/\Q (.bl (!uZ j i)) H):=by
 intro pins s σ H x y v u Q I rx ry h;obtain⟨i,j,rfl,rfl,q⟩:=h;obtain⟨t,rfl⟩:=rx;obtain⟨t',rfl⟩:=ry;exact PySem.P.notIn_str ⟨.bl _,H,I,rfl,q⟩
def OpR.imp(h:OpR X f r)(w:∀x y H Q,r' x y H Q->r x y H Q):OpR X f r':=λpins s σ H x y v u Q I rx ry q=>h pins s σ H x y v u Q I rx ry (w _ _ _ _ q)
def Kt:OpR X (compareOp .Is) (λx y H Q=>∃i j,x=.bl i/\y=.bl j/\Q (.bl (i==j)) H):=by
 intro pins s σ H x y v u Q I rx ry h;obtain⟨i,j,rfl,rfl,q⟩:=h;cases rx;cases ry;exact PyProof.Rows.is_bool ⟨.bl _,H,I,rfl,q⟩
def Nl(h:isD a b=some k)(ra:cZ K H F a x)(rb:cZ K H F b y):(y=.non/\k=decide (x=.non))\/∃i j,x=.bl i/\y=.bl j/\k=(i==j):=by
 cases b<;>first|(cases h;done)|skip
 rotate_left
 .cases a<;>first|(cases h;done)|skip
  cases h;refine .inr ⟨_,_,?_,?_,rfl⟩
  .rcases ra with r|⟨_,_,_,e,_⟩
   .unfold Rel at r;exact r
   .cases e
  .rcases rb with r|⟨_,_,_,e,_⟩
   .unfold Rel at r;exact r
   .cases e
 cases h;refine .inl ⟨?_,?_⟩
 .rcases rb with r|⟨_,_,_,e,_⟩
  .unfold Rel at r;exact r
  .cases e
 .rcases ra with r|⟨_,_,_,rfl,rfl,_⟩
  .cases a<;>unfold Rel at r<;>first|(subst r;rfl)|(obtain⟨_,_,rfl,_⟩:=r;rfl)|exact r.elim
  .rfl
def Ni(h:leD a b=some k):(∃i j,a=.int i/\b=.int j/\k=decide (i<=j))\/∃i j,a=.str i/\b=.str j/\k=!decide (j.cps.toList<i.cps.toList):=by
 unfold leD at h;split at h
 .cases h;exact .inl ⟨_,_,rfl,rfl,rfl⟩
 .cases h;exact .inr ⟨_,_,rfl,rfl,rfl⟩
 .cases h
def zN:OpR X (compareOp .LtE) (λx y H Q=>∃i j,x=.str i/\y=.str j/\Q (.bl (!decide (j.cps.toList<i.cps.toList))) H):=by
 intro pins s σ H x y v u Q I rx ry h;obtain⟨i,j,rfl,rfl,q⟩:=h;obtain⟨t,rfl⟩:=rx;obtain⟨t',rfl⟩:=ry;exact PySem.P.le_str ⟨.bl _,H,I,rfl,q⟩
def opC(hu:X.A.units+200<cLine)(ho:jc op o=true):OpR X (compareOp o) (rC X.K op):=by
 cases op<;>cases o<;>first|(exact absurd ho aq)|skip
 .refine OpR.imp MY λx y H Q⟨F,a,b,k,ra,rb,e,q⟩=>?_;obtain⟨i,j,rfl,rfl,rfl⟩:=CP e;exact⟨i,j,ra.int,rb.int,q⟩
 .refine OpR.imp (MZ.or zN) λx y H Q zz=>?_;obtain⟨F,a,b,k,ra,rb,e,q⟩:=zz;rcases Ni e with⟨i,j,rfl,rfl,rfl⟩|⟨i,j,rfl,rfl,rfl⟩
  .exact .inl ⟨i,j,ra.int,rb.int,q⟩
  .exact .inr ⟨i,j,ra.str,rb.str,q⟩
 .refine OpR.imp Na λx y H Q zz=>?_;obtain⟨F,a,b,k,ra,rb,e,q⟩:=zz;obtain⟨i,j,rfl,rfl,rfl⟩:=CP e;exact⟨i,j,ra.int,rb.int,q⟩
 .refine OpR.imp ((Kv hu).or Nb) λx y H Q zz=>?_;obtain⟨F,a,b,k,ra,rb,e,q⟩:=zz;change (if iz a b=true then some (eqD a b)else if Ng a b=true then some false else none)=some k at e;split at e
  .cases e;exact .inl ⟨F,a,b,ra,rb,‹_›,q⟩
  .split at e
   .rename_i hm;cases e;cases a<;>cases b<;>first|(cases hm;done)|skip
    .rw[ra.int,rb.str];exact .inr ⟨rfl,q⟩
    .rw[ra.str,rb.int];exact .inr ⟨rfl,q⟩
   .cases e
 .refine OpR.imp (Kp hu) λx y H Q zz=>?_;obtain⟨F,a,b,k,ra,rb,e,q⟩:=zz;change (if iz a b=true then some (!eqD a b)else none)=some k at e;split at e
  .cases e;exact⟨F,a,b,ra,rb,‹_›,q⟩
  .cases e
 .intro pins s σ H x y v u Q I rx ry h;obtain⟨F,a,b,k,ra,rb,e,q⟩:=h;rcases IF e with⟨ds,hb,hd,rfl⟩|⟨x',y',rfl,rfl,rfl⟩
  .refine Ku hu pins s σ H x y v u Q I rx ry ⟨F,a,ds,ra,?_,hd,q⟩;rcases hb with rfl|rfl
   .exact .inl rb
   .exact .inr rb
  .exact zO pins s σ H x y v u Q I rx ry ⟨x',y',ra.str,rb.str,q⟩
 .intro pins s σ H x y v u Q I rx ry h;obtain⟨F,a,b,k,ra,rb,e,q⟩:=h;change (inD a b).map (!·)=some k at e;rw[aj]at e;obtain⟨k',e,rfl⟩:=e;rcases IF e with⟨ds,hb,hd,rfl⟩|⟨x',y',rfl,rfl,rfl⟩
  .refine zM hu pins s σ H x y v u Q I rx ry ⟨F,a,ds,ra,?_,hd,q⟩;rcases hb with rfl|rfl
   .exact .inl rb
   .exact .inr rb
  .exact sx pins s σ H x y v u Q I rx ry ⟨x',y',ra.str,rb.str,q⟩
 .refine OpR.imp (Kr.or Kt) λx y H Q zz=>?_;obtain⟨F,a,b,k,ra,rb,e,q⟩:=zz;rcases Nl e ra rb with⟨e1,e2⟩|⟨i,j,e1,e2,e3⟩
  .exact .inl ⟨e1,e2▸q⟩
  .exact .inr ⟨i,j,e1,e2,e3▸q⟩
def Ly(ev:evE cx (.cmp op a b) δ=some (d,δ')):∃x δ1 y k,evE cx a δ=some (x,δ1)/\evE cx b δ1=some (y,δ')/\gu op x y=some k/\d=.bl k:=by
 simp only[evE,ae,af]at ev;obtain⟨⟨x,δ1⟩,ea,⟨y',δ2⟩,eb,k,hd,e⟩:=ev;cases e;exact⟨x,δ1,y',k,ea,eb,hd,rfl⟩
def Hz(ev:evT cx (.cmp op a b) δ=some (k,δ')):∃x δ1 y,evE cx a δ=some (x,δ1)/\evE cx b δ1=some (y,δ')/\gu op x y=some k:=by
 simp only[evT,ae,af]at ev;obtain⟨⟨x,δ1⟩,ea,⟨y',δ2⟩,eb,k,hd,e⟩:=ev;cases e;exact⟨x,δ1,y',ea,eb,hd⟩
def FN(hu:X.A.units+200<cLine)(ho:jc op o=true)(pc:(!bj a||np b)=true)(ha:PE X y (tE X.K cx a))(hb:PE X z (tE X.K cx b))(hm:behindInMarks o z=false) :
 PE X (.Compare y [o] [z] pos) (tE X.K cx (.cmp op a b)):=by
 refine PE.imp (yq (opC hu ho) ha hb hm) λσ H Q h=>?_;obtain⟨G,F,δ,d,δ',ok,ev,post⟩:=h;obtain⟨x,δ1,y',k,ea,eb,hd,rfl⟩:=Ly ev;exact two ok ea eb pc λv u H2 F2 st sm ok2 r1 r2=>⟨F2,x,y',k,r1.b,r2.b,hd,post _ H2 F2 st sm ok2 (eL (iq k))⟩
def BK(hu:X.A.units+200<cLine)(ho:jc op o=true)(pc:(!bj a||np b)=true)(ha:PE X y (tE X.K cx a))(hb:PE X z (tE X.K cx b))(hm:behindInMarks o z=false) :
 PT X (.Compare y [o] [z] pos) (tT X.K cx (.cmp op a b)):=by
 refine PT.imp (yj (opC hu ho) ha hb hm) λσ H Q h=>?_;obtain⟨G,F,δ,k,δ',ok,ev,post⟩:=h;obtain⟨x,δ1,y',ea,eb,hd⟩:=Hz ev;exact two ok ea eb pc λv u H2 F2 st sm ok2 r1 r2=>⟨F2,x,y',k,r1.b,r2.b,hd,k,rfl,post H2 F2 st sm ok2⟩
def dg(n:(!bj e)=true)(h:RelM (bj e) K H F d v):Rel K H F d v:=by
 have e1:bj e=false:=by simpa using n
 rw[e1]at h;exact h
def snd_and(na:(!bj a)=true)(nb:(!bj b)=true)(ha:PE X y (tE X.K cx a))(hb:PE X (.BoolOp .And (z::r) pos) (tE X.K cx b)):PE X (.BoolOp .And (y::z::r) pos) (tE X.K cx (.and a b)):=by
 refine PE.imp (CO ha hb) λσ H Q h=>?_;obtain⟨G,F,δ,d,δ',ok,ev,post⟩:=h;simp only[evE,ae,af]at ev;obtain⟨⟨x,δ1⟩,ea,ev⟩:=ev;refine⟨G,F,δ,x,δ1,ok,ea,λv H1 F1 st1 sm1 ok1 r1=>?_⟩;replace r1:=dg na r1;have np1:np (.and a b)=(np a&&np b):=rfl
 cases x with
 |bl k =>
  unfold Rel at r1;refine⟨k,r1,?_⟩
  cases k with
  |true =>
   rw[if_pos rfl];refine⟨G,F1,δ1,d,δ',ok1,ev,λu H2 F2 st2 sm2 ok2 r2=>post u H2 F2 (st1.trans st2) (λn=>?_) ok2 (eL (dg nb r2))⟩;rw[np1,aa]at n
   exact(sm1 n.1).trans (sm2 n.2)
  |false =>
   rw[if_neg aq];cases ev
   exact post _ H1 F1 st1 (λn=>by rw[np1,aa]at n;exact sm1 n.1) ok1 (eL (iq false))
 |_=>cases ev
def BE(na:(!bj a)=true)(nb:(!bj b)=true)(ha:PE X y (tE X.K cx a))(hb:PE X (.BoolOp .Or (z::r) pos) (tE X.K cx b)):PE X (.BoolOp .Or (y::z::r) pos) (tE X.K cx (.or a b)):=by
 refine PE.imp (MQ ha hb) λσ H Q h=>?_;obtain⟨G,F,δ,d,δ',ok,ev,post⟩:=h;simp only[evE,ae,af]at ev;obtain⟨⟨x,δ1⟩,ea,ev⟩:=ev;refine⟨G,F,δ,x,δ1,ok,ea,λv H1 F1 st1 sm1 ok1 r1=>?_⟩;replace r1:=dg na r1;have np1:np (.or a b)=(np a&&np b):=rfl
 cases x with
 |bl k =>
  unfold Rel at r1;refine⟨k,r1,?_⟩
  cases k with
  |false =>
   rw[if_neg aq];refine⟨G,F1,δ1,d,δ',ok1,ev,λu H2 F2 st2 sm2 ok2 r2=>post u H2 F2 (st1.trans st2) (λn=>?_) ok2 (eL (dg nb r2))⟩;rw[np1,aa]at n
   exact(sm1 n.1).trans (sm2 n.2)
  |true =>
   rw[if_pos rfl];cases ev
   exact post _ H1 F1 st1 (λn=>by rw[np1,aa]at n;exact sm1 n.1) ok1 (eL (iq true))
 |_=>cases ev
def Fy(na:(!bj a)=true)(ha:PE X y (tE X.K cx a)):PE X (.UnaryOp .Not y pos) (tE X.K cx (.not a)):=by
 refine PE.imp (Kh ha) λσ H Q h=>?_;obtain⟨G,F,δ,d,δ',ok,ev,post⟩:=h;simp only[evE,ae,af]at ev;obtain⟨⟨x,δ1⟩,ea,ev⟩:=ev;refine⟨G,F,δ,x,δ1,ok,ea,λv H1 F1 st1 sm1 ok1 r1=>?_⟩;replace r1:=dg na r1
 cases x with
 |bl k =>
  unfold Rel at r1;cases ev
  exact⟨k,r1,post _ H1 F1 st1 sm1 ok1 (eL (iq _))⟩
 |_=>cases ev
def PT.pw(h:PT X (.BoolOp op vs pos) t):PW X (.BoolOp op vs pos) t:=λ_ pins s σ H Q I q=>h pins s σ H Q I q
def uL(ha:PT X y (tT X.K cx a))(hb:PW X (.BoolOp .And (z::r) pos) (tT X.K cx b)):PT X (.BoolOp .And (y::z::r) pos) (tT X.K cx (.and a b)):=by
 refine PT.imp (wt ha hb).pt λσ H Q h=>?_;obtain⟨G,F,δ,d,δ',ok,ev,post⟩:=h;simp only[evT,ae,af]at ev;obtain⟨⟨k,δ1⟩,ea,ev⟩:=ev;have np1:np (.and a b)=(np a&&np b):=rfl;refine⟨G,F,δ,k,δ1,ok,ea,λH1 F1 st1 sm1 ok1=>?_⟩
 cases k with
 |true =>
  rw[if_pos rfl];refine⟨G,F1,δ1,d,δ',ok1,ev,λH2 F2 st2 sm2 ok2=>post H2 F2 (st1.trans st2) (λn=>?_) ok2⟩;rw[np1,aa]at n
  exact(sm1 n.1).trans (sm2 n.2)
 |false =>
  rw[if_neg aq];cases ev;exact post H1 F1 st1 (λn=>by rw[np1,aa]at n;exact sm1 n.1) ok1
def xW(ha:PT X y (tT X.K cx a))(hb:PW X (.BoolOp .Or (z::r) pos) (tT X.K cx b)):PT X (.BoolOp .Or (y::z::r) pos) (tT X.K cx (.or a b)):=by
 refine PT.imp (MO ha hb).pt λσ H Q h=>?_;obtain⟨G,F,δ,d,δ',ok,ev,post⟩:=h;simp only[evT,ae,af]at ev;obtain⟨⟨k,δ1⟩,ea,ev⟩:=ev;have np1:np (.or a b)=(np a&&np b):=rfl;refine⟨G,F,δ,k,δ1,ok,ea,λH1 F1 st1 sm1 ok1=>?_⟩
 cases k with
 |false =>
  rw[if_neg aq];refine⟨G,F1,δ1,d,δ',ok1,ev,λH2 F2 st2 sm2 ok2=>post H2 F2 (st1.trans st2) (λn=>?_) ok2⟩;rw[np1,aa]at n
  exact(sm1 n.1).trans (sm2 n.2)
 |true =>
  rw[if_pos rfl];cases ev;exact post H1 F1 st1 (λn=>by rw[np1,aa]at n;exact sm1 n.1) ok1
def BI(ha:PT X y (tT X.K cx a)):PT X (.UnaryOp .Not y pos) (tT X.K cx (.not a)):=by
 refine PT.imp (JV ha) λσ H Q h=>?_;obtain⟨G,F,δ,d,δ',ok,ev,post⟩:=h;simp only[evT,ae,af]at ev;obtain⟨⟨k,δ1⟩,ea,ev⟩:=ev;cases ev;exact⟨G,F,δ,k,δ1,ok,ea,λH1 F1 st1 sm1 ok1=>post H1 F1 st1 sm1 ok1⟩
def FF(na:(!bj a)=true)(nb:(!bj b)=true)(hc:PT X t (tT X.K cx c))(ha:PE X y (tE X.K cx a))(hb:PE X z (tE X.K cx b)):PE X (.IfExp t y z pos) (tE X.K cx (.ite c a b)):=by
 refine PE.imp (CK hc ha hb) λσ H Q h=>?_;obtain⟨G,F,δ,d,δ',ok,ev,post⟩:=h;simp only[evE,ae,af]at ev;obtain⟨⟨k,δ1⟩,ea,ev⟩:=ev;have np1:np (.ite c a b)=(np c&&np a&&np b):=rfl;refine⟨G,F,δ,k,δ1,ok,ea,λH1 F1 st1 sm1 ok1=>?_⟩
 cases k with
 |true =>
  rw[if_pos rfl];refine⟨G,F1,δ1,d,δ',ok1,ev,λu H2 F2 st2 sm2 ok2 r2=>post u H2 F2 (st1.trans st2) (λn=>?_) ok2 (eL (dg na r2))⟩;rw[np1,aa,aa]at n
  exact(sm1 n.1.1).trans (sm2 n.1.2)
 |false =>
  rw[if_neg aq];refine⟨G,F1,δ1,d,δ',ok1,ev,λu H2 F2 st2 sm2 ok2 r2=>post u H2 F2 (st1.trans st2) (λn=>?_) ok2 (eL (dg nb r2))⟩;rw[np1,aa,aa]at n;exact(sm1 n.1.1).trans (sm2 n.2)
def Ok.look(ok:Ok K G F σ H δ)(e:get δ i=some d):∃v,σ[i]?=some (some v)/\cZ K H F d v/\∃F',Step G F H F' H/\Ok K G F' σ H (PP.demote δ i)/\Rel K H F' d v:=by
 unfold get at e
 cases q:δ[i]? with
 |none=>rw[q]at e;cases e
 |some s =>
  rw[q]at e
  cases s with
  |no=>cases e
  |fnc _ _=>cases e
  |odc _ _=>cases e
  |val d' =>
   cases e;obtain⟨v,e1,r⟩:=ok.sl i _ q;refine⟨v,e1,.inl r,F,Step.refl,?_,r⟩
   unfold PP.demote;rw[q];exact ok
  |own ds =>
   cases e;obtain⟨a,xs,e1,h1,h2,h3,h4⟩:=ok.sl i _ q;obtain⟨o1,o2⟩:=ok.demote (d:=.lst ds) q rfl e1;refine⟨.ref a,e1,.inr ⟨a,xs,ds,rfl,rfl,h3,h4⟩,λb=>F b/\b≠a,⟨λ_ _ _ z _=>z,λb z=>.inl z.1,λb o r z e=>⟨⟨z,λw=>h2.2 (by rw[<- w];exact r)⟩,e⟩,λ_ ps e=>⟨ps,e⟩⟩,?_,o2⟩;unfold PP.demote;rw[q];exact o1
def Ok.lookV(ok:Ok K G F σ H δ)(e:zX δ i=some d):∃v,σ[i]?=some (some v)/\∃F',Step G F H F' H/\Ok K G F' σ H (PP.demote δ i)/\Rel K H F' d v:=by
 unfold zX at e;split at e
 .rename_i ks ds q;cases e;obtain⟨a,xs,e1,h1,h2,_⟩:=ok.sl i _ q;obtain⟨o1,o2⟩:=ok.demote (d:=.dct ks ds) q rfl e1;refine⟨.ref a,e1,λb=>F b/\b≠a,⟨λ_ _ _ z _=>z,λb z=>.inl z.1,λb o r z e=>⟨⟨z,λw=>h2.2 (by rw[<- w];exact r)⟩,e⟩,λ_ ps e=>⟨ps,e⟩⟩,?_,o2⟩;unfold PP.demote;rw[q];exact o1
 .obtain⟨v,e1,_,h⟩:=ok.look e;exact⟨v,e1,h⟩
def Fq(hN:X.N[i]?=some x)(hv:Vis X.env.scope x)(hd:(x==("__debug__":Str))=false)(hcd:(x==("__classdict__":Str))=false):PE X (.Name x pos) (tE X.K cx (.var i)):=by
 refine PE.imp (fH hN hv hd hcd) λσ H Q h=>?_;obtain⟨G,F,δ,d,δ',ok,ev,post⟩:=h;simp only[evE,ae,af]at ev;obtain⟨d',e1,e⟩:=ev;cases e;obtain⟨v,ev,F',st,ok',r⟩:=ok.lookV e1;exact⟨v,ev,post v H F' st (λ_=>Sim.refl H) ok' (eL r)⟩
def JG(hN:X.N[i]?=some x)(hv:Vis X.env.scope x)(hd:(x==("__debug__":Str))=false)(hcd:(x==("__classdict__":Str))=false):PE X (.Name x pos) (tE X.K cx (.pk i)):=by
 refine PE.imp (fH hN hv hd hcd) λσ H Q h=>?_;obtain⟨G,F,δ,d,δ',ok,ev,post⟩:=h;simp only[evE,ae,af]at ev;obtain⟨d',e1,e⟩:=ev;cases e;obtain⟨v,ev,rb,_⟩:=ok.look e1;exact⟨v,ev,post v H F Step.refl (λ_=>Sim.refl H) ok rb⟩
def vY(r:cZ K H F d v)(e:tv d=some k):LV K v H k:=by
 cases d with
 |non=>cases e;rcases r with r|⟨_,_,_,z,_⟩;(unfold Rel at r;subst r;rfl);cases z
 |bl b=>cases e;have:=r.bl;subst this;rfl
 |int i=>cases e;have:=r.int;subst this;rfl
 |str x =>
  change (if x.length<=sizeLine then some ((x.length:Int) != 0)else none)=some k at e;split at e
  .cases e;have:=r.str;subst this;exact⟨‹_›,rfl⟩
  .cases e
 |lst ds =>
  cases e;obtain⟨a,xs,rfl,h1,h2⟩:=r.lst;refine .inl ⟨xs,h1.sq,?_⟩;have:=h2.length
  cases ds<;>cases xs<;>first|rfl|(simp at this)
 |tup ds =>
  cases e;obtain⟨a,xs,rfl,h1,h2⟩:=r.tup;refine .inr (.inl ⟨xs,h1,?_⟩);have:=h2.length
  cases ds<;>cases xs<;>first|rfl|(simp at this)
 |fn _ _=>cases e
 |dct _ _=>cases e
def uJ(he:e=.var i\/e=.pk i)(hN:X.N[i]?=some x)(hv:Vis X.env.scope x)(hd:(x==("__debug__":Str))=false)(hcd:(x==("__classdict__":Str))=false):PT X (.Name x pos) (tT X.K cx e):=by
 refine PT.imp (pv (fH hN hv hd hcd) λ_=>rfl) λσ H Q h=>?_;obtain⟨G,F,δ,k,δ',ok,ev,post⟩:=h
 have ev':∃d,get δ i=some d/\tv d=some k/\δ=δ':=by
  rcases he with rfl|rfl
  .simp only[evT,ae,af]at ev;obtain⟨d,e1,k',e2,e⟩:=ev;cases e;exact⟨d,e1,e2,rfl⟩
  .simp only[evT,ae,af]at ev;obtain⟨d,e1,k',e2,e⟩:=ev;cases e;exact⟨d,e1,e2,rfl⟩
 obtain⟨d,e1,e2,rfl⟩:=ev';obtain⟨v,ev,rb,_⟩:=ok.look e1;exact⟨v,ev,k,vY rb e2,post H F Step.refl (λ_=>Sim.refl H) ok⟩
def FG:PE X (.Constant (.int i) j pos) (tE X.K cx (.int i)) :=
 PE.imp CJ λσ H Q⟨G,F,δ,d,δ',ok,ev,post⟩=>by cases ev;exact post _ H F Step.refl (λ_=>Sim.refl H) ok (eL (cA i))
def JK:PE X (.Constant (.bool i) j pos) (tE X.K cx (.bl i)) :=
 PE.imp MS λσ H Q⟨G,F,δ,d,δ',ok,ev,post⟩=>by cases ev;exact post _ H F Step.refl (λ_=>Sim.refl H) ok (eL (iq i))
def Ft:PE X (.Constant (.str i) j pos) (tE X.K cx (.str i)) :=
 PE.imp wA λσ H Q⟨G,F,δ,d,δ',ok,ev,post⟩=>by cases ev;exact post _ H F Step.refl (λ_=>Sim.refl H) ok (eL (eF i))
def FA:PE X (.Constant .none j pos) (tE X.K cx .non) :=
 PE.imp Ki λσ H Q⟨G,F,δ,d,δ',ok,ev,post⟩=>by cases ev;exact post _ H F Step.refl (λ_=>Sim.refl H) ok (eL yd)
def BF(hg:Gl X x)(hm:X.mg x=some u)(r:RelV v u)(hr:∀d,cx.gl[g]?=some d->∀H F,Rel X.K H F d v)(hd:(x==("__debug__":Str))=false):PE X (.Name x pos) (tE X.K cx (.glob g)):=by
 refine PE.imp (oy hg hm r hd) λσ H Q h=>?_;obtain⟨G,F,δ,d,δ',ok,ev,post⟩:=h;simp only[evE,ae,af]at ev;obtain⟨d',e1,e⟩:=ev;cases e;exact post v H F Step.refl (λ_=>Sim.refl H) ok (eL (hr d e1 H F))
def FC(n:(!bj a)=true)(ha:PE X y (tE X.K cx a)):PE X (.UnaryOp .USub y pos) (tE X.K cx (.neg a)):=by
 refine PE.imp (MP Js ha) λσ H Q h=>?_;obtain⟨G,F,δ,d,δ',ok,ev,post⟩:=h;simp only[evE,ae,af]at ev;obtain⟨⟨x,δ1⟩,ea,ev⟩:=ev
 cases x with
 |int i =>
  cases ev;refine⟨G,F,δ,_,_,ok,ea,λv H1 F1 st sm ok1 r=>?_⟩;have:=r.b.int;subst this
  exact⟨i,rfl,post _ H1 F1 st sm ok1 (eL (cA _))⟩
 |_=>cases ev
end
section
variable{K:PySem.W.Frag}{cx:Cl}{X:Cx}
def lU:PA X [] (tEs X.K cx .nil):=by
 refine λpos pins s σ H Q I h=>iM pos pins s σ H Q I ?_;obtain⟨G,F,δ,ds,δ',ok,ev,post⟩:=h;simp only[cS]at ev;cases ev;exact post [] H F Step.refl (λ_=>Sim.refl H) ok ⟨rfl,rfl⟩
def jU(pc:(!bj a||npS es)=true)(ha:PE X y (tE X.K cx a))(hr:PA X ys (tEs X.K cx es))(hs:starEach (y::ys) X.env=(false,eval y X.env)::starEach ys X.env):PA X (y::ys) (tEs X.K cx (.cons a es)):=by
 refine λpos pins s σ H Q I h=>dQ ha hr hs pos pins s σ H Q I ?_;obtain⟨G,F,δ,ds,δ',ok,ev,post⟩:=h;simp only[cS,ae,af]at ev;obtain⟨⟨x,δ1⟩,ea,⟨ds',δ2⟩,eb,e⟩:=ev;cases e;refine⟨G,F,δ,x,δ1,ok,ea,λv H1 F1 st1 sm1 ok1 r1=>⟨G,F1,δ1,ds',δ2,ok1,eb,λvs H2 F2 st2 sm2 ok2 r2=>?_⟩⟩;refine post (v::vs) H2 F2 (st1.trans st2) (λz=>?_) ok2 ⟨x,ds',v,vs,rfl,rfl,RelM.step ok1.fd st2 (λz=>sm2 (by rw[z]at pc;simpa using pc)) r1,r2⟩;have z':(np a&&npS es)=true:=z;rw[aa]at z';exact(sm1 z'.1).trans (sm2 z'.2)
def nJ.rl:∀{es:Es}{ds:List D}{vs:List V},iW es=true->nJ K H F es ds vs->aH K H F ds vs
 |.nil,ds,vs,_,h=>by obtain⟨rfl,rfl⟩:=h;exact aH.nil
 |.cons e es,ds,vs,n,h=>by
  obtain⟨d,ds',v,vs',rfl,rfl,h1,h2⟩:=h;have n':(!bj e&&iW es)=true:=n;rw[aa]at n';exact aH.cons (dg n'.1 h1) (nJ.rl n'.2 h2)
def vH(K:PySem.W.Frag)(H:Hp)(F:av->Prop):List D->List V->Prop
 |[],vs=>vs=[]
 |d::ds,vs=>∃v vs',vs=v::vs'/\cZ K H F d v/\vH K H F ds vs'
def nJ.bl:∀{es:Es}{ds:List D}{vs:List V},nJ K H F es ds vs->vH K H F ds vs
 |.nil,ds,vs,h=>by obtain⟨rfl,rfl⟩:=h;rfl
 |.cons e es,ds,vs,h=>by
  obtain⟨d,ds',v,vs',rfl,rfl,h1,h2⟩:=h;exact⟨v,vs',rfl,h1.b,nJ.bl h2⟩
def yO{f:List D->Option D}{es:Es}{δ δ':Loc}{d:D}(ev:(do let(ds,δ1) <- cS cx es δ;return (<- f ds,δ1))=some (d,δ')):∃ds,cS cx es δ=some (ds,δ')/\f ds=some d:=by
 simp only[ae,af]at ev;obtain⟨⟨ds,δ1⟩,ea,d',hd,e⟩:=ev;cases e;exact⟨ds,ea,hd⟩
def Fs(n:iW es=true)(h:PA X xs (tEs X.K cx es)):PE X (.Tuple xs k pos) (tE X.K cx (.tup es)):=by
 refine PE.imp (wz h) λσ H Q h=>?_;obtain⟨G,F,δ,d,δ',ok,ev,post⟩:=h;simp only[evE,ae,af]at ev;obtain⟨⟨ds,δ1⟩,ea,ev⟩:=ev;split at ev
 .rename_i hz;cases ev;refine⟨G,F,δ,ds,δ1,ok,ea,λvs H1 F1 st1 sm1 ok1 r1=>?_⟩;have r:=r1.rl n;refine⟨by rw[r.length];exact hz,λp hp=>?_⟩;obtain⟨o1,o2,o3,o4⟩:=ok1.laid hp (.tup vs);exact post _ _ _ (st1.trans o2) (λz=>(sm1 z).trans o3) o1 (eL (jr ok1 hp r))
 .cases ev
def FE(n:iW es=true)(h:PA X xs (tEs X.K cx es)):PE X (.List xs pos) (tE X.K cx (.lst es)):=by
 refine PE.imp (CH h) λσ H Q h=>?_;obtain⟨G,F,δ,d,δ',ok,ev,post⟩:=h;simp only[evE,ae,af]at ev;obtain⟨⟨ds,δ1⟩,ea,ev⟩:=ev;split at ev
 .rename_i hz;cases ev;refine⟨G,F,δ,ds,δ1,ok,ea,λvs H1 F1 st1 sm1 ok1 r1=>?_⟩;have r:=r1.rl n;refine⟨by rw[r.length];exact hz,λp hp=>?_⟩;obtain⟨o1,o2,o3,o4⟩:=ok1.laid hp (.lst vs);exact post _ _ _ (st1.trans o2) (λz=>(sm1 z).trans o3) o1 (eL (js ok1 hp r))
 .cases ev
def aH.at{H:Hp}{F:av->Prop}{ds:List D}{xs:List V}{i:Int}{d:D}(h:aH K H F ds xs)(e:atI ds i=some d):∃v,atI xs i=some v/\Rel K H F d v:=by
 unfold atI at e |-;rw[h.length]
 cases q:ixN ds.length i with
 |none=>rw[q]at e;cases e
 |some j =>
  rw[q]at e;exact h.get e
def JI(pc:(!bj a||np b)=true)(ha:PE X y (tE X.K cx a))(hb:PE X z (tE X.K cx b))(hp:PlainIx z):PE X (.Subscript y z pos) (tE X.K cx (.ix a b)):=by
 refine PE.imp (MR Lb ha hb hp) λσ H Q h=>?_;obtain⟨G,F,δ,d,δ',ok,ev,post⟩:=h;simp only[evE,ae,af]at ev;obtain⟨⟨x,δ1⟩,ea,⟨y',δ2⟩,eb,d',hd,e⟩:=ev;cases e;dsimp only at eb hd post;refine two ok ea eb pc λv u H2 F2 st sm ok2 r1 r2=>?_;unfold ixD at hd;split at hd
 .have e2:=r2.b.int;obtain⟨p,xs,e1,h1,h2⟩:=r1.b.lst;obtain⟨w,hw,rw'⟩:=h2.at hd;exact .inl ⟨p,xs,_,w,e1,e2,h1.sq,hw,post _ _ _ st sm ok2 (eL rw')⟩
 .have e2:=r2.b.int;obtain⟨p,xs,e1,h1,h2⟩:=r1.b.tup;obtain⟨w,hw,rw'⟩:=h2.at hd;exact .inr (.inl ⟨p,xs,_,w,e1,e2,h1,hw,post _ _ _ st sm ok2 (eL rw')⟩)
 .have e2:=r2.b.int;have e1:=r1.b.str;split at hd
  .rename_i hz;rw[aj]at hd;obtain⟨c,hc,rfl⟩:=hd;exact .inr (.inr ⟨_,_,c,e1,e2,hz,hc,post _ _ _ st sm ok2 (eL (eF _))⟩)
  .cases hd
 .cases hd
def Il(h:∀e,o=.yes e->∃y,l=some y/\(!bj e)=true/\PE X y (tE X.K cx e))(hn:o=.no->l=none):PO X l (tO X.K cx o):=by
 cases o with
 |no =>
  rw[hn rfl];intro pins s σ H Q I q;refine Gq pins s σ H Q I ?_;obtain⟨G,F,δ,d,δ',ok,ev,post⟩:=q;simp only[evO]at ev;cases ev
  exact post H F Step.refl (λ_=>Sim.refl H) ok
 |yes e =>
  obtain⟨y,rfl,n,hy⟩:=h e rfl;intro pins s σ H Q I q;refine Gp hy pins s σ H Q I ?_;obtain⟨G,F,δ,d,δ',ok,ev,post⟩:=q;simp only[evO,ae,af]at ev;obtain⟨⟨x,δ1⟩,ea,ev⟩:=ev
  cases x with
  |int i =>
   cases ev
   exact⟨G,F,δ,.int i,δ',ok,ea,λv H1 F1 st1 sm1 ok1 r1=>⟨i,by have:=dg n r1;unfold Rel at this;exact this,post H1 F1 st1 sm1 ok1⟩⟩
  |_=>cases ev
def JF{a:E}{lo hi:Eo}{y:aE}{l h:Option aE}{pos p2:Pos}(pc:(!bj a||(npO lo&&npO hi))=true)(ha:PE X y (tE X.K cx a))(hl:PO X l (tO X.K cx lo))(hh:PO X h (tO X.K cx hi)):PE X (.Subscript y (.Slice l h none p2) pos) (tE X.K cx (.sl a lo hi)):=by
 refine PE.imp (uR (xY.or (JO.or JP)) ha hl hh) λσ H Q h=>?_;obtain⟨G,F,δ,d,δ',ok,ev,post⟩:=h;simp only[evE,ae,af]at ev;obtain⟨⟨x,δ1⟩,ea,⟨l',δ2⟩,eb,⟨h',δ3⟩,ec,d',hd,e⟩:=ev;cases e;dsimp only at eb ec hd post;refine⟨G,F,δ,x,δ1,ok,ea,λv H1 F1 st1 sm1 ok1 r1=>⟨G,F1,δ1,l',δ2,ok1,eb,λH2 F2 st2 sm2 ok2=>⟨G,F2,δ2,h',δ3,ok2,ec,λH3 F3 st3 sm3 ok3=>?_⟩⟩⟩;have st:=st2.trans st3
 have rb:cZ X.K H3 F3 x v:=by
  refine(RelM.step ok1.fd st (λz=>?_) r1).b;rw[z]at pc;have pc':(npO lo&&npO hi)=true:=by simpa using pc
  rw[aa]at pc';exact(sm2 pc'.1).trans (sm3 pc'.2)
 have fin:∀w H4,fA H3 H4->Ok X.K G F3 σ H4 δ3->Rel X.K H4 F3 d w->Q w H4:=λw H4 s4 o4 r4=>post w H4 F3 ((st1.trans st).trans (Step.of_same s4)) (λz=>by
  have z':(np a&&npO lo&&npO hi)=true:=z;rw[aa,aa]at z';exact(((sm1 z'.1.1).trans (sm2 z'.1.2)).trans (sm3 z'.2)).trans (.of s4)) o4 (eL r4)
 unfold slD at hd;split at hd
 .cases hd;obtain⟨p,xs,e1,h1,h2⟩:=rb.lst;refine .inl ⟨p,xs,e1,h1.sq,λq hq=>?_⟩;obtain⟨o1,o2,o3,o4⟩:=ok3.laid hq (.lst (qm xs l' h'));exact fin _ _ (cF hq _) o1 (js ok3 hq (h2.cut l' h'))
 .split at hd
  .cases hd
  .rename_i hw;cases hd;obtain⟨p,xs,e1,h1,h2⟩:=rb.tup;refine .inr (.inl ⟨p,xs,e1,h1,by rw[h2.length];exact hw,λq hq=>?_⟩);obtain⟨o1,o2,o3,o4⟩:=ok3.laid hq (.tup (qm xs l' h'));exact fin _ _ (cF hq _) o1 (jr ok3 hq (h2.cut l' h'))
 .split at hd
  .cases hd;have e1:=rb.str;subst e1;exact .inr (.inr ⟨_,rfl,‹_›,fin _ _ (λb o e=>e) ok3 (eF _)⟩)
  .cases hd
 .cases hd
def spF(K:PySem.W.Frag)(f:List D->Option D):Sp:=λvs H Q _=>∃F ds d,FD F H/\TF F/\lC H/\aH K H F ds vs/\f ds=some d/\∀v H',Sim H H'->lC H'->Rel K H' F d v->Q v H'
def BH{f:Nat}{es:Es}{x:Str}{y:aE}{ys:List aE}{k:Nat}{a:av}{fd:dZ}{ps:List Str}{p pos:Pos}(n:iW es=true)(fn:gB X.prog X.w X.K X.mg X.base CX0 k a fd ps (spF X.K (cx.call f)))(hr:jL k X.A)(hg:Gl X x)
 (hm:X.mg x=some (.ref a))(hk:PySem.W.keepIn X.K (.ref a)=true)(hb:Binds X.K fd ps [])(hA:PA X (y::ys) (tEs X.K cx es))(hd:(x==("__debug__":Str))=false)(he:starEach (y::ys) X.env=(false,eval y X.env)::starEach ys X.env)(hpl:(backTo pos (starEach ys X.env)).any (·.1)=false) :
 PE X (.Call (.Name x p) (y::ys) [] pos) (tE X.K cx (.call f es)):=by
 refine PE.imp (Gv fn hr hg hm hk hb .nil (MU) hA hd he hpl) λσ H Q h=>?_;obtain⟨G,F,δ,d,δ',ok,ev,post⟩:=h;simp only[evE]at ev;obtain⟨ds,ea,hd⟩:=yO ev;refine⟨G,F,δ,ds,δ',ok,ea,λvs H1 F1 st1 sm1 ok1 r1=>?_⟩;show spF X.K (cx.call f) (vs++[]) H1 Q E0;rw[bq];exact⟨F1,ds,d,ok1.fd,ok1.tf,ok1.tabs,r1.rl n,hd,λv H2 s2 t2 r2=>post v H2 F1 (st1.trans (ok1.call s2 t2).2) (λz=>(sm1 z).trans s2) (ok1.call s2 t2).1 (eL r2)⟩
def ou{e:E}{x:aE}{es:Es}{f:List D->Option D}(hE:PE X x (tE X.K cx e))(he:∀whole,isTrue x X.env whole=(do let v <- whole;standAt x.pos;holding [v] (truthy v)))(n:bj e=false)
 (e1:∀δ,evE cx e δ=(do let(ds,δ1) <- cS cx es δ;return (<- f ds,δ1)))(e2:∀δ,evT cx e δ=(do let(ds,δ1) <- cS cx es δ;let d <- f ds;return (<- tv d,δ1))):PT X x (tT X.K cx e):=by
 refine PT.imp (pv hE he) λσ H Q h=>?_;obtain⟨G,F,δ,k,δ',ok,ev,post⟩:=h;rw[e2]at ev;simp only[ae,af]at ev;obtain⟨⟨ds,δ1⟩,ea,d,hd,k',hk,e⟩:=ev;cases e;refine⟨G,F,δ,d,δ1,ok,?_,λv H1 F1 st1 sm1 ok1 r1=>⟨k,vY r1.b hk,post H1 F1 st1 sm1 ok1⟩⟩;rw[e1];simp only[ae,af];exact⟨(ds,δ1),ea,d,hd,rfl⟩
def uK(hE:PE X x (tE X.K cx e))(he:∀whole,isTrue x X.env whole=(do let v <- whole;standAt x.pos;holding [v] (truthy v)))(e2:∀δ k δ',evT cx e δ=some (k,δ')->∃d,evE cx e δ=some (d,δ')/\tv d=some k):PT X x (tT X.K cx e) :=
 PT.imp (pv hE he) λσ H Q⟨G,F,δ,k,δ',ok,ev,post⟩=>let⟨d,e1,e3⟩:=e2 _ _ _ ev;⟨G,F,δ,d,δ',ok,e1,λv H1 F1 st1 sm1 ok1 r1=>⟨k,vY r1.b e3,post H1 F1 st1 sm1 ok1⟩⟩
def rB(K:PySem.W.Frag)(f:List D->Option D):List V->Hp->VK->Prop:=λxs H Q=>∃F ds d,FD F H/\vH K H F ds xs/\f ds=some d/\∀v H',fA H H'->Rel K H' F d v->Q v H'
def cC.imp{f:ai}{r r':List V->Hp->VK->Prop}(h:cC X f r)(w:∀xs H Q,r' xs H Q->r xs H Q):cC X f r':=λpins s σ H xs us Q I rv q=>h pins s σ H xs us Q I rv (w _ _ _ q)
def b1(h:vH K H F [d] xs):∃v,xs=[v]/\cZ K H F d v:=by
 obtain⟨v,vs,rfl,h1,h2⟩:=h;cases h2;exact⟨v,rfl,h1⟩
def b2(h:vH K H F [d,e] xs):∃v u,xs=[v,u]/\cZ K H F d v/\cZ K H F e u:=by
 obtain⟨v,vs,rfl,h1,u,us,rfl,h2,h3⟩:=h;cases h3;exact⟨v,u,rfl,h1,h2⟩
def va(fd:FD F H)(hp:H p=none):¬F p:=fd.none hp
def LH:cC X (.builtin "len") (rB X.K Hb):=by
 refine cC.imp (tF.or tD) λxs H Q zz=>?_;obtain⟨F,ds,d,fd,r,e,q⟩:=zz;unfold Hb at e;split at e
 .split at e
  .cases e;obtain⟨v,rfl,rv⟩:=b1 r;exact .inr ⟨_,by rw[rv.str],‹_›,q _ _ (fA.refl H) (cA _)⟩
  .cases e
 .cases e;obtain⟨v,rfl,rv⟩:=b1 r;obtain⟨a,ys,rfl,h1,h2⟩:=rv.lst;exact .inl ⟨a,ys,rfl,.inl h1.sq,by rw[h2.length];exact q _ _ (fA.refl H) (cA _)⟩
 .cases e;obtain⟨v,rfl,rv⟩:=b1 r;obtain⟨a,ys,rfl,h1,h2⟩:=rv.tup;exact .inl ⟨a,ys,rfl,.inr h1,by rw[h2.length];exact q _ _ (fA.refl H) (cA _)⟩
 .cases e
def Aj:cC X (.type "int") (λxs H Q=>∃x n,xs=[.str x]/\PySem.intText? x=some n/\x.length<=640/\Q (.int n) H):=by
 intro pins s σ H xs us Q I rv h;obtain⟨x,n,rfl,h1,h2,q⟩:=h;obtain⟨u,rfl,ru⟩:=rv.one;obtain⟨t,rfl⟩:=ru;exact PySem.W.KIN.call_text h1 h2 ⟨.int n,H,I.tok _,⟨_,rfl⟩,q⟩
def LI:cC X (.type "int") (rB X.K rW):=by
 refine cC.imp (Ak.or Aj) λxs H Q zz=>?_;obtain⟨F,ds,d,fd,r,e,q⟩:=zz;unfold rW at e;split at e
 .cases e;obtain⟨v,rfl,r1⟩:=b1 r;exact .inl (.inl ⟨_,by rw[r1.int],q _ _ (fA.refl H) (cA _)⟩)
 .cases e;obtain⟨v,rfl,r1⟩:=b1 r;exact .inl (.inr ⟨_,by rw[r1.bl],q _ _ (fA.refl H) (cA _)⟩)
 .split at e
  .rw[aj]at e;obtain⟨n,e1,rfl⟩:=e;obtain⟨v,rfl,r1⟩:=b1 r;exact .inr ⟨_,n,by rw[r1.str],e1,‹_›,q _ _ (fA.refl H) (cA _)⟩
  .cases e
 .cases e
def LD:cC X (.type "str") (rB X.K rV):=by
 refine cC.imp tw λxs H Q zz=>?_;obtain⟨F,ds,d,fd,r,e,q⟩:=zz;unfold rV at e;split at e
 .split at e
  .cases e;obtain⟨v,rfl,r1⟩:=b1 r;exact⟨_,by rw[r1.int],‹_›,q _ _ (fA.refl H) (eF _)⟩
  .cases e
 .cases e
def BB(h:fA H H'):Step g0 F H F H':=Step.of_same h
def LB:cC X (.type "tuple") (rB X.K rT):=by
 refine cC.imp qr λxs H Q zz=>?_;obtain⟨F,ds,d,fd,r,e,q⟩:=zz;unfold rT at e;split at e
 .cases e;obtain⟨v,rfl,r1⟩:=b1 r;obtain⟨a,ys,rfl,h1,h2⟩:=r1.lst;refine⟨a,ys,rfl,.inl ⟨h1.sq,λl hl=>q _ _ (cF hl _) ?_⟩⟩;unfold Rel;exact⟨l,ys,rfl,SqT.of bI,aH.step fd (BB (cF hl _)) _ _ h2⟩
 .cases e;obtain⟨v,rfl,r1⟩:=b1 r;obtain⟨a,ys,rfl,h1,h2⟩:=r1.tup;refine⟨a,ys,rfl,.inr ⟨h1,q _ _ (fA.refl H) ?_⟩⟩;unfold Rel;exact⟨a,ys,rfl,h1,h2⟩
 .cases e
def LG:cC X (.type "list") (rB X.K mL):=by
 refine cC.imp my λxs H Q zz=>?_;obtain⟨F,ds,d,fd,r,e,q⟩:=zz;unfold mL at e;split at e
 .cases e;obtain⟨v,rfl,r1⟩:=b1 r;obtain⟨a,ys,rfl,h1,h2⟩:=r1.lst;refine⟨a,ys,rfl,.inl h1.sq,λl hl=>q _ _ (cF hl _) ?_⟩;unfold Rel;exact⟨l,ys,rfl,.inl ⟨.inl bI,va fd hl⟩,aH.step fd (BB (cF hl _)) _ _ h2⟩
 .cases e;obtain⟨v,rfl,r1⟩:=b1 r;obtain⟨a,ys,rfl,h1,h2⟩:=r1.tup;refine⟨a,ys,rfl,.inr h1,λl hl=>q _ _ (cF hl _) ?_⟩;unfold Rel;exact⟨l,ys,rfl,.inl ⟨.inl bI,va fd hl⟩,aH.step fd (BB (cF hl _)) _ _ h2⟩
 .cases e
def mT:∀{ds:List D}{ns:List Int}{xs:List V},md ds=some ns->aH K H F ds xs->xs=ns.map V.int
 |[],ns,xs,e,r=>by cases e;unfold aH at r;exact r
 |d::ds,ns,xs,e,r=>by
  unfold aH at r;obtain⟨y,ys,rfl,h1,h2⟩:=r
  cases d with
  |int i =>
   unfold md at e;rw[aj]at e;obtain⟨ms,e,rfl⟩:=e;unfold Rel at h1
   rw[h1,mT e h2,aw]
  |_=>cases e
def LF(hc:X.calm=true):cC X (.builtin "max") (rB X.K maxD):=by
 intro pins s σ H xs us Q I rv ⟨F,ds,d,fd,r,e,q⟩;unfold maxD at e;split at e
 .cases e;obtain⟨v,u,rfl,r1,r2⟩:=b2 r;exact Ai hc pins s σ H _ us Q I rv ⟨_,_,by rw[r1.int,r2.int],q _ _ (fA.refl H) (cA _)⟩
 .rw[af]at e;obtain⟨ns,e,e'⟩:=e;split at e'
  .cases e'
  .rename_i hne;cases e';obtain⟨v,rfl,r1⟩:=b1 r;obtain⟨a,ys,rfl,h1,h2⟩:=r1.lst;rw[mT e h2]at h1;exact Ah hc pins s σ H _ us Q I rv ⟨a,ns,rfl,hne,h1.sq,q _ _ (fA.refl H) (cA _)⟩
 .cases e
def pU:∀{ds:List D}{ns:List Bool}{xs:List V},lB ds=some ns->aH K H F ds xs->xs=ns.map V.bl
 |[],ns,xs,e,r=>by cases e;unfold aH at r;exact r
 |d::ds,ns,xs,e,r=>by
  unfold aH at r;obtain⟨y,ys,rfl,h1,h2⟩:=r
  cases d with
  |bl i =>
   unfold lB at e;rw[aj]at e;obtain⟨ms,e,rfl⟩:=e;unfold Rel at h1
   rw[h1,pU e h2,aw]
  |_=>cases e
def LJ(hc:X.calm=true):cC X (.builtin "all") (rB X.K HJ):=by
 refine cC.imp (Al hc) λxs H Q zz=>?_;obtain⟨F,ds,d,fd,r,e,q⟩:=zz;unfold HJ at e;split at e
 .rw[aj]at e;obtain⟨ns,e,rfl⟩:=e;obtain⟨v,rfl,r1⟩:=b1 r;obtain⟨a,ys,rfl,h1,h2⟩:=r1.lst;rw[pU e h2]at h1;exact⟨a,ns,rfl,h1.sq,q _ _ (fA.refl H) (iq _)⟩
 .cases e
def LC(hc:X.calm=true):cC X (.builtin "sum") (rB X.K Fn):=by
 refine cC.imp (Ag hc) λxs H Q zz=>?_;obtain⟨F,ds,d,fd,r,e,q⟩:=zz;unfold Fn at e;split at e
 .rw[aj]at e;obtain⟨ns,e,rfl⟩:=e;obtain⟨v,rfl,r1⟩:=b1 r;obtain⟨a,ys,rfl,h1,h2⟩:=r1.lst;rw[mT e h2]at h1;exact⟨a,ns,rfl,h1.sq,q _ _ (fA.refl H) (cA _)⟩
 .cases e
def iy{f:Blt}{es:Es}{x:Str}{p pos:Pos}{xs:List aE}(g:List D->Option D)(hg:gY f=g)(h:PE X (.Call (.Name x p) xs [] pos) (tCB (rB X.K g) (tEs X.K cx es))):PE X (.Call (.Name x p) xs [] pos) (tE X.K cx (.blt f es)):=by
 subst hg;refine PE.imp h λσ H Q h=>?_;obtain⟨G,F,δ,d,δ',ok,ev,post⟩:=h;simp only[evE]at ev;obtain⟨ds,ea,hd⟩:=yO ev;refine⟨G,F,δ,ds,δ',ok,ea,λvs H1 F1 st1 sm1 ok1 r1=>?_⟩;exact⟨F1,ds,d,ok1.fd,r1.bl,hd,λv H2 s2 r2=>post v H2 F1 (st1.trans (Step.of_same s2)) (λz=>(sm1 z).trans (.of s2)) (ok1.same' s2) (eL r2)⟩
end
end PP
end
section
namespace HT
open PySem PySem.Spec PyProof.Rows
section
variable{prog:aP}{w:bA}{A:bB}{E:ai->au->Prop}{s:au}
end
end HT
namespace L2
open PySem PySem.Spec PyProof.Rows
section
variable{X:Cx}{e:aE}{st:Option aE}{te:TE}{ts:TO}{pos p2:Pos}
end
end L2
namespace PP
open PySem L2 PyProof.Rows
variable[Tbs]
section
variable{K:PySem.W.Frag}{cx:Cl}{X:Cx}
end
end PP
end
section
namespace PP
open PySem L2 PyProof.Rows
variable[Tbs]
section
variable{K:PySem.W.Frag}{cx:Cl}{X:Cx}
def JJ(hT:tyName f=some T)(ht:t=(T:Str))(hg:Gl X "isinstance")(hm:X.mg "isinstance"=none)(hgt:Gl X t)(hmt:X.mg t=none)(hy:PE X y (tE X.K cx e))(hs:starEach [y,.Name t tp] X.env=[(false,eval y X.env),(false,eval (.Name t tp) X.env)]) :
 PE X (.Call (.Name "isinstance" p) [y,.Name t tp] [] pos) (tE X.K cx (.blt f (.cons e .nil))):=by
 have hb:bootBuiltins t=some (.type T):=by
  subst ht;cases f<;>simp[tyName]at hT<;>subst hT<;>rfl
 have hn:t≠"__name__":=by
  subst ht;cases f<;>simp[tyName]at hT<;>subst hT<;>decide
 have hdb:(t==("__debug__":Str))=false:=by
  subst ht;cases f<;>simp[tyName]at hT<;>subst hT<;>decide
 have hA:PA X [y,.Name t tp] (nB (tE X.K cx e) (nB (tC (.ty T)) Bx)):=dQ hy (dQ (yt hgt hmt hb rfl hn hdb) iM rfl) hs;refine PE.imp (gz (El hT) hg hm rfl hA ⇑0 ⇑0 hs rfl) λσ H Q h=>?_;obtain⟨G,F,δ,d,δ',ok,ev,post⟩:=h;simp only[evE]at ev;obtain⟨ds,ea,hd⟩:=yO ev;simp only[cS,ae,af]at ea;obtain⟨⟨x,δ1⟩,ea,⟨ds',δ2⟩,eb,e2⟩:=ea;cases eb;cases e2
 obtain⟨b,rfl⟩:∃b,d=.bl b:=by
  cases f<;>simp[tyName]at hT<;>(cases x<;>simp[gY,fU]at hd<;>exact⟨_,hd.symm⟩)
 refine⟨G,F,δ,x,δ1,ok,ea,λv H1 F1 st1 sm1 ok1 r1=>?_⟩;exact⟨F1,x,v,b,r1.b,rfl,hd,post _ H1 F1 st1 (λz=>sm1 (by have z':(np e&&true)=true:=z;simpa using z')) ok1 (eL (iq b))⟩
def Fx(hN:X.N[i]?=some x)(hv:Vis X.env.scope x)(hd:(x==("__debug__":Str))=false)(hcd:(x==("__classdict__":Str))=false)(hl:ap.endLine=cp.line) :
 PE X (.Call (.Attribute (.Name x pos) "pop" ap) [] [] cp) (tE X.K cx (.pop i)):=by
 refine PE.imp (Kk PySem.F.plainAttrs_list PySem.F.slot_list_pop PySem.F.type_list_pop KI (fH hN hv hd hcd) rfl (by simpa using hl)) λσ H Q h=>?_;obtain⟨G,F,δ,d,δ',ok,ev,post⟩:=h;simp only[evE]at ev
 cases q:δ[i]? with
 |none=>rw[q]at ev;cases ev
 |some s =>
  rw[q]at ev
  cases s with
  |no=>cases ev
  |fnc _ _=>cases ev
  |odc _ _=>cases ev
  |val _=>cases ev
  |own ds =>
   obtain⟨a,xs,e1,h1,h2,h3,h4⟩:=ok.sl i _ q;dsimp only at ev
   cases ql:ds.getLast? with
   |none=>rw[ql]at ev;cases ev
   |some d0 =>
    rw[ql]at ev;cases ev;have hlen:=h4.length;have hg:ds[ds.length-1]?=some d:=by rw[<- fC];exact ql
    obtain⟨w,hw,rw'⟩:=h4.get hg;obtain⟨o1,o2⟩:=ok.write q e1 (aH.dropLast h4);refine⟨.ref a,e1,.inl ⟨rfl,xs,.inl (.inl h3)⟩,a,xs,w,rfl,rfl,h3,by rw[hlen];exact hw,?_⟩;exact post w _ F o2 (λz=>absurd (show false=true from z) aq) o1 (eL (Rel.step ok.fd o2 d w rw'))
def aH.erase:∀{ds:List D}{xs:List V}(n:Nat),aH K H F ds xs->aH K H F (ds.eraseIdx n) (xs.eraseIdx n)
 |[],xs,n,h=>by unfold aH at h;subst h;exact aH.nil
 |e::ds,xs,0,h=>by
  unfold aH at h;obtain⟨y,ys,q,h1,h2⟩:=h;subst q
  exact h2
 |e::ds,xs,n+1,h=>by
  unfold aH at h;obtain⟨y,ys,q,h1,h2⟩:=h;subst q;exact aH.cons h1 (aH.erase n h2)
def BC(hN:X.N[i]?=some x)(hv:Vis X.env.scope x)(hd:(x==("__debug__":Str))=false)(hcd:(x==("__classdict__":Str))=false)(hl:ap.endLine=cp.line)(hj:PE X z (tE X.K cx j))(hs:starEach [z] X.env=[(false,eval z X.env)])
 (hfew:((backTo cp (starEach [z] X.env)).all (λx=>!x.1)&&(backToKw cp (keywordEach [] X.env)).all (λx=>x.1.isSome)
   && decide (([z]:List aE).length+([]:List dP).length+(if([]:List dP).isEmpty then 0 else 1)<30))=true) :
 PE X (.Call (.Attribute (.Name x pos) "pop" ap) [z] [] cp) (tE X.K cx (.popi i j)):=by
 have hA:PA X [z] (tEs X.K cx (.cons j .nil)):=jU (by simp[npS]) hj lU hs;refine PE.imp (uT PySem.F.plainAttrs_list PySem.F.slot_list_pop PySem.F.type_list_pop Dm (fH hN hv hd hcd) hA rfl hfew (by simpa using hl) hs rfl) λσ H Q h=>?_;obtain⟨G,F,δ,d,δ',ok,ev,post⟩:=h;simp only[evE]at ev;split at ev
 .rename_i ds0 q;obtain⟨a,xs0,e1,h1,h2,h3,h4⟩:=ok.sl i _ q;simp only[ae,af]at ev;obtain⟨⟨dj,δ1⟩,ej,ev⟩:=ev;refine⟨.ref a,e1,.inl ⟨rfl,xs0,.inl (.inl h3)⟩,G,F,δ,[dj],δ1,ok,by simp[cS,ej],λvs H1 F1 st sm ok1 r=>?_⟩;obtain⟨d',ds',v,vs',ed,rfl,rv,rn⟩:=r;cases ed;obtain⟨_,rfl⟩:=rn
  cases dj with
  |int m =>
   have em:=rv.b.int;subst em;dsimp only at ev;split at ev
   .rename_i ds q1;obtain⟨a',xs,ea',g1,g2,g3,g4⟩:=ok1.sl i _ q1;rw[e1]at ea';cases ea';split at ev
    .rename_i hm;rw[aj]at ev;obtain⟨d0,hd0,e0⟩:=ev;cases e0;obtain⟨w,hw,rw'⟩:=g4.get hd0;have hlen:=g4.length;obtain⟨o1,o2⟩:=ok1.write q1 e1 (aH.erase m.toNat g4);refine⟨a,xs,m,m.toNat,w,rfl,rfl,g3,∅,?_,?_,hw,post w _ F1 (st.trans o2) (λz=>absurd (show false=true from z) aq) o1 (eL (Rel.step ok1.fd o2 d w rw'))⟩
     .lia
     .exact(sH (by unfold ixN;rw[if_pos hm.1,if_pos ∅])).1
    .cases ev
   .cases ev
  |_=>cases ev
 .cases ev
def EU(fd:FD F H)(h1:Ls K H F a xs)(h3:aH K H F ds xs):Wk K G F H (Itl K a) ds:=by
 intro F2 H2 st fd2 i;have h4:=(h1.step st).sq;have h5:=aH.step fd st ds xs h3;refine⟨λd e=>?_,λe=>⟨xs,h4,by rw[h5.length];lia⟩⟩;obtain⟨v,hv,rv⟩:=h5.get e;refine⟨⟨xs,v,h4,hv⟩,λx H3 y=>?_⟩;obtain⟨rfl,y⟩:=y;refine⟨λ_ _ e=>e,?_⟩;have:=y xs h4;rw[hv]at this;cases this;exact rv
def IX(fd:FD F H)(h1:SqT K H a xs)(h3:aH K H F ds xs):Wk K G F H (Itt K a) ds:=by
 intro F2 H2 st fd2 i;have h4:=uH fd st.keep h1;have h5:=aH.step fd st ds xs h3;refine⟨λd e=>?_,λe=>⟨xs,h4,by rw[h5.length];lia⟩⟩;obtain⟨v,hv,rv⟩:=h5.get e;refine⟨⟨xs,v,h4,hv⟩,λx H3 y=>?_⟩;obtain⟨rfl,y⟩:=y;refine⟨λ_ _ e=>e,?_⟩;have:=y xs h4;rw[hv]at this;cases this;exact rv
def IY:Wk K G F H (Its x) (x.cps.toList.map λc=>D.str ⟨#[c]⟩):=by
 intro F2 H2 st fd2 i;refine⟨λd e=>?_,λe=>by show i=x.cps.size;simpa using e⟩;rw[bH,aj]at e;obtain⟨c,hc,rfl⟩:=e;have hc':x.cps[i]?=some c:=by simpa using hc
 refine⟨(fc.mp hc').1,λv H3 y=>?_⟩;obtain⟨rfl,c',h1,h2⟩:=y;refine⟨λ_ _ e=>e,?_⟩;rw[hc']at h1;cases h1;rw[h2];exact eF _
def IZ{G:Gh}{H:Hp}{F:av->Prop}{lo:Int}{n:Nat}:Wk K G F H (Itr lo n) (lq lo n):=by
 intro F2 H2 st fd2 i;unfold lq;refine⟨λd e=>?_,λe=>by rw[e];simp;exact aD n⟩;rw[bH,aj]at e;obtain⟨c,hc,rfl⟩:=e;have hl:i<n:=by have:=(aF.mp hc).1;simpa using this
 rw[List.getElem?_range hl]at hc;cases hc;refine⟨hl,λv H3 y=>?_⟩;obtain⟨rfl,h2⟩:=y;exact⟨λ_ _ e=>e,by rw[h2];exact cA _⟩
def Ol(K:PySem.W.Frag)(tl:TE):TI:=λσ H R=>tl σ H λv H1=>(∃a,v=.ref a/\(∃xs,SqL K H1 a xs)/\R (Itl K a) H1)\/(∃a,v=.ref a/\(∃xs,SqT K H1 a xs)/\R (Itt K a) H1)\/∃x,v=.str x/\R (Its x) H1
def Kd(hl:PE X l tl):PI X tg l (Ol X.K tl):=by
 intro pins s σ H R I h
 have key:∀{v:ai}{s1:au}{x:V}{H1:Hp},Inv X pins σ H1 s1->RelV x v->((∃a,x=.ref a/\(∃xs,SqL X.K H1 a xs)/\R (Itl X.K a) H1)\/(∃a,x=.ref a/\(∃xs,SqT X.K H1 a xs)/\R (Itt X.K a) H1)\/∃y,x=.str y/\R (Its y) H1) ->
  wpAny (model X.prog X.w) X.A (pyIter v) (PIE X pins σ tg R) X.xe s1:=by
  intro v s1 x H1 I1 r1 q1;rcases q1 with⟨a,rfl,⟨xs,hq⟩,q⟩|⟨a,rfl,⟨xs,hq⟩,q⟩|⟨z,rfl,q⟩
  .cases r1;obtain⟨its,rv,p,hz⟩:=I1.list hq;refine jO p.isList ?_;refine⟨s1.heap.objs.size,[s1.heap.objs.size],_,_,H1,rfl,I1.kept (t':=s1.toks) λb o e=>ax _ e,zw a _,⟨_,aV _ rfl,rfl,rfl⟩,λb hb=>?_,q⟩;have e:b=s1.heap.objs.size:=by simpa using hb
   subst e;exact I1.fpOk (aD _) (I1.hok.fresh (aD _))
  .cases r1;obtain⟨its,rv,p,hz⟩:=I1.tuple hq;refine wpAny_pyIter_tuple (show s1.heap.IsTuple a its.toArray from p) ?_;refine⟨s1.heap.objs.size,[s1.heap.objs.size],_,_,H1,rfl,I1.kept (t':=s1.toks) λb o e=>ax _ e,vW a _,⟨_,aV _ rfl,rfl,rfl⟩,λb hb=>?_,q⟩;have e:b=s1.heap.objs.size:=by simpa using hb
   subst e;exact I1.fpOk (aD _) (I1.hok.fresh (aD _))
  .obtain⟨t,rfl⟩:=r1;refine wpAny_pyIter_strU ?_;refine⟨s1.heap.objs.size,[s1.heap.objs.size],_,_,H1,rfl,I1.kept (t':=s1.toks) λb o e=>ax _ e,Br s1.heap.objs.size z t,⟨_,aV _ rfl,rfl,rfl⟩,λb hb=>?_,q⟩;have e:b=s1.heap.objs.size:=by simpa using hb
   subst e;exact I1.fpOk (aD _) (I1.hok.fresh (aD _))
 exact thn (hl pins s σ H _ I h) λv s1⟨x,H1,I1,r1,q1⟩=>key I1 r1 q1
def PI.imp(h:PI X tg l t)(w:∀σ H R,t' σ H R->t σ H R):PI X tg l t':=λpins s σ H R I q=>h pins s σ H R I (w σ H R q)
def JE(n:(!bj e)=true)(hl:PE X l (tE X.K cx e)):PI X tg l (tI X.K cx (.sq e)):=by
 refine PI.imp (Kd hl) λσ H R h=>?_;obtain⟨G,F,δ,ds,δ',ok,ev,post⟩:=h;simp only[evI,ae,af]at ev;obtain⟨⟨d,δ1⟩,ea,ds',hd,e2⟩:=ev;cases e2;dsimp only at hd post;refine⟨G,F,δ,d,δ1,ok,ea,λv H1 F1 st1 sm1 ok1 r1=>?_⟩;have r:=dg n r1;unfold items at hd;split at hd
 .cases hd;unfold Rel at r;obtain⟨a,xs,e1,h1,h3⟩:=r;exact .inl ⟨a,e1,⟨xs,h1.sq⟩,post _ _ _ st1 sm1 ok1 (λ_=>EU ok1.fd h1 h3)⟩
 .cases hd;unfold Rel at r;obtain⟨a,xs,e1,h1,h3⟩:=r;exact .inr (.inl ⟨a,e1,⟨xs,h1⟩,post _ _ _ st1 sm1 ok1 (λ_=>IX ok1.fd h1 h3)⟩)
 .split at hd
  .cases hd;unfold Rel at r;exact .inr (.inr ⟨_,r,post _ _ _ st1 sm1 ok1 λ_=>IY⟩)
  .cases hd
 .cases hd
def Fv(n:(!bj e)=true)(hg:Gl X "range")(hm:X.mg "range"=none)(hy:PE X y (tE X.K cx e))(hs:starEach [y] X.env=[(false,eval y X.env)]):PI X tg (.Call (.Name "range" p) [y] [] pos) (tI X.K cx (.rng e)):=by
 refine PI.imp (zJ hg hm (dQ hy iM hs) hs) λσ H R h=>?_;obtain⟨G,F,δ,ds,δ',ok,ev,post⟩:=h;simp only[evI,ae,af]at ev;obtain⟨⟨d,δ1⟩,ea,ev⟩:=ev
 cases d with
 |int j =>
  dsimp only at ev;split at ev
  .rename_i hj;cases ev;refine⟨G,F,δ,.int j,_,ok,ea,λv H1 F1 st1 sm1 ok1 r1=>?_⟩;have r:=dg n r1;unfold Rel at r;subst r;exact⟨j,rfl,hj.1,hj.2,post _ _ _ st1 sm1 ok1 λ_=>IZ⟩
  .cases ev
 |_=>cases ev
end
section
variable{X:Cx}{cx:Cl}
def Itv(K:PySem.W.Frag)(a:av)(n:Nat):L2.It :=
 ⟨λi H=>∃xs x,SqL K H a xs/\xs.length=n/\xs.reverse[i]?=some x,λi H x H'=>H'=H/\∀xs,SqL K H a xs->xs.reverse[i]?=some x,λi _=>i=n⟩
def Bs{P:aP}{w:bA}{K:PySem.W.Frag}{tg:aE}(a it:av)(n:Nat):Turn P w K tg (Itv K a n) [it] it (λi h=>i<=n/\h.IsRevIter it a ((n:Int)-1-(i:Int)))where
 mem:=by simp
 obj:=λi h st b hb=>by
  have e:b=it:=by simpa using hb
  subst e;obtain⟨_,o,e,c,d⟩:=st;exact⟨o,e,λv z=>by rw[d]at z;cases z⟩
 keep:=λi h h' st k=>⟨st.1,st.2.at λo e=>k it ↥0 o e⟩
 item:=by
  intro X hP hw hK hc i pins s σ H E I hf st hg;subst hP hw hK;obtain⟨xs,x,hq,hn,hx⟩:=hg;obtain⟨its,rv,p,hz⟩:=I.list hq
  have hi:i<xs.length:=by
   have:=(aF.mp hx).1;simpa using this
  have hx':xs[xs.length-1-i]?=some x:=by rw[<- kF hi];exact hx
  obtain⟨u,hu,ru⟩:=rv.get hx';obtain⟨f0,f1,f2,f3,f4,f5⟩:=hf it ↥0;have ei:(n:Int)-1-(i:Int)=((xs.length-1-i:Nat):Int):=by lia
  have st2:=st.2;rw[ei]at st2;refine wpAny_pyNext_rev_item st2 p.isList (x:=u) (by simpa using hu) λh' st' sb=>?_;have I1:Inv X pins σ H {s with heap:=h'}:=I.turned (t':=s.toks) (λb o hb e=>(sb.2 b hb).trans e) f0 f1 f3 f4 f5;obtain⟨o,e,c,d⟩:=id st';have e2:((xs.length-1-i:Nat):Int)-1=(n:Int)-1-((i+1:Nat):Int):=by lia
  rw[e2]at st';exact⟨u,rfl,vv (s:={s with heap:=h'}) e c d ⇑0 ⟨x,H,I1,ru,⟨rfl,λys hy=>by rw[I.list_inj hy hq];exact hx⟩,⟨∅,st'⟩,λb hb=>(hf b hb).1⟩⟩
 done:=by
  intro X hP hw hK hc i pins s σ H E I hf st hg;subst hP hw hK;have hg:i=n:=hg;subst hg;obtain⟨f0,f1,f2,f3,f4,f5⟩:=hf it ↥0;have st2:=st.2;rw[show(i:Int)-1-(i:Int)=-1 by lia]at st2;exact wpAny_pyNext_rev_end (I.ok.hd hc) st2 λh' eb=>⟨rfl,I.turned (t':=s.toks) (λb o hb e=>eb b o hb e) f0 f1 f3 f4 f5⟩
 self:=λ_ _ _ _ _ st h=>HQ st.2 h
def Oj(K:PySem.W.Frag)(ta:TA):TI:=λσ H R=>ta σ H λvs H1=>∃a xs,vs=[.ref a]/\SqL K H1 a xs/\R (Itv K a xs.length) H1
def Kc{tg a:aE}{ta:TA}{p pos:Pos}(hg:Gl X "reversed")(hm:X.mg "reversed"=none)(ha:PA X [a] ta)(hs:starEach [a] X.env=[(false,eval a X.env)]):PI X tg (.Call (.Name "reversed" p) [a] [] pos) (Oj X.K ta):=by
 intro pins s σ H R I h;refine Call_ (pG I hg hm boot_reversed (gy (thn (ha pos pins s σ H _ I h) λus s1⟨vs,H1,I1,r1,q1⟩=>?_) hs rfl));obtain⟨a,xs,e,hq,q⟩:=q1;subst e;obtain⟨u,rfl,ru⟩:=r1.one;cases ru;obtain⟨its,rv,p,hz⟩:=I1.list hq;refine call_reversed_list p.isList ?_;have hl:=rv.length;have I2:=I1.kept (h':=s1.heap.push (revObj a ((its.toArray.size:Int)-1))) (t':=s1.toks) λb o e=>ax _ e;refine HQ (it:=s1.heap.objs.size) (l:=a) (i:=(its.toArray.size:Int)-1) ⟨_,aV _ rfl,rfl,rfl⟩ ?_;refine⟨s1.heap.objs.size,[s1.heap.objs.size],_,_,H1,rfl,I2,Bs a _ xs.length,⟨bM _,?_⟩,λb hb=>?_,q⟩
 .have e:(xs.length:Int)-1-((0:Nat):Int)=(its.toArray.size:Int)-1:=by simp;lia
  rw[e];exact⟨_,aV _ rfl,rfl,rfl⟩
 .have e:b=s1.heap.objs.size:=by simpa using hb
  subst e;exact I1.fpOk (aD _) (I1.hok.fresh (aD _))
def Ja{K:PySem.W.Frag}{G:Gh}{H:Hp}{F:av->Prop}{a:av}{xs:List V}{ds:List D}(fd:FD F H)(h1:Ls K H F a xs)(h3:aH K H F ds xs):Wk K G F H (Itv K a xs.length) ds.reverse:=by
 intro F2 H2 st fd2 i;have h4:=(h1.step st).sq;have h5:=aH.step fd st ds xs h3;have hl:=h5.length;refine⟨λd e=>?_,λe=>by show i=xs.length;rw[bb]at e;lia⟩
 have hi:i<ds.length:=by
  have:=(aF.mp e).1;simpa using this
 rw[kF hi]at e;obtain⟨v,hv,rv⟩:=h5.get e;have hv':xs.reverse[i]?=some v:=by rw[kF ∅,hl];exact hv
 refine⟨⟨xs,v,h4,rfl,hv'⟩,λx H3 y=>?_⟩;obtain⟨rfl,y⟩:=y;refine⟨λ_ _ e=>e,?_⟩;have:=y xs h4;rw[hv']at this;cases this;exact rv
def Fw(n:(!bj e)=true)(hg:Gl X "reversed")(hm:X.mg "reversed"=none)(hy:PE X y (tE X.K cx e))(hs:starEach [y] X.env=[(false,eval y X.env)]):PI X tg (.Call (.Name "reversed" p) [y] [] pos) (tI X.K cx (.rev e)):=by
 refine PI.imp (Kc hg hm (dQ hy iM hs) hs) λσ H R h=>?_;obtain⟨G,F,δ,ds,δ',ok,ev,post⟩:=h;simp only[evI,ae,af]at ev;obtain⟨⟨d,δ1⟩,ea,ev⟩:=ev
 cases d with
 |lst ds =>
  cases ev;refine⟨G,F,δ,.lst ds,_,ok,ea,λv H1 F1 st1 sm1 ok1 r1=>?_⟩;have r:=dg n r1;unfold Rel at r;obtain⟨a,xs,e1,h1,h3⟩:=r;subst e1
  exact⟨a,xs,rfl,h1.sq,post _ _ _ st1 sm1 ok1 λ_=>Ja ok1.fd h1 h3⟩
 |_=>cases ev
end
end PP
end
section
namespace PP
open PySem L2 PyProof.Rows Builtin.Str
variable[Tbs]
section
variable{X:Cx}{cx:Cl}
def rMt(K:PySem.W.Frag)(f:D->D->Option D):V->List V->Hp->VK->Prop:=λx vs H Q=>∃F a b d y,vs=[y]/\FD F H/\cZ K H F a x/\cZ K H F b y/\f a b=some d/\∀v H',fA H H'->Rel K H' F d v->Q v H'
def qI:∀(tk:Nat)(xs:List Str),∃l,strsFrom tk xs=strValues l/\l.map (·.1)=xs
 |tk,[]=>⟨[],rfl,rfl⟩
 |tk,x::xs=>by
  obtain⟨l,e1,e2⟩:=qI (tk+1) xs;exact⟨(x,tk)::l,by rw[strsFrom,e1];rfl,by rw[aw,e2]⟩
def qE:∀(l:List (Str×Tok)),Vals (l.map λp=>V.str p.1) (strValues l)
 |[]=>.nil
 |p::l=>.cons ⟨p.2,rfl⟩ (qE l)
def qM{K:PySem.W.Frag}{H:Hp}{F:av->Prop}:∀(l:List (Str×Tok)),aH K H F ((l.map (·.1)).map D.str) (l.map λp=>V.str p.1)
 |[]=>aH.nil
 |p::l=>aH.cons (eF _) (qM l)
def rSp(K:PySem.W.Frag):V->List V->Hp->VK->Prop:=λx vs H Q=>∃F a b ds y,vs=[y]/\cZ K H F a x/\cZ K H F b y/\mtD .split a b=some (.lst ds)/\∀p xs,H p=none->aH K H F ds xs->Q (.ref p) (upd H p (.lst xs))
def vd{pins:List (av×Obj)}{σ:L2.St}{H:Hp}{s:au}{F:av->Prop}{Q:VK}{l:List (Str×Tok)}{tk:Nat}(I:Inv X pins σ H s)(hl:l.length<=sizeLine)
 (q:∀p xs,H p=none->aH X.K H F ((l.map (·.1)).map .str) xs->Q (.ref p) (upd H p (.lst xs))):EP X pins σ Q (.ref s.heap.objs.size) {s with heap:=s.heap.push {cls:=.type "list",data:=.seq (strValues l).toArray},toks:=tk}:=by
 refine⟨.ref s.heap.objs.size,upd H s.heap.objs.size (.lst (l.map λp=>V.str p.1)),I.laid (t':=tk) (λb u e=>ax _ e) (aD _) ?_,rfl,q _ _ (I.hok.fresh (aD _)) (qM l)⟩;exact⟨by rw[ak];exact hl,strValues l,_,qE l,aV _ rfl⟩
def qW:MtR X "str.split" (rSp X.K):=by
 intro pins s σ H x xs v us Q I rx rv h;obtain⟨F,a,b,d,y,rfl,ra,rb,e,q⟩:=h;obtain⟨u,rfl,ru⟩:=rv.one
 cases a with
 |str x' =>
  cases b with
  |str y' =>
   have:=ra.str;subst this;have:=rb.str;subst this;obtain⟨t,rfl⟩:=rx;obtain⟨t',rfl⟩:=ru;unfold mtD at e;dsimp only at e;split at e
   .rename_i hc;obtain⟨c1,c2,c3⟩:=hc;cases e;have hy:(y'.length==0)=false:=by simp;lia
    have self:∀{tk:Nat},iL x' y'=[x']->EP X pins σ Q (.ref s.heap.objs.size) {s with heap:=s.heap.push {cls:=.type "list",data:=.seq [nX x' t].toArray},toks:=tk}:=λ{tk}e1=>by
     rw[e1]at q;exact vd (l:=[(x',t)]) I (show 1<=sizeLine by decide) q
    cases h1:(decide (x'.length<y'.length)||decide (strKind x'<strKind y'))with
    |true=>exact dR PySem.F.slot_str_split (fI s x' t) PySem.F.entry_str_split (PySem.F.args_str_split_2 _ _) (meets_str_split_cannot_occur x' y' t t' h1) (self (tk:=s.toks) (by unfold iL;rw[h1];rfl))
    |false =>
     cases h2:(occurrences x' y' 0 x'.length (x'.length+1)).isEmpty with
     |true=>exact dR PySem.F.slot_str_split (fI s x' t) PySem.F.entry_str_split (PySem.F.args_str_split_2 _ _) (meets_str_split_not_found x' y' t t' h1 hy h2) (self (tk:=s.toks) (by unfold iL;rw[h1,h2];rfl))
     |false =>
      have e3:iL x' y'=partsBetween x' (occurrences x' y' 0 x'.length (x'.length+1)) y'.length:=by unfold iL;rw[h1,h2];rfl
      rw[e3]at c3 q;refine dR PySem.F.slot_str_split (fI s x' t) PySem.F.entry_str_split (PySem.F.args_str_split_2 _ _) (meets_str_split_sep x' y' t t' h1 hy h2 c2 c3) ?_;obtain⟨l,el,em⟩:=qI s.toks (partsBetween x' (occurrences x' y' 0 x'.length (x'.length+1)) y'.length);show EP X pins σ Q (.ref s.heap.objs.size) _;rw[el];rw[<- em]at q c3 |-;exact vd I (by rw[ak]at c3;exact c3) q
   .cases e
  |_=>cases e
 |_=>cases e
def Dl:MtR X "str.split" (rMt X.K (mtD .split)):=by
 intro pins s σ H x xs v us Q I rx rv h;obtain⟨F,a,b,d,y,e0,fd,ra,rb,e,q⟩:=h
 obtain⟨ds,rfl⟩:∃ds,d=.lst ds:=by
  cases a<;>cases b<;>first|(cases e;done)|skip
  unfold mtD at e;dsimp only at e;split at e
  .cases e;exact⟨_,rfl⟩
  .cases e
 refine qW pins s σ H x xs v us Q I rx rv ⟨F,a,b,ds,y,e0,ra,rb,e,λp xs hp r=>q _ _ (cF hp _) ?_⟩;unfold Rel;exact⟨p,xs,rfl,.inl ⟨.inl bI,va fd hp⟩,aH.step (G:=g0) fd (Step.of_same (cF hp _)) _ _ r⟩
def GX:MtR X "str.partition" (rMt X.K (mtD .part)):=by
 intro pins s σ H x xs v us Q I rx rv h;obtain⟨F,a,b,d,y,rfl,fd,ra,rb,e,q⟩:=h;obtain⟨u,rfl,ru⟩:=rv.one
 cases a with
 |str x' =>
  cases b with
  |str y' =>
   have:=ra.str;subst this;have:=rb.str;subst this;obtain⟨t,rfl⟩:=rx;obtain⟨t',rfl⟩:=ru;unfold mtD at e;dsimp only at e;split at e
   .rename_i hc;obtain⟨c1,c2⟩:=hc;cases e;have hy:(y'.length==0)=false:=by simp;lia
    have fin:∀{a b c:Str}{t1 t2 t3:Tok}{tk:Nat},jG x' y'=(a,b,c)->EP X pins σ Q (.ref s.heap.objs.size) {s with heap:=s.heap.push {cls:=.type "tuple",data:=.seq [nX a t1,.str b t2,.str c t3].toArray},toks:=tk}:=λ{a b c t1 t2 t3 tk}e1=>by
     rw[e1]at q;have hp:H s.heap.objs.size=none:=I.hok.fresh (aD _);refine⟨.ref s.heap.objs.size,upd H s.heap.objs.size (.tup [.str a,.str b,.str c]),I.laid (t':=tk) (λb u e=>ax _ e) (aD _) ⟨show 3<=sizeLine by decide,_,.cons ⟨t1,rfl⟩ (.cons ⟨t2,rfl⟩ (.cons ⟨t3,rfl⟩ .nil)),⟨_,aV _ rfl,rfl,_,rfl⟩⟩,rfl,q _ _ (cF hp _) ?_⟩;unfold Rel;exact⟨_,_,rfl,SqT.of bI,aH.cons (eF _) (aH.cons (eF _) (aH.cons (eF _) aH.nil))⟩
    refine dR PySem.F.slot_str_partition (fI s x' t) PySem.F.entry_str_partition (PySem.F.args_str_partition_2 _ _) (meets_str_partition x' y' t t' hy c2) ?_;show EP X pins σ Q (.ref s.heap.objs.size) (match occurrences x' y' 0 x'.length 1 with|i::_=>_|[]=>_)
    cases e2:occurrences x' y' 0 x'.length 1 with
    |nil=>exact fin (by unfold jG;rw[e2])
    |cons i r=>exact fin (by unfold jG;rw[e2])
   .cases e
  |_=>cases e
 |_=>cases e
def Ha:MtR X "str.endswith" (rMt X.K (mtD .ends)):=by
 intro pins s σ H x xs v us Q I rx rv h;obtain⟨F,a,b,d,y,rfl,fd,ra,rb,e,q⟩:=h;obtain⟨u,rfl,ru⟩:=rv.one
 cases a with
 |str x' =>
  cases b with
  |str y' =>
   have:=ra.str;subst this;have:=rb.str;subst this;obtain⟨t,rfl⟩:=rx;obtain⟨t',rfl⟩:=ru;cases e;refine call_gives PySem.F.slot_str_endswith (fI s x' t) PySem.F.entry_str_endswith (PySem.F.args_str_endswith_2 _ _) (gives_str_endswith x' y' t t') ⟨.bl _,H,I,rfl,?_⟩;rw[xF]
   exact q _ _ (fA.refl H) (iq _)
  |_=>cases e
 |_=>cases e
def GZ:MtR X "str.find" (rMt X.K (mtD .find)):=by
 intro pins s σ H x xs v us Q I rx rv h;obtain⟨F,a,b,d,y,rfl,fd,ra,rb,e,q⟩:=h;obtain⟨u,rfl,ru⟩:=rv.one
 cases a with
 |str x' =>
  cases b with
  |str y' =>
   have:=ra.str;subst this;have:=rb.str;subst this;obtain⟨t,rfl⟩:=rx;obtain⟨t',rfl⟩:=ru;cases e;refine call_gives PySem.F.slot_str_find (fI s x' t) PySem.F.entry_str_find (PySem.F.args_str_find_2 _ _) (gives_str_find x' y' t t') ⟨.int _,H,I.tok _,⟨_,rfl⟩,?_⟩
   exact q _ _ (fA.refl H) (cA _)
  |_=>cases e
 |_=>cases e
def qG:∀{ds:List D}{ts:List Str},oW ds=some ts->ds=ts.map .str
 |[],ts,e=>by cases e;rfl
 |d::ds,ts,e=>by
  cases d with
  |str x =>
   unfold oW at e;rw[aj]at e;obtain⟨us,e,rfl⟩:=e;rw[qG e]
   rfl
  |_=>cases e
def yA{K:PySem.W.Frag}{H:Hp}{F:av->Prop}:∀{ts:List Str}{xs:List V}{us:List ai},aH K H F (ts.map .str) xs->Vals xs us->∃l,us=strValues l/\l.map (·.1)=ts
 |[],xs,us,r,v=>by
  have e:xs=[]:=by rw[dm]at r;unfold aH at r;exact r
  subst e;cases v
  exact⟨[],rfl,rfl⟩
 |t::ts,xs,us,r,v=>by
  rw[aw]at r;unfold aH at r;obtain⟨y,ys,rfl,h1,h2⟩:=r
  cases v with
  |cons r1 r2 =>
   unfold Rel at h1;subst h1;obtain⟨tk,rfl⟩:=r1;obtain⟨l,rfl,e⟩:=yA h2 r2;exact⟨(t,tk)::l,rfl,by rw[aw,e]⟩
def GY:MtR X "str.join" (rMt X.K (mtD .join)):=by
 intro pins s σ H x xs v us Q I rx rv h;obtain⟨F,a,b,d,y,rfl,fd,ra,rb,e,q⟩:=h;obtain⟨u,rfl,ru⟩:=rv.one
 cases a with
 |str x' =>
  cases b with
  |lst ds =>
   have:=ra.str;subst this;obtain⟨a,ys,rfl,h1,h2⟩:=rb.lst;obtain⟨t,rfl⟩:=rx;cases ru;unfold mtD at e;dsimp only at e;rw[af]at e;obtain⟨ts,et,e⟩:=e;split at e
   .rename_i hc;cases e;obtain⟨its,rv,p,hz⟩:=I.list h1.sq;rw[qG et]at h2;obtain⟨l,rfl,em⟩:=yA h2 rv;rw[<- em]at hc q;refine dR PySem.F.slot_str_join (fI s x' t) PySem.F.entry_str_join (PySem.F.args_str_join_2 _ _) (meets_str_join_list x' t a l hc.1) ⟨p.isList,?_⟩;have big:∀(g:Str),g=glued x' (l.map (·.1))->EP X pins σ Q (.str g s.toks) {s with toks:=s.toks+1}:=λg eg=>⟨.str g,H,I.kept (h':=s.heap) (t':=s.toks+1) λb o e=>e,⟨_,rfl⟩,q _ _ (fA.refl H) (by rw[eg];exact eF _)⟩
    cases l with
    |nil=>exact⟨hc.2,big _ rfl⟩
    |cons c l =>
     cases l with
     |nil=>exact⟨.str c.1,H,I,⟨_,rfl⟩,q _ _ (fA.refl H) (eF _)⟩
     |cons c' l=>exact⟨hc.2,big _ rfl⟩
   .cases e
  |_=>cases e
 |_=>cases e
def rm{h:bV}{a:D}:∀{ds:List D}{us:List ai},RdL h ds us->us.findIdx? (isEq h a)=ds.findIdx? λd=>eqD d a
 |[],us,r=>by unfold RdL at r;subst r;rfl
 |d::ds,us,r=>by
  unfold RdL at r;obtain⟨w,ws,rfl,h1,h2⟩:=r;rw[mH,mH,sJ h1,rm h2]
def Dp(hu:X.A.units+200<cLine):MtR X "list.index" (rMt X.K (mtD .index)):=by
 intro pins s σ H x xs v us Q I rx rv h;obtain⟨F,a,b,d,y,rfl,fd,hb,ha,e,q⟩:=h;obtain⟨u,rfl,ru⟩:=rv.one
 cases a with
 |lst ds =>
  unfold mtD at e;dsimp only at e;split at e
  .rename_i hd;rw[aj]at e;obtain⟨i,ei,rfl⟩:=e;have ra:=fj I ha ru ∅;have rb:=fj I hb rx (by unfold dep;lia);unfold RdV at rb;obtain⟨l',its',rfl,k1,k2⟩:=rb;obtain⟨⟨cls,dd,data,sl⟩,ho,hc,n,hdt⟩:=id k1;simp only at hc hdt;subst hc hdt;rw[<- rm k2]at ei;obtain⟨hi,e1,e2⟩:=gb.mp ei
   have hz:its'.size<=sizeLine:=by
    obtain⟨a',ys,ea,h1,h2⟩:=hb.lst;subst ea;obtain⟨its,rv2,p,hz⟩:=I.list h1.sq;obtain⟨o,ho',_,n',hd'⟩:=p.isList;cases rx;rw[ho]at ho';cases ho';cases hd';have e3:=rv2.length;simp only[aB]
    lia
   refine dR PySem.F.slot_list_index ⟨_,ho,rfl⟩ PySem.F.entry_list_index (PySem.F.args_list_index_2 _ _) (PySem.SeqAt.list_indexAt l' its' n dd sl u (isEq s.heap b) i (by simpa using hi) ?_ (by simpa using e1) λm hm h2=>?_) ⟨ho,λw hw=>iY ra (by show X.A.units+1+_<_;lia) k2 w (by simpa using hw),?_⟩
   .have:sizeLine<2^63-1:=by decide
    have hi':i<its'.size:=by simpa using hi
    lia
   .simpa using e2 m h2
   .exact⟨.int i,H,I.kept (h':=s.heap) (t':=s.toks+1) λb o e=>e,⟨_,rfl⟩,q _ _ (fA.refl H) (cA _)⟩
  .cases e
 |_=>cases e
def yW{y:aE}{n:Str}{env:Env}(h:(ft y==0||ft y==1||ft y==9)=true):attributeBase y n env (eval y env)=eval y env:=by
 rw[bF,bF]at h;rcases h with(h|h)|h
 .obtain⟨⟨_,_,rfl⟩,_⟩:=cK (b:=true) (by rw[cT];exact h);rfl
 .obtain⟨⟨_,_,_,rfl⟩,_⟩:=cK (b:=true) (by rw[cT];exact h);rfl
 .obtain⟨⟨_,_,_,rfl⟩,_⟩:=cK (b:=true) (by rw[cT];exact h);rfl
def ku{m:Mt}{T id:String}{a b:E}{y z:aE}{ap cp:Pos}(pa:Mb T)(slot:Slot T (mtN m) id)(hty:typeOf (.builtin id)=pure (.type "method_descriptor"))(hm:MtR X id (rMt X.K (mtD m)))
 (htv:∀{F H v x y d},mtD m x y=some d->cZ X.K H F x v->tyV X.K T v H)(na:(!bj a)=true)(nb:(!bj b)=true)(ha:PE X y (tE X.K cx a))(hb:PE X z (tE X.K cx b))(hl:ap.endLine=cp.line)
 (hbase:attributeBase y (mtN m) X.env (eval y X.env)=eval y X.env)(hs:starEach [z] X.env=[(false,eval z X.env)])
 (hfew:((backTo cp (starEach [z] X.env)).all (λx=>!x.1)&&(backToKw cp (keywordEach [] X.env)).all (λx=>x.1.isSome)
   && decide (([z]:List aE).length+([]:List dP).length+(if([]:List dP).isEmpty then 0 else 1)<30))=true) :
 PE X (.Call (.Attribute y (mtN m) ap) [z] [] cp) (tE X.K cx (.mt m a b)):=by
 have hA:PA X [z] (tEs X.K cx (.cons b .nil)):=jU (by simp[npS]) hb lU hs;refine PE.imp (uT pa slot hty hm ha hA hbase hfew (by simpa using hl) hs rfl) λσ H Q h=>?_;obtain⟨G,F,δ,d,δ',ok,ev,post⟩:=h;simp only[evE,ae,af]at ev;obtain⟨⟨x,δ1⟩,ea,⟨y',δ2⟩,eb,d',ed,e⟩:=ev;cases e;dsimp only at eb ed;refine⟨G,F,δ,_,δ1,ok,ea,λv H1 F1 st1 sm1 ok1 r1=>⟨htv ed r1.b,G,F1,δ1,[y'],δ2,ok1,by simp[cS,eb],λvs H2 F2 st2 sm2 ok2 r=>?_⟩⟩;obtain⟨d',ds',u,vs',ed',rfl,ru,rn⟩:=r;cases ed';obtain⟨_,rfl⟩:=rn;have r1':=Rel.step ok1.fd st2 _ _ (dg na r1);refine⟨F2,x,y',_,u,rfl,ok2.fd,.inl r1',ru.b,ed,λw H3 s3 r3=>post w H3 F2 ((st1.trans st2).trans (Step.of_same s3)) (λz=>?_) (ok2.same' s3) (eL r3)⟩;have z':=(aa _ _).mp (show(np a&&np b)=true from z);exact((sm1 z'.1).trans (sm2 (by simpa[npS]using z'.2))).trans (.of s3)
def tyS{m:Mt}{H:Hp}{F:av->Prop}{v:V}{x y d:D}(hm:∀x y d,mtD m x y=some d->∃t,x=.str t)(e:mtD m x y=some d)(r:cZ X.K H F x v):tyV X.K "str" v H:=by
 obtain⟨t,rfl⟩:=hm _ _ _ e;rw[r.str];rfl
def JH(hu:X.A.units+200<cLine){m:Mt}{a b:E}{y z:aE}{ap cp:Pos}(na:(!bj a)=true)(nb:(!bj b)=true)(ha:PE X y (tE X.K cx a))(hb:PE X z (tE X.K cx b))(hl:ap.endLine=cp.line)
 (hbase:attributeBase y (mtN m) X.env (eval y X.env)=eval y X.env)(hs:starEach [z] X.env=[(false,eval z X.env)])
 (hfew:((backTo cp (starEach [z] X.env)).all (λx=>!x.1)&&(backToKw cp (keywordEach [] X.env)).all (λx=>x.1.isSome)
   && decide (([z]:List aE).length+([]:List dP).length+(if([]:List dP).isEmpty then 0 else 1)<30))=true) :
 PE X (.Call (.Attribute y (mtN m) ap) [z] [] cp) (tE X.K cx (.mt m a b)):=by
 cases m with
 |split=>exact ku PySem.F.plainAttrs_str PySem.F.slot_str_split PySem.F.type_str_split Dl (tyS λx y d e=>by cases x<;>first|exact⟨_,rfl⟩|cases e) na nb ha hb hl hbase hs hfew
 |part=>exact ku PySem.F.plainAttrs_str PySem.F.slot_str_partition PySem.F.type_str_partition GX (tyS λx y d e=>by cases x<;>first|exact⟨_,rfl⟩|cases e) na nb ha hb hl hbase hs hfew
 |ends=>exact ku PySem.F.plainAttrs_str PySem.F.slot_str_endswith PySem.F.type_str_endswith Ha (tyS λx y d e=>by cases x<;>first|exact⟨_,rfl⟩|cases e) na nb ha hb hl hbase hs hfew
 |find=>exact ku PySem.F.plainAttrs_str PySem.F.slot_str_find PySem.F.type_str_find GZ (tyS λx y d e=>by cases x<;>first|exact⟨_,rfl⟩|cases e) na nb ha hb hl hbase hs hfew
 |join=>exact ku PySem.F.plainAttrs_str PySem.F.slot_str_join PySem.F.type_str_join GY (tyS λx y d e=>by cases x<;>first|exact⟨_,rfl⟩|cases e) na nb ha hb hl hbase hs hfew
 |index =>
  refine ku PySem.F.plainAttrs_list PySem.F.slot_list_index PySem.F.type_list_index (Dp hu) (λ{F H v x y d}e r=>?_) na nb ha hb hl hbase hs hfew
  cases x with
  |lst ds =>
   obtain⟨p,xs,e1,h1,h2⟩:=r.lst;rw[e1]
   exact .inl ⟨rfl,xs,h1.sq⟩
  |_=>cases e
def NH{H:Hp}{F:av->Prop}{v:V}{x y d:D}(e:mtD .split x y=some d)(r:cZ X.K H F x v):tyV X.K "str" v H:=tyS (λx y d e=>by cases x<;>first|exact⟨_,rfl⟩|cases e) e r
def Ei{o1 o2:Cop}{a b e:E}{σ:L2.St}{G:Gh}{H:Hp}{F:av->Prop}{δ δ1 δ2:Loc}{x y:D}{k:Bool}{Q:VK}(na:(!bj a)=true)(nb:(!bj b)=true)(ne:(!bj e)=true)(ok:Ok X.K G F σ H δ)
 (ea:evE cx a δ=some (x,δ1))(eb:evE cx b δ1=some (y,δ2))(ek:gu o1 x y=some k)
 (q:∀H2 F2,Step G F H F2 H2->((np a&&np b)=true->Sim H H2)->Ok X.K G F2 σ H2 δ2->k=false->Q (.bl false) H2)
 (r:k=true->∃z δ3 k2,evE cx e δ2=some (z,δ3)/\gu o2 y z=some k2/\∀H3 F3,Step G F H F3 H3->((np a&&np b&&np e)=true->Sim H H3)->Ok X.K G F3 σ H3 δ3->Q (.bl k2) H3) :
 wc (rC X.K o1) (rC X.K o2) (tE X.K cx a) (tE X.K cx b) (tE X.K cx e) σ H Q:=by
 have pc:(!bj a||np b)=true:=by rw[na];rfl
 refine two ok ea eb pc λv u H2 F2 st sm ok2 r1 r2=>?_;refine⟨F2,x,y,k,r1.b,r2.b,ek,k,rfl,?_⟩
 cases k with
 |false=>exact q H2 F2 st sm ok2 rfl
 |true =>
  obtain⟨z,δ3,k2,ee,ek2,q2⟩:=r rfl;rw[if_pos rfl];refine⟨G,F2,δ2,z,δ3,ok2,ee,λw H3 F3 st3 sm3 ok3 r3=>⟨F3,y,z,k2,.inl (Rel.step ok2.fd st3 _ _ (dg nb r2)),r3.b,ek2,q2 H3 F3 (st.trans st3) (λz=>?_) ok3⟩⟩;rw[aa]at z;exact(sm z.1).trans (sm3 z.2)
def FO(hu:X.A.units+200<cLine){o1 o2:Cop}{p1 p2:ue}{a b e:E}{y z w:aE}{pos:Pos}(h1:jc o1 p1=true)(h2:jc o2 p2=true)(na:(!bj a)=true)(nb:(!bj b)=true)(ne:(!bj e)=true)
 (ha:PE X y (tE X.K cx a))(hb:PE X z (tE X.K cx b))(he:PE X w (tE X.K cx e))(hm:behindInMarks p2 w=false):PE X (.Compare y [p1,p2] [z,w] pos) (tE X.K cx (.chn o1 o2 a b e)):=by
 refine PE.imp (CN (opC hu h1) (opC hu h2) ha hb he hm) λσ H Q h=>?_;obtain⟨G,F,δ,d,δ',ok,ev,post⟩:=h;simp only[evE,ae,af]at ev;obtain⟨⟨x,δ1⟩,ea,⟨y',δ2⟩,eb,k,ek,ev⟩:=ev;dsimp only at eb ek ev;have npE:∀{A:Prop},((np a&&np b&&np e)=true->A)->np (.chn o1 o2 a b e)=true->A:=λf z=>f z;refine Ei na nb ne ok ea eb ek (λH2 F2 st sm ok2 k0=>?_) λk1=>?_
 .rw[k0,if_neg aq]at ev;cases ev;exact post _ H2 F2 st (npE λz=>sm ((aa _ _).mp z).1) ok2 (eL (iq _))
 .rw[k1,if_pos rfl]at ev;simp only[af]at ev;obtain⟨⟨z',δ3⟩,ee,k2,ek2,e9⟩:=ev;cases e9;exact⟨z',δ3,k2,ee,ek2,λH3 F3 st sm ok3=>post _ H3 F3 st (npE sm) ok3 (eL (iq _))⟩
def BL(hu:X.A.units+200<cLine){o1 o2:Cop}{p1 p2:ue}{a b e:E}{y z w:aE}{pos:Pos}(h1:jc o1 p1=true)(h2:jc o2 p2=true)(na:(!bj a)=true)(nb:(!bj b)=true)(ne:(!bj e)=true)
 (ha:PE X y (tE X.K cx a))(hb:PE X z (tE X.K cx b))(he:PE X w (tE X.K cx e))(hm:behindInMarks p2 w=false):PT X (.Compare y [p1,p2] [z,w] pos) (tT X.K cx (.chn o1 o2 a b e)):=by
 refine PT.imp (Cu (opC hu h1) (opC hu h2) ha hb he hm) λσ H Q h=>?_;obtain⟨G,F,δ,d,δ',ok,ev,post⟩:=h;simp only[evT,ae,af]at ev;obtain⟨⟨x,δ1⟩,ea,⟨y',δ2⟩,eb,k,ek,ev⟩:=ev;dsimp only at eb ek ev;have npE:∀{A:Prop},((np a&&np b&&np e)=true->A)->np (.chn o1 o2 a b e)=true->A:=λf z=>f z;refine Ei na nb ne ok ea eb ek (λH2 F2 st sm ok2 k0=>?_) λk1=>?_
 .rw[k0,if_neg aq]at ev;cases ev;exact⟨false,rfl,post H2 F2 st (npE λz=>sm ((aa _ _).mp z).1) ok2⟩
 .rw[k1,if_pos rfl]at ev;simp only[af]at ev;obtain⟨⟨z',δ3⟩,ee,k2,ek2,e9⟩:=ev;cases e9;exact⟨z',_,_,ee,ek2,λH3 F3 st sm ok3=>⟨_,rfl,post H3 F3 st (npE sm) ok3⟩⟩
end
end PP
end
section
namespace PP
open PySem L2 PyProof.Rows
variable[Tbs]
section
variable{X:Cx}{cx:Cl}
def GdK(w:bA)(K:PySem.W.Frag)(a:av)(D:List (Str×Int)):Prop :=
 KTD.tabLook KTD.flatLooks (λb=>K.lookup b) a (D.map λp=>(p.1,jI p.2))=true/\(D.map (·.1)).Nodup/\KTD.hashesOf (λb=>K.lookup b) a=D.map λp=>hashStr w p.1
def xa{pins:List (av×Obj)}{σ:L2.St}{H:Hp}{s:au}{a:av}{D:List (Str×Int)}(g:GdK X.w X.K a D)(I:Inv X pins σ H s):StrTab X.prog X.w s.heap a ((D.map λp=>(p.1,jI p.2)).map λp=>(jH p.1,p.2)) :=
 KTD.strTab_of_look X.prog X.w I.kIn g.1 (by rw[jP];exact g.2.1) (g.2.2.trans (by rw[jP];rfl))
def oE:∀{D:List (Str×Int)},PySem.Spec.lookup (.str x) ((D.map λp=>(p.1,jI p.2)).map λp=>(jH p.1,p.2))=(D.lookup x).map jI
 |[]=>rfl
 |(k,i)::D=>by
  have ih:=oE (x:=x) (D:=D);rw[aw,aw,bp];unfold PySem.Spec.lookup;have es:EN (jH k) (jH x)=(k==x):=by unfold EN;rfl
  show(if EN (jH k) (jH x)=true then some (jI i)else _)=_;rw[es];by_cases h:x=k
  .subst h;rw[if_pos (beq_self_eq_true x),beq_self_eq_true x];rfl
  .rw[if_neg (λz=>h (eq_of_beq z).symm),show(x==k)=false from beq_eq_false_iff_ne.mpr h];exact ih
def CS{a:av}{D:List (Str×Int)}(g:GdK X.w X.K a D):OpR X (compareOp .In) (λx y H Q=>∃t,x=.str t/\y=.ref a/\Q (.bl (D.lookup t).isSome) H):=by
 intro pins s σ H x y v u Q I rx ry h;obtain⟨t,rfl,rfl,q⟩:=h;obtain⟨tk,rfl⟩:=rx;cases ry;refine in_strTab (xa g I) ⟨.bl _,H,I.kept (h':=s.heap) (t':=s.toks+1) λb o e=>e,rfl,?_⟩;rw[oE,Av];exact q
def yw{a:av}{D:List (Str×Int)}(g:GdK X.w X.K a D):OpR X (compareOp .NotIn) (λx y H Q=>∃t,x=.str t/\y=.ref a/\Q (.bl (!(D.lookup t).isSome)) H):=by
 intro pins s σ H x y v u Q I rx ry h;obtain⟨t,rfl,rfl,q⟩:=h;obtain⟨tk,rfl⟩:=rx;cases ry;refine notin_strTab (xa g I) ⟨.bl _,H,I.kept (h':=s.heap) (t':=s.toks+1) λb o e=>e,rfl,?_⟩;rw[oE,Av];exact q
def Mu(a:av)(D:List (Str×Int))(ty:TE):TE:=λσ H Q=>ty σ H λy H1=>∃t i,y=.str t/\D.lookup t=some i/\Q (.int i) H1
def Kj{a:av}{D:List (Str×Int)}{n:Str}{p pos:Pos}{y:aE}{ty:TE}(g:GdK X.w X.K a D)(hg:Gl X n)(hm:X.mg n=some (.ref a))(hd:(n==("__debug__":Str))=false)(hy:PE X y ty)
 (hs:∀t tk,subscripted y false (.ref a) (.str t tk)=operate [.ref a,.str t tk] (getItem (.ref a) (.str t tk))):PE X (.Subscript (.Name n p) y pos) (Mu a D ty):=by
 intro pins s σ H Q I h;refine xD (thn (oy (v:=.ref a) hg hm rfl hd pins s σ H (λv H1=>v=.ref a/\Mu a D ty σ H1 Q) I ⟨rfl,h⟩) λu s1 z=>?_);obtain⟨v,H1,I1,rv,rfl,h⟩:=z;cases rv;refine thn (hy pins s1 σ H1 _ I1 h) λw s2 z=>?_;obtain⟨y',H2,I2,ry,t,i,rfl,el,q⟩:=z;obtain⟨tk,rfl⟩:=ry;refine item_strTab (xa g I2) (dv:=.int i) (by rw[oE,el];rfl) (λv hv=>?_) (hs t tk) (λr=>rfl);obtain⟨t',rfl⟩:=hv.int_inv;exact⟨.int i,H2,I2.kept (h':=s2.heap) (t':=s2.toks+1) λb o e=>e,⟨_,rfl⟩,q⟩
def FI(g:GdK X.w X.K a l)(hg:Gl X n)(hm:X.mg n=some (.ref a))(hd:(n==("__debug__":Str))=false)
 (ho:jc (if ng then .notin else .isin) o=true)(ne:(!bj e)=true)(hy:PE X y (tE X.K cx e)):PE X (.Compare y [o] [.Name n p] pos) (tE X.K cx (.gin ng n l e)):=by
 have op:OpR X (compareOp o) (λx y H Q=>∃t,x=.str t/\y=.ref a/\Q (.bl ((l.lookup t).isSome != ng)) H):=by
  cases ng with
  |false =>
   cases o<;>first|(exact absurd ho aq)|skip
   exact OpR.imp (CS g) λx y H Q⟨t,e1,e2,q⟩=>⟨t,e1,e2,by simpa using q⟩
  |true =>
   cases o<;>first|(exact absurd ho aq)|skip
   exact OpR.imp (yw g) λx y H Q⟨t,e1,e2,q⟩=>⟨t,e1,e2,by simpa using q⟩
 refine PE.imp (yq op hy (oy (v:=.ref a) hg hm rfl hd) rfl) λσ H Q h=>?_;obtain⟨G,F,δ,d,δ',ok,ev,post⟩:=h;simp only[evE,ae,af]at ev;obtain⟨⟨x,δ1⟩,ea,ev⟩:=ev
 cases x with
 |str t =>
  cases ev
  exact⟨G,F,δ,_,_,ok,ea,λv H1 F1 st sm ok1 r=>⟨t,r.b.str,rfl,post _ H1 F1 st sm ok1 (eL (iq _))⟩⟩
 |_=>cases ev
def BJ(g:GdK X.w X.K a l)(hg:Gl X n)(hm:X.mg n=some (.ref a))(hd:(n==("__debug__":Str))=false)
 (ho:jc (if ng then .notin else .isin) o=true)(ne:(!bj e)=true)(hy:PE X y (tE X.K cx e)):PT X (.Compare y [o] [.Name n p] pos) (tT X.K cx (.gin ng n l e)):=by
 have op:OpR X (compareOp o) (λx y H Q=>∃t,x=.str t/\y=.ref a/\Q (.bl ((l.lookup t).isSome != ng)) H):=by
  cases ng with
  |false =>
   cases o<;>first|(exact absurd ho aq)|skip
   exact OpR.imp (CS g) λx y H Q⟨t,e1,e2,q⟩=>⟨t,e1,e2,by simpa using q⟩
  |true =>
   cases o<;>first|(exact absurd ho aq)|skip
   exact OpR.imp (yw g) λx y H Q⟨t,e1,e2,q⟩=>⟨t,e1,e2,by simpa using q⟩
 refine PT.imp (yj op hy (oy (v:=.ref a) hg hm rfl hd) rfl) λσ H Q h=>?_;obtain⟨G,F,δ,d,δ',ok,ev,post⟩:=h;simp only[evT,ae,af]at ev;obtain⟨⟨x,δ1⟩,ea,ev⟩:=ev
 cases x with
 |str t =>
  cases ev
  exact⟨G,F,δ,_,_,ok,ea,λv H1 F1 st sm ok1 r=>⟨t,r.b.str,rfl,_,rfl,post H1 F1 st sm ok1⟩⟩
 |_=>cases ev
def FH(g:GdK X.w X.K a l)(hg:Gl X n)(hm:X.mg n=some (.ref a))(hd:(n==("__debug__":Str))=false)(ne:(!bj e)=true)
 (hy:PE X y (tE X.K cx e))(hs:∀t tk,subscripted y false (.ref a) (.str t tk)=operate [.ref a,.str t tk] (getItem (.ref a) (.str t tk))):PE X (.Subscript (.Name n p) y pos) (tE X.K cx (.gix n l e)):=by
 refine PE.imp (Kj g hg hm hd hy hs) λσ H Q h=>?_;obtain⟨G,F,δ,d,δ',ok,ev,post⟩:=h;simp only[evE,ae,af]at ev;obtain⟨⟨x,δ1⟩,ea,ev⟩:=ev
 cases x with
 |str t =>
  rw[aj]at ev;obtain⟨i,el,e9⟩:=ev;cases e9
  exact⟨G,F,δ,_,_,ok,ea,λv H1 F1 st sm ok1 r=>⟨t,i,r.b.str,el,post _ H1 F1 st sm ok1 (eL (cA _))⟩⟩
 |_=>cases ev
end
def spO(K:PySem.W.Frag)(f:List D->Option D):Sp:=λvs H Q _=>∃F ds zs,FD F H/\TF F/\lC H/\aH K H F ds vs/\f ds=some zs/\∀a v H',Sim H H'->lC H'->H a=none->Hand K H' (λb=>F b\/b=a) a zs v->Q v H'
structure Cok(X:Cx)(c:Ck)(cx:Cl)(k:Nat):Prop where
 hN:X.N=c.N
 nd:c.N.Nodup
 vis:∀x,Vis c.sc x->Vis X.env.scope x
 gl:∀x,c.sc.names.lookup x=some .globalImplicit->Gl X x
 st:∀x,L2.Loc c.sc x->L2.Loc X.env.scope x/\(X.fn x=true\/X.env.scope.names.lookup x=some .local)
 kc:∀x,(c.sc.names.lookup x=some .cell\/c.sc.names.lookup x=some .free)->X.env.kindOf x=some .cell\/X.env.kindOf x=some .free
 calm:X.calm=true
 xe:X.xe=λ_ _=>False
 room:jL k X.A
 fns:∀(f:Nat)(x:Str)(ps:List Str),c.fns[f]?=some (x,ps)->∃a fd,X.mg x=some (.ref a)/\PySem.W.keepIn X.K (.ref a)=true/\Binds X.K fd ps []/\gB X.prog X.w X.K X.mg X.base CX0 k a fd ps (spF X.K (cx.call f))
 fnO:∀(f:Nat)(x:Str)(ps:List Str),c.fns[f]?=some (x,ps)->∃a fd,X.mg x=some (.ref a)/\PySem.W.keepIn X.K (.ref a)=true/\Binds X.K fd ps []/\gB X.prog X.w X.K X.mg X.base CX0 k a fd ps (spO X.K (cx.call (f+sv)))
 fnD:∀(f:Nat)(x:Str)(ps:List Str),c.fns[f]?=some (x,ps)->f∈Tbs.dfs->∃a fd,X.mg x=some (.ref a)/\PySem.W.keepIn X.K (.ref a)=true/\Binds X.K fd ps [.none]/\gB X.prog X.w X.K X.mg X.base CX0 k a fd ps (spF X.K (cx.call f))
 blt:∀x,x∈jd->X.mg x=none
 glob:∀(g:Nat)(x:Str)(d:D),c.gn[g]?=some x->cx.gl[g]?=some d->∃u v,X.mg x=some u/\RelV v u/\∀H F,Rel X.K H F d v
 gsome:∀(g:Nat)(x:Str),c.gn[g]?=some x->∃d,cx.gl[g]?=some d
 gds:∀(n:Str)(l:List (Str×Int)),Tbs.gds.lookup n=some l->∃a,X.mg n=some (.ref a)/\GdK X.w X.K a l
 pos:k=0->∀f ds,cx.call f ds=none
def Bp(h:zu sc x=true):Vis sc x:=by
 unfold zu at h;split at h
 .exact .inl ‹_›
 .exact .inr (.inl ‹_›)
 .exact .inr (.inr ‹_›)
 .cases h
def Du(h:KQ sc x=true):L2.Loc sc x:=by
 unfold KQ at h;split at h
 .exact .inl ‹_›
 .exact .inr ‹_›
 .cases h
def Li(h:glB sc x=true):sc.names.lookup x=some .globalImplicit:=by
 unfold glB at h;split at h
 .assumption
 .cases h
def yC(h:Di x=true):(x==("__debug__":Str))=false/\(x==("__classdict__":Str))=false/\x≠("__name__":Str):=by
 unfold Di at h;rw[aa,aa]at h;refine⟨by simpa using h.1.1,by simpa using h.1.2,?_⟩;have:=h.2;intro z;subst z
 revert this
 decide
section
variable{X:Cx}{c:Ck}{cx:Cl}{k:Nat}
def Cok.name(C:Cok X c cx k)(h:dI c i x=true):X.N[i]?=some x/\Vis X.env.scope x/\(x==("__debug__":Str))=false/\(x==("__classdict__":Str))=false:=by
 unfold dI at h;rw[aa,aa]at h;obtain⟨⟨h1,h2⟩,h3⟩:=h;obtain⟨n1,n2,n3⟩:=yC h3;exact⟨by rw[C.hN];exact of_decide_eq_true h1,C.vis x (Bp h2),n1,n2⟩
def Cok.to(C:Cok X c cx k)(h:fR c i x=true):X.N[i]?=some x/\L2.Loc X.env.scope x/\(X.fn x=true\/X.env.scope.names.lookup x=some .local):=by
 unfold fR at h;rw[aa,aa]at h;obtain⟨⟨h1,h2⟩,h3⟩:=h;obtain⟨s1,s2⟩:=C.st x (Du h2);exact⟨by rw[C.hN];exact of_decide_eq_true h1,s1,s2⟩
def Cok.global(C:Cok X c cx k)(h:di c x=true):Gl X x/\(x==("__debug__":Str))=false/\x≠("__name__":Str):=by
 unfold di at h;rw[aa]at h;obtain⟨n1,n2,n3⟩:=yC h.2;exact⟨C.gl x (Li h.1),n1,n3⟩
def Cok.units(C:Cok X c cx k):X.A.units+200<cLine:=by have:=C.room.un;lia
def Cok.nd'(C:Cok X c cx k):X.N.Nodup:=by rw[C.hN];exact C.nd
def pJ:List Nat->TGs
 |[]=>Lj
 |i::is=>yL (pK i) (pJ is)
def Hl(K:PySem.W.Frag)(n:Nat)(t:TGs):TG:=λv σ H Q=>∃a xs,v=.ref a/\(SqT K H a xs\/SqL K H a xs)/\xs.length=n/\t xs σ H Q
def mB{prog:aP}{w:bA}{A:bB}{E:ai->au->Prop}{s:au}{env:Env}{elts:List aE}{x1}{pos:Pos}{t:av}{items:Array ai}{Q:Unit->au->Prop}(hh:A.handled=none)(ht:s.heap.IsList t items)
 (hn:(assignEach elts env).length=items.size)(hstar:(assignEach elts env).findIdx? (·.1)=none)
 (h:∀h',Heap.ExtBut s.heap.objs.size s.heap h'->wpAny (model prog w) A (assignInOrder ((assignEach elts env).map (·.2)) items.toList) Q E {s with heap:=h'}) :
 wpAny (model prog w) A (assign (.Tuple elts x1 pos) env (.ref t)) Q E s:=by
 rw[assign_Tuple];refine aI (kg ?_);unfold unpack;rw[hn,hstar];exact aI (kh (PySem.W.kun_itemsOf hh ht h))
def wy{X:Cx}{es:List aE}{k:Nat}{t:TGs}{n:Nat}{pos:Pos}(hc:X.calm=true)(h:PGs X es t)
 (hn:(assignEach es X.env).length=n:=by rfl)(hst:(assignEach es X.env).findIdx? (·.1)=none:=by rfl):PG X (.Tuple es k pos) (Hl X.K n t):=by
 intro pins s σ H v u Q I r hw;obtain⟨a,xs,e1,hq,hl,hw⟩:=hw;rcases hq with hq|hq
 .exact Ke hc h hn hst pins s σ H v u Q I r ⟨a,xs,e1,hq,hl,hw⟩
 .subst e1;cases r;obtain⟨its,rv,pl,hz⟩:=I.list hq;refine mB (I.ok.hd hc) pl.isList (by simp[hn,<- hl,rv.length]) hst λh' hx=>?_;have I1:Inv X pins σ H {s with heap:=h'}:=I.kept (t':=s.toks) λb o e=>hx b o (aS (aJ e)) e;exact h pins _ σ H xs _ Q I1 (by simpa using rv) hw
def gTg(K:PySem.W.Frag):Tg->TG
 |.nm i=>pK i
 |.tp is=>Hl K is.length (pJ is)
 |.pr i is=>Hl K 2 (yL (pK i) (yL (Hl K is.length (pJ is)) Lj))
def mR(C:Cok X c cx k):∀(is:List Nat)(es:List aE),HC c is es=true->PGs X es (pJ is)/\(assignEach es X.env).length=is.length/\(assignEach es X.env).findIdx? (·.1)=none
 |[],es,h=>by
  obtain⟨rfl,_⟩:=dh h
  exact⟨ym,rfl,rfl⟩
 |i::is,es,h=>by
  obtain⟨e,r,rfl,hh⟩:=cD h;rw[aa]at hh;obtain⟨x,p,rfl,h1⟩:=aY hh.1;obtain⟨q1,q2,q3⟩:=mR C is r hh.2;obtain⟨n1,n2,n3⟩:=C.to h1;refine⟨pC (su C.nd' n1 n2 n3) q1 rfl,?_,?_⟩
  .show(assignEach r X.env).length+1=_;rw[q2];rfl
  .show List.findIdx? _ ((false,_)::assignEach r X.env)=none;rw[mH,q3];rfl
def mO(C:Cok X c cx k)(h:qp c tg t=true):PG X t (gTg X.K tg):=by
 cases tg with
 |nm i =>
  obtain⟨_,_,rfl,h1⟩:=aY h;obtain⟨n1,n2,n3⟩:=C.to h1
  exact su C.nd' n1 n2 n3
 |tp is =>
  obtain⟨_,_,_,rfl,h1⟩:=dH h;obtain⟨q1,q2,q3⟩:=mR C _ _ h1
  exact wy C.calm q1 q2 q3
 |pr i is =>
  obtain⟨_,_,_,rfl,h1⟩:=dH h;obtain⟨_,_,rfl,h2⟩:=fQ h1;rw[aa]at h2;obtain⟨_,_,rfl,h3⟩:=aY h2.1;obtain⟨_,_,_,rfl,h4⟩:=dH h2.2;obtain⟨n1,n2,n3⟩:=C.to h3;obtain⟨q1,q2,q3⟩:=mR C _ _ h4;exact wy C.calm (pC (su C.nd' n1 n2 n3) (pC (wy C.calm q1 q2 q3) ym rfl) rfl) rfl rfl
def take_set{α:Type}(l:List α)(i n:Nat)(x:α)(h:n<=i):(l.set i x).take n=l.take n:=by
 apply List.ext_getElem?;intro j;by_cases hj:j<n
 .rw[dF hj,dF hj,aM ∅]
 .rw[gC (by rw[bw];lia),gC (by rw[bw];lia)]
def lS{K:PySem.W.Frag}{G:Gh}{H:Hp}{F:av->Prop}{Q:L2.St->Hp->Prop}:∀(is:List Nat)(ds:List D)(xs:List V)(σ:L2.St)(δ:Loc),Ok K G F σ H δ->aH K H F ds xs->is.length=ds.length->is.all (· < δ.length)=true ->
 (∀σ',Ok K G F σ' H ((is.zip ds).foldl (λδ p=>δ.set p.1 (.val p.2)) δ)->(∀n,(is.all λi=>decide (n<=i))=true->σ'.take n=σ.take n)->Q σ' H)->pJ is xs σ H Q
 |[],ds,xs,σ,δ,ok,r,hl,_,q=>by
  have:ds=[]:=fY.mp hl.symm;subst this;unfold aH at r
  exact⟨r,q σ ok λ_ _=>rfl⟩
 |i::is,[],xs,σ,δ,ok,r,hl,_,q=>by simp at hl
 |i::is,d::ds,xs,σ,δ,ok,r,hl,ha,q=>by
  unfold aH at r;obtain⟨y,ys,rfl,r1,r2⟩:=r;rw[cg,aa]at ha;refine⟨y,ys,rfl,?_⟩;refine lS is ds ys (σ.set i (some y)) (δ.set i (.val d)) (ok.set (of_decide_eq_true ha.1) r1) r2 (by simpa using hl) ?_ λσ' o t=>q σ' o λn hn=>?_
  .rw[aZ];exact ha.2
  .rw[cg,aa]at hn;rw[t n hn.2,take_set _ _ _ _ (of_decide_eq_true hn.1)]
def kq{K:PySem.W.Frag}{G:Gh}{H:Hp}{F:av->Prop}{σ:L2.St}{δ δ':Loc}{tg:Tg}{d:D}{v:V}{Q:L2.St->Hp->Prop}(ok:Ok K G F σ H δ)(r:Rel K H F d v)(e:dy δ tg d=some δ')(q:∀σ',Ok K G F σ' H δ'->(∀n,vZ n tg=true->σ'.take n=σ.take n)->Q σ' H):gTg K tg v σ H Q:=by
 unfold dy at e;split at e
 .split at e
  .cases e;exact q _ (ok.set ‹_› r) λn hn=>take_set _ _ _ _ (of_decide_eq_true hn)
  .cases e
 .split at e
  .rename_i hh;cases e;unfold Rel at r;obtain⟨a,xs,e1,h1,h2⟩:=r;exact⟨a,xs,e1,.inl h1,by rw[h2.length];exact hh.1.symm,lS _ _ _ _ _ ok h2 hh.1 hh.2 q⟩
  .cases e
 .split at e
  .rename_i hh;cases e;unfold Rel at r;obtain⟨a,xs,e1,h1,h2⟩:=r;exact⟨a,xs,e1,.inr h1.b.sq,by rw[h2.length];exact hh.1.symm,lS _ _ _ _ _ ok h2 hh.1 hh.2 q⟩
  .cases e
 .split at e
  .rename_i hh;cases e;unfold Rel at r;obtain⟨a,xs,e1,h1,h2⟩:=r;unfold aH at h2;obtain⟨y,ys,rfl,r1,r2⟩:=h2;unfold aH at r2;obtain⟨z,zs,rfl,r3,r4⟩:=r2;unfold aH at r4;subst r4;unfold Rel at r3;obtain⟨b,ws,e2,h3,h4⟩:=r3;refine⟨a,[y,z],e1,.inl h1,rfl,y,[z],rfl,z,[],rfl,b,ws,e2,.inl h3,by rw[h4.length];exact hh.2.1.symm,?_⟩;refine lS _ _ _ _ _ (ok.set hh.1 r1) h4 hh.2.1 (by rw[aZ];exact hh.2.2) λσ' o t=>⟨rfl,q σ' o λn hn=>?_⟩;have hn':=(aa _ _).mp (show(decide (n<=_)&&_)=true from hn);rw[t n hn'.2,take_set _ _ _ _ (of_decide_eq_true hn'.1)]
  .cases e
 .cases e
def Ok.ext{K:PySem.W.Frag}{G:Gh}{H:Hp}{F:av->Prop}{σ:L2.St}{δ:Loc}(h:Ok K G F σ H δ)(tl:L2.St):Ok K G F (σ++tl) H (δ++aC tl.length .no):=by
 have low:∀(j:Nat)(s:Sl),(δ++aC tl.length .no)[j]?=some s->s=.no\/(δ[j]?=some s/\(σ++tl)[j]?=σ[j]?):=λj s e=>by
  by_cases hj:j<δ.length
  .rw[cw hj]at e;exact .inr ⟨e,cw (by rw[<- h.len];exact hj)⟩
  .rw[fi ∅,fZ]at e;split at e
   .cases e;exact .inl rfl
   .cases e
 refine⟨h.same,h.fd,h.rf,h.rl,h.tf,h.tabs,by rw[az,az,cQ,h.len],λj s e=>?_,λi j s t a e1 e2 o1 o2 p1 p2=>?_⟩
 .rcases low j s e with rfl|⟨e1,e2⟩
  .trivial
  .rw[e2];exact h.sl j s e1
 .rcases low i _ e1 with z|⟨a1,a2⟩
  .subst z;cases o1
  .rcases low j _ e2 with z|⟨b1,b2⟩
   .subst z;cases o2
   .rw[a2]at p1;rw[b2]at p2;exact h.apart i j s t a a1 b1 o1 o2 p1 p2
def Ok.cut{K:PySem.W.Frag}{G:Gh}{H:Hp}{F:av->Prop}{σ:L2.St}{δ:Loc}(h:Ok K G F σ H δ)(n:Nat):Ok K G F (σ.take n) H (δ.take n):=by
 have low:∀(j:Nat)(s:Sl),(δ.take n)[j]?=some s->δ[j]?=some s/\(σ.take n)[j]?=σ[j]? := λj s e=>by
  by_cases hj:j<n
  .rw[dF hj]at e;exact⟨e,dF hj⟩
  .rw[gC (by rw[bw];lia)]at e;cases e
 refine⟨h.same,h.fd,h.rf,h.rl,h.tf,h.tabs,by rw[bw,bw,h.len],λj s e=>?_,λi j s t a e1 e2 o1 o2 p1 p2=>?_⟩
 .obtain⟨e1,e2⟩:=low j s e;rw[e2];exact h.sl j s e1
 .obtain⟨a1,a2⟩:=low i _ e1;obtain⟨b1,b2⟩:=low j _ e2;rw[a2]at p1;rw[b2]at p2;exact h.apart i j s t a a1 b1 o1 o2 p1 p2
def Gh.and(G:Gh)(D:av):Gh:=⟨G.h,λb=>G.R b\/b=D⟩
def Ok.free{K:PySem.W.Frag}{G:Gh}{H:Hp}{F:av->Prop}{σ:L2.St}{δ:Loc}{p:av}(h:Ok K G F σ H δ)(hp:H p=none):G.free p:=by
 refine⟨?_,λz=>?_⟩
 .cases e:G.h p with
  |none=>rfl
  |some o =>
   by_cases t:NT o
   .rw[h.same.nt p o t e]at hp;cases hp
   .cases o<;>first|(exact absurd trivial t)|skip
    obtain⟨qs,z⟩:=h.same.tb p _ e;rw[z]at hp;cases hp
 .obtain⟨o,e,_⟩:=h.rl p z;rw[hp]at e;cases e
def Ok.enterO{K:PySem.W.Frag}{G:Gh}{H:Hp}{F:av->Prop}{σ:L2.St}{δ:Loc}{p:av}(h:Ok K G F σ H δ)(hp:H p=none){u:HO}(hu:Mo u):Ok K (G.and p) (λb=>F b\/b=p) σ (upd H p u) δ/\Step G F H (λb=>F b\/b=p) (upd H p u):=by
 have nF:¬F p:=va h.fd hp;have sm:=cF hp u;have st:∀G':Gh,Step G' F H (λb=>F b\/b=p) (upd H p u):=λG'=>⟨λb o _ e _=>sm b o e,λb z=>by rcases z with z|z;exact .inl z;exact .inr (by rw[z];exact hp),λb o _ f e=>⟨.inl f,sm b o e⟩,λb ps e=>⟨ps,sm b _ e⟩⟩;refine⟨⟨h.same.trans (.of sm),λb z=>?_,λb z=>?_,λb z=>?_,λt ht=>.inl (h.tf t ht),h.tabs.keep λb o _ e=>sm b o e,h.len,λj s e=>?_,h.apart⟩,st G⟩
 .rcases z with z|z
  .exact h.fd.same sm b z
  .rw[z];exact⟨u,bI,.inl hu⟩
 .rcases z with z|z
  .exact .inl (h.rf b z)
  .exact .inr z
 .rcases z with z|z
  .exact yc h.rl sm b z
  .rw[z];exact⟨u,bI,hu⟩
 .exact eT.stay0 h.fd (st G) (λa v _ f1 _ f3=>⟨.inl f1,sm _ _ f3⟩) (eT.free (G:=G) (G':=G.and p) (λa f1 f2=>⟨f2.1,λz=>Or.elim z f2.2 λw=>nF (w▸f1)⟩) (h.sl j s e))
def Ok.enter{K:PySem.W.Frag}{G:Gh}{H:Hp}{F:av->Prop}{σ:L2.St}{δ:Loc}{p:av}(h:Ok K G F σ H δ)(hp:H p=none)(xs:List V):Ok K (G.and p) (λb=>F b\/b=p) σ (upd H p (.lst xs)) δ/\Step G F H (λb=>F b\/b=p) (upd H p (.lst xs)):=h.enterO hp trivial
def Ok.pokeO{K:PySem.W.Frag}{G:Gh}{H:Hp}{F:av->Prop}{σ:L2.St}{δ:Loc}{p:av}{x u:HO}(h:Ok K (G.and p) F σ H δ)(hg:G.free p)(hP:H p=some x)(hx:Mo x)(hu:Mo u):Ok K (G.and p) F σ (upd H p u) δ:=by
 have hF:F p:=h.rf p (.inr rfl);have nt:=hx.nt;have st0:Step g0 F H F (upd H p u):=⟨λb o _ e n=>by rw[bD (λz:b=p=>n (by rw[z];exact hF))];exact e,λb z=>.inl z,λ_ _ r _ _=>r.elim,λb ps e=>⟨ps,by rw[bD (λw:b=p=>by rw[w,hP]at e;cases e;exact nt)];exact e⟩⟩;refine⟨⟨λb o t e=>?_,λb ps e=>?_⟩,λb z=>?_,h.rf,λb z=>?_,h.tf,h.tabs.keep λb o n e=>?_,h.len,λj s e=>?_,h.apart⟩
 .rw[bD (λz:b=p=>by have e':G.h b=some o:=e;rw[z,hg.1]at e';cases e')];exact h.same.nt b o t e
 .rw[bD (λz:b=p=>by have e':G.h b=some _:=e;rw[z,hg.1]at e';cases e')];exact h.same.tb b ps e
 .by_cases hb:b=p
  .rw[hb];exact⟨u,bI,.inl hu⟩
  .rw[bD hb];exact h.fd b z
 .by_cases hb:b=p
  .rw[hb];exact⟨u,bI,hu⟩
  .rw[bD hb];exact h.rl b z
 .rw[bD (λw:b=p=>by rw[w,hP]at e;cases e;exact n hx)];exact e
 .exact eT.stay0 h.fd st0 (λa v _ f1 f2 f3=>⟨f1,by rw[bD (λz:a=p=>f2.2 (.inr z))];exact f3⟩) (h.sl j s e)
def Ok.poke{K:PySem.W.Frag}{G:Gh}{H:Hp}{F:av->Prop}{σ:L2.St}{δ:Loc}{p:av}{zs:List V}(h:Ok K (G.and p) F σ H δ)(hg:G.free p)(hP:H p=some (.lst zs))(xs:List V):Ok K (G.and p) F σ (upd H p (.lst xs)) δ:=h.pokeO hg hP trivial trivial
def Ok.leave{K:PySem.W.Frag}{G:Gh}{H:Hp}{F:av->Prop}{σ:L2.St}{δ:Loc}{p:av}(h:Ok K (G.and p) F σ H δ)(hg:G.free p):Ok K G (λb=>F b/\b≠p) σ H δ:=by
 have hs:∀b,(F b/\b≠p)->F b:=λb z=>z.1
 have tf':TF λb=>F b/\b≠p:=λt ht=>⟨h.tf t ht,λw=>by
  obtain⟨ps,e,_⟩:=h.tabs t ht;obtain⟨o,hP,m⟩:=h.rl p (.inr rfl);rw[w,hP]at e;cases e;exact m⟩
 refine⟨h.same,λb z=>h.fd b z.1,λb z=>⟨h.rf b (.inl z),λw=>hg.2 (by rw[<- w];exact z)⟩,λb z=>h.rl b (.inl z),tf',h.tabs,h.len,λj s e=>?_,h.apart⟩;refine((h.sl j s e).less h.fd hs λa z za=>?_).free (G:=G.and p) (G':=G) λb _ z=>⟨z.1,λw=>z.2 (Or.inl w)⟩;obtain⟨a',u,d,e1,f1,f2,_⟩:=eT.ow (h.sl j s e) z;rw[za]at e1;cases e1;exact⟨f1,λw=>f2.2 (.inr w)⟩
def Ok.keep{K:PySem.W.Frag}{G:Gh}{H:Hp}{F:av->Prop}{σ:L2.St}{δ:Loc}{p:av}(h:Ok K (G.and p) F σ H δ):Ok K G F σ H δ :=
 ⟨h.same,h.fd,λb z=>h.rf b (.inl z),λb z=>h.rl b (.inl z),h.tf,h.tabs,h.len,λj s e=>(h.sl j s e).free (G:=G.and p) (G':=G) λb _ z=>⟨z.1,λw=>z.2 (Or.inl w)⟩,h.apart⟩
end
section
variable{K:PySem.W.Frag}{cx:Cl}
def nI(cx:Cl)(k:Nat)(tg:Tg)(ifs:Eo)(elt:E):D->Loc->Option (Option D×Loc):=λx δ0=>do
 let δ2 <- dy (δ0++aC k .no) tg x
 let(b,δ3) <- evG cx ifs δ2
 if b then do
  let(y,δ4) <- evE cx elt δ3
  return (some y,δ4.take δ0.length)
 else return (none,δ3.take δ0.length)
def Hy(ev:evE cx (.comp k tg src ifs elt) δ=some (d,δ')) :
 ∃ds δ1 ys,evI cx src δ=some (ds,δ1)/\mr (nI cx k tg ifs elt) ds δ1=some (ys,δ')/\ys.length<=sizeLine/\d=.lst ys:=by
 simp only[evE,ae,af]at ev;obtain⟨⟨ds,δ1⟩,ea,⟨ys,δ2⟩,eb,ev⟩:=ev;split at ev
 .cases ev;exact⟨ds,δ1,ys,ea,eb,‹_›,rfl⟩
 .cases ev
def rp(h:nI cx k tg ifs elt x δ0=some (o,δ1)):∃δ2 b δ3,dy (δ0++aC k .no) tg x=some δ2/\evG cx ifs δ2=some (b,δ3) /\
 ((b=true/\∃y δ4,evE cx elt δ3=some (y,δ4)/\o=some y/\δ1=δ4.take δ0.length)\/(b=false/\o=none/\δ1=δ3.take δ0.length)):=by
 unfold nI at h;simp only[ae,af]at h;obtain⟨δ2,e1,⟨b,δ3⟩,e2,h⟩:=h;refine⟨δ2,b,δ3,e1,e2,?_⟩
 cases b with
 |true =>
  simp only[if_true,af]at h;obtain⟨⟨y,δ4⟩,e3,h⟩:=h;cases h
  exact .inl ⟨rfl,y,δ4,e3,rfl,rfl⟩
 |false =>
  simp only[cI,if_false]at h;cases h;exact .inr ⟨rfl,rfl,rfl⟩
def xu(h:mr f (x::xs) δ=some (ys,δ')):∃o δ1 zs,f x δ=some (o,δ1)/\mr f xs δ1=some (zs,δ')/\ys=(match o with|some y=>y::zs|none=>zs):=by
 unfold mr at h;simp only[ae,af]at h;obtain⟨⟨o,δ1⟩,e1,⟨zs,δ2⟩,e2,h⟩:=h;cases h;exact⟨o,δ1,zs,e1,e2,rfl⟩
def Step.sub(h:Step G' F H F' H')(hs:∀b,G.R b->G'.R b):Step G F H F' H':=⟨h.keep,h.grow,λb o r=>h.res b o (hs b r),h.tb⟩
def pM:∀(ps:List (Nat×D))(δ:Loc),(ps.foldl (λδ p=>δ.set p.1 (Sl.val p.2)) δ).length=δ.length:=by
 intro ps
 induction ps with
 |nil=>intro δ;rfl
 |cons a r ih=>intro δ;rw[hZ,ih,aZ]
def qL(es:dy δ tg d=some δ'):δ'.length=δ.length:=by
 unfold dy at es;split at es
 .split at es
  .cases es;rw[aZ]
  .cases es
 .split at es
  .cases es;rw[pM]
  .cases es
 .split at es
  .cases es;rw[pM]
  .cases es
 .split at es
  .cases es;rw[pM,aZ]
  .cases es
 .cases es
def yD{P:List D->(av->Prop)->L2.St->Hp->Prop}(wk:Wk K G F1 H1 J ds)(hs:∀r F σ H,P r F σ H->Step G F1 H1 F H/\FD F H)(hm:∀r F σ H H3,P r F σ H->fA H H3->P r F σ H3)(h0:P ds F0 σ0 H0)
 (turn:∀d r F σ H x(N:L2.St->Hp->Prop),P (d::r) F σ H->Rel K H F d x->(∀F4 σ4 H4,P r F4 σ4 H4->N σ4 H4)->g x σ H λσ2 H2=>tt σ2 H2 λb H3=>if b=true then tb σ2 H3 N else N σ2 H3)
 (fin:∀F σ H,P [] F σ H->Q σ H):tLp J g tt tb σ0 H0 Q:=by
 refine⟨λi m σc Hc=>m=ds.length-i/\i<=ds.length/\∃F',P (ds.drop i) F' σc Hc,⟨ds.length,↥0,bM _,F0,h0⟩,?_⟩;rintro i m σc Hc ⟨rfl,hi,F',h⟩;obtain⟨st,fd⟩:=hs _ _ _ _ h;by_cases hlt:i<ds.length
 .obtain⟨go,yl⟩:=(wk F' Hc st fd i).1 ds[i] (aN hlt);refine .inr ⟨go,λx H3 hy=>?_⟩;obtain⟨sm,rx⟩:=yl x H3 hy;rw[bN hlt]at h;exact turn _ _ _ _ _ x _ (hm _ _ _ _ _ h sm) rx λF4 σ4 H4 z=>⟨_,∅,rfl,hlt,F4,z⟩
 .obtain rfl:i=ds.length:=by lia
  rw[fq]at h;exact .inl ⟨(wk F' Hc st fd ds.length).2 rfl,fin _ _ _ h⟩
def Step.new{o:HO}(s:Step G F1 H1 F8 H8)(hp:H1 p=none):Step G F1 H1 F8 (upd H8 p o):=by
 refine⟨λb o t e nf=>?_,s.grow,λb o r f e=>?_,λb ps e=>?_⟩
 .rw[bD (λw:b=p=>by rw[w,hp]at e;cases e)];exact s.keep b o t e nf
 .obtain⟨a1,a2⟩:=s.res b o r f e;refine⟨a1,?_⟩;rw[bD (λw:b=p=>by rw[w,hp]at e;cases e)];exact a2
 .rw[bD (λw:b=p=>by rw[w,hp]at e;cases e)];exact s.tb b ps e
def Sim.new{o:HO}(s:Sim H1 H8)(hp:H1 p=none):Sim H1 (upd H8 p o):=by
 refine⟨λb o t e=>?_,λb ps e=>?_⟩
 .rw[bD (λw:b=p=>by rw[w,hp]at e;cases e)];exact s.nt b o t e
 .rw[bD (λw:b=p=>by rw[w,hp]at e;cases e)];exact s.tb b ps e
def xt(n:(!bj elt)=true)(hge:vZ σ.length tg=true)
 (ok1:Ok K G F1 σ H1 δ1)(wk:Wk K G F1 H1 J ds)(hp:H1 p=none)(ev:mr (nI cx k tg ifs elt) ds δ1=some (ys,δ2))(hz:ys.length<=sizeLine)
 (q:∀σ' H2 F2 xs,Ok K (G.and p) F2 σ H2 δ2->H2 p=some (.lst xs)->aH K H2 F2 ys xs->Step G F1 H1 F2 H2->((npO ifs&&np elt)=true->Sim H1 H2)->Q σ' H2) :
 tLp J (gTg K tg) (tG K cx ifs) (uD p (tE K cx elt)) (σ++aC k none) (upd H1 p (.lst [])) Q:=by
 have hg:=ok1.free hp;obtain⟨ok2,st2⟩:=ok1.enter hp [];have hFs:∀b,G.R b->(G.and p).R b:=λb z=>.inl z
 refine yD (P:=λr F' σc Hc=>∃δi zs xs yi,(∃tl:L2.St,σc=σ++tl/\tl.length=k)/\Ok K (G.and p) F' σ Hc δi/\mr (nI cx k tg ifs elt) r δi=some (zs,δ2)/\yi++zs=ys/\Hc p=some (.lst xs)/\aH K Hc F' yi xs/\Step G F1 H1 F' Hc /\
  ((npO ifs&&np elt)=true->Sim H1 Hc)) wk (λr F σ H z=>by obtain⟨_,_,_,_,_,ok,_,_,_,_,st,_⟩:=z;exact⟨st,ok.fd⟩) (λr F σ H H3 z sm=>by obtain⟨a1,a2,a3,a4,a5,ok,a6,a7,a8,a9,st,s⟩:=z;exact⟨a1,a2,a3,a4,a5,ok.same' sm,a6,a7,sm _ _ a8,aH.step ok.fd (Step.of_same (G:=G) sm) _ _ a9,st.trans (.of_same sm),λq=>(s q).trans (.of sm)⟩) (F0:=λb=>F1 b\/b=p) ⟨δ1,ys,[],[],⟨_,rfl,↥0⟩,ok2,ev,rfl,bI,aH.nil,st2,λ_=>.of (cF hp _)⟩ ?_ ?_
 .rintro d r F' _ H3 x N ⟨δi,zs,xs,yi,⟨tl,rfl,htl⟩,ok,el,ey,eD,rl,st,sm⟩ rx hN;have hF:F' p:=ok.rf p (.inr rfl);obtain⟨o,δ5,zs',ef,el',ez⟩:=xu el;obtain⟨δ6,b,δ7,es,eg,alt⟩:=rp ef;have okx:Ok K (G.and p) F' (σ++tl) H3 (δi++aC k .no):=by rw[<- htl];exact ok.ext tl
  refine kq okx rx es λσ2 ok6 htake=>?_;have t2:σ2.take σ.length=σ:=by rw[htake _ hge,qa];rfl
  have l2:σ2.length=σ.length+k:=by
   have a1:=okx.len;have a2:=ok6.len;have e1:=qL es;have e2:(σ++tl).length=σ.length+k:=by rw[az,htl]
   lia
  have dl:δi.length=σ.length:=ok.len
  have tail:∃tl':L2.St,σ2=σ++tl'/\tl'.length=k:=by
   refine⟨σ2.drop σ.length,?_,by rw[aR];lia⟩
   conv=>lhs;rw[<- cB σ.length σ2,t2]
  refine⟨G.and p,F',δ6,b,δ7,ok6,eg,λH7 F7 st7 sm7 ok7=>?_⟩;have keepD:∀{F8:av->Prop}{H8:Hp},Step (G.and p) F' H3 F8 H8->H8 p=some (.lst xs):=λs8=>(s8.res p _ (.inr rfl) hF eD).2;rcases alt with⟨rfl,y,δ8,ee,rfl,rfl⟩|⟨rfl,rfl,rfl⟩
  .refine qj ?_;refine⟨G.and p,F7,δ7,y,δ8,ok7,ee,λu H8 F8 st8 sm8 ok8 r8=>?_⟩;have s78:=st7.trans st8;have eD8:=keepD s78;have ry:=dg n r8;have rl8:aH K H8 F8 yi xs:=aH.step ok.fd s78 yi xs rl;have hF8:F8 p:=ok8.rf p (.inr rfl);have pk:Step g0 F8 H8 F8 (upd H8 p (.lst (xs++[u]))):=⟨λb o _ e nf=>by rw[bD (λz:b=p=>nf (by rw[z];exact hF8))];exact e,λb z=>.inl z,λ_ _ r _ _=>r.elim,λb ps e=>⟨ps,by rw[bD (λw:b=p=>by rw[w,eD8]at e;cases e)];exact e⟩⟩;subst ez
   have hyl:yi.length<sizeLine:=by
    have:=congrArg je ey;rw[az]at this;simp only[ag]at this
    lia
   refine⟨xs,eD8,by rw[rl8.length];exact hyl,hN F8 _ _ ⟨δ8.take δi.length,zs',xs++[u],yi++[y],tail,?_,el',by rw[cz];exact ey,bI,?_,?_,λz=>?_⟩⟩
   .have:=(ok8.poke hg eD8 (xs++[u])).cut δi.length;rw[dl,t2]at this;rw[dl];exact this
   .exact aH.step ok8.fd pk _ _ (rl8.append (aH.one ry))
   .exact(st.trans (s78.sub hFs)).new hp
   .have z':=z;rw[aa]at z';exact(((sm z).trans (sm7 z'.1)).trans (sm8 z'.2)).new hp
  .refine sI ?_;subst ez;refine hN F7 _ _ ⟨δ7.take δi.length,_,xs,yi,tail,?_,el',ey,keepD st7,aH.step ok.fd st7 yi xs rl,st.trans (st7.sub hFs),λz=>?_⟩
   .have:=ok7.cut δi.length;rw[dl,t2]at this;rw[dl];exact this
   .have z':=z;rw[aa]at z';exact(sm z).trans (sm7 z'.1)
 .rintro F' _ Hc ⟨δi,zs,xs,yi,_,ok,el,ey,eD,rl,st,sm⟩;cases el;rw[bq]at ey;subst ey;exact q _ Hc F' xs ok eD rl st sm
end
end PP
end
section
namespace PP
open PySem
section
variable(cx:Cl)
def wE(e:E)(δ:Loc)(Q:D->Loc->Prop):Prop:=∃d δ',evE cx e δ=some (d,δ')/\Q d δ'
def wT(e:E)(δ:Loc)(Q:Bool->Loc->Prop):Prop:=∃d δ',evT cx e δ=some (d,δ')/\Q d δ'
def wEs(e:Es)(δ:Loc)(Q:List D->Loc->Prop):Prop:=∃d δ',cS cx e δ=some (d,δ')/\Q d δ'
def wO(e:Eo)(δ:Loc)(Q:Option Int->Loc->Prop):Prop:=∃d δ',evO cx e δ=some (d,δ')/\Q d δ'
def wG(e:Eo)(δ:Loc)(Q:Bool->Loc->Prop):Prop:=∃d δ',evG cx e δ=some (d,δ')/\Q d δ'
def wI(e:It)(δ:Loc)(Q:List D->Loc->Prop):Prop:=∃d δ',evI cx e δ=some (d,δ')/\Q d δ'
def wS(s:S)(δ:Loc)(Q:Out->Prop):Prop:=∃o,evS cx s δ=some o/\Q o
def wSs(s:Ss)(δ:Loc)(Q:Out->Prop):Prop:=∃o,cU cx s δ=some o/\Q o
def wTg(δ:Loc)(tg:Tg)(d:D)(Q:Loc->Prop):Prop:=∃δ',dy δ tg d=some δ'/\Q δ'
def wOp(op:Op)(x y:D)(Q:D->Prop):Prop:=∃z,opD op x y=some z/\Q z
def zp(op:Cop)(x y:D)(Q:Bool->Prop):Prop:=∃z,gu op x y=some z/\Q z
def Jr(f:Blt)(ds:List D)(Q:D->Prop):Prop:=∃z,gY f ds=some z/\Q z
def Ij(f:Nat)(ds:List D)(Q:D->Prop):Prop:=∃z,cx.call f ds=some z/\Q z
def wIx(x y:D)(Q:D->Prop):Prop:=∃z,ixD x y=some z/\Q z
def wSl(x:D)(lo hi:Option Int)(Q:D->Prop):Prop:=∃z,slD x lo hi=some z/\Q z
def wItems(x:D)(Q:List D->Prop):Prop:=∃z,items x=some z/\Q z
def Mp(k:Nat)(tg:Tg)(ifs:Eo)(elt:E):D->Loc->Option (Option D×Loc):=λx δ0=>do
 let δ2 <- dy (δ0++aC k .no) tg x
 let(b,δ3) <- evG cx ifs δ2
 if b then do
  let(y,δ4) <- evE cx elt δ3
  return (some y,δ4.take δ0.length)
 else return (none,δ3.take δ0.length)
def kM(k:Nat)(tg:Tg)(ifs:Eo)(elt:E)(ds:List D)(δ:Loc)(Q:List D->Loc->Prop):Prop:=∃ys δ',mr (Mp cx k tg ifs elt) ds δ=some (ys,δ')/\Q ys δ'
def Nu(tg:Tg)(body:Ss):D->Loc->Option Out:=λx δ0=>match dy δ0 tg x with
 |some δ2=>cU cx body δ2
 |none=>none
def qe(tg:Tg)(body:Ss)(ds:List D)(δ:Loc)(Q:Out->Prop):Prop:=∃o,forL (Nu cx tg body) ds δ=some o/\Q o
def oM(c:E)(body:Ss)(n:Nat)(δ:Loc)(Q:Out->Prop):Prop:=∃o,lg (λδ0=>evT cx c δ0) (λδ0=>cU cx body δ0) n δ=some o/\Q o
end
section
variable{α β γ:Type}{P P':α->Loc->Prop}{R R':α->Prop}{Q:β->Loc->Prop}{S:γ->Prop}{o:Option (α×Loc)}{u:Option α}{f:α×Loc->Option (β×Loc)}{g:α->Option (β×Loc)}{f':α×Loc->Option γ}{g':α->Option γ}{d:β}{r:γ}{δ:Loc}{c:Prop}[Decidable c]
def yb:(∃r,o.bind f'=some r/\S r)↔∃x δ1,o=some (x,δ1)/\∃r,f' (x,δ1)=some r/\S r:=by
 cases o with
 |none=>exact⟨λ⟨_,e,_⟩=>(by cases e),λ⟨_,_,e,_⟩=>(by cases e)⟩
 |some p=>exact⟨λh=>⟨p.1,p.2,rfl,h⟩,λ⟨_,_,e,h⟩=>by cases e;exact h⟩
def yqs:(∃r,u.bind g'=some r/\S r)↔∃x,u=some x/\∃r,g' x=some r/\S r:=by
 cases u with
 |none=>exact⟨λ⟨_,e,_⟩=>(by cases e),λ⟨_,e,_⟩=>(by cases e)⟩
 |some p=>exact⟨λh=>⟨p,rfl,h⟩,λ⟨_,e,h⟩=>by cases e;exact h⟩
def yr:(∃r',some r=some r'/\S r')↔S r:=⟨λ⟨_,e,h⟩=>(by cases e;exact h),λh=>⟨_,rfl,h⟩⟩
def yi:(∃r',(if c then some r else none)=some r'/\S r')↔c/\S r:=by
 by_cases h:c
 .rw[if_pos h];exact yr.trans ⟨λq=>⟨h,q⟩,λq=>q.2⟩
 .rw[if_neg h];exact⟨λ⟨_,e,_⟩=>(by cases e),λq=>absurd q.1 h⟩
def yn{A:Prop}(h:¬A):(∃r',(none:Option γ)=some r'/\S r')↔A:=⟨λ⟨_,e,_⟩=>(by cases e),λq=>absurd q h⟩
def xq{o:Option (β×Loc)}:(∃d δ',o=some (d,δ')/\Q d δ')↔∃r,o=some r/\Q r.1 r.2:=⟨λ⟨_,_,e,q⟩=>⟨_,e,q⟩,λ⟨r,e,q⟩=>⟨r.1,r.2,e,q⟩⟩
def xb:(∃d δ',o.bind f=some (d,δ')/\Q d δ')↔∃x δ1,o=some (x,δ1)/\∃d δ',f (x,δ1)=some (d,δ')/\Q d δ':=xq.trans (yb.trans ⟨λ⟨x,y,e,h⟩=>⟨x,y,e,xq.mpr h⟩,λ⟨x,y,e,h⟩=>⟨x,y,e,xq.mp h⟩⟩)
def x1:(∃d δ',u.bind g=some (d,δ')/\Q d δ')↔∃x,u=some x/\∃d δ',g x=some (d,δ')/\Q d δ':=xq.trans (yqs.trans ⟨λ⟨x,e,h⟩=>⟨x,e,xq.mpr h⟩,λ⟨x,e,h⟩=>⟨x,e,xq.mp h⟩⟩)
def xr:(∃d' δ',some (d,δ)=some (d',δ')/\Q d' δ')↔Q d δ:=xq.trans yr
def xi:(∃d' δ',(if c then some (d,δ)else none)=some (d',δ')/\Q d' δ')↔c/\Q d δ:=xq.trans yi
def xn{A:Prop}(h:¬A):(∃d' δ',(none:Option (β×Loc))=some (d',δ')/\Q d' δ')↔A:=xq.trans (yn h)
def xc(h:∀x δ,P x δ↔P' x δ):(∃x δ1,o=some (x,δ1)/\P x δ1)↔∃x δ1,o=some (x,δ1)/\P' x δ1:=⟨λ⟨x,δ,e,p⟩=>⟨x,δ,e,(h x δ).mp p⟩,λ⟨x,δ,e,p⟩=>⟨x,δ,e,(h x δ).mpr p⟩⟩
def xd(h:∀x,R x↔R' x):(∃x,u=some x/\R x)↔∃x,u=some x/\R' x:=⟨λ⟨x,e,p⟩=>⟨x,e,(h x).mp p⟩,λ⟨x,e,p⟩=>⟨x,e,(h x).mpr p⟩⟩
end
def yM{b:Int}{P:Int->Prop}:(∃k,D.int b=D.int k/\P k)↔P b:=⟨λ⟨_,e,q⟩=>by cases e;exact q,λq=>⟨_,rfl,q⟩⟩
def DP{b:List D}{P:List D->Prop}:(∃k,D.lst b=D.lst k/\P k)↔P b:=⟨λ⟨_,e,q⟩=>by cases e;exact q,λq=>⟨_,rfl,q⟩⟩
section
variable{cx:Cl}{δ:Loc}
def Jk{i:Nat}{Q:D->Loc->Prop}:wE cx (.var i) δ Q↔∃d,zX δ i=some d/\Q d (demote δ i):=x1.trans (xd λ_=>xr)
def Bm{i:Int}{Q:D->Loc->Prop}:wE cx (.int i) δ Q↔Q (.int i) δ:=xr
def Jm{i:Str}{Q:D->Loc->Prop}:wE cx (.str i) δ Q↔Q (.str i) δ:=xr
def Jq{op:Op}{a b:E}{Q:D->Loc->Prop}:wE cx (.bin op a b) δ Q↔wE cx a δ λx δ1=>wE cx b δ1 λy δ2=>wOp op x y λz=>Q z δ2:=xb.trans (xc λ_ _=>xb.trans (xc λ_ _=>x1.trans (xd λ_=>xr)))
def AO{op:Cop}{a b:E}{Q:Bool->Loc->Prop}:wT cx (.cmp op a b) δ Q↔wE cx a δ λx δ1=>wE cx b δ1 λy δ2=>zp op x y λz=>Q z δ2:=xb.trans (xc λ_ _=>xb.trans (xc λ_ _=>x1.trans (xd λ_=>xr)))
def Jn{a:E}{Q:D->Loc->Prop}:wE cx (.neg a) δ Q↔wE cx a δ λx δ1=>∃i,x=.int i/\Q (.int (-i)) δ1:=xb.trans (xc λx _=>by
 cases x with
 |int k=>refine Iff.trans ?_ yM.symm;exact xr
 |_=>exact xn λ⟨_,e,_⟩=>by cases e)
def Jd{a b:E}{Q:Bool->Loc->Prop}:wT cx (.and a b) δ Q↔wT cx a δ λk δ1=>if k=true then wT cx b δ1 Q else Q false δ1:=xb.trans (xc λk _=>by cases k;exact xr;exact dE)
def Mf{a b:E}{Q:Bool->Loc->Prop}:wT cx (.or a b) δ Q↔wT cx a δ λk δ1=>if k=true then Q true δ1 else wT cx b δ1 Q:=xb.trans (xc λk _=>by cases k;exact dE;exact xr)
def Jl{es:Es}{Q:D->Loc->Prop}:wE cx (.tup es) δ Q↔wEs cx es δ λds δ1=>ds.length<=sizeLine/\Q (.tup ds) δ1:=xb.trans (xc λ_ _=>xi)
def Jo{es:Es}{Q:D->Loc->Prop}:wE cx (.lst es) δ Q↔wEs cx es δ λds δ1=>ds.length<=sizeLine/\Q (.lst ds) δ1:=xb.trans (xc λ_ _=>xi)
def Mn{a b:E}{Q:D->Loc->Prop}:wE cx (.ix a b) δ Q↔wE cx a δ λx δ1=>wE cx b δ1 λy δ2=>wIx x y λz=>Q z δ2:=xb.trans (xc λ_ _=>xb.trans (xc λ_ _=>x1.trans (xd λ_=>xr)))
def Mm{a:E}{lo hi:Eo}{Q:D->Loc->Prop}:wE cx (.sl a lo hi) δ Q↔wE cx a δ λx δ1=>wO cx lo δ1 λl δ2=>wO cx hi δ2 λh δ3=>wSl x l h λz=>Q z δ3:=xb.trans (xc λ_ _=>xb.trans (xc λ_ _=>xb.trans (xc λ_ _=>x1.trans (xd λ_=>xr))))
def rR{f:Nat}{es:Es}{Q:D->Loc->Prop}:wE cx (.call f es) δ Q↔wEs cx es δ λds δ1=>Ij cx f ds λz=>Q z δ1:=xb.trans (xc λ_ _=>x1.trans (xd λ_=>xr))
def Jp{f:Blt}{es:Es}{Q:D->Loc->Prop}:wE cx (.blt f es) δ Q↔wEs cx es δ λds δ1=>Jr f ds λz=>Q z δ1:=xb.trans (xc λ_ _=>x1.trans (xd λ_=>xr))
def Ff{Q:List D->Loc->Prop}:wEs cx .nil δ Q↔Q [] δ:=xr
def Bk{e:E}{es:Es}{Q:List D->Loc->Prop}:wEs cx (.cons e es) δ Q↔wE cx e δ λx δ1=>wEs cx es δ1 λxs δ2=>Q (x::xs) δ2:=xb.trans (xc λ_ _=>xb.trans (xc λ_ _=>xr))
def Mj{Q:Option Int->Loc->Prop}:wO cx .no δ Q↔Q none δ:=xr
def Ji{e:E}{Q:Option Int->Loc->Prop}:wO cx (.yes e) δ Q↔wE cx e δ λx δ1=>∃i,x=.int i/\Q (some i) δ1:=xb.trans (xc λx _=>by
 cases x with
 |int k=>refine Iff.trans ?_ yM.symm;exact xr
 |_=>exact xn λ⟨_,e,_⟩=>by cases e)
def Ml{Q:Bool->Loc->Prop}:wG cx .no δ Q↔Q true δ:=xr
def Jj{e:E}{Q:List D->Loc->Prop}:wI cx (.rng e) δ Q↔wE cx e δ λx δ1=>∃j,x=.int j/\(-(2^62)<=j/\j<2^62)/\Q (lq 0 j.toNat) δ1:=xb.trans (xc λx _=>by
 cases x with
 |int k=>refine Iff.trans ?_ yM.symm;exact xi
 |_=>exact xn λ⟨_,e,_⟩=>by cases e)
def Bl{m:Mt}{a b:E}{Q:D->Loc->Prop}:wE cx (.mt m a b) δ Q↔wE cx a δ λx δ1=>wE cx b δ1 λy δ2=>∃d,mtD m x y=some d/\Q d δ2:=xb.trans (xc λ_ _=>xb.trans (xc λ_ _=>x1.trans (xd λ_=>xr)))
def Mk{e:E}{Q:List D->Loc->Prop}:wI cx (.sq e) δ Q↔wE cx e δ λx δ1=>wItems x λds=>Q ds δ1:=xb.trans (xc λ_ _=>x1.trans (xd λ_=>xr))
def oo{k:Nat}{tg:Tg}{src:It}{ifs:Eo}{elt:E}{Q:D->Loc->Prop}:wE cx (.comp k tg src ifs elt) δ Q↔wI cx src δ λds δ1=>kM cx k tg ifs elt ds δ1 λys δ2=>ys.length<=sizeLine/\Q (.lst ys) δ2:=xb.trans (xc λ_ _=>xb.trans (xc λ_ _=>xi))
def qB{k:Nat}{tg:Tg}{ifs:Eo}{elt:E}{Q:List D->Loc->Prop}:kM cx k tg ifs elt [] δ Q↔Q [] δ:=xr
def oP{k:Nat}{tg:Tg}{ifs:Eo}{elt:E}{x:D}{xs:List D}{Q:List D->Loc->Prop}:kM cx k tg ifs elt (x::xs) δ Q↔wTg (δ++aC k .no) tg x λδ2=>wG cx ifs δ2 λb δ3 =>
 if b=true then wE cx elt δ3 λy δ4=>kM cx k tg ifs elt xs (δ4.take δ.length) λys δ5=>Q (y::ys) δ5 else kM cx k tg ifs elt xs (δ3.take δ.length) Q:=xb.trans (x1.trans (xd λ_=>xb.trans (xc λb _=>by cases b;exact xr.trans (xb.trans (xc λ_ _=>xr));exact xb.trans (xc λ_ _=>xr.trans (xb.trans (xc λ_ _=>xr))))))
end
section
variable(cx:Cl)
def uA(ss:Ss)(Q:Out->Prop):Out->Prop
 |.nx δ=>wSs cx ss δ Q
 |.rt d δ=>Q (.rt d δ)
 |.ro d δ=>Q (.ro d δ)
end
def vk(next:Loc->Prop)(Q:Out->Prop):Out->Prop
 |.nx δ=>next δ
 |.rt d δ=>Q (.rt d δ)
 |.ro d δ=>Q (.ro d δ)
def rO(δ:Loc)(i:Nat)(s:Sl)(Q:Loc->Prop):Prop:=i<δ.length/\Q (δ.set i s)
def zh(pre δ:Loc)(i:Nat)(s:Sl)(Q:Loc->Prop):Prop:=i<δ.length/\Q (pre.reverse++δ.set i s)
def zm(pre δ:Loc)(Q:Loc->Prop):Prop:=Q (pre.reverse++δ)
def AN(δ0:Loc)(j:Nat)(δ:Loc)(i:Nat)(Q:D->Loc->Prop):Prop:=match δ[i]? with
 |some (.val d)=>Q d δ0
 |some (.own ds)=>Q (.lst ds) (δ0.set j (.val (.lst ds)))
 |some (.odc ks ds)=>Q (.dct ks ds) (δ0.set j (.val (.dct ks ds)))
 |_=>False
def EZ(δ:Loc)(i:Nat)(Q:List D->Prop):Prop:=match δ[i]? with
 |some (.own ds)=>Q ds
 |_=>False
section
variable{cx:Cl}{δ pre:Loc}
def uz{ss:Ss}{Q:Out->Prop}:uA cx ss Q (.nx δ)↔wSs cx ss δ Q:=dE
def Bv{ss:Ss}{Q:Out->Prop}{d:D}:uA cx ss Q (.rt d δ)↔Q (.rt d δ):=dE
def Ds{n:Loc->Prop}{Q:Out->Prop}:vk n Q (.nx δ)↔n δ:=dE
def AS{i:Nat}{s:Sl}{Q:Loc->Prop}:rO δ i s Q↔zh [] δ i s Q:=dE
def zg{i:Nat}{s t:Sl}{Q:Loc->Prop}:zh pre (t::δ) (i+1) s Q↔zh (t::pre) δ i s Q:=by simp[zh]
def zf{s t:Sl}{Q:Loc->Prop}:zh pre (t::δ) 0 s Q↔zm pre (s::δ) Q:=by simp[zh,zm]
def zl{t:Sl}{Q:Loc->Prop}:zm (t::pre) δ Q↔zm pre (t::δ) Q:=by simp[zm]
def AZ{Q:Loc->Prop}:zm [] δ Q↔Q δ:=dE
def qA{δ0:Loc}{i j:Nat}{t:Sl}{Q:D->Loc->Prop}:AN δ0 j (t::δ) (i+1) Q↔AN δ0 j δ i Q:=dE
def uo{δ0:Loc}{j:Nat}{d:D}{Q:D->Loc->Prop}:AN δ0 j (.val d::δ) 0 Q↔Q d δ0:=dE
def xR{i:Nat}{Q:D->Loc->Prop}:wE cx (.var i) δ Q↔AN δ i δ i Q:=by
 rw[Jk];unfold zX AN PP.get demote
 cases h:δ[i]? with
 |none=>simp
 |some s=>cases s<;>simp
def dr{Q:Out->Prop}:wSs cx .nil δ Q↔Q (.nx δ):=yr
def bz{s:S}{ss:Ss}{Q:Out->Prop}:wSs cx (.cons s ss) δ Q↔wS cx s δ (uA cx ss Q):=by
 unfold wSs wS;simp only[cU]
 cases evS cx s δ with
 |none=>exact yn (λ⟨_,e,_⟩=>by cases e)
 |some o =>
  refine Iff.trans ?_ yr.symm
  cases o with
  |nx δ1=>exact dE
  |_=>exact yr
def gG{tg:Tg}{e:E}{Q:Out->Prop}:wS cx (.asg tg e) δ Q↔wE cx e δ λd δ1=>wTg δ1 tg d λδ2=>Q (.nx δ2):=yb.trans (xc λ_ _=>yqs.trans (xd λ_=>yr))
def Jc{i:Nat}{d:D}{Q:Loc->Prop}:wTg δ (.nm i) d Q↔rO δ i (.val d) Q:=yi
def Jb{is:List Nat}{ds:List D}{Q:Loc->Prop}:wTg δ (.tp is) (.tup ds) Q↔(is.length=ds.length/\is.all (· < δ.length)=true)/\Q ((is.zip ds).foldl (λδ p=>δ.set p.1 (.val p.2)) δ):=yi
def AU{i:Nat}{e:E}{Q:Out->Prop}:wS cx (.new i e) δ Q↔wE cx e δ λd δ1=>∃ds,d=.lst ds/\rO δ1 i (.own ds) λδ2=>Q (.nx δ2):=yb.trans (xc λx _=>by
 cases x with
 |lst k=>refine Iff.trans ?_ DP.symm;exact yi
 |_=>exact yn λ⟨_,e,_⟩=>by cases e)
def Je{own:Bool}{i:Nat}{e:E}{Q:Out->Prop}:wS cx (.cmp own i e) δ Q↔wE cx e δ λd δ1=>∃ds,d=.lst ds/\rO δ1 i (bif own then .own ds else .val (.lst ds)) λδ2=>Q (.nx δ2):=yb.trans (xc λx _=>by
 cases x with
 |lst k=>refine Iff.trans ?_ DP.symm;cases own<;>exact yi
 |_=>exact yn λ⟨_,e,_⟩=>by cases e)
def xQ{i:Nat}{e:E}{Q:Out->Prop}:wS cx (.cmp false i e) δ Q↔wE cx e δ λd δ1=>∃ds,d=.lst ds/\rO δ1 i (.val (.lst ds)) λδ2=>Q (.nx δ2):=Je
def jo{e:E}{Q:Out->Prop}:wS cx (.ret e) δ Q↔wE cx e δ λd δ1=>Q (.rt d δ1):=yb.trans (xc λ_ _=>yr)
def oN{c:E}{a b:Ss}{Q:Out->Prop}:wS cx (.ifs c a b) δ Q↔wT cx c δ λk δ1=>if k=true then wSs cx a δ1 Q else wSs cx b δ1 Q:=yb.trans (xc λk _=>by cases k<;>exact dE)
def AX{tg:Tg}{src:It}{body:Ss}{Q:Out->Prop}:wS cx (.for_ tg src body) δ Q↔wI cx src δ λds δ1=>qe cx tg body ds δ1 Q:=yb.trans (xc λ_ _=>dE)
def ur{c:E}{body:Ss}{Q:Out->Prop}:wS cx (.while_ c body) δ Q↔oM cx c body 1000 δ Q:=dE
def AV{i:Nat}{es:Es}{ds:List D}{n:Int}{d:D}{δ1:Loc}{ds1:List D}{Q:Out->Prop}(h0:δ[i]?=some (.own ds))(h:cS cx es δ=some ([.int n,d],δ1))(h1:δ1[i]?=some (.own ds1))(hn:0<=n/\n<2^62/\ds1.length<sizeLine)(q:Q (.nx (δ1.set i (.own (ds1.take n.toNat++d::ds1.drop n.toNat))))):wS cx (.ins i es) δ Q :=
 ⟨_,by simp only[evS,h0,h,h1,ae,ah,if_pos hn],q⟩
def zj{i:Nat}{e:E}{Q:Out->Prop}:wS cx (.append i e) δ Q↔EZ δ i λ_=>wE cx e δ λd δ1=>EZ δ1 i λds=>ds.length<sizeLine/\rO δ1 i (.own (ds++[d])) λδ2=>Q (.nx δ2):=by
 unfold wS EZ;simp only[evS]
 cases δ[i]? with
 |none=>exact yn id
 |some s =>
  cases s with
  |own ds0 =>
   refine yb.trans (xc λd δ1=>?_);dsimp only
   cases h1:δ1[i]? with
   |none=>exact yn id
   |some s =>
    cases s with
    |own ds=>exact yi.trans ⟨λq=>⟨q.1,(aF.mp h1).1,q.2⟩,λq=>⟨q.1,q.2.2⟩⟩
    |_=>exact yn id
  |_=>exact yn id
def lQ{tg:Tg}{body:Ss}{Q:Out->Prop}:qe cx tg body [] δ Q↔Q (.nx δ):=yr
def mK{tg:Tg}{body:Ss}{x:D}{xs:List D}{Q:Out->Prop}:qe cx tg body (x::xs) δ Q↔wTg δ tg x λδ2=>wSs cx body δ2 (vk (λδ3=>qe cx tg body xs δ3 Q) Q):=by
 unfold qe wTg wSs;simp only[forL,Nu]
 cases dy δ tg x with
 |none=>exact yn (λ⟨_,e,_⟩=>by cases e)
 |some δ2 =>
  refine Iff.trans ?_ yr.symm;dsimp only
  cases cU cx body δ2 with
  |none=>exact yn (λ⟨_,e,_⟩=>by cases e)
  |some o =>
   refine Iff.trans ?_ yr.symm
   cases o with
   |nx δ1=>exact dE
   |_=>exact yr
def nv{c:E}{body:Ss}{n:Nat}{Q:Out->Prop}:oM cx c body (n+1) δ Q↔wT cx c δ λk δ1=>if k=true then wSs cx body δ1 (vk (λδ3=>oM cx c body n δ3 Q) Q)else Q (.nx δ1):=by
 unfold oM wT wSs;simp only[lg]
 cases evT cx c δ with
 |none=>exact yn (λ⟨_,_,e,_⟩=>by cases e)
 |some p =>
  refine Iff.trans ?_ (xq.trans yr).symm;obtain⟨k,δ1⟩:=p
  cases k with
  |false=>exact yr
  |true =>
   dsimp only
   cases cU cx body δ1 with
   |none=>exact yn (λ⟨_,e,_⟩=>by cases e)
   |some o =>
    refine Iff.trans ?_ yr.symm
    cases o with
    |nx δ1=>exact dE
    |_=>exact yr
def oO{tg:Tg}{body:Ss}{Q:Out->Prop}(P:List D->Loc->Prop)(step:∀x xs δ,P (x::xs) δ->wTg δ tg x λδ2=>wSs cx body δ2 (vk (P xs) Q))(fin:∀δ,P [] δ->Q (.nx δ)):∀(ds:List D)(δ:Loc),P ds δ->qe cx tg body ds δ Q
 |[],δ,h=>lQ.mpr (fin δ h)
 |x::xs,δ,h=>by
  rw[mK];obtain⟨δ2,e,o,e2,q⟩:=step x xs δ h;refine⟨δ2,e,o,e2,?_⟩
  cases o with
  |nx δ1=>exact oO P step fin xs δ1 q
  |rt d δ1=>exact q
  |ro d δ1=>exact q
def lh{k:Nat}{tg:Tg}{ifs:Eo}{elt:E}{Q:List D->Loc->Prop}(P:D->D->Prop):∀(ds:List D),(∀x∈ds,wTg (δ++aC k .no) tg x λδ2=>wG cx ifs δ2 λb δ3=>b=true/\wE cx elt δ3 λy δ4=>P x y/\δ4.take δ.length=δ) ->
 (∀ys,PySem.Paired P ds ys->Q ys δ)->kM cx k tg ifs elt ds δ Q
 |[],h,q=>qB.mpr (q [] .nil)
 |x::xs,h,q=>by
  rw[oP];obtain⟨δ2,e,b,δ3,e2,rfl,y,δ4,e3,p,t⟩:=h x ay;refine⟨δ2,e,true,δ3,e2,?_⟩;show if true=true then _ else _
  rw[if_pos rfl];refine⟨y,δ4,e3,?_⟩;show kM cx k tg ifs elt xs (δ4.take δ.length) _;rw[t];exact lh P xs (λz hz=>h z (ao _ hz)) λys r=>q (y::ys) (.cons p r)
end
def Bg{a b:Int}{Q:D->Prop}:wOp .add (.int a) (.int b) Q↔Q (.int (a+b)):=yr
def Ba{a b:Int}{Q:D->Prop}:wOp .sub (.int a) (.int b) Q↔Q (.int (a-b)):=yr
def Bb{a b:Int}{Q:D->Prop}:wOp .mul (.int a) (.int b) Q↔nG a b=true/\Q (.int (a*b)):=yi
def Bc{a b:Int}{Q:D->Prop}:wOp .mod (.int a) (.int b) Q↔0<b/\Q (.int (a%b)):=yi
def zo{a b:Int}{Q:D->Prop}:wOp .fdiv (.int a) (.int b) Q↔(0<b/\b<1000000000000000000000000000000000000000000000000000000000000)/\Q (.int (a/b)):=yi
def Be{a b:Str}{Q:D->Prop}:wOp .add (.str a) (.str b) Q↔a.length+b.length<=sizeLine/\Q (.str (a++b)):=yi
def Bf{a b:List D}{Q:D->Prop}:wOp .add (.lst a) (.lst b) Q↔a.length+b.length<=sizeLine/\Q (.lst (a++b)):=yi
def Fg{a b:Int}{Q:Bool->Prop}:zp .lt (.int a) (.int b) Q↔Q (decide (a<b)):=yr
def Fh{a b:Int}{Q:Bool->Prop}:zp .gt (.int a) (.int b) Q↔Q (decide (b<a)):=yr
def uu{a b:Int}{Q:Bool->Prop}:zp .eq (.int a) (.int b) Q↔Q (decide (a=b)):=yr
def Bo{a b:Str}{Q:Bool->Prop}:zp .eq (.str a) (.str b) Q↔Q (a==b):=yr
def Bn{a:D}{ds:List D}{Q:Bool->Prop}:zp .isin a (.tup ds) Q↔(dep a<=150/\eO ds<99999)/\Q (ds.any λy=>eqD y a):=yi
def zt{ds:List D}{Q:D->Prop}:Jr .len [.lst ds] Q↔Q (.int ds.length):=yr
def zq{ds:List D}{Q:D->Prop}:Jr .toTup [.lst ds] Q↔Q (.tup ds):=yr
def Fc{ds:List D}{i:Int}{Q:D->Prop}:wIx (.lst ds) (.int i) Q↔∃d,L2.atI ds i=some d/\Q d:=dE
def Bi{d:D}{ds:List D}{Q:D->Prop}:wIx (.tup (d::ds)) (.int 0) Q↔Q d:=by
 simp[wIx,ixD,L2.atI,L2.ixN]
def vU{ds:List D}{Q:List D->Prop}:wItems (.lst ds) Q↔Q ds:=yr
def jJ(G:List Fd)(gl:List D)(n i:Nat)(ds:List D)(Q:D->Prop):Prop:=∃d,PP.run G gl n i ds=some d/\Q d
def retS(Q:D->Prop):Out->Prop
 |.rt d _=>Q d
 |.nx _=>Q .non
 |.ro d _=>Q d
def eY{G:List Fd}{gl:List D}{n i:Nat}{ds:List D}{P Q:D->Prop}(h:jJ G gl n i ds P)(k:∀d,P d->Q d):jJ G gl n i ds Q:=by
 obtain⟨d,e,p⟩:=h;exact⟨d,e,k d p⟩
def bU{G:List Fd}{gl:List D}{n i:Nat}{ds:List D}{Q:D->Prop}(fd:Fd)(h:G[i]?=some fd)(hl:ds.length=fd.ps.length)(hf:fd.hf=false)(q:wSs ⟨PP.run G gl n,gl,hfs G⟩ fd.body (init (fd.ps++fd.loc).length ds) (retS Q)):jJ G gl (n+1) i ds Q:=by
 obtain⟨o,e,q⟩:=q;unfold jJ
 have:PP.run G gl (n+1) i ds=outD (cU ⟨PP.run G gl n,gl,hfs G⟩ fd.body (init (fd.ps++fd.loc).length ds)):=by
  conv=>lhs;unfold PP.run
  rw[h];dsimp only;rw[if_pos hl,hf];rfl
 rw[this,e]
 cases o with
 |rt d δ=>exact⟨d,rfl,q⟩
 |ro d δ=>exact⟨d,rfl,q⟩
 |nx δ=>exact⟨.non,rfl,q⟩
def qD{G:List Fd}{gl:List D}{n f:Nat}{ds:List D}{Q:D->Prop}:Ij ⟨PP.run G gl n,gl,hfs G⟩ f ds Q↔jJ G gl n f ds Q:=dE
def FY{Q:D->Prop}{d:D}{δ:Loc}:retS Q (.rt d δ)↔Q d:=dE
def Fb{x:Str}{i:Int}{Q:D->Prop}:wIx (.str x) (.int i) Q↔x.length<=sizeLine/\∃c,L2.atI x.cps.toList i=some c/\Q (.str ⟨#[c]⟩):=by
 unfold wIx ixD;dsimp only;constructor
 .rintro⟨z,e,q⟩;split at e
  .rw[aj]at e;obtain⟨c,e,rfl⟩:=e;exact⟨‹_›,c,e,q⟩
  .cases e
 .rintro⟨h,c,e,q⟩;exact⟨_,by rw[if_pos h,e];rfl,q⟩
def lN{G:List Fd}{gl:List D}{n i:Nat}{ds:List D}{d:D}{Q:D->Prop}(h:PP.run G gl n i ds=some d):jJ G gl n i ds Q↔Q d:=by
 unfold jJ;rw[h];exact⟨λ⟨_,e,q⟩=>by cases e;exact q,λq=>⟨d,rfl,q⟩⟩
def dq{G:List Fd}{gl:List D}{n i:Nat}{ds:List D}{d:D}(h:jJ G gl n i ds λx=>x=d):PP.run G gl n i ds=some d:=by
 obtain⟨x,e,rfl⟩:=h;exact e
def vE{α:Type}{ds:List α}{j:Int}(h0:0<=j)(h1:j<ds.length):∃d,d∈ds/\L2.atI ds j=some d:=by
 have hk:j.toNat<ds.length:=by omega
 refine⟨ds[j.toNat],ES hk,?_⟩;have:=L2.atI_nat (xs:=ds) (j:=j.toNat) (v:=ds[j.toNat]) (aN hk)
 rwa[show((j.toNat:Nat):Int)=j by omega]at this
def mul_r{a b:Int}(h0:-(2^64)<b)(h1:b<2^64):nG a b=true:=by
 unfold nG;simp only[decide_eq_true h0,decide_eq_true h1,uh,nR,nQ]
def Nf{a b:Int}(h0:-(2^64)<a)(h1:a<2^64):nG a b=true:=by
 unfold nG;simp only[decide_eq_true h0,decide_eq_true h1,uh,nR,nQ]
def small{n:Nat}(h:n<=1000):n<=sizeLine:=cG (cJ h ⇑0)
def str_len(x:Str):x.cps.toList.length=x.length:=by
 show x.cps.toList.length=x.cps.size;simp
def se{lo:Int}{n:Nat}:(lq lo n).length=n:=by simp[lq]
def Bh{a b:D}{ds:List D}{Q:D->Prop}:wIx (.tup (a::b::ds)) (.int 1) Q↔Q b:=by
 have:L2.atI (a::b::ds) 1=some b:=L2.atI_nat (j:=1) rfl;simp[wIx,ixD,this]
def EV{δ:Loc}{i j:Nat}{a b:D}{Q:Loc->Prop}:wTg δ (.tp [i,j]) (.tup [a,b]) Q↔rO δ i (.val a) λδ1=>rO δ1 j (.val b) Q:=by
 rw[Jb];unfold rO;simp only[cg,vP,aZ,cT,aa,decide_eq_true_eq];exact⟨λ⟨⟨_,h1,h2⟩,q⟩=>⟨h1,h2,q⟩,λ⟨h1,h2,q⟩=>⟨⟨rfl,h1,h2⟩,q⟩⟩
def SI:=aG (@aw.{0,0}) (aG (@dm.{0,0}) (aG (@gF.{0}) (aG (@hU.{0}) (aG (@bq.{0}) (aG (@ag.{0}) (aG (@aL.{0}) (aG (@Ay.{0}) (@Ax.{0}))))))))
def WI:(∀a b:Prop,(if True then a else b)=a)/\(∀a b:Prop,(if False then a else b)=b)/\((false=true)=False)/\∀(p:Prop)[Decidable p],(decide p=true)=p:=⟨λ_ _=>if_pos trivial,λ_ _=>if_neg id,↥0,λp _=>by simp⟩
def WS:=aG (@Bm) (aG (@Jm) (aG (@Jq) (aG (@AO) (aG (@Jn) (aG (@Jd) (aG (@Jl) (aG (@Jo) (aG (@Mn) (aG (@Mm) (aG (@rR) (aG (@Jp) (aG (@Ff) (aG (@Bk) (aG (@Mj) (aG (@Ji) (aG (@Ml) (aG (@Jj) (aG (@Mk) (aG (@oo) (aG (@uz) (aG (@Bv) (aG (@Ds) (aG (@AS) (aG (@zg) (aG (@zf) (aG (@zl) (aG (@AZ) (aG (@qA) (aG (@uo) (aG (@xR) (aG (@dr) (aG (@bz) (aG (@gG) (aG (@Jc) (aG (@AU) (aG (@xQ) (aG (@jo) (aG (@oN) (aG (@AX) (aG (@ur) (aG (@Bg) (aG (@Ba) (aG (@Bb) (aG (@Bc) (aG (@zo) (aG (@Be) (aG (@Bf) (aG (@Fg) (aG (@Fh) (aG (@uu) (aG (@Bo) (aG (@Bn) (aG (@zt) (aG (@zq) (aG (@Fc) (aG (@Bi) (aG (@vU) (aG (@qD) (aG (@FY) (aG (@Fb) (aG (@yM) (aG (@DP) (aG (@Bh) (aG (@EV) (fO)))))))))))))))))))))))))))))))))))))))))))))))))))))))))))))))))
section
variable{cx:Cl}{δ:Loc}
def iU{α:Type}(g:α->D)(p:α->Bool)(h:α->D):∀(xs:List α),(∀x∈xs,wTg (δ++aC k .no) tg (g x) λδ2=>wG cx ifs δ2 λb δ3=>b=p x/\if b=true then wE cx elt δ3 λy δ4=>y=h x/\δ4.take δ.length=δ else δ3.take δ.length=δ) ->
 Q ((xs.filter p).map h) δ->kM cx k tg ifs elt (xs.map g) δ Q
 |[],_,q=>qB.mpr q
 |x::xs,hx,q=>by
  rw[aw,oP];obtain⟨δ2,e,b,δ3,e2,rfl,e3⟩:=hx x ay;refine⟨δ2,e,_,δ3,e2,?_⟩
  cases hp:p x with
  |true =>
   rw[hp,if_pos rfl]at e3;obtain⟨y,δ4,e4,rfl,t⟩:=e3;rw[if_pos rfl];refine⟨_,δ4,e4,?_⟩;show kM cx k tg ifs elt _ (δ4.take δ.length) _;rw[t];refine iU g p h xs (λz hz=>hx z (ao _ hz)) ?_;rw[List.filter_cons_of_pos hp]at q
   exact q
  |false =>
   rw[hp,if_neg aq]at e3;rw[if_neg aq,e3];refine iU g p h xs (λz hz=>hx z (ao _ hz)) ?_;rw[List.filter_cons_of_neg (by simp[hp])]at q;exact q
def iT{α:Type}(g:α->D)(P:List α->Loc->Prop)(step:∀x xs δ,P (x::xs) δ->wTg δ tg (g x) λδ2=>wSs cx body δ2 (vk (P xs) Q))(fin:∀δ,P [] δ->Q (.nx δ))(xs:List α)(δ:Loc)(h:P xs δ):qe cx tg body (xs.map g) δ Q:=by
 induction xs generalizing δ with
 |nil=>exact lQ.mpr (fin δ h)
 |cons x xs ih =>
  rw[aw,mK];obtain⟨δ2,e,o,e2,q⟩:=step x xs δ h;refine⟨δ2,e,o,e2,?_⟩
  cases o with
  |nx δ3=>exact ih δ3 q
  |rt d δ3=>exact q
  |ro d δ3=>exact q
end
section
variable{cx:Cl}{δ:Loc}
end
section
variable{cx:Cl}{δ:Loc}
end
end PP
end
section
namespace PP
open PySem L2 PyProof.Rows
variable[Tbs]
section
variable{K:PySem.W.Frag}{H:Hp}{F:av->Prop}
end
section
variable{X:Cx}{cx:Cl}
def Rel.dct{K:PySem.W.Frag}{H:Hp}{F:av->Prop}{ks:List Str}{ds:List D}{v:V}(h:Rel K H F (.dct ks ds) v):∃a vs,v=.ref a/\Rd H a (.dK (zk ks vs))/\ks.Nodup/\ks.length=ds.length/\aH K H F ds vs:=by
 unfold Rel at h;obtain⟨a,vs,e,h1,_,h3,h4,h5⟩:=h;exact⟨a,vs,e,h1,h3,h4,h5⟩
def DGet.rd(e:Rd H a (.dK kvs)):L2.DGet H a (kV k) (lp kvs k):=.inl ⟨kvs,k,e,rfl,rfl⟩
def FK{a b e:E}{y z w:aE}{ap cp:Pos}(hu:X.A.units+1<cLine)(na:(!bj a)=true)(nb:(!bj b)=true)(ne:(!bj e)=true)(ha:PE X y (tE X.K cx a))(hb:PE X z (tE X.K cx b))(he:PE X w (tE X.K cx e))(m:M2 X y "get" ap z w cp) :
 PE X (.Call (.Attribute y "get" ap) [z,w] [] cp) (tE X.K cx (.dgt a b e)):=by
 refine PE.imp (CL hu ha hb he m) λσ H Q h=>?_;obtain⟨G,F,δ,d,δ',ok,ev,post⟩:=h;simp only[evE,ae,af]at ev;obtain⟨⟨x,δ1⟩,ea,⟨y',δ2⟩,eb,⟨z',δ3⟩,ec,ev⟩:=ev;dsimp only at ev eb ec;split at ev
 .rename_i ks ds t;cases ev;refine⟨G,F,δ,_,δ1,ok,ea,λv H1 F1 st1 sm1 ok1 r1=>?_⟩;have q1:=dg na r1;obtain⟨p,vs,e4,h1,_⟩:=q1.dct;refine⟨p,e4,.inl ⟨_,h1⟩,G,F1,δ1,_,δ2,ok1,eb,λu H2 F2 st2 sm2 ok2 r2=>⟨G,F2,δ2,z',_,ok2,ec,λw H3 F3 st3 sm3 ok3 r3=>?_⟩⟩;have e3:=r2.b.str;subst e3;have q3:=Rel.step ok1.fd (st2.trans st3) _ _ q1;obtain⟨p',vs',e4',h1',h2,h3,h4⟩:=q3.dct;rw[e4]at e4';cases e4';obtain⟨g1,g2⟩:=vy t h3 h4;refine⟨_,DGet.rd (k:=.inr t) h1',?_⟩
  have fin:∀u,Rel X.K H3 F3 ((kQ ks ds t).getD z') u->Q u H3:=λu r=>post u H3 F3 ((st1.trans st2).trans st3) (λz=>by
   have z1:=(aa _ _).mp (show(np a&&np b&&np e)=true from z);have z2:=(aa _ _).mp z1.1;exact((sm1 z2.1).trans (sm2 z2.2)).trans (sm3 z1.2)) ok3 (eL r)
  cases eg:kQ ks ds t with
  |none =>
   rw[g2 eg];refine fin _ ?_;rw[eg]
   exact dg ne r3
  |some d0 =>
   obtain⟨w',e5,rw'⟩:=g1 d0 eg;rw[e5];refine fin _ ?_;rw[eg];exact rw'
 .cases ev
end
end PP
end
section
namespace L2
open PySem PySem.Spec PyProof.Rows
def qO(l:List ai):∀n:Nat,n<=l.length->(((dW n).map λ(k:Nat)=>(((l.length:Int)-1)+(-1)*(k:Int)).toNat).filterMap λj=>l[j]?)=(l.drop (l.length-n)).reverse
 |0,_=>by simp
 |n+1,h=>by
  have hk:l.length-1-n<l.length:=by lia
  have e:(((l.length:Int)-1)+(-1)*(n:Int)).toNat=l.length-1-n:=by lia
  rw[List.range_succ,bP,List.filterMap_append,qO l n ∅,show l.length-(n+1)=l.length-1-n by lia,bN hk,show l.length-1-n+1=l.length-n by lia,cL];simp only[aw,dm,e,bt,mI,aN hk]
def pf{its:List ai}{i:Int}(h:i<0):slicePick its.toArray none (some i) (some (-1))=(its.drop (its.length-(-1-i).toNat)).reverse.toArray:=by
 have e:sliceBounds none (some i) (some (-1)) its.length=((its.length:Int)-1,max (-1) (min (i+its.length) ((its.length:Int)-1)),-1):=by
  simp only[sliceBounds,nN,h,if_true,show ¬(-1:Int)>0 by decide,if_false]
 unfold slicePick;rw[aB,e];unfold sliceRange;rw[if_neg (show ¬(-1:Int)>0 by decide)]
 have hn:(if(its.length:Int)-1>max (-1) (min (i+its.length) ((its.length:Int)-1))then((its.length:Int)-1-max (-1) (min (i+its.length) ((its.length:Int)-1))-(-1)-1)/(- -1)else 0).toNat=min its.length (-1-i).toNat:=by
  rw[show(- -1:Int)=1 from rfl,Int.ediv_one];split<;>omega
 dsimp only;rw[hn];have:=qO its (min its.length (-1-i).toNat) (qv _ _);rw[show its.length-(-1-i).toNat=its.length-min its.length (-1-i).toNat by omega,<- this];simp only[List.getElem?_toArray]
section
variable{X:Cx}{e:aE}{hi st:Option aE}{te:TE}{th ts:TO}{pos p2:Pos}
def tRl(K:PySem.W.Frag)(te:TE)(th ts:TO):TE:=λσ H Q=>te σ H λx H1=>th σ H1 λh H2=>ts σ H2 λo H3=>o=some (-1)/\∃i a xs,h=some i/\i<0/\x=.ref a/\SqL K H3 a xs/\∀p,H3 p=none->Q (.ref p) (upd H3 p (.lst (xs.drop (xs.length-(-1-i).toNat)).reverse))
def Vals.back(r:Vals xs us):Vals xs.reverse us.reverse:=by
 induction r with
 |nil=>exact .nil
 |cons h t ih=>rw[cL,cL];exact ih.append (.cons h .nil)
def Kg(he:PE X e te)(hh:PO X hi th)(hs:PO X st ts):PE X (.Subscript e (.Slice none hi st p2) pos) (tRl X.K te th ts):=by
 intro pins s σ H Q I h;refine xD (thn (he pins s σ H _ I h) λv s1⟨x,H1,I1,r1,q1⟩=>?_);refine wpAny_Slice ?_;rw[Ar];refine bf (thn (hh pins s1 σ H1 _ I1 q1) λvh s2⟨o,H2,I2,ph,q2⟩=>thn (hs pins s2 σ H2 _ I2 q2) λvi s3⟨j,H3,I3,ps,ej,i,a,xs,eo,hn,ex,hx,q3⟩=>?_);subst ej eo ex;obtain rfl:v=cj a:=r1;have I4:Inv X pins σ H3 {s3 with heap:=s3.heap.push {cls:=.type "slice",data:=.fields #[.none,vh,vi]} }:=I3.kept (t':=s3.toks) λb ob q=>ax _ q;obtain⟨its,r,ht,hz⟩:=I4.list hx;have hlen:=r.length
 have hg:wpAny (model X.prog X.w) X.A (getItem (.ref a) (.ref s3.heap.objs.size)) (EP X pins σ Q) X.xe {s3 with heap:=s3.heap.push {cls:=.type "slice",data:=.fields #[.none,vh,vi]} }:=by
  refine Ap ht.isList (qd ..) .none ph ps ↥0 ?_ (by rw[aB]<;>lia);rw[pf hn,<- hlen];refine⟨.ref _,_,I4.laid (t':=s3.toks) (o:=.lst (xs.drop (xs.length-(-1-i).toNat)).reverse) (λb ob q=>ax _ q) (aD _) ?_,rfl,q3 _ (I4.hok.fresh (aD _))⟩;exact⟨by rw[bb,aR];lia,_,0,(r.drop _).back,aV _ rfl⟩
 cases st<;>cases hi<;>first
  |exact HU (ops:=[.ref s3.heap.objs.size,.ref a]) ht.isList.typeIs slot_list_getitem.lookup hg (by with_unfolding_all rfl)
  |exact HU (ops:=[.ref a,.ref s3.heap.objs.size]) ht.isList.typeIs slot_list_getitem.lookup hg (by with_unfolding_all rfl)
end
end L2
namespace PP
open PySem L2 PyProof.Rows
variable[Tbs]
section
variable{K:PySem.W.Frag}{cx:Cl}{X:Cx}
def aH.back:∀{ds:List D}{xs:List V},aH K H F ds xs->aH K H F ds.reverse xs.reverse
 |[],xs,h=>by unfold aH at h;subst h;exact aH.nil
 |d::ds,xs,h=>by
  unfold aH at h;obtain⟨y,ys,rfl,h1,h2⟩:=h;rw[cL,cL];exact(aH.back h2).append (aH.one h1)
def aH.dropn:∀{ds:List D}{xs:List V}(n:Nat),aH K H F ds xs->aH K H F (ds.drop n) (xs.drop n)
 |ds,xs,0,h=>h
 |[],xs,n+1,h=>by unfold aH at h;subst h;exact aH.nil
 |d::ds,xs,n+1,h=>by
  unfold aH at h;obtain⟨y,ys,rfl,h1,h2⟩:=h;exact aH.dropn n h2
def Fu{a:E}{h s:Eo}{y:aE}{hi t:Option aE}{pos p2:Pos}(n:(!bj a)=true)(ha:PE X y (tE X.K cx a))(hh:PO X hi (tO X.K cx h))(hs:PO X t (tO X.K cx s)):PE X (.Subscript y (.Slice none hi t p2) pos) (tE X.K cx (.rvl a h s)):=by
 refine PE.imp (Kg ha hh hs) λσ H Q hq=>?_;obtain⟨G,F,δ,d,δ',ok,ev,post⟩:=hq;simp only[evE,ae,af]at ev;obtain⟨⟨x,δ1⟩,ea,⟨u,δ2⟩,eb,⟨o,δ3⟩,ec,ev⟩:=ev;dsimp only at eb ec ev;split at ev
 .rename_i ds i;split at ev
  .rename_i hc;cases ev;refine⟨G,F,δ,_,δ1,ok,ea,λv H1 F1 st1 sm1 ok1 r1=>⟨G,F1,δ1,_,δ2,ok1,eb,λH2 F2 st2 sm2 ok2=>⟨G,F2,δ2,o,_,ok2,ec,λH3 F3 st3 sm3 ok3=>⟨hc.2,?_⟩⟩⟩⟩;have r:=Rel.step ok1.fd (st2.trans st3) _ _ (dg n r1);unfold Rel at r;obtain⟨p,xs,e1,h1,h2⟩:=r;refine⟨i,p,xs,rfl,hc.1,e1,h1.sq,λq hq=>?_⟩;obtain⟨o1,_⟩:=ok3.laid hq (.lst (xs.drop (xs.length-(-1-i).toNat)).reverse);refine post _ _ F3 (((st1.trans st2).trans st3).trans (Step.of_same (cF hq _))) (λz=>?_) o1 (eL ?_)
   .have z':(np a&&npO h&&npO s)=true:=z;rw[aa,aa]at z';exact(((sm1 z'.1.1).trans (sm2 z'.1.2)).trans (sm3 z'.2)).trans (.of (cF hq _))
   .rw[h2.length];exact js ok3 hq (h2.dropn _).back
  .cases ev
 .cases ev
def oR{x:Str}:∀{ks:List Str}{vs:List V},x∉ks->lp (zk ks vs) (.inr x)=none
 |[],_,_=>by unfold zk;rfl
 |_::_,[],_=>by unfold zk;rfl
 |k::ks,v::vs,h=>(jS (DH λe=>h (by rw[e];exact ay))).trans (oR λz=>h (ao _ z))
def xM:∀{ks:List Str}{vs:List V},ks.length=vs.length->zk ks vs++[(.inr x,v)]=zk (ks++[x]) (vs++[v])
 |[],[],_=>rfl
 |k::ks,w::vs,h=>by
  show(_::(zk ks vs++_))=_;rw[xM (lI h)];rfl
def vj:∀{l:List (Str×Int)}{ks:List Str}{vs:List V},(ks++l.map iH).Nodup->ks.length=vs.length->ju (zk ks vs) (l.map λp=>((.inr p.1:Key),V.int p.2))=zk (ks++l.map iH) (vs++l.map λp=>V.int p.2)
 |[],ks,vs,_,_=>by rw[dm,dm,dm,bq,bq];rfl
 |p::l,ks,vs,nd,h=>by
  have hx:p.1∉ks:=λm=>(EI.mp nd).2.2 _ m _ ay rfl;have e:ks++(p::l).map iH=(ks++[p.1])++l.map iH:=by rw[cz];rfl
  show ju (putK (zk ks vs) (.inr p.1) (V.int p.2)) _=_;rw[Ct _ (oR hx),xM h,vj (by rw[<- e];exact nd) (by rw[az,az,h];rfl),cz,cz];rfl
def CF:∀{l:List (Str×Int)}{ks:List (Option aE)}{vs:List aE},LA l ks vs=true->PPs X pos ks vs (l.map λp=>(tC (.str p.1),tC (.int p.2)))/\ks.all (·.isSome)=true/\ks.length=vs.length/\ks.length=l.length
 |[],ks,vs,h=>by
  obtain⟨rfl,h1⟩:=dh h;obtain⟨rfl,h2⟩:=dh h1
  exact⟨yk,rfl,rfl,rfl⟩
 |p::l,ks,vs,h=>by
  obtain⟨k,ks,rfl,a1⟩:=cD h;obtain⟨v,vs,rfl,a2⟩:=cD a1;obtain⟨k,rfl,a3⟩:=lr a2;obtain⟨_,_,_,rfl,a4⟩:=jt a3;obtain⟨_,rfl,a5⟩:=wF a4;obtain⟨_,_,_,rfl,a6⟩:=jt a5;obtain⟨_,rfl,a7⟩:=CZ a6;rw[aa,aa]at a7;have e1:=of_decide_eq_true a7.1;have e2:=of_decide_eq_true a7.2.1;subst e1 e2;obtain⟨h1,h2,h3,h4⟩:=CF a7.2.2;exact⟨uQ wA CJ h1,by rw[cg,h2];rfl,by rw[ag,ag,h3],by rw[ag,ag,h4]⟩
def qH{Q:List (V×V)->Hp->Prop}:∀{l:List (Str×Int)}{R:List (V×V)->List (V×V)},Q (R (l.map λp=>(V.str p.1,V.int p.2))) H->rY (l.map λp=>(tC (.str p.1),tC (.int p.2))) σ H λps H=>Q (R ps) H
 |[],_,h=>h
 |p::l,R,h=>qH (l:=l) (R:=λps=>R ((V.str p.1,V.int p.2)::ps)) h
def xS:upd (upd H p x) p y=upd H p y:=by
 funext b
 by_cases h:b=p
 .subst h;rw[bI,bI]
 .rw[bD h,bD h,bD h]
def qN:∀{l:List (Str×Int)},aH K H F (l.map λp=>D.int p.2) (l.map λp=>V.int p.2)
 |[]=>aH.nil
 |p::l=>aH.cons (cA p.2) qN
def FL{l:List (Str×Int)}{c:Ck}{x:aE}(h:ckE c (.dcc l) x=true):PE X x (tE X.K cx (.dcc l)):=by
 obtain⟨ks,vs,p,rfl,a⟩:=oA h;rw[aa,aa,aa]at a;obtain⟨h1,h2,h3,h4⟩:=a;have nd:=of_decide_eq_true h1;have le:=of_decide_eq_true h2;obtain⟨q1,q2,q3,q4⟩:=CF (X:=X) (pos:=p) h4;refine PE.imp (yo q1 q2 q3 (λe=>?_) (by rw[q4];exact le)) λσ H Q hq=>?_
 .rw[e]at q4
  cases l with
  |nil=>cases h3
  |cons=>cases q4
 obtain⟨G,F,δ,d,δ',ok,ev,post⟩:=hq;cases ev;intro a ha;refine qH (R:=id) (Q:=λps H2=>H2 a=some (.dK [])/\∃kvs:List (Key×V),ps=kvs.map (λkv=>(kV kv.1,kv.2))/\kvs.length<=15/\Q (.ref a) (upd H2 a (.dK (ju [] kvs)))) ⟨bI,l.map λp=>(.inr p.1,V.int p.2),?_,by rw[ak];exact le,?_⟩
 .rw[jP];rfl
 have em:ju [] (l.map λp=>((.inr p.1:Key),V.int p.2))=zk (l.map iH) (l.map λp=>V.int p.2):=vj (ks:=[]) (vs:=[]) nd rfl;rw[em,xS];obtain⟨o1,o2,o3,o4⟩:=ok.laid ha (.dK (zk (l.map iH) (l.map λp=>V.int p.2)));refine post _ _ F o2 (λ_=>o3) o1 (eL ?_);unfold Rel;exact⟨a,_,rfl,.inl bI,o4,nd,by rw[ak,ak],qN⟩
def FJ{c:Ck}{k:Nat}(C:Cok X c cx k){i j:Nat}{x:aE}(h:ckE c (.dsv i j) x=true):PE X x (tE X.K cx (.dsv i j)):=by
 obtain⟨ks,vs,p,rfl,a1⟩:=oA h;obtain⟨_,rfl,a2⟩:=cy a1;obtain⟨_,rfl,a3⟩:=cy a2;obtain⟨_,rfl,a4⟩:=lr a3;obtain⟨_,_,rfl,a5⟩:=aY a4;obtain⟨_,_,rfl,a6⟩:=aY a5;rw[aa]at a6;obtain⟨n1,n2,n3,n4⟩:=C.name a6.1;obtain⟨m1,m2,m3,m4⟩:=C.name a6.2;refine PE.imp (yo (uQ (fH n1 n2 n3 n4) (fH m1 m2 m3 m4) yk) rfl rfl ↥0 (by show 1<=15;decide)) λσ H Q hq=>?_;obtain⟨G,F,δ,d,δ',ok,ev,post⟩:=hq;simp only[evE]at ev;split at ev
 .rename_i t d ei ej;cases ev;obtain⟨v,e1,r1⟩:=ok.sl i _ ei;obtain⟨w,e2,r2⟩:=ok.sl j _ ej;have e3:v=.str t:=r1;subst e3;intro a ha;refine⟨_,e1,w,e2,bI,[(.inr t,w)],rfl,by show 1<=15;decide,?_⟩;show Q _ (upd (upd H a _) a (.dK (zk [t] [w])));rw[xS];obtain⟨o1,o2,o3,o4⟩:=ok.laid ha (.dK (zk [t] [w]));refine post _ _ F o2 (λ_=>o3) o1 (eL ?_);unfold Rel;exact⟨a,_,rfl,.inl bI,o4,↥0,rfl,aH.one (Rel.step ok.fd o2 _ _ r2)⟩
 .cases ev
end
end PP
end
section
namespace PP
open PySem L2 PyProof.Rows
variable[Tbs]
section
variable{cx:Cl}{k:Nat}
def gQ:∀{es:Es},iW es=true->qh es=true
 |.nil,_=>rfl
 |.cons e es,h=>by
  have h':(!bj e&&iW es)=true:=h;rw[aa]at h';show((!bj e||npS es)&&qh es)=true;rw[h'.1,gQ h'.2];rfl
def ib:∀{es:Es}{ys:List aE},iP c es ys=true->(backTo pos (starEach ys env)).any (·.1)=false
 |.nil,ys,h=>by obtain⟨rfl,_⟩:=dh h;rfl
 |.cons e es,ys,h=>by
  obtain⟨_,_,rfl,hh⟩:=cD h;rw[aa]at hh;rw[br (bo hh.1)];show(false||(backTo pos (starEach _ env)).any (·.1))=false;rw[ib hh.2];rfl
def ie(C:Cok X c cx k)(h:lW c sc=true):kf X sc:=by
 unfold lW at h;rw[aa,bK]at h;obtain⟨h1,h2⟩:=h
 have q:∀p∈sc.names,p.2≠.cell/\(p.2=.local->sc.names.lookup p.1=some .local)/\(p.2=.free->c.sc.names.lookup p.1=some .cell\/c.sc.names.lookup p.1=some .free):=λp hp=>by
  have z:=h2 p hp;rw[aa,aa]at z;obtain⟨⟨a,b⟩,d⟩:=z;refine⟨of_decide_eq_true a,λe=>?_,λe=>?_⟩
  .rw[bF]at b;rcases b with b|b
   .simp[e]at b
   .exact of_decide_eq_true b
  .rw[bF]at d;rcases d with d|d
   .simp[e]at d
   .split at d
    .exact .inl ‹_›
    .exact .inr ‹_›
    .cases d
 exact⟨of_decide_eq_true h1,λy hy=>(q y hy).1,λy hy e=>(q y hy).2.1 e,λx hx=>C.kc x ((q _ hx).2.2 rfl)⟩
def gq(C:Cok X c cx k)(h:lW c sc=true)(hn:Nc.Nodup)(cl:List (Str×av))(Ca:av)(s:au)(H:Hp)(fp:List av):Cok (cxC X sc cl Ca Nc s H fp) ⟨Nc,sc,c.fns,c.gn⟩ cx k:=by
 have S:=ie C h;have kd:∀x,(cxC X sc cl Ca Nc s H fp).env.kindOf x=(sc.names.lookup x).map λk=>if(k==bO&&X.env.scope.kind==.function&&X.env.kindOf x==some .cell)then kK else k:=λx=>mW x
 refine⟨rfl,hn,λx hx=>?_,λx hx=>?_,λx hx=>?_,λx hx=>?_,C.calm,rfl,C.room,C.fns,C.fnO,C.fnD,C.blt,C.glob,C.gsome,C.gds,C.pos⟩
 .have e:=kd x;show(cxC X sc cl Ca Nc s H fp).env.kindOf x=some .local\/(cxC X sc cl Ca Nc s H fp).env.kindOf x=some .cell\/(cxC X sc cl Ca Nc s H fp).env.kindOf x=some .free;rw[e];rcases hx with hx|hx|hx
  .rw[hx];exact .inl rfl
  .exact absurd rfl (S.nocell _ (PySem.mem_of_lookup hx))
  .rw[hx];simp only[bg];split
   .exact .inr (.inl rfl)
   .exact .inr (.inr rfl)
 .show(cxC X sc cl Ca Nc s H fp).env.kindOf x=some .globalImplicit;rw[kd x];have hx:sc.names.lookup x=some .globalImplicit:=hx;rw[hx];rfl
 .have:sc.names.lookup x=some .local:=by
   rcases hx with hx|hx
   .exact hx
   .exact absurd rfl (S.nocell _ (PySem.mem_of_lookup hx))
  have e:(cxC X sc cl Ca Nc s H fp).env.kindOf x=some .local:=by rw[kd x,this];rfl
  exact⟨.inl e,.inr e⟩
 .rw[kd x];have hx:sc.names.lookup x=some .cell\/sc.names.lookup x=some .free:=hx;rcases hx with hx|hx
  .exact absurd rfl (S.nocell _ (PySem.mem_of_lookup hx))
  .rw[hx];simp only[bg];split
   .exact .inl rfl
   .exact .inr rfl
def iX(h:namesOk c sc Nc=true):Nc.Nodup/\∀i x,i<c.N.length->Nc[i]?=some x->Vis sc x->c.N[i]?=some x/\sc.names.lookup x=some .free:=by
 unfold namesOk at h;rw[aa,bK]at h;refine⟨of_decide_eq_true h.1,λi x hi e v=>?_⟩;have z:=h.2 i (by simpa using hi);rw[e]at z;dsimp only at z;rw[bF,aa]at z
 have vb:zu sc x=true:=by
  unfold zu;rcases v with v|v|v<;>rw[v]
 rcases z with z|⟨z1,z2⟩
 .rw[vb]at z;cases z
 .exact⟨of_decide_eq_true z1,of_decide_eq_true z2⟩
def vA{X:Cx}{c:Ck}{Nc:List Str}{kk:Nat}{tg:Tg}{src:It}{ifs:Eo}{elt:E}{pins:List (av×Obj)}{s:au}{σ:L2.St}{H:Hp}{Q:VK}(C:Cok X c cx k)(I:Inv X pins σ H s)(n:(!bj elt)=true)(hk:Nc.length=c.N.length+kk)(hge:vZ c.N.length tg=true)
 {G:Gh}{F:av->Prop}{δ δ':Loc}{d:D}(ok:Ok X.K G F σ H δ)(ev:evE cx (.comp kk tg src ifs elt) δ=some (d,δ'))
 (q:∀p ys xs H1 F1 H2 F2,d=.lst ys->Step G F H F1 H1->Step G F1 H1 F2 H2->H1 p=none->G.free p->Ok X.K (G.and p) F2 σ H2 δ'->H2 p=some (.lst xs)->aH X.K H2 F2 ys xs->(np (.comp kk tg src ifs elt)=true->Sim H H2)->Q (.ref p) H2) :
 tLC (Nc.length-X.N.length) (tI X.K cx src) (gTg X.K tg) (tG X.K cx ifs) (tE X.K cx elt) σ H Q:=by
 obtain⟨ds,δ1,ys,ei,ec,hz,rfl⟩:=Hy ev;have ek:Nc.length-X.N.length=kk:=by rw[C.hN,hk];lia
 rw[ek];refine⟨G,F,δ,ds,δ1,ok,ei,λJ H1 F1 st1 sm1 ok1 wk=>λp hp=>?_⟩;have hg:=ok1.free hp;refine xt n (by rw[I.len,C.hN];exact hge) ok1 (wk _) hp ec hz λσ' H2 F2 xs ok2 eD rl st2 sm2=>?_;refine q p ys xs H1 F1 H2 F2 rfl st1 st2 hp hg ok2 eD rl λz=>?_;have z':(npI src&&npO ifs&&np elt)=true:=z;rw[aa,aa]at z';exact(sm1 z'.1.1).trans (sm2 (by rw[z'.1.2,z'.2];rfl))
def Ef{X:Cx}{c:Ck}{Nc:List Str}{kk:Nat}{tg:Tg}{src:It}{ifs:Eo}{elt:E}{pins:List (av×Obj)}{s:au}{σ:L2.St}{H:Hp}{Q:VK}(C:Cok X c cx k)(I:Inv X pins σ H s)(n:(!bj elt)=true)(hk:Nc.length=c.N.length+kk)(hge:vZ c.N.length tg=true)
 (h:tE X.K cx (.comp kk tg src ifs elt) σ H Q):tLC (Nc.length-X.N.length) (tI X.K cx src) (gTg X.K tg) (tG X.K cx ifs) (tE X.K cx elt) σ H Q:=by
 obtain⟨G,F,δ,d,δ',ok,ev,post⟩:=h;refine vA C I n hk hge ok ev λp ys xs H1 F1 H2 F2 e st1 st2 hp hg ok2 eD rl sm=>?_;subst e
 have st':Step G F1 H1 (λb=>F2 b/\b≠p) H2:=⟨st2.keep,λb z=>st2.grow b z.1,λb o r f e=>by
  obtain⟨a1,a2⟩:=st2.res b o r f e;exact⟨⟨a1,λw=>by rw[w,hp]at e;cases e⟩,a2⟩,st2.tb⟩
 refine post (.ref p) H2 _ (st1.trans st') sm (ok2.leave hg) (eL ?_);unfold Rel;exact⟨p,xs,rfl,.inl ⟨.inl eD,λz=>z.2 rfl⟩,aH.less ok2.fd (λb z=>z.1) rl⟩
def BG(C:Cok X c cx k)(n:(!bj elt)=true)(hk:Nc.length=c.N.length+kk)(hge:vZ c.N.length tg=true)(hs:lW c sc=true)(hn:namesOk c sc Nc=true)
 (htg:∀cl Ca s H fp,PG (cxC X sc cl Ca Nc s H fp) t (gTg X.K tg))(hI:PI X t it (tI X.K cx src))(hG:∀cl Ca s H fp,PTs (cxC X sc cl Ca Nc s H fp) il (tG X.K cx ifs))(hE:∀cl Ca s H fp,PE (cxC X sc cl Ca Nc s H fp) ex (tE X.K cx elt))
 (hset:∀v,foldedSetIterable it X.env v=pure v):PE X (.ListComp ex [⟨t,it,il,0⟩] sc pos) (tE X.K cx (.comp kk tg src ifs elt)):=by
 obtain⟨nd,hvis⟩:=iX hn;intro pins s σ H Q I h;refine CI (Nc:=Nc) C.calm (ie C hs) (λi x hi=>by rw[C.hN]at hi |-;exact hvis i x hi) (by rw[C.hN,hk];lia) hI htg hG hE hset pins s σ H Q I ?_;exact Ef C I n hk hge h
def call_of{X:Cx}{c:Ck}{f:Nat}{es:Es}{n:Str}{p pos:Pos}{xs:List aE}(C:Cok X c cx k)(hA:PA X xs (tEs X.K cx es)) (h:(match c.fns[f]? with
 |some (m,ps)=>decide (m=n)&&di c n&&decide (ps.length=DW es)&&iP c es xs&&iW es&&!xs.isEmpty
 |none=>false)=true):PE X (.Call (.Name n p) xs [] pos) (tE X.K cx (.call f es)):=by
 split at h
 .rename_i m ps ef;simp only[aa]at h;obtain⟨⟨⟨⟨⟨h1,h2⟩,h3⟩,h4⟩,h5⟩,h6⟩:=h;have e:=of_decide_eq_true h1;subst e;obtain⟨a,fd,hm,hk,hb,fn⟩:=C.fns f _ _ ef;obtain⟨g1,g2,g3⟩:=C.global h2
  cases xs with
  |nil=>simp at h6
  |cons y ys =>
   obtain⟨_,_,_,a1,a2⟩:=fJ h4;exact BH h5 fn C.room g1 hm hk hb hA g2 (br (bo a1) _ _) (ib a2)
 .cases h
def LL(C:Cok X c cx k)(hg:di c (rA f)=true)(ht:tyName f=none)(hA:PA X (y::ys) (tEs X.K cx es))(h:iP c es (y::ys)=true):PE X (.Call (.Name (rA f) p) (y::ys) [] pos) (tE X.K cx (.blt f es)):=by
 obtain⟨g1,g2,g3⟩:=C.global hg;obtain⟨e,es',rfl,h1,h2⟩:=fJ h;have he:=br (bo h1) ys X.env;have hpl:=ib (env:=X.env) (pos:=pos) h2
 cases f with
 |len=>exact iy Hb rfl (gz LH g1 (C.blt _ ⇑0) rfl hA g3 g2 he hpl)
 |max=>exact iy maxD rfl (gz (LF C.calm) g1 (C.blt _ ⇑0) rfl hA g3 g2 he hpl)
 |toInt=>exact iy rW rfl (gZ LI g1 (C.blt _ ⇑0) rfl hA g3 g2 he hpl)
 |toStr=>exact iy rV rfl (gZ LD g1 (C.blt _ ⇑0) rfl hA g3 g2 he hpl)
 |toTup=>exact iy rT rfl (gZ LB g1 (C.blt _ ⇑0) rfl hA g3 g2 he hpl)
 |toLst=>exact iy mL rfl (gZ LG g1 (C.blt _ ⇑0) rfl hA g3 g2 he hpl)
 |all=>exact iy HJ rfl (gz (LJ C.calm) g1 (C.blt _ ⇑0) rfl hA g3 g2 he hpl)
 |sum=>exact iy Fn rfl (gz (LC C.calm) g1 (C.blt _ ⇑0) rfl hA g3 g2 he hpl)
 |_=>cases ht
end
end PP
end
section
namespace PP
open PySem PySem.Spec PyProof.Rows
open Builtin.SmallTypes (nextOf)
section
variable{P:aP}{w:bA}{A:bB}{E:ai->au->Prop}{s:au}
end
end PP
end
section
namespace PP
open PySem PySem.Spec L2 PyProof.Rows
open Builtin.SmallTypes (nextOf)
section
variable{X:Cx}{pins:List (av×Obj)}{σ:L2.St}{H:Hp}{s:au}{A:bB}{E:ai->au->Prop}
end
end PP
end
section
namespace PP
open PySem PySem.Spec L2 PyProof.Rows
section
variable{prog:aP}{w:bA}{A:bB}{E:ai->au->Prop}{s:au}
end
end PP
end
section
namespace PP
open PySem L2 PyProof.Rows
variable[Tbs]
section
variable{X:Cx}{c:Ck}{cx:Cl}{k:Nat}
end
section
variable{cx:Cl}{k:Nat}
def jT{c:Ck}{tg:Tg}{ts:List Str}{kk:Nat}(h:ts.length=kk):(ma ts c.N++ts).length=c.N.length+kk:=by
 unfold ma;rw[az,ak,h]
def mv{c:Ck}{t:It}{x tg:aE}(h:ckI c t tg x=true)(env:Env)(v:ai):foldedSetIterable x env v=pure v:=by
 cases t with
 |rng e=>obtain⟨_,_,_,_,rfl,_⟩:=dz h;rfl
 |rev e=>obtain⟨_,_,_,_,rfl,_⟩:=dz h;rfl
 |sq e =>
  have h:(ckE c e x&&!bj e)=true:=h;rw[aa]at h;exact DK (bo h.1) env v
def gX{X:Cx}{c:Ck}{f:Blt}{es:Es}{x:aE}(C:Cok X c cx k)(h:ckE c (.blt f es) x=true)(hE:∀e y,es=.cons e .nil->ckE c e y=true->PE X y (tE X.K cx e))(hA:∀xs,iP c es xs=true->qh es=true->PA X xs (tEs X.K cx es)) :
 PE X x (tE X.K cx (.blt f es))/\∀whole,isTrue x X.env whole=(do let v <- whole;standAt x.pos;holding [v] (truthy v)):=by
 obtain⟨n,np,xs,p,rfl,hh⟩:=dz h;refine⟨?_,λ_=>rfl⟩;simp only[aa]at hh;obtain⟨⟨h1,h2⟩,h3⟩:=hh;have e:=of_decide_eq_true h1;subst e
 cases hT:tyName f with
 |some T =>
  rw[hT]at h3;obtain⟨y,w,rfl,h4⟩:=fQ h3;obtain⟨t,tp,rfl,h5⟩:=aY h4;simp only[aa]at h5;obtain⟨⟨⟨a1,a2⟩,a3⟩,a4⟩:=h5;have et:=of_decide_eq_true a1
  cases es with
  |nil=>exact absurd (dh a3).1 ↥0
  |cons e es' =>
   obtain⟨_,_,q0,a3'⟩:=cD a3;cases q0;rw[aa]at a3'
   cases es' with
   |cons _ _=>obtain⟨_,_,q0,_⟩:=cD a3'.2;cases q0
   |nil =>
    have q:=hE e y rfl a3'.1;obtain⟨t1,t2,t3⟩:=C.global a2
    have tb:t∈jd:=by
     subst et;cases f<;>simp[tyName]at hT<;>subst hT<;>decide
    have hs:starEach [y,.Name t tp] X.env=[(false,eval y X.env),(false,eval (.Name t tp) X.env)]:=by rw[br (bo a3'.1)];rfl
    have nm:rA f=("isinstance":Str):=by cases f<;>simp[tyName]at hT<;>rfl
    rw[nm]at h2 |-;obtain⟨g1,_,_⟩:=C.global h2
    exact JJ hT et g1 (C.blt _ ⇑0) t1 (C.blt _ tb) q hs
 |none =>
  rw[hT]at h3;simp only[aa]at h3;obtain⟨⟨b1,b2⟩,b3⟩:=h3
  cases xs with
  |nil=>simp at b1
  |cons y ys=>exact LL C h2 hT (hA _ b2 b3) b2
def mtT{X:Cx}{c:Ck}{m:Mt}{a b:E}{x:aE}(C:Cok X c cx k)(h:ckE c (.mt m a b) x=true)(hA:∀y,ckE c a y=true->PE X y (tE X.K cx a))(hB:∀y,ckE c b y=true->PE X y (tE X.K cx b)) :
 PE X x (tE X.K cx (.mt m a b))/\∀whole,isTrue x X.env whole=(do let v <- whole;standAt x.pos;holding [v] (truthy v)):=by
 obtain⟨_,_,_,_,_,rfl,hln,hh⟩:=jX h;obtain⟨_,rfl,h9⟩:=cy hh;rw[aa]at h9;obtain⟨h9,h6⟩:=h9;simp only[aa]at h9;obtain⟨⟨⟨⟨h1,h2⟩,h3⟩,h4⟩,h5⟩:=h9;have e:=of_decide_eq_true h1;subst e;refine⟨?_,λ_=>rfl⟩;exact JH C.units h4 h5 (hA _ h2) (hB _ h3) hln (yW h6) (br (bo h3) [] X.env) (by rw[br (bo h3)];rfl)
def ixT{X:Cx}{c:Ck}{a b:E}{x:aE}(C:Cok X c cx k)(h:ckE c (.ix a b) x=true)(hA:∀y,ckE c a y=true->PE X y (tE X.K cx a))(hB:∀y,ckE c b y=true->PE X y (tE X.K cx b)) :
 PE X x (tE X.K cx (.ix a b))/\∀whole,isTrue x X.env whole=(do let v <- whole;standAt x.pos;holding [v] (truthy v)):=by
 obtain⟨_,_,_,rfl,hq1⟩:=gA h;simp only[aa]at hq1;obtain⟨⟨⟨h1,h2⟩,h3⟩,h4⟩:=hq1;exact⟨JI h3 (hA _ h1) (hB _ h2) (yJ (bo h2)),λ_=>rfl⟩
def Em{X:Cx}{c:Ck}{f:Nat}{es:Es}{x:aE}(C:Cok X c cx k)(h:ckE c (.call f es) x=true)(hA:∀xs,iP c es xs=true->qh es=true->PA X xs (tEs X.K cx es)) :
 PE X x (tE X.K cx (.call f es))/\∀whole,isTrue x X.env whole=(do let v <- whole;standAt x.pos;holding [v] (truthy v)):=by
 obtain⟨n,np,xs,p,rfl,hh⟩:=dz h;refine⟨?_,λ_=>rfl⟩;have h':=hh;split at h'
 .simp only[aa]at h';exact call_of C (hA _ h'.1.1.2 (gQ h'.1.2)) hh
 .cases h'
def noT(h:∀δ,evT cx e δ=none):PT X x (tT X.K cx e):=λpins s σ H Q I q=>by
 obtain⟨G,F,δ,b,δ',ok,ev,post⟩:=q;rw[h]at ev;cases ev
def noE{X:Cx}{e:E}{x:aE}(h:∀δ,evE cx e δ=none):PE X x (tE X.K cx e):=λpins s σ H Q I q=>by
 obtain⟨G,F,δ,b,δ',ok,ev,post⟩:=q;rw[h]at ev;cases ev
mutual
theorem cn:∀(e:E)(X:Cx)(c:Ck)(x:aE),Cok X c cx k->ckE c e x=true->PE X x (tE X.K cx e)
 |.var i,X,c,x,C,h=>by
  obtain⟨_,_,rfl,hq1⟩:=aY h;replace h:=hq1
  .obtain⟨n1,n2,n3,n4⟩:=C.name h
   exact Fq n1 n2 n3 n4
 |.pk i,X,c,x,C,h=>by
  obtain⟨_,_,rfl,hq1⟩:=aY h;replace h:=hq1
  .obtain⟨n1,n2,n3,n4⟩:=C.name h
   exact JG n1 n2 n3 n4
 |.glob g,X,c,x,C,h=>by
  obtain⟨_,_,rfl,hq1⟩:=aY h;replace h:=hq1
  .rw[aa]at h;have e:=of_decide_eq_true h.1;obtain⟨g1,g2,g3⟩:=C.global h.2;obtain⟨d,hd⟩:=C.gsome g _ e;obtain⟨u,v,hm,r,hr⟩:=C.glob g _ d e hd
   exact BF g1 hm r (λd' hd'=>by rw[hd]at hd';cases hd';exact hr) g2
 |.int i,X,c,x,C,h=>by
  obtain⟨_,_,_,rfl,hq1⟩:=jt h;obtain⟨_,rfl,hq2⟩:=CZ hq1;replace h:=hq2
  .have e:=of_decide_eq_true h;subst e;exact FG
 |.bl i,X,c,x,C,h=>by
  obtain⟨_,_,_,rfl,hq1⟩:=jt h;obtain⟨_,rfl,hq2⟩:=KC hq1;replace h:=hq2
  .have e:=of_decide_eq_true h;subst e;exact JK
 |.non,X,c,x,C,h=>by
  obtain⟨_,_,_,rfl,hq1⟩:=jt h;replace h:=hq1;have e:=DA h;subst e
  exact FA
 |.str i,X,c,x,C,h=>by
  obtain⟨_,_,_,rfl,hq1⟩:=jt h;obtain⟨_,rfl,hq2⟩:=wF hq1;replace h:=hq2
  .have e:=of_decide_eq_true h;subst e;exact Ft
 |.bin op a b,X,c,x,C,h=>by
  obtain⟨_,_,_,_,rfl,hq1⟩:=uX h;replace h:=hq1
  .simp only[aa]at h;obtain⟨⟨⟨h1,h2⟩,h3⟩,h4⟩:=h
   exact FP h1 h4 (cn a X c _ C h2) (cn b X c _ C h3)
 |.cmp op a b,X,c,x,C,h=>by
  obtain⟨_,_,_,_,rfl,hq1⟩:=fy h;obtain⟨_,rfl,hq2⟩:=cy hq1;obtain⟨_,rfl,hq3⟩:=cy hq2;replace h:=hq3
  .simp only[aa]at h;obtain⟨⟨⟨h1,h2⟩,h3⟩,h4⟩:=h
   exact FN C.units h1 h4 (cn a X c _ C h2) (cn b X c _ C h3) (kB (bo h3) _)
 |.and a b,X,c,x,C,h=>by
  obtain⟨o,_,p,rfl,hq1⟩:=kz h;obtain⟨y,r,rfl,hq2⟩:=cD hq1;obtain⟨z,r2,rfl,hq3⟩:=cD hq2;simp only[aa]at hq3;obtain⟨⟨⟨⟨h0,h1⟩,h2⟩,h3⟩,h4⟩:=hq3;cases o<;>first|(cases h0;done)|skip
  cases r2 with
  |nil=>exact snd_and h3 h4 (cn a X c _ C h1) (wB (cn b X c _ C h2))
  |cons w r=>exact snd_and h3 h4 (cn a X c _ C h1) (cn b X c _ C h2)
 |.or a b,X,c,x,C,h=>by
  obtain⟨o,_,p,rfl,hq1⟩:=kz h;obtain⟨y,r,rfl,hq2⟩:=cD hq1;obtain⟨z,r2,rfl,hq3⟩:=cD hq2;simp only[aa]at hq3;obtain⟨⟨⟨⟨h0,h1⟩,h2⟩,h3⟩,h4⟩:=hq3;cases o<;>first|(cases h0;done)|skip
  cases r2 with
  |nil=>exact BE h3 h4 (cn a X c _ C h1) (wB (cn b X c _ C h2))
  |cons w r=>exact BE h3 h4 (cn a X c _ C h1) (cn b X c _ C h2)
 |.not a,X,c,x,C,h=>by
  obtain⟨o,_,_,rfl,hh⟩:=oz h;simp only[aa]at hh;obtain rfl:=vq hh.1.1
  exact Fy hh.2 (cn a X c _ C hh.1.2)
 |.neg a,X,c,x,C,h=>by
  obtain⟨o,_,_,rfl,hh⟩:=oz h;simp only[aa]at hh;obtain rfl:=DB hh.1.1
  exact FC hh.2 (cn a X c _ C hh.1.2)
 |.ite t a b,X,c,x,C,h=>by
  obtain⟨_,_,_,_,rfl,hq1⟩:=yy h;replace h:=hq1
  .simp only[aa]at h;obtain⟨⟨⟨⟨h1,h2⟩,h3⟩,h4⟩,h5⟩:=h
   exact FF h4 h5 (lV t X c _ C h1) (cn a X c _ C h2) (cn b X c _ C h3)
 |.tup es,X,c,x,C,h=>by
  obtain⟨_,_,_,rfl,hq1⟩:=dH h;replace h:=hq1
  .rw[aa]at h
   exact Fs h.2 (fu es X c _ C h.1 (gQ h.2))
 |.lst es,X,c,x,C,h=>by
  obtain⟨_,_,rfl,hq1⟩:=pE h;replace h:=hq1
  .rw[aa]at h
   exact FE h.2 (fu es X c _ C h.1 (gQ h.2))
 |.ix a b,X,c,x,C,h=>(ixT C h (λy q=>cn a X c y C q) λy q=>cn b X c y C q).1
 |.rvl a hi s,X,c,x,C,h=>by
  obtain⟨_,_,_,rfl,hh⟩:=gA h;obtain⟨_,_,_,_,rfl,h9⟩:=sy hh;simp only[aa]at h9;obtain⟨h1,h2,h3,h4,h5⟩:=h9;obtain rfl:=cN.mp h1
  exact Fu h5 (cn a X c _ C h2) (zE hi X c _ C h3) (zE s X c _ C h4)
 |.dcc l,X,c,x,C,h=>FL h
 |.dsv i j,X,c,x,C,h=>FJ C h
 |.sl a lo hi,X,c,x,C,h=>by
  obtain⟨_,_,_,rfl,hh⟩:=gA h;obtain⟨_,_,o,_,rfl,h9⟩:=sy hh;simp only[aa]at h9;obtain⟨h0,⟨⟨h1,h2⟩,h3⟩,h4⟩:=h9;obtain rfl:=cN.mp h0
  exact JF (by simpa using h4) (cn a X c _ C h1) (zE lo X c _ C h2) (zE hi X c _ C h3)
 |.call f es,X,c,x,C,h=>(Em C h λxs h1 h2=>fu es X c xs C h1 h2).1
 |.blt f .nil,X,c,x,C,h=>(gX C h (λe y z=>by cases z) λxs h1 h2=>fu .nil X c xs C h1 h2).1
 |.blt f (.cons e .nil),X,c,x,C,h=>(gX C h (λe' y z h1=>by cases z;exact cn e X c y C h1) λxs h1 h2=>fu (.cons e .nil) X c xs C h1 h2).1
 |.blt f (.cons e (.cons e2 es)),X,c,x,C,h=>(gX C h (λe' y z=>by cases z) λxs h1 h2=>fu (.cons e (.cons e2 es)) X c xs C h1 h2).1
 |.pop i,X,c,x,C,h=>by
  obtain⟨_,_,_,_,_,rfl,hln,hh⟩:=jX h;obtain⟨_,_,rfl,h2⟩:=aY hh;obtain⟨rfl,h3⟩:=dh h2;rw[aa]at h3;have e:=of_decide_eq_true h3.1;subst e;obtain⟨n1,n2,n3,n4⟩:=C.name h3.2
  exact Fx n1 n2 n3 n4 hln
 |.bad,X,c,x,C,h=>noE λδ=>rfl
 |.popi i j,X,c,x,C,h=>by
  obtain⟨_,_,_,_,_,rfl,hln,hh⟩:=jX h;obtain⟨_,_,rfl,h2⟩:=aY hh;obtain⟨_,rfl,h3⟩:=cy h2;simp only[aa]at h3;obtain⟨⟨⟨a1,a2⟩,a3⟩,a4⟩:=h3;have e:=of_decide_eq_true a1;subst e;obtain⟨n1,n2,n3,n4⟩:=C.name a2
  exact BC n1 n2 n3 n4 hln (cn j X c _ C a3) (br (bo a3) [] X.env) (by rw[br (bo a3)];rfl)
 |.gin ng n l e,X,c,x,C,h=>by
  obtain⟨_,_,_,_,rfl,hq1⟩:=fy h;obtain⟨_,rfl,hq2⟩:=cy hq1;obtain⟨_,rfl,hq3⟩:=cy hq2;obtain⟨_,_,rfl,hq4⟩:=aY hq3;simp only[aa]at hq4;obtain⟨⟨⟨⟨⟨h1,h2⟩,h3⟩,h4⟩,h5⟩,h6⟩:=hq4;have e1:=of_decide_eq_true h1;subst e1;obtain⟨a,m1,m2⟩:=C.gds _ _ (of_decide_eq_true h3)
  exact FI m2 (C.global h2).1 m1 (C.global h2).2.1 h4 h6 (cn e X c _ C h5)
 |.gix n l e,X,c,x,C,h=>by
  obtain⟨_,_,_,rfl,hq1⟩:=gA h;obtain⟨_,_,rfl,hq4⟩:=aY hq1;simp only[aa]at hq4;obtain⟨⟨⟨⟨h1,h2⟩,h3⟩,h4⟩,h5⟩:=hq4;have e1:=of_decide_eq_true h1;subst e1;obtain⟨a,m1,m2⟩:=C.gds _ _ (of_decide_eq_true h3)
  exact FH m2 (C.global h2).1 m1 (C.global h2).2.1 h5 (cn e X c _ C h4) (λt tk=>yJ (bo h4) _ _)
 |.mt m a b,X,c,x,C,h=>(mtT C h (λy q=>cn a X c y C q) λy q=>cn b X c y C q).1
 |.chn o1 o2 a b e,X,c,x,C,h=>by
  obtain⟨_,_,_,_,rfl,hq1⟩:=fy h;obtain⟨_,_,rfl,hq2⟩:=fQ hq1;obtain⟨_,_,rfl,hq3⟩:=fQ hq2;simp only[aa]at hq3;obtain⟨⟨⟨⟨⟨⟨⟨h1,h2⟩,h3⟩,h4⟩,h5⟩,h6⟩,h7⟩,h8⟩:=hq3
  exact FO C.units h1 h2 h6 h7 h8 (cn a X c _ C h3) (cn b X c _ C h4) (cn e X c _ C h5) (kB (bo h5) _)
 |.dgt a b e,X,c,x,C,h=>by
  obtain⟨_,_,_,_,_,rfl,hln,hh⟩:=jX h;obtain⟨_,_,rfl,h9⟩:=fQ hh;simp only[aa]at h9;obtain⟨⟨⟨⟨⟨⟨⟨h1,h2⟩,h3⟩,h4⟩,h5⟩,h6⟩,h7⟩,h8⟩:=h9;have e:=of_decide_eq_true h1;subst e;refine FK (by have:=C.units;lia) h5 h6 h7 (cn a X c _ C h2) (cn b X c _ C h3) (cn e X c _ C h4) ⟨?_,?_,by simpa using hln,?_⟩
  .rcases(bF _ _).mp h8 with h8|h8
   .obtain⟨⟨_,_,_,rfl⟩,_⟩:=cK (b:=true) (by rw[cT];exact h8);rfl
   .obtain⟨⟨_,_,_,rfl⟩,_⟩:=cK (b:=true) (by rw[cT];exact h8);rfl
  .rw[br (bo h3),br (bo h4)];rfl
  .rw[br (bo h3),br (bo h4)];rfl
 |.comp kk tg src ifs elt,X,c,x,C,h=>by
  obtain⟨_,_,_,_,rfl,hq1⟩:=lZ h;obtain⟨_,rfl,hq2⟩:=cy hq1;obtain⟨_,_,_,rfl,hq3⟩:=wJ hq2;replace h:=hq3
  .split at h
   .rename_i ts ht;simp only[aa]at h;obtain⟨⟨⟨⟨⟨⟨⟨⟨h1,h2⟩,h3⟩,h4⟩,h5⟩,h6⟩,h7⟩,h8⟩,h9⟩:=h;have nd:=(iX h4).1
    exact BG C h9 (jT (tg:=tg) (of_decide_eq_true h1)) h2 h3 h4 (λcl Ca s H fp=>mO (gq C h3 nd cl Ca s H fp) h5) (Ce src X c _ _ C h6)
     (λcl Ca s H fp=>JN ifs _ _ _ (gq C h3 nd cl Ca s H fp) h7) (λcl Ca s H fp=>cn elt _ _ _ (gq C h3 nd cl Ca s H fp) h8) (λv=>mv h6 _ v)
   .cases h
theorem lV:∀(e:E)(X:Cx)(c:Ck)(x:aE),Cok X c cx k->ckE c e x=true->PT X x (tT X.K cx e)
 |.var i,X,c,x,C,h=>by
  obtain⟨_,_,rfl,hq1⟩:=aY h;replace h:=hq1
  .obtain⟨n1,n2,n3,n4⟩:=C.name h
   exact uJ (.inl rfl) n1 n2 n3 n4
 |.pk i,X,c,x,C,h=>by
  obtain⟨_,_,rfl,hq1⟩:=aY h;replace h:=hq1
  .obtain⟨n1,n2,n3,n4⟩:=C.name h
   exact uJ (.inr rfl) n1 n2 n3 n4
 |.chn o1 o2 a b e,X,c,x,C,h=>by
  obtain⟨_,_,_,_,rfl,hq1⟩:=fy h;obtain⟨_,_,rfl,hq2⟩:=fQ hq1;obtain⟨_,_,rfl,hq3⟩:=fQ hq2;simp only[aa]at hq3;obtain⟨⟨⟨⟨⟨⟨⟨h1,h2⟩,h3⟩,h4⟩,h5⟩,h6⟩,h7⟩,h8⟩:=hq3
  exact BL C.units h1 h2 h6 h7 h8 (cn a X c _ C h3) (cn b X c _ C h4) (cn e X c _ C h5) (kB (bo h5) _)
 |.gin ng n l e,X,c,x,C,h=>by
  obtain⟨_,_,_,_,rfl,hq1⟩:=fy h;obtain⟨_,rfl,hq2⟩:=cy hq1;obtain⟨_,rfl,hq3⟩:=cy hq2;obtain⟨_,_,rfl,hq4⟩:=aY hq3;simp only[aa]at hq4;obtain⟨⟨⟨⟨⟨h1,h2⟩,h3⟩,h4⟩,h5⟩,h6⟩:=hq4;have e1:=of_decide_eq_true h1;subst e1;obtain⟨a,m1,m2⟩:=C.gds _ _ (of_decide_eq_true h3)
  exact BJ m2 (C.global h2).1 m1 (C.global h2).2.1 h4 h6 (cn e X c _ C h5)
 |.cmp op a b,X,c,x,C,h=>by
  obtain⟨_,_,_,_,rfl,hq1⟩:=fy h;obtain⟨_,rfl,hq2⟩:=cy hq1;obtain⟨_,rfl,hq3⟩:=cy hq2;replace h:=hq3
  .simp only[aa]at h;obtain⟨⟨⟨h1,h2⟩,h3⟩,h4⟩:=h
   exact BK C.units h1 h4 (cn a X c _ C h2) (cn b X c _ C h3) (kB (bo h3) _)
 |.and a b,X,c,x,C,h=>by
  obtain⟨o,_,p,rfl,hq1⟩:=kz h;obtain⟨y,r,rfl,hq2⟩:=cD hq1;obtain⟨z,r2,rfl,hq3⟩:=cD hq2;simp only[aa]at hq3;obtain⟨⟨⟨⟨h0,h1⟩,h2⟩,h3⟩,h4⟩:=hq3;cases o<;>first|(cases h0;done)|skip
  cases r2 with
  |nil=>exact uL (lV a X c _ C h1) (yh (lV b X c _ C h2))
  |cons w r=>exact uL (lV a X c _ C h1) (PT.pw (lV b X c _ C h2))
 |.or a b,X,c,x,C,h=>by
  obtain⟨o,_,p,rfl,hq1⟩:=kz h;obtain⟨y,r,rfl,hq2⟩:=cD hq1;obtain⟨z,r2,rfl,hq3⟩:=cD hq2;simp only[aa]at hq3;obtain⟨⟨⟨⟨h0,h1⟩,h2⟩,h3⟩,h4⟩:=hq3;cases o<;>first|(cases h0;done)|skip
  cases r2 with
  |nil=>exact xW (lV a X c _ C h1) (JU (lV b X c _ C h2))
  |cons w r=>exact xW (lV a X c _ C h1) (PT.pw (lV b X c _ C h2))
 |.not a,X,c,x,C,h=>by
  obtain⟨o,_,_,rfl,hh⟩:=oz h;simp only[aa]at hh;obtain rfl:=vq hh.1.1
  exact BI (lV a X c _ C hh.1.2)
 |.call f es,X,c,x,C,h=>ou (es:=es) (f:=cx.call f) (Em C h λxs h1 h2=>fu es X c xs C h1 h2).1 (Em C h λxs h1 h2=>fu es X c xs C h1 h2).2 rfl (λδ=>rfl) λδ=>by rw[evT]
 |.blt f .nil,X,c,x,C,h=>ou (es:=.nil) (f:=gY f) (gX C h (λe y z=>by cases z) λxs h1 h2=>fu .nil X c xs C h1 h2).1 (gX C h (λe y z=>by cases z) λxs h1 h2=>fu .nil X c xs C h1 h2).2 rfl (λδ=>rfl) λδ=>by rw[evT]
 |.blt f (.cons e .nil),X,c,x,C,h=>ou (es:=.cons e .nil) (f:=gY f) (gX C h (λe' y z h1=>by cases z;exact cn e X c y C h1) λxs h1 h2=>fu (.cons e .nil) X c xs C h1 h2).1 (gX C h (λe' y z h1=>by cases z;exact cn e X c y C h1) λxs h1 h2=>fu (.cons e .nil) X c xs C h1 h2).2 rfl (λδ=>rfl) λδ=>by rw[evT]
 |.blt f (.cons e (.cons e2 es)),X,c,x,C,h=>ou (es:=.cons e (.cons e2 es)) (f:=gY f) (gX C h (λe' y z=>by cases z) λxs h1 h2=>fu (.cons e (.cons e2 es)) X c xs C h1 h2).1 (gX C h (λe' y z=>by cases z) λxs h1 h2=>fu (.cons e (.cons e2 es)) X c xs C h1 h2).2 rfl (λδ=>rfl) λδ=>by rw[evT]
 |.glob _,X,c,x,C,h=>noT λδ=>rfl
 |.int _,X,c,x,C,h=>noT λδ=>rfl
 |.bl _,X,c,x,C,h=>noT λδ=>rfl
 |.non,X,c,x,C,h=>noT λδ=>rfl
 |.str _,X,c,x,C,h=>noT λδ=>rfl
 |.neg _,X,c,x,C,h=>noT λδ=>rfl
 |.gix ..,X,c,x,C,h=>noT λδ=>rfl
 |.mt m a b,X,c,x,C,h=>uK (mtT C h (λy q=>cn a X c y C q) λy q=>cn b X c y C q).1 (mtT C h (λy q=>cn a X c y C q) λy q=>cn b X c y C q).2 λδ k δ' q=>by
  simp only[evT,ae,af]at q;obtain⟨⟨u,δ1⟩,e1,⟨v,δ2⟩,e2,d,e3,t,e4,e5⟩:=q;cases e5
  exact⟨d,by simp only[evE,e1,e2,e3,ae,ah];rfl,e4⟩
 |.dgt _ _ _,X,c,x,C,h=>noT λδ=>rfl
 |.bin ..,X,c,x,C,h=>noT λδ=>rfl
 |.ite ..,X,c,x,C,h=>noT λδ=>rfl
 |.tup _,X,c,x,C,h=>noT λδ=>rfl
 |.lst _,X,c,x,C,h=>noT λδ=>rfl
 |.ix a b,X,c,x,C,h=>uK (ixT C h (λy q=>cn a X c y C q) λy q=>cn b X c y C q).1 (ixT C h (λy q=>cn a X c y C q) λy q=>cn b X c y C q).2 λδ k δ' q=>by
  simp only[evT,ae,af]at q;obtain⟨⟨u,δ1⟩,e1,⟨v,δ2⟩,e2,d,e3,t,e4,e5⟩:=q;cases e5
  exact⟨d,by simp only[evE,e1,e2,e3,ae,ah];rfl,e4⟩
 |.sl ..,X,c,x,C,h=>noT λδ=>rfl
 |.rvl ..,X,c,x,C,h=>noT λδ=>rfl
 |.dcc _,X,c,x,C,h=>noT λδ=>rfl
 |.dsv _ _,X,c,x,C,h=>noT λδ=>rfl
 |.pop _,X,c,x,C,h=>noT λδ=>rfl
 |.bad,X,c,x,C,h=>noT λδ=>rfl
 |.popi _ _,X,c,x,C,h=>noT λδ=>rfl
 |.comp ..,X,c,x,C,h=>noT λδ=>rfl
theorem fu:∀(es:Es)(X:Cx)(c:Ck)(xs:List aE),Cok X c cx k->iP c es xs=true->qh es=true->PA X xs (tEs X.K cx es)
 |.nil,X,c,xs,C,h,_=>by
  obtain⟨rfl,hq1⟩:=dh h;replace h:=hq1
  .exact lU
 |.cons e es,X,c,xs,C,h,ho=>by
  obtain⟨_,_,rfl,hq1⟩:=cD h;replace h:=hq1
  .rw[aa]at h;have ho':((!bj e||npS es)&&qh es)=true:=ho;rw[aa]at ho';exact jU ho'.1 (cn e X c _ C h.1) (fu es X c _ C h.2 ho'.2) (br (bo h.1) _ _)
theorem zE:∀(o:Eo)(X:Cx)(c:Ck)(l:Option aE),Cok X c cx k->ckO c o l=true->PO X l (tO X.K cx o)
 |.no,X,c,l,C,h=>by
  obtain rfl:=cN.mp h
  exact Il (λe z=>by cases z) λ_=>rfl
 |.yes e,X,c,l,C,h=>by
  obtain⟨_,rfl,hq1⟩:=lr h;replace h:=hq1
  .rw[aa]at h;have q:=cn e X c _ C h.1;exact Il (λe' z=>by cases z;exact⟨_,rfl,h.2,q⟩) λz=>by cases z
theorem JN:∀(o:Eo)(X:Cx)(c:Ck)(l:List aE),Cok X c cx k->ckG c o l=true->PTs X l (tG X.K cx o)
 |.no,X,c,l,C,h=>by
  obtain⟨rfl,hq1⟩:=dh h;replace h:=hq1
  .intro pins s σ H Q I q;obtain⟨G,F,δ,b,δ',ok,ev,post⟩:=q;simp only[evG]at ev;cases ev
   exact Gk pins s σ H Q I (post H F Step.refl (λ_=>Sim.refl H) ok)
 |.yes e,X,c,l,C,h=>by
  obtain⟨_,rfl,hq1⟩:=cy h;replace h:=hq1
  .have q:=Gj (lV e X c _ C h);intro pins s σ H Q I z;obtain⟨G,F,δ,b,δ',ok,ev,post⟩:=z;simp only[evG]at ev;exact q pins s σ H Q I ⟨G,F,δ,b,δ',ok,ev,post⟩
theorem Ce:∀(t:It)(X:Cx)(c:Ck)(x tg:aE),Cok X c cx k->ckI c t tg x=true->PI X tg x (tI X.K cx t)
 |.rng e,X,c,x,tg,C,h=>by
  obtain⟨_,_,_,_,rfl,hq1⟩:=dz h;obtain⟨_,rfl,hq2⟩:=cy hq1;replace h:=hq2
  .simp only[aa]at h;obtain⟨⟨⟨h1,h2⟩,h3⟩,h4⟩:=h;have z:=of_decide_eq_true h1;subst z
   exact Fv h4 (C.global h2).1 (C.blt _ ⇑0) (cn e X c _ C h3) (br (bo h3) _ _)
 |.rev e,X,c,x,tg,C,h=>by
  obtain⟨_,_,_,_,rfl,hq1⟩:=dz h;obtain⟨_,rfl,hq2⟩:=cy hq1;replace h:=hq2
  .simp only[aa]at h;obtain⟨⟨⟨h1,h2⟩,h3⟩,h4⟩:=h;have z:=of_decide_eq_true h1;subst z
   exact Fw h4 (C.global h2).1 (C.blt _ ⇑0) (cn e X c _ C h3) (br (bo h3) _ _)
 |.sq e,X,c,x,tg,C,h=>by
  have h:(ckE c e x&&!bj e)=true:=h;rw[aa]at h;exact JE h.2 (cn e X c x C h.1)
end
end
def kT(K:PySem.W.Frag)(G:Gh)(F:av->Prop)(H:Hp)(o:Out)(E:Ends):Prop:=match o with
 |.nx δ'=>∀σ' H' F',Step G F H F' H'->Ok K G F' σ' H' δ'->E.nx σ' H'
 |.rt d δ'=>∀v σ' H' F',Step G F H F' H'->Ok K G F' σ' H' δ'->Rel K H' F' d v->E.rt v H'
 |.ro d δ'=>∀a v σ' H' F',Step G F H F' H'->Ok K G F' σ' H' δ'->F' a->G.free a->Hand K H' F' a d v->E.rt v H'
def tS(K:PySem.W.Frag)(ev:Loc->Option Out):TS:=λE σ H=>∃G F δ o,Ok K G F σ H δ/\ev δ=some o/\kT K G F H o E
def kT.step{K:PySem.W.Frag}{G:Gh}{F F1:av->Prop}{H H1:Hp}{o:Out}{E:Ends}(st:Step G F H F1 H1)(h:kT K G F H o E):kT K G F1 H1 o E:=by
 cases o with
 |nx δ=>exact λσ' H' F' s k=>h σ' H' F' (st.trans s) k
 |rt d δ=>exact λv σ' H' F' s k r=>h v σ' H' F' (st.trans s) k r
 |ro ds δ=>exact λa xs σ' H' F' s k=>h a xs σ' H' F' (st.trans s) k
def Bz{env:Env}{x z:Str}{px pz pt pt2:Pos}{kt k2}{a b:aE}(hB:env.blockKind=.function)(hx:env.scope.names.lookup x=some .local)(hz:env.scope.names.lookup z=some .local)(hn:x≠z)(hl:px.line=pz.line)(ha:dY a=true)(hb:dY b=true)(hf:(foldedForSure 8 a&&foldedForSure 8 b)=false)(hc:(constantsAlone 8 a&&constantsAlone 8 b)=false) :
 swappedStores [.Tuple [.Name x px,.Name z pz] kt pt] (.Tuple [a,b] k2 pt2) env=pure (some [x,z]):=by
 have sa:∀a:aE,dY a=true->(match a with|.Starred .. => true|_=>false)=false:=λa h=>by
  cases a<;>first|rfl|(exact absurd h aq)
 have k1:env.kindOf x=some .local:=hx;have k2:env.kindOf z=some .local:=hz;have e1:((env.blockKind != .function):Bool)=false:=by rw[hB];rfl
 have s1:=sa a ha;have s2:=sa b hb;have l1:(pz.line==px.line)=true:=by rw[hl];exact beq_self_eq_true _
 have n1:(z==x)=false:=by rw[beq_eq_false_iff_ne];exact hn.symm
 have d1:([x,z].eraseDups.length != [x,z].length)=false:=by
  rw[lL];simp[n1,lL]
 unfold swappedStores;simp only[ag,aL,dG,List.any_nil,e1,s1,s2,List.head?_cons,bg,nN,bt,mI,k1,k2,Expr.pos,l1,beq_self_eq_true,uh,ite_true,d1,cg,vP,cT,hf,hc,Bool.or_false,Bool.or_self,nQ,ug,bne_self_eq_false,↓reduceIte,cI,pure_bind];refine(if_neg ?_).trans (if_neg ?_)
 .exact ne_true_of_eq_false (gP.mpr ⟨s1,s2⟩)
 .rw[mE];exact ne_true_of_eq_false d1
def zy{env:Env}{c:Ck}{t y:aE}(hS:env.scope=c.sc)(h:MV c t=true):swappedStores [t] y env=pure none:=by
 obtain⟨_,_,_,rfl,h1⟩:=dH h;obtain⟨_,_,rfl,h2⟩:=fQ h1;obtain⟨x,px,rfl,h3⟩:=lY h2;obtain⟨z,pz,rfl,h4⟩:=lY h3;have hx:(env.kindOf x==some .local)=false:=beq_eq_false_iff_ne.mpr (by have:=of_decide_eq_true h4;rw[<- hS]at this;exact this);cases y<;>first|rfl|skip
 unfold swappedStores;simp only[ag,aL,bt,mI,hx,Bool.false_and,cI,ite_false,pure_bind];by_cases q:(env.kindOf z==some .local&&pz.line==px.line)=true<;>simp[q,Expr.pos,lL]
section
variable{X:Cx}{c:Ck}{cx:Cl}{k:Nat}
def PS.imp{s:bE}{t t':TS}(h:PS X s t)(w:∀E σ H,t' E σ H->t E σ H):PS X s t':=λpins s σ H E I q=>h pins s σ H E I (w E σ H q)
def PSs.imp{s:List bE}{t t':TS}(h:PSs X s t)(w:∀E σ H,t' E σ H->t E σ H):PSs X s t':=λpins s σ H E I q=>h pins s σ H E I (w E σ H q)
def BP:PSs X [] (tS X.K (cU cx .nil)):=PSs.imp lX λE σ H zz=>by
 obtain⟨G,F,δ,o,ok,ev,post⟩:=zz;simp only[cU]at ev;cases ev;exact post σ H F Step.refl ok
def qK{s:S}{ss:Ss}{y:bE}{ys:List bE}(h1:PS X y (tS X.K (evS cx s)))(h2:PSs X ys (tS X.K (cU cx ss))):PSs X (y::ys) (tS X.K (cU cx (.cons s ss))):=PSs.imp (jV h1 h2) λE σ H zz=>by
 obtain⟨G,F,δ,o,ok,ev,post⟩:=zz;simp only[cU]at ev
 cases e:evS cx s δ with
 |none=>rw[e]at ev;cases ev
 |some o1 =>
  rw[e]at ev
  cases o1 with
  |nx δ1=>exact⟨G,F,δ,.nx δ1,ok,e,λσ' H' F' st ok'=>⟨G,F',δ1,o,ok',ev,post.step st⟩⟩
  |rt d δ1=>cases ev;exact⟨G,F,δ,_,ok,e,post⟩
  |ro d δ1=>cases ev;exact⟨G,F,δ,_,ok,e,post⟩
def Ep{tg:Tg}{e:E}{δ:Loc}{o:Out}(ev:evS cx (.asg tg e) δ=some o):∃d δ1 δ2,evE cx e δ=some (d,δ1)/\dy δ1 tg d=some δ2/\o=.nx δ2:=by
 simp only[evS,ae,af]at ev;obtain⟨⟨d,δ1⟩,e1,δ2,e2,e3⟩:=ev;cases e3;exact⟨d,δ1,δ2,e1,e2,rfl⟩
def LO{tg:Tg}{e:E}(n:(!bj e)=true){E:Ends}{σ:L2.St}{H:Hp}(h:tS X.K (evS cx (.asg tg e)) E σ H):By (tE X.K cx e) (gTg X.K tg) E σ H:=by
 obtain⟨G,F,δ,o,ok,ev,post⟩:=h;obtain⟨d,δ1,δ2,e1,e2,rfl⟩:=Ep ev;exact⟨G,F,δ,d,δ1,ok,e1,λv H1 F1 st sm ok1 r=>kq ok1 (dg n r) e2 λσ' ok2 _=>post σ' H1 F1 st ok2⟩
def uM(C:Cok X c cx k)(hm:(isNm t||!Nj y)=true\/swappedStores [t] y X.env=pure none)(h:qp c tg t=true)(hy:ckE c e y=true)(n:(!bj e)=true)(hs:swapsWithSole [t] y pos.line X.env=pure false)(he:PE X y (tE X.K cx e)):PS X (.Assign [t] y pos) (tS X.K (evS cx (.asg tg e))):=by
 have hh:=bo hy
 have hw:swappedStores [t] y X.env=pure none:=by
  refine hm.elim (λhm=>?_) id;rcases uB h with⟨_,_,rfl⟩|⟨_,_,_,rfl⟩
  .cases y<;>first|rfl|(exact absurd hh aq)
  .cases y<;>first|rfl|(exact absurd hm aq)|(exact absurd hh aq)
 have h1:(assignEach [t] X.env).map (·.2)=[assign t X.env]:=by
  rcases uB h with⟨_,_,rfl⟩|⟨_,_,_,rfl⟩<;>rfl
 exact PS.imp (sr he (mO C h) hs hw h1) λE σ H h=>LO n h
def Jt{α β:Type}{i j:α}{ds:List β}(h:[i,j].length=ds.length):∃a b,ds=[a,b]:=by
 cases ds with
 |nil=>cases h
 |cons a ds =>
  cases ds with
  |nil=>cases h
  |cons b ds =>
   cases ds with
   |nil=>exact⟨a,b,rfl⟩
   |cons c ds=>cases h
def BO(C:Cok X c cx k)(hS:X.env.scope=c.sc)(hB:X.env.blockKind=.function){i j:Nat}{es:Es}{t y:aE}{pos:Pos}(h:MW c i j es t y=true)(hA:∀a b,iP c es [a,b]=true->iW es=true->PA X [a,b] (tEs X.K cx es)):PS X (.Assign [t] y pos) (tS X.K (evS cx (.asg (.tp [i,j]) (.tup es)))):=by
 obtain⟨_,_,_,rfl,h1⟩:=dH h;obtain⟨_,_,rfl,h2⟩:=fQ h1;obtain⟨x,px,rfl,h3⟩:=lY h2;obtain⟨z,pz,rfl,h4⟩:=lY h3;obtain⟨_,_,_,rfl,h5⟩:=dH h4;obtain⟨a,b,rfl,h6⟩:=fQ h5;clear h h1 h2 h3 h4 h5;have h:=h6;clear h6;simp only[aa,decide_eq_true_eq,dc]at h;obtain⟨⟨⟨⟨⟨⟨⟨⟨⟨h1,h2⟩,h3⟩,h4⟩,h5⟩,h6⟩,h7⟩,h8⟩,h9⟩,h10⟩:=h;rw[<- C.hN]at h1 h2;rw[<- hS]at h3 h4;obtain⟨_,_,_,c1,c2⟩:=fJ h7;obtain⟨_,_,_,c3,_⟩:=fJ c2;refine PS.imp (JX C.calm C.nd' h1 h2 (λw=>h5 ?_) h3 h4 (hA a b h7 h8) (Bz hB h3 h4 h5 h6 (bo c1) (bo c3) h9 h10)) λE σ H⟨G,F,δ,o,ok,ev,post⟩=>?_
 .rw[w]at h1;exact bT (h1.symm.trans h2)
 obtain⟨d,δ1,δ2,e1,e2,rfl⟩:=Ep ev;simp only[evE,ae,af]at e1;obtain⟨⟨ds,δ3⟩,ea,e3⟩:=e1;split at e3
 .cases e3;unfold dy at e2;dsimp only at e2;split at e2
  .rename_i hh;cases e2;refine⟨G,F,δ,ds,_,ok,ea,λvs H1 F1 st sm ok1 r=>?_⟩;have r:=r.rl h8;obtain⟨d1,d2,rfl⟩:=Jt hh.1;have q:=hh.2;simp only[cg,vP,cT,aa,decide_eq_true_eq]at q;obtain⟨v1,vs1,rfl,r1,q1⟩:=r;obtain⟨v2,vs2,rfl,r2,q2⟩:=q1;obtain rfl:vs2=[]:=q2;exact⟨v1,v2,rfl,post _ H1 F1 st ((ok1.set q.1 r1).set (by rw[aZ];exact q.2) r2)⟩
  .cases e2
 .cases e3
def tN(K:PySem.W.Frag)(cx:Cl)(e:E):TE:=λσ H Q=>∃G F δ ds δ',Ok K G F σ H δ/\evE cx e δ=some (.lst ds,δ') /\
 ∀p xs H1 F1,Step G F H F1 H1->Ok K G F1 σ H1 δ'->H1 p=none->aH K H1 F1 ds xs->Q (.ref p) (upd H1 p (.lst xs))
def Gy{K:PySem.W.Frag}{G:Gh}{F1:av->Prop}{σ:L2.St}{H1:Hp}{δ1:Loc}{i:Nat}{p:av}{ds:List D}{xs:List V}(ok1:Ok K G F1 σ H1 δ1)(hp:H1 p=none)(rl:aH K H1 F1 ds xs)(hi:i<δ1.length) :
 Ok K G (λb=>F1 b\/b=p) (σ.set i (some (.ref p))) (upd H1 p (.lst xs)) (δ1.set i (.own ds))/\Step G F1 H1 (λb=>F1 b\/b=p) (upd H1 p (.lst xs)):=by
 obtain⟨o1,o2⟩:=ok1.enter hp xs;refine⟨(o1.keep).own hi (.inr rfl) (ok1.free hp) bI (aH.step ok1.fd o2 ds xs rl) λj s e ho z=>?_,o2⟩;obtain⟨a,u,d,e1,_,_,e2,_⟩:=eT.ow (ok1.sl j _ e) ho;rw[z]at e1;cases e1;rw[hp]at e2;cases e2
def BQ(C:Cok X c cx k){i:Nat}{e:E}{t:Str}{y:aE}{pos p2:Pos}(h:fR c i t=true)(hy:ckE c e y=true)(nc:(!jZ y)=true)(he:PE X y (tN X.K cx e)):PS X (.Assign [.Name t p2] y pos) (tS X.K (evS cx (.new i e))):=by
 obtain⟨n1,n2,n3⟩:=C.to h;have nc':jZ y=false:=by simpa using nc
 refine PS.imp (Cy C.nd' n1 n2 he (head_swaps (bo hy) nc' _ _ _) n3) λE σ H zz=>?_;obtain⟨G,F,δ,o,ok,ev,post⟩:=zz;simp only[evS,ae,af]at ev;obtain⟨⟨d,δ1⟩,e1,ev⟩:=ev
 cases d with
 |lst ds =>
  dsimp only at ev;split at ev
  .cases ev;refine⟨G,F,δ,ds,δ1,ok,e1,λp xs H1 F1 st ok1 hp rl=>?_⟩;obtain⟨o1,o2⟩:=Gy ok1 hp rl ‹_›;exact post _ _ _ (st.trans o2) o1
  .cases ev
 |_=>cases ev
def Cd(n:iW es=true)(h:PA X xs (tEs X.K cx es)):PE X (.List xs pos) (tN X.K cx (.lst es)):=by
 refine PE.imp (CH h) λσ H Q h=>?_;obtain⟨G,F,δ,d,δ',ok,ev,post⟩:=h;simp only[evE,ae,af]at ev;obtain⟨⟨ds,δ1⟩,ea,ev⟩:=ev;split at ev
 .rename_i hz;cases ev;refine⟨G,F,δ,ds,δ1,ok,ea,λvs H1 F1 st1 sm1 ok1 r1=>?_⟩;have r:=r1.rl n;exact⟨by rw[r.length];exact hz,λp hp=>post p vs H1 F1 st1 ok1 hp r⟩
 .cases ev
def zF(C:Cok X c cx k){es:Es}{p pos:Pos}{y:aE}{ys:List aE}(hg:di c (rA .toLst)=true)(hA:PA X (y::ys) (tEs X.K cx es))(h:iP c es (y::ys)=true):PE X (.Call (.Name (rA .toLst) p) (y::ys) [] pos) (tN X.K cx (.blt .toLst es)):=by
 obtain⟨g1,g2,g3⟩:=C.global hg;obtain⟨e,es',rfl,h1,h2⟩:=fJ h;have he:=br (bo h1) ys X.env;have hpl:=ib (env:=X.env) (pos:=pos) h2;refine PE.imp (gZ my g1 (C.blt _ ⇑0) rfl hA g3 g2 he hpl) λσ H Q h=>?_;obtain⟨G,F,δ,ds,δ',ok,ev,post⟩:=h;simp only[evE]at ev;obtain⟨zs,ea,hd⟩:=yO ev;refine⟨G,F,δ,zs,δ',ok,ea,λvs H1 F1 st1 sm1 ok1 r1=>?_⟩;have r:=r1.bl;change mL zs=some (D.lst ds)at hd;unfold mL at hd;split at hd
 .cases hd;obtain⟨v,rfl,r9⟩:=b1 r;obtain⟨a,ws,rfl,h1,h2⟩:=r9.lst;exact⟨a,ws,rfl,.inl h1.sq,λl hl=>post l ws H1 F1 st1 ok1 hl h2⟩
 .cases hd;obtain⟨v,rfl,r9⟩:=b1 r;obtain⟨a,ws,rfl,h1,h2⟩:=r9.tup;exact⟨a,ws,rfl,.inr h1,λl hl=>post l ws H1 F1 st1 ok1 hl h2⟩
 .cases hd
def FU{a:E}{lo hi:Eo}{y:aE}{l h:Option aE}{pos p2:Pos}(pc:(!bj a||(npO lo&&npO hi))=true)(ha:PE X y (tE X.K cx a))(hl:PO X l (tO X.K cx lo))(hh:PO X h (tO X.K cx hi)):PE X (.Subscript y (.Slice l h none p2) pos) (tN X.K cx (.sl a lo hi)):=by
 refine PE.imp (uR xY ha hl hh) λσ H Q h=>?_;obtain⟨G,F,δ,ds,δ',ok,ev,post⟩:=h;simp only[evE,ae,af]at ev;obtain⟨⟨x,δ1⟩,ea,⟨l',δ2⟩,eb,⟨h',δ3⟩,ec,d',hd,e⟩:=ev;cases e;dsimp only at eb ec hd post;refine⟨G,F,δ,x,δ1,ok,ea,λv H1 F1 st1 sm1 ok1 r1=>⟨G,F1,δ1,l',δ2,ok1,eb,λH2 F2 st2 sm2 ok2=>⟨G,F2,δ2,h',δ3,ok2,ec,λH3 F3 st3 sm3 ok3=>?_⟩⟩⟩;have st:=st2.trans st3
 have rb:cZ X.K H3 F3 x v:=by
  refine(RelM.step ok1.fd st (λz=>?_) r1).b;rw[z]at pc;have pc':(npO lo&&npO hi)=true:=by simpa using pc
  rw[aa]at pc';exact(sm2 pc'.1).trans (sm3 pc'.2)
 unfold slD at hd;split at hd
 .cases hd;obtain⟨p,xs,e1,h1,h2⟩:=rb.lst;exact⟨p,xs,e1,h1.sq,λq hq=>post q _ H3 F3 (st1.trans st) ok3 hq (h2.cut l' h')⟩
 .split at hd
  .cases hd
  .cases hd
 .split at hd
  .cases hd
  .cases hd
 .cases hd
end
section
variable{X:Cx}{c:Ck}{cx:Cl}{k:Nat}
def Kb{op:gJ}{t t':TIp}(h:PIp X op t)(h':PIp X op t'):PIp X op (λx y H Q=>t x y H Q\/t' x y H Q):=λpins s σ H x y v u Q I r1 r2 q=>q.elim (h pins s σ H x y v u Q I r1 r2) (h' pins s σ H x y v u Q I r1 r2)
def BX(C:Cok X c cx k){i:Nat}{op:Op}{o:gJ}{e:E}{t:Str}{y:aE}{pos p2:Pos}(h:fR c i t=true)(ho:GI op o=true)(n:(!bj e)=true)(he:PE X y (tE X.K cx e)):PS X (.AugAssign (.Name t p2) o y pos) (tS X.K (evS cx (.aug i op e))):=by
 obtain⟨n1,n2,n3⟩:=C.to h
 have inv:∀{δ:Loc}{out:Out},evS cx (.aug i op e) δ=some out->∃x y δ1 z,δ[i]?=some (.val x)/\evE cx e δ=some (y,δ1)/\out=.nx (δ1.set i (.val z))/\op=.add/\En x y=some z:=by
  intro δ out ev;simp only[evS]at ev
  cases q:δ[i]? with
  |none=>rw[q]at ev;cases ev
  |some s =>
   rw[q]at ev
   cases s with
   |no=>cases ev
   |fnc _ _=>cases ev
   |odc _ _=>cases ev
   |own _=>cases ev
   |val x =>
    simp only[ae,af]at ev;obtain⟨⟨d,δ1⟩,e1,ev⟩:=ev;dsimp only at ev
    cases op with
    |add =>
     obtain⟨z,h1,h2⟩:=aj.mp ev
     exact⟨x,d,δ1,z,rfl,e1,h2.symm,rfl,h1⟩
    |_=>cases ev
 cases op with
 |add =>
  cases o<;>first|(exact absurd ho aq)|skip
  refine PS.imp (JY C.nd' n1 n2 he (Kb Lh Hg) n3) λE σ H zz=>?_;obtain⟨G,F,δ,out,ok,ev,post⟩:=zz;obtain⟨x,y,δ1,z,e1,e2,rfl,_,e3⟩:=inv ev
  .obtain⟨v,ev,r⟩:=ok.sl i _ e1;refine⟨_,ev,G,F,δ,_,δ1,ok,e2,λu H1 F1 st sm ok1 r1=>?_⟩;have hi:i<δ1.length:=by rw[ok1.len,<- ok.len];exact(aF.mp e1).1
   have ra:Rel X.K H1 F1 x v:=Rel.step ok.fd st x v r;have rb:=dg n r1;unfold En at e3;split at e3
   .cases e3;unfold Rel at ra rb;subst ra rb;exact .inl ⟨_,_,rfl,rfl,post _ H1 F1 st (ok1.set hi (cA _))⟩
   .split at e3
    .rename_i q;cases e3;obtain⟨p1,xs1,e1,s1,l1⟩:=cZ.tup (.inl ra);obtain⟨p2,xs2,e2,s2,l2⟩:=cZ.tup (.inl rb);subst e1;subst e2;refine .inr ⟨p1,p2,xs1,xs2,rfl,rfl,s1,s2,λz=>?_,by rw[l1.length,l2.length];exact q,λz=>?_,λ_ p hp=>?_⟩
     .have:=l1.length;rw[z]at this;cases this
     .refine post _ H1 F1 st (ok1.set hi ?_);have e:∀{ys:List D},aH X.K H1 F1 ys xs2->ys=[]:=λ{ys}r=>by have:=r.length;rw[z]at this;exact fY.mp this.symm
      have:=e l2;subst this;rw[bq];exact ra
     .obtain⟨o1,o2,o3,o4⟩:=ok1.laid hp (.tup (xs1++xs2));exact post _ _ F1 (st.trans o2) (o1.set hi (jr ok1 hp (l1.append l2)))
    .cases e3
   .cases e3
 |_ =>
  refine PS.imp CB λE σ H zz=>?_;obtain⟨G,F,δ,out,ok,ev,post⟩:=zz;obtain⟨_,_,_,_,_,_,_,z,_⟩:=inv ev;cases z
def BN{e:E}{y:aE}{pos:Pos}(n:(!bj e)=true)(he:PE X y (tE X.K cx e)):PS X (.Return (some y) pos) (tS X.K (evS cx (.ret e))):=PS.imp (Cz he) λE σ H zz=>by
 obtain⟨G,F,δ,out,ok,ev,post⟩:=zz;simp only[evS,ae,af]at ev;obtain⟨⟨d,δ1⟩,e1,ev⟩:=ev;cases ev;exact⟨G,F,δ,d,δ1,ok,e1,λv H1 F1 st sm ok1 r=>post v σ H1 F1 st ok1 (dg n r)⟩
def BS{t:E}{a b:Ss}{y:aE}{ya yb:List bE}{pos:Pos}(ht:PT X y (tT X.K cx t))(ha:PSs X ya (tS X.K (cU cx a)))(hb:PSs X yb (tS X.K (cU cx b))):PS X (.If y ya yb pos) (tS X.K (evS cx (.ifs t a b))):=PS.imp (uP ht ha hb) λE σ H zz=>by
 obtain⟨G,F,δ,out,ok,ev,post⟩:=zz;simp only[evS,ae,af]at ev;obtain⟨⟨q,δ1⟩,e1,ev⟩:=ev;refine⟨G,F,δ,q,δ1,ok,e1,λH1 F1 st sm ok1=>?_⟩
 cases q with
 |true=>exact qj ⟨G,F1,δ1,out,ok1,ev,post.step st⟩
 |false=>exact sI ⟨G,F1,δ1,out,ok1,ev,post.step st⟩
def BU(C:Cok X c cx k){tg:Tg}{src:It}{body:Ss}{t it:aE}{ys:List bE}{pos:Pos}(htg:qp c tg t=true)(hI:PI X t it (tI X.K cx src))(hset:∀v,foldedSetIterable it X.env v=pure v)(hb:PSs X ys (tS X.K (cU cx body))):PS X (.For t it ys [] pos) (tS X.K (evS cx (.for_ tg src body))):=by
 have hp:nM (model X.prog X.w) X.A X.env X.xe:=by rw[C.xe];exact nq
 refine PS.imp (CD hp C.calm hI (mO C htg) hb hset) λE σ H zz=>?_;obtain⟨G,F,δ,out,ok,ev,post⟩:=zz;simp only[evS,ae,af]at ev;obtain⟨⟨ds,δ1⟩,e1,ev⟩:=ev;dsimp only at ev;generalize ef:(λ(x:D)(δ0:Loc)=>match dy δ0 tg x with|some δ2=>cU cx body δ2|none=>none)=f at ev;refine⟨G,F,δ,ds,δ1,ok,e1,λJ H1 F1 st sm ok1 wk=>?_⟩;refine⟨λi m σ' H'=>∃F' δ',m=ds.length-i/\i<=ds.length/\Step G F1 H1 F' H'/\Ok X.K G F' σ' H' δ'/\forL f (ds.drop i) δ'=some out,⟨_,F1,δ1,rfl,bM _,Step.refl,ok1,ev⟩,?_⟩;rintro i m σ' H' ⟨F',δ',rfl,hi,st',ok',ev'⟩;by_cases hlt:i<ds.length
 .right;obtain⟨d,hd⟩:∃d,ds[i]?=some d:=⟨ds[i],by simp[hlt]⟩;obtain⟨go,yl⟩:=(wk _ F' H' st' ok'.fd i).1 d hd;refine⟨go,?_⟩
  have edr:ds.drop i=d::ds.drop (i+1):=by
   rw[bN hlt];congr 1;rw[aN hlt]at hd;exact bT hd
  rw[edr]at ev';unfold forL at ev';refine⟨λσ2 H2=>∃m',m'<ds.length-i/\∃F2 δ2,m'=ds.length-(i+1)/\i+1<=ds.length/\Step G F1 H1 F2 H2/\Ok X.K G F2 σ2 H2 δ2/\forL f (ds.drop (i+1)) δ2=some out,λσ2 H2 z=>z,λx H3 hy=>?_⟩;obtain⟨sm,rx⟩:=yl x H3 hy;replace ok':=ok'.same' sm;replace st':=st'.trans (Step.of_same sm)
  cases hf:f d δ' with
  |none=>rw[hf]at ev';cases ev'
  |some o1 =>
   have hf':=hf;rw[<- ef]at hf';dsimp only at hf'
   cases hs:dy δ' tg d with
   |none=>rw[hs]at hf';cases hf'
   |some δ2 =>
    rw[hs]at hf';refine kq ok' rx hs λσ2 ok2 _=>⟨G,F',δ2,o1,ok2,hf',?_⟩;rw[hf]at ev'
    cases o1 with
    |nx δ3=>exact λσ3 H4 F4 s4 k4=>⟨_,by omega,F4,δ3,rfl,hlt,st'.trans s4,k4,ev'⟩
    |rt d3 δ3 =>
     cases ev'
     exact λv σ3 H4 F4 s4 k4 r4=>post v σ3 H4 F4 ((st.trans st').trans s4) k4 r4
    |ro d3 δ3 =>
     cases ev';exact λa xs σ3 H4 F4 s4 k4=>post a xs σ3 H4 F4 ((st.trans st').trans s4) k4
 .left;have hi':i=ds.length:=by omega
  subst hi';refine⟨(wk _ F' H' st' ok'.fd ds.length).2 rfl,?_⟩;rw[fq]at ev';cases ev';exact post σ' H' F' (st.trans st') ok'
def wg(C:Cok X c cx k){t:E}{body:Ss}{y:aE}{ys:List bE}{pos:Pos}(ht:PT X y (tT X.K cx t))(hb:PSs X ys (tS X.K (cU cx body))):PS X (.While y ys [] pos) (tS X.K (evS cx (.while_ t body))):=by
 have hp:nM (model X.prog X.w) X.A X.env X.xe:=by rw[C.xe];exact nq
 refine PS.imp (Cw hp ht hb) λE σ H zz=>?_;obtain⟨G,F,δ,out,ok,ev,post⟩:=zz;simp only[evS]at ev;refine⟨λm σ' H'=>∃F' δ',Step G F H F' H'/\Ok X.K G F' σ' H' δ'/\lg (λδ0=>evT cx t δ0) (λδ0=>cU cx body δ0) m δ'=some out,⟨1000,F,δ,Step.refl,ok,ev⟩,?_⟩;rintro m σ' H' ⟨F',δ',st',ok',ev'⟩
 cases m with
 |zero=>cases ev'
 |succ m =>
  unfold lg at ev'
  cases ec:evT cx t δ' with
  |none=>rw[ec]at ev';cases ev'
  |some q =>
   obtain⟨b,δ1⟩:=q;rw[ec]at ev';refine⟨G,F',δ',b,δ1,ok',ec,λH1 F1 st1 sm1 ok1=>?_⟩;have sA:=st'.trans st1
   cases b with
   |true =>
    refine qj ?_;dsimp only at ev';refine⟨λσ2 H2=>∃m',m'<m+1/\∃F2 δ2,Step G F H F2 H2/\Ok X.K G F2 σ2 H2 δ2/\lg (λδ0=>evT cx t δ0) (λδ0=>cU cx body δ0) m' δ2=some out,λσ2 H2 z=>z,?_⟩
    cases hf:cU cx body δ1 with
    |none=>rw[hf]at ev';cases ev'
    |some o1 =>
     rw[hf]at ev';refine⟨G,F1,δ1,o1,ok1,hf,?_⟩
     cases o1 with
     |nx δ3=>exact λσ3 H4 F4 s4 k4=>⟨m,by omega,F4,δ3,sA.trans s4,k4,ev'⟩
     |rt d3 δ3 =>
      cases ev'
      exact λv σ3 H4 F4 s4 k4 r4=>post v σ3 H4 F4 (sA.trans s4) k4 r4
     |ro d3 δ3 =>
      cases ev'
      exact λa xs σ3 H4 F4 s4 k4=>post a xs σ3 H4 F4 (sA.trans s4) k4
   |false =>
    refine sI ?_;cases ev';exact post σ' H1 F1 sA ok1
end
section
variable{X:Cx}{c:Ck}{cx:Cl}{k:Nat}
def Oq(h:ckE c e z=true):((backTo cp (starEach [z] env)).all (λx=>!x.1)&&(backToKw cp (keywordEach [] env)).all (λx=>x.1.isSome)
 && decide (([z]:List aE).length+([]:List dP).length+(if([]:List dP).isEmpty then 0 else 1)<30))=true:=by
 rw[br (bo h)];rfl
def uN(C:Cok X c cx k)(hx:dI c i x=true)(hl:ap.endLine=cp.line)(hz:ckE c e z=true)(n:(!bj e)=true)(he:PE X z (tE X.K cx e)) :
 PS X (.Expr (.Call (.Attribute (.Name x p1) "append" ap) [z] [] cp) p2) (tS X.K (evS cx (.append i e))):=by
 obtain⟨n1,n2,n3,n4⟩:=C.name hx;have hs:=br (bo hz) [] X.env;have hA:PA X [z] (tEs X.K cx (.cons e .nil)):=jU (by simp[npS]) he lU hs;refine PS.imp (sk (uT PySem.F.plainAttrs_list PySem.F.slot_list_append PySem.F.type_list_append qX (fH n1 n2 n3 n4) hA rfl (Oq hz) (by simpa using hl) hs rfl)) λE σ H zz=>?_;obtain⟨G,F,δ,out,ok,ev,post⟩:=zz;simp only[evS]at ev
 cases q:δ[i]? with
 |none=>rw[q]at ev;cases ev
 |some s =>
  rw[q]at ev
  cases s with
  |no=>cases ev
  |fnc _ _=>cases ev
  |odc _ _=>cases ev
  |val _=>cases ev
  |own ds0 =>
   simp only[ae,af]at ev;obtain⟨⟨d,δ1⟩,e1,ev⟩:=ev;dsimp only at ev;obtain⟨a,xs0,ea,f1,f2,f3,f4⟩:=ok.sl i _ q
   cases q1:δ1[i]? with
   |none=>rw[q1]at ev;cases ev
   |some s1 =>
    rw[q1]at ev
    cases s1 with
    |no=>cases ev
    |fnc _ _=>cases ev
    |odc _ _=>cases ev
    |val _=>cases ev
    |own ds =>
     dsimp only at ev;split at ev
     .rename_i hz';cases ev;refine⟨.ref a,ea,.inl ⟨rfl,xs0,.inl (.inl f3)⟩,G,F,δ,[d],δ1,ok,by simp[cS,e1],λvs H1 F1 st sm ok1 r=>?_⟩;obtain⟨d',ds',v,vs',ed,rfl,rv,rn⟩:=r;cases ed;obtain⟨_,rfl⟩:=rn;have rv':=dg n rv;obtain⟨a',xs,ea',g1,g2,g3,g4⟩:=ok1.sl i _ q1;rw[ea]at ea';cases ea';obtain⟨o1,o2⟩:=ok1.write q1 ea (g4.append (aH.one rv'));exact⟨a,xs,v,rfl,rfl,g3,by rw[g4.length];exact hz',post σ _ F1 (st.trans o2) o1⟩
     .cases ev
def Od:V->List V->Hp->VK->Prop:=λx vs H Q=>∃l xs n y,x=.ref l/\vs=[.int n,y]/\0<=n/\n<2^62/\H l=some (.lst xs)/\xs.length<sizeLine/\Q .non (upd H l (.lst (xs.take n.toNat++y::xs.drop n.toNat)))
def KJ:MtM X "list.insert" Od:=by
 intro pins s σ H x vs v us Q I rx rv h;obtain⟨l,xs,n,y,rfl,rfl,h0,hn,hH,hz,q⟩:=h;cases rx;obtain⟨u1,u2,rfl,⟨t,rfl⟩,r2⟩:=rv.two;obtain⟨z,its,m,r,hl,e⟩:=I.lstM hH;have s1:its.toArray.size=xs.length:=by rw[aB];lia
 have hs:sizeLine<2^62:=by decide
 refine dR F.slot_list_insert ⟨_,e,rfl⟩ F.entry_list_insert (F.args_list_insert_3 _ _ _) (AutoListH.list_insert_list_int_val_1 l its.toArray m n t u2 ?_ ∅) ⟨e,?_⟩
 .have:mJ n=true:=by
   unfold mJ;rw[aa,decide_eq_true_eq,decide_eq_true_eq]
   lia
  rw[this];exact aq
 .refine⟨.non,_,I.lset (its':=its.take n.toNat++u2::its.drop n.toNat) hH e ?_ ((r.take _).append (.cons r2 (r.drop _))) ?_,rfl,q⟩
  .have w:its.take n.toNat=its.take (min n.toNat its.length)/\its.drop n.toNat=its.drop (min n.toNat its.length):=by
    by_cases z:n.toNat<=its.length
    .rw[qw z];exact⟨rfl,rfl⟩
    .rw[pX ∅,cm ∅,gE,fq,dX ∅];exact⟨rfl,rfl⟩
   dsimp only;rw[if_neg ∅,w.1,w.2];simp only[List.extract_toArray,List.push_toArray,List.append_toArray,List.extract_eq_drop_take,gh,xG,cz,List.singleton_append,aB];rw[show ∀m,(its.drop m).take (its.length-m)=its.drop m from λm=>cm (by rw[aR];exact aD _)]
  .rw[az,ag,bw,aR]
   lia
def BR(C:Cok X c cx k)(hx:dI c i x=true)(hl:ap.endLine=cp.line)(hz:iP c es [u,v]=true)(n:iW es=true)(hA:PA X [u,v] (tEs X.K cx es)) :
 PS X (.Expr (.Call (.Attribute (.Name x p1) "insert" ap) [u,v] [] cp) p2) (tS X.K (evS cx (.ins i es))):=by
 obtain⟨n1,n2,n3,n4⟩:=C.name hx;obtain⟨e1,es1,rfl,c1,hz1⟩:=fJ hz;obtain⟨e2,es2,rfl,c2,hz2⟩:=fJ hz1
 have few:((backTo cp (starEach [u,v] X.env)).all (λx=>!x.1)&&(backToKw cp (keywordEach [] X.env)).all (λx=>x.1.isSome)&&decide (([u,v]:List aE).length+([]:List dP).length+(if([]:List dP).isEmpty then 0 else 1)<30))=true:=by
  rw[br (bo c1),br (bo c2)];rfl
 refine PS.imp (sk (uT PySem.F.plainAttrs_list PySem.F.slot_list_insert PySem.F.type_list_insert KJ (fH n1 n2 n3 n4) hA rfl few (by simpa using hl) (br (bo c1) _ _) (ib hz1))) λE σ H zz=>?_;obtain⟨G,F,δ,out,ok,ev,post⟩:=zz;simp only[evS]at ev;split at ev
 case h_2=>cases ev
 rename_i ds0 q;rw[ae,af]at ev;obtain⟨⟨ds1,δ1⟩,ee,ev⟩:=ev;obtain⟨a,xs0,ea,f1,f2,f3,f4⟩:=ok.sl i _ q;split at ev
 case h_2=>cases ev
 rename_i nn d δ1' e9;cases e9;split at ev
 case h_2=>cases ev
 rename_i ds q1;split at ev
 .rename_i hc;cases ev;refine⟨.ref a,ea,.inl ⟨rfl,xs0,.inl (.inl f3)⟩,G,F,δ,_,δ1,ok,ee,λvs H1 F1 st sm ok1 r=>?_⟩;have rl:=r.rl n;unfold aH at rl;obtain⟨v1,w1,rfl,ra,rl⟩:=rl;unfold aH at rl;obtain⟨v2,w2,rfl,rb,rl⟩:=rl;unfold aH at rl;subst rl;obtain rfl:v1=.int nn:=ra;obtain⟨a',xs,ea',g1,g2,g3,g4⟩:=ok1.sl i _ q1;rw[ea]at ea';cases ea';obtain⟨o1,o2⟩:=ok1.write q1 ea ((g4.take nn.toNat).append (aH.cons rb (g4.drop nn.toNat)));exact⟨a,xs,nn,v2,rfl,rfl,hc.1,hc.2.1,g3,by rw[g4.length];exact hc.2.2,post σ _ F1 (st.trans o2) o1⟩
 .cases ev
def wj(C:Cok X c cx k)(hx:dI c i x=true)(hy:ckE c e y=true)(n:(!bj e)=true)(nc:(!jZ y)=true)(hz:ckE c j z=true)(nj:(!bj j)=true)(he:PE X y (tE X.K cx e))(hj:PE X z (tE X.K cx j)) :
 PS X (.Assign [.Subscript (.Name x p1) z p2] y pos) (tS X.K (evS cx (.setix i j e))):=by
 obtain⟨n1,n2,n3,n4⟩:=C.name hx;have nc':jZ y=false:=by simpa using nc
 have hh:=bo hz;have hh2:=bo hy
 have ha:∀v,assign (.Subscript (.Name x p1) z p2) X.env v=(do
  let ov <- holding [v] (eval (.Name x p1) X.env)
  let iv <- holding [v,ov] (eval z X.env)
  standAt p2
  holding [v,ov,iv] (setItem ov iv v)
  release [v,ov,iv] []):=by
  intro v;cases z<;>first|rfl|(exact absurd hh aq)
 have hsw:swapsWithSole [.Subscript (.Name x p1) z p2] y pos.line X.env=pure false:=by
  cases y<;>first|rfl|(exact absurd hh2 aq)|(exact absurd nc'.symm aq)
 have hw:swappedStores [.Subscript (.Name x p1) z p2] y X.env=pure none:=by
  cases y<;>first|rfl|(exact absurd hh2 aq)
 refine PS.imp (sr he (Kf (fH n1 n2 n3 n4) hj set_list ha) hsw hw rfl) λE σ H zz=>?_;obtain⟨G,F,δ,out,ok,ev,post⟩:=zz;simp only[evS,ae,af]at ev;obtain⟨⟨d,δ1⟩,e1,ev⟩:=ev;dsimp only at ev;refine⟨G,F,δ,d,δ1,ok,e1,λv H1 F1 st1 sm1 ok1 r1=>?_⟩
 cases q1:δ1[i]? with
 |none=>rw[q1]at ev;cases ev
 |some s1 =>
  rw[q1]at ev
  cases s1 with
  |no=>cases ev
  |fnc _ _=>cases ev
  |odc _ _=>cases ev
  |val _=>cases ev
  |own ds0 =>
   obtain⟨a,xs0,ea,f1,f2,f3,f4⟩:=ok1.sl i _ q1;simp only[af]at ev;obtain⟨⟨dj,δ2⟩,e2,ev⟩:=ev;refine⟨.ref a,ea,G,F1,δ1,dj,δ2,ok1,e2,λw H2 F2 st2 sm2 ok2 r2=>?_⟩
   cases dj with
   |int m =>
    have:=r2.b.int;subst this;dsimp only at ev
    cases q2:δ2[i]? with
    |none=>rw[q2]at ev;cases ev
    |some s2 =>
     rw[q2]at ev
     cases s2 with
     |no=>cases ev
     |fnc _ _=>cases ev
     |odc _ _=>cases ev
     |val _=>cases ev
     |own ds =>
      dsimp only at ev;obtain⟨a',xs,ea',g1,g2,g3,g4⟩:=ok2.sl i _ q2;rw[ea]at ea';cases ea'
      cases q3:ixN ds.length m with
      |none=>rw[q3]at ev;cases ev
      |some mm =>
       rw[q3]at ev;cases ev;have rv:=Rel.step ok1.fd st2 d v (dg n r1);obtain⟨o1,o2⟩:=ok2.write q2 ea (aH.set rv mm g4)
       exact⟨a,xs,m,mm,rfl,rfl,g3,by rw[g4.length];exact q3,post σ _ F2 ((st1.trans st2).trans o2) o1⟩
   |_=>cases ev
def BW:PS X x (tS X.K (evS cx .bad)):=λpins s σ H D I h=>by
 obtain⟨G,F,δ,out,ok,ev,post⟩:=h;have ev:none=some out:=ev;cases ev
def wm{a b:E}{y z:aE}{ap cp:Pos}(na:(!bj a)=true)(ha:PE X y (tE X.K cx a))(hb:PE X z (tE X.K cx b))(hl:ap.endLine=cp.line)
 (hbase:attributeBase y (mtN .split) X.env (eval y X.env)=eval y X.env)(hs:starEach [z] X.env=[(false,eval z X.env)])
 (hfew:((backTo cp (starEach [z] X.env)).all (λx=>!x.1)&&(backToKw cp (keywordEach [] X.env)).all (λx=>x.1.isSome)
   && decide (([z]:List aE).length+([]:List dP).length+(if([]:List dP).isEmpty then 0 else 1)<30))=true) :
 PE X (.Call (.Attribute y (mtN .split) ap) [z] [] cp) (tN X.K cx (.mt .split a b)):=by
 have hA:PA X [z] (tEs X.K cx (.cons b .nil)):=jU (by simp[npS]) hb lU hs;refine PE.imp (uT PySem.F.plainAttrs_str PySem.F.slot_str_split PySem.F.type_str_split qW ha hA hbase hfew (by simpa using hl) hs rfl) λσ H Q h=>?_;obtain⟨G,F,δ,ds,δ',ok,ev,post⟩:=h;simp only[evE,ae,af]at ev;obtain⟨⟨x,δ1⟩,ea,⟨y',δ2⟩,eb,d',ed,e⟩:=ev;cases e;dsimp only at eb ed;refine⟨G,F,δ,_,δ1,ok,ea,λv H1 F1 st1 sm1 ok1 r1=>⟨NH ed r1.b,G,F1,δ1,[y'],δ2,ok1,by simp[cS,eb],λvs H2 F2 st2 sm2 ok2 r=>?_⟩⟩;obtain⟨d',ds',u,vs',ed',rfl,ru,rn⟩:=r;cases ed';obtain⟨_,rfl⟩:=rn;have r1':=Rel.step ok1.fd st2 _ _ (dg na r1);exact⟨F2,x,y',ds,u,rfl,.inl r1',ru.b,ed,λp xs hp rl=>post p xs H2 F2 (st1.trans st2) ok2 hp rl⟩
def NX(hm:newOk e=true)(C:Cok X c cx k)(h:ckE c e y=true):PE X y (tN X.K cx e):=by
 unfold newOk at hm;split at hm
 .obtain⟨_,_,rfl,hh⟩:=pE h;rw[aa]at hh;exact Cd hh.2 (fu _ X c _ C hh.1 (gQ hh.2))
 .rename_i es;obtain⟨_,_,xs,_,rfl,hh⟩:=dz h;simp only[aa]at hh;obtain⟨⟨h1,h2⟩,h3⟩:=hh;have e1:=of_decide_eq_true h1;subst e1;have h3:(!xs.isEmpty&&iP c es xs&&qh es)=true:=h3;simp only[aa]at h3
  cases xs with
  |nil=>simp at h3
  |cons y ys=>exact zF C h2 (fu _ X c _ C h3.1.2 h3.2) h3.1.2
 .obtain⟨_,_,_,rfl,hh⟩:=gA h;obtain⟨_,_,o,_,rfl,h9⟩:=sy hh;simp only[aa]at h9;obtain⟨h0,⟨⟨h1,h2⟩,h3⟩,h4⟩:=h9;obtain rfl:=cN.mp h0;exact FU (by simpa using h4) (cn _ X c _ C h1) (zE _ X c _ C h2) (zE _ X c _ C h3)
 .obtain⟨_,_,_,_,_,rfl,hln,hh⟩:=jX h;obtain⟨_,rfl,h9⟩:=cy hh;rw[aa]at h9;obtain⟨h9,h6⟩:=h9;simp only[aa]at h9;obtain⟨⟨⟨⟨h1,h2⟩,h3⟩,h4⟩,h5⟩:=h9;have e:=of_decide_eq_true h1;subst e;exact wm h4 (cn _ X c _ C h2) (cn _ X c _ C h3) hln (yW h6) (br (bo h3) [] X.env) (by rw[br (bo h3)];rfl)
 .cases hm
end
section
variable{X:Cx}{c:Ck}{cx:Cl}{k:Nat}
def zC(C:Cok X c cx k)(hS:X.env.scope=c.sc)(hB:X.env.blockKind=.function)(ho:(!own)=true)
 (hn:fR c i t=true)(h:ckE c (.comp kk tg src ifs elt) (.ListComp ex gs sc p)=true)(hl:c.sc.names.lookup t=some .cell)(he:PE X (.ListComp ex gs sc p) (tE X.K cx (.comp kk tg src ifs elt))) :
 PS X (.Assign [.Name t tp] (.ListComp ex gs sc p) sp) (tS X.K (evS cx (.cmp own i (.comp kk tg src ifs elt)))):=by
 have hs:swapsWithSole [.Name t tp] (.ListComp ex gs sc p) sp.line X.env=pure false:=by
  have e1:X.env.kindOf t=some .cell:=by
   show X.env.scope.names.lookup t=some .cell;rw[hS];exact hl
  show(pure (X.env.blockKind==.function&&X.env.kindOf t==some .local&&tp.line==p.line&&!(sc.names.any λ(n,k)=>n==t&&(k==.local||k==.cell))):Sem Bool)=pure false;rw[hB,e1];congr 1
 have ht:qp c (.nm i) (.Name t tp)=true:=by
  unfold qp cq;exact Bool.and_eq_true_iff.mpr ⟨rfl,hn⟩
 refine PS.imp (uM (tg:=.nm i) C (.inl rfl) ht h rfl hs he) λD σ H hq=>?_;obtain⟨G,F,δ,o,ok,ev,post⟩:=hq;refine⟨G,F,δ,o,ok,?_,post⟩;obtain rfl:own=false:=by simpa using ho
 simp only[evS,ae,af]at ev |-;obtain⟨⟨d,δ1⟩,e1,ev⟩:=ev
 cases d with
 |lst ds =>
  dsimp only at ev;split at ev
  .rename_i hi;cases ev;refine⟨_,e1,_,?_,rfl⟩;exact if_pos hi
  .cases ev
 |_=>cases ev
def BV(C:Cok X c cx k)(hS:X.env.scope=c.sc)(hB:X.env.blockKind=.function)
 (hn:fR c i t=true)(h:ckE c (.comp kk tg src ifs elt) (.ListComp ex gs sc p)=true)(hl:c.sc.names.lookup t=some .local)(hp:tp.line=p.line)(hz:(!(sc.names.any λ(n,k)=>n==t&&(k==.local||k==.cell)))=true) :
 PS X (.Assign [.Name t tp] (.ListComp ex gs sc p) sp) (tS X.K (evS cx (.cmp own i (.comp kk tg src ifs elt)))):=by
 obtain⟨n1,n2,n3⟩:=C.to hn;obtain⟨_,_,_,_,e,hh⟩:=lZ h;cases e;obtain⟨_,rfl,h9⟩:=cy hh;obtain⟨tgt,it,il,rfl,h10⟩:=wJ h9;replace h:=h10
 .split at h
  .rename_i ts ht;simp only[aa]at h;obtain⟨⟨⟨⟨⟨⟨⟨⟨h1,h2⟩,h3⟩,h4⟩,h5⟩,h6⟩,h7⟩,h8⟩,h9⟩:=h;obtain⟨nd,hvis⟩:=iX h4;have hk:=jT (tg:=tg) (c:=c) (of_decide_eq_true h1)
   have hsw:swapsWith (.ListComp ex [⟨tgt,it,il,0⟩] sc p) (some (.Name t tp)) sp.line X.env=pure true:=by
    have e1:X.env.kindOf t=some .local:=by
     show X.env.scope.names.lookup t=some .local;rw[hS];exact hl
    show(pure (X.env.blockKind==.function&&X.env.kindOf t==some .local&&tp.line==p.line&&!(sc.names.any λ(n,k)=>n==t&&(k==.local||k==.cell))):Sem Bool)=pure true;rw[hB,e1,hp,hz];congr 1;simp
   intro pins s σ H E I hq
   refine CC (Nc:=ma ts c.N++ts) (te:=tE X.K cx elt) (tt:=tG X.K cx ifs) (g:=gTg X.K tg) C.xe C.calm (ie C h3) (λi x hi=>by rw[C.hN]at hi |-;exact hvis i x hi) (by rw[C.hN,hk];lia) (Ce src X c _ _ C h6)
    (λcl Ca s H fp=>mO (gq C h3 nd cl Ca s H fp) h5) (λcl Ca s H fp=>JN ifs _ _ _ (gq C h3 nd cl Ca s H fp) h7) (λcl Ca s H fp=>cn elt _ _ _ (gq C h3 nd cl Ca s H fp) h8) (λv=>mv h6 _ v)
    C.nd' n1 n2 n3 hsw pins s σ H E I ?_
   obtain⟨G,F,δ,o,ok,ev,post⟩:=hq;simp only[evS,ae,af]at ev;obtain⟨⟨d,δ1⟩,e1,ev⟩:=ev
   cases d with
   |lst ds =>
    dsimp only at ev;split at ev
    .rename_i hi;cases ev;refine vA C I h9 hk h2 ok e1 λp ys xs H1 F1 H2 F2 e st1 st2 hp hg ok2 eD rl sm=>?_;cases e;show E.nx (σ.set i (some (.ref p))) H2
     cases own with
     |true =>
      refine post _ H2 F2 (st1.trans st2) ((ok2.keep).own hi (ok2.rf p (.inr rfl)) hg eD rl λj s ej ho z=>?_);obtain⟨a,u,d,e2,_,g2,_⟩:=eT.ow (ok2.sl j _ ej) ho;rw[z]at e2;cases e2
      exact g2.2 (.inr rfl)
     |false =>
      have st':Step G F1 H1 (λb=>F2 b/\b≠p) H2:=⟨st2.keep,λb z=>st2.grow b z.1,λb o r f e=>by
       obtain⟨a1,a2⟩:=st2.res b o r f e;exact⟨⟨a1,λw=>by rw[w,hp]at e;cases e⟩,a2⟩,st2.tb⟩
      refine post _ H2 _ (st1.trans st') ((ok2.leave hg).set hi ?_);unfold Rel;exact⟨p,xs,rfl,.inl ⟨.inl eD,λz=>z.2 rfl⟩,aH.less ok2.fd (λb z=>z.1) rl⟩
    .cases ev
   |_=>cases ev
  .cases h
end
section
variable{X:Cx}{c:Ck}{cx:Cl}{k:Nat}(C:Cok X c cx k)(hS:X.env.scope=c.sc)(hB:X.env.blockKind=.function)
include C hS hB
mutual
theorem FQ:∀(s:S)(x:bE),ckS c s x=true->PS X x (tS X.K (evS cx s))
 |.asg tg e,x,h=>by
  obtain⟨_,_,_,rfl,hq1⟩:=iV h;obtain⟨_,rfl,hq2⟩:=cy hq1;replace h:=hq2
  .simp only[aa]at h;obtain⟨⟨⟨⟨h1,h2⟩,h3⟩,h4⟩,h5⟩:=h;rw[bF,bF]at h5;rcases h5 with h5|h5
   .exact uM C (h5.imp id (zy hS)) h1 h2 h3 (head_swaps (bo h2) (by simpa using h4) _ _ _) (cn e X c _ C h2)
   .unfold Iv at h5;split at h5
    .exact BO C hS hB h5 λa b q n=>fu _ X c _ C q (gQ n)
    .cases h5
 |.new i e,x,h=>by
  obtain⟨_,_,_,rfl,hq1⟩:=iV h;obtain⟨_,rfl,hq2⟩:=cy hq1;obtain⟨_,_,rfl,hq3⟩:=aY hq2;replace h:=hq3
  .simp only[aa]at h;obtain⟨⟨⟨h1,h2⟩,h3⟩,h4⟩:=h
   exact BQ C h1 h2 h3 (NX h4 C h2)
 |.cmp own i e,x,h=>by
  have h:(DD e&&_)=true:=h;rw[aa]at h;obtain⟨h0,h⟩:=h;cases e<;>first|(cases h0;done)|skip
  obtain⟨_,_,_,rfl,hh⟩:=iV h;obtain⟨_,rfl,h2⟩:=cy hh;obtain⟨_,_,rfl,h3⟩:=lY h2;obtain⟨_,_,_,_,rfl,h4⟩:=lZ h3;simp only[aa]at h4;obtain⟨⟨a1,a2⟩,a3⟩:=h4;rcases fG.mp a3 with a3|a3
  .simp only[aa]at a3;exact BV C hS hB a1 a2 (of_decide_eq_true a3.1.1) (of_decide_eq_true a3.1.2) a3.2
  .rw[aa]at a3
   exact zC C hS hB a3.1 a1 a2 (of_decide_eq_true a3.2) (cn _ X c _ C a2)
 |.aug i op e,x,h=>by
  obtain⟨_,_,_,_,rfl,hq1⟩:=Df h;obtain⟨_,_,rfl,hq2⟩:=aY hq1;replace h:=hq2
  .simp only[aa]at h;obtain⟨⟨⟨h1,h2⟩,h3⟩,h4⟩:=h
   exact BX C h1 h2 h4 (cn e X c _ C h3)
 |.ret e,x,h=>by
  obtain⟨_,_,rfl,hq1⟩:=uV h;obtain⟨_,rfl,hq2⟩:=lr hq1;replace h:=hq2
  .rw[aa]at h
   exact BN h.2 (cn e X c _ C h.1)
 |.ifs t a b,x,h=>by
  obtain⟨_,_,_,_,rfl,hq1⟩:=jY h;replace h:=hq1
  .simp only[aa]at h
   exact BS (lV t X c _ C h.1.1) (kN a _ h.1.2) (kN b _ h.2)
 |.for_ tg src body,x,h=>by
  obtain⟨_,_,_,_,_,rfl,hq1⟩:=uW h;obtain⟨rfl,hq2⟩:=dh hq1;replace h:=hq2
  .simp only[aa]at h
   exact BU C h.1.1 (Ce src X c _ _ C h.1.2) (λv=>mv h.1.2 _ v) (kN body _ h.2)
 |.while_ t body,x,h=>by
  obtain⟨_,_,_,_,rfl,hq1⟩:=GJ h;obtain⟨rfl,hq2⟩:=dh hq1;replace h:=hq2
  .rw[aa]at h
   exact wg C (lV t X c _ C h.1) (kN body _ h.2)
 |.ins i es,x,h=>by
  obtain⟨_,_,rfl,hh⟩:=sD h;obtain⟨_,_,_,_,_,rfl,hln,h2⟩:=jX hh;obtain⟨_,_,rfl,h3⟩:=aY h2;obtain⟨_,_,rfl,h4⟩:=fQ h3;simp only[aa]at h4;obtain⟨⟨⟨a1,a2⟩,a3⟩,a4⟩:=h4;have z:=of_decide_eq_true a1;subst z
  exact BR C a2 hln a3 a4 (fu es X c _ C a3 (gQ a4))
 |.append i e,x,h=>by
  obtain⟨_,_,rfl,hh⟩:=sD h;obtain⟨_,_,_,_,_,rfl,hln,h2⟩:=jX hh;obtain⟨_,_,rfl,h3⟩:=aY h2;obtain⟨_,rfl,h4⟩:=cy h3;simp only[aa]at h4;obtain⟨⟨⟨a1,a2⟩,a3⟩,a4⟩:=h4;have z:=of_decide_eq_true a1;subst z
  exact uN C a2 hln a3 a4 (cn e X c _ C a3)
 |.setix i j e,x,h=>by
  obtain⟨_,_,_,rfl,hq1⟩:=iV h;obtain⟨_,rfl,hq2⟩:=cy hq1;obtain⟨_,_,_,rfl,hq3⟩:=gA hq2;obtain⟨_,_,rfl,hq4⟩:=aY hq3;replace h:=hq4
  .simp only[aa]at h;obtain⟨⟨⟨⟨⟨h1,h2⟩,h3⟩,h4⟩,h5⟩,h6⟩:=h
   exact wj C h1 h2 h3 h4 h5 h6 (cn e X c _ C h2) (cn j X c _ C h5)
 |.opq _,x,h=>nomatch (h:false=true)
 |.bad,x,h=>BW
theorem kN:∀(ss:Ss)(xs:List bE),nV c ss xs=true->PSs X xs (tS X.K (cU cx ss))
 |.nil,xs,h=>by
  obtain⟨rfl,hq1⟩:=dh h;replace h:=hq1
  .exact BP
 |.cons s ss,xs,h=>by
  obtain⟨_,_,rfl,hq1⟩:=cD h;replace h:=hq1
  .rw[aa]at h;exact qK (FQ s _ h.1) (kN ss _ h.2)
end
end
end PP
end
section
namespace L2
open PySem PySem.Spec PyProof.Rows
def less(h:bV)(l:List av):bV:=⟨h.objs.mapIdx λi o=>if i∈l then {o with data:=.freed}else o,h.life⟩
def fS{h:bV}{l:List av}{b:av}(hb:b∈l):(less h l).get? b=none:=by
 unfold less Heap.get?;simp only[vR]
 cases h.objs[b]? with
 |none=>rfl
 |some o=>simp[hb]
def iZ(hb:b∉l):(less h l).get? b=h.get? b:=by
 unfold less Heap.get?;simp only[vR]
 cases h.objs[b]? with
 |none=>rfl
 |some o=>simp[hb]
def jw{h:bV}{l:List av}:(less h l).StaysIn h:=λb o e=>by
 by_cases hb:b∈l
 .rw[fS hb]at e;cases e
 .rwa[iZ hb]at e
def me{h base base':bV}:∀{l:List Env},h.FunFrames base l->(∀b∈frs l,base'.get? b=none)->h.FunFrames base' l
 |[],_,_=>trivial
 |env::r,⟨hk,⟨L,o,hf,hn,ho,hd⟩,hr⟩,k=>by
  have hL:L∈frs (env::r):=by unfold frs;rw[bt,hf];exact ay
  exact⟨hk,⟨L,o,hf,k L hL,ho,hd⟩,me hr λb hb=>k b (by unfold frs at *;rw[bt,hf];exact ao _ hb)⟩
section
variable{P:aP}{w:bA}{H:Hp}{h:bV}{a:av}{o:HO}
def eJ.there(x:eJ P w H h a o):∃u,h.get? a=some u:=by
 cases o with
 |lst xs=>obtain⟨_,_,_,_,e⟩:=x;exact⟨_,e⟩
 |tup xs=>obtain⟨_,_,_,_,e,_⟩:=x;exact⟨_,e⟩
 |dK kvs=>obtain⟨_,_,_,_,o,_,_,e,_⟩:=x;exact⟨_,e⟩
 |dT kvs=>obtain⟨_,_,_,_,o,_,_,e,_⟩:=x;exact⟨_,e⟩
 |own y=>exact x
 |frz ob u=>obtain⟨e,_⟩:=x;exact⟨_,e⟩
 |tbl ps=>exact⟨_,show h.get? a=some _ from x⟩
 |ext φ=>obtain⟨_,e,_⟩:=x;exact e
def HOk.gone(x:HOk P w H h)(e:h.get? a=none):H a=none:=by
 cases q:H a with
 |none=>rfl
 |some u=>obtain⟨_,z⟩:=(x a u q).there;rw[e]at z;cases z
end
structure Fly(h0:bV)(H:Hp)(e:av)(cls:ai)(h:bV):Prop where
 new:h0.get? e=none
 fre:H e=none
 tr:∃oe vs a0 T oT ts fl,h.get? e=some oe/\(oe.cls=cls/\vs[0]?=some a0)/\oe.data=.fields vs/\vs[1]?=some (.ref T)/\(h0.get? T=none/\H T=none)/\T≠e/\h.get? T=some oT/\oT.data=.fields ts/\ts[3]?=some fl
def CXE(P:aP)(w:bA):CXT:=λouter H s E e s'=>∃a cls H',e=.ref a/\Fly s.heap H' a cls s'.heap/\Un (frs outer) [] H H' s.heap s'.heap/\HOk P w H' s'.heap/\s'.os=s.os/\jR s'.gens/\E cls none H'
def Nw(X:Cx)(pins:List (av×Obj))(b:av):Prop:=X.s₀.heap.get? b=none/\b≠X.env.locals/\(∀x c,X.env.cells.lookup x=some c->c≠b)/\∀p∈X.pn++pins,p.1≠b
def qT(I:Inv X pins σ H s)(hex:X.ex=[])(nb:s.heap.get? b=none):Nw X pins b:=by
 refine⟨?_,?_,λy c e z=>?_,λp hp z=>?_⟩
 .cases z:X.s₀.heap.get? b with
  |none=>rfl
  |some o =>
   obtain⟨o',q'⟩:=I.base.there b o z (by rw[hex];simp);rw[nb]at q';cases q'
 .obtain⟨m,⟨o,_,_,ho,_⟩,_⟩:=I.loc;intro z;rw[z,ho]at nb;cases nb
 .obtain⟨v,o,ho,_⟩:=I.cell y c e;rw[z,nb]at ho;cases ho
 .have ho:=(I.pin p hp).1;rw[z,nb]at ho;cases ho
def LY(X:Cx)(pins:List (av×Obj))(H:Hp)(e:av)(cls:ai)(h:bV):Prop :=
 ∃oe vs a0 T oT ts fl,h.get? e=some oe/\(oe.cls=cls/\vs[0]?=some a0)/\oe.data=.fields vs/\vs[1]?=some (.ref T)/\(H e=none/\H T=none)/\T≠e/\h.get? T=some oT/\oT.data=.fields ts/\ts[3]?=some fl/\∀b∈[e,T],Nw X pins b
def nK(X:Cx)(E:St->XK):Prop:=∀(pins:List (av×Obj))(σ:St)(H:Hp)(s:au)(e:av)(cls:ai),Inv X pins σ H s->LY X pins H e cls s.heap->E σ cls none H->X.xe (.ref e) s
def mS{M:Model}{A:bB}{E:ai->au->Prop}{s:au}{base:bV}{env:Env}{outer:List Env}{L e:av}{cls a0 fl:ai}{Q:Unit->au->Prop}
 (hfr:A.frames=some (env::outer))(hf:env.frame=some L)(stay:base.StaysIn s.heap)(ne:base.get? e=none)(ff:s.heap.FunFrames base (env::outer))(tr:s.heap.TracedAtW base e cls a0 fl)
 (hQ:∀h',Heap.HeldW base (env::outer) e cls a0 L h'->s.heap.UpToSlots h'->Q () {s with heap:=h'}):wpAny M A (noteFrame (.ref e) env) Q E s:=by
 obtain⟨oe,vs,T,oT,ts,he,⟨hcls,h0⟩,hd,h1,hnT,hTe,hT,hdT,h3⟩:=id tr;by_cases q:fl=rawInt L
 .subst q;exact wpAny_noteFrame_againW hf tr (hQ _ ⟨stay,ne,ff,tr⟩ (.refl _))
 .subst hcls;have other:∀b,b≠T->(s.heap.update T (vM (·.setIfInBounds 3 jM))).get? b=s.heap.get? b:=λb hb=>gi _ _ (Ne.symm hb)
  have noRec:∀b o,s.heap.get? b=some o->(∀vs,o.data≠.fields vs)->b≠T:=λb o hb hnf q=>by
   rw[q,hT]at hb;cases hb;exact hnf ts hdT
  unfold noteFrame;simp only[hf];refine aI (ir he hd h1 ?_);rw[if_pos (show(cj T != jM)=true from by simp)];refine aI (ir hT hdT h3 ?_);rw[if_neg (by simpa using q)];refine aI (wpAny_setField hT hdT (fc.mp h3).1 ?_)
  exact wpAny_entryW hfr (ff.of_keeps λb o hb hn=>⟨o,(other b (noRec b o hb hn)).trans hb,rfl⟩) hf ((other e (Ne.symm hTe)).trans he) (λb o hb=>(other b λq=>by rw[q,hnT]at hb;cases hb).trans (stay b o hb)) ne hd (fc.mp h1).1 h0
   λh'⟨x1,x2,x3,x4⟩=>hQ h' ⟨x1,ne,x2,x3⟩ λb o hb hn=>x4 b o ((other b (noRec b o hb hn)).trans hb) hn
def yF(I:Inv X pins σ H s)(hex:X.ex=[])(hst:X.stack=X.env::X.outer)(hfr:X.env.frame=some X.env.locals)
 (ne:X.s₀.heap.get? e=none)(nT:X.s₀.heap.get? T=none)(fe:H e=none)(fT:H T=none)
 (fl:Heap.FlyingW (less s.heap (e::T::frs X.stack)) X.outer e cls a0 h')(sm:s.heap.UpToSlots h') :
 Fly X.s₀.heap H e cls h'/\Un (frs X.outer) [] X.H₀ H X.s₀.heap h'/\HOk X.prog X.w H h':=by
 obtain⟨stay,ne',ff,oe,vs,T',oT,ts,he,hc,hd,h1,nT',hTe,hT,hdT,h3⟩:=fl
 have out:∀b o,s.heap.get? b=some o->b≠e->b≠T->b∉frs X.stack->h'.get? b=some o:=λb o q n1 n2 n3=>by
  refine stay b o ?_;rw[iZ (by simp[n1,n2,n3])];exact q
 have ins:∀b o,s.heap.get? b=some o->b∈frs X.stack->∃sl,h'.get? b=some {o with slots:=sl}:=λb o q hb=>by
  obtain⟨_,o',ho',nf⟩:=I.stack.mem hb;rw[q]at ho';cases ho';exact sm b o q nf
 have gone:∀b,s.heap.get? b=none->X.s₀.heap.get? b=none:=λb q=>by
  cases z:X.s₀.heap.get? b with
  |none=>rfl
  |some o =>
   obtain⟨o',q'⟩:=I.base.there b o z (by rw[hex];simp);rw[q]at q';cases q'
 have hL0:X.s₀.heap.get? X.env.locals=none:=kZ I.ok.above
 have hstk:∀b,b∈frs X.stack->b=X.env.locals\/b∈frs X.outer:=λb hb=>by
  rw[hst]at hb;unfold frs at hb;rw[bt,hfr]at hb;exact aA.mp hb
 have hsub:∀b,b∈frs X.outer->b∈frs X.stack:=λb hb=>by
  rw[hst];unfold frs;rw[bt,hfr];exact ao _ hb
 have nT2:X.s₀.heap.get? T'=none/\H T'=none:=by
  by_cases hm:T'∈e::T::frs X.stack
  .rcases aA.mp hm with q|hm
   .exact absurd q hTe
   .rcases aA.mp hm with q|hm
    .rw[q];exact⟨nT,fT⟩
    .obtain⟨_,o',ho',nf⟩:=I.stack.mem hm;obtain⟨sl,z⟩:=ins T' o' ho' hm;rw[hT]at z;cases z;exact absurd hdT (nf ts)
  .rw[iZ hm]at nT';exact⟨gone _ nT',I.hok.gone nT'⟩
 refine⟨⟨ne,fe,oe,vs,a0,T',oT,ts,.none,he,hc,hd,h1,nT2,hTe,hT,hdT,h3⟩,⟨λb o q n hb _=>?_,λb o q n hb _=>?_,λb o q n _=>?_,λb o q _=>?_,I.base.tups,I.base.frzs,I.base.tbls⟩,λb o q=>?_⟩
 .refine out b o (I.base.keep b o q n hb (by rw[hex];simp)) ?_ ?_ λz=>?_
  .rintro rfl;rw[ne]at q;cases q
  .rintro rfl;rw[nT]at q;cases q
  .rcases hstk b z with z|z
   .rw[z,hL0]at q;cases q
   .exact hb z
 .obtain⟨sl,z⟩:=I.base.slot b o q n hb (by rw[hex];simp);obtain⟨sl2,z2⟩:=ins b _ z (hsub b hb);exact⟨sl2,z2⟩
 .exact I.base.free b o q n (by rw[hex];simp)
 .obtain⟨o',z⟩:=I.base.there b o q (by rw[hex];simp);by_cases hb:b∈frs X.stack
  .obtain⟨sl,z'⟩:=ins b o' z hb;exact⟨_,z'⟩
  .refine⟨o',out b o' z ?_ ?_ hb⟩
   .rintro rfl;rw[ne]at q;cases q
   .rintro rfl;rw[nT]at q;cases q
 .refine(I.hok b o q).stay (λc u hc z=>out c u z ?_ ?_ ?_) (λ_ z=>z) λ_ _ z=>z
  all_goals have hH:∃v,H c=some v:=hc.elim (λz=>⟨o,by rw[z];exact q⟩) λz=>⟨_,z⟩
  .rintro rfl;obtain⟨v,z2⟩:=hH;rw[fe]at z2;cases z2
  .rintro rfl;obtain⟨v,z2⟩:=hH;rw[fT]at z2;cases z2
  .intro z3;obtain⟨v,z2⟩:=hH;rw[I.stkFree c z3]at z2;cases z2
section
variable{P:aP}{w:bA}{K:PySem.W.Frag}{mg:Str->Option ai}{base:bV}{N:List Str}{qual:Str}{scope:dO}{f:av}{cd:ai}{A:bB}{outer:List Env}{s₀:au}{H₀:Hp}{E:XK}{pins:List (av×Obj)}{σ:St}{H:Hp}{s:au}
def Iu:nK (ka (CXE P w) P w K mg base N qual scope f cd A outer s₀ H₀ E) (λ_=>E):=λpins σ H s e cls I fly q=>by
 obtain⟨oe,vs,a0,T,oT,ts,fl,he,hc,hd,h1,⟨fe,fT⟩,hTe,hT,hdT,h3,nw⟩:=fly;show wpAny (model P w) _ (leaving _ (.ref e)) _ _ _;unfold leaving
 refine aI (mS (base:=less s.heap (e::T::frs (ka (CXE P w) P w K mg base N qual scope f cd A outer s₀ H₀ E).stack)) I.ok.frames rfl jw (fS ay) (me I.stack λb hb=>fS (ao _ (ao _ hb)))
  ⟨oe,vs,T,oT,ts,he,hc,hd,h1,fS (ao _ ay),hTe,hT,hdT,h3⟩ λh4 held sm4=>?_)
 refine wpAny_landsW held λh'⟨k1,k2,⟨_,_,k3⟩,k4⟩sm5=>?_;obtain⟨z1,z2,z3⟩:=yF I rfl rfl rfl (nw e ↥0).1 (nw T ↥0).1 fe fT ⟨k1,k2,k3,k4⟩ (sm4.trans sm5);exact⟨e,cls,H,rfl,z1,z2,z3,I.os,I.bare,q⟩
def Nh{e:av}{cls:ai}{vs:List ai}{h':bV}(I:Inv (ka (CXE P w) P w K mg base N qual scope f cd A outer s₀ H₀ E) pins σ H s)(hx:Heap.MadeExcOf s.heap h' e cls vs)(q:E cls none H) :
 (ka (CXE P w) P w K mg base N qual scope f cd A outer s₀ H₀ E).xe (.ref e) {s with heap:=h'}:=by
 have gone:∀b,s.heap.get? b=none->s₀.heap.get? b=none:=λb q=>by
  cases z:s₀.heap.get? b with
  |none=>rfl
  |some o =>
   obtain⟨o',q'⟩:=I.base.there b o z (show b∉([]:List av) by simp);rw[q]at q';cases q'
 show wpAny (model P w) _ (leaving _ (.ref e)) _ _ _;refine wpAny_leaves_madeW (base:=less s.heap (e::e::frs (ka (CXE P w) P w K mg base N qual scope f cd A outer s₀ H₀ E).stack)) (h:=s.heap) I.ok.frames rfl jw (me I.stack λb hb=>fS (ao _ (ao _ hb))) hx λh'' t fl _ _ sm=>?_;obtain⟨z1,z2,z3⟩:=yF I rfl rfl rfl (gone e hx.new) (gone e hx.new) (I.hok.gone hx.new) (I.hok.gone hx.new) fl ((Heap.UpToSlots.of_keeps hx.keeps).trans sm);exact⟨e,cls,H,rfl,z1,z2,z3,I.os,I.bare,q⟩
end
def vI(X:Cx)(E:St->XK):Prop:=∀(pins:List (av×Obj))(σ:St)(H:Hp)(s:au)(e:ai)(s':au),Inv X pins σ H s->CXE X.prog X.w X.stack H s (E σ) e s'->X.xe e s'
def uU{X:Cx}{E:St->XK}(hex:X.ex=[])(R:nK X E):vI X E:=λpins σ H s e s' I h=>by
 obtain⟨a,cls,H',rfl,fly,un,hok,os,bare,q⟩:=h;obtain⟨hh,g,d,t,os'⟩:=s';obtain rfl:os'=s.os:=os;have I2:=I.call (h':=hh) (g':=g) (d':=d) (t':=t) (ch:=[]) un hok bare (λb z=>absurd z ↥0);obtain⟨oe,vs,a0,T,oT,ts,fl,he,hc,hd,h1,⟨nT,fT⟩,hTe,hT,hdT,h3⟩:=fly.tr;refine R pins σ H' _ a cls I2 ⟨oe,vs,a0,T,oT,ts,fl,he,hc,hd,h1,⟨fly.fre,fT⟩,hTe,hT,hdT,h3,λb hb=>qT I hex ?_⟩ q;rcases aA.mp hb with z|z
 .rw[z];exact fly.new
 .rw[bX.mp z];exact nT
structure Rz(X:Cx)(E:St->XK):Prop where
 pass:nK X E
 made:∀(pins:List (av×Obj))(σ:St)(H:Hp)(s:au)(e:av)(cls:ai)(vs:List ai)(h':bV),Inv X pins σ H s->Heap.MadeExcOf s.heap h' e cls vs->E σ cls none H->X.xe (.ref e) {s with heap:=h'}
def ME{P:aP}{w:bA}{K:PySem.W.Frag}{mg:Str->Option ai}{base:bV}{N:List Str}{qual:Str}{scope:dO}{f:av}{cd:ai}{A:bB}{outer:List Env}{s₀:au}{H₀:Hp}{E:XK} :
 Rz (ka (CXE P w) P w K mg base N qual scope f cd A outer s₀ H₀ E) (λ_=>E):=⟨Iu,λ_ _ _ _ _ _ _ _ I hx q=>Nh I hx q⟩
def Ip:Rz X (λ_=>E0):=⟨λ_ _ _ _ _ _ _ _ q=>q.elim,λ_ _ _ _ _ _ _ _ _ _ q=>q.elim⟩
def veB:List ai:=[.type "ValueError",.type "Exception",.type "BaseException",.type "object"]
def VE(K:PySem.W.Frag)(C:av):Bool:=PySem.W.excIn K C veB "ValueError.__new__"
def oQ{K:PySem.W.Frag}{h:bV}{C:av}(X:K.In h)(q:VE K C=true):∃bm N nm qn bs hdct sn sub ab col dd k0 k1 k2 k3 k5 mN,h.get? C=some (excClassObj nm qn C N bs bm hdct sn sub ab col dd k0 k1 k2 k3 k5 "ValueError.__new__")/\h.Ns N mN/\mN "__init__"=none/\vO h veB bm:=by
 unfold VE PySem.W.excIn at q;split at q
 .rename_i dd cd sl ho;split at q
  .rename_i C' bm k0 k1 k2 k3 n k5 hm hs;simp only[aa,beq_iff_eq,dc]at q;obtain⟨⟨⟨⟨⟨rfl,rfl⟩,hdel⟩,ht⟩,hok⟩,hni⟩:=q;obtain⟨nm,bs,mro,ns,qn,hd,sn,sub,ab,col,del⟩:=cd;dsimp only at hm hdel hok hni;subst hm hdel
   have hsl:sl=#[k0,k1,k2,k3,some (.builtin "ValueError.__new__"),k5]:=by
    obtain⟨l⟩:=sl;simp only at hs;rw[hs]
   subst hsl;exact⟨bm,ns,nm,qn,bs,hd,sn,sub,ab,col,dd,k0,k1,k2,k3,k5,_,X _ _ ho,.of_isNs (PySem.W.isNs_of_in X hok),PySem.W.nsMap_none_of_in X hok hni,PySem.W.tail_of_in X ht⟩
  .cases q
 .cases q
def CA{X:Cx}{E:St->XK}{x t:Str}{C:av}{np cp j2 pos:Pos}{j:Nat}(R:Rz X E)(hc:X.calm=true)(hg:Gl X x)(hm:X.mg x=some (.ref C))(hC:VE X.K C=true)(hd:(x==("__debug__":Str))=false) :
 PS X (.Raise (some (.Call (.Name x np) [.Constant (.str t) j j2] [] cp)) none pos) (λ_ σ H=>E σ (.ref C) none H):=by
 intro pins s σ H D I h;obtain⟨tl,N,nm,q,bs,hdct,sn,sub,ab,col,dd,k0,k1,k2,k3,k5,mN,hC,hN,hni,T⟩:=oQ I.mod.kin hC
 refine wpAny_Raise_call_subT (C:=C) (nm:=nm) (q:=q) (N:=N) (bs:=bs) (bm:=tl) (hdct:=hdct) (sn:=sn) (sub:=sub) (ab:=ab) (col:=col) (dd:=dd) (k0:=k0) (k1:=k1) (k2:=k2) (k3:=k3) (k5:=k5)
  PySem.F.excBase_ValueError (mN:=mN) (T.hasType PySem.F.excBase_ValueError.hasBase) (I.ok.hd hc) rfl hni (kA I hg hm ⟨rfl,?_⟩ hd)
 have ha:PA X [.Constant (.str t) j j2] (nB (tC (.str t)) Bx):=dQ wA iM;refine kL (thn (ha cp pins s σ H (λvs H1=>vs.length=1/\H1=H) I ⟨rfl,rfl⟩) λus s2⟨vs,H2,I2,r,hl,hH⟩=>?_);refine⟨rfl,?_,I2.bk _ _ hC,hN.keeps I2.bk,T.keeps I2.bk,λh' e hx=>R.made pins σ H2 s2 e _ _ h' I2 hx (by rw[hH];exact h)⟩;show us.length<=sizeLine;rw[<- r.length,hl];decide
section
variable{X:Cx}
def PA.nox{es:List aE}{t:TA}(h:PA X.nox es t):PA X es t:=λpos pins s σ H Q I hw =>
 cu (h pos pins s σ H Q (I.wish _) hw) (λ_ _⟨v,H',I',r,q⟩=>⟨v,H',I'.unwish,r,q⟩) λ_ _ z=>bu z
def PS.nox{st:bE}{t:TS}(h:PS X.nox st t):PS X st t:=λpins s σ H D I hw =>
 cu (h pins s σ H D (I.wish _) hw) (λ_ _ q=>q.unwish) λ_ _ z=>bu z
def uS{E:St->XK}(R:vI X E)(F:gB X.prog X.w X.K X.mg X.base (CXE X.prog X.w) k f fd ps sp)(hr:jL k X.A)(hg:Gl X x)(hm:X.mg x=some (.ref f))(hk:PySem.W.keepIn X.K (.ref f)=true)(hb:Binds X.K fd ps [])
 (ha:PA X (e::es) t)(hdb:(x==("__debug__":Str))=false)(he:starEach (e::es) X.env=(false,eval e X.env)::starEach es X.env)(hpl:(backTo pos (starEach es X.env)).any (·.1)=false) :
 PE X (.Call (.Name x p) (e::es) [] pos) (λσ H Q=>t σ H λvs H1=>sp vs H1 Q (E σ)):=by
 intro pins s σ H Q I h;refine jD (kA I hg hm ?_ hdb);refine PySem.W.callWith_K (h₀:=X.base) I.ok.mod.kin hk (thn (ha pos pins s σ H _ I h) λus s1⟨vs,H1,I1,r,q⟩=>⟨I1.kIn,?_⟩) he hpl;have hl:us.length=ps.length:=by rw[<- r.length];exact F.len _ _ _ _ q
 have hb2:=hb s1 us I1.kIn (by rw[bq];exact hl);rw[bq]at hb2;refine wpAny_call (qt (F.run X.A X.stack s1 H1 ⟨us,[]⟩ us vs Q (E σ) hr I1.env0 hb2 r q) λr s' hq=>?_)
 cases r with
 |error e=>exact R pins σ H1 s1 e s' I1 hq
 |ok fl =>
  cases fl with
  |ret u=>exact I1.after hq
  |next=>exact bu hq
  |brk=>exact bu hq
  |cont=>exact bu hq
end
section
variable{M:Model}{A:bB}{E:ai->au->Prop}
variable{nm q nm' q':Str}{C N C' N':av}{bs bm bs' bm':List ai}{hdct hdct':Bool}{sn sn':List Str}{sub sub':List ai}{ab ab':Bool}{col col':Option Bool}{dd dd':Option av}{k0 k1 k2 k3 k5 l0 l1 l2 l3 l5:Option ai}{newId newId':String}
def zS{h:bV}{g:Array xK}{d:Drawn}{t:Nat}{os:OsState}{e:av}{oe:Obj}{Q:Bool->au->Prop}
 (hC:h.get? C=some (excClassObj nm q C N bs bm hdct sn sub ab col dd k0 k1 k2 k3 k5 newId))(hP:h.get? C'=some (excClassObj nm' q' C' N' bs' bm' hdct' sn' sub' ab' col' dd' l0 l1 l2 l3 l5 newId'))
 (he:h.get? e=some oe)(hcls:oe.cls=.ref C)(hbase:bm'.contains (.type "BaseException")=true)
 (hq:Q ((cj C::bm).contains (.ref C')) ⟨h,g,d,t,os⟩):wpAny M A (excMatches (.ref e) (.ref C')) Q E ⟨h,g,d,t,os⟩:=by
 have hcB:(cj C'::bm').contains (.type "BaseException")=true:=by rw[iJ,hbase,nR]
 have f:=tc_notTuple;unfold excMatches
 repeat (first|(with_reducible refine dN he ?_;rw[hcls])|with_reducible refine dN hP ?_|(with_reducible refine iR hP ?_;rw[hcB])|(with_reducible refine iR hC ?_)|wp_step)
 cases hb:(cj C::bm).contains (.ref C')<;>(rw[hb]at hq;wp_walk;exact hq)
end
section
variable{X:Cx}{pins:List (av×Obj)}{σ:St}{H:Hp}{s:au}{h':bV}
def Inv.over{l:List av}{t':Nat}(I:Inv X pins σ H s)(hex:X.ex=[])(hl:∀b∈l,X.s₀.heap.get? b=none/\b≠X.env.locals/\(∀x c,X.env.cells.lookup x=some c->c≠b)/\∀p∈X.pn++pins,p.1≠b)
 (keep:∀b o,b∉frs X.stack->b∉l->s.heap.get? b=some o->h'.get? b=some o)(slot:∀b o,b∈frs X.stack->s.heap.get? b=some o->∃sl,h'.get? b=some {o with slots:=sl})(hok:HOk X.prog X.w H h') :
 Inv X pins σ H {s with heap:=h',toks:=t'}:=by
 have any:∀b o,b∉l->s.heap.get? b=some o->∃sl,h'.get? b=some {o with slots:=sl}:=λb o n e=>by
  by_cases hb:b∈frs X.stack
  .exact slot b o hb e
  .exact⟨o.slots,keep b o hb n e⟩
 have nl:∀b o,X.s₀.heap.get? b=some o->b∉l:=λb o e z=>by rw[(hl b z).1]at e;cases e
 have nL:∀b o,X.s₀.heap.get? b=some o->b≠X.env.locals:=λb o e=>aS (aK (aJ e) I.ok.above);have ni:∀b,b∉X.ex:=λb=>by rw[hex];simp
 have nst:∀b,b≠X.env.locals->b∉X.fs->b∉frs X.stack:=λb h1 h2 z=>(aA.mp (I.stkSub b z)).elim h1 h2;have nlc:X.env.locals∉l:=λz=>(hl _ z).2.1 rfl
 have cellK:∀x c,X.env.cells.lookup x=some c->∀v,s.heap.IsCell c v->h'.IsCell c v:=λx c e v zz=>by
  obtain⟨o,ho,hd⟩:=zz;obtain⟨sl,q⟩:=any c o (λz=>(hl c z).2.2.1 x c e rfl) ho;exact⟨_,q,hd⟩
 refine⟨I.ok,I.os,I.bare,⟨λb o e n hb hx=>?_,λb o e n hb hx=>?_,λb o e n hx=>I.base.free b o e n hx,λb o e hx=>?_,I.base.tups,I.base.frzs,I.base.tbls⟩,?_,λx c e=>?_,I.free,I.freeC,λp hp=>?_,hok,I.len⟩
 .exact keep b o (nst b (nL b o e) hb) (nl b o e) (I.base.keep b o e n hb hx)
 .obtain⟨sl,q⟩:=I.base.slot b o e n hb hx;obtain⟨sl2,q2⟩:=any b _ (nl b o e) q;exact⟨sl2,q2⟩
 .obtain⟨o',q⟩:=I.base.there b o e hx;obtain⟨sl2,q2⟩:=any b _ (nl b o e) q;exact⟨_,q2⟩
 .obtain⟨m,⟨o,es,ep,ho,r⟩,hv⟩:=I.loc;obtain⟨sl,q⟩:=any _ o nlc ho;refine⟨m,⟨_,es,ep,q,r⟩,λi x v e1 e2 e3=>?_⟩;obtain⟨u,rv,lk⟩:=hv i x v e1 e2 e3;refine⟨u,rv,?_⟩;rcases lk with lk|⟨k,c,e,z⟩
  .exact .inl lk
  .exact .inr ⟨k,c,e,cellK x c e _ z⟩
 .obtain⟨v,z⟩:=I.cell x c e;exact⟨v,cellK x c e v z⟩
 .obtain⟨e,n,ne,nf,d⟩:=I.pin p hp;exact⟨keep p.1 p.2 (nst p.1 ne nf) (λz=>(hl p.1 z).2.2.2 p hp rfl) e,n,ne,nf,d⟩
def Inv.fly{e T:av}{t':Nat}(I:Inv X pins σ H s)(hex:X.ex=[])(fe:H e=none)(fT:H T=none)
 (hl:∀b∈[e,T],X.s₀.heap.get? b=none/\b≠X.env.locals/\(∀x c,X.env.cells.lookup x=some c->c≠b)/\∀p∈X.pn++pins,p.1≠b)
 (stay:(less s.heap (e::T::frs X.stack)).StaysIn h')(sm:s.heap.UpToSlots h'):Inv X pins σ H {s with heap:=h',toks:=t'}:=by
 have keep:∀b o,b∉frs X.stack->b∉[e,T]->s.heap.get? b=some o->h'.get? b=some o:=λb o n1 n2 q=>by
  refine stay b o ?_;rw[iZ]
  .exact q
  .intro z;rcases aA.mp z with z|z
   .exact n2 (by rw[z];simp)
   .rcases aA.mp z with z|z
    .exact n2 (by rw[z];simp)
    .exact n1 z
 refine I.over hex hl keep (λb o hb q=>?_) λb o q=>?_
 .obtain⟨_,o',ho',nf⟩:=I.stack.mem hb;rw[q]at ho';cases ho';exact sm b o q nf
 .refine(I.hok b o q).stay (λc u hc z=>keep c u ?_ ?_ z) (λ_ z=>z) λ_ _ z=>z
  all_goals have hH:∃v,H c=some v:=hc.elim (λz=>⟨o,by rw[z];exact q⟩) λz=>⟨_,z⟩
  .intro z3;obtain⟨v,z2⟩:=hH;rw[I.stkFree c z3]at z2;cases z2
  .intro z3;obtain⟨v,z2⟩:=hH;rcases aA.mp z3 with z3|z3
   .rw[z3,fe]at z2;cases z2
   .rw[bX.mp z3,fT]at z2;cases z2
end
def subIn(K:PySem.W.Frag)(C P:av):Bool:=match K.lookup C with
 |some ⟨_,_,.cls cd,_⟩=>cd.mro.contains (.ref P)
 |_=>false
def Jz{K:PySem.W.Frag}{h:bV}{C P N:av}{nm q:Str}{bs bm:List ai}{hdct:Bool}{sn:List Str}{sub:List ai}{ab:Bool}{col:Option Bool}{dd:Option av}{k0 k1 k2 k3 k5:Option ai}{newId:String}{b:Bool}(X:K.In h)(e:subIn K C P=b)(hv:VE K C=true)
 (hC:h.get? C=some (excClassObj nm q C N bs bm hdct sn sub ab col dd k0 k1 k2 k3 k5 newId)):(cj C::bm).contains (.ref P)=b:=by
 unfold subIn at e;split at e
 .rename_i ho;have z:=X _ _ ho;rw[hC]at z;cases z;exact e
 .rename_i hn;unfold VE PySem.W.excIn at hv;split at hv
  .rename_i ho;exact absurd ho (hn _ _ _ _)
  .cases hv
abbrev Cx.mrk(X:Cx)(e:av):Cx:={X with A:=X.A.mark (some (.ref e)),calm:=false,xe:=λ_ _=>False}
def Cx.Ok.mrk{X:Cx}(ok:X.Ok)(e:av):(X.mrk e).Ok :=
 ⟨ok.mod,ok.kind,ok.glob,ok.blt,ok.above,ok.inj,ok.has,ok.cab,(λz=>nomatch z),ok.frames,ok.stk,ok.exf,ok.bs,ok.bsz,ok.noex,ok.exfs,ok.funs,ok.frf⟩
def Inv.mrk{X:Cx}{pins:List (av×Obj)}{σ:St}{H:Hp}{s:au}(I:Inv X pins σ H s)(e:av):Inv (X.mrk e) pins σ H s:=⟨I.ok.mrk e,I.os,I.bare,I.base,I.loc,I.cell,I.free,I.freeC,I.pin,I.hok,I.len⟩
def Inv.unmrk(ok:X.Ok)(I:Inv (X.mrk e) pins σ H s):Inv X pins σ H s:=⟨ok,I.os,I.bare,I.base,I.loc,I.cell,I.free,I.freeC,I.pin,I.hok,I.len⟩
section
variable{X:Cx}{pins:List (av×Obj)}{σ:St}{H:Hp}{s:au}{a:av}{cls:ai}{x n:Str}{P:av}{np hp:Pos}{b₀:bE}{suite:List bE}{rest:List km}{Q:Flow->au->Prop}{EX:ai->au->Prop}
def LK(I:Inv X pins σ H s)(fly:LY X pins H a cls s.heap)(hex:X.ex=[])(hst:X.stack=X.env::X.outer)(hfr:X.env.frame=some X.env.locals)(hg:Gl X x)(hm:X.mg x=some (.ref P))(hP:VE X.K P=true)(hd:(x==("__debug__":Str))=false)
 (k:∃C,cls=.ref C/\VE X.K C=true/\subIn X.K C P=true/\∀(s2:au)(oe:Obj)(vs:Array ai),(Inv X ((a,oe)::pins) σ H s2->oe.cls=.ref C->oe.data=.fields vs ->
   wpAny (model X.prog X.w) (X.A.mark (some (.ref a))) (storeName X.env n (.ref a)) (λ_ s₃=>wpAny (model X.prog X.w) (X.A.mark (some (.ref a))) (execs (b₀::suite) X.env)
    (λf s₄=>wpAny (model X.prog X.w) X.A (do bindName X.env n .none;unbindBehindTheSuite X.env n hp) (λ_ s₅=>Q f s₅) (λ_ _=>False) s₄) (λ_ _=>False) s₃) (λ_ _=>False) s2)) :
 wpAny (model X.prog X.w) X.A (noteFrame (.ref a) X.env) (λ_ s₂=>wpAny (model X.prog X.w) X.A (setFlight (.ref a) none) (λ_ s₃ =>
  wpAny (model X.prog X.w) X.A (handleBy (.ref a) X.env (.ExceptHandler (some (.Name x np)) (some n) (b₀::suite) hp::rest)) Q EX s₃) EX s₂) EX s:=by
 obtain⟨oe,vs,a0,T,oT,ts,fl,he,hc,hdt,h1,⟨fe,fT⟩,hTe,hT,hdT,h3,hl⟩:=fly;refine mS (base:=less s.heap (a::T::frs X.stack)) (outer:=X.outer) (by rw[<- hst];exact I.ok.frames) hfr jw (fS ay) (by rw[<- hst];exact me I.stack λb hb=>fS (ao _ (ao _ hb))) ⟨oe,vs,T,oT,ts,he,hc,hdt,h1,fS (ao _ ay),hTe,hT,hdT,h3⟩ λh4 held4 sm4=>?_;refine wpAny_landsW held4 λh5 fl5 sm5=>?_;have I5:=I.fly (t':=s.toks) hex fe fT hl fl5.1 (sm4.trans sm5);refine wpAny_handleBy_cons (codeAny_handlers_test (kA (X:=X.mrk a) (I5.mrk a) hg hm ?_ hd)) (by intro q;cases q);obtain⟨C,rfl,vC,sC,k⟩:=k;obtain⟨tl,N,nm,qn,bs,hdct,sn,sub,ab,col,dd,k0,k1,k2,k3,k5,mN,hC,hN,hni,TL⟩:=oQ I5.kIn vC;obtain⟨tl',N',nm',qn',bs',hdct',sn',sub',ab',col',dd',l0,l1,l2,l3,l5,mN',hC',hN',hni',TL'⟩:=oQ I5.kIn hP;obtain⟨ob,hob,hobc⟩:=fl5.there;refine zS hC hC' hob hobc (TL'.hasType rfl) ?_;rw[Jz I5.kIn sC vC hC];refine codeAny_handlers_suite_as ?_;refine lands_againW fl5 λh6 fl6 sm6=>?_;have I6:=I.fly (t':=s.toks) hex fe fT hl fl6.1 ((sm4.trans sm5).trans sm6);obtain⟨oe6,vs6,he6,hc6,hd6,_⟩:=fl6.first;have ha:=hl a ay
 have nfs:a∉X.fs:=λz=>by
  obtain⟨_,o,ho,nf⟩:=I6.funs.mem z;rw[he6]at ho;cases ho;exact nf _ hd6
 have I7:Inv X ((a,oe6)::pins) σ H {s with heap:=h6,toks:=s.toks}:=⟨I6.ok,I6.os,I6.bare,I6.base,I6.loc,I6.cell,I6.free,I6.freeC,λp hp=>by
  rcases cc.mp hp with z|z
  .exact I6.pin p (bY _ z)
  .rcases aA.mp z with z|z
   .rw[z];exact⟨he6,fe,ha.2.1,nfs,λv z=>by rw[hd6]at z;cases z⟩
   .exact I6.pin p (aO _ z),I6.hok,I6.len⟩
 refine cu (k _ oe6 vs6 I7 hc6 hd6) (λ_ s₃ h₃=>cu h₃ (λf s₄ h₄=>?_) λ_ _ z=>bu z) λ_ _ z=>bu z;exact cu h₄ (λ_ _ z=>z) λ_ _ z=>bu z
end
section
variable{X:Cx}{pins:List (av×Obj)}{σ:St}{H:Hp}{s:au}
def zR{E:ai->au->Prop}(I:Inv X pins σ H s)(hN:X.N.Nodup)(hi:X.N[i]?=some x)(hx:X.env.kindOf x=some .local)
 (h:∀s',Inv X pins (σ.set i none) H s'->Q () s'):wpAny M A (do bindName X.env x .none;unbindBehindTheSuite X.env x pos) Q E s:=by
 obtain⟨m,hn,hl⟩:=id I.loc;refine wpAny_nameGoes_keeps hx hn (by rw[I.ok.kind];rfl) λh' v hn' hs=>h _ ?_;have keep:∀b o,b≠X.env.locals->s.heap.get? b=some o->h'.get? b=some o:=λb o hb e=>(hs.2 b hb).trans e;have nL:∀b o,X.s₀.heap.get? b=some o->b≠X.env.locals:=λb o e=>aS (aK (aJ e) I.ok.above);refine⟨I.ok,I.os,I.bare,⟨λb o e n hb hx=>?_,λb o e n hb hx=>?_,λb o e n hx=>I.base.free b o e n hx,λb o e hx=>?_,I.base.tups,I.base.frzs,I.base.tbls⟩,?_,λy c e=>?_,I.free,I.freeC,λp hp=>?_,λb o e=>?_,by rw[aZ];exact I.len⟩
 .exact keep b o (nL b o e) (I.base.keep b o e n hb hx)
 .obtain⟨sl,q⟩:=I.base.slot b o e n hb hx;exact⟨sl,keep b _ (nL b o e) q⟩
 .obtain⟨o',q⟩:=I.base.there b o e hx;exact⟨o',keep b _ (nL b o e) q⟩
 .refine⟨_,hn',λj y w e1 e2 e3=>?_⟩
  have hj:j≠i:=by
   rintro rfl;rw[jf]at e2;simp only[↓reduceIte]at e2;split at e2<;>cases e2
  have e2':σ[j]?=some (some w):=by
   rw[aM (Ne.symm hj)]at e2;exact e2
  have ny:y≠x:=by
   rintro rfl;exact hj ((List.getElem?_inj (aF.mp e1).1 hN).mp (e1.trans hi.symm))
  obtain⟨u,r,lk⟩:=hl j y w e1 e2' e3;refine⟨u,r,?_⟩;rcases lk with⟨k,z⟩|⟨k,c,e,⟨o,ho,hd⟩⟩
  .refine .inl ⟨k,?_⟩;show(if y=x then v else m y)=some u;rw[if_neg ny];exact z
  .exact .inr ⟨k,c,e,o,keep c o (I.cne y c e) ho,hd⟩
 .obtain⟨v,o,ho,hd⟩:=I.cell y c e;exact⟨v,o,keep c o (I.cne y c e) ho,hd⟩
 .obtain⟨e,n,ne,nf,d⟩:=I.pin p hp;exact⟨keep _ _ ne e,n,ne,nf,d⟩
 .refine(I.hok b o e).stay (λc u hc z=>keep c u ?_ z) (λ_ z=>z) λ_ _ z=>z;rintro rfl;rcases hc with z2|z2
  .rw[<- z2,I.free]at e;cases e
  .rw[I.free]at z2;cases z2
end
def Inv.unpin(I:Inv X (q::pins) σ H s):Inv X pins σ H s :=
 ⟨I.ok,I.os,I.bare,I.base,I.loc,I.cell,I.free,I.freeC,λp hp=>I.pin p ((cc.mp hp).elim (bY _) λz=>aO _ (ao _ z)),I.hok,I.len⟩
abbrev Cx.tried(X:Cx)(pn:List (av×Obj))(xe:ai->au->Prop):Cx:={X with pn:=pn,xe:=xe}
def Cx.Ok.tried{X:Cx}(ok:X.Ok)(pn:List (av×Obj))(xe:ai->au->Prop):(X.tried pn xe).Ok :=
 ⟨ok.mod,ok.kind,ok.glob,ok.blt,ok.above,ok.inj,ok.has,ok.cab,ok.hd,ok.frames,ok.stk,ok.exf,ok.bs,ok.bsz,ok.noex,ok.exfs,ok.funs,ok.frf⟩
section
variable{X:Cx}{pins pins':List (av×Obj)}{σ:St}{H:Hp}{s:au}{xe:ai->au->Prop}
def Inv.tried(I:Inv X pins σ H s):Inv (X.tried (X.pn++pins) xe) [] σ H s:=⟨I.ok.tried _ _,I.os,I.bare,I.base,I.loc,I.cell,I.free,I.freeC,λp hp=>I.pin p (by simpa using hp),I.hok,I.len⟩
def Inv.untried(ok:X.Ok)(I:Inv (X.tried (X.pn++pins) xe) pins' σ H s):Inv X pins σ H s:=⟨ok,I.os,I.bare,I.base,I.loc,I.cell,I.free,I.freeC,λp hp=>I.pin p (bY _ hp),I.hok,I.len⟩
def SP.untried{D:Ends}(ok:X.Ok)(h:SP (X.tried (X.pn++pins) xe) pins' D f s'):SP X pins D f s':=by
 cases f with
 |next=>obtain⟨σ',H',I,q⟩:=h;exact⟨σ',H',I.untried ok,q⟩
 |brk=>obtain⟨σ',H',I,q⟩:=h;exact⟨σ',H',I.untried ok,q⟩
 |cont=>obtain⟨σ',H',I,q⟩:=h;exact⟨σ',H',I.untried ok,q⟩
 |ret u=>obtain⟨v,σ',H',I,r,q⟩:=h;exact⟨v,σ',H',I.untried ok,r,q⟩
end
def qns:List Str:=["__getattribute__","__getattr__","__class__"]
def Gi(K:PySem.W.Frag):List ai->Bool
 |[]=>false
 |v::r=>(v::r)==veB||match v with
  |.ref A=>(match K.lookup A with
   |some ⟨_,_,.cls cd,_⟩=>PySem.W.nsOkIn K cd.ns&&qns.all (λn=>PySem.W.nsIn K cd.ns n==some none)&&Gi K r
   |_=>false)
  |_=>false
def pq(K:PySem.W.Frag)(C:av):Bool:=match K.lookup C with
 |some ⟨_,_,.cls cd,_⟩=>Gi K cd.mro
 |_=>false
section
variable{M:Model}{A:bB}{E:ai->au->Prop}{h:bV}{g:Array xK}{d:Drawn}{t:Nat}{os:OsState}{K:PySem.W.Frag}
def Dt(X:K.In h)(hn:n∈qns)(hrest:lookupAlong veB n=pure y)(hq:Q y ⟨h,g,d,t,os⟩):∀{l:List ai},Gi K l=true->wpAny M A (lookupAlong l n) Q E ⟨h,g,d,t,os⟩
 |[],e=>by cases e
 |v::r,e=>by
  unfold Gi at e;rcases fG.mp e with q|q
  .rw[beq_iff_eq.mp q,hrest];exact bf hq
  .split at q
   .split at q
    .rename_i ho;simp only[aa]at q;rw[lookupAlong_cons];refine aI (wpAny_classOwn_cls (X _ _ ho) (.of_isNs (PySem.W.isNs_of_in X q.1.1)) ?_);rw[PySem.W.nsMap_none_of_in X q.1.1 (beq_iff_eq.mp (bK.mp q.1.2 n hn))];exact Dt X hn hrest hq q.2
    .cases q
   .cases q
variable{nm q:Str}{C N:av}{bs bm:List ai}{hdct:Bool}{sn:List Str}{sub:List ai}{ab:Bool}{col:Option Bool}{dd:Option av}{k0 k1 k2 k3 k5:Option ai}{newId:String}
def vV(X:K.In h)(hn:n∈qns)(hC:h.get? C=some (excClassObj nm q C N bs bm hdct sn sub ab col dd k0 k1 k2 k3 k5 newId))(hv:pq K C=true)
 (hB:typeLookup (.type "ValueError") n=pure y)(hq:Q y ⟨h,g,d,t,os⟩):wpAny M A (typeLookup (.ref C) n) Q E ⟨h,g,d,t,os⟩:=by
 have hrest:lookupAlong veB n=pure y:=by rw[typeLookup_eq,PySem.F.attrBase_ValueError.mro]at hB;exact hB
 rw[typeLookup_eq];refine aI (wpAny_mroOf_exc hC ?_);refine Dt X hn hrest hq ?_;unfold pq at hv;split at hv
 .rename_i ho;have z:=X _ _ ho;rw[hC]at z;cases z;exact hv
 .cases hv
end
def vm:typeLookup (.type "ValueError") "__class__"=pure (some (.builtin "object.__class__")):=by rw[typeLookup_type,EM];kernel_rfl
section
variable{prog:aP}{w:bA}{A:bB}{E:ai->au->Prop}{h:bV}{g:Array xK}{d:Drawn}{t:Nat}{os:OsState}{a:av}{o:Obj}{K:PySem.W.Frag}
 {nm q:Str}{C N:av}{bs bm:List ai}{hdct:Bool}{sn:List Str}{sub:List ai}{ab:Bool}{col:Option Bool}{dd:Option av}{k0 k1 k2 k3 k5:Option ai}{newId:String}
def Ej{R:Ma->au->Prop}(hC:h.get? C=some (excClassObj nm q C N bs bm hdct sn sub ab col dd k0 k1 k2 k3 k5 newId))(T:vO h veB bm)(hx:h.get? a=some o)(hc:o.cls=.ref C)(hq:R (.ok (.ret (.ref C))) ⟨h,g,d,t,os⟩) :
 codeAny (model prog w) A (.call (.builtin "getset_descriptor.__get__") ⟨[.builtin "object.__class__",.ref a,.ref C],[]⟩) R ⟨h,g,d,t,os⟩:=by
 have hT5:(⟨h,g,d,t,os⟩:au).TypeIs (.builtin "object.__class__") "getset_descriptor":=F.typeOf_object_class
 have hcB:(cj C::bm).contains (.type (".".intercalate ("object.__class__".cutAt '.').dropLast))=true:=by
  rw[F.owner_object_class,iJ,T.hasType rfl];rfl
 refine HW F.slot_gs_get.plain F.entry_gs_get (F.slot_gs_get.check _ _ _ _ _ _ _ _ hT5 (F.args_gs_get _ _ _) ?_)
 repeat (any_goals (first|assumption|(with_reducible refine dN hx ?_;rw[hc])|(with_reducible refine iR hC ?_;rw[hcB])|wp_step))
 refine⟨Code.quiet_builtin _ ⇑0,codeAny_builtin F.entry_object_class ?_⟩
 repeat (any_goals (first|assumption|(with_reducible refine dN hx ?_;rw[hc])|wp_step))
def xy(hC:h.get? C=some (excClassObj nm q C N bs bm hdct sn sub ab col dd k0 k1 k2 k3 k5 newId))(T:vO h veB bm)
 (hx:h.get? a=some o)(hc:o.cls=.ref C)(hq:Q () ⟨h,g,d,t,os⟩):wpAny M A (checkBuiltinCall "BaseException.__getattribute__" ⟨[.ref a,nameV],[]⟩) Q E ⟨h,g,d,t,os⟩:=by
 have hk:builtinKind "BaseException.__getattribute__"=some .slot:=by decide
 have hsplit:splitId "BaseException.__getattribute__"=some ("BaseException","__getattribute__"):=by decide
 have hcB:(cj C::bm).contains (.type "BaseException")=true:=by rw[iJ,T.hasType rfl];rfl
 have ha:=F.args_bexc_ga (.ref a) nameV;simp only[checkBuiltinCall,hk,hsplit];refine aI ?_;unfold isInstance
 repeat (first|(with_reducible refine dN hx ?_;rw[hc])|(with_reducible refine iR hC ?_;rw[hcB])|wp_step)
 exact hq
def xx(X:K.In h)(hv:pq K C=true)(hC:h.get? C=some (excClassObj nm q C N bs bm hdct sn sub ab col dd k0 k1 k2 k3 k5 newId))(T:vO h veB bm)(hx:h.get? a=some o)(hc:o.cls=.ref C)(hq:Q (.done (.ret (.ref C))) ⟨h,g,d,t,os⟩) :
 wpAny (model prog w) A (Builtin.«object.__getattribute__» ⟨[.ref a,.str "__class__" tk],[]⟩) Q E ⟨h,g,d,t,os⟩:=by
 have hT5:(⟨h,g,d,t,os⟩:au).TypeIs (.builtin "object.__class__") "getset_descriptor":=F.typeOf_object_class;have f5:=F.typeOf_object_class;have f6:=F.slot_gs_get.lookup;have f7:=F.slot_gs_set.lookup;have hm:("__class__":Str)∈qns:=.tail _ (.tail _ (.head _))
 repeat (any_goals (first|assumption|(with_reducible refine dN hx ?_;rw[hc])|with_reducible refine vV X hm hC hv vm ?_|wp_step))
 refine Ej hC T hx hc ?_
 repeat (any_goals (first|assumption|wp_step))
def HE(X:K.In h)(hv:pq K C=true)(hC:h.get? C=some (excClassObj nm q C N bs bm hdct sn sub ab col dd k0 k1 k2 k3 k5 newId))(T:vO h veB bm)(hx:h.get? a=some o)(hc:o.cls=.ref C)(hq:Q (.ref C) ⟨h,g,d,t,os⟩) :
 wpAny (model prog w) A (getAttrBy (.ref a) (.str "__class__" tk) false) Q E ⟨h,g,d,t,os⟩:=by
 have FB:=F.attrBase_ValueError;have f3:=FB.ga.bind (.ref a);have hx2:(lG "BaseException.__getattribute__"==lG "object.__getattribute__")=false:=by decide
 have hx1:(onTheHeap (cj C)&&lG "BaseException.__getattribute__"==lG "object.__getattribute__")=false:=by rw[hx2];rfl
 have hm1:("__getattribute__":Str)∈qns:=.head _;have hm2:("__getattr__":Str)∈qns:=.tail _ (.head _)
 repeat (any_goals (first|assumption|(with_reducible refine dN hx ?_;rw[hc])|with_reducible refine vV X hm1 hC hv FB.ga.lookup ?_|with_reducible refine vV X hm2 hC hv FB.noGetattr ?_|wp_step))
 refine HW FB.ga.plain F.entry_bexc_ga (xy hC T hx hc (xx X hv hC T hx hc ?_))
 repeat (any_goals (first|assumption|wp_step))
def Af(X:K.In h)(hv:pq K C=true)(hC:h.get? C=some (excClassObj nm q C N bs bm hdct sn sub ab col dd k0 k1 k2 k3 k5 newId))(T:vO h veB bm)(hx:h.get? a=some o)(hc:o.cls=.ref C)(hq:Q (some (.ref C)) ⟨h,g,d,t+1,os⟩) :
 wpAny (model prog w) A (getAttr? (.ref a) "__class__") Q E ⟨h,g,d,t,os⟩:=by
 unfold getAttr? getAttrBy?
 repeat (any_goals (first|assumption|with_reducible apply HE X hv hC T hx hc|wp_step))
end
def rS{K:PySem.W.Frag}{C:av}(h:VE K C=true):∃d cd sl,K.lookup C=some ⟨.type "type",d,.cls cd,sl⟩/\∃bm,cd.mro=.ref C::bm:=by
 unfold VE PySem.W.excIn at h;split at h
 .rename_i ho;split at h
  .rename_i hm hs;simp only[aa,beq_iff_eq]at h;obtain⟨⟨⟨⟨⟨rfl,_⟩,_⟩,_⟩,_⟩,_⟩:=h;exact⟨_,_,_,ho,_,hm⟩
  .cases h
 .cases h
def yH{K:PySem.W.Frag}{C P:av}{b:Bool}(hC:VE K C=true)(hP:VE K P=true)(hs:subIn K C P=b):PySem.W.kitOne K (.ref C) (.ref P)=some b:=by
 obtain⟨_,cd,_,h1,bm,h2⟩:=rS hC;obtain⟨_,cd',_,h3,_⟩:=rS hP;unfold subIn at hs;rw[h1]at hs;have hs:cd.mro.contains (.ref P)=b:=hs;unfold PySem.W.kitOne;split
 .rename_i q;obtain rfl:C=P:=Value.ref.inj (beq_iff_eq.mp q);rw[<- hs,h2];simp
 .have a1:PySem.W.clsIn K P=some cd':=by unfold PySem.W.clsIn;rw[h3]
  have a2:PySem.W.typeIn K (.ref P)=some (.type "type"):=by show fK _ (K.lookup P)=_;rw[h3];rfl
  have a3:PySem.W.clsIn K C=some cd:=by unfold PySem.W.clsIn;rw[h1]
  show(if((PySem.W.clsIn K P).isSome&&PySem.W.typeIn K (.ref P)==some (.type "type"))=true then PySem.W.subIn K (.ref C) (.ref P)else none)=_;rw[if_pos (by rw[a1,a2];rfl)];show(PySem.W.clsIn K C).bind _=_;rw[a3,ah,hs,h2];rfl
def pH{K:PySem.W.Frag}{a C:av}(hC:VE K C=true)(hq:pq K C=true):PySem.W.KitX K (.ref a) (.ref C) (λh=>∃oe,h.get? a=some oe/\oe.cls=.ref C):=by
 obtain⟨_,cd,_,h1,_⟩:=rS hC;refine⟨λM h X p=>?_,λM h X _=>?_,λh tp dd its n sl X htp=>?_,λ{prog w A E Q s}X p k=>?_⟩
 .obtain⟨o,e1,e2⟩:=p;exact e2▸(PySem.W.Looks.ld e1).andThen .now
 .intro A' Q' E' s' k q;unfold isType loadHead;exact aI (wpAny_loadPart (k _ _ (X _ _ h1)) (bf q))
 .refine EK.mpr λq=>?_;obtain rfl:C=tp:=Value.ref.inj (beq_iff_eq.mp q);have z:=congrArg (fK Obj.cls) ((X _ _ h1).symm.trans htp);simp at z
 .obtain⟨o,e1,e2⟩:=p;obtain⟨tl,N,nm,qn,bs,hdct,sn,sub,ab,col,dd,k0,k1,k2,k3,k5,mN,oC,hN,hni,TL⟩:=oQ X hC;obtain⟨h,g,d,t,os⟩:=s;exact Af X hq oC TL e1 e2 k
section
variable{X:Cx}{a C P:av}{oe:Obj}{b:Bool}
def Lx(hp:(a,oe)∈X.pn)(hc:oe.cls=.ref C)(hC:VE X.K C=true)(hq:pq X.K C=true)(hP:VE X.K P=true)(hs:subIn X.K C P=b):cC X (.builtin "isinstance") (λxs H Q=>xs=[.ref a,.ref P]/\Q (.bl b) H):=by
 intro pins s σ H vs us Q I r h;obtain⟨rfl,q⟩:=h;obtain⟨u1,u2,rfl,r1,r2⟩:=r.two;obtain rfl:u1=.ref a:=r1;obtain rfl:u2=.ref P:=r2;exact PySem.W.kia_one (pH hC hq) I.kIn ⟨oe,(I.pin (a,oe) (bY _ hp)).1,hc⟩ (yH hC hP hs) (by intro e;cases e) λtk=>⟨.bl b,H,I.tok tk,rfl,q⟩
def Lw(hp:(a,oe)∈X.pn)(hc:oe.cls=.ref C)(hC:VE X.K C=true)(hq:pq X.K C=true){Ps:List av}(hk:PySem.W.kitAny X.K (.ref C) (Ps.map .ref)=some b):cC X (.builtin "isinstance") (λxs H Q=>∃tp,xs=[.ref a,.ref tp]/\H tp=some (.tup (Ps.map .ref))/\Q (.bl b) H):=by
 intro pins s σ H vs us Q I r h;obtain⟨tp,rfl,ht,q⟩:=h;obtain⟨u1,u2,rfl,r1,r2⟩:=r.two;obtain rfl:u1=.ref a:=r1;obtain rfl:u2=.ref tp:=r2;obtain⟨_,its,hv,⟨⟨cl,dd,da,sl⟩,e1,e2,n,e3⟩⟩:=I.hok tp _ ht;have e2:cl=.type "tuple":=e2;have e3:da=.seq its.toArray n:=e3;subst e2 e3
 have e4:∀(l:List av)(its:List ai),Vals (l.map V.ref) its->its=l.map cj:=by
  intro l
  induction l with
  |nil=>intro its h;cases h;rfl
  |cons p r ih =>
   intro its h
   cases h with
   |cons h1 h2=>rw[ih _ h2,show _=cj p from h1];rfl
 obtain rfl:=e4 _ _ hv;exact PySem.W.kia_tup (pH hC hq) I.kIn ⟨oe,(I.pin (a,oe) (bY _ hp)).1,hc⟩ e1 hk (by intro e;cases e) λtk=>⟨.bl b,H,I.tok tk,rfl,q⟩
def Lv{T:String}(hp:(a,oe)∈X.pn)(hc:oe.cls=.ref C)(hC:VE X.K C=true)(hq:pq X.K C=true)(hm:PySem.W.kitMeta T=true)(hT:veB.contains (.type T)=true):cC X (.builtin "isinstance") (λxs H Q=>xs=[.ref a,.ty T]/\Q (.bl true) H):=by
 intro pins s σ H vs us Q I r h;obtain⟨rfl,q⟩:=h;obtain⟨u1,u2,rfl,r1,r2⟩:=r.two;obtain rfl:u1=.ref a:=r1;obtain rfl:u2=.type T:=r2
 have k:PySem.W.kitOne X.K (.ref C) (.type T)=some true:=by
  obtain⟨_,cd,_,h1,bm,h2⟩:=rS hC;obtain⟨tl,N,nm,qn,bs,hdct,sn,sub,ab,col,dd,k0,k1,k2,k3,k5,mN,oC,hN,hni,TL⟩:=oQ I.kIn hC;have z:=I.kIn _ _ h1;rw[oC]at z;cases z;show(if _ then _ else(if PySem.W.kitMeta T=true then(PySem.W.clsIn X.K C).bind _ else _))=_;rw[if_neg (by intro e;cases beq_iff_eq.mp e),if_pos hm];unfold PySem.W.clsIn;rw[h1];show some ((cj C::tl).contains (.type T))=_;rw[iJ,TL.hasType hT,nR]
 exact PySem.W.kia_one (pH hC hq) I.kIn ⟨oe,(I.pin (a,oe) (bY _ hp)).1,hc⟩ k (by intro e;cases e) λtk=>⟨.bl true,H,I.tok tk,rfl,q⟩
def CM(hg:Gl X x)(hm:X.mg x=some (.ref P))(hd:(x==("__debug__":Str))=false):PE X (.Name x pos) (tC (.ref P)):=λ_ _ _ H _ I h=>kA I hg hm ⟨.ref P,H,I,rfl,h⟩ hd
end
def tI(i:Nat)(a:av)(b:Bool):TE:=λσ H Q=>σ[i]?=some (some (.ref a))/\Q (.bl b) H
def PE.to{X:Cx}{e:aE}{t u:TE}(h:PE X e t)(w:∀σ H Q,u σ H Q->t σ H Q):PE X e u:=λpins s σ H Q I q=>h pins s σ H Q I (w σ H Q q)
section
variable{X:Cx}{i:Nat}{a C P:av}{oe:Obj}{n x:Str}{p np xp pos:Pos}{b1 b2 b:Bool}{y z:aE}{r:List aE}
def Gu(hn:PE X (.Name n np) (wb i))(hc:cC X (.builtin "isinstance") (λxs H Q=>xs=[.ref a,.ref P]/\Q (.bl b) H))(hi:Gl X "isinstance")(hmi:X.mg "isinstance"=none)(hg:Gl X x)(hm:X.mg x=some (.ref P))(hd:(x==("__debug__":Str))=false) :
 PE X (.Call (.Name "isinstance" p) [.Name n np,.Name x xp] [] pos) (tI i a b):=by
 have hA:PA X [.Name n np,.Name x xp] (nB (wb i) (nB (tC (.ref P)) Bx)):=dQ hn (dQ (CM hg hm hd) iM rfl) rfl;exact PE.to (gz hc hi hmi rfl hA ⇑0 ⇑0 rfl rfl) λσ H Q⟨e,q⟩=>⟨_,e,rfl,q⟩
def Gr{T:String}(hn:PE X (.Name n np) (wb i))(hc:cC X (.builtin "isinstance") (λxs H Q=>xs=[.ref a,.ty T]/\Q (.bl b) H))(hi:Gl X "isinstance")(hmi:X.mg "isinstance"=none)(hg:Gl X x)(hm:X.mg x=none)(hb:bootBuiltins x=some (.type T))(hn2:x≠"__name__")(hd:(x==("__debug__":Str))=false) :
 PE X (.Call (.Name "isinstance" p) [.Name n np,.Name x xp] [] pos) (tI i a b):=by
 have hA:PA X [.Name n np,.Name x xp] (nB (wb i) (nB (tC (.ty T)) Bx)):=dQ hn (dQ (yt hg hm hb rfl hn2 hd) iM rfl) rfl;exact PE.to (gz hc hi hmi rfl hA ⇑0 ⇑0 rfl rfl) λσ H Q⟨e,q⟩=>⟨_,e,rfl,q⟩
def yu(h1:PE X y (tI i a b1))(h2:PE X (.BoolOp .And (z::r) pos) (tI i a b2)):PE X (.BoolOp .And (y::z::r) pos) (tI i a (b1&&b2)):=PE.to (CO h1 h2) λσ H Q zz=>by
 obtain⟨e,q⟩:=zz;refine⟨e,b1,rfl,?_⟩
 cases b1 with
 |true=>exact qj ⟨e,q⟩
 |false=>exact sI q
end
section
variable{Y:Cx}{x n name qual:Str}{params:ua}{body:List bE}{scope:dO}{dV kV doc pm cdv ct oc:ai}{an od:Option av}{osl:Array (Option ai)}{N:List Str}{q:Str}{f a:av}{oe:Obj}{j:Nat}{p np pos:Pos}{t:TS}
end
def wN{env env':Env}{e:ai}(h:env.frame=env'.frame):noteFrame e env=noteFrame e env':=by
 unfold noteFrame PySem.frameOf;rw[h]
noncomputable abbrev cxX(X:Cx)(scope:dO)(cl:List (Str×av))(C:av)(Nc:List Str)(s:au)(H:Hp)(fp:List av):Cx :=
 (cxC X scope cl C Nc s H fp).wish (notedBy (model X.prog X.w) X.A (compEnvC scope cl C X.env) (Lm X C))
def MT{X:Cx}{scope:dO}{cl:List (Str×av)}{C:av}{Nc:List Str}{s0:au}{H0:Hp}{fp:List av}{σ:St}{E:St->XK}(R:nK X E)(hex:X.ex=[])(hst:X.stack=X.env::X.outer)(hfr:X.env.frame=some X.env.locals)
 (B:Blk X scope cl C s0 H0 fp σ):vI (cxX X scope cl C Nc s0 H0 fp) (λ_=>E σ):=λpinsB σB HB s e s' IB h=>by
 obtain⟨a,cls,H',rfl,fly,un,hok,os,bare,q⟩:=h;obtain⟨hh,g,d,t,os'⟩:=s';obtain rfl:os'=s.os:=os;obtain⟨pins,I3,f3,fl3,hC0,rfl⟩:=B;have JB:Inv (cxC X scope (gv X.env scope.names []) C Nc s0 H0 fp) ([]++pinsB) σB HB s:=IB.unwish;have IO:Inv X pins σ HB s:=lx I3 f3 hC0 JB.unpinned (tY _ _);have I2:=IO.call (h':=hh) (g':=g) (d':=d) (t':=t) (ch:=[]) un hok bare (λb z=>absurd z ↥0);have J2:=JB.call (h':=hh) (g':=g) (d':=d) (t':=t) (ch:=[]) un hok bare (λb z=>absurd z ↥0);obtain⟨oe,vs,a0,T,oT,ts,fl,he,hc,hd,h1,⟨nT,fT⟩,hTe,hT,hdT,h3⟩:=fly.tr;show wpAny (model X.prog X.w) X.A (noteFrame (.ref a) (compEnvC scope (gv X.env scope.names []) C X.env)) _ _ _;rw[wN (env:=compEnvC scope (gv X.env scope.names []) C X.env) (env':=X.env) rfl];refine mS (base:=less hh (a::T::frs X.stack)) (outer:=X.outer) (by rw[<- hst];exact I2.ok.frames) hfr jw (fS ay) (by rw[<- hst];exact me I2.stack λb hb=>fS (ao _ (ao _ hb))) ⟨oe,vs,T,oT,ts,he,hc,hd,h1,fS (ao _ ay),hTe,hT,hdT,h3⟩ λh4 held sm=>?_;obtain⟨m,hn,_⟩:=J2.loc;have hn:hh.Ns C m:=hn;have hn4:=sm.ns hn;refine⟨m,hn4,λh5 sb cenv _=>?_⟩;obtain⟨stay,_,_,oe',vs',T',oT',ts',he',hc',hd',h1',nT',hTe',hT',hdT',h3'⟩:=held;obtain⟨oc,es,ep,hoc,hdc,_⟩:=hn4
 have nC:∀b o v,h4.get? b=some o->o.data=.fields v->b≠C:=λb o v e1 e2 z=>by
  rw[z,hoc]at e1;cases e1;rw[hdc]at e2;cases e2
 have naC:=nC _ _ _ he' hd';have nTC:=nC _ _ _ hT' hdT';have he5:=(sb.2 a naC).trans he';have hT5:=(sb.2 T' nTC).trans hT'
 have nfr:∀b,b∈frs X.stack->∀o v,h4.get? b=some o->o.data≠.fields v:=λb hb o v e1 e2=>by
  obtain⟨_,o',ho',nf⟩:=I2.stack.mem hb;obtain⟨sl,z⟩:=sm b o' ho' nf;rw[e1]at z;cases z;exact nf v e2
 have nw2:∀{b},hh.get? b=none->Nw X pins b/\H' b=none:=λz=>⟨qT I2 hex z,I2.hok.gone z⟩
 have wT:Nw X pins T'/\H' T'=none:=by
  by_cases hm:T'∈a::T::frs X.stack
  .rcases aA.mp hm with z|hm
   .exact absurd z hTe'
   .rcases aA.mp hm with z|hm
    .rw[z];exact⟨qT IO hex nT,fT⟩
    .exact absurd hdT' (nfr T' hm _ _ hT')
  .rw[iZ hm]at nT';exact nw2 nT'
 have wa:Nw X pins a/\H' a=none:=⟨qT IO hex fly.new,fly.fre⟩;have wTT:Nw X pins T/\H' T=none:=⟨qT IO hex nT,fT⟩;have wC:Nw X pins C/\H' C=none:=⟨qT I3 hex (kZ (kj hC0.symm)),J2.free⟩
 have all:∀b∈[a,T,T',C],Nw X pins b/\H' b=none:=λb hb=>by
  rcases aA.mp hb with z|hb
  .rw[z];exact wa
  rcases aA.mp hb with z|hb
  .rw[z];exact wTT
  rcases aA.mp hb with z|hb
  .rw[z];exact wT
  .rw[bX.mp hb];exact wC
 have frC:C∉frs X.stack:=λz=>by
  obtain⟨_,o',ho',nf⟩:=I3.stack.mem z;exact cV _ (hC0▸aJ ho')
 unfold PySem.passOn;refine aI (ir he5 hd' h1' ?_);rw[if_neg ↥0];unfold setFlight;refine aI (aI (ir he5 hd' h1' ?_));rw[if_pos ↥0];have hsz:=(fc.mp h3').1;refine wpAny_setField hT5 hdT' hsz (wpAny_throw ?_);generalize hv:(cenv.frame.elim jM λf=>rawInt f)=mk;have oth:∀b,b≠T'->(h5.update T' (vM (·.setIfInBounds 3 mk))).get? b=h5.get? b:=λb hb=>gi _ _ (Ne.symm hb)
 have keep:∀b o,b∉frs X.stack->b∉[a,T,T',C]->hh.get? b=some o->(h5.update T' (vM (·.setIfInBounds 3 mk))).get? b=some o:=λb o n1 n2 e=>by
  simp only[aA,bQ,or_false,not_or]at n2;rw[oth b n2.2.2.1,sb.2 b n2.2.2.2];refine stay b o ?_;rw[iZ (by simp only[aA,not_or];exact⟨n2.1,n2.2.1,n1⟩)];exact e
 refine R pins σ H' _ a cls (I2.over (l:=[a,T,T',C]) (t':=t) hex (λb hb=>(all b hb).1) keep (λb o hb e=>?_) λb o e=>?_) ⟨oe',vs',a0,T',_,_,mk,?_,hc',hd',h1',⟨wa.2,wT.2⟩,hTe',xJ _ hT5 (Obj.isFreed_of_fields (EF hdT' _)),EF hdT' _,by simp[hsz],λb hb=>?_⟩ q
 .obtain⟨_,o',ho',nf⟩:=I2.stack.mem hb;rw[e]at ho';cases ho';obtain⟨sl,z⟩:=sm b o e nf;refine⟨sl,?_⟩;rw[oth b λw=>?_,sb.2 b λw=>?_]
  .exact z
  .exact frC (w▸hb)
  .exact nfr b hb _ _ z (by rw[w,hT']at z;cases z;exact hdT')
 .refine(I2.hok b o e).stay (λc u hc z=>keep c u ?_ ?_ z) (λ_ z=>z) λ_ _ z=>z
  all_goals have hH:∃v,H' c=some v:=hc.elim (λz=>⟨o,by rw[z];exact e⟩) λz=>⟨_,z⟩
  .intro z3;obtain⟨v,z2⟩:=hH;rw[I2.stkFree c z3]at z2;cases z2
  .intro z3;obtain⟨v,z2⟩:=hH;rw[(all c z3).2]at z2;cases z2
 .rw[oth a (Ne.symm hTe')];exact he5
 .rcases aA.mp hb with z|z
  .rw[z];exact wa.1
  .rw[bX.mp z];exact wT.1
def zK{X:Cx}{scope:dO}{Nc:List Str}{tg iter elt:aE}{wi:TI}{g:TG}{tt:TT}{ifs:List aE}{te:(St->XK)->TE}{pos:Pos}{E:St->XK}(R:nK X E)(hex:X.ex=[])(hst:X.stack=X.env::X.outer)(hfr:X.env.frame=some X.env.locals)
 (hc:X.calm=true)(S:kf X scope)(hN:∀i x,i<X.N.length->Nc[i]?=some x->Vis scope x->X.N[i]?=some x/\scope.names.lookup x=some .free)(hl:X.N.length<=Nc.length)
 (hi:PI X tg iter wi)(hg:∀cl C s H fp,PG (cxC X scope cl C Nc s H fp) tg g)(ht:∀cl C s H fp,PTs (cxC X scope cl C Nc s H fp) ifs tt)(he:∀cl C s H fp E',vI (cxX X scope cl C Nc s H fp) E'->PE (cxX X scope cl C Nc s H fp) elt (te E'))
 (hs:∀x,foldedSetIterable iter X.env x=pure x):PE X (.ListComp elt [⟨tg,iter,ifs,0⟩] scope pos) (λσ H Q=>wi σ H λJ H1=>∀D,H1 D=none->tLp J g tt (uD D (te λ_=>E σ)) (σ++aC (Nc.length-X.N.length) none) (upd H1 D (.lst [])) λ_ H2=>Q (.ref D) H2) :=
 qQ (xb:=λcl C=>notedBy (model X.prog X.w) X.A (compEnvC scope cl C X.env) (Lm X C)) (λ_ _ _ _ z=>z) hc S hN hl hi hg ht (λcl C s H fp σ D B=>sj (he cl C s H fp _ (MT R hex hst hfr B))) (λit acc env=>by rw[As]<;>rfl) hs
end L2
end
section
namespace PP
open PySem L2 PyProof.Rows
variable[Tbs]
mutual
inductive XE where
 |cal (f g:Nat) (es:Es)
 |tup (l:XL)
 |fn (f g:Nat) (l:XL)
 |tot (x:XE)
 |cmp (k:Nat) (tg:Tg) (src:It) (f g:Nat) (es:Es)
inductive XL where
 |hd (x:XE) (es:Es)
 |tl (e:E) (l:XL)
end
mutual
inductive R where
 |st (s:S)
 |rse (c:Str)
 |cal (s:S) (xs:List XE)
 |ifs (t:E) (a b:Rs)
 |fr (tg:Tg) (src:It) (body:Rs)
inductive Rs where
 |nil|cons (r:R) (rs:Rs)
end
def xvF(cx:Cl)(g:Nat)(es:Es)(δ:Loc):Option (Str×Loc):=match cS cx es δ with
 |some (ds,δ1)=>(match cx.call g ds with
  |some (.str c)=>some (c,δ1)
  |_=>none)
 |none=>none
def xvC(cx:Cl)(k:Nat)(tg:Tg)(f g:Nat)(es:Es):List D->Loc->Option (Str×Loc)
 |[],_=>none
 |d::ds,δ=>match(dy (δ++aC k .no) tg d).bind (xvF cx g es)with
  |some (c,δ1)=>some (c,δ1.take δ.length)
  |none=>match nI cx k tg .no (.call f es) d δ with
   |some (_,δ1)=>xvC cx k tg f g es ds δ1
   |none=>none
mutual
noncomputable def xvE(cx:Cl):XE->Loc->Option (Str×Loc)
 |.cal _ g es,δ=>xvF cx g es δ
 |.tup l,δ=>xvL cx l δ
 |.fn _ _ l,δ=>xvL cx l δ
 |.tot x,δ=>xvE cx x δ
 |.cmp k tg src f g es,δ=>match evI cx src δ with
  |some (ds,δ1)=>if ds.length<=sizeLine then xvC cx k tg f g es ds δ1 else none
  |none=>none
noncomputable def xvL(cx:Cl):XL->Loc->Option (Str×Loc)
 |.hd x _,δ=>xvE cx x δ
 |.tl e l,δ=>match evE cx e δ with
  |some (_,δ1)=>xvL cx l δ1
  |none=>none
end
abbrev OR:=Out ⊕ (Str×Loc)
def forR(f:D->Loc->Option OR):List D->Loc->Option OR
 |[],δ=>some (.inl (.nx δ))
 |x::xs,δ=>match f x δ with
  |some (.inl (.nx δ1))=>forR f xs δ1
  |o=>o
mutual
noncomputable def evR(cx:Cl):R->Loc->Option OR
 |.st s,δ=>(evS cx s δ).map .inl
 |.rse c,δ=>some (.inr (c,δ))
 |.cal s xs,δ=>match xs.findSome? λx=>xvE cx x δ with
  |some p=>some (.inr p)
  |none=>(evS cx s δ).map .inl
 |.ifs t a b,δ=>match evT cx t δ with
  |some (true,δ1)=>fL cx a δ1
  |some (false,δ1)=>fL cx b δ1
  |none=>none
 |.fr tg src body,δ=>match evI cx src δ with
  |some (ds,δ1)=>forR (λx δ0=>(dy δ0 tg x).bind λδ2=>fL cx body δ2) ds δ1
  |none=>none
noncomputable def fL(cx:Cl):Rs->Loc->Option OR
 |.nil,δ=>some (.inl (.nx δ))
 |.cons r rs,δ=>match evR cx r δ with
  |some (.inl (.nx δ1))=>fL cx rs δ1
  |o=>o
end
def zc(K:PySem.W.Frag)(mg:Str->Option ai)(G:Gh)(F:av->Prop)(H:Hp)(r:OR)(D:Ends)(W:L2.St->XK):Prop :=
 match r with
 |.inl o=>kT K G F H o D
 |.inr (c,δ')=>∀σ' H' F',Step G F H F' H'->Ok K G F' σ' H' δ'->∃u,mg c=some u/\W σ' u none H'
def zc.step{K:PySem.W.Frag}{mg:Str->Option ai}{G:Gh}{F F1:av->Prop}{H H1:Hp}{r:OR}{D:Ends}{W:L2.St->XK}(st:Step G F H F1 H1)(h:zc K mg G F H r D W):zc K mg G F1 H1 r D W:=by
 cases r with
 |inl o=>exact kT.step st h
 |inr p=>exact λσ' H' F' s k=>h σ' H' F' (st.trans s) k
def tR(K:PySem.W.Frag)(mg:Str->Option ai)(W:L2.St->XK)(ev:Loc->Option OR):TS:=λD σ H=>∃G F δ r,Ok K G F σ H δ/\ev δ=some r/\zc K mg G F H r D W
def tX(K:PySem.W.Frag)(mg:Str->Option ai)(W:L2.St->XK)(ev:Loc->Option (Str×Loc)):L2.St->Hp->Prop:=λσ H=>∃G F δ c δ1,Ok K G F σ H δ/\ev δ=some (c,δ1)/\∀H' F',Step G F H F' H'->Ok K G F' σ H' δ1->∃u,mg c=some u/\W σ u none H'
def spX(K:PySem.W.Frag)(mg:Str->Option ai)(f:List D->Option D):Sp:=λvs H _ E=>∃F ds c u,FD F H/\TF F/\lC H/\aH K H F ds vs/\f ds=some (.str c)/\mg c=some u/\∀H',Sim H H'->lC H'->E u none H'
section
variable{K:PySem.W.Frag}{cx:Cl}{X:Cx}{W:L2.St->XK}
def BZ:PSs X [] (tR X.K X.mg W (fL cx .nil)):=PSs.imp lX λD σ H zz=>by
 obtain⟨G,F,δ,o,ok,ev,post⟩:=zz;simp only[fL]at ev;cases ev;exact post σ H F Step.refl ok
def zD{r:R}{rs:Rs}{y:bE}{ys:List bE}(h1:PS X y (tR X.K X.mg W (evR cx r)))(h2:PSs X ys (tR X.K X.mg W (fL cx rs))):PSs X (y::ys) (tR X.K X.mg W (fL cx (.cons r rs))):=PSs.imp (jV h1 h2) λD σ H zz=>by
 obtain⟨G,F,δ,o,ok,ev,post⟩:=zz;simp only[fL]at ev
 cases e:evR cx r δ with
 |none=>rw[e]at ev;cases ev
 |some o1 =>
  rw[e]at ev
  cases o1 with
  |inr p=>cases ev;exact⟨G,F,δ,_,ok,e,post⟩
  |inl o1 =>
   cases o1 with
   |nx δ1=>exact⟨G,F,δ,.inl (.nx δ1),ok,e,λσ' H' F' st ok'=>⟨G,F',δ1,o,ok',ev,post.step st⟩⟩
   |rt d δ1=>cases ev;exact⟨G,F,δ,_,ok,e,post⟩
   |ro d δ1=>cases ev;exact⟨G,F,δ,_,ok,e,post⟩
def FR(h:PS X y (tS X.K (evS cx s))):PS X y (tR X.K X.mg W (evR cx (.st s))):=PS.imp h λD σ H zz=>by
 obtain⟨G,F,δ,o,ok,ev,post⟩:=zz;simp only[evR,aj]at ev;obtain⟨o1,e,rfl⟩:=ev;exact⟨G,F,δ,o1,ok,e,post⟩
def Cb{t:E}{a b:Rs}{y:aE}{ya yb:List bE}{pos:Pos}(ht:PT X y (tT X.K cx t))(ha:PSs X ya (tR X.K X.mg W (fL cx a)))(hb:PSs X yb (tR X.K X.mg W (fL cx b))):PS X (.If y ya yb pos) (tR X.K X.mg W (evR cx (.ifs t a b))):=PS.imp (uP ht ha hb) λD σ H zz=>by
 obtain⟨G,F,δ,out,ok,ev,post⟩:=zz;simp only[evR]at ev
 cases e1:evT cx t δ with
 |none=>rw[e1]at ev;cases ev
 |some p =>
  obtain⟨q,δ1⟩:=p;rw[e1]at ev;refine⟨G,F,δ,q,δ1,ok,e1,λH1 F1 st sm ok1=>?_⟩
  cases q with
  |true=>exact qj ⟨G,F1,δ1,out,ok1,ev,post.step st⟩
  |false=>exact sI ⟨G,F1,δ1,out,ok1,ev,post.step st⟩
def BY{x t:Str}{C:av}{np cp j2 pos:Pos}{j:Nat}(R:Rz X W)(hc:X.calm=true)(hg:Gl X x)(hm:X.mg x=some (.ref C))(hC:VE X.K C=true)(hd:(x==("__debug__":Str))=false) :
 PS X (.Raise (some (.Call (.Name x np) [.Constant (.str t) j j2] [] cp)) none pos) (tR X.K X.mg W (evR cx (.rse x))):=PS.imp (CA R hc hg hm hC hd) λD σ H zz=>by
 obtain⟨G,F,δ,out,ok,ev,post⟩:=zz;simp only[evR]at ev;cases ev;obtain⟨u,e,q⟩:=post σ H F Step.refl ok;rw[hm]at e;cases e;exact q
def Bw(n:iW es=true){σ:L2.St}{H:Hp}(h:tX X.K X.mg W (xvF cx g es) σ H):tEs X.K cx es σ H λvs H1=>spX X.K X.mg (cx.call g) vs H1 (λ_ _=>True) (W σ):=by
 obtain⟨G,F,δ,c,δ1,ok,ev,post⟩:=h;unfold xvF at ev;split at ev
 .rename_i ds δ2 ea;split at ev
  .rename_i c' ec;cases ev;refine⟨G,F,δ,ds,δ1,ok,ea,λvs H1 F1 st1 sm1 ok1 r1=>?_⟩;obtain⟨u,e1,_⟩:=post H1 F1 st1 ok1;refine⟨F1,ds,c,u,ok1.fd,ok1.tf,ok1.tabs,r1.rl n,ec,e1,λH2 s2 t2=>?_⟩;obtain⟨u',e2,q⟩:=post H2 F1 (st1.trans (ok1.call s2 t2).2) (ok1.call s2 t2).1;rw[e1]at e2;cases e2;exact q
  .cases ev
 .cases ev
def pd{s:S}{xs:List XE}(hO:PS X y (tS X.K (evS cx s)))(hX:∀x,x∈xs->PS X y (λ_ σ H=>tX X.K X.mg W (xvE cx x) σ H)):PS X y (tR X.K X.mg W (evR cx (.cal s xs))):=λpins s0 σ H D I zz=>by
 obtain⟨G,F,δ,o,ok,ev,post⟩:=zz;simp only[evR]at ev;split at ev
 .rename_i p hf;obtain⟨c,δ1⟩:=p;cases ev;obtain⟨x,hx,ex⟩:=List.exists_of_findSome?_eq_some hf;exact hX x hx pins s0 σ H D I ⟨G,F,δ,c,δ1,ok,ex,λH' F' st ok'=>post σ H' F' st ok'⟩
 .simp only[aj]at ev;obtain⟨o1,e,rfl⟩:=ev;exact hO pins s0 σ H D I ⟨G,F,δ,o1,ok,e,post⟩
def FT(hp:nM (model X.prog X.w) X.A X.env X.xe)(hc:X.calm=true){tg:Tg}{src:It}{body:Rs}{t it:aE}{ys:List bE}{pos:Pos}(htg:PG X t (gTg X.K tg))(hI:PI X t it (tI X.K cx src))(hset:∀v,foldedSetIterable it X.env v=pure v)(hb:PSs X ys (tR X.K X.mg W (fL cx body))):PS X (.For t it ys [] pos) (tR X.K X.mg W (evR cx (.fr tg src body))):=by
 refine PS.imp (CD hp hc hI htg hb hset) λE σ H zz=>?_;obtain⟨G,F,δ,out,ok,ev,post⟩:=zz;simp only[evR]at ev;split at ev
 case h_2=>cases ev
 rename_i ds δ1 e1;generalize ef:(λ(x:D)(δ0:Loc)=>(dy δ0 tg x).bind λδ2=>fL cx body δ2)=f at ev;refine⟨G,F,δ,ds,δ1,ok,e1,λJ H1 F1 st sm ok1 wk=>?_⟩;refine⟨λi m σ' H'=>∃F' δ',m=ds.length-i/\i<=ds.length/\Step G F1 H1 F' H'/\Ok X.K G F' σ' H' δ'/\forR f (ds.drop i) δ'=some out,⟨_,F1,δ1,rfl,bM _,Step.refl,ok1,ev⟩,?_⟩;rintro i m σ' H' ⟨F',δ',rfl,hi,st',ok',ev'⟩;by_cases hlt:i<ds.length
 .right;obtain⟨go,yl⟩:=(wk _ F' H' st' ok'.fd i).1 ds[i] (aN hlt);refine⟨go,?_⟩;rw[bN hlt]at ev';unfold forR at ev';refine⟨λσ2 H2=>∃m',m'<ds.length-i/\∃F2 δ2,m'=ds.length-(i+1)/\i+1<=ds.length/\Step G F1 H1 F2 H2/\Ok X.K G F2 σ2 H2 δ2/\forR f (ds.drop (i+1)) δ2=some out,λσ2 H2 z=>z,λx H3 hy=>?_⟩;obtain⟨sm,rx⟩:=yl x H3 hy;replace ok':=ok'.same' sm;replace st':=st'.trans (Step.of_same sm);have sA:=st.trans st'
  cases hf:f ds[i] δ' with
  |none=>rw[hf]at ev';cases ev'
  |some o1 =>
   have hf':=hf;rw[<- ef]at hf';obtain⟨δ2,hs,hf'⟩:=af.mp hf';refine kq ok' rx hs λσ2 ok2 _=>⟨G,F',δ2,o1,ok2,hf',?_⟩;rw[hf]at ev'
   have next:∀{δ3:Loc},forR f (ds.drop (i+1)) δ3=some out->∀σ3 H4 F4,Step G F' H3 F4 H4->Ok X.K G F4 σ3 H4 δ3->∃m',m'<ds.length-i/\∃F2 δ2,m'=ds.length-(i+1)/\i+1<=ds.length/\Step G F1 H1 F2 H4/\Ok X.K G F2 σ3 H4 δ2/\forR f (ds.drop (i+1)) δ2=some out :=
    λe σ3 H4 F4 s4 k4=>⟨_,∅,F4,_,rfl,hlt,st'.trans s4,k4,e⟩
   cases o1 with
   |inr p=>cases ev';exact λσ3 H4 F4 s4 k4=>post σ3 H4 F4 (sA.trans s4) k4
   |inl o1 =>
    cases o1 with
    |nx δ3=>exact next ev'
    |rt d3 δ3=>cases ev';exact λv σ3 H4 F4 s4 k4 r4=>post v σ3 H4 F4 (sA.trans s4) k4 r4
    |ro d3 δ3=>cases ev';exact λa xs σ3 H4 F4 s4 k4=>post a xs σ3 H4 F4 (sA.trans s4) k4
 .left;obtain rfl:i=ds.length:=by lia
  rw[fq]at ev';cases ev';exact⟨(wk _ F' H' st' ok'.fd ds.length).2 rfl,post σ' H' F' (st.trans st') ok'⟩
end
def Fl:bE->Nat
 |.Raise .. => 1
 |.Try .. => 2
 |_=>0
def Nm(x:bE):Nat->Prop
 |1=>∃e c p,x=.Raise e c p
 |2=>∃b h o f p,x=.Try b h o f p
 |_=>True
def DE(x:bE):Nm x (Fl x):=by
 cases x<;>first|trivial|exact⟨_,_,_,rfl⟩|exact⟨_,_,_,_,_,rfl⟩
def yI(h:((Fl x==n)&&b)=true):Nm x n/\b=true:=by
 rw[aa]at h;exact⟨eq_of_beq h.1▸DE x,h.2⟩
def rsE:bE->Option aE
 |.Raise e _ _=>e
 |_=>none
def rsC:bE->Option aE
 |.Raise _ c _=>c
 |_=>none
def IC(n:Str)(x:bE):Bool:=(Fl x==1)&&((rsC x).isNone&&onO (rsE x) λe=>kH e λm as=>on1 as λa=>onC a (λv=>onT v λ_=>true)&&decide (m=n))
def Dz(h:IC n x=true):∃np t j j2 cp pos,x=.Raise (some (.Call (.Name n np) [.Constant (.str t) j j2] [] cp)) none pos:=by
 obtain⟨⟨e,c,p,rfl⟩,h1⟩:=yI h;rw[aa]at h1;have hc:c=none:=cN.mp h1.1;obtain⟨y,hy,h2⟩:=lr h1.2;have hy:e=some y:=hy;obtain⟨m,np,as,cp,rfl,h3⟩:=dz h2;obtain⟨a,rfl,h4⟩:=cy h3;rw[aa]at h4;obtain⟨v,j,j2,rfl,h5⟩:=jt h4.1;obtain⟨t,rfl,_⟩:=wF h5;rw[hc,hy,of_decide_eq_true h4.2];exact⟨_,_,_,_,_,_,rfl⟩
mutual
noncomputable def ckX(xs:List (Nat×Nat))(c:Ck):XE->aE->Bool
 |.cal f g es,y=>xs.contains (f,g)&&ckE c (.call f es) y
 |.tup l,y=>jW y λys=>ckL xs c l ys
 |.fn f g l,y=>xs.contains (f,g)&&kH y λn as=>(match c.fns[f]? with
  |some (m,_)=>decide (m=n)&&di c n&&ckL xs c l as
  |none=>false)
 |.tot x,y=>kH y λn as=>on1 as λz=>decide (n=("tuple":Str))&&di c n&&ckX xs c x z
 |.cmp k tg src f g es,y=>xs.contains (f,g)&&ckE c (.comp k tg src .no (.call f es)) y
noncomputable def ckL(xs:List (Nat×Nat))(c:Ck):XL->List aE->Bool
 |.hd x es,ys=>onS ys λy ys=>ckX xs c x y&&iP c es ys&&iW es
 |.tl e l,ys=>onS ys λy ys=>ckE c e y&&!bj e&&ckL xs c l ys
end
mutual
noncomputable def ckR(cls:List Str)(xs:List (Nat×Nat))(c:Ck):R->bE->Bool
 |.st s,x=>ckS c s x
 |.rse n,x=>IC n x&&di c n&&cls.contains n
 |.cal s l,x=>ckS c s x&&(yx x (λy=>onO y λy=>l.all λe=>ckX xs c e y)||(Dc x (λy=>kH y (λ_ _=>true)&&l.all λe=>ckX xs c e y)||nE x λts y=>on1 ts λt=>(ft t==0||ft t==7)&&kH y (λ_ _=>true)&&l.all λe=>ckX xs c e y))
 |.ifs t a b,x=>pF x λy ya yb=>ckE c t y&&nW cls xs c a ya&&nW cls xs c b yb
 |.fr tg src b,x=>yz x λt it ys z=>on0 z (qp c tg t&&ckI c src t it&&nW cls xs c b ys&&!cls.isEmpty)
noncomputable def nW(cls:List Str)(xs:List (Nat×Nat))(c:Ck):Rs->List bE->Bool
 |.nil,zs=>on0 zs true
 |.cons r rs,zs=>onS zs λy ys=>ckR cls xs c r y&&nW cls xs c rs ys
end
section
variable{X:Cx}{cls:List Str}{xs:List (Nat×Nat)}{c:Ck}{cx:Cl}{k:Nat}{W:L2.St->XK}
def IM(C:Cok X.nox c cx k)(Z:vI X W)(hfg:(f,g)∈xs)(h:ckE c (.call f es) y=true)
 (fx:∀(f g:Nat)(x:Str)(ps:List Str),(f,g)∈xs->c.fns[f]?=some (x,ps)->∃a fd,X.mg x=some (.ref a)/\PySem.W.keepIn X.K (.ref a)=true/\Binds X.K fd ps []/\gB X.prog X.w X.K X.mg X.base (CXE X.prog X.w) k a fd ps (spX X.K X.mg (cx.call g))) :
 iW es=true/\(∃n np as p,y=.Call (.Name n np) as [] p)/\PE X y (λσ H _=>tEs X.K cx es σ H λvs H1=>spX X.K X.mg (cx.call g) vs H1 (λ_ _=>True) (W σ)):=by
 obtain⟨n,np,as,p,rfl,hh⟩:=dz h;split at hh
 .rename_i m ps hf;simp only[aa]at hh;obtain⟨⟨⟨⟨⟨h1,h2⟩,h3⟩,h4⟩,h5⟩,h6⟩:=hh;have e:=of_decide_eq_true h1;subst e;obtain⟨a,fd,hm,hk,hb,fn⟩:=fx f g _ _ hfg hf;obtain⟨g1,g2,g3⟩:=C.global h2;refine⟨h5,⟨_,_,_,_,rfl⟩,?_⟩;have hA:=fu es X.nox c as C h4 (gQ h5)
  cases as with
  |nil=>simp at h6
  |cons y ys =>
   obtain⟨_,_,_,c1,c2⟩:=fJ h4;exact uS Z fn C.room g1 hm hk hb hA.nox g2 (br (bo c1) _ _) (ib c2)
 .cases hh
def PI.nox{tg e:aE}{wi:TI}(h:PI X.nox tg e wi):PI X tg e wi:=λpins s σ H R I hw=>cu (h pins s σ H R (I.wish _) hw) (λv s1 h1=>cu h1 (λitv s2 h2=>by
 obtain⟨it,fp,tn,J,H2,e,I2,r⟩:=h2;exact⟨it,fp,tn,J,H2,e,I2.unwish,r⟩) λ_ _ z=>bu z) λ_ _ z=>bu z
def PE.or{e:aE}{t u:TE}(h:PE X e t)(h':PE X e u):PE X e (λσ H Q=>t σ H Q\/u σ H Q):=λpins s σ H Q I hw=>hw.elim (h pins s σ H Q I) (h' pins s σ H Q I)
def MX{y:aE}{ys:List aE}{w:L2.St->Hp->Prop}(h:PE X y λσ H _=>w σ H)(hr:PA X ys t)(hs:starEach (y::ys) X.env=(false,eval y X.env)::starEach ys X.env):PA X (y::ys) (λσ H _=>w σ H):=λpos pins s σ H Q I q=>dQ h hr hs pos pins s σ H Q I q
def xN{x:XE}{y:aE}(h:ckX xs c x y=true):dY y=true:=by
 cases x with
 |cal f g es=>exact bo (e:=.call f es) (by unfold ckX at h;rw[aa]at h;exact h.2)
 |tup l=>obtain⟨_,_,_,rfl,_⟩:=dH h;rfl
 |fn f g l=>unfold ckX at h;rw[aa]at h;exact hdF h.2
 |tot x=>exact hdF h
 |cmp k tg src f g es=>exact bo (e:=.comp k tg src .no (.call f es)) (by unfold ckX at h;rw[aa]at h;exact h.2)
def vz{K:PySem.W.Frag}{mg:Str->Option ai}{G:Gh}{F1:av->Prop}{σ:L2.St}{H1:Hp}{δ1 δ2:Loc}{J:L2.It}{ds:List D}{p:av}{kk:Nat}{tg:Tg}{f g:Nat}{es:Es}{nm:Str}{E:XK}{Q:L2.St->Hp->Prop}(hge:vZ σ.length tg=true)
 (ok1:Ok K G F1 σ H1 δ1)(wk:Wk K G F1 H1 J ds)(hp:H1 p=none)(hz:ds.length<=sizeLine)(ev:xvC cx kk tg f g es ds δ1=some (nm,δ2))
 (q:∀H2 F2,Ok K (G.and p) F2 σ H2 δ2->Step G F1 H1 F2 H2->∃u,mg nm=some u/\E u none H2) :
 tLp J (gTg K tg) (tG K cx .no) (uD p λσ H Q=>tE K cx (.call f es) σ H Q\/tX K mg (λ_=>E) (xvF cx g es) σ H) (σ++aC kk none) (upd H1 p (.lst [])) Q:=by
 have hg:=ok1.free hp;obtain⟨ok2,st2⟩:=ok1.enter hp [];have hFs:∀b,G.R b->(G.and p).R b:=λb z=>.inl z
 refine yD (P:=λr F' σc Hc=>∃δi xs,(∃tl:L2.St,σc=σ++tl/\tl.length=kk)/\Ok K (G.and p) F' σ Hc δi/\xvC cx kk tg f g es r δi=some (nm,δ2)/\Hc p=some (.lst xs)/\xs.length+r.length<=sizeLine/\Step G F1 H1 F' Hc) wk (λr F σ H z=>by obtain⟨_,_,_,ok,_,_,_,st⟩:=z;exact⟨st,ok.fd⟩)
  (λr F σ H H3 z sm=>by obtain⟨a1,a2,a3,ok,a6,a8,a9,st⟩:=z;exact⟨a1,a2,a3,ok.same' sm,a6,sm _ _ a8,a9,st.trans (.of_same sm)⟩) (F0:=λb=>F1 b\/b=p) ⟨δ1,[],⟨_,rfl,↥0⟩,ok2,ev,bI,by simpa using hz,st2⟩ ?_ ?_
 .rintro d r F' _ H3 x N ⟨δi,xs,⟨tl,rfl,htl⟩,ok,el,eD,hl,st⟩ rx hN;have hF:F' p:=ok.rf p (.inr rfl);have okx:Ok K (G.and p) F' (σ++tl) H3 (δi++aC kk .no):=by rw[<- htl];exact ok.ext tl
  have dl:δi.length=σ.length:=ok.len
  have tail:∀{σ2:L2.St}{δ6:Loc},Ok K (G.and p) F' σ2 H3 δ6->δ6.length=(δi++aC kk Sl.no).length->σ2.take σ.length=σ->∃tl':L2.St,σ2=σ++tl'/\tl'.length=kk:=λ{σ2 δ6}ok6 e1 t2=>by
   have a2:=ok6.len;have a1:=okx.len;have e2:(σ++tl).length=σ.length+kk:=by rw[az,htl]
   refine⟨σ2.drop σ.length,?_,by rw[aR];lia⟩
   conv=>lhs;rw[<- cB σ.length σ2,t2]
  unfold xvC at el;split at el
  .rename_i c' δ3 hb;cases el;obtain⟨δ6,es',ex⟩:=af.mp hb;refine kq okx rx es' λσ2 ok6 htake=>?_;have t2:σ2.take σ.length=σ:=by rw[htake _ hge,qa];rfl
   refine⟨G.and p,F',δ6,true,δ6,ok6,rfl,λH7 F7 st7 sm7 ok7=>qj (.inr ⟨G.and p,F7,δ6,nm,δ3,ok7,ex,λH8 F8 st8 ok8=>q H8 F8 ?_ (st.trans ((st7.trans st8).sub hFs))⟩)⟩;have:=ok8.cut δi.length;rw[dl,t2]at this;rw[dl];exact this
  .split at el
   .rename_i o δ5 ef;obtain⟨δ6,b,δ7,es',eg,alt⟩:=rp ef;cases eg;refine kq okx rx es' λσ2 ok6 htake=>?_;have t2:σ2.take σ.length=σ:=by rw[htake _ hge,qa];rfl
    have tl2:=tail ok6 (qL es') t2;rcases alt with⟨_,y,δ8,ee,rfl,rfl⟩|⟨z,_⟩
    .refine⟨G.and p,F',δ6,true,δ6,ok6,rfl,λH7 F7 st7 sm7 ok7=>qj (.inl ⟨G.and p,F7,δ6,y,δ8,ok7,ee,λu H8 F8 st8 sm8 ok8 r8=>?_⟩)⟩;have s78:=st7.trans st8;have eD8:=(s78.res p _ (.inr rfl) hF eD).2;simp only[ag]at hl;refine⟨xs,eD8,∅,hN F8 _ _ ⟨δ8.take δi.length,xs++[u],tl2,?_,el,bI,by rw[az];simp only[ag,aL];lia,(st.trans (s78.sub hFs)).new hp⟩⟩;have:=(ok8.poke hg eD8 (xs++[u])).cut δi.length;rw[dl,t2]at this;rw[dl];exact this
    .cases z
   .cases el
 .rintro F' _ Hc ⟨δi,xs,_,ok,el,_⟩;cases el
def NB{y:aE}{t:aE}{w:L2.St->Hp->Prop}(ht:(ft t==0||ft t==7)=true)(hy:kH y (λ_ _=>true)=true)(h:PE X y λσ H _=>w σ H):PS X (.Assign [t] y pos) (λ_ σ H=>w σ H):=by
 obtain⟨n,np,as,p,rfl,_⟩:=dz hy;have hg:PG X t (λ_ _ _ _=>False):=λ_ _ _ _ _ _ _ _ _ z=>z.elim;rcases fG.mp ht with z|z
 .obtain⟨⟨_,_,rfl⟩,_⟩:=cK (b:=true) (by rw[cT];exact z);exact λpins s σ H D I q=>sr h hg rfl rfl rfl pins s σ H D I q
 .obtain⟨⟨_,_,_,rfl⟩,_⟩:=cK (b:=true) (by rw[cT];exact z);exact λpins s σ H D I q=>sr h hg rfl rfl rfl pins s σ H D I q
end
section
variable{X:Cx}{cls:List Str}{xs:List (Nat×Nat)}{c:Ck}{cx:Cl}{k:Nat}{W:L2.St->XK}(C:Cok X.nox c cx k)(Z:nK X W)(fr:X.ex=[]/\X.stack=X.env::X.outer/\X.env.frame=some X.env.locals)
 (fx:∀(f g:Nat)(x:Str)(ps:List Str),(f,g)∈xs->c.fns[f]?=some (x,ps)->∃a fd,X.mg x=some (.ref a)/\PySem.W.keepIn X.K (.ref a)=true/\Binds X.K fd ps []/\gB X.prog X.w X.K X.mg X.base (CXE X.prog X.w) k a fd ps (spX X.K X.mg (cx.call g)))
include C Z fr fx
mutual
theorem JL:∀(x:XE)(y:aE),ckX xs c x y=true->PE X y (λσ H _=>tX X.K X.mg W (xvE cx x) σ H)
 |.cal f g es,y,h=>by
  unfold ckX at h;rw[aa]at h;obtain⟨n,_,pe⟩:=IM C (uU fr.1 Z) (by simpa using h.1) h.2 fx
  exact PE.imp pe λσ H Q z=>Bw n z
 |.tup l,y,h=>by
  obtain⟨ys,_,_,rfl,h1⟩:=dH h
  exact PE.imp (wz (JM l ys h1).1) λσ H Q z=>z
 |.fn f g l,y,h=>by
  unfold ckX at h;rw[aa]at h;obtain⟨n,np,as,p,rfl,h1⟩:=dz h.2;split at h1
  .rename_i m ps hf;simp only[aa]at h1;obtain⟨⟨h1,h2⟩,h3⟩:=h1;obtain rfl:=of_decide_eq_true h1;obtain⟨a,fd,hm,hk,hb,fn⟩:=fx f g _ _ (by simpa using h.1) hf;obtain⟨g1,g2,g3⟩:=C.global h2;obtain⟨hA,y,ys,rfl,e1,e2⟩:=JM l as h3;exact PE.imp (uS (uU fr.1 Z) fn C.room g1 hm hk hb hA g2 e1 (e2 _)) λσ H Q z=>z
  .cases h1
 |.tot x,y,h=>by
  obtain⟨n,np,as,p,rfl,h1⟩:=dz h;obtain⟨z,rfl,h2⟩:=cy h1;simp only[aa]at h2;obtain⟨⟨h2,h3⟩,h4⟩:=h2;obtain rfl:=of_decide_eq_true h2;obtain⟨g1,g2,g3⟩:=C.global h3;have hs:=br (xN h4) [] X.env
  exact PE.imp (gZ (T:="tuple") (r:=λ_ _ _=>False) (λ_ _ _ _ _ _ _ _ _ z=>z.elim) g1 (C.blt _ ⇑0) rfl (MX (JL x z h4) iM hs) g3 g2 hs rfl) λσ H Q z=>z
 |.cmp kk tg src f g es,y,h=>by
  unfold ckX at h;rw[aa]at h;obtain⟨h0,h⟩:=h;obtain⟨_,_,_,_,rfl,hq1⟩:=lZ h;obtain⟨_,rfl,hq2⟩:=cy hq1;obtain⟨t,it,_,rfl,hq3⟩:=wJ hq2;split at hq3
  .rename_i ts ht;simp only[aa]at hq3;obtain⟨⟨⟨⟨⟨⟨⟨⟨h1,h2⟩,h3⟩,h4⟩,h5⟩,h6⟩,h7⟩,h8⟩,h9⟩:=hq3;have nd:=(iX h4).1;have hl:=jT (c:=c) (tg:=tg) (of_decide_eq_true h1);have hvis:=(iX h4).2;have cb:=λcl Ca s H fp=>gq C h3 nd cl Ca s H fp;intro pins s σ H Q I z;refine zK (Nc:=ma ts c.N++ts) (g:=gTg X.K tg) (wi:=tI X.K cx src) (tt:=tG X.K cx .no) (te:=λE' σ H Q=>tE X.K cx (.call f es) σ H Q\/tX X.K X.mg E' (xvF cx g es) σ H) Z fr.1 fr.2.1 fr.2.2 C.calm (⟨(ie C h3).kind,(ie C h3).nocell,(ie C h3).names,(ie C h3).free⟩) (λi x hi=>by rw[show X.N=c.N from C.hN]at hi |-;exact hvis i x hi) (by rw[show X.N=c.N from C.hN,hl];lia) ?_ (λcl Ca s H fp=>mO (cb cl Ca s H fp) h5) (λcl Ca s H fp=>JN .no _ _ _ (cb cl Ca s H fp) h7) (λcl Ca s H fp E' P=>?_) (λv=>mv h6 _ v) pins s σ H Q I ?_
   .exact PP.PI.nox (Ce src X.nox c _ _ C h6)
   .refine PP.PE.or (PE.nox (cn (.call f es) _ _ _ (cb cl Ca s H fp) h8)) ?_;obtain⟨n,_,pe⟩:=IM (X:=cxX X _ cl Ca _ s H fp) (cb cl Ca s H fp) P (by simpa using h0) h8 fx;exact PE.imp pe λσ H Q z=>Bw n z
   .obtain⟨G,F,δ,nm,δ',ok,ev,post⟩:=z;simp only[xvE]at ev;split at ev
    .rename_i ds δ1 ei;split at ev
     .rename_i hz;have ek:(ma ts c.N++ts).length-X.N.length=kk:=by rw[show X.N=c.N from C.hN,hl];lia
      rw[ek];refine⟨G,F,δ,ds,δ1,ok,ei,λJ H1 F1 st1 sm1 ok1 wk=>λp hp=>?_⟩;refine vz (E:=W σ) (by rw[I.len,show X.N=c.N from C.hN];exact h2) ok1 (wk _) hp hz ev λH2 F2 ok2 st2=>?_
      have st':Step G F1 H1 (λb=>F2 b/\b≠p) H2:=⟨st2.keep,λb z=>st2.grow b z.1,λb o r f e=>by
       obtain⟨a1,a2⟩:=st2.res b o r f e;exact⟨⟨a1,λw=>by rw[w,hp]at e;cases e⟩,a2⟩,st2.tb⟩
      exact post H2 _ (st1.trans st') (ok2.leave (ok1.free hp))
     .cases ev
    .cases ev
  .cases hq3
theorem JM:∀(l:XL)(ys:List aE),ckL xs c l ys=true->PA X ys (λσ H _=>tX X.K X.mg W (xvL cx l) σ H)/\∃z zs,ys=z::zs/\starEach (z::zs) X.env=(false,eval z X.env)::starEach zs X.env/\∀pos,(backTo pos (starEach zs X.env)).any (·.1)=false
 |.hd x es,ys,h=>by
  obtain⟨y,zs,rfl,h1⟩:=cD h;simp only[aa]at h1;have hs:=br (xN h1.1.1) zs X.env
  exact⟨MX (JL x y h1.1.1) (fu es X.nox c zs C h1.1.2 (gQ h1.2)).nox hs,y,zs,rfl,hs,λpos=>ib h1.1.2⟩
 |.tl e l,ys,h=>by
  obtain⟨y,zs,rfl,h1⟩:=cD h;simp only[aa]at h1;have hs:=br (bo h1.1.1) zs X.env;obtain⟨hA,z,zs',rfl,e1,e2⟩:=JM l zs h1.2;refine⟨λpos pins s σ H Q I q=>dQ (PE.nox (cn e X.nox c y C h1.1.1)) hA hs pos pins s σ H Q I ?_,y,_,rfl,hs,λpos=>?_⟩
  .obtain⟨G,F,δ,nm,δ',ok,ev,post⟩:=q;simp only[xvL]at ev;split at ev
   .rename_i d δ1 e1;exact⟨G,F,δ,d,δ1,ok,e1,λv H1 F1 st sm ok1 r=>⟨G,F1,δ1,nm,δ',ok1,ev,λH' F' st' ok'=>post H' F' (st.trans st') ok'⟩⟩
   .cases ev
  .rw[e1];exact e2 pos
end
end
section
variable{X:Cx}{cls:List Str}{xs:List (Nat×Nat)}{c:Ck}{cx:Cl}{k:Nat}{W:L2.St->XK}
variable(C:Cok X.nox c cx k)(hS:X.env.scope=c.sc)(hB:X.env.blockKind=.function)(Z:nK X W)(fr:X.ex=[]/\X.stack=X.env::X.outer/\X.env.frame=some X.env.locals)(Zm:cls≠[]->Rz X W)(hp:cls≠[]->nM (model X.prog X.w) X.A X.env X.xe)
 (fx:∀(f g:Nat)(x:Str)(ps:List Str),(f,g)∈xs->c.fns[f]?=some (x,ps)->∃a fd,X.mg x=some (.ref a)/\PySem.W.keepIn X.K (.ref a)=true/\Binds X.K fd ps []/\gB X.prog X.w X.K X.mg X.base (CXE X.prog X.w) k a fd ps (spX X.K X.mg (cx.call g)))
 (hcl:∀n,n∈cls->∃C,X.mg n=some (.ref C)/\VE X.K C=true)
include C hS hB Z fr Zm hp fx hcl
mutual
theorem NW:∀(r:R)(x:bE),ckR cls xs c r x=true->PS X x (tR X.K X.mg W (evR cx r))
 |.st s,x,h=>FR (PS.nox (FQ C hS hB s x h))
 |.rse n,x,h=>by
  simp only[ckR,aa]at h;obtain⟨np,t,j,j2,cp,pos,rfl⟩:=Dz h.1.1;obtain⟨C',hm,hC⟩:=hcl n (by simpa using h.2);obtain⟨g1,g2,g3⟩:=C.global h.1.2
  exact BY (Zm (by rintro rfl;simp at h)) C.calm g1 hm hC g2
 |.cal s l,x,h=>by
  simp only[ckR]at h;rw[aa]at h;have hO:=PS.nox (FQ C hS hB s x h.1);have hX:∀y,(l.all λe=>ckX xs c e y)=true->∀e,e∈l->PE X y (λσ H _=>tX X.K X.mg W (xvE cx e) σ H):=λy q e he=>JL C Z fr fx e y (bK.mp q e he);rcases fG.mp h.2 with h|h
  .obtain⟨y,pos,rfl,h1⟩:=uV h;obtain⟨y,rfl,h2⟩:=lr h1;exact pd hO λe he=>PS.imp (Cz (hX y h2 e he)) λD σ H q=>q
  rcases fG.mp h with h|h
  .obtain⟨y,pos,rfl,h1⟩:=sD h;rw[aa]at h1;refine pd hO λe he=>?_;have pe:=hX y h1.2 e he;obtain⟨n,np,as,p,rfl,_⟩:=dz h1.1;exact PS.imp (sk pe (by rfl)) λD σ H q=>q
  .obtain⟨ts,y,pos,rfl,h1⟩:=iV h;obtain⟨t,rfl,h2⟩:=cy h1;simp only[aa]at h2
   exact pd hO λe he=>NB h2.1.1 h2.1.2 (hX y h2.2 e he)
 |.ifs t a b,x,h=>by
  obtain⟨_,_,_,_,rfl,hq1⟩:=jY h;simp only[aa]at hq1
  exact Cb (PT.nox (lV t X.nox c _ C hq1.1.1)) (pb a _ hq1.1.2) (pb b _ hq1.2)
 |.fr tg src b,x,h=>by
  obtain⟨t,it,ys,_,_,rfl,hq1⟩:=uW h;obtain⟨rfl,hq2⟩:=dh hq1;simp only[aa]at hq2;obtain⟨⟨⟨h1,h2⟩,h3⟩,h4⟩:=hq2;exact FT (hp (by rintro rfl;simp at h4)) C.calm (PG.nox (mO C h1)) (PP.PI.nox (Ce src X.nox c _ _ C h2)) (λv=>mv h2 _ v) (pb b _ h3)
theorem pb:∀(rs:Rs)(zs:List bE),nW cls xs c rs zs=true->PSs X zs (tR X.K X.mg W (fL cx rs))
 |.nil,zs,h=>by
  obtain⟨rfl,_⟩:=dh h
  exact BZ
 |.cons r rs,zs,h=>by
  obtain⟨_,_,rfl,hq1⟩:=cD h;rw[aa]at hq1;exact zD (NW r _ hq1.1) (pb rs _ hq1.2)
end
end
inductive Qt where
 |isI (p:Str)|ty|an (a b:Qt)
def Qt.ev(up:List Str):Qt->Bool
 |.isI p=>up.contains p
 |.ty=>true
 |.an a b=>a.ev up&&b.ev up
def Lf:Option Sl->Bool
 |some .no=>true
 |_=>false
def Hf(h:Lf o=true):o=some .no:=by
 unfold Lf at h;split at h
 .rfl
 .cases h
def HA(c:Ck)(j:Nat)(ps:List Str):Qt->aE->Bool
 |.isI p,x=>kH x λf as=>on2 as λu v=>cq u (λn=>dI c j n)&&cq v (λm=>decide (m=p))&&decide (f=("isinstance":Str))&&di c f&&di c p&&ps.contains p
 |.ty,x=>kH x λf as=>on2 as λu v=>cq u (λn=>dI c j n)&&cq v (λm=>decide (m=("ValueError":Str)))&&decide (f=("isinstance":Str))&&di c f&&di c "ValueError"
 |.an a b,x=>zP x λo vs p=>onS vs λy r=>onS r λz r2=>(match o with
  |.And=>true
  |.Or=>false)&&HA c j ps a y&&HA c j ps b (match r2 with
  |[]=>z
  |_::_=>.BoolOp .And (z::r2) p)
structure Qk(Y:Cx)(c:Ck):Prop where
 nd:Y.N.Nodup
 name:∀{i x},dI c i x=true->Y.N[i]?=some x/\Vis Y.env.scope x/\(x==("__debug__":Str))=false/\(x==("__classdict__":Str))=false
 to:∀{i x},fR c i x=true->Y.N[i]?=some x/\L2.Loc Y.env.scope x/\(Y.fn x=true\/Y.env.scope.names.lookup x=some .local)
 glo:∀{x},di c x=true->Gl Y x/\(x==("__debug__":Str))=false/\x≠("__name__":Str)
 isi:Y.mg "isinstance"=none
 hz:Y.mg "ValueError"=none
structure Ao(X:Cx)(ps:List Str)(C:av)(up:List Str):Prop where
 ve:VE X.K C=true
 qc:pq X.K C=true
 sub:∀p,p∈ps->∃P,X.mg p=some (.ref P)/\VE X.K P=true/\subIn X.K C P=up.contains p
def tIt(i:Nat)(a:av)(b:Bool):TT:=λσ H Q=>σ[i]?=some (some (.ref a))/\Q b H
def PT.to(h:PT X e t)(w:∀σ H Q,u σ H Q->t σ H Q):PT X e u:=λpins s σ H Q I q=>h pins s σ H Q I (w σ H Q q)
section
variable{Y:Cx}{c:Ck}{ps:List Str}{j:Nat}{a C:av}{oe:Obj}{up:List Str}
 (K1:Qk Y c)(U:Ao Y ps C up)(hp:(a,oe)∈Y.pn)(hc:oe.cls=.ref C)
include K1 U hp hc
theorem Cc:∀(q:Qt)(x:aE),HA c j ps q x=true->PE Y x (L2.tI j a (q.ev up))/\PT Y x (tIt j a (q.ev up))/\∀o vs p,x=.BoolOp o vs p->PW Y x (tIt j a (q.ev up))
 |.isI p,x,h=>by
  obtain⟨f,np,as,pos,rfl,hq1⟩:=dz h;obtain⟨u,v,rfl,hq2⟩:=fQ hq1;simp only[aa]at hq2;obtain⟨⟨⟨⟨⟨h1,h2⟩,h3⟩,h4⟩,h5⟩,h6⟩:=hq2;obtain⟨n,np1,rfl,h1'⟩:=aY h1;obtain⟨m,mp,rfl,h2'⟩:=aY h2;obtain rfl:=of_decide_eq_true h2';obtain rfl:=of_decide_eq_true h3;obtain⟨P,hm,hP,hs⟩:=U.sub m (by simpa using h6);obtain⟨n1,n2,n3,n4⟩:=K1.name h1';obtain⟨g1,g2,g3⟩:=K1.glo h4;obtain⟨g4,g5,g6⟩:=K1.glo h5
  have key:PE Y (.Call (.Name "isinstance" np) [.Name n np1,.Name m mp] [] pos) (L2.tI j a ((Qt.isI m).ev up)):=by
   refine Gu (P:=P) (fH n1 n2 n3 n4) ?_ g1 K1.isi g4 hm g5;show cC Y _ (λxs H Q=>xs=[.ref a,.ref P]/\Q (.bl (up.contains m)) H);exact Lx hp hc U.ve U.qc hP hs
  exact⟨key,PT.to (wu key) (λσ H Q⟨e,q⟩=>⟨e,_,rfl,q⟩),λ_ _ _ z=>by cases z⟩
 |.ty,x,h=>by
  obtain⟨f,np,as,pos,rfl,hq1⟩:=dz h;obtain⟨u,v,rfl,hq2⟩:=fQ hq1;simp only[aa]at hq2;obtain⟨⟨⟨⟨h1,h2⟩,h3⟩,h4⟩,h5⟩:=hq2;obtain⟨n,np1,rfl,h1'⟩:=aY h1;obtain⟨m,mp,rfl,h2'⟩:=aY h2;obtain rfl:=of_decide_eq_true h2';obtain rfl:=of_decide_eq_true h3;obtain⟨n1,n2,n3,n4⟩:=K1.name h1';obtain⟨g1,g2,g3⟩:=K1.glo h4;obtain⟨g4,g5,g6⟩:=K1.glo h5
  have key:PE Y (.Call (.Name "isinstance" np) [.Name n np1,.Name "ValueError" mp] [] pos) (L2.tI j a (Qt.ty.ev up)) :=
   Gr (T:="ValueError") (fH n1 n2 n3 n4) (Lv hp hc U.ve U.qc ⇑0 ⇑0) g1 K1.isi g4 K1.hz rfl g6 g5
  exact⟨key,PT.to (wu key) (λσ H Q⟨e,q⟩=>⟨e,_,rfl,q⟩),λ_ _ _ z=>by cases z⟩
 |.an q1 q2,x,h=>by
  obtain⟨o,_,p,rfl,hq1⟩:=kz h;obtain⟨y,r,rfl,hq2⟩:=cD hq1;obtain⟨z,r2,rfl,hq3⟩:=cD hq2;simp only[aa]at hq3;obtain⟨⟨h0,h1⟩,h2⟩:=hq3;cases o<;>first|(cases h0;done)|skip
  obtain⟨a1,a2,a3⟩:=Cc q1 _ h1;obtain⟨b1,b2,b3⟩:=Cc q2 _ h2
  have kw:PW Y (.BoolOp .And (y::z::r2) p) (tIt j a ((Qt.an q1 q2).ev up)):=by
   have k2:PW Y (.BoolOp .And (y::z::r2) p) (Mz (tIt j a (q1.ev up)) (tIt j a (q2.ev up))):=by
    cases r2 with
    |nil=>exact wt a2 (yh b2)
    |cons w r=>exact wt a2 (b3 _ _ _ rfl)
   refine λwh pins s σ H Q I⟨e,q⟩=>k2 wh pins s σ H Q I ⟨e,?_⟩;have q':Q (q1.ev up&&q2.ev up) H:=q
   cases z1:q1.ev up with
   |true=>rw[z1]at q';exact qj ⟨e,q'⟩
   |false=>rw[z1]at q';exact sI q'
  refine⟨?_,kw.pt,λ_ _ _ _=>kw⟩
  cases r2 with
  |nil=>exact yu a1 (wB b1)
  |cons w r=>exact yu a1 b1
end
def tyB:bE->List bE
 |.Try b _ _ _ _=>b
 |_=>[]
def tyH:bE->List km
 |.Try _ h _ _ _=>h
 |_=>[]
def tyO:bE->List bE
 |.Try _ _ o _ _=>o
 |_=>[]
def tyF:bE->List bE
 |.Try _ _ _ f _=>f
 |_=>[]
def ehT:km->Option aE
 |.ExceptHandler t _ _ _=>t
def ehN:km->Option Str
 |.ExceptHandler _ n _ _=>n
def ehB:km->List bE
 |.ExceptHandler _ _ b _=>b
def Iw(x:bE)(k:List bE->Str->Str->bE->List bE->Bool):Bool:=(Fl x==2)&&on0 (tyO x) (on0 (tyF x) (on1 (tyH x) λh=>onO (ehT h) λe=>cq e λp=>onS (ehB h) λb r=>match ehN h with
 |some n=>k (tyB x) p n b r
 |none=>false))
def CV(h:Iw x k=true):∃body p n b r np hp pos,x=.Try body [.ExceptHandler (some (.Name p np)) (some n) (b::r) hp] [] [] pos/\k body p n b r=true:=by
 obtain⟨⟨body,hs,o,f,pos,rfl⟩,h1⟩:=yI h;obtain⟨e1,h2⟩:=dh h1;obtain⟨e2,h3⟩:=dh h2;obtain⟨⟨t,n,b,hp⟩,e3,h4⟩:=cy h3;obtain⟨y,e4,h5⟩:=lr h4;obtain⟨p,np,rfl,h6⟩:=aY h5;obtain⟨b0,r,e5,h7⟩:=cD h6;have e1:o=[]:=e1;have e2:f=[]:=e2;have e3:hs=[.ExceptHandler t n b hp]:=e3;have e4:t=some (.Name p np):=e4;have e5:b=b0::r:=e5;subst e1 e2 e3 e4 e5
 cases n with
 |none=>cases h7
 |some n=>exact⟨body,p,n,b0,r,np,hp,pos,rfl,h7⟩
def Ok.keepNo{K:PySem.W.Frag}{G:Gh}{F:av->Prop}{σ:L2.St}{H:Hp}{δ:Loc}(h:Ok K G F σ H δ){j:Nat}(e:δ[j]?=some .no)(v:Option V):Ok K G F (σ.set j v) H δ:=by
 refine⟨h.same,h.fd,h.rf,h.rl,h.tf,h.tabs,by rw[aZ];exact h.len,λi s hi=>?_,λi i' s t a e1 e2 o1 o2 a1 a2=>?_⟩
 .by_cases q:i=j
  .subst q;rw[e]at hi;cases hi;trivial
  .rw[aM (Ne.symm q)];exact h.sl i s hi
 .have n1:i≠j:=by rintro rfl;rw[e]at e1;cases e1;cases o1
  have n2:i'≠j:=by rintro rfl;rw[e]at e2;cases e2;cases o2
  rw[aM (Ne.symm n1)]at a1;rw[aM (Ne.symm n2)]at a2;exact h.apart i i' s t a e1 e2 o1 o2 a1 a2
section
variable{X:Cx}{c:Ck}{cx:Cl}{k:Nat}{ps:List Str}{xs:List (Nat×Nat)}{ups:List (Str×List Str)}
def Cok.tried(C:Cok X c cx k)(pn:List (av×Obj))(xe:ai->au->Prop):Cok (X.tried pn xe).nox c cx k:={C with xe:=rfl}
def iw(rs:Rs):Ss:=.cons (.opq λcx δ=>match fL cx rs δ with
 |some (.inl o)=>some o
 |_=>none) .nil
def NV(K1:Cok X c cx k)(hS:X.env.scope=c.sc)(hB:X.env.blockKind=.function)(fr:X.ex=[]/\X.stack=X.env::X.outer/\X.env.frame=some X.env.locals)
 (fx:∀(f g:Nat)(x:Str)(ps:List Str),(f,g)∈xs->c.fns[f]?=some (x,ps)->∃a fd,X.mg x=some (.ref a)/\PySem.W.keepIn X.K (.ref a)=true/\Binds X.K fd ps []/\gB X.prog X.w X.K X.mg X.base (CXE X.prog X.w) k a fd ps (spX X.K X.mg (cx.call g)))
 (hcl:∀n,n∈cls->∃C,X.mg n=some (.ref C)/\VE X.K C=true){rs:Rs}{zs:List bE}(h:nW cls xs c rs zs=true):PSs X zs (tS X.K (cU cx (iw rs))):=by
 have C':Cok X.nox c cx k:={K1 with xe:=rfl};refine PSs.imp (pb (X:=X) (W:=λ_=>E0) C' hS hB Ip.pass fr (λ_=>Ip) (λ_=>by rw[K1.xe];exact nq) fx hcl rs zs h) λD σ H zz=>?_;obtain⟨G,F,δ,o,ok,ev,post⟩:=zz;refine⟨G,F,δ,.inl o,ok,?_,post⟩;unfold iw at ev;simp only[cU,evS]at ev
 cases er:fL cx rs δ with
 |none=>rw[er]at ev;cases ev
 |some r =>
  rw[er]at ev
  cases r with
  |inr q=>cases ev
  |inl o1=>cases o1<;>(cases ev;rfl)
end
end PP
end
section
namespace L2
open PySem PySem.Spec PyProof.Rows
variable[PP.Tbs]
def SP.unpin{X:Cx}{q:av×Obj}{pins:List (av×Obj)}{D:Ends}(h:SP X (q::pins) D f s):SP X pins D f s:=by
 cases f with
 |next=>obtain⟨σ',H',I,q⟩:=h;exact⟨σ',H',I.unpin,q⟩
 |brk=>obtain⟨σ',H',I,q⟩:=h;exact⟨σ',H',I.unpin,q⟩
 |cont=>obtain⟨σ',H',I,q⟩:=h;exact⟨σ',H',I.unpin,q⟩
 |ret u=>obtain⟨v,σ',H',I,r,q⟩:=h;exact⟨v,σ',H',I.unpin,r,q⟩
def Cv{X:Cx}{i j:Nat}{x n y:Str}{P:av}{np hp pos np2 yp ap:Pos}{body rest:List bE}{tb:(St->XK)->TS}{tr:TS}{tk:av->av->TS}(hex:X.ex=[])(hst:X.stack=X.env::X.outer)(hfr:X.env.frame=some X.env.locals)
 (hg:Gl X x)(hm:X.mg x=some (.ref P))(hP:VE X.K P=true)(hd:(x==("__debug__":Str))=false)(hN:X.N.Nodup)(hj:X.N[j]?=some n)(hx:X.env.kindOf n=some .local)(hx2:X.env.scope.names.lookup n=some .local)(n3:(n==("__debug__":Str))=false)(n4:(n==("__classdict__":Str))=false)
 (hi:X.N[i]?=some y)(hy:L2.Loc X.env.scope y)(hy2:X.fn y=true\/X.env.scope.names.lookup y=some .local)
 (hb:∀(E:St->XK)(pn:List (av×Obj))(xe:ai->au->Prop),nK (X.tried pn xe) E->PSs (X.tried pn xe) body (tb E))
 (hr:PSs X rest tr)(hk:∀a C oe vs pn,oe.cls=.ref C->oe.data=.fields vs->(a,oe)∈pn->PSs (X.tried pn X.xe) rest (tk a C)) :
 PSs X (.Try body [.ExceptHandler (some (.Name x np)) (some n) [.Assign [.Name y yp] (.Name n np2) ap] hp] [] [] pos::rest) (λD σ H=>∃E:St->XK,tb E {D with nx:=tr D} σ H/\∀σ1 cls H1,E σ1 cls none H1->j<σ1.length/\∃C,cls=.ref C/\VE X.K C=true/\subIn X.K C P=true /\
  ∀a,tk a C D (((σ1.set j (some (.ref a))).set i (some (.ref a))).set j none) H1):=by
 intro pins s σ H D I h;obtain⟨E,hb1,hs1⟩:=h;refine tQ (wpAny_Try_except (cu (hb E (X.pn++pins) _ (λpins' σ1 H2 s1 a cls I1 fly q=>?_) [] s σ H _ I.tried hb1) (λf s1 h1=>?_) λ_ _ z=>z))
 .have fly':LY X pins H2 a cls s1.heap:=by
   obtain⟨oe,vs,a0,T,oT,ts,fl,he,hc,hd,h1,fr,hTe,hT,hdT,h3,nw⟩:=fly;exact⟨oe,vs,a0,T,oT,ts,fl,he,hc,hd,h1,fr,hTe,hT,hdT,h3,λb hb=>⟨(nw b hb).1,(nw b hb).2.1,(nw b hb).2.2.1,λp hp=>(nw b hb).2.2.2 p (bY _ hp)⟩⟩
  refine LK (Q:=λf s'=>match f with|.next=>wpAny (model X.prog X.w) X.A (execs rest X.env) (SP X pins D) X.xe s'|f=>SP X pins D f s') (EX:=X.xe) (I1.untried I.ok) fly' hex hst hfr hg hm hP hd ?_;obtain⟨hlt,C,e1,e2,e3,k⟩:=hs1 σ1 cls H2 q;refine⟨C,e1,e2,e3,λs2 oe vs I2 c1 c2=>?_⟩;refine ia I2 hN hj (.inl hx2) (v:=.ref a) rfl (λs3 I3=>?_) (.inr hx2);have suite:PSs (X.mrk a) [.Assign [.Name y yp] (.Name n np2) ap] (By (wb j) (pK i)):=Gm (Cy hN hi hy (fH hj (.inl hx2) n3 n4) (PP.head_swaps (x:=.Name n np2) rfl rfl _ _ _) hy2);refine cu (suite _ s3 _ H2 {nx:=λσ' H'=>σ'=(σ1.set j (some (.ref a))).set i (some (.ref a))/\H'=H2,rt:=λ_ _=>False} (I3.mrk a) ⟨_,bG hlt,rfl,rfl⟩) (λf s4 h4=>?_) λ_ _ z=>z
  cases f with
  |next =>
   obtain⟨σ4,H4,I4,rfl,rfl⟩:=h4;refine zR (I4.unmrk I.ok) hN hj hx λs5 I5=>?_
   exact cu (hk a C oe vs (X.pn++((a,oe)::pins)) c1 c2 (aO _ ay) [] s5 _ H4 D I5.tried (k a)) (λf s6 z=>(SP.untried I.ok z).unpin) λ_ _ z=>z
  |brk=>obtain⟨_,_,_,z⟩:=h4;exact z.elim
  |cont=>obtain⟨_,_,_,z⟩:=h4;exact z.elim
  |ret u=>obtain⟨_,_,_,_,_,z⟩:=h4;exact z.elim
 .have h2:=h1.untried I.ok
  cases f with
  |next =>
   obtain⟨σ',H',I',q⟩:=h2
   exact iQ (hr pins s1 σ' H' D I' q)
  |brk=>exact h2
  |cont=>exact h2
  |ret u=>exact h2
end L2
end
section
namespace PP
open PySem L2 PyProof.Rows
variable[Tbs]
inductive Ks where
 |skN (r:Ks)|tt (l:List Str) (b:Ss) (r:Ks)|qq (q:Qt) (b:Ss) (r:Ks)|rt (b:Ss)
def xU:Option Out->Option Out
 |some (.nx _)=>none
 |o=>o
def Ks.ev(up:List Str)(cx:Cl):Ks->Loc->Option Out
 |.skN r,δ=>r.ev up cx δ
 |.tt l b r,δ=>if l.any up.contains=true then xU (cU cx b δ)else r.ev up cx δ
 |.qq q b r,δ=>if q.ev up=true then xU (cU cx b δ)else r.ev up cx δ
 |.rt b,δ=>cU cx b δ
def kP(ups:List (Str×List Str))(rs:Rs)(i j:Nat)(post:Ss)(ks:Ks)(cx:Cl)(δ:Loc):Option Out:=match fL cx rs δ with
 |some (.inl (.nx δ1))=>cU cx post δ1
 |some (.inl o)=>some o
 |some (.inr (c,δ1))=>(match ups.lookup c with
  |some up=>if(Lf δ1[j]?&&decide (i<δ1.length))=true then ks.ev up cx (δ1.set i .no)else none
  |none=>none)
 |none=>none
def Lz(c:Ck)(ps:List Str):List Str->List aE->Bool
 |[],es=>on0 es true
 |p::l,es=>onS es λy ys=>cq y (λm=>decide (m=p))&&di c p&&ps.contains p&&Lz c ps l ys
def Oh:ue->Bool
 |.Is=>true
 |_=>false
def Og:Ie->Bool
 |.none=>true
 |_=>false
def Eh(c:Ck)(i:Nat)(ps:List Str):Ks->List bE->Bool
 |.skN r,zs=>onS zs λz zr=>(pF z λt ya yb=>on0 yb (qR t λy os es=>on1 os λo=>on1 es λe=>Oh o&&onC e Og&&cq y λn=>dI c i n))&&Eh c i ps r zr
 |.tt l b r,zs=>onS zs λz zr=>(pF z λt ya yb=>on0 yb (kH t λf as=>on2 as λu v=>cq u (λn=>dI c i n)&&jW v (λes=>Lz c ps l es)&&decide (f=("isinstance":Str))&&di c f&&decide (l.length<100)&&nV c b ya))&&Eh c i ps r zr
 |.qq q b r,zs=>onS zs λz zr=>(pF z λt ya yb=>on0 yb (HA c i ps q t&&nV c b ya))&&Eh c i ps r zr
 |.rt b,zs=>nV c b zs
def kT.stop{K:PySem.W.Frag}{G:Gh}{F:av->Prop}{H:Hp}{o:Out}{D D':Ends}(h:kT K G F H o D)(e:D'={D with nx:=D'.nx})(n:∀δ,o≠.nx δ):kT K G F H o D':=by
 rw[e]
 cases o with
 |nx δ=>exact absurd rfl (n δ)
 |rt d δ=>exact h
 |ro d δ=>exact h
def uG(h:xU x=some o):x=some o/\∀δ,o≠.nx δ:=by
 unfold xU at h;split at h
 .cases h
 .rename_i hn;exact⟨h,λδ e=>hn δ (by rw[h,e])⟩
def tKs(K:PySem.W.Frag)(i:Nat)(a:av)(ev:Loc->Option Out):TS:=λD σ H=>∃G F δ o,Ok K G F σ H δ/\δ[i]?=some .no/\σ[i]?=some (some (.ref a))/\ev δ=some o/\kT K G F H o D
section
variable{Y:Cx}{c:Ck}{cx:Cl}{k:Nat}{ps:List Str}{i:Nat}{a C:av}{oe:Obj}{up:List Str}
 (C1:Cok Y c cx k)(hS:Y.env.scope=c.sc)(hB:Y.env.blockKind=.function)(K1:Qk Y c)(U:Ao Y ps C up)(hp:(a,oe)∈Y.pn)(hc:oe.cls=.ref C)
include K1 U
theorem Im:∀(l:List Str)(es:List aE),Lz c ps l es=true->∃Ps:List av,PA Y es (λσ H Q=>Q (Ps.map V.ref) H)/\PySem.W.kitAny Y.K (.ref C) (Ps.map cj)=some (l.any up.contains)/\Ps.length=l.length
 |[],es,h=>by
  obtain⟨rfl,_⟩:=dh h
  exact⟨[],λpos pins s σ H Q I q=>iM pos pins s σ H Q I q,rfl,rfl⟩
 |p::l,es,h=>by
  obtain⟨y,ys,rfl,h1⟩:=cD h;simp only[aa]at h1;obtain⟨⟨⟨h1,h2⟩,h3⟩,h4⟩:=h1;obtain⟨m,mp,rfl,h5⟩:=aY h1;obtain rfl:=of_decide_eq_true h5;obtain⟨Ps,hA,hk,hl⟩:=Im l ys h4;obtain⟨P,hm,hP,hs⟩:=U.sub m (by simpa using h3);obtain⟨g1,g2,g3⟩:=K1.glo h2;refine⟨P::Ps,λpos pins s σ H Q I q=>dQ (CM g1 hm g2) hA (br rfl _ _) pos pins s σ H Q I q,?_,by rw[ag,hl];rfl⟩;rw[aw,dG];unfold PySem.W.kitAny;rw[yH U.ve hP hs]
  cases up.contains m with
  |true=>rfl
  |false=>exact hk
include C1 hS hB hp hc
theorem xX:∀(q:Ks)(zs:List bE),Eh c i ps q zs=true->PSs Y zs (tKs Y.K i a (q.ev up cx))
 |.skN r,zs,h=>by
  obtain⟨z,zr,rfl,h1⟩:=cD h;rw[aa]at h1;obtain⟨t,ya,yb,pos,rfl,h2⟩:=jY h1.1;obtain⟨rfl,h3⟩:=dh h2;obtain⟨y,os,es,p,rfl,h4⟩:=fy h3;obtain⟨o,rfl,h5⟩:=cy h4;obtain⟨e,rfl,h6⟩:=cy h5;simp only[aa]at h6;obtain⟨⟨h6,h7⟩,h8⟩:=h6;obtain⟨n,np,rfl,h9⟩:=aY h8;obtain⟨v,vn,vp,rfl,h10⟩:=jt h7;cases o<;>first|(cases h6;done)|skip
  cases v<;>first|(cases h10;done)|skip
  obtain⟨n1,n2,n3,n4⟩:=K1.name h9;refine PSs.imp (jV (uP (a:=ya) (t:=λ_ _ _=>False) (JW (Kl (fH n1 n2 n3 n4)) (by rfl)) (λ_ _ _ _ _ _ z=>z.elim) lX) (xX r zr h1.2)) λD σ H zz=>?_;obtain⟨G,F,δ,o,ok,d1,d2,ev,post⟩:=zz
  exact⟨_,d2,false,rfl,sI ⟨G,F,δ,o,ok,d1,d2,ev,post⟩⟩
 |.tt l b r,zs,h=>by
  obtain⟨z,zr,rfl,h1⟩:=cD h;rw[aa]at h1;obtain⟨t,ya,yb,pos,rfl,h2⟩:=jY h1.1;obtain⟨rfl,h3⟩:=dh h2;obtain⟨f,fp,as,p,rfl,h4⟩:=dz h3;obtain⟨u,v,rfl,h5⟩:=fQ h4;simp only[aa]at h5;obtain⟨⟨⟨⟨⟨h5,h6⟩,h7⟩,h8⟩,h9⟩,h10⟩:=h5;obtain rfl:=of_decide_eq_true h7;obtain⟨n,np,rfl,h11⟩:=aY h5;obtain⟨es,en,ep,rfl,h12⟩:=dH h6;obtain⟨n1,n2,n3,n4⟩:=K1.name h11;obtain⟨g1,g2,g3⟩:=K1.glo h8;obtain⟨Ps,hA,hk,hl⟩:=Im K1 U l es h12;have hV:PE Y (.Name n np) (wb i):=fH n1 n2 n3 n4;have hT:=gz (pos:=p) (p:=fp) (Lw hp hc U.ve U.qc hk) g1 K1.isi rfl (dQ hV (dQ (wz (x1:=en) (pos:=ep) hA) iM rfl) rfl) ⇑0 ⇑0 rfl rfl;refine PSs.imp (jV (uP (wu hT) (kN C1 hS hB b ya h10) lX) (xX r zr h1.2)) λD σ H zz=>?_;obtain⟨G,F,δ,o,ok,d1,d2,ev,post⟩:=zz;refine⟨_,d2,by rw[ak,hl];exact aX (cG (of_decide_eq_true h9)) ⇑0,λtp hn=>⟨tp,rfl,bI,_,rfl,?_⟩⟩;obtain⟨l1,l2,_⟩:=ok.laid hn (.tup (Ps.map V.ref));unfold Ks.ev at ev
  cases z1:l.any up.contains with
  |true =>
   rw[if_pos z1]at ev;obtain⟨e1,e2⟩:=uG ev
   exact qj ⟨G,F,δ,o,l1,e1,(post.step l2).stop rfl e2⟩
  |false =>
   rw[if_neg (by rw[z1];simp)]at ev
   exact sI ⟨G,F,δ,o,l1,d1,d2,ev,post.step l2⟩
 |.qq q b r,zs,h=>by
  obtain⟨z,zr,rfl,h1⟩:=cD h;rw[aa]at h1;obtain⟨t,ya,yb,pos,rfl,h2⟩:=jY h1.1;obtain⟨rfl,h3⟩:=dh h2;rw[aa]at h3;refine PSs.imp (jV (uP (Cc K1 U hp hc q t h3.1).2.1 (kN C1 hS hB b ya h3.2) lX) (xX r zr h1.2)) λD σ H zz=>?_;obtain⟨G,F,δ,o,ok,d1,d2,ev,post⟩:=zz;refine⟨d2,?_⟩;unfold Ks.ev at ev
  cases z1:q.ev up with
  |true =>
   rw[if_pos z1]at ev;obtain⟨e1,e2⟩:=uG ev
   exact qj ⟨G,F,δ,o,ok,e1,post.stop rfl e2⟩
  |false =>
   rw[if_neg (by rw[z1];simp)]at ev
   exact sI ⟨G,F,δ,o,ok,d1,d2,ev,post⟩
 |.rt b,zs,h=>PSs.imp (kN C1 hS hB b zs h) λD σ H⟨G,F,δ,o,ok,d1,d2,ev,post⟩=>⟨G,F,δ,o,ok,ev,post⟩
end
def Ok.setNo{K:PySem.W.Frag}{G:Gh}{F:av->Prop}{σ:L2.St}{H:Hp}{δ:Loc}(h:Ok K G F σ H δ)(i:Nat)(v:Option V):Ok K G F (σ.set i v) H (δ.set i .no):=by
 refine⟨h.same,h.fd,h.rf,h.rl,h.tf,h.tabs,by rw[aZ,aZ];exact h.len,λl s hl=>?_,λl l' s t a e1 e2 o1 o2 a1 a2=>?_⟩
 .by_cases q:l=i
  .subst q;rw[jf]at hl;simp only[↓reduceIte]at hl;split at hl
   .cases hl;trivial
   .cases hl
  .rw[aM (Ne.symm q)]at hl |-;exact h.sl l s hl
 .have n1:l≠i:=by
   rintro rfl;rw[jf]at e1;simp only[↓reduceIte]at e1;split at e1
   .cases e1;cases o1
   .cases e1
  have n2:l'≠i:=by
   rintro rfl;rw[jf]at e2;simp only[↓reduceIte]at e2;split at e2
   .cases e2;cases o2
   .cases e2
  rw[aM (Ne.symm n1)]at e1 a1;rw[aM (Ne.symm n2)]at e2 a2;exact h.apart l l' s t a e1 e2 o1 o2 a1 a2
def kS(ups:List (Str×List Str))(rs:Rs)(i j:Nat)(post:Ss)(ks:Ks):List S->Ss
 |[]=>.cons (.opq (kP ups rs i j post ks)) .nil
 |s::l=>.cons s (kS ups rs i j post ks l)
def ckK(c:Ck)(xs:List (Nat×Nat))(ps:List Str)(ups:List (Str×List Str))(rs:Rs)(i j:Nat)(post:Ss)(ks:Ks):List S->List bE->Bool
 |[],zs=>onS zs λz zr=>(Iw z λbody p n b r=>on0 r (nE b λts y=>on1 ts λt=>cq t (λt=>fR c i t)&&cq y λy=>decide (y=n))&&dI c j n&&nW [] xs c rs body&&di c p&&ps.contains p&&decide (c.sc.names.lookup n=some .local)&&decide (i≠j)&&ups.all λu=>u.2.contains p)&&nV c post zr&&Eh c i ps ks zr
 |s::l,zs=>onS zs λz zr=>ckS c s z&&ckK c xs ps ups rs i j post ks l zr
section
variable{X:Cx}{c:Ck}{cx:Cl}{k:Nat}{ps:List Str}{xs:List (Nat×Nat)}{ups:List (Str×List Str)}
def MB(K1:Cok X c cx k)(hS:X.env.scope=c.sc)(hB:X.env.blockKind=.function)(hz:X.mg "ValueError"=none)(fr:X.ex=[]/\X.stack=X.env::X.outer/\X.env.frame=some X.env.locals)
 (fx:∀(f g:Nat)(x:Str)(ps:List Str),(f,g)∈xs->c.fns[f]?=some (x,ps)->∃a fd,X.mg x=some (.ref a)/\PySem.W.keepIn X.K (.ref a)=true/\Binds X.K fd ps []/\gB X.prog X.w X.K X.mg X.base (CXE X.prog X.w) k a fd ps (spX X.K X.mg (cx.call g)))
 (hps:∀p,p∈ps->∃P,X.mg p=some (.ref P)/\VE X.K P=true)(hup:∀n up,ups.lookup n=some up->∃C,X.mg n=some (.ref C)/\Ao X ps C up){rs:Rs}{i j:Nat}{post:Ss}{ks:Ks}:∀(l:List S)(zs:List bE),ckK c xs ps ups rs i j post ks l zs=true->PSs X zs (tS X.K (cU cx (kS ups rs i j post ks l)))
 |s::l,zs,h=>by
  obtain⟨_,_,rfl,hq⟩:=cD h;rw[aa]at hq
  exact qK (FQ K1 hS hB s _ hq.1) (MB K1 hS hB hz fr fx hps hup l _ hq.2)
 |[],zs,h=>by
  obtain⟨z,zr,rfl,h0⟩:=cD h;rw[aa,aa]at h0;obtain⟨⟨h,hpost⟩,hks⟩:=h0;obtain⟨body,p,n,b,r,np,hp,pos,rfl,h9⟩:=CV h;simp only[aa]at h9;obtain⟨⟨⟨⟨⟨⟨⟨h1,h2⟩,h3⟩,h4⟩,h5⟩,h6⟩,h7⟩,h8⟩:=h9;obtain⟨rfl,h9⟩:=dh h1;obtain⟨ts,y,ap,rfl,h10⟩:=iV h9;obtain⟨t,rfl,h11⟩:=cy h10;rw[aa]at h11;obtain⟨t,tp,rfl,h12⟩:=aY h11.1;obtain⟨y,np2,rfl,h13⟩:=aY h11.2;obtain rfl:=of_decide_eq_true h13;have h6:=of_decide_eq_true h6;have hne:=of_decide_eq_true h7;obtain⟨g1,g2,g3⟩:=K1.global h4;obtain⟨f1,f2,f3⟩:=fr;obtain⟨m1,m2,m3,m4⟩:=K1.name h2;obtain⟨n1,n2,n3⟩:=K1.to h12;obtain⟨P,hm,hP⟩:=hps p (by simpa using h5);refine PSs.imp (Cv (i:=i) (j:=j) (P:=P) (tb:=λE=>tR X.K X.mg E (fL cx rs)) (tr:=tS X.K (cU cx post)) (tk:=λa C D σ H=>∃up,Ao X ps C up/\tKs X.K i a (ks.ev up cx) D σ H) f1 f2 f3 g1 hm hP g2 K1.nd' m1 (show X.env.scope.names.lookup y=some .local by rw[hS];exact h6) (show X.env.scope.names.lookup y=some .local by rw[hS];exact h6) m3 m4 n1 n2 n3 (λE pn xe hpass=>?_) (kN K1 hS hB post zr hpost) (λa C oe vs pn c1 c2 hp=>?_)) λD σ H⟨G,F,δ,o,ok,ev,pst⟩=>?_
  .exact pb (X:=X.tried pn xe) (cls:=[]) (K1.tried pn xe) hS hB hpass ⟨f1,f2,f3⟩ (λz=>absurd rfl z) (λz=>absurd rfl z) fx (λn z=>by simp at z) rs body h3
  .intro pins s σ H D I ⟨up,U,q⟩;exact PSs.nox (X:=X.tried pn X.xe) (xX (Y:=(X.tried pn X.xe).nox) (K1.tried pn X.xe) hS hB ⟨K1.nd',λh=>K1.name h,λh=>K1.to h,λh=>K1.global h,K1.blt _ ⇑0,hz⟩ ⟨U.ve,U.qc,U.sub⟩ hp c1 ks zr hks) pins s σ H D I q
  .have ev:kP ups rs i j post ks cx δ=some o:=by
    unfold kS at ev;simp only[cU,evS]at ev
    cases e:kP ups rs i j post ks cx δ with
    |none=>rw[e]at ev;cases ev
    |some o1=>rw[e]at ev;cases o1<;>exact ev
   unfold kP at ev;refine⟨λσ1 u _ H1=>∃nm δ1 F1,fL cx rs δ=some (.inr (nm,δ1))/\X.mg nm=some u/\Step G F H F1 H1/\Ok X.K G F1 σ1 H1 δ1,?_,?_⟩
   .cases er:fL cx rs δ with
    |none=>rw[er]at ev;cases ev
    |some r =>
     rw[er]at ev;refine⟨G,F,δ,r,ok,er,?_⟩
     cases r with
     |inl o1 =>
      cases o1 with
      |nx δ1=>exact λσ' H' F' st ok'=>⟨G,F',δ1,o,ok',ev,pst.step st⟩
      |rt d δ1=>cases ev;exact pst
      |ro d δ1=>cases ev;exact pst
     |inr q =>
      obtain⟨nm,δ1⟩:=q;dsimp only at ev;split at ev
      .rename_i up hl;obtain⟨C,hC,_⟩:=hup nm up hl;exact λσ' H' F' st ok'=>⟨_,hC,nm,δ1,F',rfl,hC,st,ok'⟩
      .cases ev
   .rintro σ1 u H1 ⟨nm,δ1,F1,er,hu,st,ok1⟩;rw[er]at ev;dsimp only at ev;split at ev
    .rename_i up hl;obtain⟨C,hC,U⟩:=hup nm up hl;rw[hu]at hC;cases hC;obtain⟨P',hm',_,hs⟩:=U.sub p (by simpa using h5);rw[hm]at hm';cases hm';split at ev
     .rename_i hn;rw[aa]at hn;have hj:=Hf hn.1;have hil:=of_decide_eq_true hn.2;have hlj:j<σ1.length:=by rw[<- ok1.len];exact(aF.mp hj).1
      refine⟨hlj,C,rfl,U.ve,?_,λa=>⟨up,U,G,F1,_,o,((ok1.keepNo hj _).setNo i _).keepNo ?_ none,bG hil,?_,ev,pst.step st⟩⟩
      .rw[hs];have hmem:(nm,up)∈ups:=PySem.mem_of_lookup hl;exact bK.mp h8 _ hmem
      .rw[aM hne];exact hj
      .rw[aM (Ne.symm hne)];exact bG (by rw[aZ,<- ok1.len];exact hil)
     .cases ev
    .cases ev
end
class Xs where
 xs:List (Nat×Nat)
variable[Xs]
def FX(X:Cx)(cf:List (Str×List Str))(cx:Cl)(k:Nat):Prop:=(X.ex=[]/\X.stack=X.env::X.outer/\X.env.frame=some X.env.locals)/\∀(f g:Nat)(x:Str)(ps:List Str),(f,g)∈Xs.xs->cf[f]?=some (x,ps)->∃a fd,X.mg x=some (.ref a)/\PySem.W.keepIn X.K (.ref a)=true/\Binds X.K fd ps []/\gB X.prog X.w X.K X.mg X.base (CXE X.prog X.w) k a fd ps (spX X.K X.mg (cx.call g))
def gc(rs:Rs):Ss:=.cons (.opq λcx δ=>match fL cx rs δ with
 |some (.inr (c,δ1))=>some (.rt (.str c) δ1)
 |_=>none) .nil
structure Dn(K:PySem.W.Frag)(mgv:Str->Option ai)(cf:List (Str×List Str))(gn:List Str)(fd:Fd)(st:bE)(a:av)(fdd:dZ):Prop where
 fn:Fun K fd.name fd.name st a fdd
 mg:mgv fd.name=some (.ref a)
 sc:kE (fd.ps++fd.loc) fd.ps (aU st)
 ck:nV ⟨fd.ps++fd.loc,aU st,cf,gn⟩ fd.body (dt st)=true\/∀(X:Cx)(cx:Cl)(k:Nat),Cok X ⟨fd.ps++fd.loc,aU st,cf,gn⟩ cx k->X.env.scope=aU st->X.env.blockKind=.function->X.K=K->X.mg=mgv->FX X cf cx k->PSs X (dt st) (tS K (cU cx fd.body))
 bd:Binds K fdd fd.ps []
def yZ(K:PySem.W.Frag)(mg:Str->Option ai)(cf:List (Str×List Str))(gn:List Str):List Fd->Prop
 |[]=>True
 |fd::r=>(∃st a fdd,Dn K mg cf gn fd st a fdd)/\yZ K mg cf gn r
def mZ{K:PySem.W.Frag}{mg:Str->Option ai}{cf:List (Str×List Str)}{gn:List Str}:∀{G:List Fd}{i:Nat}{fd:Fd},yZ K mg cf gn G->G[i]?=some fd->∃st a fdd,Dn K mg cf gn fd st a fdd
 |[],_,_,_,e=>by simp at e
 |f::r,0,fd,h,e=>by
  cases e
  exact h.1
 |f::r,i+1,fd,h,e=>mZ (i:=i) h.2 (by simpa using e)
def cfOf(G:List Fd):List (Str×List Str):=G.map λfd=>(fd.name,fd.ps)
structure Top(w:bA)(K:PySem.W.Frag)(mg:Str->Option ai)(G Gd:List Fd)(gl:List D)(gn:List Str):Prop where
 fns:yZ K mg (cfOf Gd) gn Gd
 sub:∀(i:Nat)(fd:Fd),Gd[i]?=some fd->G[i]?=some fd
 xw:∀i g,(i,g)∈Xs.xs->∃fd st a fdd,Gd[i]?=some fd/\Dn K mg (cfOf Gd) gn fd st a fdd/\∃rs cls,G[g]?=some ⟨fd.name,fd.ps,fd.loc,gc rs,false⟩/\nW cls Xs.xs ⟨fd.ps++fd.loc,aU st,cfOf Gd,gn⟩ rs (dt st)=true/\∀n,n∈cls->∃C,mg n=some (.ref C)/\VE K C=true
 few:G.length<=sv
 blt:∀x,x∈jd->mg x=none
 glob:∀(g:Nat)(x:Str)(d:D),gn[g]?=some x->gl[g]?=some d->∃u v,mg x=some u/\RelV v u/\∀H F,Rel K H F d v
 gsome:∀(g:Nat)(x:Str),gn[g]?=some x->∃d,gl[g]?=some d
 gds:∀(n:Str)(l:List (Str×Int)),Tbs.gds.lookup n=some l->∃a,mg n=some (.ref a)/\GdK w K a l
 dfs:∀f∈Tbs.dfs,∃fd st a fdd,Gd[f]?=some fd/\Dn K mg (cfOf Gd) gn fd st a fdd/\Binds K fdd fd.ps [.none]
def oX{K:PySem.W.Frag}{H:Hp}{F:av->Prop}{ds:List D}{vs:List V}{N:List Str}(fd:FD F H)(tf:TF F)(tb:lC H)(r:aH K H F ds vs)(hl:vs.length<=N.length):Ok K ⟨H,λb=>F b/\∃o,H b=some o/\Mo o⟩ F (start N vs) H (init N.length ds):=by
 have hlen:=r.length
 have low:∀(i:Nat)(s:Sl),(init N.length ds)[i]?=some s->s=.no\/∃d,ds[i]?=some d/\s=.val d:=λi s e=>by
  unfold init at e;by_cases hi:i<ds.length
  .rw[cw (by simpa using hi),bH,aN hi]at e;cases e;exact .inr ⟨_,aN hi,rfl⟩
  .rw[fi (by simp;omega),fZ]at e;split at e
   .cases e;exact .inl rfl
   .cases e
 refine⟨Sim.refl H,fd,λb z=>z.1,λb z=>z.2,tf,tb,?_,λi s e=>?_,λi j s t a e1 _ o1=>?_⟩
 .unfold init L2.start;simp only[az,ak,cQ];omega
 .rcases low i s e with rfl|⟨d,e1,rfl⟩
  .trivial
  .obtain⟨v,hv,rv⟩:=r.get e1;refine⟨v,?_,rv⟩;unfold L2.start;have hi:i<vs.length:=(aF.mp hv).1;rw[cw (by simpa using hi),bH,hv];rfl
 .rcases low i _ e1 with z|⟨d,_,z⟩<;>(subst z;cases o1)
def AJ(rs:Rs)(np n:Nat)(cx:Cl)(ds:List D):Option D:=if ds.length=np then(match fL cx rs (init n ds)with
 |some (.inr (c,_))=>some (.str c)
 |_=>none)else none
def okX{P:aP}{w:bA}{K:PySem.W.Frag}{mg:Str->Option ai}{base:bV}{x qual:Str}{st:bE}{f:av}{fd:dZ}{N ps:List Str}{n:Nat}{cls:List Str}{xs:List (Nat×Nat)}{cf:List (Str×List Str)}{gn:List Str}{cx:Cl}{rs:Rs}(F:Fun K x qual st f fd)(S:kE N ps (aU st))(hps:ps.length<=N.length)
 (C:∀(A:bB)(outer:List Env)(s:au)(H:Hp)(E:XK),jL n (A.deeper (envOfC qual (aU st) s.heap.objs.size f fd.code))->Cok (ka (CXE P w) P w K mg base N qual (aU st) f fd.code A outer s H E).nox ⟨N,aU st,cf,gn⟩ cx n)
 (fx:∀(f g:Nat)(x:Str)(ps:List Str),(f,g)∈xs->cf[f]?=some (x,ps)->∃a fd,mg x=some (.ref a)/\PySem.W.keepIn K (.ref a)=true/\Binds K fd ps []/\gB P w K mg base (CXE P w) n a fd ps (spX K mg (cx.call g)))
 (hcl:∀n,n∈cls->∃C,mg n=some (.ref C)/\VE K C=true)
 (ck:nW cls xs ⟨N,aU st,cf,gn⟩ rs (dt st)=true):gB P w K mg base (CXE P w) (n+1) f fd ps (spX K mg (AJ rs ps.length N.length cx)):=by
 obtain⟨oc,od,dV,kV,doc,pm,an,cdv,ct,osl,rfl,lk,hcd⟩:=F.ex;refine IH lk hcd S (λvs H Q E h=>?_) λA outer s H vs Q E hr hsp=>?_
 .obtain⟨F,ds,c,u,_,_,_,r,e,_⟩:=h;unfold AJ at e;split at e
  .rename_i hl;rw[r.length];exact hl
  .cases e
 .obtain⟨F,ds,c,u,hfd,htf,tb,r,e,hm,q⟩:=hsp;unfold AJ at e;split at e
  .rename_i hl
   have hblk:(ka (CXE P w) P w K mg base N qual (aU st) f cdv A outer s H E).env.blockKind=.function:=by
    unfold Env.blockKind;show(if(aU st).kind.isAnnotationScope then vL else(aU st).kind)=_;rw[S.kind];rfl
   refine⟨_,pb (W:=λ_=>E) (C A outer s H E hr) rfl hblk Iu ⟨rfl,rfl,rfl⟩ (λ_=>ME) (λ_=>PassesOwn.leaving) fx hcl rs _ ck,?_⟩
   cases ev:fL cx rs (init N.length ds)with
   |none=>rw[ev]at e;cases e
   |some o =>
    rw[ev]at e
    cases o with
    |inl o=>cases e
    |inr p =>
     obtain⟨c',δ'⟩:=p;cases e;exact⟨_,F,_,_,oX hfd htf tb r (by rw[r.length,hl];exact hps),ev,λσ' H' F' st ok'=>⟨u,hm,q H' ok'.same ok'.tabs⟩⟩
  .cases e
def grow{K:PySem.W.Frag}{H H':Hp}{F F':av->Prop}{σ:L2.St}{δ:Loc}(hfd:FD F H)(ok:Ok K ⟨H,λb=>F b/\∃o,H b=some o/\Mo o⟩ F' σ H' δ)(b:av)(z:F b):F' b:=by
 obtain⟨o,e,m|⟨⟨ps,rfl⟩,t,ht,eb⟩⟩:=hfd b z
 .exact ok.rf b ⟨z,o,e,m⟩
 .rw[<- eb];exact ok.tf t ht
def okC{P:aP}{w:bA}{K:PySem.W.Frag}{mg:Str->Option ai}{base:bV}{x qual:Str}{st:bE}{f:av}{fd:dZ}{N ps:List Str}{k:Nat}{sp:Sp}(F:Fun K x qual st f fd)(S:kE N ps (aU st))(len:∀vs H Q E,sp vs H Q E->vs.length=ps.length)
 (hbody:∀(A:bB)(outer:List Env)(s:au)(H:Hp)(vs:List V)(Q:VK)(E:XK),jL k (A.deeper (envOfC qual (aU st) s.heap.objs.size f fd.code))->sp vs H Q E ->
   ∃t,PSs (ka CX0 P w K mg base N qual (aU st) f fd.code A outer s H E).nox (dt st) t/\t {nx:=λ_ H'=>Q .non H',rt:=Q} (L2.start N vs) H):gB P w K mg base CX0 (k+1) f fd ps sp:=by
 obtain⟨oc,od,dV,kV,doc,pm,an,cdv,ct,osl,rfl,lk,hcd⟩:=F.ex;refine IH lk hcd S len λA outer s H vs Q E hr hsp=>?_;obtain⟨t,h,q⟩:=hbody A outer s H vs Q E hr hsp;exact⟨t,h.nox,q⟩
section
variable{P:aP}{w:bA}{K:PySem.W.Frag}{mg:Str->Option ai}{base:bV}{G Gd:List Fd}{gl:List D}{gn:List Str}
def BM(mg:Str->Option ai)(base:bV):Prop:=∃bm ob,mg "__builtins__"=some (.ref bm)/\bm≠builtinsNs/\base.get? bm=some ob/\ob.cls=.type "module"/\ob.dict=some builtinsNs/\ob.data=.plain
def sd{n i:Nat}{fd:Fd}(e:G[i]?=some fd){ds:List D}{d:D}(h:run G gl (n+1) i ds=some d):ds.length=fd.ps.length/\∃δ,entry fd.hf (fd.ps++fd.loc).length ds=some δ/\outD (cU ⟨run G gl n,gl,hfs G⟩ fd.body δ)=some d:=by
 unfold run at h;rw[e]at h;dsimp only at h;split at h
 .cases q:entry fd.hf (fd.ps++fd.loc).length ds with
  |none=>rw[q]at h;cases h
  |some δ=>rw[q]at h;exact⟨‹_›,δ,rfl,h⟩
 .cases h
def yv{n i:Nat}{fd:Fd}(few:G.length<=sv)(e:G[i]?=some fd){ds:List D}{d:D}(h:run G gl (n+1) (i+sv) ds=some d):ds.length=fd.ps.length/\∃δ,entry fd.hf (fd.ps++fd.loc).length ds=some δ/\Km (cU ⟨run G gl n,gl,hfs G⟩ fd.body δ)=some d:=by
 unfold run at h;rw[gC (by omega)]at h;dsimp only at h;rw[Nat.add_sub_cancel,e]at h;dsimp only at h;split at h
 .cases q:entry fd.hf (fd.ps++fd.loc).length ds with
  |none=>rw[q]at h;cases h
  |some δ=>rw[q]at h;exact⟨(‹_/\_›).2,δ,rfl,h⟩
 .cases h
def Me{G:List Fd}{gl:List D}{n g:Nat}{nm:Str}{ps loc:List Str}{rs:Rs}(e:G[g]?=some ⟨nm,ps,loc,gc rs,false⟩){ds:List D}{c:Str}(h:run G gl (n+1) g ds=some (.str c)):AJ rs ps.length (ps++loc).length ⟨run G gl n,gl,hfs G⟩ ds=some (.str c):=by
 obtain⟨hl,δ,e1,h2⟩:=sd e h;cases e1;unfold AJ;rw[if_pos hl];unfold gc at h2;simp only[cU,evS]at h2
 cases q:fL ⟨run G gl n,gl,hfs G⟩ rs (init (ps++loc).length ds)with
 |none=>rw[q]at h2;cases h2
 |some o =>
  rw[q]at h2
  cases o with
  |inl o=>cases h2
  |inr p=>cases h2;rfl
def Lk{P:aP}{w:bA}{K:PySem.W.Frag}{mg:Str->Option ai}{base:bV}{n:Nat}{a:av}{fd:dZ}{ps:List Str}{f f':List D->Option D}(F:gB P w K mg base (CXE P w) n a fd ps (spX K mg f))(h:∀ds c,f' ds=some (.str c)->f ds=some (.str c)):gB P w K mg base (CXE P w) n a fd ps (spX K mg f'):=by
 have im:∀vs H Q E,spX K mg f' vs H Q E->spX K mg f vs H Q E:=λvs H Q E⟨F,ds,c,u,a1,a2,a3,a4,e,a5⟩=>⟨F,ds,c,u,a1,a2,a3,a4,h _ _ e,a5⟩;exact⟨λvs H Q E q=>F.len vs H Q E (im vs H Q E q),λA outer s H args us vs Q E h1 h2 h3 h4 q=>F.run A outer s H args us vs Q E h1 h2 h3 h4 (im vs H Q E q)⟩
def qU{H:Hp}{F:av->Prop}{ds:List D}{vs:List V}(r:aH K H F ds vs){k:Nat}{cs:List D}(e:ds.getLast?=some (.fn k cs)):False:=by
 rw[fC]at e;obtain⟨v,_,rv⟩:=r.get e;unfold Rel at rv;exact rv
def uO{n f:Nat}{ds:List D}(z:n=0):run G gl n f ds=none:=by
 subst z;rfl
def Er(T:Top w K mg G Gd gl gn)(hK:K.In base)(hB:BM mg base):∀n:Nat,(∀(i:Nat)(fd:Fd)(st:bE)(a:av)(fdd:dZ),Gd[i]?=some fd->Dn K mg (cfOf Gd) gn fd st a fdd ->
 gB P w K mg base CX0 n a fdd fd.ps (spF K (run G gl n i))/\gB P w K mg base CX0 n a fdd fd.ps (spO K (run G gl n (i+sv))))/\∀(i g:Nat)(x:Str)(ps:List Str),(i,g)∈Xs.xs->(cfOf Gd)[i]?=some (x,ps)->∃a fd,mg x=some (.ref a)/\PySem.W.keepIn K (.ref a)=true/\Binds K fd ps []/\gB P w K mg base (CXE P w) n a fd ps (spX K mg (run G gl n g))
 |0=>by
  have z:∀i ds d,run G gl 0 i ds≠some d:=λi ds d h=>by unfold run at h;cases h
  refine⟨λi fd st a fdd e _=>⟨⟨λvs H Q E h=>?_,λA outer s H args us vs Q E _ _ _ _ h=>?_⟩,⟨λvs H Q E h=>?_,λA outer s H args us vs Q E _ _ _ _ h=>?_⟩⟩,λi g x ps hx hc=>?_⟩
  .obtain⟨F,ds,d,_,_,_,_,h1,_⟩:=h;exact(z _ _ _ h1).elim
  .obtain⟨F,ds,d,_,_,_,_,h1,_⟩:=h;exact(z _ _ _ h1).elim
  .obtain⟨F,ds,d,_,_,_,_,h1,_⟩:=h;exact(z _ _ _ h1).elim
  .obtain⟨F,ds,d,_,_,_,_,h1,_⟩:=h;exact(z _ _ _ h1).elim
  .obtain⟨fd,st,a,fdd,eg,Dd,rs,cls,e1,ck,hcl⟩:=T.xw i g hx;have hc':(Gd.map λfd=>(fd.name,fd.ps))[i]?=some (x,ps):=hc;rw[bH,eg]at hc';cases hc';refine⟨a,fdd,Dd.mg,Dd.fn.kp,Dd.bd,⟨λvs H Q E h=>?_,λA outer s H args us vs Q E _ _ _ _ h=>?_⟩⟩
   .obtain⟨F,ds,c,u,_,_,_,_,h1,_⟩:=h;exact(z _ _ _ h1).elim
   .obtain⟨F,ds,c,u,_,_,_,_,h1,_⟩:=h;exact(z _ _ _ h1).elim
 |n+1=>by
  obtain⟨ih,ix⟩:=Er T hK hB n
  have fns:∀(f:Nat)(x:Str)(ps:List Str),(cfOf Gd)[f]?=some (x,ps)->∃gd st a fdd,gd.name=x/\gd.ps=ps/\Gd[f]?=some gd/\Dn K mg (cfOf Gd) gn gd st a fdd:=λf x ps hf=>by
   have hf':(Gd.map λfd=>(fd.name,fd.ps))[f]?=some (x,ps):=hf;rw[bH,aj]at hf';obtain⟨gd,eg,ep⟩:=hf';cases ep;obtain⟨st',a',fdd',D'⟩:=mZ T.fns eg;exact⟨gd,st',a',fdd',rfl,rfl,eg,D'⟩
  have fn1:∀(f:Nat)(x:Str)(ps:List Str),(cfOf Gd)[f]?=some (x,ps)->∃a fd,mg x=some (.ref a)/\PySem.W.keepIn K (.ref a)=true/\Binds K fd ps []/\gB P w K mg base CX0 n a fd ps (spF K (run G gl n f)):=λf x ps hf=>by
   obtain⟨gd,st,a,fdd,rfl,rfl,eg,D'⟩:=fns f x ps hf;exact⟨a,fdd,D'.mg,D'.fn.kp,D'.bd,(ih f gd st a fdd eg D').1⟩
  have fn3:∀(f:Nat)(x:Str)(ps:List Str),(cfOf Gd)[f]?=some (x,ps)->∃a fd,mg x=some (.ref a)/\PySem.W.keepIn K (.ref a)=true/\Binds K fd ps []/\gB P w K mg base CX0 n a fd ps (spO K (run G gl n (f+sv))):=λf x ps hf=>by
   obtain⟨gd,st,a,fdd,rfl,rfl,eg,D'⟩:=fns f x ps hf;exact⟨a,fdd,D'.mg,D'.fn.kp,D'.bd,(ih f gd st a fdd eg D').2⟩
  have fnd:∀(f:Nat)(x:Str)(ps:List Str),(cfOf Gd)[f]?=some (x,ps)->f∈Tbs.dfs->∃a fd,mg x=some (.ref a)/\PySem.W.keepIn K (.ref a)=true/\Binds K fd ps [.none]/\gB P w K mg base CX0 n a fd ps (spF K (run G gl n f)):=λf x ps hf hd=>by
   obtain⟨gd,st,a,fdd,eg,D',bd⟩:=T.dfs f hd;have hf':(Gd.map λfd=>(fd.name,fd.ps))[f]?=some (x,ps):=hf;rw[bH,eg]at hf';cases hf';exact⟨a,fdd,D'.mg,D'.fn.kp,bd,(ih f gd st a fdd eg D').1⟩
  refine⟨λi fd st a fdd e Dd=>?_,λi g x ps hx hc=>?_⟩
  .have eG:=T.sub i fd e
   have C:∀(A:bB)(outer:List Env)(s:au)(H:Hp)(E:XK),jL n (A.deeper (envOfC fd.name (aU st) s.heap.objs.size a fdd.code)) ->
    Cok (ka CX0 P w K mg base (fd.ps++fd.loc) fd.name (aU st) a fdd.code A outer s H E).nox ⟨fd.ps++fd.loc,aU st,cfOf Gd,gn⟩ ⟨run G gl n,gl,hfs G⟩ n:=λA outer s H E hr =>
    ⟨rfl,Dd.sc.nd,λx hx=>hx,λx hx=>hx,λx hx=>⟨hx,.inl rfl⟩,λx hx=>hx,rfl,rfl,hr,fn1,fn3,fnd,T.blt,T.glob,T.gsome,T.gds,λz f ds=>uO z⟩
   have B:∀(A:bB)(outer:List Env)(s:au)(H:Hp)(E:XK),jL n (A.deeper (envOfC fd.name (aU st) s.heap.objs.size a fdd.code)) ->
    PSs (ka CX0 P w K mg base (fd.ps++fd.loc) fd.name (aU st) a fdd.code A outer s H E).nox (dt st) (tS K (cU ⟨run G gl n,gl,hfs G⟩ fd.body)):=λA outer s H E hr=>by
    have hblk:(ka CX0 P w K mg base (fd.ps++fd.loc) fd.name (aU st) a fdd.code A outer s H E).nox.env.blockKind=.function:=by
     unfold Env.blockKind;show(if(aU st).kind.isAnnotationScope then vL else(aU st).kind)=_;rw[Dd.sc.kind];rfl
    rcases Dd.ck with ck|oq
    .exact kN (cx:=⟨run G gl n,gl,hfs G⟩) (C A outer s H E hr) rfl hblk fd.body (dt st) ck
    .exact oq _ _ n (C A outer s H E hr) rfl hblk rfl rfl ⟨⟨rfl,rfl,rfl⟩,ix⟩
   have fin:∀{F:av->Prop}{H:Hp}{σ:L2.St}{δ:Loc}{d:D}{Q:VK}{E:XK}(hfd:FD F H)(htf:TF F)(ok:Ok K ⟨H,λb=>F b/\∃o,H b=some o/\Mo o⟩ F σ H δ)(h2:outD (cU ⟨run G gl n,gl,hfs G⟩ fd.body δ)=some d)(q:∀v H',Sim H H'->lC H'->Rel K H' F d v->Q v H'),
    tS K (cU ⟨run G gl n,gl,hfs G⟩ fd.body) {nx:=λ_ H'=>Q .non H',rt:=Q} σ H:=λ{F H σ δ d Q E}hfd htf ok h2 q=>by
    cases eo:cU ⟨run G gl n,gl,hfs G⟩ fd.body δ with
    |none=>rw[eo]at h2;cases h2
    |some o =>
     rw[eo]at h2;refine⟨⟨H,λb=>F b/\∃o,H b=some o/\Mo o⟩,F,_,o,ok,eo,?_⟩
     cases o with
     |nx δ =>
      cases h2
      exact λσ' H' F' st' ok'=>q .non H' ok'.same ok'.tabs yd
     |rt d' δ =>
      cases h2;refine λv σ' H' F' st' ok' r'=>q v H' ok'.same ok'.tabs (Rel.step (G:=g0) ok'.fd ⟨λ_ _ _ e _=>e,λb z=>?_,λ_ _ r _ _=>r.elim,λ_ ps e=>⟨ps,e⟩⟩ _ v r')
      exact .inl (grow hfd ok' b z)
     |ro ds' δ =>
      cases h2;refine λa xs σ' H' F' st' ok' f1 f2 hd=>q _ H' ok'.same ok'.tabs ?_;exact Hand.rel ok'.fd (grow hfd ok') (va hfd f2.1) hd
   have fiO:∀{F:av->Prop}{H:Hp}{σ:L2.St}{δ:Loc}{zs:D}{Q:VK}(hfd:FD F H)(htf:TF F)(ok:Ok K ⟨H,λb=>F b/\∃o,H b=some o/\Mo o⟩ F σ H δ)(h2:Km (cU ⟨run G gl n,gl,hfs G⟩ fd.body δ)=some zs)(q:∀a v H',Sim H H'->lC H'->H a=none->Hand K H' (λb=>F b\/b=a) a zs v->Q v H'),
    tS K (cU ⟨run G gl n,gl,hfs G⟩ fd.body) {nx:=λ_ H'=>Q .non H',rt:=Q} σ H:=λ{F H σ δ zs Q}hfd htf ok h2 q=>by
    cases eo:cU ⟨run G gl n,gl,hfs G⟩ fd.body δ with
    |none=>rw[eo]at h2;cases h2
    |some o =>
     rw[eo]at h2;refine⟨⟨H,λb=>F b/\∃o,H b=some o/\Mo o⟩,F,_,o,ok,eo,?_⟩
     cases o with
     |ro ds' δ =>
      cases h2;refine λa xs σ' H' F' st' ok' f1 f2 hd=>q a xs H' ok'.same ok'.tabs f2.1 ?_
      have gr:∀b,(F b\/b=a)->F' b:=λb z=>by
       rcases z with z|z
       .exact grow hfd ok' b z
       .rw[z];exact f1
      exact hd.less ok'.fd gr
     |_=>cases h2
   refine⟨okC Dd.fn Dd.sc (λvs H Q E h=>?_) λA outer s H vs Q E hr h=>?_,okC Dd.fn Dd.sc (λvs H Q E h=>?_) λA outer s H vs Q E hr h=>?_⟩
   .obtain⟨F,ds,d,_,_,_,r,h1,_⟩:=h;rw[r.length,(sd eG h1).1]
   .obtain⟨F,ds,d,hfd,htf,htb,r,h1,q⟩:=h;obtain⟨hl,δ,ed,h2⟩:=sd eG h1;have hlen:=r.length;refine⟨_,B A outer s H E hr,?_⟩;unfold entry at ed;split at ed
    .cases ed;exact fin (E:=E) hfd htf (oX hfd htf htb r (by rw[hlen,hl,az];omega)) h2 q
    .split at ed
     .rename_i eq;exact(qU r eq).elim
     .cases ed
   .obtain⟨F,ds,zs,_,_,_,r,h1,_⟩:=h;rw[r.length,(yv T.few eG h1).1]
   .obtain⟨F,ds,zs,hfd,htf,htb,r,h1,q⟩:=h;obtain⟨hl,δ,ed,h2⟩:=yv T.few eG h1;have hlen:=r.length;refine⟨_,B A outer s H E hr,?_⟩;unfold entry at ed;split at ed
    .cases ed;exact fiO hfd htf (oX hfd htf htb r (by rw[hlen,hl,az];omega)) h2 q
    .split at ed
     .rename_i eq;exact(qU r eq).elim
     .cases ed
  .obtain⟨fd,st,a,fdd,eg,Dd,rs,cls,e1,ck,hcl⟩:=T.xw i g hx;have hc':(Gd.map λfd=>(fd.name,fd.ps))[i]?=some (x,ps):=hc;rw[bH,eg]at hc';cases hc';exact⟨a,fdd,Dd.mg,Dd.fn.kp,Dd.bd,Lk (okX (cx:=⟨run G gl n,gl,hfs G⟩) Dd.fn Dd.sc (by rw[az];omega) (λA outer s H E hr=>⟨rfl,Dd.sc.nd,λx hx=>hx,λx hx=>hx,λx hx=>⟨hx,.inl rfl⟩,λx hx=>hx,rfl,rfl,hr,fn1,fn3,fnd,T.blt,T.glob,T.gsome,T.gds,λz f ds=>uO z⟩) ix hcl ck) λds c h=>Me e1 h⟩
end
end PP
end
section
namespace PP
open PySem L2 PyProof.Rows
variable[Tbs][Xs]
def hS(a:av)(o:Option HO):Hp:=λb=>if b=a/\o.isSome=true then o else if b∈Tbs.ts.map (·.1)then some (.tbl #[])else none
def sN(e:hS a o b=some u):(b=a/\o=some u)\/(b∈Tbs.ts.map (·.1)/\u=.tbl #[]):=by
 unfold hS at e;split at e
 .rename_i h;exact .inl ⟨h.1,e⟩
 .split at e
  .cases e;exact .inr ⟨‹_›,rfl⟩
  .cases e
def Hd{P:aP}{w:bA}{K:PySem.W.Frag}{mg mb:Str->Option ai}{fa a:av}{fd:dZ}{x:Str}{f:List D->Option D}{s₁:au}{vs:List ai}{ns:List Int}
 (KX:K.In s₁.heap)(hns:s₁.heap.Ns mainGlobals mg)(hb:s₁.heap.Ns builtinsNs mb)(hbb:∀x:Str,x≠"__name__"->mb x=bootBuiltins x)(hlim:s₁.heap.NoLimit)(hg:s₁.gens=#[])(hbm:BM mg s₁.heap)
 (ha:s₁.heap.get? a=some {cls:=.type "list",data:=.seq vs.toArray})(hi:EJ vs ns)(hl:ns.length<=sizeLine)(hr:jL 200 callerA)
 (ht:∀t∈Tbs.ts,s₁.heap.get? t.1=some (PySem.W.tabObj #[])/\K.lookup t.1=none/\isCodeTable s₁.heap t.1)
 (F:∀base:bV,K.In base->BM mg base->gB P w K mg base CX0 200 fa fd [x] (spF K f))(hbind:Binds K fd [x] [])
 (hf:f [.lst (ns.map .int)]=some (.bl true)) :
 codeAny (model P w) callerA (.call (.ref fa) ⟨[.ref a],[]⟩) (λr s'=>r=.ok (.ret (.bool true))/\OldK s₁.heap s'.heap/\s'.os=s₁.os/\jR s'.gens) s₁:=by
 have rv:=qF hi;have lenV:=hi.length
 have htm:∀b,b∈Tbs.ts.map (·.1)->s₁.heap.get? b=some (PySem.W.tabObj #[])/\K.lookup b=none/\isCodeTable s₁.heap b:=λb hb=>by
  obtain⟨t,h1,h2⟩:=cE.mp hb;rw[<- h2];exact ht t h1
 have aT:a∉Tbs.ts.map (·.1):=λz=>by
  have:=(htm a z).1;rw[ha]at this;cases this
 have core:∀o:Option HO,(∀u,o=some u->∃xs,u=.frz {cls:=.type "list",data:=.seq vs.toArray} (.lst xs))->HOk P w (hS a o) s₁.heap->(o≠none->K.lookup a=none)->Rel K (hS a o) (λb=>b∈Tbs.ts.map (·.1)) (.lst (ns.map .int)) (.ref a) ->
  codeAny (model P w) callerA (.call (.ref fa) ⟨[.ref a],[]⟩) (λr s'=>r=.ok (.ret (.bool true))/\OldK s₁.heap s'.heap/\s'.os=s₁.os/\jR s'.gens) s₁:=by
  intro o hO hok hK hR;have base_of:∀{b:av}{x:Obj},s₁.heap.get? b=some x->hS a o b=none->(qk s₁.heap (hS a o)).get? b=some x:=λe n=>DJ e n
  have noA:∀{b:av}{x:Obj},s₁.heap.get? b=some x->(∀its n,x.data≠.seq its n)->(∀vs,x.data≠.fields vs)->hS a o b=none:=λ{b x}e d1 d2=>by
   cases q:hS a o b with
   |none=>rfl
   |some u =>
    rcases sN q with⟨rfl,_⟩|⟨z,_⟩
    .rw[ha]at e;cases e;exact absurd rfl (d1 _ _)
    .rw[(htm b z).1]at e;cases e;exact absurd rfl (d2 _)
  have nsK:∀{b:av}{m:Str->Option ai},s₁.heap.Ns b m->(qk s₁.heap (hS a o)).Ns b m:=λ{b m}⟨x,es,ep,e,d,r⟩=>⟨x,es,ep,base_of e (noA e (λ_ _ z=>by rw[d]at z;cases z) λ_ z=>by rw[d]at z;cases z),d,r⟩
  have hKb:K.In (qk s₁.heap (hS a o)):=λb x e=>base_of (KX b x e) (by
   cases q:hS a o b with
   |none=>rfl
   |some u =>
    rcases sN q with⟨rfl,z⟩|⟨z,_⟩
    .rw[hK (by rw[z];simp)]at e;cases e
    .rw[(htm b z).2.1]at e;cases e)
  have hM:Mod K mg (qk s₁.heap (hS a o)):=⟨hKb,nsK hns,⟨mb,nsK hb,hbb⟩,let⟨mc,h1,h2⟩:=hlim;⟨mc,nsK h1,h2⟩⟩
  have hB:BM mg (qk s₁.heap (hS a o)):=by
   obtain⟨bm,ob,b1,b2,b3,b4,b5,b6⟩:=hbm;exact⟨bm,ob,b1,b2,base_of b3 (noA b3 (λ_ _ z=>by rw[b6]at z;cases z) λ_ z=>by rw[b6]at z;cases z),b4,b5,b6⟩
  have e0:HP P w K mg (qk s₁.heap (hS a o)) callerA [] s₁ (hS a o):=⟨rfl,hM,λb x e=>GQ e,kj (zW _ _),trivial,λb hb=>absurd (show b∈([]:List av)from hb) ↥0,hok,.of_eq hg⟩
  have atT:∀b,b∈Tbs.ts.map (·.1)->hS a o b=some (.tbl #[]):=λb z=>by
   unfold hS;rw[if_neg (λy=>aT (by rw[<- y.1];exact z)),if_pos z]
  have sp:spF K f [.ref a] (hS a o) (λv _=>v=.bl true) E0:=⟨λb=>b∈Tbs.ts.map (·.1),[.lst (ns.map .int)],.bl true,λb z=>by
   obtain⟨t,h1,h2⟩:=cE.mp z;exact⟨_,atT b z,.inr ⟨⟨#[],rfl⟩,t,h1,h2⟩⟩,λt h=>cE.mpr ⟨t,h,rfl⟩,λt h=>⟨#[],atT _ (cE.mpr ⟨t,h,rfl⟩),trivial,λpos cv e=>by cases e⟩,aH.one hR,hf,λv H' _ _ r=>by unfold Rel at r;exact r⟩
  refine qt ((F _ hKb hB).run callerA [] s₁ (hS a o) ⟨[.ref a],[]⟩ [.ref a] [.ref a] _ _ hr e0 (hbind s₁ [.ref a] KX rfl) (.cons rfl .nil) sp) λr s' h=>?_
  cases r with
  |error e=>exact bu h
  |ok fl =>
   cases fl with
   |next=>exact bu h
   |brk=>exact bu h
   |cont=>exact bu h
   |ret u =>
    obtain⟨v,H',os,bare,un,hok',r',q⟩:=h;have q':v=.bl true:=q;subst q';obtain rfl:u=qu true:=r';refine⟨rfl,⟨λb x e=>?_,λb x e=>un.there b x e ↥0⟩,os,bare⟩
    cases q:hS a o b with
    |none=>exact .inl (un.keep b x e q (by intro z;exact absurd (show b∈([]:List av)from z) ↥0) ↥0)
    |some u =>
     rcases sN q with⟨_,z⟩|⟨z,rfl⟩
     .obtain⟨xs,rfl⟩:=hO u z;have z2:=un.frzs b _ _ q;obtain⟨e1,_⟩:=hok b _ q;obtain⟨e2,_⟩:=hok' b _ z2;rw[e]at e1;cases e1;exact .inl e2
     .obtain⟨more,y⟩:=un.tbls b _ q;have e2:s'.heap.get? b=some {cls:=.none,data:=.fields (#[]++more)}:=hok' b _ y;have e1:=(htm b z).1;rw[e]at e1;cases e1;exact .inr (.inl ⟨(htm b z).2.2,rfl,#[],more,rfl,e2⟩)
 have rl:∀(H:Hp)(F:av->Prop)(ms:List Int),aH K H F (ms.map .int) (ms.map V.int):=by
  intro H F ms
  induction ms with
  |nil=>exact aH.nil
  |cons m ms ih=>exact aH.cons (cA m) ih
 have hok1:∀o:Option HO,(∀u,o=some u->eJ P w (hS a o) s₁.heap a u)->HOk P w (hS a o) s₁.heap:=λo ho b u e=>by
  rcases sN e with⟨rfl,z⟩|⟨z,rfl⟩
  .exact ho u z
  .exact(htm b z).1
 cases hk:K.lookup a with
 |some x =>
  have e:=KX a x hk;rw[ha]at e;cases e;refine core none (λu z=>by cases z) (hok1 none λu z=>by cases z) (λz=>absurd rfl z) ?_;unfold Rel
  exact⟨a,ns.map V.int,rfl,.inr ⟨vs.toArray,_,hk,by rw[aB,lenV];exact hl,by simpa using rv⟩,rl _ _ ns⟩
 |none =>
  refine core (some (.frz {cls:=.type "list",data:=.seq vs.toArray} (.lst (ns.map V.int)))) (λu z=>⟨_,(bT z).symm⟩) (hok1 _ λu z=>?_) (λ_=>hk) ?_
  .cases z;exact⟨ha,by rw[ak];exact hl,vs,_,rv,ha⟩
  .unfold Rel;refine⟨a,ns.map V.int,rfl,.inl ⟨.inr ⟨{cls:=.type "list",data:=.seq vs.toArray},?_⟩,aT⟩,rl _ _ ns⟩;unfold hS;rw[if_pos ⟨rfl,rfl⟩]
def walk_run{l:PySem.W.OpenLaw}{q:aP}{loose:List Str}{XP:(Str->Option ai)->bV->Prop}{YP:bA->bV->Prop}{d:DefRec}{K:Params->PySem.W.Frag}{G Gd:List Fd}{gl:List D}{gn:List Str}{i:Nat}{fd:Fd}{x:Str}
 (main:∀ns:List Int,ns.length<=63->run G gl 200 i [.lst (ns.map .int)]=some (.bl true))(hi:Gd[i]?=some fd)(hp:fd.ps=[x])
 (hn:l.most=some 63)(hdf:d.params.defaults=[])(hY:∀(w:bA)(h:bV),YP w h->(K w.params).In h/\∀t∈Tbs.ts,h.get? t.1=some (PySem.W.tabObj #[]))
 (hnm:fd.name=d.name)(F:∀(w:bA)(mg:Str->Option ai)(h:bV),(K w.params).In h->h.Ns mainGlobals mg->Top w (K w.params) mg G Gd gl gn/\∀t∈Tbs.ts,(K w.params).lookup t.1=none/\∃c,PySem.W.codeHdIn (K w.params) c t.1=true) :
 PySem.W.WalkO q loose XP YP l.row.toRowW d [] (λf vs=>PySem.call f vs):=by
 have hr:jL 200 callerA:=⟨rfl,⇑0,⇑0⟩;refine Att.attach_call hn hdf λw s₀ s₁ mg mb fa o pm cd doc a vs ns TT Y ho hd hcd hmg hobj hints hlen hg=>?_;obtain⟨KX,tabs⟩:=hY w _ Y;obtain⟨T,tc⟩:=F w mg _ KX TT.T.g;obtain⟨st,fa',fdd,Dd⟩:=mZ T.fns hi
 obtain rfl:fa=fa':=by
  have e:=Dd.mg;rw[hnm,hmg]at e;cases e;rfl
 refine Hd KX TT.T.g TT.T.b TT.T.builtins TT.T.nolimit hg TT.T.bmain hobj hints (aX hlen ⇑0) hr (λt ht=>?_) (λbase hK hB=>?_) (hp▸Dd.bd) (main ns hlen)
 .obtain⟨h1,c,h2⟩:=tc t ht;exact⟨tabs t ht,h1,((PySem.W.codeHd_of_K KX h2).tab (tabs t ht)).isCodeTable⟩
 .have:=((Er (P:=l.prog) (w:=w) (base:=base) T hK hB 200).1 i fd st fa fdd hi Dd).1;rw[hp]at this;exact this
section
def wQ(K:PySem.W.Frag)(x:Str):Bool:=match PySem.W.nsIn K mainGlobals x with
 |some none=>true
 |_=>false
def HG{K:PySem.W.Frag}{h:bV}{mg:Str->Option ai}(X:K.In h)(G:h.Ns mainGlobals mg)(q:jd.all (wQ K)=true)(x:Str)(hx:x∈jd):mg x=none:=by
 have h:=bK.mp q x hx;unfold wQ at h;split at h
 .exact PySem.W.mg_none_of X G ‹_›
 .cases h
def sub_app{a b:List Fd}(i:Nat)(fd:Fd)(h:a[i]?=some fd):(a++b)[i]?=some fd:=by
 rw[cw (aF.mp h).1];exact h
end
end PP
end
section
namespace PP
open PySem L2
def uj:∀{ps:List Str}{us:List ai}{x:Str},us.length=ps.length->x∈ps->((ps.zip us).lookup x).isSome=true
 |p::ps,u::us,x,hl,hx=>by
  rw[mF,bp];split
  .rfl
  .rename_i z;refine uj (lI hl) ((aA.mp hx).resolve_left λe=>?_);rw[e,beq_self_eq_true]at z
   cases z
 |[],_,x,hl,hx=>by cases hx
 |p::ps,[],x,hl,hx=>by cases hl
def ui:∀{ps:List Str}{us:List ai},us.length=ps.length->ps.Nodup->(ps.filterMap λn=>((ps.zip us).lookup n).map (n,·))=ps.zip us
 |[],us,hl,_=>by rfl
 |p::ps,[],hl,_=>by cases hl
 |p::ps,u::us,hl,nd=>by
  rw[hJ]at nd;have ih:=ui (lI hl) nd.2;rw[mF,bt,bp,beq_self_eq_true];dsimp only[fK];congr 1
  have h:∀l:List Str,p∉l->(l.filterMap λn=>((((p,u)::ps.zip us).lookup n).map (n,·)))=l.filterMap λn=>((ps.zip us).lookup n).map (n,·):=λl=>by
   induction l with
   |nil=>intro _;rfl
   |cons n l il =>
    intro hn;rw[aA,not_or]at hn;rw[bt,bt,il hn.2,bp,show(n==p)=false from beq_eq_false_iff_ne.mpr λe=>hn.1 e.symm]
  exact(h ps nd.1).trans ih
def ifF{α:Type}{c:Prop}[Decidable c]{a b x:α}(h:¬c)(e:b=x):(if c then a else b)=x:=by rw[if_neg h];exact e
def xA{fd:dZ}{ps:List Str}{us:List ai}(h1:fd.params.posonlyargs=[])(h2:fd.params.args.map (·.arg)=ps)(h3:fd.params.kwonlyargs=[])(h4:fd.params.vararg=none)(h5:fd.params.kwarg=none)(h6:fd.defaults=.none)(nd:ps.Nodup)(hl:us.length=ps.length):bindArgs fd ⟨us,[]⟩=pure (ps.zip us):=by
 have hm:((ps.take ps.length).filter λn=>((ps.zip us).lookup n).isNone)=[]:=by
  rw[gE,List.filter_eq_nil_iff];intro x hx;have:=uj hl hx
  cases e:(ps.zip us).lookup x with
  |none=>rw[e]at this;cases this
  |some v=>simp
 cases fd with
 |mk a b p c d e f df g =>
  cases p with
  |mk p1 p2 p3 p4 p5 p6 p7 =>
   cases h1;cases h3;cases h4;cases h5;cases h6;cases h2;have hl:us.length=(p2.map (·.arg)).length:=hl;refine ifF (α:=Sem _) (λz=>?_) ?_
   .have z:(decide (us.length>(p2.map (·.arg)).length)&&true)=true:=z;rw[hl,cT,decide_eq_true_eq]at z;exact cV _ z
   generalize hd:List.drop _ _=dd;obtain rfl:dd=[]:=hd.symm.trans List.drop_nil;refine ifF (α:=Sem _) (λz=>Bool.noConfusion ((congrArg (λl:List Str=>!l.isEmpty) hm).symm.trans z)) ?_;generalize hz:List.zip (List.drop _ _) ([]:List ai)=zz;obtain rfl:zz=[]:=hz.symm.trans List.zip_nil_right;have e:(p2.map Arg.arg++[]).filterMap (λn=>(((p2.map Arg.arg).zip us).lookup n).map (n,·))=(p2.map Arg.arg).zip us:=by rw[bq];exact ui hl nd
   exact congrArg (pure:_->Sem _) e
def okD(d:Fd)(a:ua)(s:dO):Bool :=
 a.posonlyargs.isEmpty&&(a.kwonlyargs.isEmpty&&(a.vararg.isNone&&(a.kwarg.isNone&&(decide (a.args.map (·.arg)=d.ps)&&(decide (s.kind=.function)&&((!s.isCoroutine)&&((!s.isGenerator)&&(decide (d.ps++d.loc).Nodup&&(d.ps.all (λx=>decide (s.names.lookup x=some .local)||decide (s.names.lookup x=some .cell))&&s.names.all λy=>decide (y.2≠.free))))))))))
def wK{d:Fd}{st:bE}(h:okD d (fF st) (aU st)=true):kE (d.ps++d.loc) d.ps (aU st):=by
 simp only[okD,aa,bF,decide_eq_true_eq,bK,dc]at h;obtain⟨_,_,_,_,_,k,c,g,nd,p,f⟩:=h;exact⟨k,c,g,nd,iI,p,f⟩
def wL{K:PySem.W.Frag}{d:Fd}{st:bE}{fd:dZ}(e1:fd.params=fF st)(e2:fd.defaults=.none)(h:okD d (fF st) (aU st)=true):Binds K fd d.ps []:=by
 simp only[okD,aa,decide_eq_true_eq,List.isEmpty_iff,cN]at h;obtain⟨h1,h2,h3,h4,h5,_,_,_,nd,_⟩:=h;rw[<- e1]at h1 h2 h3 h4 h5;exact .all λus hl=>xA h1 h5 h2 h3 h4 e2 (EI.mp nd).1 hl
section
variable[Tbs][Xs]{K:PySem.W.Frag}{h:bV}{w:bA}{mg:Str->Option ai}{cf:List (Str×List Str)}{gn:List Str}{tp:Nat->bE}{G Gd:List Fd}{gl:List D}
inductive Hds(K:PySem.W.Frag)(mg:Str->Option ai)(cf:List (Str×List Str))(gn:List Str)(tp:Nat->bE):List Fd->List (String×Nat)->Prop
 |nil:Hds K mg cf gn tp [] []
 |own {d:Fd} {i:String×Nat} {r:List Fd} {is:List (String×Nat)} (e:∃st a fdd,Dn K mg cf gn d st a fdd) (t:Hds K mg cf gn tp r is):Hds K mg cf gn tp (d::r) (i::is)
 |cons {d:Fd} {x:String} {i:Nat} {f:av} {oc:ai} {od an:Option av} {osl:Array (Option ai)} {kV doc pm cdv ct:ai} {r:List Fd} {is:List (String×Nat)} (a:PySem.W.nsIn K mainGlobals (.ofString x)=some (some (.ref f))) (l:K.lookup f=some ⟨oc,od,.func (PySem.W.fnOf (.ofString x) (.ofString x) (fF (tp i)) (dt (tp i)) (aU (tp i)) .none kV doc pm an cdv ct),osl⟩)
  (c:PySem.W.codeIn K cdv (.ofString x)=true) (k:PySem.W.keepIn K (.ref f)=true) (z:(decide (d.name=.ofString x)&&(okD d (fF (tp i)) (aU (tp i))&&nV ⟨d.ps++d.loc,aU (tp i),cf,gn⟩ d.body (dt (tp i))))=true) (t:Hds K mg cf gn tp r is):Hds K mg cf gn tp (d::r) ((x,i)::is)
def Hk(X:K.In h)(N:h.Ns mainGlobals mg){l:List Fd}{is:List (String×Nat)}(H:Hds K mg cf gn tp l is):yZ K mg cf gn l:=by
 induction H with
 |nil=>trivial
 |own e t ih=>exact⟨e,ih⟩
 |cons a l c k z t ih =>
  rw[aa,decide_eq_true_eq,aa]at z;obtain⟨z0,z1,z2⟩:=z;rw[<- z0]at a l c;have F:=xf l c k;exact⟨⟨_,_,_,F,PySem.W.mg_of X N a,wK z1,.inl z2,wL rfl rfl z1⟩,ih⟩
mutual
inductive InK(K:PySem.W.Frag):D->ai->Prop
 |str {x:Str} {t:Tok}:InK K (.str x) (.str x t)
 |int {x:Int} {t:Tok}:InK K (.int x) (.int x t)
 |tup {ds:List D} {a:av} {oD:Option av} {oS:Array (Option ai)} {n:Nat} {vs:Array ai} (l:K.lookup a=some ⟨.type "tuple",oD,.seq vs n,oS⟩) (q:InKs K ds vs.toList) (z:vs.size<=99):InK K (.tup ds) (.ref a)
inductive InKs(K:PySem.W.Frag):List D->List ai->Prop
 |nil:InKs K [] []
 |cons {d:D} {v:ai} {ds:List D} {vs:List ai} (e:InK K d v) (t:InKs K ds vs):InKs K (d::ds) (v::vs)
end
mutual
theorem InK.rel:∀{d:D}{u:ai},InK K d u->∃v,RelV v u/\∀H F,Rel K H F d v
 |_,_,.str=>⟨.str _,⟨_,rfl⟩,λH F=>eF _⟩
 |_,_,.int=>⟨.int _,⟨_,rfl⟩,λH F=>cA _⟩
 |_,_,.tup l q z=>by
  obtain⟨vs,h1,h2⟩:=q.rel;refine⟨.ref _,rfl,λH F=>?_⟩;unfold Rel;exact⟨_,vs,rfl,.inr ⟨_,_,_,l,rfl,rfl,aX z ⇑0,h1⟩,h2 H F⟩
theorem InKs.rel:∀{ds:List D}{us:List ai},InKs K ds us->∃vs,Vals vs us/\∀H F,aH K H F ds vs
 |_,_,.nil=>⟨[],.nil,λ_ _=>aH.nil⟩
 |_,_,.cons e t=>by
  obtain⟨v,h1,h2⟩:=e.rel;obtain⟨vs,h3,h4⟩:=t.rel;exact⟨v::vs,.cons h1 h3,λH F=>aH.cons (h2 H F) (h4 H F)⟩
end
inductive Gls(K:PySem.W.Frag):List Str->List D->Prop
 |nil:Gls K [] []
 |cons {x:Str} {d:D} {v:ai} {xs:List Str} {ds:List D} (a:PySem.W.nsIn K mainGlobals x=some (some v)) (e:InK K d v) (t:Gls K xs ds):Gls K (x::xs) (d::ds)
def yK(X:K.In h)(N:h.Ns mainGlobals mg)(H:Gls K gn gl):∀(g:Nat)(x:Str),gn[g]?=some x->∃d,gl[g]?=some d/\∃u v,mg x=some u/\RelV v u/\∀H F,Rel K H F d v:=by
 induction H with
 |nil=>intro g x e;cases g<;>cases e
 |cons a e t ih =>
  intro g x z
  cases g with
  |zero =>
   cases z;obtain⟨v,h1,h2⟩:=e.rel
   exact⟨_,rfl,_,v,PySem.W.mg_of X N a,h1,h2⟩
  |succ g=>exact ih g x z
def gd_mk{K:PySem.W.Frag}{h:bV}{w:bA}{mg:Str->Option ai}{n:Str}{l:List (Str×Int)}{a:av}(X:K.In h)(G:h.Ns mainGlobals mg)(e:PySem.W.nsIn K mainGlobals n=some (some (.ref a)))(t:PyProof.Rows.KTD.tabLook PyProof.Rows.KTD.flatLooks (λb=>K.lookup b) a (l.map λp=>(p.1,jI p.2))=true)(nd:(l.map (·.1)).Nodup)
 (q:PyProof.Rows.KTD.hashesOf (λb=>K.lookup b) a=l.map λp=>hashStr w p.1):∃a,mg n=some (.ref a)/\GdK w K a l:=⟨a,PySem.W.mg_of X G e,t,nd,q⟩
inductive Clss(K:PySem.W.Frag):List Str->Prop
 |nil:Clss K []
 |cons {x:Str} {C:av} {r:List Str} (a:PySem.W.nsIn K mainGlobals x=some (some (.ref C))) (v:VE K C=true) (t:Clss K r):Clss K (x::r)
def Clss.get(X:K.In h)(N:h.Ns mainGlobals mg){l:List Str}(H:Clss K l):∀n,n∈l->∃C,mg n=some (.ref C)/\VE K C=true:=by
 induction H with
 |nil=>intro n z;cases z
 |cons a v t ih =>
  intro n z;rcases aA.mp z with rfl|z
  .exact⟨_,PySem.W.mg_of X N a,v⟩
  .exact ih n z
inductive Us(K:PySem.W.Frag)(C:av)(up:List Str):List Str->Prop
 |nil:Us K C up []
 |cons {x:Str} {P:av} {r:List Str} (a:PySem.W.nsIn K mainGlobals x=some (some (.ref P))) (v:(VE K P&&subIn K C P==up.contains x)=true) (t:Us K C up r):Us K C up (x::r)
def Us.get(X:K.In h)(N:h.Ns mainGlobals mg){C:av}{up l:List Str}(H:Us K C up l):∀n,n∈l->∃P,mg n=some (.ref P)/\VE K P=true/\subIn K C P=up.contains n:=by
 induction H with
 |nil=>intro n z;cases z
 |cons a v t ih =>
  intro n z;rcases aA.mp z with rfl|z
  .rw[aa]at v;exact⟨_,PySem.W.mg_of X N a,v.1,eq_of_beq v.2⟩
  .exact ih n z
inductive Ups(K:PySem.W.Frag)(ps:List Str):List (Str×List Str)->Prop
 |nil:Ups K ps []
 |cons {x:Str} {C:av} {up:List Str} {r:List (Str×List Str)} (a:PySem.W.nsIn K mainGlobals x=some (some (.ref C))) (v:(VE K C&&pq K C)=true) (u:Us K C up ps) (t:Ups K ps r):Ups K ps ((x,up)::r)
def Ups.get(X:K.In h)(N:h.Ns mainGlobals mg){ps:List Str}{l:List (Str×List Str)}(H:Ups K ps l):∀Y:Cx,Y.K=K->Y.mg=mg->∀n up,l.lookup n=some up->∃C,Y.mg n=some (.ref C)/\Ao Y ps C up:=λY hK hM=>by
 subst hK hM
 induction H with
 |nil=>intro n up z;cases z
 |cons a v u t ih =>
  intro n up z;rw[bp]at z;split at z
  .rename_i q;cases z;rw[eq_of_beq q];rw[aa]at v;exact⟨_,PySem.W.mg_of X N a,v.1,v.2,u.get X N⟩
  .exact ih n up z
def Xd(K:PySem.W.Frag)(mg:Str->Option ai)(cf:List (Str×List Str))(gn:List Str)(rs:Rs)(d:Fd):Prop:=∃st a fdd cls,Dn K mg cf gn d st a fdd/\nW cls Xs.xs ⟨d.ps++d.loc,aU st,cf,gn⟩ rs (dt st)=true/\∀n,n∈cls->∃C,mg n=some (.ref C)/\VE K C=true
def Xd.dn{rs:Rs}{d:Fd}(x:Xd K mg cf gn rs d):∃st a fdd,Dn K mg cf gn d st a fdd:=by
 obtain⟨st,a,fdd,_,h,_⟩:=x;exact⟨st,a,fdd,h⟩
section
variable{Q:Prop}{d:Fd}{x:String}{i:Nat}{f:av}{oc:ai}{od an:Option av}{osl:Array (Option ai)}{kV doc pm cdv ct:ai}
def xd_mk{rs:Rs}{cls:List Str}(X:K.In h)(N:h.Ns mainGlobals mg)(a:PySem.W.nsIn K mainGlobals (.ofString x)=some (some (.ref f)))(l:K.lookup f=some ⟨oc,od,.func (PySem.W.fnOf (.ofString x) (.ofString x) (fF (tp i)) (dt (tp i)) (aU (tp i)) .none kV doc pm an cdv ct),osl⟩)
 (c:PySem.W.codeIn K cdv (.ofString x)=true)(k:PySem.W.keepIn K (.ref f)=true)(z:(decide (d.name=.ofString x)&&(okD d (fF (tp i)) (aU (tp i))&&nW cls Xs.xs ⟨d.ps++d.loc,aU (tp i),cf,gn⟩ rs (dt (tp i))))=true)(hb:d.body=iw rs)(hc:∀n,n∈cls->∃C,mg n=some (.ref C)/\VE K C=true)(q:Xd K mg cf gn rs d->Q):Q:=by
 rw[aa,decide_eq_true_eq,aa]at z;obtain⟨z0,z1,z2⟩:=z;rw[<- z0]at a l c;have F:=xf l c k;exact q ⟨_,_,_,cls,⟨F,PySem.W.mg_of X N a,wK z1,.inr (λY cx k C hS hB hK hM fx=>by subst hK hM;rw[hb];exact NV C hS hB fx.1 fx.2 hc z2),wL rfl rfl z1⟩,z2,hc⟩
def kd_mk{rs:Rs}{ij jj:Nat}{post:Ss}{ks:Ks}{ls:List S}{ups:List (Str×List Str)}{ps:List Str}(X:K.In h)(N:h.Ns mainGlobals mg)(a:PySem.W.nsIn K mainGlobals (.ofString x)=some (some (.ref f)))(l:K.lookup f=some ⟨oc,od,.func (PySem.W.fnOf (.ofString x) (.ofString x) (fF (tp i)) (dt (tp i)) (aU (tp i)) .none kV doc pm an cdv ct),osl⟩)
 (c:PySem.W.codeIn K cdv (.ofString x)=true)(k:PySem.W.keepIn K (.ref f)=true)(z:(decide (d.name=.ofString x)&&(okD d (fF (tp i)) (aU (tp i))&&ckK ⟨d.ps++d.loc,aU (tp i),cf,gn⟩ Xs.xs ps ups rs ij jj post ks ls (dt (tp i))))=true)(hb:d.body=kS ups rs ij jj post ks ls)(hz:mg "ValueError"=none)(hps:∀n,n∈ps->∃C,mg n=some (.ref C)/\VE K C=true)
 (hup:∀Y:Cx,Y.K=K->Y.mg=mg->∀n up,ups.lookup n=some up->∃C,Y.mg n=some (.ref C)/\Ao Y ps C up)(q:(∃st a fdd,Dn K mg cf gn d st a fdd)->Q):Q:=by
 rw[aa,decide_eq_true_eq,aa]at z;obtain⟨z0,z1,z2⟩:=z;rw[<- z0]at a l c;have F:=xf l c k;exact q ⟨_,_,_,F,PySem.W.mg_of X N a,wK z1,.inr (λY cx k C hS hB hK hM fx=>by have hu:=hup Y hK hM;subst hK hM;rw[hb];exact MB C hS hB hz fx.1 fx.2 hps hu ls _ z2),wL rfl rfl z1⟩
end
inductive Xws(K:PySem.W.Frag)(mg:Str->Option ai)(G Gd:List Fd)(gn:List Str):List (Nat×Nat)->Prop
 |nil:Xws K mg G Gd gn []
 |cons {i g:Nat} {d:Fd} {rs:Rs} {r:List (Nat×Nat)} (x:Xd K mg (cfOf Gd) gn rs d) (e:Gd[i]?=some d) (e2:G[g]?=some ⟨d.name,d.ps,d.loc,gc rs,false⟩) (t:Xws K mg G Gd gn r):Xws K mg G Gd gn ((i,g)::r)
def Xws.get{l:List (Nat×Nat)}(H:Xws K mg G Gd gn l){i g:Nat}:(i,g)∈l->∃fd st a fdd,Gd[i]?=some fd/\Dn K mg (cfOf Gd) gn fd st a fdd/\∃rs cls,G[g]?=some ⟨fd.name,fd.ps,fd.loc,gc rs,false⟩/\nW cls Xs.xs ⟨fd.ps++fd.loc,aU st,cfOf Gd,gn⟩ rs (dt st)=true/\∀n,n∈cls->∃C,mg n=some (.ref C)/\VE K C=true:=by
 induction H with
 |nil=>intro z;cases z
 |cons x e e2 t ih =>
  intro z;rcases aA.mp z with z|z
  .cases z;obtain⟨st,a,fdd,cls,h1,h2,h3⟩:=x;exact⟨_,st,a,fdd,e,h1,_,cls,e2,h2,h3⟩
  .exact ih z
def top_mk(X:K.In h)(N:h.Ns mainGlobals mg){is:List (String×Nat)}(H:Hds K mg (cfOf Gd) gn tp Gd is)(sub:∀(i:Nat)(fd:Fd),Gd[i]?=some fd->G[i]?=some fd)(xw:Xws K mg G Gd gn Xs.xs)(few:G.length<=sv)(hb:jd.all (wQ K)=true)(hg:Gls K gn gl)
 (gds:∀(n:Str)(l:List (Str×Int)),Tbs.gds.lookup n=some l->∃a,mg n=some (.ref a)/\GdK w K a l)(dfs:∀f∈Tbs.dfs,∃fd st a fdd,Gd[f]?=some fd/\Dn K mg (cfOf Gd) gn fd st a fdd/\Binds K fdd fd.ps [.none]):Top w K mg G Gd gl gn :=
 ⟨Hk X N H,sub,λi g h=>xw.get h,few,HG X N hb,λg x d h1 h2=>by
   obtain⟨d',e,r⟩:=yK X N hg g x h1;rw[h2]at e;cases e;exact r,λg x h1=>by
   obtain⟨d',e,r⟩:=yK X N hg g x h1;exact⟨d',e⟩,gds,dfs⟩
end
end PP
end
section
namespace PP
open PySem
section
variable{cx:Cl}{δ:Loc}
def wR(cx:Cl)(r:R)(δ:Loc)(Q:OR->Prop):Prop:=∃o,evR cx r δ=some o/\Q o
def wRs(cx:Cl)(rs:Rs)(δ:Loc)(Q:OR->Prop):Prop:=∃o,fL cx rs δ=some o/\Q o
def jF(cx:Cl)(rs:Rs)(Q:OR->Prop):OR->Prop
 |.inl (.nx δ)=>wRs cx rs δ Q
 |o=>Q o
def lO{Q:OR->Prop}:wRs cx .nil δ Q↔Q (.inl (.nx δ)):=⟨λ⟨_,e,q⟩=>by simp only[fL]at e;cases e;exact q,λq=>⟨_,by simp only[fL],q⟩⟩
def cM{r:R}{rs:Rs}{Q:OR->Prop}:wRs cx (.cons r rs) δ Q↔wR cx r δ (jF cx rs Q):=by
 unfold wRs wR;simp only[fL]
 cases evR cx r δ with
 |none=>exact⟨λ⟨_,e,_⟩=>(by cases e),λ⟨_,e,_⟩=>by cases e⟩
 |some o =>
  constructor
  .rintro⟨o',e,q⟩;refine⟨o,rfl,?_⟩;rcases o with(δ1|_|_|_|_)|_<;>first|exact⟨o',e,q⟩|(cases e;exact q)
  .rintro⟨o',e,q⟩;cases e;rcases o with(δ1|_|_|_|_)|_<;>first|exact q|exact⟨_,rfl,q⟩
def Ii{s:S}{Q:OR->Prop}:wR cx (.st s) δ Q↔wS cx s δ λo=>Q (.inl o):=by
 unfold wR wS;simp only[evR]
 cases evS cx s δ with
 |none=>exact⟨λ⟨_,e,_⟩=>(by cases e),λ⟨_,e,_⟩=>by cases e⟩
 |some o=>exact⟨λ⟨_,e,q⟩=>by cases e;exact⟨_,rfl,q⟩,λ⟨_,e,q⟩=>by cases e;exact⟨_,rfl,q⟩⟩
def Jg{c:Str}{Q:OR->Prop}:wR cx (.rse c) δ Q↔Q (.inr (c,δ)):=⟨λ⟨_,e,q⟩=>by simp only[evR]at e;cases e;exact q,λq=>⟨_,by simp only[evR],q⟩⟩
def Jh{t:E}{a b:Rs}{Q:OR->Prop}:wR cx (.ifs t a b) δ Q↔wT cx t δ λk δ1=>if k=true then wRs cx a δ1 Q else wRs cx b δ1 Q:=by
 unfold wR wT wRs;simp only[evR]
 cases evT cx t δ with
 |none=>exact⟨λ⟨_,e,_⟩=>(by cases e),λ⟨_,_,e,_⟩=>by cases e⟩
 |some p =>
  obtain⟨k,δ1⟩:=p
  cases k with
  |true=>exact⟨λq=>⟨_,_,rfl,q⟩,λ⟨_,_,e,q⟩=>by cases e;exact q⟩
  |false=>exact⟨λq=>⟨_,_,rfl,q⟩,λ⟨_,_,e,q⟩=>by cases e;exact q⟩
def iu{s:S}{xs:List XE}{p:Str×Loc}{Q:OR->Prop}(h:(xs.findSome? λx=>xvE cx x δ)=some p)(q:Q (.inr p)):wR cx (.cal s xs) δ Q:=⟨_,by simp only[evR,h],q⟩
def lP{s:S}{xs:List XE}{Q:OR->Prop}(h:(xs.findSome? λx=>xvE cx x δ)=none)(q:wS cx s δ λo=>Q (.inl o)):wR cx (.cal s xs) δ Q:=by
 obtain⟨o,eo,q⟩:=q;exact⟨_,by simp only[evR,h,eo,bg],q⟩
def Mi{tg:Tg}{src:It}{body:Rs}{Q:OR->Prop}:wR cx (.fr tg src body) δ Q↔∃ds δ1,evI cx src δ=some (ds,δ1)/\∃o,forR (λx δ0=>(dy δ0 tg x).bind λδ2=>fL cx body δ2) ds δ1=some o/\Q o:=by
 unfold wR;simp only[evR]
 cases evI cx src δ with
 |none=>exact⟨λ⟨_,e,_⟩=>(by cases e),λ⟨_,_,e,_⟩=>by cases e⟩
 |some q=>exact⟨λ⟨o,e,q⟩=>⟨_,_,rfl,o,e,q⟩,λ⟨_,_,e,o,e2,q⟩=>by cases e;exact⟨o,e2,q⟩⟩
def Mh{rs:Rs}{Q:Out->Prop}(h:wRs cx rs δ λr=>∃o,r=.inl o/\Q o):wSs cx (iw rs) δ Q:=by
 obtain⟨r,e,o,rfl,q⟩:=h;refine⟨o,?_,q⟩;unfold iw;simp only[cU,evS,e];cases o<;>rfl
def Mg{rs:Rs}{Q:Out->Prop}(h:wRs cx rs δ λr=>∃c δ1,r=.inr (c,δ1)/\Q (.rt (.str c) δ1)):wSs cx (gc rs) δ Q:=by
 obtain⟨r,e,c,δ1,rfl,q⟩:=h;refine⟨_,?_,q⟩;unfold gc;simp only[cU,evS,e]
def IV{G:List Fd}{gl:List D}{n g:Nat}{ds:List D}(fd:Fd){rs:Rs}(e:G[g]?=some fd)(hb:fd.body=gc rs)(hf:fd.hf=false)(h:wRs ⟨PP.run G gl n,gl,hfs G⟩ rs (init (fd.ps++fd.loc).length ds) λr=>∃o,r=.inl o):PP.run G gl (n+1) g ds=none:=by
 obtain⟨r,er,o,rfl⟩:=h;unfold PP.run;rw[e];dsimp only;split
 .rw[hf];unfold entry;dsimp only;rw[hb];unfold gc;simp only[cU,evS,er];rfl
 .rfl
end
end PP
end
section
namespace PP
open PySem L2
def nA:Nat->Ss->Ss
 |0,_=>.nil
 |_,.nil=>.nil
 |k+1,.cons s ss=>.cons s (nA k ss)
def fV:Nat->Ss->Ss
 |0,ss=>ss
 |_,.nil=>.nil
 |k+1,.cons _ ss=>fV k ss
def nxS(R:PP.Loc->Prop)(Q:Out->Prop):Out->Prop
 |.nx δ=>R δ
 |o=>Q o
def Dh{R:PP.Loc->Prop}:nxS R Q (.nx δ)↔R δ:=dE
def xP(h:wS cx s δ P)(k:∀o,P o->Q o):wS cx s δ Q:=let⟨o,e,p⟩:=h;⟨o,e,k o p⟩
def oj{R:PP.Loc->Prop}:∀(k:Nat)(ss:Ss)(δ:PP.Loc),wSs cx (nA k ss) δ (nxS R Q)->(∀δ',R δ'->wSs cx (fV k ss) δ' Q)->wSs cx ss δ Q
 |0,ss,δ,h,q=>by
  unfold nA at h
  exact q δ (dr.mp h)
 |_+1,.nil,δ,h,q=>by
  unfold nA at h;unfold fV at q
  exact q δ (dr.mp h)
 |k+1,.cons s ss,δ,h,q=>by
  unfold nA at h;unfold fV at q;refine bz.mpr (xP (bz.mp h) λo p=>?_)
  cases o with
  |nx δ1=>exact oj k ss δ1 p q
  |rt d δ1=>exact p
  |ro d δ1=>exact p
def jk(k:Nat)(δ':PP.Loc)(h:cU cx (nA k ss) δ=some (.nx δ'))(q:wSs cx (fV k ss) δ' Q):wSs cx ss δ Q:=oj (R:=λd=>d=δ') k ss δ ⟨.nx δ',h,rfl⟩ λ_ e=>e▸q
def AW(P:Bool->Prop)(h:wT cx c δ λk δ1=>δ1=δ0/\P k)(ha:P true->wSs cx a δ0 Q)(hb:P false->wSs cx b δ0 Q):wS cx (.ifs c a b) δ Q:=by
 obtain⟨k,δ1,e,rfl,p⟩:=h;refine oN.mpr ⟨k,δ1,e,?_⟩;cases k
 .exact hb p
 .exact ha p
def CQ(hx:∀{R:Bool->PP.Loc->Prop},R p δ->wT cx x δ R)(hy:∀{R:Bool->PP.Loc->Prop},R q δ->wT cx y δ R)(ha:p=true\/q=true->wSs cx a δ Q)(hb:p=false->q=false->wSs cx b δ Q):wS cx (.ifs (.or x y) a b) δ Q:=by
 refine AW (δ0:=δ) (λk=>(k=true->p=true\/q=true)/\(k=false->p=false/\q=false)) ?_ (λh=>ha (h.1 rfl)) λh=>hb (h.2 rfl).1 (h.2 rfl).2;rw[Mf];refine hx ?_;cases p
 .refine hy ?_;exact⟨rfl,λh=>.inr h,λh=>⟨rfl,h⟩⟩
 .exact⟨rfl,λ_=>.inl rfl,λh=>by cases h⟩
def Ky(hx:∀{R:Bool->PP.Loc->Prop},R p δ->wT cx x δ R)(ha:p=true->wSs cx a δ Q)(hb:p=false->wSs cx b δ Q):wS cx (.ifs x a b) δ Q:=by
 refine AW (δ0:=δ) (λk=>k=p) (hx ⟨rfl,rfl⟩) (λh=>ha h.symm) λh=>hb h.symm
def HI:Ss->Ss->Ss
 |.nil,r=>r
 |.cons s t,r=>.cons s (HI t r)
def rN{r:Ss}:∀{a:Ss}{δ:PP.Loc},wSs cx (HI a r) δ Q->wSs cx a δ (uA cx r Q)
 |.nil,δ,h=>dr.mpr (uz.mpr h)
 |.cons s t,δ,h=>bz.mpr (xP (bz.mp h) λo p=>by
  cases o with
  |nx δ1=>exact rN p
  |rt d δ1=>exact p
  |ro d δ1=>exact p)
def bC(p:Bool)(h:evT cx c δ=some (p,δ))(ha:p=true->wSs cx (HI a r) δ Q)(hb:p=false->wSs cx (HI b r) δ Q):wSs cx (.cons (.ifs c a b) r) δ Q :=
 bz.mpr (oN.mpr ⟨p,δ,h,by cases p;exact rN (hb rfl);exact rN (ha rfl)⟩)
variable{G:List Fd}{gl:List D}{n f:Nat}
def AR(as:List D)(δ1:PP.Loc)(h:cS ⟨PP.run G gl n,gl,hfs G⟩ es δ=some (as,δ1))(hc:jJ G gl n f as λd=>∃δ2,dy δ1 tg d=some δ2/\wSs ⟨PP.run G gl n,gl,hfs G⟩ r δ2 Q):wSs ⟨PP.run G gl n,gl,hfs G⟩ (.cons (.asg tg (.call f es)) r) δ Q :=
 bz.mpr (gG.mpr (rR.mpr ⟨as,δ1,h,qD.mpr hc⟩))
def iS(as:List D)(h:cS ⟨PP.run G gl n,gl,hfs G⟩ es δ=some (as,δ))(hc:jJ G gl n f as λd=>∃δ2,dy δ tg d=some δ2/\wSs ⟨PP.run G gl n,gl,hfs G⟩ r δ2 Q):wSs ⟨PP.run G gl n,gl,hfs G⟩ (.cons (.asg tg (.call f es)) r) δ Q:=AR as δ h hc
def eh(d:D)(h:evE cx e δ=some (d,δ))(q:∃δ2,dy δ tg d=some δ2/\wSs cx r δ2 Q):wSs cx (.cons (.asg tg e) r) δ Q:=bz.mpr (gG.mpr ⟨d,δ,h,q⟩)
def gp(ha:evE cx a δ=some (x,δ))(hb:evE cx b δ=some (y,δ))(h:ixD x y=some z):evE cx (.ix a b) δ=some (z,δ):=by
 simp only[evE,ha,hb,h,ae,ah];rfl
def bL(ha:evE cx a δ=some (x,δ))(hb:evE cx b δ=some (y,δ))(h:gu op x y=some p):evT cx (.cmp op a b) δ=some (p,δ):=by
 simp only[evT,ha,hb,h,ae,ah];rfl
def jm(d:D)(h:evE cx e δ=some (d,δ))(ho:δ[i]?=some (.own ds))(hl:ds.length<sizeLine)(q:wSs cx r (δ.set i (.own (ds++[d]))) Q):wSs cx (.cons (.append i e) r) δ Q:=by
 have hi:i<δ.length:=(aF.mp ho).1;refine bz.mpr (zj.mpr ?_);unfold EZ;rw[ho];refine⟨d,δ,h,?_⟩;dsimp only;rw[ho];exact⟨hl,hi,q⟩
def iO(ha:evT cx a δ=some (p,δ))(hb:evT cx b δ=some (q,δ)):evT cx (.or a b) δ=some (p||q,δ):=by
 simp only[evT,ha,ae,ah];cases p
 .exact hb
 .rfl
def pO{α:Type}(g h:α->D)(as:α->List D)(xs:List α)(hl:xs.length<=sizeLine)(hi:evI ⟨PP.run G gl n,gl,hfs G⟩ src δ=some (xs.map g,δ))(hd:i=δ.length)(he:∀x∈xs,cS ⟨PP.run G gl n,gl,hfs G⟩ es (δ++[.val (g x)])=some (as x,δ++[.val (g x)]))(hc:∀x∈xs,PP.run G gl n f (as x)=some (h x)):evE ⟨PP.run G gl n,gl,hfs G⟩ (.comp 1 (.nm i) src .no (.call f es)) δ=some (.lst (xs.map h),δ):=by
 subst hd
 have:wE ⟨PP.run G gl n,gl,hfs G⟩ (.comp 1 (.nm δ.length) src .no (.call f es)) δ λd δ'=>d=.lst (xs.map h)/\δ'=δ:=by
  refine oo.mpr ⟨_,_,hi,iU g (λ_=>true) h xs (λx hx=>?_) ?_⟩
  .refine⟨δ++[.val (g x)],?_,true,_,rfl,rfl,?_⟩
   .show(if δ.length<(δ++aC 1 Sl.no).length then _ else _)=_;rw[if_pos ↥0];simp[eM]
   .rw[if_pos rfl];exact rR.mpr ⟨_,_,he x hx,_,hc x hx,rfl,↥0⟩
  .rw[lK.mpr λ_ _=>rfl,ak];exact⟨hl,rfl,rfl⟩
 obtain⟨_,_,e,rfl,rfl⟩:=this;exact e
def AQ(ds:List D)(h:evE cx e δ=some (.lst ds,δ))(hi:i<δ.length)(q:wSs cx r (δ.set i (.val (.lst ds))) Q):wSs cx (.cons (.cmp false i e) r) δ Q:=bz.mpr (xQ.mpr ⟨_,_,h,ds,rfl,hi,q⟩)
def zZ(h:evE cx e δ=some (.lst ds,δ)):evE cx (.blt .toTup (.cons e .nil)) δ=some (.tup ds,δ):=by
 simp only[evE,cS,h,ae,ah];rfl
def cH(as:List D)(he:cS ⟨PP.run G gl n,gl,hfs G⟩ es δ=some (as,δ))(hc:PP.run G gl n f as=some d):evE ⟨PP.run G gl n,gl,hfs G⟩ (.call f es) δ=some (d,δ):=by
 simp only[evE,he,hc,ae,ah];rfl
def pN(h:evE cx e δ=some (d,δ))(hi:items d=some ds):evI cx (.sq e) δ=some (ds,δ):=by
 simp only[evI,h,hi,ae,ah];rfl
def bh(h:evE cx e δ=some (d,δ))(hs:cS cx es δ=some (ds,δ)):cS cx (.cons e es) δ=some (d::ds,δ):=by
 simp only[cS,h,hs,ae,ah];rfl
def oG(h:cS cx es δ=some (ds,δ))(hl:ds.length<=sizeLine):evE cx (.tup es) δ=some (.tup ds,δ):=by
 simp only[evE,h,ae,ah];rw[if_pos hl];rfl
def cW(ha:evE cx a δ=some (x,δ))(hb:evE cx b δ=some (y,δ))(h:opD op x y=some z):evE cx (.bin op a b) δ=some (z,δ):=by
 simp only[evE,ha,hb,h,ae,ah];rfl
def lM(d:D)(h:evE cx e δ=some (d,δ))(q:Q d):wSs cx (.cons (.ret e) r) δ (retS Q):=bz.mpr (jo.mpr ⟨d,δ,h,q⟩)
def Hq(hc:evT cx c δ=some (p,δ))(ha:evE cx a δ=some (x,δ))(hb:evE cx b δ=some (y,δ)):evE cx (.ite c a b) δ=some (if p=true then x else y,δ):=by
 simp only[evE,hc,ae,ah];cases p
 .exact hb
 .exact ha
def kC(as:List D)(he:cS ⟨PP.run G gl n,gl,hfs G⟩ es δ=some (as,δ))(hc:PP.run G gl n f as=some (.bl p)):evT ⟨PP.run G gl n,gl,hfs G⟩ (.call f es) δ=some (p,δ):=by
 simp only[evT,he,hc,ae,ah];rfl
def gx(h:evT cx e δ=some (p,δ)):evT cx (.not e) δ=some (!p,δ):=by
 simp only[evT,h,ae,ah];rfl
def mh{j:Int}(h:evE cx e δ=some (.int j,δ))(h0:-(2^62)<=j)(h1:j<2^62):evI cx (.rng e) δ=some (lq 0 j.toNat,δ):=by
 simp only[evI,h,ae,ah];rw[if_pos ⟨h0,h1⟩]
def gR(h:cS cx es δ=some (ds,δ))(hb:gY b ds=some z):evE cx (.blt b es) δ=some (z,δ):=by
 simp only[evE,h,hb,ae,ah];rfl
def jl(ds:List D)(h:evI cx src δ=some (ds,δ))(q:qe cx tg body ds δ (uA cx r Q)):wSs cx (.cons (.for_ tg src body) r) δ Q:=bz.mpr (AX.mpr ⟨ds,δ,h,q⟩)
def sT(ha:evE cx a δ=some (x,δ))(hb:evE cx b δ=some (y,δ))(h:gu op x y=some p):evE cx (.cmp op a b) δ=some (.bl p,δ):=by
 simp only[evE,ha,hb,h,ae,ah];rfl
def xg(h:evE cx e δ=some (d,δ))(hs:cS cx es δ=some (ds,δ2)):cS cx (.cons e es) δ=some (d::ds,δ2):=by
 simp only[cS,h,hs,ae,ah];rfl
end PP
end
section
namespace PP
open PySem
section
variable{cx:Cl}{δ:Loc}
end
end PP
end
section
namespace PP
open PySem Builtin.Str
def cO(c:Nat):List Nat->List (List Nat)
 |[]=>[[]]
 |a::l=>if a=c then[]::cO c l else match cO c l with
  |w::ws=>(a::w)::ws
  |[]=>[[a]]
def dS(c:Nat):Nat->List Nat->List Nat
 |_,[]=>[]
 |k,a::l=>if a=c then k::dS c (k+1) l else dS c (k+1) l
def sub_one{x:Str}{c k:Nat}:subAt x ⟨#[c]⟩ k=decide (x.cps.toList[k]?=some c):=by
 unfold subAt;show(x.cps.extract k (k+1)==#[c])=_;rw[bJ,beq_iff_eq,decide_eq_true_eq];constructor
 .intro h;have:=congrArg nu h;rw[fb]at this;have e:(x.cps.toList.extract k (k+1))[0]?=some c:=by rw[this];rfl
  rw[dC]at e;simp at e;simpa using e
 .intro h;apply fo.mp;rw[fb,dC];obtain⟨hk,e⟩:=aF.mp h;rw[bN hk,e];simp
def wM(x:Str)(c lim:Nat):∀(l:List Nat)(k:Nat)(found:Array Nat)(free:Nat),x.cps.toList.drop k=l->k<=x.length->free<=k->found.size+l.length<lim ->
 (forIn (cX k (l.length+1)) (found,free) (dw x ⟨#[c]⟩ x.length lim)).run.fst.toList=found.toList++dS c k l
 |[],k,found,free,hd,hk,hf,hs=>by
  have hlen:k=x.length:=by
   have:=congrArg je hd;rw[aR]at this;have e:x.cps.toList.length=x.length:=rfl;simp at this;have:x.length<=k:=by show x.cps.size<=k;lia
   lia
  rw[show cX k (([]:List Nat).length+1)=[k]from rfl,fM];unfold dw;rw[if_neg (λh=>by have:=h.1.2;rw[hlen]at this;have e:(⟨#[c]⟩:Str).length=1:=rfl;lia)]
  simp[dS]
 |a::l,k,found,free,hd,hk,hf,hs=>by
  have hk':k<x.cps.toList.length:=by
   have:=congrArg je hd;rw[aR,ag]at this
   lia
  have hkl:k<x.length:=by have:x.cps.toList.length=x.length:=rfl;lia
  have e0:x.cps.toList[k]?=some a:=by
   rw[<- Ib,hd];rfl
  have e1:x.cps.toList.drop (k+1)=l:=by
   rw[<- kU,hd];rfl
  rw[ag]at hs;rw[show cX k ((a::l).length+1)=k::cX (k+1) (l.length+1)from rfl,fM];unfold dw;have e2:(⟨#[c]⟩:Str).length=1:=rfl;rw[sub_one,e0,e2];by_cases h:a=c
  .rw[if_pos ⟨⟨⟨by show found.size<lim;lia,hf⟩,∅⟩,by simpa using h⟩];have ih:=wM x c lim l (k+1) (found.push k) (k+1) e1 ∅ (aD _) (by rw[Array.size_push];lia);unfold dS;rw[if_pos h];refine Eq.trans ih ?_;simp
  .rw[if_neg (λz=>h (by simpa using z.2))];have ih:=wM x c lim l (k+1) found free e1 ∅ ∅ ∅;unfold dS;rw[if_neg h];exact ih
def Oe(x:Str)(c:Nat):occurrences x ⟨#[c]⟩ 0 x.length (x.length+1)=dS c 0 x.cps.toList:=by
 rw[StrLaws.occ_eq];have:=wM x c (x.length+1) x.cps.toList 0 #[] 0 rfl (bM _) (aD _) (by show 0+x.cps.toList.length<x.length+1;have:x.cps.toList.length=x.length:=rfl;lia);rw[show x.cps.toList.length=x.length from rfl]at this;simpa using this
def ic(c:Nat):∀l:List Nat,∃w ws,cO c l=w::ws
 |[]=>⟨_,_,rfl⟩
 |a::l=>by
  unfold cO;split
  .exact⟨_,_,rfl⟩
  .obtain⟨w,ws,e⟩:=ic c l;rw[e];exact⟨_,_,rfl⟩
def pD(X:List Nat)(c:Nat):∀(l pre:List Nat)(s:Nat)(w:List Nat)(ws:List (List Nat)),X=pre++l->s<=pre.length->cO c l=w::ws ->
 ((s::(dS c pre.length l).map (·+1)).zip (dS c pre.length l++[X.length])).map (λp=>(X.drop p.1).take (p.2-p.1))=(pre.drop s++w)::ws
 |[],pre,s,w,ws,hX,hs,e=>by
  cases e;subst hX;show[((pre++[]).drop s).take ((pre++[]).length-s)]=[pre.drop s++[]]
  rw[bq,bq,cm (by rw[aR];lia)]
 |a::l,pre,s,w,ws,hX,hs,e=>by
  unfold cO at e;unfold dS;have hX':X=(pre++[a])++l:=by rw[hX];simp
  have hl:(pre++[a]).length=pre.length+1:=by simp
  by_cases h:a=c
  .rw[if_pos h]at e;cases e;obtain⟨w',ws',e'⟩:=ic c l;have ih:=pD X c l (pre++[a]) (pre.length+1) w' ws' hX' ∅ e';rw[if_pos h,aw,gF,mF,aw];rw[hl]at ih;rw[ih,e',show(pre++[a]).drop (pre.length+1)=[] by rw[<- hl,fq]];congr 1;rw[hX,pY hs,bq];have:(pre.drop s).length=pre.length-s:=aR;rw[<- this,iI]
  .rw[if_neg h]at e;obtain⟨w',ws',e'⟩:=ic c l;rw[e']at e;cases e;have ih:=pD X c l (pre++[a]) s w' ws hX' ∅ e';rw[hl]at ih;rw[if_neg h,ih,pY hs];simp
def zB(x:Str)(c:Nat)(hc:c<256):iL x ⟨#[c]⟩=(cO c x.cps.toList).map λl=>⟨l.toArray⟩:=by
 obtain⟨w,ws,e⟩:=ic c x.cps.toList
 have key:partsBetween x (dS c 0 x.cps.toList) 1=(cO c x.cps.toList).map λl=>(⟨l.toArray⟩:Str):=by
  have:=pD x.cps.toList c x.cps.toList [] 0 w ws rfl (aD _) e;rw[e];rw[show([]:List Nat).drop 0++w=w from rfl]at this;rw[<- this];unfold partsBetween;simp only[jP];refine Az λp hp=>?_;show strSub x p.1 p.2=⟨((x.cps.toList.drop p.1).take (p.2-p.1)).toArray⟩;unfold strSub;congr 1;apply fo.mp;rw[fb,dC]
 unfold iL;rw[Oe];split
 .rename_i h;rw[bF,decide_eq_true_eq,decide_eq_true_eq]at h;rcases h with h|h
  .have h0:x.cps.toList=[]:=by
    have:x.cps.toList.length=x.length:=rfl;have h':x.length<1:=h;exact fY.mp ∅
   rw[h0];show[x]=[⟨#[]⟩];congr 1;cases x;simp only at h0;rw[show _=#[]from fo.mp h0]
  .exfalso;have a:eV ⟨#[c]⟩=1:=by unfold eV;simp[hc]
   rw[a]at h;unfold eV at h;split at h
   .lia
   .split at h<;>lia
 .split
  .rename_i h;have h0:dS c 0 x.cps.toList=[]:=by simpa using h
   rw[h0]at key;rw[<- key];unfold partsBetween;show[x]=[strSub x 0 x.length];congr 1;unfold strSub;show x=⟨x.cps.extract 0 x.cps.size⟩;simp
  .exact key
def uY(x:Str)(c:Nat):∀(l:List Nat)(st:Array Nat×Nat),1<=st.1.size->(forIn l st (dw x ⟨#[c]⟩ x.length 1)).run.fst=st.1
 |[],st,_=>rfl
 |a::l,st,h=>by
  rw[fM];unfold dw;rw[if_neg (λz=>by have:=z.1.1.1;lia)];exact uY x c l (st.1,st.2) h
def occ_first(x:Str)(c:Nat):∀(l:List Nat)(k free:Nat),x.cps.toList.drop k=l->k<=x.length->free<=k ->
 (forIn (cX k (l.length+1)) ((#[]:Array Nat),free) (dw x ⟨#[c]⟩ x.length 1)).run.fst.toList=(dS c k l).take 1
 |[],k,free,hd,hk,hf=>by
  have hlen:x.length<=k:=by
   have:=congrArg je hd;rw[aR]at this;have e:x.cps.toList.length=x.length:=rfl;simp at this;show x.cps.size<=k
   lia
  rw[show cX k (([]:List Nat).length+1)=[k]from rfl,fM];unfold dw;rw[if_neg (λh=>by have:=h.1.2;have e:(⟨#[c]⟩:Str).length=1:=rfl;lia)]
  simp[dS]
 |a::l,k,free,hd,hk,hf=>by
  have hkl:k<x.length:=by
   have:=congrArg je hd;rw[aR,ag]at this;have e:x.cps.toList.length=x.length:=rfl
   lia
  have e0:x.cps.toList[k]?=some a:=by
   rw[<- Ib,hd];rfl
  have e1:x.cps.toList.drop (k+1)=l:=by
   rw[<- kU,hd];rfl
  rw[show cX k ((a::l).length+1)=k::cX (k+1) (l.length+1)from rfl,fM];unfold dw;have e2:(⟨#[c]⟩:Str).length=1:=rfl;rw[sub_one,e0,e2];by_cases h:a=c
  .rw[if_pos ⟨⟨⟨↥0,hf⟩,∅⟩,by simpa using h⟩];have ih:=uY x c (cX (k+1) (l.length+1)) ((#[]:Array Nat).push k,k+1) ↥0;unfold dS;rw[if_pos h];refine Eq.trans (congrArg nu ih) ?_;simp
  .rw[if_neg (λz=>h (by simpa using z.2))];have ih:=occ_first x c l (k+1) free e1 ∅ ∅;unfold dS;rw[if_neg h];exact ih
def sF(x:Str)(c:Nat):occurrences x ⟨#[c]⟩ 0 x.length 1=(dS c 0 x.cps.toList).take 1:=by
 rw[StrLaws.occ_eq];have:=occ_first x c x.cps.toList 0 0 rfl (bM _) (aD _);rw[show x.cps.toList.length=x.length from rfl]at this;simpa using this
def sX{c:Nat}:∀{u:List Nat}{k:Nat},c∉u->dS c k u=[]
 |[],_,_=>rfl
 |a::u,k,h=>by rw[dS,if_neg (λz=>h (by rw[z];exact ay)),sX λz=>h (ao _ z)]
def sY{c:Nat}{v:List Nat}:∀{u:List Nat}{k:Nat},c∉u->(dS c k (u++c::v)).take 1=[k+u.length]
 |[],k,_=>by
  show(dS c k (c::v)).take 1=_;rw[dS,if_pos rfl]
  rfl
 |a::u,k,h=>by
  show(dS c k (a::(u++c::v))).take 1=_;rw[dS,if_neg (λz=>h (by rw[z];exact ay)),sY λz=>h (ao _ z),ag];congr 1
  lia
def Gw{x:Str}{c:Nat}(h:c∉x.cps.toList):jG x ⟨#[c]⟩=(x,vN,vN):=by
 unfold jG;rw[sF,sX h];rfl
def Gx{u v:List Nat}{c:Nat}(h:c∉u):jG ⟨(u++c::v).toArray⟩ ⟨#[c]⟩=(⟨u.toArray⟩,⟨#[c]⟩,⟨v.toArray⟩):=by
 unfold jG;rw[sF,show(⟨(u++c::v).toArray⟩:Str).cps.toList=u++c::v from rfl,sY h];dsimp only
 have e1:strSub ⟨(u++c::v).toArray⟩ 0 (0+u.length)=⟨u.toArray⟩:=by
  unfold strSub;congr 1;apply fo.mp;rw[fb,dC];simp
 have e2:strSub ⟨(u++c::v).toArray⟩ (0+u.length+1) (⟨(u++c::v).toArray⟩:Str).length=⟨v.toArray⟩:=by
  unfold strSub;congr 1;apply fo.mp;rw[fb,dC];show((u++c::v).drop (0+u.length+1)).take ((u++c::v).toArray.size-(0+u.length+1))=v
  have e:(u++c::v).drop (0+u.length+1)=v:=by
   rw[show u++c::v=(u++[c])++v by simp,show 0+u.length+1=(u++[c]).length by simp,List.drop_left]
  rw[e,cm];simp
  lia
 rw[e1];exact congrArg (λz=>(_,_,z)) e2
end PP
end
section
namespace P1
open PySem L2 PP
def top(i:Nat):bE:=PySem.Challenge.pw_cutless_k52_statements_refused.main.body.getD i (.Pass ⟨0,0,0,0⟩)
def mq:Fd:=⟨"inside",["A"],[],
 (.cons (.ret (.ite (.cmp .isin (.ix (.var 0) (.int 0)) (.glob 0)) (.tup .nil) (.sl (.var 0) (.yes (.int 1)) .no)))
 .nil),false⟩
def jB:Fd:=⟨"is_small",["text"],[],
 (.cons (.ret (.and (.chn .le .le (.int 1) (.blt .len (.cons (.var 0) .nil)) (.glob 3)) (.blt .all (.cons (.comp 1 (.nm 1) (.sq (.var 0)) .no (.chn .le .le (.str "a") (.var 1) (.str "z"))) .nil))))
 .nil),false⟩
def kD:Fd:=⟨"is_name",["text"],[],
 (.cons (.ifs (.or (.not (.chn .le .le (.int 1) (.blt .len (.cons (.var 0) .nil)) (.glob 3))) (.not (.chn .le .le (.str "a") (.ix (.var 0) (.int 0)) (.str "z"))))
 (.cons (.ret (.bl false))
 .nil)
 .nil)
 (.cons (.ret (.blt .all (.cons (.comp 1 (.nm 1) (.sq (.var 0)) .no (.or (.chn .le .le (.str "a") (.var 1) (.str "z")) (.chn .le .le (.str "0") (.var 1) (.str "9")))) .nil)))
 .nil)),false⟩
def r_pieces:Rs:=(.cons (.ifs (.not (.blt .isStr (.cons (.var 0) .nil)))
 (.cons (.rse "NoText")
 .nil)
 .nil)
 (.cons (.st (.ret (.mt .split (.var 0) (.var 1))))
 .nil))
def x_pieces:Fd:=⟨"pieces",["text","between"],[],gc r_pieces,false⟩
def d_pieces:Fd:=⟨"pieces",["text","between"],[],
 (iw r_pieces),false⟩
def r_words_in:Rs:=(.cons (.cal (.asg (.nm 1) (.call 3 (.cons (.var 0) (.cons (.str " ") .nil)))) [(.cal 3 28 (.cons (.var 0) (.cons (.str " ") .nil)))])
 (.cons (.ifs (.cmp .gt (.blt .len (.cons (.var 1) .nil)) (.glob 7))
 (.cons (.rse "NoText")
 .nil)
 .nil)
 (.cons (.st (.ret (.var 1)))
 .nil)))
def x_words_in:Fd:=⟨"words_in",["text"],["words"],gc r_words_in,false⟩
def d_words_in:Fd:=⟨"words_in",["text"],["words"],
 (iw r_words_in),false⟩
def r_read_term:Rs:=(.cons (.st (.ifs (.cmp .isin (.var 0) (.var 1))
 (.cons (.ret (.blt .toStr (.cons (.mt .index (.var 1) (.var 0)) .nil)))
 .nil)
 .nil))
 (.cons (.ifs (.not (.call 2 (.cons (.var 0) .nil)))
 (.cons (.rse "NoText")
 .nil)
 .nil)
 (.cons (.st (.ret (.var 0)))
 .nil)))
def x_read_term:Fd:=⟨"read_term",["text","letters"],[],gc r_read_term,false⟩
def d_read_term:Fd:=⟨"read_term",["text","letters"],[],
 (iw r_read_term),false⟩
def r_read_word:Rs:=(.cons (.st (.asg (.tp [2,3,4]) (.mt .part (.var 0) (.str "("))))
 (.cons (.ifs (.or (.not (.call 1 (.cons (.var 2) .nil))) (.or (.gin false "WITHIN" [("yes",0),("no",0),("not",1),("and",2),("or",2),("if",2)] (.var 2)) (.cmp .isin (.var 2) (.glob 1))))
 (.cons (.rse "NoText")
 .nil)
 .nil)
 (.cons (.st (.ifs (.cmp .eq (.var 3) (.str ""))
 (.cons (.ret (.tup (.cons (.str "word") (.cons (.var 2) (.cons (.tup .nil) .nil)))))
 .nil)
 .nil))
 (.cons (.st (.asg (.nm 5) (.mt .split (.sl (.var 4) .no (.yes (.neg (.int 1)))) (.str ","))))
 (.cons (.ifs (.or (.not (.mt .ends (.var 4) (.str ")"))) (.cmp .gt (.blt .len (.cons (.var 5) .nil)) (.glob 4)))
 (.cons (.rse "NoText")
 .nil)
 .nil)
 (.cons (.cal (.ret (.tup (.cons (.str "word") (.cons (.var 2) (.cons (.blt .toTup (.cons (.comp 1 (.nm 6) (.sq (.var 5)) .no (.call 5 (.cons (.var 6) (.cons (.var 1) .nil)))) .nil)) .nil))))) [(.tup (.tl (.str "word") (.tl (.var 2) (.hd (.tot (.cmp 1 (.nm 6) (.sq (.var 5)) 5 30 (.cons (.var 6) (.cons (.var 1) .nil)))) .nil))))])
 .nil))))))
def x_read_word:Fd:=⟨"read_word",["text","letters"],["word","bracket","rest","terms"],gc r_read_word,false⟩
def d_read_word:Fd:=⟨"read_word",["text","letters"],["word","bracket","rest","terms"],
 (iw r_read_word),false⟩
def r_letters_within:Rs:=(.cons (.ifs (.cmp .eq (.blt .len (.cons (.var 1) .nil)) (.glob 6))
 (.cons (.rse "NoText")
 .nil)
 .nil)
 (.cons (.ifs (.or (.cmp .lt (.blt .len (.cons (.var 0) .nil)) (.int 2)) (.or (.cmp .ne (.blt .len (.cons (.ix (.var 0) (.int 1)) .nil)) (.int 1)) (.cmp .notin (.ix (.var 0) (.int 1)) (.glob 2))))
 (.cons (.rse "NoText")
 .nil)
 .nil)
 (.cons (.st (.ret (.bin .add (.lst (.cons (.ix (.var 0) (.int 1)) .nil)) (.var 1))))
 .nil)))
def x_letters_within:Fd:=⟨"letters_within",["words","letters"],[],gc r_letters_within,false⟩
def d_letters_within:Fd:=⟨"letters_within",["words","letters"],[],
 (iw r_letters_within),false⟩
def r_read_first:Rs:=(.cons (.ifs (.not (.var 0))
 (.cons (.rse "NoText")
 .nil)
 .nil)
 (.cons (.st (.asg (.nm 2) (.ix (.var 0) (.int 0))))
 (.cons (.ifs (.cmp .isin (.var 2) (.glob 1))
 (.cons (.cal (.asg (.tp [3,4]) (.call 8 (.cons (.sl (.var 0) (.yes (.int 2)) .no) (.cons (.call 7 (.cons (.var 0) (.cons (.var 1) .nil))) .nil)))) [(.fn 8 33 (.tl (.sl (.var 0) (.yes (.int 2)) .no) (.hd (.cal 7 32 (.cons (.var 0) (.cons (.var 1) .nil))) .nil))),(.cal 8 33 (.cons (.sl (.var 0) (.yes (.int 2)) .no) (.cons (.call 7 (.cons (.var 0) (.cons (.var 1) .nil))) .nil)))])
 (.cons (.st (.ret (.tup (.cons (.tup (.cons (.var 2) (.cons (.var 3) .nil))) (.cons (.var 4) .nil)))))
 .nil))
 .nil)
 (.cons (.ifs (.gin true "WITHIN" [("yes",0),("no",0),("not",1),("and",2),("or",2),("if",2)] (.var 2))
 (.cons (.cal (.ret (.tup (.cons (.call 6 (.cons (.var 2) (.cons (.var 1) .nil))) (.cons (.sl (.var 0) (.yes (.int 1)) .no) .nil)))) [(.tup (.hd (.cal 6 31 (.cons (.var 2) (.cons (.var 1) .nil))) (.cons (.sl (.var 0) (.yes (.int 1)) .no) .nil)))])
 .nil)
 .nil)
 (.cons (.st (.asg (.tp [5,4]) (.tup (.cons (.tup (.cons (.var 2) .nil)) (.cons (.sl (.var 0) (.yes (.int 1)) .no) .nil)))))
 (.cons (.fr (.nm 6) (.rng (.gix "WITHIN" [("yes",0),("no",0),("not",1),("and",2),("or",2),("if",2)] (.var 2)))
 (.cons (.cal (.asg (.tp [7,4]) (.call 8 (.cons (.var 4) (.cons (.var 1) .nil)))) [(.cal 8 33 (.cons (.var 4) (.cons (.var 1) .nil)))])
 (.cons (.st (.aug 5 .add (.tup (.cons (.var 7) .nil))))
 .nil)))
 (.cons (.st (.ret (.tup (.cons (.var 5) (.cons (.var 4) .nil)))))
 .nil)))))))
def x_read_first:Fd:=⟨"read_first",["words","letters"],["kind","body","behind","A","at","B"],gc r_read_first,false⟩
def d_read_first:Fd:=⟨"read_first",["words","letters"],["kind","body","behind","A","at","B"],
 (iw r_read_first),false⟩
def gS:Fd:=⟨"part_count",["A"],[],
 (.cons (.ret (.bin .add (.int 1) (.blt .sum (.cons (.comp 1 (.nm 1) (.sq (.call 0 (.cons (.var 0) .nil))) .no (.call 9 (.cons (.var 1) .nil))) .nil))))
 .nil),false⟩
def r_read_bounded:Rs:=(.cons (.cal (.asg (.tp [1,2]) (.call 8 (.cons (.var 0) (.cons (.lst .nil) .nil)))) [(.cal 8 33 (.cons (.var 0) (.cons (.lst .nil) .nil)))])
 (.cons (.ifs (.cmp .gt (.call 9 (.cons (.var 1) .nil)) (.glob 5))
 (.cons (.rse "NoText")
 .nil)
 .nil)
 (.cons (.st (.ret (.tup (.cons (.var 1) (.cons (.var 2) .nil)))))
 .nil)))
def x_read_bounded:Fd:=⟨"read_bounded",["words"],["A","behind"],gc r_read_bounded,false⟩
def d_read_bounded:Fd:=⟨"read_bounded",["words"],["A","behind"],
 (iw r_read_bounded),false⟩
def r_read_statement:Rs:=(.cons (.cal (.asg (.tp [1,2]) (.call 10 (.cons (.call 4 (.cons (.var 0) .nil)) .nil))) [(.fn 10 34 (.hd (.cal 4 29 (.cons (.var 0) .nil)) .nil)),(.cal 10 34 (.cons (.call 4 (.cons (.var 0) .nil)) .nil))])
 (.cons (.ifs (.var 2)
 (.cons (.rse "NoText")
 .nil)
 .nil)
 (.cons (.st (.ret (.var 1)))
 .nil)))
def x_read_statement:Fd:=⟨"read_statement",["text"],["A","behind"],gc r_read_statement,false⟩
def d_read_statement:Fd:=⟨"read_statement",["text"],["A","behind"],
 (iw r_read_statement),false⟩
def iE:Fd:=⟨"_law_cell",["_law_script","_law_k"],["_law_number"],
 (.cons (.ifs (.cmp .lt (.var 1) (.blt .len (.cons (.var 0) .nil)))
 (.cons (.ret (.ix (.var 0) (.var 1)))
 .nil)
 .nil)
 (.cons (.asg (.nm 2) (.bin .add (.bin .mul (.var 1) (.int 7919)) (.int 5)))
 (.cons (.ifs (.cmp .gt (.blt .len (.cons (.var 0) .nil)) (.int 0))
 (.cons (.asg (.nm 2) (.bin .add (.bin .mod (.bin .mul (.ix (.var 0) (.bin .mod (.bin .mul (.var 1) (.int 7)) (.blt .len (.cons (.var 0) .nil)))) (.int 48271)) (.int 2147483647)) (.bin .mul (.var 1) (.int 104729))))
 .nil)
 .nil)
 (.cons (.ret (.bin .mod (.bin .mul (.var 2) (.var 2)) (.int 2147483629)))
 .nil)))),false⟩
def iD:Fd:=⟨"_law_name",["_law_cell_here"],["_law_letters","_law_found","_law_rest","_law_k"],
 (.cons (.asg (.nm 1) (.str "abcdefghijklmnopqrstuvwxyz0123456789"))
 (.cons (.asg (.nm 2) (.ix (.var 1) (.bin .mod (.bin .fdiv (.var 0) (.int 8)) (.int 26))))
 (.cons (.asg (.nm 3) (.bin .fdiv (.var 0) (.int 208)))
 (.cons (.for_ (.nm 4) (.rng (.bin .mod (.var 0) (.int 8)))
 (.cons (.asg (.nm 2) (.bin .add (.var 2) (.ix (.var 1) (.bin .mod (.var 3) (.int 36)))))
 (.cons (.asg (.nm 3) (.bin .fdiv (.var 3) (.int 36)))
 .nil)))
 (.cons (.ret (.var 2))
 .nil))))),false⟩
def iA:Fd:=⟨"_law_word",["_law_cell_here"],["_law_found","_law_rest","_law_k"],
 (.cons (.asg (.nm 1) (.str ""))
 (.cons (.asg (.nm 2) (.bin .fdiv (.var 0) (.int 8)))
 (.cons (.for_ (.nm 3) (.rng (.bin .add (.int 1) (.bin .mod (.var 0) (.int 8))))
 (.cons (.asg (.nm 1) (.bin .add (.var 1) (.ix (.str "etaoinshrdlcumwfgypbvkjxqz") (.bin .mod (.var 2) (.int 26)))))
 (.cons (.asg (.nm 2) (.bin .fdiv (.var 2) (.int 26)))
 .nil)))
 (.cons (.ifs (.cmp .isin (.var 1) (.tup (.cons (.str "yes") (.cons (.str "no") (.cons (.str "not") (.cons (.str "and") (.cons (.str "or") (.cons (.str "if") (.cons (.str "all") (.cons (.str "some") .nil))))))))))
 (.cons (.ret (.bin .add (.var 1) (.str "s")))
 .nil)
 .nil)
 (.cons (.ret (.var 1))
 .nil))))),false⟩
def gU:Fd:=⟨"_law_place",["_law_letter","_law_around"],["_law_k"],
 (.cons (.for_ (.nm 2) (.rng (.blt .len (.cons (.var 1) .nil)))
 (.cons (.ifs (.cmp .eq (.ix (.var 1) (.bin .sub (.neg (.int 1)) (.var 2))) (.var 0))
 (.cons (.ret (.blt .toStr (.cons (.var 2) .nil)))
 .nil)
 .nil)
 .nil))
 (.cons (.ret (.var 0))
 .nil)),false⟩
def gW:Fd:=⟨"_law_drawn",["_law_cell_here","_law_deep","_law_around","_law_names"],["_law_kind","_law_rest","_law_some","_law_terms","_law_text","_law_s","_law_one","_law_letter","_law_two"],
 (.cons (.asg (.nm 4) (.ix (.lst (.cons (.str "word") (.cons (.str "not") (.cons (.str "and") (.cons (.str "or") (.cons (.str "if") (.cons (.str "all") (.cons (.str "some") (.cons (.str "yes") (.cons (.str "no") (.cons (.str "word") .nil))))))))))) (.bin .mod (.var 0) (.int 10))))
 (.cons (.asg (.nm 5) (.bin .fdiv (.var 0) (.int 10)))
 (.cons (.ifs (.or (.cmp .eq (.var 4) (.str "yes")) (.cmp .eq (.var 4) (.str "no")))
 (.cons (.ret (.tup (.cons (.var 4) (.cons (.tup (.cons (.var 4) .nil)) .nil))))
 .nil)
 .nil)
 (.cons (.ifs (.or (.cmp .eq (.var 4) (.str "word")) (.cmp .eq (.var 1) (.int 0)))
 (.cons (.asg (.nm 6) (.bin .add (.bin .add (.var 3) (.var 2)) (.sl (.var 2) (.yes (.neg (.int 1))) .no)))
 (.cons (.cmp false 7 (.comp 1 (.nm 13) (.sq (.sl (.lst (.cons (.bin .mod (.bin .mul (.var 5) (.int 31)) (.int 1009)) (.cons (.bin .mod (.bin .mul (.var 5) (.int 37)) (.int 1013)) (.cons (.bin .mod (.bin .mul (.var 5) (.int 41)) (.int 1019)) .nil)))) .no (.yes (.bin .mod (.var 5) (.int 4))))) .no (.ix (.var 6) (.bin .mod (.var 13) (.blt .len (.cons (.var 6) .nil))))))
 (.cons (.asg (.nm 8) (.call 14 (.cons (.bin .fdiv (.var 5) (.int 4)) .nil)))
 (.cons (.asg (.nm 9) (.tup (.cons (.str "word") (.cons (.var 8) (.cons (.blt .toTup (.cons (.comp 1 (.nm 13) (.sq (.var 7)) .no (.call 15 (.cons (.var 13) (.cons (.var 2) .nil)))) .nil)) .nil)))))
 (.cons (.ifs (.cmp .gt (.blt .len (.cons (.var 7) .nil)) (.int 0))
 (.cons (.asg (.nm 8) (.bin .add (.bin .add (.bin .add (.var 8) (.str "(")) (.mt .join (.str ",") (.var 7))) (.str ")")))
 .nil)
 .nil)
 (.cons (.ret (.tup (.cons (.var 8) (.cons (.var 9) .nil))))
 .nil))))))
 .nil)
 (.cons (.ifs (.cmp .eq (.var 4) (.str "not"))
 (.cons (.asg (.nm 10) (.call 16 (.cons (.var 5) (.cons (.bin .sub (.var 1) (.int 1)) (.cons (.var 2) (.cons (.var 3) .nil))))))
 (.cons (.ret (.tup (.cons (.bin .add (.str "not ") (.ix (.var 10) (.int 0))) (.cons (.tup (.cons (.str "not") (.cons (.ix (.var 10) (.int 1)) .nil))) .nil))))
 .nil))
 .nil)
 (.cons (.ifs (.or (.cmp .eq (.var 4) (.str "all")) (.cmp .eq (.var 4) (.str "some")))
 (.cons (.asg (.nm 11) (.ix (.str "QWERTYUIOPASDFGHJKLZXCVBNM") (.bin .mod (.bin .add (.var 5) (.bin .mul (.int 5) (.blt .len (.cons (.var 2) .nil)))) (.int 26))))
 (.cons (.ifs (.and (.cmp .eq (.bin .mod (.bin .fdiv (.var 5) (.int 26)) (.int 3)) (.int 1)) (.cmp .gt (.blt .len (.cons (.var 2) .nil)) (.int 0)))
 (.cons (.asg (.nm 11) (.ix (.var 2) (.int 0)))
 .nil)
 .nil)
 (.cons (.asg (.nm 10) (.call 16 (.cons (.bin .fdiv (.var 5) (.int 3)) (.cons (.bin .sub (.var 1) (.int 1)) (.cons (.bin .add (.var 2) (.lst (.cons (.var 11) .nil))) (.cons (.var 3) .nil))))))
 (.cons (.ret (.tup (.cons (.bin .add (.bin .add (.bin .add (.bin .add (.var 4) (.str " ")) (.var 11)) (.str " ")) (.ix (.var 10) (.int 0))) (.cons (.tup (.cons (.var 4) (.cons (.ix (.var 10) (.int 1)) .nil))) .nil))))
 .nil))))
 .nil)
 (.cons (.asg (.nm 10) (.call 16 (.cons (.bin .mod (.bin .mul (.var 5) (.int 48271)) (.int 2147483647)) (.cons (.bin .sub (.var 1) (.int 1)) (.cons (.var 2) (.cons (.var 3) .nil))))))
 (.cons (.asg (.nm 12) (.call 16 (.cons (.bin .mod (.bin .mul (.var 5) (.int 69621)) (.int 2147483629)) (.cons (.bin .sub (.var 1) (.int 1)) (.cons (.var 2) (.cons (.var 3) .nil))))))
 (.cons (.ret (.tup (.cons (.bin .add (.bin .add (.bin .add (.bin .add (.var 4) (.str " ")) (.ix (.var 10) (.int 0))) (.str " ")) (.ix (.var 12) (.int 0))) (.cons (.tup (.cons (.var 4) (.cons (.ix (.var 10) (.int 1)) (.cons (.ix (.var 12) (.int 1)) .nil)))) .nil))))
 .nil))))))))),false⟩
def iC:Fd:=⟨"_law_tall",["_law_cell_here","_law_names"],["_law_text","_law_s","_law_k","_law_word_here"],
 (.cons (.asg (.tp [2,3]) (.call 16 (.cons (.bin .fdiv (.var 0) (.int 4)) (.cons (.int 0) (.cons (.lst .nil) (.cons (.var 1) .nil))))))
 (.cons (.ifs (.cmp .eq (.bin .mod (.var 0) (.int 2)) (.int 1))
 (.cons (.for_ (.nm 4) (.rng (.int 19))
 (.cons (.ifs (.cmp .eq (.bin .mod (.bin .fdiv (.var 0) (.bin .add (.var 4) (.int 3))) (.int 2)) (.int 1))
 (.cons (.asg (.nm 2) (.bin .add (.str "and yes ") (.var 2)))
 (.cons (.asg (.nm 3) (.tup (.cons (.str "and") (.cons (.tup (.cons (.str "yes") .nil)) (.cons (.var 3) .nil)))))
 .nil))
 (.cons (.asg (.nm 2) (.bin .add (.bin .add (.str "if ") (.var 2)) (.str " no")))
 (.cons (.asg (.nm 3) (.tup (.cons (.str "if") (.cons (.var 3) (.cons (.tup (.cons (.str "no") .nil)) .nil)))))
 .nil)))
 .nil))
 (.cons (.ret (.tup (.cons (.bin .add (.str "not ") (.var 2)) (.cons (.tup (.cons (.str "not") (.cons (.var 3) .nil))) .nil))))
 .nil))
 .nil)
 (.cons (.asg (.nm 2) (.bin .add (.bin .add (.str "p(A,J,") (.ix (.var 1) (.int 0))) (.str ")")))
 (.cons (.asg (.nm 3) (.tup (.cons (.str "word") (.cons (.str "p") (.cons (.tup (.cons (.str "9") (.cons (.str "0") (.cons (.ix (.var 1) (.int 0)) .nil)))) .nil)))))
 (.cons (.for_ (.nm 4) (.rng (.int 10))
 (.cons (.asg (.nm 5) (.ix (.lst (.cons (.str "all") (.cons (.str "some") .nil))) (.bin .mod (.bin .fdiv (.var 0) (.bin .add (.var 4) (.int 3))) (.int 2))))
 (.cons (.asg (.nm 2) (.bin .add (.bin .add (.bin .add (.bin .add (.var 5) (.str " ")) (.ix (.str "JIHGFEDCBA") (.var 4))) (.str " ")) (.var 2)))
 (.cons (.asg (.nm 3) (.tup (.cons (.var 5) (.cons (.var 3) .nil))))
 .nil))))
 (.cons (.ret (.tup (.cons (.var 2) (.cons (.var 3) .nil))))
 .nil)))))),false⟩
def fW:Fd:=⟨"_law_made_of",["_law_text","_law_allowed"],["_law_sign"],
 (.cons (.ifs (.not (.chn .lt .lt (.int 0) (.blt .len (.cons (.var 0) .nil)) (.int 9)))
 (.cons (.ret (.bl false))
 .nil)
 .nil)
 (.cons (.for_ (.nm 2) (.sq (.var 0))
 (.cons (.ifs (.cmp .notin (.var 2) (.var 1))
 (.cons (.ret (.bl false))
 .nil)
 .nil)
 .nil))
 (.cons (.ret (.bl true))
 .nil))),false⟩
def iB:Fd:=⟨"_law_term",["_law_text","_law_around"],["_law_small","_law_k"],
 (.cons (.asg (.nm 2) (.str "abcdefghijklmnopqrstuvwxyz"))
 (.cons (.for_ (.nm 3) (.rng (.blt .len (.cons (.var 1) .nil)))
 (.cons (.ifs (.cmp .eq (.ix (.var 1) (.bin .sub (.neg (.int 1)) (.var 3))) (.var 0))
 (.cons (.ret (.blt .toStr (.cons (.var 3) .nil)))
 .nil)
 .nil)
 .nil))
 (.cons (.ifs (.and (.call 18 (.cons (.var 0) (.cons (.bin .add (.var 2) (.str "0123456789")) .nil))) (.cmp .isin (.ix (.var 0) (.int 0)) (.var 2)))
 (.cons (.ret (.var 0))
 .nil)
 .nil)
 (.cons (.ret .non)
 .nil)))),false⟩
def eQ:Fd:=⟨"_law_word_of",["_law_text","_law_around"],["_law_word_here","_law_terms","_law_at"],
 (.cons (.asg (.nm 2) (.var 0))
 (.cons (.asg (.nm 3) (.lst .nil))
 (.cons (.ifs (.cmp .eq (.sl (.var 0) (.yes (.neg (.int 1))) .no) (.str ")"))
 (.cons (.asg (.nm 4) (.mt .find (.var 0) (.str "(")))
 (.cons (.ifs (.cmp .lt (.var 4) (.int 0))
 (.cons (.ret .non)
 .nil)
 .nil)
 (.cons (.asg (.nm 2) (.sl (.var 0) .no (.yes (.var 4))))
 (.cons (.asg (.nm 3) (.mt .split (.sl (.var 0) (.yes (.bin .add (.var 4) (.int 1))) (.yes (.neg (.int 1)))) (.str ",")))
 .nil))))
 .nil)
 (.cons (.ifs (.or (.not (.call 18 (.cons (.var 2) (.cons (.str "abcdefghijklmnopqrstuvwxyz") .nil)))) (.cmp .gt (.blt .len (.cons (.var 3) .nil)) (.int 3)))
 (.cons (.ret .non)
 .nil)
 .nil)
 (.cons (.ifs (.cmp .isin (.var 2) (.tup (.cons (.str "yes") (.cons (.str "no") (.cons (.str "not") (.cons (.str "and") (.cons (.str "or") (.cons (.str "if") (.cons (.str "all") (.cons (.str "some") .nil))))))))))
 (.cons (.ret .non)
 .nil)
 .nil)
 (.cons (.cmp false 3 (.comp 1 (.nm 5) (.sq (.var 3)) .no (.call 19 (.cons (.var 5) (.cons (.var 1) .nil)))))
 (.cons (.ifs (.cmp .isin .non (.var 3))
 (.cons (.ret .non)
 .nil)
 .nil)
 (.cons (.ret (.tup (.cons (.str "word") (.cons (.var 2) (.cons (.blt .toTup (.cons (.var 3) .nil)) .nil)))))
 .nil)))))))),false⟩
def dU:Fd:=⟨"_law_walked",["_law_words"],["_law_stack","_law_walked_here","_law_at","_law_around","_law_k"],
 (.cons (.new 1 (.lst (.cons (.lst .nil) .nil)))
 (.cons (.new 2 (.lst .nil))
 (.cons (.asg (.nm 3) (.int 0))
 (.cons (.while_ (.cmp .lt (.var 3) (.blt .len (.cons (.var 0) .nil)))
 (.cons (.ifs (.cmp .eq (.pk 1) (.lst .nil))
 (.cons (.ret .non)
 .nil)
 .nil)
 (.cons (.asg (.nm 4) (.pop 1))
 (.cons (.append 2 (.tup (.cons (.ix (.var 0) (.var 3)) (.cons (.var 4) .nil))))
 (.cons (.ifs (.or (.cmp .eq (.ix (.var 0) (.var 3)) (.str "all")) (.cmp .eq (.ix (.var 0) (.var 3)) (.str "some")))
 (.cons (.aug 3 .add (.int 1))
 (.cons (.ifs (.or (.cmp .eq (.var 3) (.blt .len (.cons (.var 0) .nil))) (.or (.cmp .ne (.blt .len (.cons (.ix (.var 0) (.var 3)) .nil)) (.int 1)) (.cmp .notin (.ix (.var 0) (.var 3)) (.str "ABCDEFGHIJKLMNOPQRSTUVWXYZ"))))
 (.cons (.ret .non)
 .nil)
 .nil)
 (.cons (.append 1 (.bin .add (.var 4) (.lst (.cons (.ix (.var 0) (.var 3)) .nil))))
 .nil)))
 .nil)
 (.cons (.for_ (.nm 5) (.rng (.dgt (.dcc [("not",1),("and",2),("or",2),("if",2)]) (.ix (.var 0) (.var 3)) (.int 0)))
 (.cons (.append 1 (.var 4))
 .nil))
 (.cons (.aug 3 .add (.int 1))
 .nil)))))))
 (.cons (.ifs (.or (.cmp .ne (.pk 1) (.lst .nil)) (.or (.cmp .gt (.blt .len (.cons (.pk 2) .nil)) (.int 40)) (.cmp .gt (.blt .max (.cons (.comp 2 (.tp [6,7]) (.sq (.var 2)) .no (.blt .len (.cons (.var 7) .nil))) .nil)) (.int 10))))
 (.cons (.ret .non)
 .nil)
 .nil)
 (.cons (.ret (.var 2))
 .nil)))))),false⟩
def eS:Fd:=⟨"_law_due",["_law_text"],["_law_walked_here","_law_stand","_law_word_here","_law_around","_law_size","_law_s"],
 (.cons (.asg (.nm 1) (.call 21 (.cons (.mt .split (.var 0) (.str " ")) .nil)))
 (.cons (.ifs (.cmp .is (.var 1) .non)
 (.cons (.ret .non)
 .nil)
 .nil)
 (.cons (.new 2 (.lst .nil))
 (.cons (.for_ (.tp [3,4]) (.rev (.var 1))
 (.cons (.asg (.nm 5) (.dgt (.dcc [("not",1),("all",1),("some",1),("and",2),("or",2),("if",2)]) (.var 3) (.int 0)))
 (.cons (.ifs (.or (.cmp .eq (.var 3) (.str "yes")) (.cmp .eq (.var 3) (.str "no")))
 (.cons (.asg (.nm 6) (.tup (.cons (.var 3) .nil)))
 .nil)
 (.cons (.ifs (.cmp .eq (.var 5) (.int 0))
 (.cons (.asg (.nm 6) (.call 20 (.cons (.var 3) (.cons (.var 4) .nil))))
 .nil)
 (.cons (.asg (.nm 6) (.bin .add (.tup (.cons (.var 3) .nil)) (.blt .toTup (.cons (.rvl (.var 2) (.yes (.bin .sub (.neg (.int 1)) (.var 5))) (.yes (.neg (.int 1)))) .nil))))
 (.cons (.new 2 (.sl (.pk 2) .no (.yes (.neg (.var 5)))))
 .nil)))
 .nil))
 (.cons (.ifs (.cmp .is (.var 6) .non)
 (.cons (.ret .non)
 .nil)
 .nil)
 (.cons (.append 2 (.var 6))
 .nil)))))
 (.cons (.ret (.ix (.pk 2) (.int 0)))
 .nil))))),false⟩
def jC:Fd:=⟨"_law_odd",["_law_cell_here","_law_names"],["_law_some"],
 (.cons (.asg (.nm 2) (.lst (.cons (.str "") (.cons (.str " ") (.cons (.str "p()") (.cons (.str "p(") (.cons (.str "p)") (.cons (.str "(a)") (.cons (.str "p(a") (.cons (.str "p(a,)") (.cons (.str "p(,a)") (.cons (.str "p(a, b)") (.cons (.str "p (a)") (.cons (.str "p(X)") (.cons (.str "X") (.cons (.str "P") (.cons (.str "not") .nil)))))))))))))))))
 (.cons (.asg (.nm 2) (.bin .add (.var 2) (.lst (.cons (.str "p(A)") .nil))))
 (.cons (.asg (.nm 2) (.bin .add (.var 2) (.lst (.cons (.str "and p") (.cons (.str "all X") (.cons (.str "all p(X)") (.cons (.str "all XY p") (.cons (.str "all x p(x)") (.cons (.str "some X p(Y)") (.cons (.str "not  p") (.cons (.str " p") (.cons (.str "p ") (.cons (.str "p q") .nil)))))))))))))
 (.cons (.asg (.nm 2) (.bin .add (.var 2) (.lst (.cons (.str "if p") (.cons (.str "p(a)(b)") (.cons (.str "p(1)") (.cons (.str "p(1a)") (.cons (.str "p(0)") (.cons (.str "all X p(x)") (.cons (.str "yes no") (.cons (.str "yes(a)") (.cons (.str "not()") (.cons (.str "and") (.cons (.str "p1") .nil))))))))))))))
 (.cons (.asg (.nm 2) (.bin .add (.var 2) (.lst (.cons (.str "abcdefghi") (.cons (.str "p(abcdefghi)") (.cons (.str "all X all X p(X,X)") (.cons (.str "p(not)") (.cons (.str "p(all)") (.cons (.str "all X X") (.cons (.str "-") (.cons (.str "p(a-b)") .nil)))))))))))
 (.cons (.ifs (.cmp .eq (.bin .mod (.var 0) (.int 4)) (.int 1))
 (.cons (.ret (.bin .add (.bin .add (.str "p(") (.mt .join (.str ",") (.comp 1 (.nm 3) (.rng (.bin .add (.int 2) (.bin .mod (.bin .fdiv (.var 0) (.int 4)) (.int 4)))) .no (.ix (.var 1) (.bin .mod (.bin .fdiv (.bin .fdiv (.var 0) (.int 4)) (.bin .add (.var 3) (.int 1))) (.blt .len (.cons (.var 1) .nil))))))) (.str ")")))
 .nil)
 .nil)
 (.cons (.ifs (.cmp .eq (.bin .mod (.var 0) (.int 4)) (.int 2))
 (.cons (.ret (.bin .add (.ix (.lst (.cons (.str "not ") (.cons (.str "and no ") .nil))) (.bin .mod (.bin .fdiv (.var 0) (.int 4)) (.int 2))) (.ix (.call 17 (.cons (.int 1) (.cons (.var 1) .nil))) (.int 0))))
 .nil)
 .nil)
 (.cons (.ifs (.cmp .eq (.bin .mod (.var 0) (.int 4)) (.int 3))
 (.cons (.ret (.bin .add (.bin .add (.bin .add (.str "some ") (.ix (.str "XAJ") (.bin .mod (.bin .fdiv (.var 0) (.int 4)) (.int 3)))) (.str " ")) (.ix (.call 17 (.cons (.int 0) (.cons (.var 1) .nil))) (.int 0))))
 .nil)
 .nil)
 (.cons (.ret (.ix (.var 2) (.bin .mod (.bin .fdiv (.var 0) (.int 4)) (.blt .len (.cons (.var 2) .nil)))))
 .nil))))))))),false⟩
def fX:Fd:=⟨"_law_changed",["_law_text","_law_cell_here"],["_law_signs_all","_law_at","_law_sign","_law_words","_law_k","_law_way"],
 (.cons (.asg (.nm 2) (.str " ()ABXYZabcnotyesdif0123456789,;=>~-_'!?+*/<|&^.:#"))
 (.cons (.asg (.nm 3) (.bin .mod (.bin .fdiv (.var 1) (.int 7)) (.bin .add (.blt .len (.cons (.var 0) .nil)) (.int 1))))
 (.cons (.asg (.nm 4) (.ix (.var 2) (.bin .mod (.bin .fdiv (.var 1) (.int 41)) (.blt .len (.cons (.var 2) .nil)))))
 (.cons (.new 5 (.mt .split (.var 0) (.str " ")))
 (.cons (.asg (.nm 6) (.bin .mod (.bin .fdiv (.var 1) (.int 7)) (.blt .len (.cons (.pk 5) .nil))))
 (.cons (.asg (.nm 7) (.bin .mod (.var 1) (.int 7)))
 (.cons (.ifs (.cmp .eq (.var 7) (.int 0))
 (.cons (.ret (.bin .add (.bin .add (.sl (.var 0) .no (.yes (.var 3))) (.var 4)) (.sl (.var 0) (.yes (.var 3)) .no)))
 .nil)
 .nil)
 (.cons (.ifs (.cmp .eq (.var 7) (.int 1))
 (.cons (.ret (.bin .add (.sl (.var 0) .no (.yes (.var 3))) (.sl (.var 0) (.yes (.bin .add (.var 3) (.int 1))) .no)))
 .nil)
 .nil)
 (.cons (.ifs (.cmp .eq (.var 7) (.int 2))
 (.cons (.ret (.bin .add (.bin .add (.sl (.var 0) .no (.yes (.var 3))) (.var 4)) (.sl (.var 0) (.yes (.bin .add (.var 3) (.int 1))) .no)))
 .nil)
 .nil)
 (.cons (.ifs (.cmp .eq (.var 7) (.int 3))
 (.cons (.ins 5 (.cons (.var 6) (.cons (.ix (.pk 5) (.var 6)) .nil)))
 .nil)
 (.cons (.ifs (.cmp .eq (.var 7) (.int 4))
 (.cons (.asg (.nm 5) (.bin .add (.sl (.pk 5) .no (.yes (.var 6))) (.sl (.pk 5) (.yes (.bin .add (.var 6) (.int 1))) .no)))
 .nil)
 (.cons (.ifs (.cmp .eq (.var 7) (.int 5))
 (.cons (.ins 5 (.cons (.bin .add (.var 6) (.int 1)) (.cons (.popi 5 (.var 6)) .nil)))
 .nil)
 (.cons (.setix 5 (.var 6) (.ix (.lst (.cons (.str "not") (.cons (.str "and") (.cons (.str "if") (.cons (.str "all X") (.cons (.str "some") (.cons (.str "yes") (.cons (.str "p(X)") (.cons (.str "q(a)") (.cons (.str "X") (.cons (.str "") .nil))))))))))) (.bin .mod (.bin .fdiv (.var 1) (.int 41)) (.int 10))))
 .nil))
 .nil))
 .nil))
 (.cons (.ret (.mt .join (.str " ") (.var 5)))
 .nil))))))))))),false⟩
def ups:List (Str×List Str):=[("NoText",["NoText","CutlessError"])]
def pcs:List Str:=["CutlessError","NoCut","NoName","NoProof","NoRow","NoText","NotCleared","NotPlain","TooGreat"]
def kr__law_read:Rs:=(.cons (.cal (.asg (.nm 2) (.call 11 (.cons (.var 0) .nil))) [(.cal 11 35 (.cons (.var 0) .nil))])
 .nil)
def kp__law_read:Ss:=(.cons (.ifs (.cmp .is (.var 1) .non)
 (.cons (.ret (.lst (.cons (.var 2) .nil)))
 .nil)
 .nil)
 (.cons .bad
 (.cons .bad
 (.cons .bad
 .nil))))
def kk__law_read:Ks:=(.skN (.tt ["NoCut","NoName","NoProof","NoRow","NotCleared","NotPlain","TooGreat"] (.cons .bad .nil) (.qq (.an .ty (.isI "NoText")) (.cons (.ret .non)
 .nil) (.rt (.cons .bad
 .nil)))))
def kl__law_read:List S:=[(.asg (.nm 1) .non),(.asg (.nm 2) .non)]
def d__law_read:Fd:=⟨"_law_read",["_law_thing"],["_law_refused","_law_told","e"],
 (kS ups kr__law_read 1 3 kp__law_read kk__law_read kl__law_read),false⟩
def gT:Fd:=⟨"_law_right",["_law_text"],["_law_s"],
 (.cons (.asg (.nm 1) (.call 22 (.cons (.var 0) .nil)))
 (.cons (.ifs (.cmp .is (.var 1) .non)
 (.cons (.ret (.cmp .is (.call 25 (.cons (.var 0) .nil)) .non))
 .nil)
 .nil)
 (.cons (.ret (.cmp .eq (.call 25 (.cons (.var 0) .nil)) (.lst (.cons (.var 1) .nil))))
 .nil))),false⟩
def d_law:Fd:=⟨"law",["_law_script"],["_law_names","_law_cell_here","_law_text","_law_number","_law_things"],
 (.cons (.asg (.nm 1) (.lst (.cons (.call 13 (.cons (.call 12 (.cons (.var 0) (.cons (.int 0) .nil))) .nil)) (.cons (.call 13 (.cons (.call 12 (.cons (.var 0) (.cons (.int 1) .nil))) .nil)) (.cons (.str "by") .nil)))))
 (.cons (.asg (.nm 2) (.call 12 (.cons (.var 0) (.cons (.int 2) .nil))))
 (.cons (.asg (.nm 3) (.ix (.call 16 (.cons (.bin .fdiv (.var 2) (.int 6)) (.cons (.int 4) (.cons (.lst .nil) (.cons (.var 1) .nil))))) (.int 0)))
 (.cons (.ifs (.cmp .eq (.bin .mod (.var 2) (.int 6)) (.int 4))
 (.cons (.asg (.nm 3) (.ix (.call 17 (.cons (.bin .fdiv (.var 2) (.int 6)) (.cons (.var 1) .nil))) (.int 0)))
 .nil)
 .nil)
 (.cons (.for_ (.nm 4) (.sq (.bin .add (.lst (.cons (.call 12 (.cons (.var 0) (.cons (.int 3) .nil))) .nil)) (.sl (.var 0) (.yes (.int 4)) (.yes (.int 24)))))
 (.cons (.ifs (.or (.not (.call 26 (.cons (.var 3) .nil))) (.not (.call 26 (.cons (.call 23 (.cons (.var 4) (.cons (.var 1) .nil))) .nil))))
 (.cons .bad
 .nil)
 .nil)
 (.cons (.asg (.nm 3) (.call 24 (.cons (.var 3) (.cons (.var 4) .nil))))
 .nil)))
 (.cons (.asg (.nm 5) (.lst (.cons .non (.cons (.int 0) (.cons (.bl true) (.cons (.bin .mod (.var 2) (.bin .pow (.int 10) (.int 30))) (.cons (.lst (.cons (.var 3) .nil)) (.cons (.tup (.cons (.var 3) .nil)) (.cons (.dsv 3 3) (.cons (.tup (.cons (.str "yes") .nil)) (.cons (.lst .nil) (.cons (.tup (.cons (.str "word") (.cons (.str "p") (.cons (.tup .nil) .nil)))) .nil))))))))))))
 (.cons (.ret (.and (.call 26 (.cons (.var 3) .nil)) (.cmp .is (.call 25 (.cons (.ix (.var 5) (.bin .mod (.var 2) (.int 10))) .nil)) .non)))
 .nil))))))),false⟩
noncomputable instance xsi:Xs:=⟨[(3,28),(4,29),(5,30),(6,31),(7,32),(8,33),(10,34),(11,35)]⟩
def Gd:List Fd:=[mq,jB,kD,d_pieces,d_words_in,d_read_term,d_read_word,d_letters_within,d_read_first,gS,d_read_bounded,d_read_statement,iE,iD,iA,gU,gW,iC,fW,iB,eQ,dU,eS,jC,fX,d__law_read,gT,d_law]
def Gs:List Fd:=[mq,jB,kD,d_pieces,d_words_in,d_read_term,d_read_word,d_letters_within,d_read_first,gS,d_read_bounded,d_read_statement,iE,iD,iA,gU,gW,iC,fW,iB,eQ,dU,eS,jC,fX,d__law_read,gT,d_law,x_pieces,x_words_in,x_read_term,x_read_word,x_letters_within,x_read_first,x_read_bounded,x_read_statement]
noncomputable instance tbs:Tbs:=⟨[],[],[("WITHIN",[("yes",0),("no",0),("not",1),("and",2),("or",2),("if",2)])],[]⟩
def pls:List (String×Nat):=[("inside",13),("is_small",22),("is_name",23),("pieces",24),("words_in",25),("read_term",26),("read_word",27),("letters_within",28),("read_first",29),("part_count",30),("read_bounded",31),("read_statement",32),("_law_cell",34),("_law_name",35),("_law_word",36),("_law_place",37),("_law_drawn",38),("_law_tall",39),("_law_made_of",40),("_law_term",41),("_law_word_of",42),("_law_walked",43),("_law_due",44),("_law_odd",45),("_law_changed",46),("_law_read",47),("_law_right",48),("law",49)]
def gls:List D:=[.tup [.str "yes",.str "no",.str "word"],.tup [.str "all",.str "some"],.str "ABCDEFGHIJKLMNOPQRSTUVWXYZ",.int 8,.int 3,.int 40,.int 10,.int 100]
def gns:List Str:=["LEAVES","BINDERS","LETTERS","LONGEST","MOST_TERMS","MOST_PARTS","MOST_NESTED","MOST_WORDS"]
end P1
end
section
namespace P1
open PySem L2 PP Builtin.Str
def cs(x:Str):List Nat:=x.cps.toList
def sO(l:List Nat):Str:=⟨l.toArray⟩
def kR(l:List Nat):cs (sO l)=l:=rfl
def Io(x:Str):sO (cs x)=x:=rfl
def tj(a b:Str):cs (a++b)=cs a++cs b:=lE
def gH{a b:Str}(h:cs a=cs b):a=b:=by
 obtain⟨a⟩:=a;obtain⟨b⟩:=b;rw[show a=b from fo.mp h]
def bS(x:Str):(cs x).length=x.length:=str_len x
def eN(l:List Nat):(sO l).length=l.length:=by rw[<- bS,kR]
def big{n:Nat}(h:n<=16777216):n<=sizeLine:=h
inductive B|and|or|imp
def B.s:B->Str|.and=>"and"|.or=>"or"|.imp=>"if"
def qs(b:Bool):Str:=if b then "all" else "some"
inductive F where
 |yes|no|word (w:Str) (ts:List Str)|neg (a:F)|q (b:Bool) (a:F)|bi (b:B) (x y:F)
def enc:F->D
 |.yes=>.tup [.str "yes"]
 |.no=>.tup [.str "no"]
 |.word w ts=>.tup [.str "word",.str w,.tup (ts.map .str)]
 |.neg a=>.tup [.str "not",enc a]
 |.q b a=>.tup [.str (qs b),enc a]
 |.bi b x y=>.tup [.str b.s,enc x,enc y]
def sz:F->Nat
 |.neg a=>sz a+1
 |.q _ a=>sz a+1
 |.bi _ x y=>sz x+sz y+1
 |_=>1
def sV(x:Str):dep (.str x)=0:=by unfold dep;rfl
def ml:∀ts:List Str,eO (ts.map D.str)=0
 |[]=>by unfold eO;rfl
 |t::ts=>by rw[aw];unfold eO;rw[ml ts,sV];rfl
def mn:∀A:F,dep (enc A)<=sz A+1
 |.yes|.no=>by unfold enc;simp[dep,eO,sz]
 |.word w ts=>by unfold enc;simp[dep,eO,ml,sz]
 |.neg a=>by have:=mn a;unfold enc;simp[dep,eO,sz];lia
 |.q b a=>by have:=mn a;unfold enc;simp[dep,eO,sz];lia
 |.bi b x y=>by have:=mn x;have:=mn y;unfold enc;simp[dep,eO,sz];lia
def res:List Str:=["yes","no","not","and","or","if","all","some"]
def isL(c:Nat):Bool:=decide (97<=c)&&decide (c<=122)
def isG(c:Nat):Bool:=isL c||(decide (48<=c)&&decide (c<=57))
def jK(w:Str):Bool:=decide (1<=w.length)&&decide (w.length<=8)&&(cs w).all isL
def nmB(t:Str):Bool:=decide (1<=t.length)&&decide (t.length<=8)&&(isL ((cs t).headD 0)&&(cs t).all isG)
def trm(ls:List Str)(t:Str):Option Str:=match ls.findIdx? (λy=>y==t)with
 |some i=>some (toString (i:Int))
 |none=>if nmB t=true then some t else none
def iK(ls:List Str):List Str->Option (List Str)
 |[]=>some []
 |t::ts=>(trm ls t).bind λu=>(iK ls ts).map (u::·)
def fz:List Nat->List Nat×Option (List Nat)
 |[]=>([],none)
 |a::l=>if a=40 then([],some l)else(a::(fz l).1,(fz l).2)
def nS(u:Str)(ls:List Str):Option (List Nat)->Option F
 |none=>if(jK u&&!decide (u∈res))=true then some (.word u [])else none
 |some v=>if(jK u&&!decide (u∈res))=true/\v.getLast?=some 41/\(cO 44 v.dropLast).length<=3 then(iK ls ((cO 44 v.dropLast).map sO)).map (.word u)else none
def wrd(w:Str)(ls:List Str):Option F:=nS (sO (fz (cs w)).1) ls (fz (cs w)).2
def jb:∀{l:List Nat},(fz l).2=none->40∉l/\(fz l).1=l
 |[],_=>⟨bQ,rfl⟩
 |a::l,h=>by
  unfold fz at h |-;split at h
  .cases h
  .rename_i ha;obtain⟨h1,h2⟩:=jb h;rw[if_neg ha];refine⟨λm=>?_,by dsimp only;rw[h2]⟩;rcases aA.mp m with m|m
   .exact ha m.symm
   .exact h1 m
def ja:∀{l v:List Nat},(fz l).2=some v->l=(fz l).1++40::v/\40∉(fz l).1
 |a::l,v,h=>by
  unfold fz at h |-;split at h
  .rename_i ha;cases h;rw[if_pos ha,ha];exact⟨rfl,bQ⟩
  .rename_i ha;obtain⟨h1,h2⟩:=ja h;rw[if_neg ha];refine⟨by dsimp only;rw[gF,<- h1],λm=>?_⟩;rcases aA.mp m with m|m
   .exact ha m.symm
   .exact h2 m
section
variable{cx:Cl}{δ:PP.Loc}
def oH{a b e:E}{o1 o2:Cop}{x y z:D}{p q:Bool}(ha:evE cx a δ=some (x,δ))(hb:evE cx b δ=some (y,δ))(he:evE cx e δ=some (z,δ))(h1:gu o1 x y=some p)(h2:gu o2 y z=some q):evE cx (.chn o1 o2 a b e) δ=some (.bl (p&&q),δ):=by
 simp only[evE,ha,hb,h1,ae,ah];cases p
 .rfl
 .simp only[if_true,he,h2,ah];rfl
def sR{a b e:E}{o1 o2:Cop}{x y z:D}{p q:Bool}(ha:evE cx a δ=some (x,δ))(hb:evE cx b δ=some (y,δ))(he:evE cx e δ=some (z,δ))(h1:gu o1 x y=some p)(h2:gu o2 y z=some q):evT cx (.chn o1 o2 a b e) δ=some (p&&q,δ):=by
 simp only[evT,ha,hb,h1,ae,ah];cases p
 .rfl
 .simp only[if_true,he,h2,ah];rfl
def vx{a b:E}{p q:Bool}(ha:evE cx a δ=some (.bl p,δ))(hb:p=true->evE cx b δ=some (.bl q,δ)):evE cx (.and a b) δ=some (.bl (p&&q),δ):=by
 simp only[evE,ha,ae,ah];cases p
 .rfl
 .exact hb rfl
def Hn{a b:E}{p q:Bool}(ha:evE cx a δ=some (.bl p,δ))(hb:p=false->evE cx b δ=some (.bl q,δ)):evE cx (.or a b) δ=some (.bl (p||q),δ):=by
 simp only[evE,ha,ae,ah];cases p
 .exact hb rfl
 .rfl
def DS{a b:E}{p q:Bool}(ha:evT cx a δ=some (p,δ))(hb:p=true->evT cx b δ=some (q,δ)):evT cx (.and a b) δ=some (p&&q,δ):=by
 simp only[evT,ha,ae,ah];cases p
 .rfl
 .exact hb rfl
def jy{a b:E}{p q:Bool}(ha:evT cx a δ=some (p,δ))(hb:p=false->evT cx b δ=some (q,δ)):evT cx (.or a b) δ=some (p||q,δ):=by
 simp only[evT,ha,ae,ah];cases p
 .exact hb rfl
 .rfl
def vw{α:Type}{src:PP.It}{elt:E}{i:Nat}(g h:α->D)(xs:List α)(hl:xs.length<=sizeLine)(hi:evI cx src δ=some (xs.map g,δ))(hd:i=δ.length)(he:∀x∈xs,evE cx elt (δ++[.val (g x)])=some (h x,δ++[.val (g x)])):evE cx (.comp 1 (.nm i) src .no elt) δ=some (.lst (xs.map h),δ):=by
 subst hd
 have:wE cx (.comp 1 (.nm δ.length) src .no elt) δ λd δ'=>d=.lst (xs.map h)/\δ'=δ:=by
  refine oo.mpr ⟨_,_,hi,iU g (λ_=>true) h xs (λx hx=>?_) ?_⟩
  .refine⟨δ++[.val (g x)],?_,true,_,rfl,rfl,?_⟩
   .show(if δ.length<(δ++aC 1 Sl.no).length then _ else _)=_;rw[if_pos ↥0];simp[eM]
   .rw[if_pos rfl];exact⟨_,_,he x hx,rfl,↥0⟩
  .rw[lK.mpr λ_ _=>rfl,ak];exact⟨hl,rfl,rfl⟩
 obtain⟨_,_,e,rfl,rfl⟩:=this;exact e
def jz{m:Mt}{a b:E}{x y z:D}(ha:evE cx a δ=some (x,δ))(hb:evE cx b δ=some (y,δ))(h:mtD m x y=some z):evE cx (.mt m a b) δ=some (z,δ):=by
 simp only[evE,ha,hb,h,ae,ah];rfl
def Ll{m:Mt}{a b:E}{x y:D}{p:Bool}(ha:evE cx a δ=some (x,δ))(hb:evE cx b δ=some (y,δ))(h:mtD m x y=some (.bl p)):evT cx (.mt m a b) δ=some (p,δ):=by
 simp only[evT,ha,hb,h,ae,ah];rfl
def yN{ng:Bool}{n:Str}{l:List (Str×Int)}{e:E}{x:Str}(h:evE cx e δ=some (.str x,δ)):evT cx (.gin ng n l e) δ=some ((l.lookup x).isSome != ng,δ):=by
 simp only[evT,h,ae,ah]
def fm{a:E}{lo hi:Eo}{x z:D}{l h:Option Int}(ha:evE cx a δ=some (x,δ))(hl:evO cx lo δ=some (l,δ))(hh:evO cx hi δ=some (h,δ))(e:slD x l h=some z):evE cx (.sl a lo hi) δ=some (z,δ):=by
 simp only[evE,ha,hl,hh,e,ae,ah];rfl
def DR{f:Blt}{es:Es}{p:Bool}{ds:List D}(h:cS cx es δ=some (ds,δ))(hb:gY f ds=some (.bl p)):evT cx (.blt f es) δ=some (p,δ):=by
 simp only[evT,h,hb,ae,ah];rfl
def len_str{i:Nat}{x:Str}(hi:evE cx (.var i) δ=some (.str x,δ))(hl:x.length<=sizeLine):evE cx (.blt .len (.cons (.var i) .nil)) δ=some (.int x.length,δ):=gR (bh hi rfl) (show(if x.length<=sizeLine then some (D.int x.length)else none)=_ from if_pos hl)
def eH{e:E}{ds:List D}(hi:evE cx e δ=some (.lst ds,δ)):evE cx (.blt .len (.cons e .nil)) δ=some (.int ds.length,δ):=gR (bh hi rfl) rfl
end
def Ans(n f x:Nat)(as:List D):Option D->Prop
 |some d=>PP.run Gs gls n f as=some d/\PP.run Gs gls n x as=none
 |none=>PP.run Gs gls n x as=some (.str "NoText")
def nh:Option D->OR->Prop
 |some d,r=>∃δ,r=.inl (.rt d δ)
 |none,r=>∃δ,r=.inr ("NoText",δ)
def gI{n f x:Nat}{as:List D}{o:Option D}(fd fx:Fd)(rs:Rs)(e1:Gs[f]?=some fd)(e2:Gs[x]?=some fx)(b1:fd.body=iw rs)(b2:fx.body=gc rs)(h1:fd.hf=false)(h2:fx.hf=false)(p:fx.ps=fd.ps)(q:fx.loc=fd.loc)(hl:as.length=fd.ps.length)
 (h:wRs ⟨PP.run Gs gls n,gls,hfs Gs⟩ rs (init (fd.ps++fd.loc).length as) (nh o)):Ans (n+1) f x as o:=by
 obtain⟨r,er,z⟩:=h
 cases o with
 |none =>
  obtain⟨δ,rfl⟩:=z;refine dq (bU fx e2 (by rw[p];exact hl) h2 ?_);rw[b2,p,q]
  exact Mg ⟨_,er,_,δ,rfl,rfl⟩
 |some d =>
  obtain⟨δ,rfl⟩:=z;refine⟨dq (bU fd e1 hl h1 ?_),IV fx e2 b2 h2 ?_⟩
  .rw[b1];exact Mh ⟨_,er,_,rfl,rfl⟩
  .rw[p,q];exact⟨_,er,_,rfl⟩
section
variable{n:Nat}{δ:PP.Loc}
def xo(o:Option D)(δ:PP.Loc):Option (Str×PP.Loc):=match o with
 |none=>some ("NoText",δ)
 |some _=>none
def lb{f x:Nat}{es:Es}{as:List D}{o:Option D}(he:cS ⟨PP.run Gs gls n,gls,hfs Gs⟩ es δ=some (as,δ))(A:Ans n f x as o):xvE ⟨PP.run Gs gls n,gls,hfs Gs⟩ (.cal f x es) δ=xo o δ:=by
 show(match cS _ es δ with
  |some (ds,δ1)=>(match PP.run Gs gls n x ds with
   |some (.str c)=>some (c,δ1)
   |_=>none)
  |none=>none)=_
 rw[he];dsimp only
 cases o with
 |none=>rw[show PP.run Gs gls n x as=_ from A];rfl
 |some d=>rw[A.2];rfl
def ko{s:S}{rs:Rs}{f x:Nat}{es:Es}{as:List D}{o:Option D}{Q:OR->Prop}(he:cS ⟨PP.run Gs gls n,gls,hfs Gs⟩ es δ=some (as,δ))(A:Ans n f x as o)(h0:o=none->Q (.inr ("NoText",δ)))
 (h1:∀d,o=some d->PP.run Gs gls n f as=some d->wS ⟨PP.run Gs gls n,gls,hfs Gs⟩ s δ λr=>jF ⟨PP.run Gs gls n,gls,hfs Gs⟩ rs Q (.inl r)):wRs ⟨PP.run Gs gls n,gls,hfs Gs⟩ (.cons (.cal s [.cal f x es]) rs) δ Q:=by
 have e:=lb he A
 cases o with
 |none=>exact cM.mpr (iu (p:=("NoText",δ)) (by rw[aQ,e];rfl) (h0 rfl))
 |some d=>exact cM.mpr (lP (by rw[aQ,e];rfl) (h1 d rfl A.1))
def vT{cx:Cl}{t:E}{a b r:Rs}{Q:OR->Prop}(k:Bool)(h:evT cx t δ=some (k,δ))(ha:k=true->wRs cx a δ (jF cx r Q))(hb:k=false->wRs cx b δ (jF cx r Q)):wRs cx (.cons (.ifs t a b) r) δ Q:=by
 refine cM.mpr (Jh.mpr ⟨k,δ,h,?_⟩)
 cases k with
 |true=>exact ha rfl
 |false=>exact hb rfl
def gj{cx:Cl}{t:E}{r:Rs}{c:Str}{Q:OR->Prop}(k:Bool)(h:evT cx t δ=some (k,δ))(ha:k=true->Q (.inr (c,δ)))(hb:k=false->wRs cx r δ Q):wRs cx (.cons (.ifs t (.cons (.rse c) .nil) .nil) r) δ Q :=
 vT k h (λe=>cM.mpr (Jg.mpr (ha e))) λe=>lO.mpr (hb e)
def rQ{cx:Cl}{s:S}{r:Rs}{Q:OR->Prop}(h:wS cx s δ λo=>jF cx r Q (.inl o)):wRs cx (.cons (.st s) r) δ Q:=cM.mpr (Ii.mpr h)
def rP{cx:Cl}{t:E}{a b:Ss}{r:Rs}{Q:OR->Prop}(k:Bool)(h:evT cx t δ=some (k,δ))(ha:k=true->wSs cx a δ λo=>jF cx r Q (.inl o))(hb:k=false->wSs cx b δ λo=>jF cx r Q (.inl o)):wRs cx (.cons (.st (.ifs t a b)) r) δ Q :=
 rQ (oN.mpr ⟨k,δ,h,by cases k;exact hb rfl;exact ha rfl⟩)
def om{cx:Cl}{tg:Tg}{e:E}{r:Rs}{Q:OR->Prop}(d:D)(h:evE cx e δ=some (d,δ))(q:∃δ2,dy δ tg d=some δ2/\wRs cx r δ2 Q):wRs cx (.cons (.st (.asg tg e)) r) δ Q:=rQ (gG.mpr ⟨d,δ,h,q⟩)
def uq{cx:Cl}{e:E}{r:Ss}{rr:Rs}{d:D}(h:evE cx e δ=some (d,δ)):wSs cx (.cons (.ret e) r) δ λo=>jF cx rr (nh (some d)) (.inl o):=bz.mpr (jo.mpr ⟨d,δ,h,⟨_,rfl⟩⟩)
def AY{cx:Cl}{e:E}{r rs:Rs}{d:D}(h:evE cx e δ=some (d,δ)):wRs cx (.cons (.st (.ret e)) r) δ (jF cx rs (nh (some d))):=cM.mpr (Ii.mpr (jo.mpr ⟨d,δ,h,δ,rfl⟩))
def jq{cx:Cl}{e:E}{r:Rs}{d:D}(h:evE cx e δ=some (d,δ)):wRs cx (.cons (.st (.ret e)) r) δ (nh (some d)):=rQ (jo.mpr ⟨d,δ,h,δ,rfl⟩)
end
def lt1{a b:Nat}:decide ([a]<[b])=decide (a<b):=by
 rw[decide_eq_decide,List.cons_lt_cons_iff];simp
def s_a:cs "a"=[97]:=by decide
def s_z:cs "z"=[122]:=by decide
def s_0:cs "0"=[48]:=by decide
def s_9:cs "9"=[57]:=by decide
def le_lo{a:Str}{k c:Nat}(h:cs a=[k]):gu .le (.str a) (.str ⟨#[c]⟩)=some (decide (k<=c)):=by
 show some (!decide ([c]<cs a))=_;rw[h,lt1,<- decide_not];simp only[tV]
def yG{a:Str}{k c:Nat}(h:cs a=[k]):gu .le (.str ⟨#[c]⟩) (.str a)=some (decide (c<=k)):=by
 show some (!decide (cs a<[c]))=_;rw[h,lt1,<- decide_not];simp only[tV]
def rq{α:Type}(p:α->Bool):∀xs:List α,lB (xs.map λx=>D.bl (p x))=some (xs.map p)
 |[]=>rfl
 |x::xs=>by rw[aw];unfold lB;rw[rq p xs];rfl
def Et{α:Type}(p:α->Bool)(xs:List α):gY .all [.lst (xs.map λx=>D.bl (p x))]=some (.bl (xs.all p)):=by
 show(lB _).map _=_;rw[rq];show some (D.bl ((xs.map p).all id))=_;rw[List.all_map];rfl
def yE(w:Str):(decide ((1:Int)<=(w.length:Int))&&decide ((w.length:Int)<=8))=(decide (1<=w.length)&&decide (w.length<=8)):=by
 congr 1
 .rw[decide_eq_decide];lia
 .rw[decide_eq_decide];lia
def Ga(n:Nat)(w:Str)(hw:w.length<=sizeLine):PP.run Gs gls (n+1) 1 [.str w]=some (.bl (jK w)):=by
 apply dq;refine bU jB rfl rfl rfl ?_;simp only[jB,init,SI,Nat.reduceAdd,Nat.reduceSub];refine lM (.bl ((decide ((1:Int)<=(w.length:Int))&&decide ((w.length:Int)<=8))&&(cs w).all isL)) (vx (oH (x:=.int 1) (y:=.int w.length) (z:=.int 8) ⋯ (len_str ⋯ hw) ⋯ rfl rfl) λ_=>gR (ds:=[.lst ((cs w).map λc=>.bl (isL c))]) (bh (vw (λc=>.str ⟨#[c]⟩) (λc=>.bl (isL c)) (cs w) (by rw[bS];exact hw) (pN (d:=.str w) ⋯ (if_pos hw)) rfl λc _=>oH (x:=.str "a") (y:=.str ⟨#[c]⟩) (z:=.str "z") ⋯ ⋯ ⋯ (le_lo s_a) (yG s_z)) rfl) (Et _ _)) ?_;rw[yE];rfl
def Cr(n:Nat)(t:Str)(ht:t.length<=sizeLine):PP.run Gs gls (n+1) 2 [.str t]=some (.bl (nmB t)):=by
 apply dq;refine bU kD rfl rfl rfl ?_;simp only[kD,init,SI,Nat.reduceAdd,Nat.reduceSub]
 have e1:evT ⟨PP.run Gs gls n,gls,hfs Gs⟩ (.not (.chn .le .le (.int 1) (.blt .len (.cons (.var 0) .nil)) (.glob 3))) [.val (.str t)]=some (!(decide (1<=t.length)&&decide (t.length<=8)),[.val (.str t)]):=by
  rw[<- yE];exact gx (sR (x:=.int 1) (y:=.int t.length) (z:=.int 8) ⋯ (len_str ⋯ ht) ⋯ rfl rfl)
 have e2:(!(decide (1<=t.length)&&decide (t.length<=8)))=false->evT ⟨PP.run Gs gls n,gls,hfs Gs⟩ (.not (.chn .le .le (.str "a") (.ix (.var 0) (.int 0)) (.str "z"))) [.val (.str t)]=some (!isL ((cs t).headD 0),[.val (.str t)]):=λh=>by
  obtain⟨c,r,e⟩:∃c r,cs t=c::r:=by
   cases e:cs t with
   |nil =>
    have:=bS t;rw[e]at this;rw[<- this]at h
    cases h
   |cons c r=>exact⟨c,r,rfl⟩
  have e3:ixD (.str t) (.int 0)=some (.str ⟨#[c]⟩):=by
   show(if t.length<=sizeLine then(atI (cs t) 0).map _ else none)=_;rw[if_pos ht,e,show(0:Int)=((0:Nat):Int)from rfl,atI_nat (xs:=c::r) (j:=0) rfl];rfl
  rw[e];exact gx (sR (x:=.str "a") (y:=.str ⟨#[c]⟩) (z:=.str "z") ⋯ (gp (x:=.str t) (y:=.int 0) ⋯ ⋯ e3) ⋯ (le_lo s_a) (yG s_z))
 refine bC _ (jy e1 e2) (λh=>lM (.bl false) ⋯ ?_) λh=>?_
 .unfold nmB
  revert h
  cases(decide (1<=t.length)&&decide (t.length<=8))<;>cases isL ((cs t).headD 0)<;>simp
 .show wSs _ (.cons _ _) _ _;refine lM (.bl ((cs t).all isG)) (gR (ds:=[.lst ((cs t).map λc=>.bl (isG c))]) (bh (vw (λc=>.str ⟨#[c]⟩) (λc=>.bl (isG c)) (cs t) (by rw[bS];exact ht) (pN (d:=.str t) ⋯ (if_pos ht)) rfl λc _=>Hn (oH (x:=.str "a") (y:=.str ⟨#[c]⟩) (z:=.str "z") ⋯ ⋯ ⋯ (le_lo s_a) (yG s_z)) λ_=>oH (x:=.str "0") (y:=.str ⟨#[c]⟩) (z:=.str "9") ⋯ ⋯ ⋯ (le_lo s_0) (yG s_9)) rfl) (Et _ _)) ?_;unfold nmB
  revert h
  cases(decide (1<=t.length)&&decide (t.length<=8))<;>cases isL ((cs t).headD 0)<;>simp
def tJ(t:Str)(ls:List Str):((ls.map D.str).any λy=>eqD y (.str t))=decide (t∈ls):=by
 induction ls with
 |nil=>rfl
 |cons l ls ih =>
  rw[aw,dG,ih];unfold eqD;by_cases h:l=t
  .simp[h]
  .simp[h,Ne.symm h]
def Hi(t:Str)(ls:List Str):((ls.map D.str).findIdx? λd=>eqD d (.str t))=ls.findIdx? λy=>y==t:=by
 rw[List.findIdx?_map];congr 1
def xk(t:Str)(ls:List Str):dep (.str t)<=150/\eO (ls.map D.str)<99999:=⟨by rw[sV];lia,by rw[ml];lia⟩
def Hh(t:Str)(ls:List Str):gu .isin (.str t) (.lst (ls.map .str))=some (decide (t∈ls)):=by
 show(if _ then some _ else none)=_;rw[if_pos (xk t ls),tJ]
def wZ(t:Str)(ls:List Str):gu .isin (.str t) (.tup (ls.map .str))=some (decide (t∈ls)):=by
 show(if _ then some _ else none)=_;rw[if_pos (xk t ls),tJ]
def Hj{ls:List Str}{t:Str}(h:t∈ls):∃i,ls.findIdx? (λy=>y==t)=some i/\i<ls.length:=by
 cases e:ls.findIdx? (λy=>y==t)with
 |some i=>exact⟨i,rfl,(gb.mp e).1⟩
 |none =>
  have:=tW.mp e t h;simp at this
def DI{ls:List Str}{t:Str}(h:t∉ls):ls.findIdx? (λy=>y==t)=none:=tW.mpr λy hy=>by
 rw[beq_eq_false_iff_ne];rintro rfl;exact h hy
def qJ{i:Nat}(h:i<11):gY .toStr [.int i]=some (.str (toString (i:Int))):=by
 have:∀i:Nat,i<11->(i:Int).natAbs.log2<1920:=by decide
 exact if_pos (this i h)
def LU(n:Nat)(t:Str)(ls:List Str)(hl:ls.length<=10)(ht:t.length<=sizeLine):Ans (n+2) 5 30 [.str t,.lst (ls.map .str)] ((trm ls t).map .str):=by
 refine gI d_read_term x_read_term r_read_term rfl rfl rfl rfl rfl rfl rfl rfl rfl ?_;show wRs _ r_read_term [.val (.str t),.val (.lst (ls.map .str))] _;refine rP (decide (t∈ls)) (bL (x:=.str t) (y:=.lst (ls.map .str)) ⋯ ⋯ (Hh t ls)) (λhm=>?_) λhm=>?_
 .obtain⟨i,e,hi⟩:=Hj (of_decide_eq_true hm);unfold trm;rw[e]
  have e1:mtD .index (.lst (ls.map .str)) (.str t)=some (.int i):=by
   show(if _ then _ else _)=_;rw[if_pos (xk t ls),Hi,e];rfl
  exact uq (gR (ds:=[.int i]) (bh (jz (x:=.lst (ls.map .str)) (y:=.str t) ⋯ ⋯ e1) rfl) (qJ ∅))
 .unfold trm;rw[DI (of_decide_eq_false hm)];refine dr.mpr (gj (!nmB t) (gx (kC [.str t] ⋯ (Cr n t ht))) (λh=>?_) λh=>?_)
  .show nh (fK D.str (if nmB t=true then some t else none)) _;rw[if_neg (by simpa using h)];exact⟨_,rfl⟩
  .show wRs _ _ _ (nh (fK D.str (if nmB t=true then some t else none)));rw[if_pos (by simpa using h)];exact jq ⋯
def pS:cs " "=[32]:=by decide
def spl(c:Nat)(x:Str):List Str:=(cO c (cs x)).map sO
def Fp{x y:Str}{c:Nat}(h:cs y=[c])(hc:c<256):iL x y=spl c x:=by
 rw[show y=⟨#[c]⟩from gH h,zB _ _ hc];rfl
def xV(c:Nat):∀l:List Nat,(cO c l).length<=l.length+1
 |[]=>by simp[cO]
 |a::l=>by
  have ih:=xV c l;unfold cO;split
  .simp only[ag];lia
  .split
   .rename_i e;rw[e]at ih;simp only[ag]at ih |-
    lia
   .simp
def m_split{x y:Str}{c:Nat}(h:cs y=[c])(hc:c<256)(hx:x.length<sizeLine):mtD .split (.str x) (.str y)=some (.lst ((spl c x).map .str)):=by
 show(if _ then _ else _)=_;rw[Fp h hc,if_pos ⟨by rw[<- bS,h];exact Nat.succ_pos _,cG hx,by unfold spl;rw[ak];have:=xV c (cs x);rw[bS]at this;lia⟩]
def Ew(n:Nat)(t:Str)(ht:t.length<sizeLine):Ans (n+1) 3 28 [.str t,.str " "] (some (.lst ((spl 32 t).map .str))):=by
 refine gI d_pieces x_pieces r_pieces rfl rfl rfl rfl rfl rfl rfl rfl rfl ?_;show wRs _ r_pieces [.val (.str t),.val (.str " ")] _;exact gj false ⋯ (λh=>by cases h) λ_=>jq (jz (x:=.str t) (y:=.str " ") ⋯ ⋯ (m_split pS ⇑0 ht))
def HK(n:Nat)(t:Str)(ht:t.length<sizeLine):Ans (n+2) 4 29 [.str t] (if 100<(spl 32 t).length then none else some (.lst ((spl 32 t).map .str))):=by
 refine gI d_words_in x_words_in r_words_in rfl rfl rfl rfl rfl rfl rfl rfl rfl ?_;show wRs _ r_words_in [.val (.str t),.no] _;refine ko (as:=[.str t,.str " "]) ⋯ (Ew n t ht) (λh=>by cases h) λd hd e=>?_;cases hd;refine gG.mpr ⟨_,_,cH [.str t,.str " "] ⋯ e,_,rfl,?_⟩;refine gj (decide ((100:Int)<(((spl 32 t).map D.str).length:Int))) (bL (x:=.int ((spl 32 t).map D.str).length) (y:=.int 100) (eH ⋯) ⋯ rfl) (λh=>?_) λh=>?_
 .rw[decide_eq_true_eq,ak]at h;rw[if_pos ∅];exact⟨_,rfl⟩
 .rw[decide_eq_false_iff_not,ak]at h;rw[if_neg ∅];exact jq ⋯
def Am(n:Nat)(d:D)(hd:fU [d]=some (.bl false)):Ans (n+2) 4 29 [d] none:=by
 refine gI d_words_in x_words_in r_words_in rfl rfl rfl rfl rfl rfl rfl rfl rfl ?_;show wRs _ r_words_in [.val d,.no] _
 have A:Ans (n+1) 3 28 [d,.str " "] none:=by
  refine gI d_pieces x_pieces r_pieces rfl rfl rfl rfl rfl rfl rfl rfl rfl ?_;show wRs _ r_pieces [.val d,.val (.str " ")] _;exact gj true (gx (DR (f:=.isStr) (ds:=[d]) ⋯ hd)) (λ_=>⟨_,rfl⟩) λh=>by cases h
 exact ko (as:=[d,.str " "]) ⋯ A (λ_=>⟨_,rfl⟩) λd h=>by cases h
def xm:cs "("=[40]:=by decide
def xl:cs ")"=[41]:=by decide
def sZ:cs ","=[44]:=by decide
def xZ{y:Str}{c:Nat}(h:cs y=[c]):y=⟨#[c]⟩:=gH h
def KO(w:Str)(hw:w.length<=sizeLine):mtD .part (.str w) (.str "(")=some (.tup [.str (sO (fz (cs w)).1),.str (if(fz (cs w)).2.isNone=true then "" else "("),.str (sO ((fz (cs w)).2.getD []))]):=by
 show(if _ then _ else _)=_;rw[if_pos ⟨⇑0,hw⟩]
 cases e:(fz (cs w)).2 with
 |none =>
  obtain⟨h1,h2⟩:=jb e;rw[xZ xm,Gw h1,h2]
  rfl
 |some v =>
  obtain⟨h1,h2⟩:=ja e;have ew:w=⟨((fz (cs w)).1++40::v).toArray⟩:=gH h1;rw[show jG w "("=jG ⟨((fz (cs w)).1++40::v).toArray⟩ ⟨#[40]⟩ by rw[<- ew,<- xZ xm],Gx h2];rfl
def KP(l:List Nat):mtD .ends (.str (sO l)) (.str ")")=some (.bl (decide (l.getLast?=some 41))):=by
 show some (D.bl (decide (_<=_)&&subAt (sO l) ")" _))=_;have e2:(")":Str).length=1:=by decide
 rw[e2,xZ xl,sub_one,eN,fC];show some (D.bl (decide _&&decide (l[l.length-1]?=some 41)))=_
 cases l with
 |nil=>rfl
 |cons a l=>rw[ag,decide_eq_true (show 1<=l.length+1 by lia),Bool.true_and]
def MD(l:List Nat):lH (sO l) none (some (-1))=sO l.dropLast:=by
 cases l with
 |nil=>rfl
 |cons a l =>
  refine(StrLaws.sliceText_to_neg (x:=sO (a::l)) (j:=-1) ∅ (by rw[eN,ag];lia)).trans (gH ?_);show((a::l).drop 0).take ((-1:Int)+((sO (a::l)).length:Int)-0).toNat=(a::l).dropLast;rw[eN,gh,gD];congr 1;rw[ag]
  lia
def WIt:List (Str×Int):=[("yes",0),("no",0),("not",1),("and",2),("or",2),("if",2)]
def mQ{P:Str->Prop}{w:Str}(h:w∈res)(h1:P "yes")(h2:P "no")(h3:P "not")(h4:P "and")(h5:P "or")(h6:P "if")(h7:P "all")(h8:P "some"):P w:=by
 simp only[res,aA,bQ,or_false]at h;rcases h with rfl|rfl|rfl|rfl|rfl|rfl|rfl|rfl<;>assumption
def sf{w:Str}(h:w∉res):∀r∈res,(w==r)=false:=λr hr=>by
 rw[beq_eq_false_iff_ne];rintro rfl;exact h hr
def bns:List Str:=["all","some"]
def kw(u:Str):(((WIt.lookup u).isSome != false)||decide (u∈bns))=decide (u∈res):=by
 by_cases h:u∈res
 .exact mQ (P:=λu=>(((WIt.lookup u).isSome != false)||decide (u∈bns))=decide (u∈res)) h ⇑0 ⇑0 ⇑0 ⇑0 ⇑0 ⇑0 ⇑0 ⇑0
 .have e:WIt.lookup u=none:=by
   have n:=sf h;simp only[WIt,bp,n "yes" ⇑0,n "no" ⇑0,n "not" ⇑0,n "and" ⇑0,n "or" ⇑0,n "if" ⇑0,kl]
  rw[e,decide_eq_false h,decide_eq_false (λm=>h (by
   simp only[bns,aA,bQ,or_false]at m;rcases m with rfl|rfl<;>decide))]
  rfl
def uk{n:Nat}{f x i:Nat}{es:Es}{δ:PP.Loc}{L:D}{g:Str->Option Str}(hi:i=δ.length)(he:∀t:Str,cS ⟨PP.run Gs gls n,gls,hfs Gs⟩ es (δ++[.val (.str t)])=some ([.str t,L],δ++[.val (.str t)])) :
 ∀ts:List Str,(∀t∈ts,Ans n f x [.str t,L] ((g t).map .str))->xvC ⟨PP.run Gs gls n,gls,hfs Gs⟩ 1 (.nm i) f x es (ts.map .str) δ=if(ts.all λt=>(g t).isSome)=true then none else some (("NoText":Str),δ)
 |[],_=>rfl
 |t::ts,h=>by
  have es':dy (δ++aC 1 .no) (.nm i) (.str t)=some (δ++[.val (.str t)]):=by
   show(if i<(δ++aC 1 Sl.no).length then _ else _)=_;rw[if_pos (by rw[hi];simp),hi];simp[eM]
  have ih:=uk hi he ts λu hu=>h u (ao _ hu);have A:=h t ay;rw[aw];unfold xvC;rw[es',ah]
  cases e:g t with
  |none =>
   rw[e]at A
   have e1:xvF ⟨PP.run Gs gls n,gls,hfs Gs⟩ x es (δ++[.val (.str t)])=some (("NoText":Str),δ++[.val (.str t)]):=by
    unfold xvF;rw[he t];dsimp only;rw[show PP.run Gs gls n x [.str t,L]=_ from A]
   rw[e1,cg,e];dsimp only;rw[iI]
   rfl
  |some u =>
   rw[e]at A
   have e1:xvF ⟨PP.run Gs gls n,gls,hfs Gs⟩ x es (δ++[.val (.str t)])=none:=by
    unfold xvF;rw[he t];dsimp only;rw[A.2]
   have e2:nI ⟨PP.run Gs gls n,gls,hfs Gs⟩ 1 (.nm i) .no (.call f es) (.str t) δ=some (some (.str u),δ):=by
    unfold nI;simp only[es',ae,ah,evG,if_true,cH _ (he t) A.1];show some (_,_)=_;rw[iI]
   rw[e1,e2,cg,e];exact ih
def oV(ls:List Str):∀ts:List Str,(ts.all λt=>(trm ls t).isSome)=(iK ls ts).isSome
 |[]=>rfl
 |t::ts=>by
  have ih:=oV ls ts;rw[cg,ih,show iK ls (t::ts)=(trm ls t).bind λu=>(iK ls ts).map (u::·)from rfl]
  cases trm ls t with
  |none=>rfl
  |some u=>cases iK ls ts<;>rfl
def ux{ls:List Str}:∀{ts us:List Str},iK ls ts=some us->us.map D.str=ts.map λt=>.str ((trm ls t).getD "")
 |[],us,h=>by cases h;rfl
 |t::ts,us,h=>by
  unfold iK at h;obtain⟨u,e1,h⟩:=af.mp h;obtain⟨vs,e2,rfl⟩:=aj.mp h;rw[aw,aw,ux e2,e1];rfl
def mM(c:Nat):∀l:List Nat,∀w∈cO c l,w.length<=l.length
 |[],w,h=>by
  rw[bX.mp (show w∈[[]]from h)]
  exact aD _
 |a::l,w,h=>by
  have ih:=mM c l;unfold cO at h;split at h
  .rcases aA.mp h with rfl|h
   .exact bM _
   .have:=ih w h;rw[ag];lia
  .split at h
   .rename_i v vs e;rw[e]at ih;rcases aA.mp h with rfl|h
    .have:=ih v ay;rw[ag,ag];lia
    .have:=ih w (ao _ h);rw[ag];lia
   .rw[bX.mp h];simp only[ag,aL];lia
def pR:∀l:List Nat,(fz l).1.length<=l.length/\∀v,(fz l).2=some v->v.length<l.length
 |[]=>⟨aD _,λv h=>by cases h⟩
 |a::l=>by
  obtain⟨h1,h2⟩:=pR l;unfold fz;split
  .exact⟨bM _,λv h=>by cases h;rw[ag];lia⟩
  .exact⟨by simp only[ag];lia,λv h=>by have:=h2 v h;rw[ag];lia⟩
def LR(n:Nat)(w:Str)(ls:List Str)(hl:ls.length<=10)(hw:w.length<sizeLine):Ans (n+3) 6 31 [.str w,.lst (ls.map .str)] ((wrd w ls).map enc):=by
 refine gI d_read_word x_read_word r_read_word rfl rfl rfl rfl rfl rfl rfl rfl rfl ?_;show wRs _ r_read_word [.val (.str w),.val (.lst (ls.map .str)),.no,.no,.no,.no] _;obtain⟨l1,l2⟩:=pR (cs w);rw[bS]at l1 l2;unfold wrd;have mp:=KO w (cG hw);generalize (fz (cs w)).1=u at *;generalize (fz (cs w)).2=o at *;refine om _ (jz (x:=.str w) (y:=.str "(") ⋯ ⋯ mp) ⟨_,rfl,?_⟩;show wRs _ _ [.val (.str w),.val (.lst (ls.map .str)),.val (.str (sO u)),.val (.str (if o.isNone=true then "" else "(")),.val (.str (sO (o.getD []))),.no] _;refine gj (!(jK (sO u)&&!decide (sO u∈res))) ?_ (λh=>?_) λh=>?_
 .rw[Bool.not_and,Bool.not_not,<- kw];exact iO (gx (kC [.str (sO u)] ⋯ (Ga (n+1) (sO u) (by rw[eN];lia)))) (iO (yN (x:=sO u) ⋯) (bL (x:=.str (sO u)) (y:=.tup (bns.map .str)) ⋯ ⋯ (wZ _ _)))
 .have h':¬(jK (sO u)&&!decide (sO u∈res))=true:=by
   rw[dc]at h;rw[h];exact aq
  cases o with
  |none=>rw[show nS (sO u) ls none=none from if_neg h'];exact⟨_,rfl⟩
  |some v=>rw[show nS (sO u) ls (some v)=none from if_neg λz=>h' z.1];exact⟨_,rfl⟩
 have h':(jK (sO u)&&!decide (sO u∈res))=true:=by
  rw[du]at h;exact h
 cases o with
 |none =>
  rw[show nS (sO u) ls none=some (.word (sO u) [])from if_pos h'];refine rP true ⋯ (λ_=>?_) λh=>by cases h
  exact uq ⋯
 |some v =>
  have lv:=l2 v rfl;refine rP false ⋯ (λh=>by cases h) λ_=>dr.mpr ?_;show wRs _ _ [.val (.str w),.val (.lst (ls.map .str)),.val (.str (sO u)),.val (.str "("),.val (.str (sO v)),.no] _;have le:=kW (xs:=v)
  have sp:evE ⟨PP.run Gs gls (n+2),gls,hfs Gs⟩ (.mt .split (.sl (.var 4) .no (.yes (.neg (.int 1)))) (.str ",")) [.val (.str w),.val (.lst (ls.map .str)),.val (.str (sO u)),.val (.str "("),.val (.str (sO v)),.no]=some (.lst ((spl 44 (sO v.dropLast)).map .str),[.val (.str w),.val (.lst (ls.map .str)),.val (.str (sO u)),.val (.str "("),.val (.str (sO v)),.no]):=by
   refine jz (x:=.str (sO v.dropLast)) (y:=.str ",") (fm (x:=.str (sO v)) (l:=none) (h:=some (-1)) ⋯ rfl ⋯ ?_) ⋯ (m_split sZ ⇑0 (by rw[eN];lia));rw[<- MD];exact if_pos (by rw[eN];lia)
  refine om _ sp ⟨_,rfl,?_⟩;show wRs _ _ [.val (.str w),.val (.lst (ls.map .str)),.val (.str (sO u)),.val (.str "("),.val (.str (sO v)),.val (.lst ((spl 44 (sO v.dropLast)).map .str))] _;have et:(spl 44 (sO v.dropLast)).length=(cO 44 v.dropLast).length:=ak _;refine gj (!decide (v.getLast?=some 41)||decide ((3:Int)<(((spl 44 (sO v.dropLast)).map D.str).length:Int))) (iO (gx (Ll (x:=.str (sO v)) (y:=.str ")") ⋯ ⋯ (KP v))) (bL (x:=.int ((spl 44 (sO v.dropLast)).map D.str).length) (y:=.int 3) (eH ⋯) ⋯ rfl)) (λh=>?_) λh=>?_
  .rw[show nS (sO u) ls (some v)=none from if_neg λz=>?_]
   .exact⟨_,rfl⟩
   .rw[ak,et,decide_eq_true z.2.1]at h;simp at h
    lia
  .have hc:(jK (sO u)&&!decide (sO u∈res))=true/\v.getLast?=some 41/\(cO 44 v.dropLast).length<=3:=by
    rw[ak,et]at h;simp at h;exact⟨h',h.1,∅⟩
   rw[show nS (sO u) ls (some v)=(iK ls (spl 44 (sO v.dropLast))).map (.word (sO u))from if_pos hc]
   have hts:∀t∈spl 44 (sO v.dropLast),t.length<=sizeLine:=λt ht=>by
    obtain⟨x,hx,rfl⟩:=cE.mp ht;have:=mM 44 _ x hx;rw[kR]at this;rw[eN];lia
   have h3:(spl 44 (sO v.dropLast)).length<=3:=by rw[et];exact hc.2.2
   generalize spl 44 (sO v.dropLast)=ts at *;have A:∀t∈ts,Ans (n+2) 5 30 [.str t,.lst (ls.map .str)] ((trm ls t).map .str):=λt ht=>LU n t ls hl (hts t ht);have xc:=uk (n:=n+2) (f:=5) (x:=30) (i:=6) (es:=.cons (.var 6) (.cons (.var 1) .nil)) (δ:=[.val (.str w),.val (.lst (ls.map .str)),.val (.str (sO u)),.val (.str "("),.val (.str (sO v)),.val (.lst (ts.map .str))]) (L:=.lst (ls.map .str)) rfl (λt=>by kernel_rfl) ts A;rw[oV]at xc
   have ex:∀δ:PP.Loc,δ=[.val (.str w),.val (.lst (ls.map .str)),.val (.str (sO u)),.val (.str "("),.val (.str (sO v)),.val (.lst (ts.map .str))]->xvE ⟨PP.run Gs gls (n+2),gls,hfs Gs⟩ (.tup (.tl (.str "word") (.tl (.var 2) (.hd (.tot (.cmp 1 (.nm 6) (.sq (.var 5)) 5 30 (.cons (.var 6) (.cons (.var 1) .nil)))) .nil)))) δ=xvC ⟨PP.run Gs gls (n+2),gls,hfs Gs⟩ 1 (.nm 6) 5 30 (.cons (.var 6) (.cons (.var 1) .nil)) (ts.map .str) δ:=λδ hδ=>by
    subst hδ;show(if(ts.map D.str).length<=sizeLine then _ else _)=_;rw[if_pos (by rw[ak];exact big ∅)];rfl
   cases e:iK ls ts with
   |none =>
    rw[e,if_neg ↥0]at xc;refine cM.mpr (iu (p:=("NoText",_)) (by rw[aQ,ex _ rfl,xc]) ?_)
    exact⟨_,rfl⟩
   |some us =>
    rw[e,if_pos (show(some us).isSome=true from rfl)]at xc;refine cM.mpr (lP (by rw[aQ,ex _ rfl,xc];rfl) (jo.mpr ⟨enc (.word (sO u) us),_,oG (bh ⋯ (bh (d:=.str (sO u)) ⋯ (bh (d:=.tup (us.map .str)) (zZ ?_) rfl))) (by show 3<=sizeLine;decide),⟨_,rfl⟩⟩));rw[ux e];refine pO (λt:Str=>.str t) (λt=>.str ((trm ls t).getD "")) (λt=>[.str t,.lst (ls.map .str)]) ts (big ∅) ⋯ rfl (λt _=>by kernel_rfl) λt ht=>?_;have a:=A t ht;obtain⟨z,hz⟩:∃z,trm ls t=some z:=rH.mp (bK.mp (by rw[oV,e];rfl:(ts.all λt=>(trm ls t).isSome)=true) t ht);rw[hz]at a |-;exact a.1
end P1
end
section
namespace P1
open PySem L2 PP
section
variable{F:Type}(isB cap:Str->Bool)(ar:Str->Nat)(lf:Str->List Str->Option F)(nd:Str->List F->F)
def rd:Nat->List Str->List Str->Option (F×List Str)
 |0,_,_=>none
 |_+1,_,[]=>none
 |n+1,a,w::r=>if 10<a.length then none else if isB w=true then(match r with
   |[]=>none
   |l::r=>if cap l=true then(rd n (l::a) r).map λp=>(nd w [p.1],p.2)else none)
  else match ar w with
   |0=>(lf w a).map λA=>(A,r)
   |1=>(rd n a r).map λp=>(nd w [p.1],p.2)
   |_=>(rd n a r).bind λp=>(rd n a p.2).map λq=>(nd w [p.1,q.1],q.2)
def rs(n:Nat):List (List Str)->List Str->Option (List F×List Str)
 |[],ws=>some ([],ws)
 |a::st,ws=>(rd isB cap ar lf nd n a ws).bind λp=>(rs n st p.2).map λq=>(p.1::q.1,q.2)
def wk:List Str->List (List Str)->Option (List (Str×List Str))
 |[],[]=>some []
 |[],_::_=>none
 |_::_,[]=>none
 |[w],a::st=>if 10<a.length then none else if isB w=true then none else(wk [] (aC (ar w) a++st)).map λl=>(w,a)::l
 |w::l::r,a::st=>if 10<a.length then none else if isB w=true then(if cap l=true then(wk r ((l::a)::st)).map λl=>(w,a)::l else none)else(wk (l::r) (aC (ar w) a++st)).map λl=>(w,a)::l
def bd:List (Str×List Str)->Option (List F)
 |[]=>some []
 |(w,a)::l=>(bd l).bind λst=>if isB w=true then(match st with
    |A::st=>some (nd w [A]::st)
    |[]=>none)
  else match ar w,st with
   |0,st=>(lf w a).map λA=>A::st
   |1,A::st=>some (nd w [A]::st)
   |2,A::B::st=>some (nd w [A,B]::st)
   |_,_=>none
variable{isB cap ar lf nd}
theorem fP:∀{n:Nat}{a ws:List Str}{A:F}{r:List Str},rd isB cap ar lf nd n a ws=some (A,r)->r.length<ws.length
 |0,_,_,_,_,h=>by simp[rd]at h
 |n+1,a,[],_,_,h=>by simp[rd]at h
 |n+1,a,w::r,A,r',h=>by
  simp only[rd]at h;split at h
  .cases h
  split at h
  .split at h
   .cases h
   .split at h
    .obtain⟨⟨B,q⟩,e,h⟩:=aj.mp h;cases h;have:=fP e;simp only[ag]at this |-;omega
    .cases h
  split at h
  .obtain⟨B,e,h⟩:=aj.mp h;cases h;simp
  .obtain⟨⟨B,q⟩,e,h⟩:=aj.mp h;cases h;have:=fP e;simp only[ag]at this |-;omega
  .obtain⟨⟨B,q⟩,e,h⟩:=af.mp h;obtain⟨⟨C,q'⟩,e',h⟩:=aj.mp h;cases h;have:=fP e;have:=fP e';simp only[ag]at *;omega
theorem pj:∀{n:Nat}{a ws:List Str}{A:F}{r:List Str},rd isB cap ar lf nd n a ws=some (A,r)->∀v∈r,v∈ws
 |0,_,_,_,_,h,_,_=>by simp[rd]at h
 |n+1,a,[],_,_,h,_,_=>by simp[rd]at h
 |n+1,a,w::r,A,r',h,v,hv=>by
  simp only[rd]at h;split at h
  .cases h
  split at h
  .split at h
   .cases h
   .split at h
    .obtain⟨⟨B,q⟩,e,h⟩:=aj.mp h;cases h;exact ao _ (ao _ (pj e v hv))
    .cases h
  split at h
  .obtain⟨B,e,h⟩:=aj.mp h;cases h;exact ao _ hv
  .obtain⟨⟨B,q⟩,e,h⟩:=aj.mp h;cases h;exact ao _ (pj e v hv)
  .obtain⟨⟨B,q⟩,e,h⟩:=af.mp h;obtain⟨⟨C,q'⟩,e',h⟩:=aj.mp h;cases h;exact ao _ (pj e v (pj e' v hv))
theorem ox:∀{n m:Nat}{a ws:List Str},ws.length<n->ws.length<m->rd isB cap ar lf nd n a ws=rd isB cap ar lf nd m a ws
 |0,_,_,_,h,_=>by omega
 |_+1,0,_,_,_,h=>by omega
 |n+1,m+1,a,[],_,_=>rfl
 |n+1,m+1,a,w::r,h1,h2=>by
  simp only[ag]at h1 h2;have ih:∀a,rd isB cap ar lf nd n a r=rd isB cap ar lf nd m a r:=λa=>ox (by omega) (by omega);simp only[rd];split
  .rfl
  split
  .cases r with
   |nil=>rfl
   |cons l r =>
    simp only[ag]at h1 h2;dsimp only;rw[ox (n:=n) (m:=m) (by omega) (by omega)]
  split
  .rfl
  .rw[ih]
  .rw[ih]
   cases e:rd isB cap ar lf nd m a r with
   |none=>rfl
   |some p =>
    have:=fP (A:=p.1) (r:=p.2) e;show fK _ _=fK _ _;rw[ox (n:=n) (m:=m) (by omega) (by omega)]
def all(o:Option (List F×List Str)):Option (List F):=o.bind λq=>if q.2=[]then some q.1 else none
theorem fE{n:Nat}{a:List Str}{st:List (List Str)}{ws:List Str}:all (rs isB cap ar lf nd n (a::st) ws)=(rd isB cap ar lf nd n a ws).bind λp=>(all (rs isB cap ar lf nd n st p.2)).map λq=>p.1::q:=by
 unfold all;simp only[rs]
 cases rd isB cap ar lf nd n a ws with
 |none=>rfl
 |some p =>
  simp only[ah]
  cases rs isB cap ar lf nd n st p.2 with
  |none=>rfl
  |some q =>
   simp only[bg,ah];split<;>rfl
theorem AL:∀(n:Nat)(ws:List Str)(st:List (List Str)),(∀w,ar w<=2)->ws.length<n->(wk isB cap ar ws st).bind (bd isB ar lf nd)=all (rs isB cap ar lf nd n st ws)
 |0,_,_,_,h=>by omega
 |n+1,[],[],_,_=>rfl
 |n+1,[],a::st,_,_=>rfl
 |n+1,w::r,[],_,_=>by simp[wk,rs,all]
 |n+1,w::r,a::st,ha,h=>by
  simp only[ag]at h;have ih:=λst=>AL n r st ha (by omega)
  -- one level more of fuel
  have up:∀(st:List (List Str))(m:Nat)(ws:List Str),ws.length<n->all (rs isB cap ar lf nd n st ws)=all (rs isB cap ar lf nd (n+1) st ws):=λst=>by
   induction st with
   |nil=>intro m ws _;rfl
   |cons b st ih2 =>
    intro m ws hl;rw[fE,fE,ox (n:=n) (m:=n+1) hl (by omega)]
    cases e:rd isB cap ar lf nd (n+1) b ws with
    |none=>rfl
    |some p =>
     have:=fP (A:=p.1) (r:=p.2) e;simp only[ah];rw[ih2 0 p.2 (by omega)]
  by_cases h10:10<a.length
  .rw[fE];have e:rd isB cap ar lf nd (n+1) a (w::r)=none:=by simp only[rd,if_pos h10]
   rw[e];cases r<;>simp[wk,h10]
  by_cases hB:isB w=true
  .cases r with
   |nil =>
    rw[fE];have e:rd isB cap ar lf nd (n+1) a [w]=none:=by simp only[rd,if_neg h10,if_pos hB]
    rw[e]
    simp[wk,h10,hB]
   |cons l r =>
    by_cases hc:cap l=true
    .have ih:=AL n r ((l::a)::st) ha (by simp only[ag]at h;omega);rw[fE]at ih;rw[fE];have e:rd isB cap ar lf nd (n+1) a (w::l::r)=(rd isB cap ar lf nd n (l::a) r).map λp=>(nd w [p.1],p.2):=by simp only[rd,if_neg h10,if_pos hB,if_pos hc]
     have e2:wk isB cap ar (w::l::r) (a::st)=(wk isB cap ar r ((l::a)::st)).map λl=>(w,a)::l:=by simp only[wk,if_neg h10,if_pos hB,if_pos hc]
     rw[e,e2]
     have e3:((wk isB cap ar r ((l::a)::st)).map λl=>(w,a)::l).bind (bd isB ar lf nd)=((wk isB cap ar r ((l::a)::st)).bind (bd isB ar lf nd)).bind λst=>match st with
      |A::st=>some (nd w [A]::st)
      |[]=>none:=by
      cases wk isB cap ar r ((l::a)::st)with
      |none=>rfl
      |some x=>simp only[bg,ah,bd,if_pos hB]
     rw[e3,ih]
     cases er:rd isB cap ar lf nd n (l::a) r with
     |none=>rfl
     |some p =>
      have:=fP (A:=p.1) (r:=p.2) er;simp only[ah,bg];rw[up st 0 p.2 (by simp only[ag]at h;omega)];cases all (rs isB cap ar lf nd (n+1) st p.2)<;>rfl
    .rw[fE];have e:rd isB cap ar lf nd (n+1) a (w::l::r)=none:=by simp only[rd,if_neg h10,if_pos hB,if_neg hc]
     rw[e];simp[wk,h10,hB,hc]
  have ew:wk isB cap ar (w::r) (a::st)=(wk isB cap ar r (aC (ar w) a++st)).map λl=>(w,a)::l:=by
   cases r<;>simp only[wk,if_neg h10,if_neg hB]
  have er:rd isB cap ar lf nd (n+1) a (w::r)=match ar w with
   |0=>(lf w a).map λA=>(A,r)
   |1=>(rd isB cap ar lf nd n a r).map λp=>(nd w [p.1],p.2)
   |_=>(rd isB cap ar lf nd n a r).bind λp=>(rd isB cap ar lf nd n a p.2).map λq=>(nd w [p.1,q.1],q.2):=by simp only[rd,if_neg h10,if_neg hB]
  have eb:∀(o:Option (List (Str×List Str))),(o.map λl=>(w,a)::l).bind (bd isB ar lf nd)=(o.bind (bd isB ar lf nd)).bind λst=>match ar w,st with
   |0,st=>(lf w a).map λA=>A::st
   |1,A::st=>some (nd w [A]::st)
   |2,A::B::st=>some (nd w [A,B]::st)
   |_,_=>none:=λo=>by
   cases o with
   |none=>rfl
   |some x=>simp only[bg,ah,bd,if_neg hB]
  rw[ew,eb,ih,fE,er];have h2:=ha w
  match hw:ar w,h2 with
  |0,_ =>
   simp only[aC,hU];rw[up st 0 r (by omega)]
   cases lf w a with
   |none=>cases all (rs isB cap ar lf nd (n+1) st r)<;>rfl
   |some A =>
    show(all (rs isB cap ar lf nd (n+1) st r)).bind (λst=>some (A::st))=(all (rs isB cap ar lf nd (n+1) st r)).map λq=>A::q
    cases all (rs isB cap ar lf nd (n+1) st r)<;>rfl
  |1,_ =>
   simp only[aC,gF,hU];rw[fE]
   cases er:rd isB cap ar lf nd n a r with
   |none=>rfl
   |some p =>
    have:=fP (A:=p.1) (r:=p.2) er;simp only[ah,bg];rw[up st 0 p.2 (by omega)]
    cases all (rs isB cap ar lf nd (n+1) st p.2)<;>rfl
  |2,_ =>
   simp only[aC,gF,hU];rw[fE]
   cases er:rd isB cap ar lf nd n a r with
   |none=>rfl
   |some p =>
    have:=fP (A:=p.1) (r:=p.2) er;simp only[ah];rw[fE]
    cases er2:rd isB cap ar lf nd n a p.2 with
    |none=>rfl
    |some q =>
     have:=fP (A:=q.1) (r:=q.2) er2;simp only[ah,bg];rw[up st 0 q.2 (by omega)];cases all (rs isB cap ar lf nd (n+1) st q.2)<;>rfl
theorem yV{pz:F->Nat}(hn1:∀w a,pz (nd w [a])=1+pz a)(hn2:∀w a b,pz (nd w [a,b])=1+pz a+pz b)(hl:∀w a A,lf w a=some A->pz A=1):∀{l:List (Str×List Str)}{fs:List F},bd isB ar lf nd l=some fs->(fs.map pz).sum=l.length
 |[],_,h=>by cases h;rfl
 |(w,a)::l,fs,h=>by
  simp only[bd]at h;obtain⟨st,e,h⟩:=af.mp h;have ih:=yV hn1 hn2 hl e;rw[ag,<- ih];split at h
  .split at h
   .cases h;simp only[aw,aW,hn1];omega
   .cases h
  .split at h
   .obtain⟨A,eA,h⟩:=aj.mp h;cases h;simp only[aw,aW,hl _ _ _ eA];omega
   .cases h;simp only[aw,aW,hn1];omega
   .cases h;simp only[aw,aW,hn2];omega
   .cases h
theorem oK:∀{ws:List Str}{st:List (List Str)}{l:List (Str×List Str)},wk isB cap ar ws st=some l->ws.length<=2*l.length
 |[],[],l,h=>by cases h;simp
 |[],_::_,l,h=>by simp[wk]at h
 |_::_,[],l,h=>by simp[wk]at h
 |[w],a::st,l,h=>by
  simp only[wk]at h;split at h
  .cases h
  split at h
  .cases h
  obtain⟨l,_,rfl⟩:=aj.mp h;simp only[ag,aL]
  omega
 |w::x::r,a::st,l,h=>by
  simp only[wk]at h;split at h
  .cases h
  split at h
  .split at h
   .obtain⟨l,e,rfl⟩:=aj.mp h;have:=oK e;simp only[ag]at this |-;omega
   .cases h
  .obtain⟨l,e,rfl⟩:=aj.mp h;have:=oK e;simp only[ag]at this |-;omega
def wl(isB cap:Str->Bool)(ar:Str->Nat):List Str->List (List Str)->Option (List (Str×List Str)×List (List Str))
 |[],st=>some ([],st)
 |_::_,[]=>none
 |[w],a::st=>if isB w=true then none else(wl isB cap ar [] (aC (ar w) a++st)).map λp=>((w,a)::p.1,p.2)
 |w::l::r,a::st=>if isB w=true then(if cap l=true then(wl isB cap ar r ((l::a)::st)).map λp=>((w,a)::p.1,p.2)else none)else(wl isB cap ar (l::r) (aC (ar w) a++st)).map λp=>((w,a)::p.1,p.2)
def qg(l:List (Str×List Str)):Bool:=l.all λp=>decide (p.2.length<=10)
def ends(p:List (Str×List Str)×List (List Str)):Option (List (Str×List Str)):=if p.2=[]/\qg p.1=true then some p.1 else none
theorem Ac{w:Str}{a:List Str}(p:List (Str×List Str)×List (List Str))(h:¬10<a.length):ends ((w,a)::p.1,p.2)=(ends p).map λl=>(w,a)::l:=by
 have e:qg ((w,a)::p.1)=qg p.1:=by
  unfold qg;rw[cg,decide_eq_true (show a.length<=10 by omega),Bool.true_and]
 unfold ends;dsimp only;rw[e];split<;>rfl
theorem Ab{w:Str}{a:List Str}(p:List (Str×List Str)×List (List Str))(h:10<a.length):ends ((w,a)::p.1,p.2)=none:=by
 unfold ends qg;refine if_neg λz=>?_;have:=z.2;rw[cg,aa,decide_eq_true_eq]at this;have:=this.1;dsimp only at this;omega
theorem bm{o:Option (List (Str×List Str)×List (List Str))}{w:Str}{a:List Str}:(o.map λp=>((w,a)::p.1,p.2)).bind ends=if 10<a.length then none else(o.bind ends).map λl=>(w,a)::l:=by
 cases o with
 |none=>split<;>rfl
 |some p =>
  simp only[bg,ah];split
  .exact Ab p ‹_›
  .exact Ac p ‹_›
theorem um:∀(n:Nat)(ws:List Str)(st:List (List Str)),ws.length<n->wk isB cap ar ws st=(wl isB cap ar ws st).bind ends
 |0,_,_,h=>by omega
 |n+1,[],[],_=>rfl
 |n+1,[],_::_,_=>by
  simp only[wk,wl,ah,ends]
  rw[if_neg ↥0]
 |n+1,_::_,[],_=>by simp only[wk,wl,fg]
 |n+1,[w],a::st,h=>by
  simp only[wk,wl];by_cases hB:isB w=true
  .simp only[if_pos hB,fg];split<;>rfl
  .simp only[if_neg hB];have:=um n [] (aC (ar w) a++st) (by simp only[ag,aL]at h |-;omega);simp only[wl]at this
   rw[bm,this]
 |n+1,w::l::r,a::st,h=>by
  simp only[ag]at h;simp only[wk,wl];by_cases hB:isB w=true
  .simp only[if_pos hB];by_cases hc:cap l=true
   .simp only[if_pos hc];rw[bm,<- um n r _ (by omega)]
   .simp only[if_neg hc,fg];split<;>rfl
  .simp only[if_neg hB];rw[bm,<- um n (l::r) _ (by simp only[ag];omega)]
def Wn(isB:Str->Bool)(ar:Str->Nat):List (Str×List Str)->Nat->Prop
 |[],n=>n=0
 |(w,_)::l,n=>∃k,n=k+1/\Wn isB ar l ((if isB w=true then 1 else ar w)+k)
theorem xO:∀(n:Nat)(ws:List Str)(st:List (List Str))(l:List (Str×List Str)),ws.length<n->wl isB cap ar ws st=some (l,[])->Wn isB ar l st.length
 |0,_,_,_,h,_=>by omega
 |n+1,[],st,l,_,h=>by
  simp only[wl]at h;cases h
  rfl
 |n+1,_::_,[],l,_,h=>by simp only[wl]at h;cases h
 |n+1,[w],a::st,l,h,e=>by
  simp only[wl]at e;split at e
  .cases e
  .rename_i hB;obtain⟨⟨l',st'⟩,e1,e2⟩:=aj.mp e;cases e2;have:=xO n [] _ _ (by simp only[ag,aL]at h |-;omega) e1;rw[az,cQ]at this
   exact⟨st.length,rfl,by rw[if_neg hB];exact this⟩
 |n+1,w::x::r,a::st,l,h,e=>by
  simp only[ag]at h;simp only[wl]at e;split at e
  .rename_i hB;split at e
   .obtain⟨⟨l',st'⟩,e1,e2⟩:=aj.mp e;cases e2;have:=xO n r _ _ (by omega) e1;rw[ag]at this;exact⟨st.length,rfl,by rw[if_pos hB,Nat.add_comm];exact this⟩
   .cases e
  .rename_i hB;obtain⟨⟨l',st'⟩,e1,e2⟩:=aj.mp e;cases e2;have:=xO n (x::r) _ _ (by simp only[ag];omega) e1;rw[az,cQ]at this;exact⟨st.length,rfl,by rw[if_neg hB];exact this⟩
end
end P1
end
section
namespace P1
open PySem L2 PP Builtin.Str
def LS:Str:="ABCDEFGHIJKLMNOPQRSTUVWXYZ"
def cap(l:Str):Bool:=decide (l.length=1)&&uZ LS l
def isB(w:Str):Bool:=decide (w∈bns)
def ar(w:Str):Nat:=match WIt.lookup w with
 |some i=>i.toNat
 |none=>0
def lf(w:Str)(a:List Str):Option F:=if w="yes" then some .yes else if w="no" then some .no else wrd w a
def nd(w:Str):List F->F
 |[a]=>if w="all" then .q true a else if w="some" then .q false a else .neg a
 |[a,b]=>if w="and" then .bi .and a b else if w="or" then .bi .or a b else .bi .imp a b
 |_=>.yes
def RD(n:Nat)(a ws:List Str):Option (F×List Str):=rd isB cap ar lf nd n a ws
def LX(n:Nat)(a:List Str):RD n a []=none:=by cases n<;>rfl
def HN{n:Nat}{a ws:List Str}(h:10<a.length):RD n a ws=none:=by
 cases n with
 |zero=>rfl
 |succ n=>cases ws with
  |nil=>rfl
  |cons w r=>exact if_pos h
def Ih{a:D}{ds:List D}:slD (.lst (a::ds)) (some 1) none=some (.lst ds):=by
 show some (D.lst (cutD (a::ds) (some 1) none))=_
 have e1:HT.sIx (a::ds).length 0 (some 1)=1:=by
  rw[show(1:Int)=((1:Nat):Int)from rfl,HT.sIx_nat];simp
 have e2:HT.sIx (a::ds).length (a::ds).length none=(a::ds).length:=rfl;unfold cutD;rw[e1,e2];simp
def Ig{a b:D}{ds:List D}:slD (.lst (a::b::ds)) (some 2) none=some (.lst ds):=by
 show some (D.lst (cutD (a::b::ds) (some 2) none))=_
 have e1:HT.sIx (a::b::ds).length 0 (some 2)=2:=by
  rw[show(2:Int)=((2:Nat):Int)from rfl,HT.sIx_nat];simp
 have e2:HT.sIx (a::b::ds).length (a::b::ds).length none=(a::b::ds).length:=rfl;unfold cutD;rw[e1,e2];simp
def at0{a:D}{ds:List D}:ixD (.lst (a::ds)) (.int 0)=some a:=atI_nat (j:=0) rfl
def at1{a b:D}{ds:List D}:ixD (.lst (a::b::ds)) (.int 1)=some b:=atI_nat (j:=1) rfl
def wth(a:List Str):List Str->Option (List Str)
 |_::l::_=>if a.length≠10/\cap l=true then some (l::a)else none
 |_=>none
def Eu(n:Nat)(w:Str)(ws a:List Str)(ha:a.length<=10)(hl:∀l∈ws,l.length<=sizeLine):Ans (n+1) 7 32 [.lst ((w::ws).map .str),.lst (a.map .str)] ((wth a (w::ws)).map λl=>.lst (l.map .str)):=by
 refine gI d_letters_within x_letters_within r_letters_within rfl rfl rfl rfl rfl rfl rfl rfl rfl ?_;show wRs _ r_letters_within [.val (.lst ((w::ws).map .str)),.val (.lst (a.map .str))] _;refine gj (((a.map D.str).length:Int)==10) (bL (x:=.int (a.map D.str).length) (y:=.int 10) (eH ⋯) ⋯ ⋯) (λh=>?_) λh=>?_
 .have h:=eq_of_beq h;rw[ak]at h
  have:wth a (w::ws)=none:=by
   cases ws with
   |nil=>rfl
   |cons l ws=>exact if_neg λz=>z.1 ∅
  rw[this];exact⟨_,rfl⟩
 have h10:a.length≠10:=λe=>by
  rw[ak,e]at h;cases h
 cases ws with
 |nil=>exact gj true (jy (p:=true) (q:=true) ⋯ λh=>by cases h) (λ_=>⟨_,rfl⟩) λh=>by cases h
 |cons l ws =>
  have ll:=hl l ay;have e9:evE ⟨PP.run Gs gls n,gls,hfs Gs⟩ (.ix (.var 0) (.int 1)) [.val (.lst ((w::l::ws).map .str)),.val (.lst (a.map .str))]=some (.str l,[.val (.lst ((w::l::ws).map .str)),.val (.lst (a.map .str))]):=gp (x:=.lst ((w::l::ws).map .str)) (y:=.int 1) ⋯ ⋯ at1
  have e1:wth a (w::l::ws)=if cap l=true then some (l::a)else none:=by
   show(if a.length≠10/\cap l=true then _ else _)=_;by_cases c:cap l=true
   .rw[if_pos ⟨h10,c⟩,if_pos c]
   .rw[if_neg λz=>c z.2,if_neg c]
  have e2:decide ((((w::l::ws).map D.str).length:Int)<2)=false:=by
   rw[decide_eq_false_iff_not,ak,ag,ag]
   lia
  rw[e1];refine gj (false||(!((l.length:Int)==1)||!uZ LS l)) (jy (p:=false) (by rw[<- e2];exact bL (x:=.int ((w::l::ws).map D.str).length) (y:=.int 2) (eH ⋯) ⋯ rfl) λ_=>iO (bL (x:=.int l.length) (y:=.int 1) (gR (bh e9 rfl) (show(if l.length<=sizeLine then some (D.int l.length)else none)=_ from if_pos ll)) ⋯ ⋯) (bL (x:=.str l) (y:=.str LS) e9 ⋯ rfl)) (λh=>?_) λh=>?_
  .rw[if_neg (λc=>?_)]
   .exact⟨_,rfl⟩
   .unfold cap at c;rw[aa,decide_eq_true_eq]at c;rw[c.1,c.2]at h;cases h
  .rw[if_pos ?_]
   .refine jq (cW (x:=.lst [.str l]) (y:=.lst (a.map .str)) ?_ ⋯ (if_pos ?_))
    .simp only[evE,bh e9 (show cS _ .nil _=some ([],_)from rfl),ae,ah];exact if_pos (by show 1<=sizeLine;decide)
    .rw[ak];exact big (by show 1+_<=_;lia)
   .rw[mE,gP,du,du]at h;have:=eq_of_beq h.1;unfold cap;rw[decide_eq_true ∅,h.2];rfl
def nz(cx:Cl)(tg:Tg)(body:Rs)(ds:List D)(δ:PP.Loc)(Q:OR->Prop):Prop:=∃o,forR (λx δ0=>(dy δ0 tg x).bind λδ2=>fL cx body δ2) ds δ=some o/\Q o
def MA(next:PP.Loc->Prop)(Q:OR->Prop):OR->Prop
 |.inl (.nx δ)=>next δ
 |.inr p=>Q (.inr p)
 |_=>False
section
variable{cx:Cl}{tg:Tg}{body rs:Rs}{δ δ2:PP.Loc}{x:D}{xs:List D}{Q:OR->Prop}
def Fe(q:Q (.inl (.nx δ))):nz cx tg body [] δ Q:=⟨_,rfl,q⟩
def Bj(ht:dy δ tg x=some δ2)(h:wRs cx body δ2 (MA (λδ1=>nz cx tg body xs δ1 Q) Q)):nz cx tg body (x::xs) δ Q:=by
 obtain⟨o,e,q⟩:=h;unfold nz forR;rw[ht,ah,e];rcases o with o|p
 .cases o<;>first|exact q|exact q.elim
 .exact⟨_,rfl,q⟩
def Jf{src:PP.It}{ds:List D}(h:evI cx src δ=some (ds,δ))(q:nz cx tg body ds δ (jF cx rs Q)):wRs cx (.cons (.fr tg src body) rs) δ Q:=cM.mpr (Mi.mpr ⟨ds,δ,h,q⟩)
end
def Hr{cx:Cl}{δ:PP.Loc}{n:Str}{l:List (Str×Int)}{e:E}{x:Str}{i:Int}(h:evE cx e δ=some (.str x,δ))(hl:l.lookup x=some i):evE cx (.gix n l e) δ=some (.int i,δ):=by
 simp only[evE,h,hl,ae,ah];rfl
def qy{P:Str->Int->Prop}{w:Str}{i:Int}(h:WIt.lookup w=some i)(h1:P "yes" 0)(h2:P "no" 0)(h3:P "not" 1)(h4:P "and" 2)(h5:P "or" 2)(h6:P "if" 2):P w i:=by
 have hm:w∈res:=by
  have:=kw w;rw[h]at this;exact of_decide_eq_true this.symm
 refine mQ (P:=λw=>WIt.lookup w=some i->P w i) hm (λe=>?_) (λe=>?_) (λe=>?_) (λe=>?_) (λe=>?_) (λe=>?_) (λe=>?_) (λe=>?_) h
 .rw[show WIt.lookup ("yes":Str)=some 0 by decide]at e;cases e;exact h1
 .rw[show WIt.lookup ("no":Str)=some 0 by decide]at e;cases e;exact h2
 .rw[show WIt.lookup ("not":Str)=some 1 by decide]at e;cases e;exact h3
 .rw[show WIt.lookup ("and":Str)=some 2 by decide]at e;cases e;exact h4
 .rw[show WIt.lookup ("or":Str)=some 2 by decide]at e;cases e;exact h5
 .rw[show WIt.lookup ("if":Str)=some 2 by decide]at e;cases e;exact h6
 .rw[show WIt.lookup ("all":Str)=none by decide]at e;cases e
 .rw[show WIt.lookup ("some":Str)=none by decide]at e;cases e
def outF(p:F×List Str):D:=.tup [enc p.1,.lst (p.2.map .str)]
def DY{w:Str}(h:isB w=true)(A:F):enc (nd w [A])=.tup [.str w,enc A]:=by
 have h:=of_decide_eq_true h;simp only[bns,aA,bQ,or_false]at h;rcases h with rfl|rfl
 .exact congrArg enc (show nd "all" [A]=.q true A by kernel_rfl)
 .exact congrArg enc (show nd "some" [A]=.q false A by kernel_rfl)
noncomputable abbrev rB:Rs:=.cons (.cal (.asg (.tp [7,4]) (.call 8 (.cons (.var 4) (.cons (.var 1) .nil)))) [.cal 8 33 (.cons (.var 4) (.cons (.var 1) .nil))]) (.cons (.st (.aug 5 .add (.tup (.cons (.var 7) .nil)))) .nil)
abbrev s8(ws a:List Str)(w:Str)(d3 d4 d5 d6 d7:Sl):PP.Loc:=[.val (.lst (ws.map .str)),.val (.lst (a.map .str)),.val (.str w),d3,d4,d5,d6,d7]
def tK:∀(n N:Nat)(a ws:List Str),a.length<=10->ws.length<n->(∀w∈ws,w.length<sizeLine)->n+3<=N->Ans N 8 33 [.lst (ws.map .str),.lst (a.map .str)] ((RD n a ws).map outF)
 |0,_,_,_,_,h,_,_=>by lia
 |n+1,0,_,_,_,_,_,h=>by lia
 |n+1,N+1,a,[],ha,hn,hw,hN=>by
  refine gI d_read_first x_read_first r_read_first rfl rfl rfl rfl rfl rfl rfl rfl rfl ?_;show wRs _ r_read_first [.val (.lst []),.val (.lst (a.map .str)),.no,.no,.no,.no,.no,.no] _
  exact gj true ⋯ (λ_=>⟨_,rfl⟩) λh=>by cases h
 |n+1,N+1,a,w::r,ha,hn,hw,hN=>by
  refine gI d_read_first x_read_first r_read_first rfl rfl rfl rfl rfl rfl rfl rfl rfl ?_;show wRs _ r_read_first [.val (.lst ((w::r).map .str)),.val (.lst (a.map .str)),.no,.no,.no,.no,.no,.no] _;refine gj false ⋯ (λh=>by cases h) λ_=>?_;refine om (.str w) (gp (x:=.lst ((w::r).map .str)) (y:=.int 0) ⋯ ⋯ at0) ⟨_,rfl,?_⟩;show wRs _ _ (s8 (w::r) a w .no .no .no .no .no) _;simp only[ag]at hn;have hr:∀v∈r,v.length<sizeLine:=λv hv=>hw v (ao _ hv);have h10:¬10<a.length:=by lia
  refine vT (isB w) (bL (x:=.str w) (y:=.tup (bns.map .str)) ⋯ ⋯ (wZ w bns)) (λhB=>?_) λhB=>?_
  .obtain⟨N',rfl⟩:∃N',N=N'+1:=⟨N-1,∅⟩;have A7:=Eu N' w r a ha λl hl=>cG (hr l hl);have x7:=lb (n:=N'+1) (f:=7) (x:=32) (es:=.cons (.var 0) (.cons (.var 1) .nil)) (δ:=(s8 (w::r) a w .no .no .no .no .no)) ⋯ A7
   cases e:wth a (w::r)with
   |none =>
    rw[e]at x7
    have e0:RD (n+1) a (w::r)=none:=by
     show(if 10<a.length then none else if isB w=true then _ else _)=_;rw[if_neg h10,if_pos hB]
     cases r with
     |nil=>rfl
     |cons l r =>
      have e:(if a.length≠10/\cap l=true then some (l::a)else none)=none:=e;dsimp only;by_cases c:cap l=true
      .rw[if_pos c]
       have:a.length=10:=by
        by_cases z:a.length=10
        .exact z
        .rw[if_pos ⟨z,c⟩]at e;cases e
       rw[show rd isB cap ar lf nd n (l::a) r=none from HN (by rw[ag];lia)];rfl
      .rw[if_neg c]
    rw[e0];refine cM.mpr (iu (p:=("NoText",(s8 (w::r) a w .no .no .no .no .no))) ?_ ⟨_,rfl⟩);rw[aQ];have:xvE ⟨PP.run Gs gls (N'+1),gls,hfs Gs⟩ (.fn 8 33 (.tl (.sl (.var 0) (.yes (.int 2)) .no) (.hd (.cal 7 32 (.cons (.var 0) (.cons (.var 1) .nil))) .nil))) (s8 (w::r) a w .no .no .no .no .no)=xo none (s8 (w::r) a w .no .no .no .no .no):=x7;rw[this]
    rfl
   |some l' =>
    cases r with
    |nil=>cases e
    |cons l r =>
     have e:(if a.length≠10/\cap l=true then some (l::a)else none)=some l':=e;by_cases c:a.length≠10/\cap l=true
     .rw[if_pos c]at e;cases e;rw[show wth a (w::l::r)=some (l::a)from if_pos c]at x7 A7;have A8:=tK n (N'+1) (l::a) r (by rw[ag];lia) (by simp only[ag]at hn;lia) (λv hv=>hr v (ao _ hv)) ∅
      have e0:RD (n+1) a (w::l::r)=(RD n (l::a) r).map λp=>(nd w [p.1],p.2):=by
       show(if 10<a.length then none else if isB w=true then(if cap l=true then _ else _)else _)=_;rw[if_neg h10,if_pos hB,if_pos c.2];rfl
      have e2:cS ⟨PP.run Gs gls (N'+1),gls,hfs Gs⟩ (.cons (.sl (.var 0) (.yes (.int 2)) .no) (.cons (.call 7 (.cons (.var 0) (.cons (.var 1) .nil))) .nil)) (s8 (w::l::r) a w .no .no .no .no .no)=some ([.lst (r.map .str),.lst ((l::a).map .str)],(s8 (w::l::r) a w .no .no .no .no .no)) :=
       bh (fm (x:=.lst ((w::l::r).map .str)) (l:=some 2) (h:=none) ⋯ ⋯ rfl Ig) (bh (cH _ ⋯ A7.1) rfl)
      have x8:=lb (n:=N'+1) (f:=8) (x:=33) e2 A8
      have x9:xvE ⟨PP.run Gs gls (N'+1),gls,hfs Gs⟩ (.fn 8 33 (.tl (.sl (.var 0) (.yes (.int 2)) .no) (.hd (.cal 7 32 (.cons (.var 0) (.cons (.var 1) .nil))) .nil))) (s8 (w::l::r) a w .no .no .no .no .no)=none:=by
       have es:evE ⟨PP.run Gs gls (N'+1),gls,hfs Gs⟩ (.sl (.var 0) (.yes (.int 2)) .no) (s8 (w::l::r) a w .no .no .no .no .no)=some (_,s8 (w::l::r) a w .no .no .no .no .no):=fm (x:=.lst ((w::l::r).map .str)) (l:=some 2) (h:=none) ⋯ ⋯ rfl Ig;unfold xvE xvL;rw[es];exact x7
      rw[e0]
      cases e8:RD n (l::a) r with
      |none =>
       rw[e8]at x8
       exact cM.mpr (iu (p:=("NoText",(s8 (w::l::r) a w .no .no .no .no .no))) (by rw[aQ,x9,aQ,x8];try rfl) ⟨_,rfl⟩)
      |some p =>
       rw[e8]at x8 A8;refine cM.mpr (lP (by rw[aQ,x9,aQ,x8];try rfl) (gG.mpr ⟨_,_,cH _ e2 A8.1,_,rfl,?_⟩));show wRs _ _ (s8 (w::l::r) a w (.val (enc p.1)) (.val (.lst (p.2.map .str))) .no .no .no) _;show wRs _ _ _ (jF _ _ (nh (some (.tup [enc (nd w [p.1]),.lst (p.2.map .str)]))));rw[DY hB];exact AY ⋯
     .rw[if_neg c]at e;cases e
  .refine lO.mpr ?_
   have e0:RD (n+1) a (w::r)=match ar w with
    |0=>(lf w a).map λA=>(A,r)
    |1=>(RD n a r).map λp=>(nd w [p.1],p.2)
    |_=>(RD n a r).bind λp=>(RD n a p.2).map λq=>(nd w [p.1,q.1],q.2):=by
    show(if 10<a.length then none else if isB w=true then _ else _)=_;rw[if_neg h10,if_neg (by rw[hB];exact aq)];rfl
   refine vT ((WIt.lookup w).isSome != true) (yN (x:=w) ⋯) (λhW=>?_) λhW=>?_
   .have eW:WIt.lookup w=none:=by
     cases e:WIt.lookup w with
     |none=>rfl
     |some i=>rw[e]at hW;cases hW
    obtain⟨N',rfl⟩:∃N',N=N'+3:=⟨N-3,∅⟩;have A6:=LR N' w a ha (hw w ay);have x6:=lb (n:=N'+3) (f:=6) (x:=31) (es:=.cons (.var 2) (.cons (.var 1) .nil)) (δ:=(s8 (w::r) a w .no .no .no .no .no)) ⋯ A6;have x7:xvE ⟨PP.run Gs gls (N'+3),gls,hfs Gs⟩ (.tup (.hd (.cal 6 31 (.cons (.var 2) (.cons (.var 1) .nil))) (.cons (.sl (.var 0) (.yes (.int 1)) .no) .nil))) (s8 (w::r) a w .no .no .no .no .no)=_:=x6
    have e1:RD (n+1) a (w::r)=(wrd w a).map λA=>(A,r):=by
     rw[e0,show ar w=0 by unfold ar;rw[eW]];show(lf w a).map _=_;have h1:¬w="yes":=by rintro rfl;rw[show WIt.lookup ("yes":Str)=some 0 by decide]at eW;cases eW
     have h2:¬w="no":=by rintro rfl;rw[show WIt.lookup ("no":Str)=some 0 by decide]at eW;cases eW
     unfold lf;rw[if_neg h1,if_neg h2]
    rw[e1]
    cases e:wrd w a with
    |none =>
     rw[e]at x7
     exact cM.mpr (iu (p:=("NoText",(s8 (w::r) a w .no .no .no .no .no))) (by rw[aQ,x7];try rfl) ⟨_,rfl⟩)
    |some A =>
     rw[e]at x7 A6;refine cM.mpr (lP (by rw[aQ,x7];try rfl) (jo.mpr ⟨.tup [enc A,.lst (r.map .str)],_,oG (bh (cH _ ⋯ A6.1) (bh (fm (x:=.lst ((w::r).map .str)) (l:=some 1) (h:=none) ⋯ ⋯ rfl Ih) rfl)) (by show 2<=sizeLine;decide),⟨_,rfl⟩⟩))
   .refine lO.mpr ?_
    obtain⟨i,eW⟩:∃i,WIt.lookup w=some i:=by
     cases e:WIt.lookup w with
     |none=>rw[e]at hW;cases hW
     |some i=>exact⟨i,rfl⟩
    refine om (.tup [.tup [.str w],.lst (r.map .str)]) (oG (bh (d:=.tup [.str w]) ⋯ (bh (fm (x:=.lst ((w::r).map .str)) (l:=some 1) (h:=none) ⋯ ⋯ rfl Ih) rfl)) (by show 2<=sizeLine;decide)) ⟨_,rfl,?_⟩;show wRs _ _ (s8 (w::r) a w .no (.val (.lst (r.map .str))) (.val (.tup [.str w])) .no .no) _
    have eI:evI ⟨PP.run Gs gls N,gls,hfs Gs⟩ (.rng (.gix "WITHIN" [("yes",0),("no",0),("not",1),("and",2),("or",2),("if",2)] (.var 2))) (s8 (w::r) a w .no (.val (.lst (r.map .str))) (.val (.tup [.str w])) .no .no)=some (lq 0 i.toNat,(s8 (w::r) a w .no (.val (.lst (r.map .str))) (.val (.tup [.str w])) .no .no)):=by
     have hi:0<=i/\i<=2:=qy (P:=λ_ i=>0<=i/\i<=2) eW ∅ ∅ ∅ ∅ ∅ ∅;exact mh (Hr (x:=w) ⋯ eW) ∅ ∅
    refine Jf eI ?_
    -- one more is read
    have rd1:∀(x:D)(u:List Str)(d3 d6 d7:Sl)(t:List D)(ds:List D)(Q:OR->Prop),u.length<n->(∀v∈u,v.length<sizeLine)->t.length<10->(RD n a u=none->∀δ,Q (.inr ("NoText",δ))) ->
     (∀p,RD n a u=some p->∀d7',nz ⟨PP.run Gs gls N,gls,hfs Gs⟩ (.nm 6) rB ds (s8 (w::r) a w d3 (.val (.lst (p.2.map .str))) (.val (.tup (.str w::t++[enc p.1]))) (.val x) d7') Q) ->
     nz ⟨PP.run Gs gls N,gls,hfs Gs⟩ (.nm 6) rB (x::ds) (s8 (w::r) a w d3 (.val (.lst (u.map .str))) (.val (.tup (.str w::t))) d6 d7) Q:=λx u d3 d6 d7 t ds Q hu hv ht q0 q1=>by
     have A8:=tK n N a u ha hu hv ∅;refine Bj rfl ?_;show wRs _ _ (s8 (w::r) a w d3 (.val (.lst (u.map .str))) (.val (.tup (.str w::t))) (.val x) d7) _;refine ko (as:=[.lst (u.map .str),.lst (a.map .str)]) ⋯ A8 (λe=>q0 (uc.mp e) _) λd hd e=>?_;obtain⟨p,ep,rfl⟩:=aj.mp hd;refine gG.mpr ⟨_,_,cH [.lst (u.map .str),.lst (a.map .str)] ⋯ e,_,rfl,?_⟩;show wRs _ _ (s8 (w::r) a w d3 (.val (.lst (p.2.map .str))) (.val (.tup (.str w::t))) (.val x) (.val (enc p.1))) _;refine rQ ⟨.nx (s8 (w::r) a w d3 (.val (.lst (p.2.map .str))) (.val (.tup (.str w::t++[enc p.1]))) (.val x) (.val (enc p.1))),?_,?_⟩
     .have:En (.tup (.str w::t)) (.tup [enc p.1])=some (.tup (.str w::t++[enc p.1])):=if_pos (by
       show(t.length+1)+1<=sizeLine;exact big ∅)
      have ee:evE ⟨PP.run Gs gls N,gls,hfs Gs⟩ (.tup (.cons (.var 7) .nil)) (s8 (w::r) a w d3 (.val (.lst (p.2.map .str))) (.val (.tup (.str w::t))) (.val x) (.val (enc p.1)))=some (.tup [enc p.1],s8 (w::r) a w d3 (.val (.lst (p.2.map .str))) (.val (.tup (.str w::t))) (.val x) (.val (enc p.1))):=by kernel_rfl
      unfold s8 at ee |-;simp only[evS,List.getElem?_cons_succ,List.getElem?_cons_zero,ee,ae,ah,this,bg];rfl
     .exact lO.mpr (q1 p ep _)
    have fin:∀(p:F×List Str)(t:List D)(d3 d6 d7:Sl),enc p.1=.tup (.str w::t)->RD (n+1) a (w::r)=some p->nz ⟨PP.run Gs gls N,gls,hfs Gs⟩ (.nm 6) rB [] (s8 (w::r) a w d3 (.val (.lst (p.2.map .str))) (.val (.tup (.str w::t))) d6 d7) (jF ⟨PP.run Gs gls N,gls,hfs Gs⟩ (.cons (.st (.ret (.tup (.cons (.var 5) (.cons (.var 4) .nil))))) .nil) (nh ((RD (n+1) a (w::r)).map outF))):=λp t d3 d6 d7 he hp=>by
     rw[hp];refine Fe ?_;show wRs _ _ _ (nh (some (.tup [enc p.1,.lst (p.2.map .str)])));rw[he];exact jq ⋯
    have hk:(i=0/\(w="yes"\/w="no"))\/(i=1/\w="not")\/(i=2/\(w="and"\/w="or"\/w="if")):=qy (P:=λw i=>(i=0/\(w="yes"\/w="no"))\/(i=1/\w="not")\/(i=2/\(w="and"\/w="or"\/w="if"))) eW (.inl ⟨rfl,.inl rfl⟩) (.inl ⟨rfl,.inr rfl⟩) (.inr (.inl ⟨rfl,rfl⟩)) (.inr (.inr ⟨rfl,.inl rfl⟩)) (.inr (.inr ⟨rfl,.inr (.inl rfl)⟩)) (.inr (.inr ⟨rfl,.inr (.inr rfl)⟩));rcases hk with⟨rfl,hk⟩|⟨rfl,hk⟩|⟨rfl,hk⟩
    .obtain⟨A,hA,hE⟩:∃A,lf w a=some A/\enc A=.tup [.str w]:=by
      rcases hk with rfl|rfl
      .exact⟨.yes,if_pos rfl,rfl⟩
      .exact⟨.no,(if_neg ⇑0).trans (if_pos rfl),rfl⟩
     refine fin (A,r) [] _ _ _ hE ?_;rw[e0,show ar w=0 by unfold ar;rw[eW];rfl];show(lf w a).map _=_;rw[hA];rfl
    .have e1:RD (n+1) a (w::r)=(RD n a r).map λp=>(nd w [p.1],p.2):=by
      rw[e0,show ar w=1 by unfold ar;rw[eW];rfl]
      try rfl
     refine rd1 (.int 0) r .no .no .no [] [] _ ∅ hr ⇑0 (λz δ=>?_) λp ep d7=>?_
     .show nh ((RD (n+1) a (w::r)).map outF) _;rw[e1,z];exact⟨_,rfl⟩
     .refine fin (nd w [p.1],p.2) [enc p.1] _ _ _ ?_ (by rw[e1,ep];rfl);subst hk;exact congrArg enc (show nd "not" [p.1]=.neg p.1 by kernel_rfl)
    .have e1:RD (n+1) a (w::r)=(RD n a r).bind λp=>(RD n a p.2).map λq=>(nd w [p.1,q.1],q.2):=by
      rw[e0,show ar w=2 by unfold ar;rw[eW];rfl]
      try rfl
     refine rd1 (.int 0) r .no .no .no [] [.int 1] _ ∅ hr ⇑0 (λz δ=>?_) λp ep d7=>?_
     .show nh ((RD (n+1) a (w::r)).map outF) _;rw[e1,z];exact⟨_,rfl⟩
     have hs:∀v∈p.2,v∈r:=pj (A:=p.1) ep;refine rd1 (.int 1) p.2 .no _ d7 [enc p.1] [] _ (by have:=fP (A:=p.1) (r:=p.2) ep;lia) (λv hv=>hr v (hs v hv)) (by show 1<10;decide) (λz δ=>?_) λq eq d7'=>?_
     .show nh ((RD (n+1) a (w::r)).map outF) _;rw[e1,ep,ah,z];exact⟨_,rfl⟩
     .refine fin (nd w [p.1,q.1],q.2) [enc p.1,enc q.1] _ _ _ ?_ (by rw[e1,ep,ah,eq];rfl);rcases hk with rfl|rfl|rfl
      .exact congrArg enc (show nd "and" [p.1,q.1]=.bi .and p.1 q.1 by kernel_rfl)
      .exact congrArg enc (show nd "or" [p.1,q.1]=.bi .or p.1 q.1 by kernel_rfl)
      .exact congrArg enc (show nd "if" [p.1,q.1]=.bi .imp p.1 q.1 by kernel_rfl)
def kids:F->List F
 |.neg a=>[a]
 |.q _ a=>[a]
 |.bi _ x y=>[x,y]
 |_=>[]
def slT{a:D}{ds:List D}:slD (.tup (a::ds)) (some 1) none=some (.tup ds):=by
 have e1:HT.sIx (a::ds).length 0 (some 1)=1:=by
  rw[show(1:Int)=((1:Nat):Int)from rfl,HT.sIx_nat];simp
 have e2:HT.sIx (a::ds).length (a::ds).length none=(a::ds).length:=rfl;unfold slD;dsimp only;rw[e1,e2,if_neg ↥0];unfold cutD;rw[e1,e2];simp
def Cs(n:Nat)(A:F):PP.run Gs gls (n+1) 0 [enc A]=some (.tup ((kids A).map enc)):=by
 have sl:∀(s:Str)(ds:List D),gu .isin (.str s) (.tup [.str "yes",.str "no",.str "word"])=some false->PP.run Gs gls (n+1) 0 [.tup (.str s::ds)]=some (.tup ds):=λs ds h=>by
  apply dq;refine bU mq rfl rfl rfl ?_;simp only[mq,init,SI,Nat.reduceAdd,Nat.reduceSub];have e:=Hq (a:=.tup .nil) (x:=.tup []) (bL (cx:=⟨PP.run Gs gls n,gls,hfs Gs⟩) (δ:=[.val (.tup (.str s::ds))]) (a:=.ix (.var 0) (.int 0)) (b:=.glob 0) (x:=.str s) (y:=.tup [.str "yes",.str "no",.str "word"]) (gp (x:=.tup (.str s::ds)) (y:=.int 0) ⋯ ⋯ (atI_nat (j:=0) rfl)) ⋯ h) ⋯ (fm (a:=.var 0) (lo:=.yes (.int 1)) (hi:=.no) (x:=.tup (.str s::ds)) (l:=some 1) (h:=none) ⋯ ⋯ rfl slT);exact lM _ e rfl
 cases A with
 |yes=>kernel_rfl
 |no=>kernel_rfl
 |word w ts=>kernel_rfl
 |neg a=>exact sl _ _ ⋯
 |q b a=>exact sl _ _ (by cases b<;>kernel_rfl)
 |bi b x y=>exact sl _ _ (by cases b<;>kernel_rfl)
def ints_map:∀{α:Type}(p:α->Int)(xs:List α),md (xs.map λx=>D.int (p x))=some (xs.map p)
 |_,p,[]=>rfl
 |_,p,x::xs=>by rw[aw];unfold md;rw[ints_map p xs];rfl
def xT(A:F):sz A=1+((kids A).map sz).sum:=by
 cases A<;>simp[kids,sz]<;>lia
def uE:∀l:List F,(l.map λB=>(sz B:Int)).sum=(((l.map sz).sum:Nat):Int)
 |[]=>rfl
 |a::l=>by rw[aw,aW,aw,aW,uE l];lia
def Dv(A:F):(kids A).length<=2:=by cases A<;>simp[kids]
def KR{A B:F}(h:B∈kids A):sz B<sz A:=by
 cases A<;>simp[kids]at h
 .subst h;simp[sz]
 .subst h;simp[sz]
 .rcases h with rfl|rfl<;>simp[sz]<;>lia
def yg:∀(n:Nat)(A:F),sz A<n->PP.run Gs gls n 9 [enc A]=some (.int (sz A))
 |0,A,h=>by lia
 |1,A,h=>by have:=xT A;lia
 |n+2,A,h=>by
  apply dq;refine bU gS rfl rfl rfl ?_;simp only[gS,init,SI,Nat.reduceAdd,Nat.reduceSub];have ck:=pO (G:=Gs) (gl:=gls) (n:=n+1) (f:=9) (es:=.cons (.var 1) .nil) (src:=.sq (.call 0 (.cons (.var 0) .nil))) (i:=1) (δ:=[.val (enc A)]) enc (λB=>.int (sz B)) (λB=>[enc B]) (kids A) (aX (Dv A) ⇑0) (pN (cH [enc A] ⋯ (Cs n A)) rfl) rfl (λB _=>by kernel_rfl) λB hB=>yg (n+1) B (by have:=KR hB;lia)
  have e2:gY .sum [.lst ((kids A).map λB=>.int (sz B))]=some (.int ((kids A).map λB=>(sz B:Int)).sum):=by
   show(md _).map _=_;rw[ints_map];rfl
  refine lM (.int (1+((kids A).map λB=>(sz B:Int)).sum)) (cW (x:=.int 1) (y:=.int ((kids A).map λB=>(sz B:Int)).sum) ⋯ (gR (bh ck rfl) e2) rfl) ?_;rw[uE,xT A];congr 1
def MG:∀{n:Nat}{a ws:List Str}{A:F}{r:List Str},RD n a ws=some (A,r)->sz A+r.length<=ws.length:=by
 have lf1:∀{w:Str}{a:List Str}{A:F},lf w a=some A->sz A=1:=λ{w a A}h=>by
  unfold lf at h;split at h
  .cases h;rfl
  split at h
  .cases h;rfl
  unfold wrd nS at h;split at h
  .split at h
   .cases h;rfl
   .cases h
  .split at h
   .obtain⟨ts,_,rfl⟩:=aj.mp h;rfl
   .cases h
 have nd1:∀(w:Str)(A:F),sz (nd w [A])=1+sz A:=λw A=>by
  show sz (if w="all" then F.q true A else if w="some" then F.q false A else F.neg A)=_;split
  .simp only[sz];lia
  split<;>(simp only[sz];lia)
 have nd2:∀(w:Str)(A C:F),sz (nd w [A,C])=1+sz A+sz C:=λw A C=>by
  show sz (if w="and" then F.bi .and A C else if w="or" then F.bi .or A C else F.bi .imp A C)=_;split
  .simp only[sz];lia
  split<;>(simp only[sz];lia)
 intro n
 induction n with
 |zero=>intro a ws A r h;cases h
 |succ n ih =>
  intro a ws A r h
  cases ws with
  |nil=>rw[LX]at h;cases h
  |cons w ws =>
   unfold RD rd at h;split at h
   .cases h
   split at h
   .cases ws with
    |nil=>cases h
    |cons l ws =>
     dsimp only at h;split at h
     .obtain⟨⟨B,q⟩,e,h⟩:=aj.mp h;cases h;have:=ih e;rw[nd1];simp only[ag]at this |-
      lia
     .cases h
   split at h
   .obtain⟨B,e,h⟩:=aj.mp h;cases h;rw[lf1 e,ag]
    lia
   .obtain⟨⟨B,q⟩,e,h⟩:=aj.mp h;cases h;have:=ih e;rw[nd1,ag]
    lia
   .obtain⟨⟨B,q⟩,e,h⟩:=af.mp h;obtain⟨⟨C,q'⟩,e',h⟩:=aj.mp h;cases h;have:=ih e;have:=ih e';rw[nd2,ag];dsimp only at *
    lia
def bnd(ws:List Str):Option (F×List Str):=(RD (ws.length+1) [] ws).bind λp=>if 40<sz p.1 then none else some p
def An(n:Nat)(ws:List Str)(h:ws.length<=100)(hw:∀w∈ws,w.length<sizeLine)(hn:110<=n):Ans (n+1) 10 34 [.lst (ws.map .str)] ((bnd ws).map outF):=by
 refine gI d_read_bounded x_read_bounded r_read_bounded rfl rfl rfl rfl rfl rfl rfl rfl rfl ?_;show wRs _ r_read_bounded [.val (.lst (ws.map .str)),.no,.no] _;refine ko (as:=[.lst (ws.map .str),.lst []]) ⋯ (tK (ws.length+1) n [] ws ⇑0 ∅ hw ∅) (λe=>?_) λd hd e=>?_
 .unfold bnd;rw[uc.mp e];exact⟨_,rfl⟩
 obtain⟨p,ep,rfl⟩:=aj.mp hd;have hs:=MG (A:=p.1) (r:=p.2) ep;refine gG.mpr ⟨_,_,cH [.lst (ws.map .str),.lst []] ⋯ e,_,rfl,?_⟩;show wRs _ _ [.val (.lst (ws.map .str)),.val (enc p.1),.val (.lst (p.2.map .str))] _;have eb:bnd ws=if 40<sz p.1 then none else some p:=by unfold bnd;rw[ep];rfl
 rw[eb];refine gj (decide ((40:Int)<(sz p.1:Int))) (bL (x:=.int (sz p.1)) (y:=.int 40) (cH [enc p.1] ⋯ (yg n p.1 ∅)) ⋯ rfl) (λh=>?_) λh=>?_
 .rw[decide_eq_true_eq]at h;rw[if_pos ∅];exact⟨_,rfl⟩
 .rw[decide_eq_false_iff_not]at h;rw[if_neg ∅];exact jq ⋯
def stm(t:Str):Option F:=if 100<(spl 32 t).length then none else(bnd (spl 32 t)).bind λp=>if p.2=[]then some p.1 else none
def we{c:Nat}{t w:Str}(h:w∈spl c t):w.length<=t.length:=by
 obtain⟨x,hx,rfl⟩:=cE.mp h;have:=mM c _ x hx;rw[bS]at this;rw[eN];exact this
def NC(n:Nat)(t:Str)(ht:t.length<sizeLine)(hn:112<=n):Ans (n+1) 11 35 [.str t] ((stm t).map enc):=by
 obtain⟨n,rfl⟩:∃m,n=m+2:=⟨n-2,∅⟩;refine gI d_read_statement x_read_statement r_read_statement rfl rfl rfl rfl rfl rfl rfl rfl rfl ?_;show wRs _ r_read_statement [.val (.str t),.no,.no] _;have A4:=HK n t ht;have x4:=lb (n:=n+2) (f:=4) (x:=29) (es:=.cons (.var 0) .nil) (δ:=[.val (.str t),.no,.no]) ⋯ A4;unfold stm;by_cases h:100<(spl 32 t).length
 .rw[if_pos h]at x4 |-;have x5:xvE ⟨PP.run Gs gls (n+2),gls,hfs Gs⟩ (.fn 10 34 (.hd (.cal 4 29 (.cons (.var 0) .nil)) .nil)) [.val (.str t),.no,.no]=xo none [.val (.str t),.no,.no]:=x4;exact cM.mpr (iu (p:=("NoText",[.val (.str t),.no,.no])) (by rw[aQ,x5];rfl) ⟨_,rfl⟩)
 .rw[if_neg h]at x4 A4 |-;have x5:xvE ⟨PP.run Gs gls (n+2),gls,hfs Gs⟩ (.fn 10 34 (.hd (.cal 4 29 (.cons (.var 0) .nil)) .nil)) [.val (.str t),.no,.no]=none:=x4;have AB:=An (n+1) (spl 32 t) ∅ (λw hw=>cJ (we hw) ht) ∅;have eE:cS ⟨PP.run Gs gls (n+2),gls,hfs Gs⟩ (.cons (.call 4 (.cons (.var 0) .nil)) .nil) [.val (.str t),.no,.no]=some ([.lst ((spl 32 t).map .str)],[.val (.str t),.no,.no]):=bh (cH [.str t] ⋯ A4.1) rfl;have x6:=lb (n:=n+2) (f:=10) (x:=34) eE AB;generalize spl 32 t=ws at *
  cases e:bnd ws with
  |none =>
   rw[e]at x6
   exact cM.mpr (iu (p:=("NoText",[.val (.str t),.no,.no])) (by rw[aQ,x5,aQ,x6];rfl) ⟨_,rfl⟩)
  |some p =>
   rw[e]at x6 AB;refine cM.mpr (lP (by rw[aQ,x5,aQ,x6];rfl) (gG.mpr ⟨_,_,cH _ eE AB.1,_,rfl,?_⟩));show wRs _ _ [.val (.str t),.val (enc p.1),.val (.lst (p.2.map .str))] (nh (fK enc (if p.2=[]then some p.1 else none)));refine gj (!(p.2.map D.str).isEmpty) ⋯ (λh=>?_) λh=>?_
   .rw[if_neg λz=>by rw[z]at h;cases h];exact⟨_,rfl⟩
   .rw[if_pos ?_]
    .exact jq ⋯
    .cases e:p.2 with
     |nil=>rfl
     |cons a l=>rw[e]at h;cases h
def HL(n:Nat)(d:D)(hd:fU [d]=some (.bl false))(hn:112<=n):Ans (n+1) 11 35 [d] none:=by
 obtain⟨n,rfl⟩:∃m,n=m+2:=⟨n-2,∅⟩;refine gI d_read_statement x_read_statement r_read_statement rfl rfl rfl rfl rfl rfl rfl rfl rfl ?_;show wRs _ r_read_statement [.val d,.no,.no] _;have x4:=lb (n:=n+2) (f:=4) (x:=29) (es:=.cons (.var 0) .nil) (δ:=[.val d,.no,.no]) ⋯ (Am n d hd);have x5:xvE ⟨PP.run Gs gls (n+2),gls,hfs Gs⟩ (.fn 10 34 (.hd (.cal 4 29 (.cons (.var 0) .nil)) .nil)) [.val d,.no,.no]=xo none [.val d,.no,.no]:=x4;exact cM.mpr (iu (p:=("NoText",[.val d,.no,.no])) (by rw[aQ,x5];rfl) ⟨_,rfl⟩)
def bR{cx:Cl}{e:E}{r:Ss}{δ:PP.Loc}{Q:Out->Prop}(d:D)(h:evE cx e δ=some (d,δ))(q:Q (.rt d δ)):wSs cx (.cons (.ret e) r) δ Q:=bz.mpr (jo.mpr ⟨d,δ,h,q⟩)
def yB(al:Str)(c:Nat):uZ al ⟨#[c]⟩=decide (c∈cs al):=by
 rw[bJ,decide_eq_true_eq];refine(PySem.StrLaws.found_iff al ⟨#[c]⟩).trans ⟨λ⟨i,h1,h2⟩=>?_,λh=>?_⟩
 .rw[sub_one,decide_eq_true_eq]at h2;exact cY h2
 .obtain⟨i,hi⟩:=List.mem_iff_getElem?.mp h;refine⟨i,?_,by rw[sub_one,decide_eq_true_eq];exact hi⟩;have:=(aF.mp hi).1;rw[bS]at this;exact this
def SM:Str:="abcdefghijklmnopqrstuvwxyz"
def Dq(c:Nat):decide (c∈cs SM)=isL c:=by
 have e:cs SM=cX 97 26:=by decide
 rw[e];unfold isL;rw[bJ,decide_eq_true_eq,aa,decide_eq_true_eq,decide_eq_true_eq,nO]
 lia
def KN(c:Nat):decide (c∈cs (SM++"0123456789"))=isG c:=by
 have e:cs (SM++"0123456789")=cX 97 26++cX 48 10:=by decide
 rw[e];unfold isG isL;rw[bJ,decide_eq_true_eq,bF,aa,aa,decide_eq_true_eq,decide_eq_true_eq,decide_eq_true_eq,decide_eq_true_eq,cc,nO,nO]
 lia
def Cp(n:Nat)(t al:Str)(ht:t.length<=sizeLine):PP.run Gs gls (n+1) 18 [.str t,.str al]=some (.bl (decide (1<=t.length)&&decide (t.length<=8)&&(cs t).all λc=>decide (c∈cs al))):=by
 apply dq;refine bU fW rfl rfl rfl ?_;simp only[fW,init,SI,Nat.reduceAdd,Nat.reduceSub]
 have e0:(decide ((0:Int)<(t.length:Int))&&decide ((t.length:Int)<9))=(decide (1<=t.length)&&decide (t.length<=8)):=by
  congr 1
  .rw[decide_eq_decide];lia
  .rw[decide_eq_decide];lia
 refine bC (!(decide (1<=t.length)&&decide (t.length<=8))) (by rw[<- e0];exact gx (sR (x:=.int 0) (y:=.int t.length) (z:=.int 9) ⋯ (len_str ⋯ ht) ⋯ rfl rfl)) (λh=>bR (.bl false) rfl ?_) λh=>?_
 .rw[dc]at h;show D.bl false=_;rw[h];rfl
 .rw[du]at h;rw[h];show wSs _ (.cons _ _) _ _;refine jl ((cs t).map λc=>.str ⟨#[c]⟩) (pN (d:=.str t) ⋯ (if_pos ht)) ?_;refine iT (λc=>.str ⟨#[c]⟩) (λxs δ=>∃s,δ=[.val (.str t),.val (.str al),s]/\(xs.all λc=>decide (c∈cs al))=((cs t).all λc=>decide (c∈cs al))) ?_ ?_ (cs t) _ ⟨_,rfl,rfl⟩
  .rintro c xs δ ⟨s,rfl,h⟩;refine⟨_,rfl,bC (!decide (c∈cs al)) (bL (x:=.str ⟨#[c]⟩) (y:=.str al) ⋯ ⋯ ?_) (λz=>bR (.bl false) rfl ?_) λz=>dr.mpr ⟨_,rfl,?_⟩⟩
   .rw[<- yB];rfl
   .show D.bl false=D.bl (true&&_);rw[dc]at z;rw[<- h,cg,z];rfl
   .rw[du]at z;rw[<- h,cg,z];rfl
  .rintro δ ⟨s,rfl,h⟩;show wSs _ (.cons _ _) _ _;refine bR (.bl true) rfl ?_;show D.bl true=D.bl (true&&_);rw[<- h];rfl
def Gb(n:Nat)(t:Str)(ht:t.length<=sizeLine):PP.run Gs gls (n+1) 18 [.str t,.str SM]=some (.bl (jK t)):=by
 rw[Cp n t SM ht,show(λc=>decide (c∈cs SM))=isL from funext Dq];rfl
def oD:Option Str->D
 |some u=>.str u
 |none=>.non
def HH{ar:List Str}{k:Nat}(hk:k<ar.length):ixD (.lst (ar.map D.str)) (.int (-1-(k:Int)))=some (.str (ar.reverse[k]'(by rw[bb];exact hk))):=by
 show atI _ _=_;unfold atI ixN;rw[ak,if_neg ∅,if_pos ∅,ah,show(-1-(k:Int)+(ar.length:Int)).toNat=ar.length-1-k by lia,bH,List.getElem_reverse,aN ∅];rfl
def eq_str(a b:Str):gu .eq (.str a) (.str b)=some (a==b):=by kernel_rfl
def vt{cx:Cl}{ar:List Str}{t:Str}{Q:Out->Prop}{tl:List Sl}(hl:ar.length<=10)(q1:∀i s,ar.reverse.findIdx? (λy=>y==t)=some i->i<ar.length->Q (.rt (.str (toString (i:Int))) (.val (.str t)::.val (.lst (ar.map .str))::tl++[s])))
 (q2:∀s,t∉ar.reverse->Q (.nx (.val (.str t)::.val (.lst (ar.map .str))::tl++[s]))){k:Nat}(hk:k=tl.length+2)(s0:Sl) :
 qe cx (.nm k) (.cons (.ifs (.cmp .eq (.ix (.var 1) (.bin .sub (.neg (.int 1)) (.var k))) (.var 0)) (.cons (.ret (.blt .toStr (.cons (.var k) .nil))) .nil) .nil) .nil) (lq 0 ar.length) (.val (.str t)::.val (.lst (ar.map .str))::tl++[s0]) Q:=by
 subst hk;unfold lq;rw[List.range_eq_range'];refine iT (λi:Nat=>D.int (0+i)) (λxs δ=>∃(k:Nat)(s:Sl),xs=cX k (ar.length-k)/\k<=ar.length/\(∀j(hj:j<ar.reverse.length),j<k->(ar.reverse[j]==t)=false)/\δ=.val (.str t)::.val (.lst (ar.map .str))::tl++[s]) ?_ ?_ _ _ ⟨0,s0,↥0,bM _,λj hj h=>by lia,rfl⟩
 .rintro x xs δ ⟨k,s,e,hk,hj,rfl⟩
  have hk':k<ar.length:=by
   rcases og k ar.length with h|h
   .exact h
   .rw[show ar.length-k=0 by lia]at e;cases e
  rw[show ar.length-k=(ar.length-(k+1))+1 by lia,EO]at e;cases e;have ab:=HH hk';have hr:x<ar.reverse.length:=by rw[bb];exact hk'
  have es:dy (.val (.str t)::.val (.lst (ar.map .str))::tl++[s]) (.nm (tl.length+2)) (.int (0+x))=some (.val (.str t)::.val (.lst (ar.map .str))::tl++[.val (.int x)]):=by
   show(if _ then _ else none)=_;rw[if_pos ↥0,xI];simp[eM]
  have ev:∀cx:Cl,evE cx (.var (tl.length+2)) (.val (.str t)::.val (.lst (ar.map .str))::tl++[.val (.int x)])=some (.int x,.val (.str t)::.val (.lst (ar.map .str))::tl++[.val (.int x)]):=λcx=>by
   simp[evE,zX,PP.get,demote]
  refine⟨_,es,bC (ar.reverse[x]==t) (bL (x:=.str ar.reverse[x]) (y:=.str t) (gp (x:=.lst (ar.map .str)) (y:=.int (-1-(x:Int))) rfl (cW (x:=.int (-1)) (y:=.int x) rfl (ev _) rfl) ab) rfl (eq_str _ _)) (λhb=>?_) λhb=>dr.mpr ?_⟩
  .refine bR _ (gR (bh (ev _) rfl) (qJ ∅)) (q1 x _ (gb.mpr ⟨hr,hb,λj h=>by rw[hj j ∅ h];exact aq⟩) hk')
  .refine⟨x+1,_,rfl,hk',λj h1 h2=>?_,rfl⟩;rcases og j x with h|h
   .exact hj j h1 h
   .have:j=x:=by lia
    subst this;exact hb
 .rintro δ ⟨k,s,e,hk,hj,rfl⟩
  have hk':k=ar.length:=by
   rcases og k ar.length with h|h
   .rw[show ar.length-k=(ar.length-(k+1))+1 by lia,EO]at e;cases e
   .lia
  refine q2 s λhm=>?_;obtain⟨j,h1,h2⟩:=AA hm;have:=hj j h1 (by rw[bb]at h1;lia);rw[h2,beq_self_eq_true]at this;cases this
def Gf(n:Nat)(t:Str)(ar:List Str)(hl:ar.length<=10)(ht:t.length<=sizeLine):PP.run Gs gls (n+2) 19 [.str t,.lst (ar.map .str)]=some (oD (trm ar.reverse t)):=by
 apply dq;refine bU iB rfl rfl rfl ?_;simp only[iB,init,SI,Nat.reduceAdd,Nat.reduceSub];refine jk 1 [.val (.str t),.val (.lst (ar.map .str)),.val (.str SM),.no] ⋯ ?_;show wSs _ (.cons _ _) _ _;refine jl (lq 0 ar.length) ?_ (vt (tl:=[.val (.str SM)]) hl (λi s e hi=>?_) (λs hm=>?_) rfl .no)
 .have:=mh (cx:=⟨PP.run Gs gls (n+1),gls,hfs Gs⟩) (e:=.blt .len (.cons (.var 1) .nil)) (δ:=[.val (.str t),.val (.lst (ar.map .str)),.val (.str SM),.no]) (eH (e:=.var 1) (ds:=ar.map .str) ⋯) ∅ (by rw[ak];lia);rw[ak,de]at this;exact this
 .show D.str _=_;unfold trm;rw[e];rfl
 .show wSs _ (.cons _ _) [.val (.str t),.val (.lst (ar.map .str)),.val (.str SM),s] _
  have tn:trm ar.reverse t=if nmB t=true then some t else none:=by
   unfold trm;rw[DI hm]
  have eG:PP.run Gs gls (n+1) 18 [.str t,.str (SM++"0123456789")]=some (.bl (decide (1<=t.length)&&decide (t.length<=8)&&(cs t).all isG)):=by
   rw[Cp n t _ ht,show(λc=>decide (c∈cs (SM++"0123456789")))=isG from funext KN]
  refine bC ((decide (1<=t.length)&&decide (t.length<=8)&&(cs t).all isG)&&isL ((cs t).headD 0)) (DS (kC [.str t,.str (SM++"0123456789")] ⋯ eG) λh=>?_) (λh=>?_) λh=>?_
  .obtain⟨c,r,e⟩:∃c r,cs t=c::r:=by
    cases e:cs t with
    |nil =>
     have:=bS t;rw[e]at this;rw[<- this]at h
     cases h
    |cons c r=>exact⟨c,r,rfl⟩
   have e3:ixD (.str t) (.int 0)=some (.str ⟨#[c]⟩):=by
    show(if t.length<=sizeLine then(atI (cs t) 0).map _ else none)=_;rw[if_pos ht,e,show(0:Int)=((0:Nat):Int)from rfl,atI_nat (xs:=c::r) (j:=0) rfl];rfl
   rw[e];refine bL (x:=.str ⟨#[c]⟩) (y:=.str SM) (gp (x:=.str t) (y:=.int 0) ⋯ ⋯ e3) ⋯ ?_;show some (uZ SM ⟨#[c]⟩)=_;rw[yB,Dq];rfl
  .refine bR (.str t) ⋯ ?_;show D.str t=_;rw[tn,if_pos ?_]
   .rfl
   .unfold nmB
    revert h
    cases(decide (1<=t.length)&&decide (t.length<=8))<;>cases isL ((cs t).headD 0)<;>simp
  .show wSs _ (.cons _ _) _ _;refine bR .non ⋯ ?_;show D.non=_;rw[tn,if_neg ?_]
   .rfl
   .unfold nmB
    revert h
    cases(decide (1<=t.length)&&decide (t.length<=8))<;>cases isL ((cs t).headD 0)<;>simp
def oF:Option F->D
 |some A=>enc A
 |none=>.non
def Ed(ls:List Str):∀ts:List Str,eO (ts.map λt=>oD (trm ls t))=0
 |[]=>by unfold eO;rfl
 |t::ts=>by
  rw[aw];unfold eO;rw[Ed ls ts,show dep (oD (trm ls t))=0 by cases trm ls t<;>(unfold oD dep;rfl)];rfl
def IP(ls:List Str):∀ts:List Str,((ts.map λt=>oD (trm ls t)).any λy=>eqD y .non)=!(iK ls ts).isSome
 |[]=>rfl
 |t::ts=>by
  rw[aw,dG,IP ls ts,show iK ls (t::ts)=(trm ls t).bind λu=>(iK ls ts).map (u::·)from rfl]
  cases trm ls t with
  |none=>rfl
  |some u =>
   rw[show eqD (oD (some u)) .non=false by unfold oD eqD;rfl];cases iK ls ts<;>rfl
def Bt{ls:List Str}:∀{ts us:List Str},iK ls ts=some us->(ts.map λt=>oD (trm ls t))=us.map D.str
 |[],us,h=>by cases h;rfl
 |t::ts,us,h=>by
  obtain⟨u,e1,h⟩:=af.mp (show(trm ls t).bind (λu=>(iK ls ts).map (u::·))=some us from h);obtain⟨vs,e2,rfl⟩:=aj.mp h;rw[aw,aw,Bt e2,e1];rfl
def uC(u:Str)(ts ls:List Str):Option F:=if(jK u&&!decide (u∈res))=true/\ts.length<=3 then(iK ls ts).map (.word u)else none
def AM(n:Nat)(w u:Str)(ts ar:List Str)(s4:Sl)(hl:ar.length<=10)(hu:u.length<=sizeLine)(ht:∀t∈ts,t.length<=sizeLine):wSs ⟨PP.run Gs gls (n+2),gls,hfs Gs⟩ (fV 3 eQ.body) [.val (.str w),.val (.lst (ar.map .str)),.val (.str u),.val (.lst (ts.map .str)),s4] (retS λd=>d=oF (uC u ts ar.reverse)):=by
 show wSs _ (.cons _ _) _ _;unfold uC;refine bC (!jK u||decide ((3:Int)<((ts.map D.str).length:Int))) (iO (gx (kC [.str u,.str SM] ⋯ (Gb (n+1) u hu))) (bL (x:=.int (ts.map D.str).length) (y:=.int 3) (eH ⋯) ⋯ rfl)) (λh=>bR .non rfl ?_) λh=>?_
 .show D.non=_;rw[if_neg ?_]
  .rfl
  .rintro⟨h1,h2⟩;rw[aa]at h1;rw[h1.1,ak]at h;simp at h
   lia
 rw[ak,gP,du,decide_eq_false_iff_not]at h;obtain⟨h1,h2⟩:=h;have h3:ts.length<=3:=by lia
 show wSs _ (.cons _ _) _ _;refine bC (decide (u∈res)) (bL (x:=.str u) (y:=.tup (res.map .str)) ⋯ ⋯ (wZ u res)) (λh=>bR .non rfl ?_) λh=>?_
 .show D.non=_;rw[if_neg ?_]
  .rfl
  .rintro⟨z,_⟩;rw[h,ug,Bool.and_false]at z;cases z
 rw[if_pos ⟨by rw[h1,h];rfl,h3⟩];show wSs _ (.cons _ _) _ _;refine AQ (ts.map λt=>oD (trm ar.reverse t)) (pO (λt:Str=>.str t) (λt=>oD (trm ar.reverse t)) (λt=>[.str t,.lst (ar.map .str)]) ts (big ∅) ⋯ rfl (λt _=>by kernel_rfl) λt hm=>Gf n t ar hl (ht t hm)) (by show 3<5;decide) ?_;show wSs _ (.cons _ _) [.val (.str w),.val (.lst (ar.map .str)),.val (.str u),.val (.lst (ts.map λt=>oD (trm ar.reverse t))),s4] _;refine bC (!(iK ar.reverse ts).isSome) (bL (x:=.non) (y:=.lst (ts.map λt=>oD (trm ar.reverse t))) ⋯ ⋯ ?_) (λh=>bR .non rfl ?_) λh=>?_
 .show(if _ then some _ else none)=_;rw[if_pos ⟨by unfold dep;decide,by rw[Ed];decide⟩,IP]
 .show D.non=_
  cases e:iK ar.reverse ts with
  |none=>rfl
  |some us=>rw[e]at h;cases h
 .cases e:iK ar.reverse ts with
  |none=>rw[e]at h;cases h
  |some us =>
   rw[Bt e];show wSs _ (.cons _ _) _ _;exact bR (enc (.word u us)) ⋯ rfl
def m_find(w:Str):mtD .find (.str w) (.str "(")=some (.int (match(fz (cs w)).2 with
 |none=>-1
 |some _=>((fz (cs w)).1.length:Int))):=by
 show some (D.int _)=_;rw[xZ xm,sF]
 show some (D.int (match(dS 40 0 (cs w)).take 1 with
  |i::_=>(i:Int)
  |[]=>-1))=_
 cases e:(fz (cs w)).2 with
 |none =>
  obtain⟨h1,h2⟩:=jb e;rw[sX h1]
  rfl
 |some v =>
  obtain⟨h1,h2⟩:=ja e;generalize (fz (cs w)).1=u at *;rw[h1,sY h2,xF]
def FV(l:List Nat):lH (sO l) (some (-1)) none=sO (l.drop (l.length-1)):=by
 cases l with
 |nil=>rfl
 |cons a l =>
  refine(StrLaws.sliceText_from_neg (x:=sO (a::l)) (i:=-1) ∅ (by rw[eN,ag];lia)).trans (gH ?_);show((a::l).drop ((-1:Int)+((sO (a::l)).length:Int)).toNat).take (((a::l).length:Int)-((-1:Int)+((sO (a::l)).length:Int))).toNat=_;rw[eN,kR,ag,show((-1:Int)+((l.length+1:Nat):Int)).toNat=l.length+1-1 by lia];exact cm (by rw[aR,ag];lia)
def Ae(l:List Nat):(sO (l.drop (l.length-1))==")")=decide (l.getLast?=some 41):=by
 rw[bJ,beq_iff_eq,decide_eq_true_eq,fC];constructor
 .intro h;have:=congrArg cs h;rw[kR,xl]at this;have e:(l.drop (l.length-1))[0]?=some 41:=by rw[this];rfl
  rwa[mG,xH]at e
 .intro h;obtain⟨hk,e⟩:=aF.mp h;refine gH ?_;rw[kR,xl,bN hk,e];congr 1;exact dX ∅
def Cf{l:List Nat}{c:Nat}(h:c∈l)(hc:isL c=false):jK (sO l)=false:=by
 unfold jK;rw[show(cs (sO l)).all isL=false from List.all_eq_false.mpr ⟨c,h,by rw[hc];exact aq⟩,Bool.and_false]
def Ge(n:Nat)(w:Str)(ar:List Str)(hl:ar.length<=10)(hw:w.length<sizeLine):PP.run Gs gls (n+3) 20 [.str w,.lst (ar.map .str)]=some (oF (wrd w ar.reverse)):=by
 apply dq;refine bU eQ rfl rfl rfl ?_;simp only[eQ,init,SI,Nat.reduceAdd,Nat.reduceSub];refine jk 2 [.val (.str w),.val (.lst (ar.map .str)),.val (.str w),.val (.lst []),.no] ⋯ ?_;have hw':=cG hw;show wSs _ (.cons _ _) _ _;have es:slD (.str w) (some (-1)) none=some (.str (sO ((cs w).drop ((cs w).length-1)))):=(if_pos hw').trans (by rw[<- FV];rfl);have whole:(jK w&&!decide (w∈res))=(jK w&&!decide (w∈res)):=rfl;obtain⟨l1,l2⟩:=pR (cs w);rw[bS]at l1 l2;have mf:=m_find w;refine bC (decide ((cs w).getLast?=some 41)) (by rw[<- Ae];exact bL (x:=.str (sO ((cs w).drop ((cs w).length-1)))) (y:=.str ")") (fm (x:=.str w) (l:=some (-1)) (h:=none) ⋯ ⋯ rfl es) ⋯ (eq_str _ _)) (λh=>?_) λh=>?_
 .have h:=of_decide_eq_true h;show wSs _ (.cons _ _) _ _;refine eh _ (jz (x:=.str w) (y:=.str "(") ⋯ ⋯ mf) ⟨_,rfl,?_⟩
  cases e:(fz (cs w)).2 with
  |none =>
   obtain⟨h1,h2⟩:=jb e;show wSs _ (.cons _ _) [.val (.str w),.val (.lst (ar.map .str)),.val (.str w),.val (.lst []),.val (.int (-1))] _;refine bC true ⋯ (λ_=>bR .non rfl ?_) λz=>by cases z
   show D.non=_;unfold wrd;rw[e,h2,Io];rw[show nS w ar.reverse none=none from if_neg ?_]
   .rfl
   .rw[show jK w=false from Cf (l:=cs w) (List.mem_of_getLast? h) ⇑0]
    exact aq
  |some v =>
   obtain⟨h1,h2⟩:=ja e;have lv:=l2 v e
   have el:(cs w).length=(fz (cs w)).1.length+1+v.length:=by
    conv=>lhs;rw[h1]
    rw[az,ag];lia
   rw[bS]at el;have ew:wrd w ar.reverse=nS (sO (fz (cs w)).1) ar.reverse (some v):=by unfold wrd;rw[e]
   rw[ew];generalize (fz (cs w)).1=u at *
   have hv:v≠[]:=by
    rintro rfl;rw[h1,kX,List.getLast?_singleton]at h;cases h
   have hg:v.getLast?=some 41:=by
    rw[h1,kX,AH]at h
    cases ev:v.getLast? with
    |none=>exact absurd (List.getLast?_eq_none_iff.mp ev) hv
    |some x=>rw[ev]at h;simpa using h
   have v1:1<=v.length:=lJ.mpr hv;show wSs _ (.cons _ _) [.val (.str w),.val (.lst (ar.map .str)),.val (.str w),.val (.lst []),.val (.int u.length)] _;refine bC false ⋯ (λz=>by cases z) λ_=>?_;show wSs _ (.cons _ _) _ _
   have s1:slD (.str w) none (some (u.length:Int))=some (.str (sO u)):=by
    refine(if_pos hw').trans ?_;congr 2;refine(vK (x:=w) (j:=(u.length:Int)) ⟨∅,by show(u.length:Int)<=((cs w).length:Int);rw[bS];lia⟩).trans (gH ?_);show((cs w).drop 0).take ((u.length:Int)-0).toNat=u;rw[gh,show((u.length:Int)-0).toNat=u.length by lia,h1,iI]
   refine eh _ (fm (x:=.str w) (l:=none) (h:=some (u.length:Int)) ⋯ rfl ⋯ s1) ⟨_,rfl,?_⟩;show wSs _ (.cons _ _) [.val (.str w),.val (.lst (ar.map .str)),.val (.str (sO u)),.val (.lst []),.val (.int u.length)] _
   have s2:slD (.str w) (some ((u.length:Int)+1)) (some (-1))=some (.str (sO v.dropLast)):=by
    refine(if_pos hw').trans ?_;congr 2;refine(StrLaws.sliceText_neg_hi w _ ∅ ∅).trans ((StrLaws.sliceText_plain (x:=w) (i:=(u.length:Int)+1) (j:=-1+(w.length:Int)) ⟨∅,∅,by show _<=((cs w).length:Int);rw[bS];lia⟩).trans (gH ?_));show((cs w).drop ((u.length:Int)+1).toNat).take ((-1+(w.length:Int))-((u.length:Int)+1)).toNat=v.dropLast;rw[show((u.length:Int)+1).toNat=(u++[40]).length by rw[az,cP];lia,h1,show u++40::v=(u++[40])++v by simp,List.drop_left,gD];congr 1
    lia
   have le:=kW (xs:=v);refine eh _ (jz (x:=.str (sO v.dropLast)) (y:=.str ",") (fm (x:=.str w) (l:=some ((u.length:Int)+1)) (h:=some (-1)) ⋯ ⋯ ⋯ s2) ⋯ (m_split sZ ⇑0 (by rw[eN];lia))) ⟨_,rfl,?_⟩
   have et:nS (sO u) ar.reverse (some v)=uC (sO u) (spl 44 (sO v.dropLast)) ar.reverse:=by
    show(if _ then _ else _)=(if _ then _ else _);have:(spl 44 (sO v.dropLast)).length=(cO 44 v.dropLast).length:=ak _;rw[this];by_cases c:(jK (sO u)&&!decide (sO u∈res))=true/\(cO 44 v.dropLast).length<=3
    .rw[if_pos ⟨c.1,hg,c.2⟩,if_pos c];rfl
    .rw[if_neg λz=>c ⟨z.1,z.2.2⟩,if_neg c]
   rw[et];exact AM n w (sO u) _ ar _ hl (by rw[eN];lia) λt ht=>by have:=we ht;rw[eN]at this;lia
 .have h:=of_decide_eq_false h
  have et:wrd w ar.reverse=uC w [] ar.reverse:=by
   unfold wrd;have t0:iK ar.reverse []=some []:=rfl
   cases e:(fz (cs w)).2 with
   |none =>
    obtain⟨h1,h2⟩:=jb e;rw[h2,Io];show(if _ then _ else _)=(if _ then _ else _);by_cases c:(jK w&&!decide (w∈res))=true
    .rw[if_pos c,if_pos ⟨c,⇑0⟩];rfl
    .rw[if_neg c,if_neg λz=>c z.1]
   |some v =>
    obtain⟨h1,h2⟩:=ja e;rw[show nS (sO (fz (cs w)).1) ar.reverse (some v)=none from if_neg λz=>h ?_]
    .unfold uC;rw[if_neg λz=>?_];rw[show jK w=false from Cf (l:=cs w) (c:=40) (by rw[h1];simp) ⇑0]at z;cases z.1
    .rw[h1,kX,AH,z.2.1];rfl
  rw[et];exact AM n w w [] ar .no hl hw' λt ht=>by cases ht
def eA(a:List Str):D:=.lst (a.reverse.map .str)
def eP(p:Str×List Str):D:=.tup [.str p.1,eA p.2]
def WL:List Str->List (List Str)->Option (List (Str×List Str)×List (List Str)):=wl isB cap ar
def Ny:∀xs:List (List Str),eO (xs.map eA)<=1
 |[]=>by unfold eO;decide
 |a::xs=>by
  have:=Ny xs;rw[aw];unfold eO eA dep;rw[ml];exact Nat.max_le.mpr ⟨aD _,this⟩
def Ec(xs:List (List Str)):iz (.lst (xs.map eA)) (.lst [])=true:=by
 have h1:dep (.lst (xs.map eA))<=2:=by have:=Ny xs;unfold dep;lia
 have h2:dep (.lst ([]:List D))=1:=by unfold dep eO;rfl
 unfold iz;rw[h2,show kin (.lst (xs.map eA)) (.lst [])=true from rfl,decide_eq_true ∅,decide_eq_true ∅];rfl
def yP(xs:List (List Str)):eqD (.lst (xs.map eA)) (.lst [])=xs.isEmpty:=by
 cases xs<;>(simp[eqD,lA])
def eq_nil(xs:List (List Str)):gu .eq (.lst (xs.map eA)) (.lst [])=some xs.isEmpty:=by
 show(if iz _ _=true then some (eqD _ _)else _)=_;rw[if_pos (Ec xs),yP]
def ne_nil(xs:List (List Str)):gu .ne (.lst (xs.map eA)) (.lst [])=some (!xs.isEmpty):=by
 show(if iz _ _=true then some (!eqD _ _)else _)=_;rw[if_pos (Ec xs),yP]
section
variable{cx:Cl}{δ:PP.Loc}{r:Ss}{Q:Out->Prop}
def rM{e:E}{i:Nat}{x y z:D}(hx:δ[i]?=some (.val x))(he:evE cx e δ=some (y,δ))(hz:En x y=some z)(q:wSs cx r (δ.set i (.val z)) Q):wSs cx (.cons (.aug i .add e) r) δ Q :=
 bz.mpr ⟨.nx _,by simp only[evS,hx,he,hz,ae,ah,bg],q⟩
def EW{i j:Nat}{ds:List D}{d:D}(h:δ[i]?=some (.own (ds++[d])))(hj:j<δ.length)(q:wSs cx r ((δ.set i (.own ds)).set j (.val d)) Q):wSs cx (.cons (.asg (.nm j) (.pop i)) r) δ Q:=by
 refine bz.mpr (gG.mpr ⟨d,δ.set i (.own ds),?_,_,if_pos (by rw[aZ];exact hj),q⟩);simp only[evE,h,List.getLast?_concat,List.dropLast_concat]
def Eb:∀(l:List (Str×Int))(x:Str),kQ (l.map iH) (l.map λp=>.int p.2) x=(l.lookup x).map .int
 |[],x=>rfl
 |p::l,x=>by
  rw[aw,aw,show p::l=(p.1,p.2)::l from rfl,bp];unfold kQ;by_cases h:p.1=x
  .rw[if_pos h,h,beq_self_eq_true];rfl
  .rw[if_neg h,Eb l x,show(x==p.1)=false from beq_eq_false_iff_ne.mpr λe=>h e.symm]
def sS{l:List (Str×Int)}{a b:E}{x:Str}{z:D}(ha:evE cx a δ=some (.str x,δ))(hb:evE cx b δ=some (z,δ)):evE cx (.dgt (.dcc l) a b) δ=some (((l.lookup x).map .int).getD z,δ):=by
 simp only[evE,ha,hb,ae,ah,Eb]
def vF{x0 x2 x3 d:D}{A:List D}:∀(ds X:List D)(s5:Sl),X.length+ds.length<sizeLine->(∀s5',Q (.nx [.val x0,.own (X++aC ds.length d),.own A,.val x3,.val d,s5']))->qe cx (.nm 5) (.cons (.append 1 (.var 4)) .nil) ds [.val x0,.own X,.own A,.val x3,.val d,s5] Q
 |[],X,s5,_,q=>lQ.mpr (by have:=q s5;rwa[aL,Ax,bq]at this)
 |y::ds,X,s5,h,q=>by
  rw[ag]at h;refine mK.mpr ⟨_,rfl,jm d rfl rfl ∅ (dr.mpr ?_)⟩;refine vF (x2:=x2) ds (X++[d]) (.val y) (by rw[az,cP];lia) λs5'=>?_;have:=q s5';rw[ag,Ay]at this
  rwa[cz]
end
def D4:List (Str×Int):=[("not",1),("and",2),("or",2),("if",2)]
def qz{w:Str}(h:w∉res):WIt.lookup w=none:=by
 have n:=sf h;simp only[WIt,bp,n "yes" ⇑0,n "no" ⇑0,n "not" ⇑0,n "and" ⇑0,n "or" ⇑0,n "if" ⇑0,kl]
def IK(w:Str):((D4.lookup w).map D.int).getD (.int 0)=.int (ar w):=by
 by_cases h:w∈res
 .exact mQ (P:=λw=>((D4.lookup w).map D.int).getD (.int 0)=.int (ar w)) h ⋯ ⋯ ⋯ ⋯ ⋯ ⋯ ⋯ ⋯
 .have n:=sf h
  have e:D4.lookup w=none:=by
   simp only[D4,bp,n "not" ⇑0,n "and" ⇑0,n "or" ⇑0,n "if" ⇑0,kl]
  unfold ar;rw[e,qz h];rfl
def HF{l:Str}(h:cap l=true):l∉res:=λm=>by
 have:∀r∈res,r.length≠1:=by decide
 unfold cap at h;rw[aa,decide_eq_true_eq]at h;exact this l m h.1
def LP{l:Str}(h:cap l=true):ar l=0:=by
 unfold ar;rw[qz (HF h)]
def yX(w:Str):ar w<=2:=by
 by_cases h:w∈res
 .exact mQ (P:=λw=>ar w<=2) h ⇑0 ⇑0 ⇑0 ⇑0 ⇑0 ⇑0 ⇑0 ⇑0
 .unfold ar;rw[qz h];exact bM _
def Lg(w:Str):(w=="all"||w=="some")=isB w:=by
 unfold isB bns;rw[bJ,bF,beq_iff_eq,beq_iff_eq,decide_eq_true_eq,aA,bX]
def tL{w:Str}{a:List Str}{st:List (List Str)}(h:isB w=false):∀r:List Str,WL (w::r) (a::st)=(WL r (aC (ar w) a++st)).map λp=>((w,a)::p.1,p.2)
 |[]=>by unfold WL;simp only[wl,h,cI,if_false]
 |l::r=>by unfold WL;conv=>lhs;unfold wl;rw[if_neg (by rw[h];exact aq)]
def xC{w:Str}{a:List Str}{st:List (List Str)}(h:isB w=true):WL [w] (a::st)=none:=by
 unfold WL;simp only[wl,h,if_true]
def tM{w l:Str}{r a:List Str}{st:List (List Str)}(h:isB w=true):WL (w::l::r) (a::st)=if cap l=true then(WL r ((l::a)::st)).map λp=>((w,a)::p.1,p.2)else none:=by
 unfold WL
 conv=>lhs;unfold wl;rw[if_pos h]
def sW(W:List Str)(st:List (List Str))(acc:List (Str×List Str))(m:Nat)(s4 s5:Sl):PP.Loc:=[.val (.lst (W.map .str)),.own (st.reverse.map eA),.own (acc.map eP),.val (.int m),s4,s5]
def whC:Ss->E
 |.cons (.while_ c _) _=>c
 |_=>.non
def whB:Ss->Ss
 |.cons (.while_ _ b) _=>b
 |_=>.nil
def MF(a:List Str)(st:List (List Str)):(a::st).reverse.map eA=st.reverse.map eA++[eA a]:=by rw[cL,bP];rfl
def vS{cx:Cl}{W:List Str}{Q:Out->Prop}(hl:∀w∈W,w.length<=sizeLine):∀(f:Nat)(ws:List Str)(m:Nat)(st:List (List Str))(acc:List (Str×List Str))(s4 s5:Sl),ws.length<f->W.drop m=ws->st.length+ws.length<=3000->acc.length+ws.length<=3000->(∀a∈st,a.length+ws.length<=3000) ->
 (WL ws st=none->∀δ,Q (.rt .non δ))->(∀l st',WL ws st=some (l,st')->∀m' s4 s5,Q (.nx (sW W st' (acc++l) m' s4 s5)))->oM cx (whC (fV 3 dU.body)) (whB (fV 3 dU.body)) f (sW W st acc m s4 s5) Q
 |0,_,_,_,_,_,_,h,_,_,_,_,_,_=>by lia
 |f+1,[],m,st,acc,s4,s5,_,hd,_,_,_,_,hS=>by
  have hm:=zd.mp hd;refine nv.mpr ⟨false,sW W st acc m s4 s5,?_,?_⟩
  .have:decide ((m:Int)<((W.map D.str).length:Int))=false:=by
    rw[decide_eq_false_iff_not,ak];lia
   rw[<- this];exact bL (x:=.int m) (y:=.int (W.map D.str).length) rfl (eH rfl) rfl
  .show if false=true then _ else _
   rw[if_neg aq];have:=hS [] st rfl m s4 s5
   rwa[bq]at this
 |f+1,w::r,m,st,acc,s4,s5,hf,hd,h1,h2,h3,hN,hS=>by
  simp only[ag]at hf h1 h2 h3
  have hg:W[m]?=some w:=by
   have:(W.drop m)[0]?=some w:=by rw[hd];rfl
   rwa[mG,xH]at this
  have hd':W.drop (m+1)=r:=by rw[<- kU,hd];rfl
  have hm:=(aF.mp hg).1
  have ix:∀{k:Nat}{u:Str}{x y:Sl}{tl:List Sl},W[k]?=some u->evE cx (.ix (.var 0) (.var 3)) (.val (.lst (W.map .str))::x::y::.val (.int k)::tl)=some (.str u,.val (.lst (W.map .str))::x::y::.val (.int k)::tl):=λ{k u x y tl}hk =>
   gp (x:=.lst (W.map .str)) (y:=.int k) rfl rfl (atI_nat (by rw[bH,hk];rfl))
  refine nv.mpr ⟨true,sW W st acc m s4 s5,?_,?_⟩
  .have:decide ((m:Int)<((W.map D.str).length:Int))=true:=by
    rw[decide_eq_true_eq,ak];lia
   rw[<- this];exact bL (x:=.int m) (y:=.int (W.map D.str).length) rfl (eH rfl) rfl
  show if true=true then _ else _
  rw[if_pos rfl];show wSs _ (.cons _ _) _ _;refine bC st.reverse.isEmpty (bL (x:=.lst (st.reverse.map eA)) (y:=.lst []) rfl rfl (eq_nil _)) (λh=>bR .non rfl (hN ?_ _)) λh=>?_
  .cases st with
   |nil=>rfl
   |cons a st=>simp at h
  cases st with
  |nil=>cases h
  |cons a st =>
   simp only[ag]at h1;have ha:=h3 a ay;show wSs _ (.cons _ _) _ _;refine EW (ds:=st.reverse.map eA) (d:=eA a) (by show some (Sl.own ((a::st).reverse.map eA))=_;rw[MF]) (by show 4<6;decide) ?_;show wSs _ (.cons _ _) [.val (.lst (W.map .str)),.own (st.reverse.map eA),.own (acc.map eP),.val (.int m),.val (eA a),s5] _;refine jm (ds:=acc.map eP) (eP (w,a)) (oG (bh (ix hg) (bh (d:=eA a) rfl rfl)) (by show 2<=sizeLine;decide)) rfl (by rw[ak];exact aK (show acc.length<3001 by lia) ⇑0) ?_;have eacc:acc.map eP++[eP (w,a)]=(acc++[(w,a)]).map eP:=by rw[bP];rfl
   rw[eacc];show wSs _ (.cons _ _) [.val (.lst (W.map .str)),.own (st.reverse.map eA),.own ((acc++[(w,a)]).map eP),.val (.int m),.val (eA a),s5] _;refine bC (isB w) (by rw[<- Lg];exact iO (bL (x:=.str w) (y:=.str "all") (ix hg) rfl (eq_str _ _)) (bL (x:=.str w) (y:=.str "some") (ix hg) rfl (eq_str _ _))) (λhB=>?_) λhB=>?_
   .show wSs _ (.cons _ _) _ _;refine rM (x:=.int m) (y:=.int 1) (z:=.int (m+1:Nat)) rfl rfl rfl ?_;show wSs _ (.cons _ _) [.val (.lst (W.map .str)),.own (st.reverse.map eA),.own ((acc++[(w,a)]).map eP),.val (.int (m+1:Nat)),.val (eA a),s5] _
    cases r with
    |nil =>
     have hl':W.length=m+1:=by have:=zd.mp hd';lia
     refine bC true (jy (p:=true) (q:=true) ?_ λz=>by cases z) (λ_=>bR .non rfl (hN (xC hB) _)) λz=>by cases z
     have e:(((m+1:Nat):Int)==((W.map D.str).length:Int))=true:=by rw[ak,hl',beq_self_eq_true]
     rw[<- e]
     exact bL (x:=.int (m+1:Nat)) (y:=.int (W.map D.str).length) rfl (eH rfl) ⋯
    |cons l r =>
     simp only[ag]at hf h1 h2 h3 ha
     have hg2:W[m+1]?=some l:=by
      have:(W.drop (m+1))[0]?=some l:=by rw[hd'];rfl
      rwa[mG,xH]at this
     have hm2:=(aF.mp hg2).1;have ll:=hl l (cY hg2)
     have ec:((((m+1:Nat):Int)==((W.map D.str).length:Int))||(!((l.length:Int)==1)||!uZ LS l))=!cap l:=by
      have:(((m+1:Nat):Int)==((W.map D.str).length:Int))=false:=by
       rw[beq_eq_false_iff_ne,ak];lia
      rw[this,mE,<- Bool.not_and];unfold cap;congr 2;rw[bJ,beq_iff_eq,decide_eq_true_eq]
      lia
     have eb:=tM (r:=r) (a:=a) (st:=st) (l:=l) hB
     refine bC (!cap l) (by
      rw[<- ec];exact iO (bL (x:=.int (m+1:Nat)) (y:=.int (W.map D.str).length) rfl (eH rfl) ⋯) (iO (bL (x:=.int l.length) (y:=.int 1) (gR (bh (ix hg2) rfl) (show(if l.length<=sizeLine then some (D.int l.length)else none)=_ from if_pos ll)) rfl ⋯) (bL (x:=.str l) (y:=.str LS) (ix hg2) rfl rfl))) (λhc=>bR .non rfl (hN (by rw[eb,if_neg (by rw[dc]at hc;rw[hc];exact aq)]) _)) λhc=>?_
     have hc:cap l=true:=by rwa[du]at hc
     rw[if_pos hc]at eb;show wSs _ (.cons _ _) _ _
     have e1:evE cx (.bin .add (.var 4) (.lst (.cons (.ix (.var 0) (.var 3)) .nil))) [.val (.lst (W.map .str)),.own (st.reverse.map eA),.own ((acc++[(w,a)]).map eP),.val (.int (m+1:Nat)),.val (eA a),s5]=some (eA (l::a),[.val (.lst (W.map .str)),.own (st.reverse.map eA),.own ((acc++[(w,a)]).map eP),.val (.int (m+1:Nat)),.val (eA a),s5]):=by
      refine cW (x:=eA a) (y:=.lst [.str l]) rfl ?_ ?_
      .simp only[evE,bh (ix hg2) (show cS cx .nil _=some ([],_)from rfl),ae,ah];exact if_pos (by show 1<=sizeLine;decide)
      .show(if _ then some _ else none)=_;rw[if_pos (by rw[ak,bb];exact aX (show a.length+1<=3001 by lia) ⇑0)];unfold eA;rw[cL,bP];rfl
     refine jm (ds:=st.reverse.map eA) (eA (l::a)) e1 rfl (by rw[ak,bb];exact aK (show st.length<3001 by lia) ⇑0) ?_;rw[<- MF];show wSs _ (.cons _ _) [.val (.lst (W.map .str)),.own (((l::a)::st).reverse.map eA),.own ((acc++[(w,a)]).map eP),.val (.int (m+1:Nat)),.val (eA a),s5] _;have eI:=mh (sS (cx:=cx) (δ:=[.val (.lst (W.map .str)),.own (((l::a)::st).reverse.map eA),.own ((acc++[(w,a)]).map eP),.val (.int (m+1:Nat)),.val (eA a),s5]) (l:=D4) (b:=.int 0) (z:=.int 0) (ix hg2) rfl |>.trans (by rw[IK,LP hc])) ⇑0 ⇑0;refine jl _ eI (lQ.mpr ?_);show wSs _ (.cons _ _) _ _;refine rM (x:=.int (m+1:Nat)) (y:=.int 1) (z:=.int (m+2:Nat)) rfl rfl rfl (dr.mpr ?_);refine vS hl f r (m+2) ((l::a)::st) (acc++[(w,a)]) (.val (eA a)) s5 ∅ (by rw[<- kU,hd'];rfl) (by rw[ag];lia) (by rw[az,cP];lia) (λb hb=>?_) (λz δ=>hN (by rw[eb,z];rfl) δ) λl' st' z m' s4 s5=>?_
     .rcases aA.mp hb with rfl|hb
      .rw[ag];lia
      .have:=h3 b (ao _ hb);lia
     .have:=hS ((w,a)::l') st' (by rw[eb,z];rfl) m' s4 s5
      rwa[cz]
   .have eb:=tL (a:=a) (st:=st) hB r;show wSs _ (.cons _ _) _ _;have eI:=mh (sS (cx:=cx) (δ:=[.val (.lst (W.map .str)),.own (st.reverse.map eA),.own ((acc++[(w,a)]).map eP),.val (.int m),.val (eA a),s5]) (l:=D4) (b:=.int 0) (z:=.int 0) (ix hg) rfl |>.trans (by rw[IK])) (by have:=yX w;lia) (by have:=yX w;lia);have la:=yX w
    have rl:(lq 0 ((ar w:Nat):Int).toNat).length=ar w:=by
     unfold lq;rw[ak,gg]
     lia
    refine jl _ eI (vF (x2:=.non) _ _ _ (by rw[rl,ak,bb];exact aK (show st.length+ar w<3005 by lia) ⇑0) λs5'=>?_);rw[rl]
    have er:st.reverse.map eA++aC (ar w) (eA a)=(aC (ar w) a++st).reverse.map eA:=by
     rw[List.reverse_append,bP,List.reverse_replicate,List.map_replicate]
    rw[er];show wSs _ (.cons _ _) _ _;refine rM (x:=.int m) (y:=.int 1) (z:=.int (m+1:Nat)) rfl rfl rfl (dr.mpr ?_);refine vS hl f r (m+1) (aC (ar w) a++st) (acc++[(w,a)]) (.val (eA a)) s5' ∅ hd' (by rw[az,cQ];lia) (by rw[az,cP];lia) (λb hb=>?_) (λz δ=>hN (by rw[eb,z];rfl) δ) λl' st' z m' s4 s5=>?_
    .rcases cc.mp hb with hb|hb
     .rw[(List.mem_replicate.mp hb).2];lia
     .have:=h3 b (ao _ hb);lia
    .have:=hS ((w,a)::l') st' (by rw[eb,z];rfl) m' s4 s5
     rwa[cz]
section
variable{cx:Cl}{δ δ1 δ2 δ3:PP.Loc}{r:Ss}{Q:Out->Prop}
def Aa{α:Type}{src:PP.It}{elt:E}{i j:Nat}(g1 g2 h:α->D)(xs:List α)(hl:xs.length<=sizeLine)(hi:evI cx src δ=some (xs.map λx=>.tup [g1 x,g2 x],δ1))(hd:i=δ1.length)(hd2:j=δ1.length+1)(he:∀x∈xs,evE cx elt (δ1++[.val (g1 x),.val (g2 x)])=some (h x,δ1++[.val (g1 x),.val (g2 x)])):evE cx (.comp 2 (.tp [i,j]) src .no elt) δ=some (.lst (xs.map h),δ1):=by
 subst hd hd2
 have:wE cx (.comp 2 (.tp [δ1.length,δ1.length+1]) src .no elt) δ λd δ'=>d=.lst (xs.map h)/\δ'=δ1:=by
  refine oo.mpr ⟨_,_,hi,iU (λx=>D.tup [g1 x,g2 x]) (λ_=>true) h xs (λx hx=>?_) ?_⟩
  .refine⟨δ1++[.val (g1 x),.val (g2 x)],?_,true,_,rfl,rfl,?_⟩
   .show(if[δ1.length,δ1.length+1].length=[g1 x,g2 x].length/\[δ1.length,δ1.length+1].all (· < (δ1++aC 2 Sl.no).length)=true then some (([δ1.length,δ1.length+1].zip [g1 x,g2 x]).foldl (λδ p=>δ.set p.1 (.val p.2)) (δ1++aC 2 Sl.no))else none)=_;rw[if_pos ⟨rfl,↥0⟩];simp[eM,aC]
   .rw[if_pos rfl];exact⟨_,_,he x hx,rfl,↥0⟩
  .rw[lK.mpr λ_ _=>rfl,ak];exact⟨hl,rfl,rfl⟩
 obtain⟨_,_,e,rfl,rfl⟩:=this;exact e
def Hm{a:E}{h s:Eo}{ds:List D}{i:Int}(ha:evE cx a δ=some (.lst ds,δ1))(hh:evO cx h δ1=some (some i,δ2))(hs:evO cx s δ2=some (some (-1),δ3))(hi:i<0):evE cx (.rvl a h s) δ=some (.lst (ds.drop (ds.length-(-1-i).toNat)).reverse,δ3):=by
 simp only[evE,ha,hh,hs,ae,ah];exact if_pos ⟨hi,trivial⟩
def DV{op:Op}{a b:E}{x y z:D}(ha:evE cx a δ=some (x,δ1))(hb:evE cx b δ1=some (y,δ2))(h:opD op x y=some z):evE cx (.bin op a b) δ=some (z,δ2):=by
 simp only[evE,ha,hb,h,ae,ah];rfl
def DQ{op:Cop}{a b:E}{x y:D}{p:Bool}(ha:evE cx a δ=some (x,δ1))(hb:evE cx b δ1=some (y,δ2))(h:gu op x y=some p):evT cx (.cmp op a b) δ=some (p,δ2):=by
 simp only[evT,ha,hb,h,ae,ah];rfl
def DU{f:Blt}{e:E}{x z:D}(h:evE cx e δ=some (x,δ1))(hb:gY f [x]=some z):evE cx (.blt f (.cons e .nil)) δ=some (z,δ1):=by
 have:cS cx (.cons e .nil) δ=some ([x],δ1):=by simp only[cS,h,ae,ah];rfl
 simp only[evE,this,hb,ae,ah];rfl
def xh{e:E}{ds:List D}(h:evE cx e δ=some (.lst ds,δ1)):evE cx (.blt .toTup (.cons e .nil)) δ=some (.tup ds,δ1):=by
 simp only[evE,cS,h,ae,ah];rfl
def rL{i:Nat}{e:E}{ds:List D}(h:evE cx e δ=some (.lst ds,δ))(hi:i<δ.length)(q:wSs cx r (δ.set i (.own ds)) Q):wSs cx (.cons (.new i e) r) δ Q :=
 bz.mpr (AU.mpr ⟨_,_,h,ds,rfl,hi,q⟩)
end
def Bu(k:Int):∀(ns:List Int)(n:Int),k<ns.foldl (λa b=>if b>a then b else a) n↔k<n\/∃x∈ns,k<x
 |[],n=>by simp
 |m::ns,n=>by
  rw[hZ,Bu k ns];constructor
  .rintro(h|⟨x,hx,h⟩)
   .split at h
    .exact .inr ⟨m,ay,h⟩
    .exact .inl h
   .exact .inr ⟨x,ao _ hx,h⟩
  .rintro(h|⟨x,hx,h⟩)
   .refine .inl ?_;split<;>lia
   .rcases aA.mp hx with rfl|hx
    .refine .inl ?_;split<;>lia
    .exact .inr ⟨x,hx,h⟩
def HM{w:Str}{r a:List Str}{st st':List (List Str)}{l:List (Str×List Str)}(h:WL (w::r) (a::st)=some (l,st')):l≠[]:=by
 rintro rfl
 cases hB:isB w with
 |false =>
  rw[tL hB]at h;obtain⟨p,_,e⟩:=aj.mp h
  cases e
 |true =>
  cases r with
  |nil=>rw[xC hB]at h;cases h
  |cons x r =>
   rw[tM hB]at h;split at h
   .obtain⟨p,_,e⟩:=aj.mp h;cases e
   .cases h
def vG:∀(n:Nat)(ws:List Str)(st st':List (List Str))(l:List (Str×List Str)),ws.length<n->WL ws st=some (l,st')->l.length<=ws.length/\∀p∈l,p.1∈ws:=λn=>by
 induction n with
 |zero=>intro ws st st' l h;lia
 |succ n ih =>
  intro ws st st' l h e
  cases ws with
  |nil=>cases e;exact⟨aD _,λp hp=>by cases hp⟩
  |cons w r =>
   cases st with
   |nil=>unfold WL at e;simp only[wl]at e;cases e
   |cons a st =>
    simp only[ag]at h
    cases hB:isB w with
    |false =>
     rw[tL hB]at e;obtain⟨p,e1,e2⟩:=aj.mp e;cases e2;obtain⟨h1,h2⟩:=ih r _ _ p.1 ∅ e1;refine⟨by simp only[ag];lia,λq hq=>?_⟩;rcases aA.mp hq with rfl|hq
     .exact ay
     .exact ao _ (h2 q hq)
    |true =>
     cases r with
     |nil=>rw[xC hB]at e;cases e
     |cons x r =>
      rw[tM hB]at e;split at e
      .obtain⟨p,e1,e2⟩:=aj.mp e;cases e2;obtain⟨h1,h2⟩:=ih r _ _ p.1 (by simp only[ag]at h;lia) e1;refine⟨by simp only[ag];lia,λq hq=>?_⟩;rcases aA.mp hq with rfl|hq
       .exact ay
       .exact ao _ (ao _ (h2 q hq))
      .cases e
def wlk(W:List Str):Option (List (Str×List Str)):=(wk isB cap ar W [[]]).bind λl=>if 40<l.length then none else some l
def oL:Option (List (Str×List Str))->D
 |some l=>.lst (l.map eP)
 |none=>.non
def Cj(n:Nat)(w:Str)(r:List Str)(hl:∀v∈w::r,v.length<=sizeLine)(hn:(w::r).length<999):PP.run Gs gls (n+1) 21 [.lst ((w::r).map .str)]=some (oL (wlk (w::r))):=by
 apply dq;refine bU dU rfl rfl rfl ?_;simp only[dU,init,SI,Nat.reduceAdd,Nat.reduceSub];refine jk 3 (sW (w::r) [[]] [] 0 .no .no) ⋯ ?_
 have ek:wlk (w::r)=((WL (w::r) [[]]).bind ends).bind λl=>if 40<l.length then none else some l:=by
  unfold wlk;rw[um 1000 (w::r) [[]] ∅];rfl
 show wSs _ (.cons _ _) _ _;refine bz.mpr (ur.mpr (vS (f:=1000) hl (w::r) 0 [[]] [] .no .no ∅ rfl (by rw[cP];lia) (by rw[aL];lia) (λa ha=>by rw[bX.mp ha,aL];lia) (λe δ=>?_) λl st' e m' s4 s5=>?_))
 .show D.non=_;rw[ek,e];rfl
 rw[ek,e,ah,hU];have hne:=HM e
 have hlen:l.length<=3000:=by
  have:=(vG 1000 (w::r) _ _ _ ∅ e).1
  lia
 show wSs _ (.cons _ _) _ _;have p1:evT ⟨PP.run Gs gls n,gls,hfs Gs⟩ (.cmp .ne (.pk 1) (.lst .nil)) (sW (w::r) st' l m' s4 s5)=some (!st'.reverse.isEmpty,sW (w::r) st' l m' s4 s5):=bL (x:=.lst (st'.reverse.map eA)) (y:=.lst []) rfl rfl (ne_nil _);have p2:evT ⟨PP.run Gs gls n,gls,hfs Gs⟩ (.cmp .gt (.blt .len (.cons (.pk 2) .nil)) (.int 40)) (sW (w::r) st' l m' s4 s5)=some (decide ((40:Int)<((l.map eP).length:Int)),sW (w::r) st' l m' s4 s5):=bL (x:=.int (l.map eP).length) (y:=.int 40) (eH rfl) rfl rfl;rw[show ends (l,st')=if st'=[]/\qg l=true then some l else none from rfl]
 cases st' with
 |cons a st' =>
  rw[if_neg λz=>by cases z.1];refine bC true (jy (p:=true) (q:=true) ?_ λz=>by cases z) (λ_=>bR .non rfl rfl) λz=>by cases z
  rw[p1]
  simp
 |nil =>
  by_cases h40:40<l.length
  .have:(Option.bind (if([]:List (List Str))=[]/\qg l=true then some l else none) λl=>if 40<l.length then none else some l)=none:=by
    split
    .exact if_pos h40
    .rfl
   refine bC (false||(true||false)) (jy p1 λ_=>jy (p:=true) (q:=false) ?_ λz=>by cases z) (λ_=>bR .non rfl ?_) λz=>by cases z
   .rw[p2,decide_eq_true (by rw[ak];lia)]
   .show D.non=_;rw[this];rfl
  .have p2':=p2;rw[decide_eq_false (by rw[ak];lia)]at p2'
   have cmpE:evE ⟨PP.run Gs gls n,gls,hfs Gs⟩ (.comp 2 (.tp [6,7]) (.sq (.var 2)) .no (.blt .len (.cons (.var 7) .nil))) (sW (w::r) [] l m' s4 s5)=some (.lst (l.map λp=>.int (p.2.length:Nat)),[.val (.lst ((w::r).map .str)),.own [],.val (.lst (l.map eP)),.val (.int m'),s4,s5]) :=
    Aa (δ1:=[.val (.lst ((w::r).map .str)),.own [],.val (.lst (l.map eP)),.val (.int m'),s4,s5]) (λp:Str×List Str=>.str p.1) (λp=>eA p.2) (λp=>.int (p.2.length:Nat)) l (aX hlen ⇑0) rfl rfl rfl λp _=>by
     have:=eH (cx:=⟨PP.run Gs gls n,gls,hfs Gs⟩) (e:=.var 7) (δ:=[.val (.lst ((w::r).map .str)),.own [],.val (.lst (l.map eP)),.val (.int m'),s4,s5]++[.val (.str p.1),.val (eA p.2)]) (ds:=p.2.reverse.map .str) rfl;rw[ak,bb]at this;exact this
   obtain⟨p,l',rfl⟩:=List.exists_cons_of_ne_nil hne
   have mx:gY .max [.lst ((p::l').map λp=>.int (p.2.length:Nat))]=some (.int ((l'.map λp=>(p.2.length:Int)).foldl (λa b=>if b>a then b else a) (p.2.length:Int))):=by
    show(md _).bind _=_;rw[ints_map (λp:Str×List Str=>(p.2.length:Int)),ah,aw,if_neg ↥0];rfl
   have sh:qg (p::l')=!decide ((10:Int)<(l'.map λp=>(p.2.length:Int)).foldl (λa b=>if b>a then b else a) (p.2.length:Int)):=by
    rw[bJ,dc,decide_eq_false_iff_not,Bu,qg,bK];constructor
    .rintro h (h1|⟨x,hx,h1⟩)
     .have:=of_decide_eq_true (h p ay);lia
     .obtain⟨q,hq,rfl⟩:=cE.mp hx;have:=of_decide_eq_true (h q (ao _ hq));lia
    .intro h q hq;rw[decide_eq_true_eq];refine tV.mp λz=>h ?_;rcases aA.mp hq with rfl|hq
     .exact .inl ∅
     .exact .inr ⟨_,cE.mpr ⟨q,hq,rfl⟩,∅⟩
   generalize hb:decide ((10:Int)<(l'.map λp=>(p.2.length:Int)).foldl (λa b=>if b>a then b else a) (p.2.length:Int))=b at sh;refine bz.mpr (oN.mpr ⟨b,[.val (.lst ((w::r).map .str)),.own [],.val (.lst ((p::l').map eP)),.val (.int m'),s4,s5],?_,?_⟩)
   .have p3:evT ⟨PP.run Gs gls n,gls,hfs Gs⟩ (.cmp .gt (.blt .max (.cons (.comp 2 (.tp [6,7]) (.sq (.var 2)) .no (.blt .len (.cons (.var 7) .nil))) .nil)) (.int 10)) (sW (w::r) [] (p::l') m' s4 s5)=some (b,[.val (.lst ((w::r).map .str)),.own [],.val (.lst ((p::l').map eP)),.val (.int m'),s4,s5]):=by
     rw[<- hb];exact DQ (DU cmpE mx) rfl rfl
    simp only[evT,ae]at p1 p2' p3 |-;rw[p1];simp only[ah,List.reverse_nil,List.isEmpty_nil,ug,cI,if_false];rw[p2'];simp only[ah,cI,if_false];exact p3
   .rw[sh]
    cases b with
    |true =>
     show if true=true then _ else _
     rw[if_pos rfl,if_neg ↥0]
     exact bR .non rfl rfl
    |false =>
     show if false=true then _ else _
     rw[if_neg aq,if_pos ⟨rfl,rfl⟩,ah,if_neg h40];exact dr.mpr (bR (.lst ((p::l').map eP)) rfl rfl)
def BD:List (Str×List Str)->Option (List F):=bd isB ar lf nd
def ary(w:Str):Nat:=if isB w=true then 1 else ar w
def WN:List (Str×List Str)->Nat->Prop:=Wn isB ar
def tP{l:List (Str×List Str)}(h:BD l=none):∀pre,BD (pre++l)=none
 |[]=>h
 |(w,a)::pre=>by
  show(BD (pre++l)).bind _=none;rw[tP h pre];rfl
def Ex{l:List (Str×List Str)}:∀(pre:List (Str×List Str))(n:Nat),WN (pre++l) n->∃k,WN l k
 |[],n,h=>⟨n,h⟩
 |_::pre,n,h=>by
  obtain⟨k,_,h⟩:=h;exact Ex pre _ h
def D6:List (Str×Int):=[("not",1),("all",1),("some",1),("and",2),("or",2),("if",2)]
def sL{w:Str}(h:w∉res):isB w=false:=decide_eq_false λm=>h (by
 simp only[bns,aA,bQ,or_false]at m;rcases m with rfl|rfl<;>decide)
def Nz(w:Str):((D6.lookup w).map D.int).getD (.int 0)=.int (ary w):=by
 by_cases h:w∈res
 .exact mQ (P:=λw=>((D6.lookup w).map D.int).getD (.int 0)=.int (ary w)) h ⋯ ⋯ ⋯ ⋯ ⋯ ⋯ ⋯ ⋯
 .have n:=sf h
  have e:D6.lookup w=none:=by
   simp only[D6,bp,n "not" ⇑0,n "and" ⇑0,n "or" ⇑0,n "if" ⇑0,n "all" ⇑0,n "some" ⇑0,kl]
  unfold ary ar;rw[e,qz h,sL h];rfl
def kinds(w:Str):(ary w=0/\isB w=false/\ar w=0/\((w=="yes"||w=="no")=false->∀a,lf w a=wrd w a))\/(ary w=1/\(w=="yes"||w=="no")=false/\(∀A,enc (nd w [A])=.tup [.str w,enc A])/\((isB w=true)\/(isB w=false/\ar w=1)))\/(ary w=2/\(w=="yes"||w=="no")=false/\(∀A C,enc (nd w [A,C])=.tup [.str w,enc A,enc C])/\isB w=false/\ar w=2):=by
 have lw:(w=="yes"||w=="no")=false->∀a,lf w a=wrd w a:=λh a=>by
  rw[gP,beq_eq_false_iff_ne,beq_eq_false_iff_ne]at h;unfold lf;rw[if_neg h.1,if_neg h.2]
 by_cases h:w∈res
 .revert lw
  refine mQ (P:=λw=>((w=="yes"||w=="no")=false->∀a,lf w a=wrd w a)->(ary w=0/\isB w=false/\ar w=0/\((w=="yes"||w=="no")=false->∀a,lf w a=wrd w a))\/(ary w=1/\(w=="yes"||w=="no")=false/\(∀A,enc (nd w [A])=.tup [.str w,enc A])/\((isB w=true)\/(isB w=false/\ar w=1)))\/(ary w=2/\(w=="yes"||w=="no")=false/\(∀A C,enc (nd w [A,C])=.tup [.str w,enc A,enc C])/\isB w=false/\ar w=2)) h (λlw=>.inl ⟨⋯,⋯,⋯,lw⟩) (λlw=>.inl ⟨⋯,⋯,⋯,lw⟩) (λ_=>.inr (.inl ⟨⋯,⋯,λA=>congrArg enc (show nd "not" [A]=.neg A by kernel_rfl),.inr ⟨⋯,⋯⟩⟩))
   (λ_=>.inr (.inr ⟨⋯,⋯,λA C=>congrArg enc (show nd "and" [A,C]=.bi .and A C by kernel_rfl),⋯,⋯⟩)) (λ_=>.inr (.inr ⟨⋯,⋯,λA C=>congrArg enc (show nd "or" [A,C]=.bi .or A C by kernel_rfl),⋯,⋯⟩)) (λ_=>.inr (.inr ⟨⋯,⋯,λA C=>congrArg enc (show nd "if" [A,C]=.bi .imp A C by kernel_rfl),⋯,⋯⟩))
   (λ_=>.inr (.inl ⟨⋯,⋯,λA=>DY ⋯ A,.inl ⋯⟩)) (λ_=>.inr (.inl ⟨⋯,⋯,λA=>DY ⋯ A,.inl ⋯⟩))
 .refine .inl ⟨?_,sL h,?_,lw⟩
  .unfold ary ar;rw[sL h,qz h];rfl
  .unfold ar;rw[qz h]
def oI{w:Str}{a:List Str}{l:List (Str×List Str)}{st:List F}(hB:isB w=false)(ha:ar w=0)(h:BD l=some st):BD ((w,a)::l)=(lf w a).map (·::st):=by
 show(BD l).bind _=_;rw[h,ah,if_neg (by rw[hB];exact aq)];simp only[ha]
def EA{w:Str}{a:List Str}{l:List (Str×List Str)}{A:F}{st:List F}(hB:isB w=true\/(isB w=false/\ar w=1))(h:BD l=some (A::st)):BD ((w,a)::l)=some (nd w [A]::st):=by
 show(BD l).bind _=_;rw[h,ah];rcases hB with hB|⟨hB,ha⟩
 .rw[if_pos hB]
 .rw[if_neg (by rw[hB];exact aq)];simp only[ha]
def Ez{w:Str}{a:List Str}{l:List (Str×List Str)}{A C:F}{st:List F}(hB:isB w=false)(ha:ar w=2)(h:BD l=some (A::C::st)):BD ((w,a)::l)=some (nd w [A,C]::st):=by
 show(BD l).bind _=_;rw[h,ah,if_neg (by rw[hB];exact aq)];simp only[ha]
def Ey:∀{l:List (Str×List Str)}{k:Nat}{st:List F},WN l k->BD l=some st->st.length=k
 |[],k,st,h,e=>by
  cases e
  exact(show k=0 from h).symm
 |(w,a)::l,k,st,h,e=>by
  obtain⟨k,rfl,h⟩:=h
  cases e0:BD l with
  |none=>rw[show(w,a)::l=[(w,a)]++l from rfl,tP e0]at e;cases e
  |some s0 =>
   have ih:=Ey h e0;have hk:s0.length=ary w+k:=ih;rcases kinds w with⟨h1,h2,h3,_⟩|⟨h1,_,_,h3⟩|⟨h1,_,_,h3,h4⟩
   .rw[oI h2 h3 e0]at e;obtain⟨A,_,rfl⟩:=aj.mp e;rw[ag];lia
   .match s0,hk with
    |[],hk=>rw[aL]at hk;lia
    |A::s1,hk =>
     rw[EA h3 e0]at e;cases e;simp only[ag]at hk |-
     lia
   .match s0,hk with
    |[],hk=>rw[aL]at hk;lia
    |[_],hk=>simp only[ag,aL]at hk;lia
    |A::C::s1,hk =>
     rw[Ez h3 h4 e0]at e;cases e;simp only[ag]at hk |-
     lia
def Hv{ds:List D}{s:Nat}(h:s<=ds.length)(h0:0<s):slD (.lst ds) none (some (-(s:Int)))=some (.lst (ds.take (ds.length-s))):=by
 show some (D.lst ((ds.drop (HT.sIx ds.length 0 none)).take (HT.sIx ds.length ds.length (some (-(s:Int)))-HT.sIx ds.length 0 none)))=_
 have e:HT.sIx ds.length ds.length (some (-(s:Int)))=ds.length-s:=by
  show(if(-(s:Int))<0 then(-(s:Int)+(ds.length:Int)).toNat else _)=_;rw[if_pos ∅]
  lia
 rw[e,HT.sIx_none,gh,xG]
def due(l:List (Str×List Str)):Option F:=(BD l).bind List.head?
noncomputable abbrev sB(tx:D)(l:List (Str×List Str))(w:Str)(a:List Str)(s2 s5 s6:Sl):PP.Loc:=[.val tx,.val (.lst (l.map eP)),s2,.val (.str w),.val (eA a),s5,s6]
def fB:Ss->Ss
 |.cons (.for_ _ _ b) _=>b
 |_=>.nil
def LN{N:Nat}{tx:D}{l:List (Str×List Str)}{w:Str}{a:List Str}{st:List F}{s5 s6:Sl}{Q:Out->Prop}(ha:a.length<=10)(hw:w.length<sizeLine)(hs:ary w<=st.length)(hs2:st.length<=1000)
 (q0:isB w=false->ar w=0->lf w a=none->∀δ,Q (.rt .non δ))(q1:∀st' s5 s6,(∀l',BD l'=some st->BD ((w,a)::l')=some st')->Q (.nx (sB tx l w a (.own (st'.reverse.map enc)) s5 s6))) :
 wSs ⟨PP.run Gs gls (N+3),gls,hfs Gs⟩ (fB (fV 3 eS.body)) (sB tx l w a (.own (st.reverse.map enc)) s5 s6) Q:=by
 show wSs _ (.cons _ _) _ _;refine eh _ (sS (l:=D6) (x:=w) (z:=.int 0) ⋯ ⋯) ⟨_,rfl,?_⟩;rw[Nz];show wSs _ (.cons _ _) (sB tx l w a (.own (st.reverse.map enc)) (.val (.int (ary w))) s6) _
 -- the end: s is looked at,and put on
 have fin:∀(o:Option F)(s0:List F)(s5:Sl),s0.length<=1000->(o=none->∀δ,Q (.rt .non δ))->(∀A,o=some A->∀l',BD l'=some st->BD ((w,a)::l')=some (A::s0))->wSs ⟨PP.run Gs gls (N+3),gls,hfs Gs⟩ (fV 2 (fB (fV 3 eS.body))) (sB tx l w a (.own (s0.reverse.map enc)) s5 (.val (oF o))) Q:=λo s0 s5 hl h0 h1=>by
  show wSs _ (.cons _ _) _ _
  cases o with
  |none=>exact bC true ⋯ (λ_=>bR .non rfl (h0 rfl _)) λz=>by cases z
  |some A =>
   refine bC false (by cases A<;>kernel_rfl) (λz=>by cases z) λ_=>?_;show wSs _ (.cons _ _) _ _;refine jm (ds:=s0.reverse.map enc) (enc A) ⋯ rfl (by rw[ak,bb];exact cJ hl ⇑0) (dr.mpr ?_);have e:s0.reverse.map enc++[enc A]=(A::s0).reverse.map enc:=by rw[cL,bP];rfl
   rw[e];exact q1 (A::s0) s5 (.val (enc A)) (h1 A rfl)
 refine bC (w=="yes"||w=="no") (iO (bL (x:=.str w) (y:=.str "yes") ⋯ ⋯ (eq_str _ _)) (bL (x:=.str w) (y:=.str "no") ⋯ ⋯ (eq_str _ _))) (λhy=>?_) λhy=>?_
 .show wSs _ (.cons _ _) _ _;refine eh (.tup [.str w]) ⋯ ⟨_,rfl,?_⟩
  obtain⟨A,hA,hE,hB,h0⟩:∃A,(∀a,lf w a=some A)/\enc A=.tup [.str w]/\isB w=false/\ar w=0:=by
   rw[bF]at hy;rcases hy with hy|hy
   .rw[eq_of_beq hy];exact⟨.yes,λa=>if_pos rfl,rfl,⋯,⋯⟩
   .rw[eq_of_beq hy];exact⟨.no,λa=>(if_neg ⇑0).trans (if_pos rfl),rfl,⋯,⋯⟩
  have:=fin (some A) st (.val (.int (ary w))) hs2 (λz=>by cases z) λA' e l' hl'=>by
   cases e;rw[oI hB h0 hl',hA];rfl
  rw[show oF (some A)=.tup [.str w]from hE]at this;exact this
 .show wSs _ (.cons _ _) _ _;rcases kinds w with⟨h1,hB,h3,h4⟩|⟨h1,_,h3,h4⟩|⟨h1,_,h3,h4,h5⟩
  .refine bC true (by rw[h1];kernel_rfl) (λ_=>?_) λz=>by cases z
   show wSs _ (.cons _ _) _ _;have rw1:=Ge N w a.reverse (by rw[bb];exact ha) hw;rw[fh]at rw1;refine iS [.str w,eA a] ⋯ ((lN rw1).mpr ⟨_,rfl,?_⟩)
   exact fin (wrd w a) st (.val (.int (ary w))) hs2 (λz=>q0 hB h3 (by rw[h4 hy];exact z)) λA e l' hl'=>by
    rw[oI hB h3 hl',h4 hy,e];rfl
  all_goals
   have hp:∀s:Nat,s=ary w->0<s->wSs ⟨PP.run Gs gls (N+3),gls,hfs Gs⟩ (fV 2 (fB (fV 3 eS.body))) (sB tx l w a (.own ((st.drop s).reverse.map enc)) (.val (.int (ary w))) (.val (.tup (.str w::(st.take s).map enc)))) Q->wSs ⟨PP.run Gs gls (N+3),gls,hfs Gs⟩ (.cons (.asg (.nm 6) (.bin .add (.tup (.cons (.var 3) .nil)) (.blt .toTup (.cons (.rvl (.var 2) (.yes (.bin .sub (.neg (.int 1)) (.var 5))) (.yes (.neg (.int 1)))) .nil)))) (.cons (.new 2 (.sl (.pk 2) .no (.yes (.neg (.var 5))))) (fV 2 (fB (fV 3 eS.body))))) (sB tx l w a (.own (st.reverse.map enc)) (.val (.int (ary w))) s6) Q:=λs es h0 q=>by
    rw[<- es]at hs q |-
    have e1:evE ⟨PP.run Gs gls (N+3),gls,hfs Gs⟩ (.rvl (.var 2) (.yes (.bin .sub (.neg (.int 1)) (.var 5))) (.yes (.neg (.int 1)))) (sB tx l w a (.own (st.reverse.map enc)) (.val (.int s)) s6)=some (.lst ((st.take s).map enc),(sB tx l w a (.val (.lst (st.reverse.map enc))) (.val (.int s)) s6)):=by
     refine(Hm (ds:=st.reverse.map enc) (i:=-1-(s:Int)) (δ1:=(sB tx l w a (.val (.lst (st.reverse.map enc))) (.val (.int s)) s6)) (δ2:=(sB tx l w a (.val (.lst (st.reverse.map enc))) (.val (.int s)) s6)) (δ3:=(sB tx l w a (.val (.lst (st.reverse.map enc))) (.val (.int s)) s6)) ⋯ ⋯ ⋯ ∅).trans ?_;congr 3;rw[show(-1-(-1-(s:Int))).toNat=s by lia,ak,bb,<- gL,<- ER,EH,fh,bb];congr 2
     lia
    refine bz.mpr (gG.mpr ⟨.tup (.str w::(st.take s).map enc),_,DV (x:=.tup [.str w]) (y:=.tup ((st.take s).map enc)) ⋯ (xh e1) ?_,_,rfl,?_⟩)
    .show(if _ then some _ else none)=_;rw[if_pos (by show 1+_<=_;rw[ak,bw];exact aX (show 1+min s st.length<=1001 by lia) ⇑0)];rfl
    .have e2:(st.reverse.map enc).take ((st.reverse.map enc).length-s)=(st.drop s).reverse.map enc:=by
      rw[ak,bb,<- gK,EH]
     refine rL (ds:=(st.drop s).reverse.map enc) (fm (x:=.lst (st.reverse.map enc)) (l:=none) (h:=some (-(s:Int))) ⋯ rfl ⋯ ?_) (by show 2<7;decide) q;rw[<- e2];exact Hv (by rw[ak,bb];exact hs) h0
  .refine bC false (by rw[h1];kernel_rfl) (λz=>by cases z) λ_=>?_;rw[h1]at hs
   cases st with
   |nil=>rw[aL]at hs;lia
   |cons A s1 =>
    rw[ag]at hs2;refine hp 1 h1.symm ⇑0 ?_
    have:=fin (some (nd w [A])) s1 (.val (.int (ary w))) ∅ (λz=>by cases z) λA' e l' hl'=>by
     cases e;exact EA h4 hl'
    rw[show oF (some (nd w [A]))=.tup [.str w,enc A]from h3 A]at this;exact this
  .refine bC false (by rw[h1];kernel_rfl) (λz=>by cases z) λ_=>?_;rw[h1]at hs
   match st,hs,hs2 with
   |[],hs,_=>rw[aL]at hs;lia
   |[_],hs,_=>simp only[ag,aL]at hs;lia
   |A::C::s1,hs,hs2 =>
    simp only[ag]at hs2;refine hp 2 h1.symm ⇑0 ?_
    have:=fin (some (nd w [A,C])) s1 (.val (.int (ary w))) ∅ (λz=>by cases z) λA' e l' hl'=>by
     cases e;exact Ez h4 h5 hl'
    rw[show oF (some (nd w [A,C]))=.tup [.str w,enc A,enc C]from h3 A C]at this;exact this
def IQ:∀{l:List (Str×List Str)}{n:Nat},WN l n->n<=l.length
 |[],n,h=>kj (show n=0 from h)
 |(w,a)::l,n,h=>by
  obtain⟨k,rfl,h⟩:=h;have:=IQ (show WN l _ from h);rw[ag]
  lia
def AK{W:List Str}{l:List (Str×List Str)}(hn:W.length<999)(h:wlk W=some l):l.length<=40/\qg l=true/\WN l 1/\∀p∈l,p.1∈W:=by
 unfold wlk at h;rw[um 1000 W [[]] ∅]at h;obtain⟨l0,h1,h2⟩:=af.mp h;obtain⟨⟨l1,st⟩,h3,h4⟩:=af.mp h1;split at h2
 .cases h2
 cases h2;unfold ends at h4;split at h4
 .rename_i hc;cases h4;obtain⟨hs,hd⟩:=hc;have hs:st=[]:=hs;subst hs;exact⟨∅,hd,xO 1000 W [[]] _ ∅ h3,(vG 1000 W [[]] [] _ ∅ h3).2⟩
 .cases h4
def MJ(n:Nat)(t:Str)(ht:t.length<sizeLine)(hb:(spl 32 t).length<999):PP.run Gs gls (n+5) 22 [.str t]=some (oF ((wlk (spl 32 t)).bind due)):=by
 apply dq;refine bU eS rfl rfl rfl ?_;simp only[eS,init,SI,Nat.reduceAdd,Nat.reduceSub];have hW:∀v∈spl 32 t,v.length<=t.length:=λv hv=>we hv;have ms:=m_split (x:=t) pS ⇑0 ht
 obtain⟨w,r,es⟩:∃w r,spl 32 t=w::r:=by
  obtain⟨w,ws,e⟩:=ic 32 (cs t);exact⟨sO w,ws.map sO,by unfold spl;rw[e];rfl⟩
 rw[es]at ms hb hW |-;have rw1:=Cj (n+3) w r (λv hv=>cG (cJ (hW v hv) ht)) hb;refine iS [.lst ((w::r).map .str)] (bh (jz (x:=.str t) (y:=.str " ") ⋯ ⋯ ms) rfl) ((lN rw1).mpr ⟨_,rfl,?_⟩);show wSs _ (.cons _ _) [.val (.str t),.val (oL (wlk (w::r))),.no,.no,.no,.no,.no] _
 cases e:wlk (w::r)with
 |none=>exact bC true ⋯ (λ_=>bR .non rfl rfl) λz=>by cases z
 |some l =>
  obtain⟨k1,k2,k3,k4⟩:=AK hb e;refine bC false ⋯ (λz=>by cases z) λ_=>?_;show wSs _ (.cons _ _) _ _;refine rL (ds:=[]) ⋯ (by show 2<7;decide) ?_;show wSs _ (.cons _ _) [.val (.str t),.val (.lst (l.map eP)),.own [],.no,.no,.no,.no] _;refine jl ((l.map eP).reverse) ⋯ ?_;rw[<- ER];refine iT eP (λrest δ=>∃pre suf st s3 s4 s5 s6,rest=pre.reverse/\l=pre++suf/\BD suf=some st/\δ=[.val (.str t),.val (.lst (l.map eP)),.own (st.reverse.map enc),s3,s4,s5,s6]) ?_ ?_ l.reverse _ ⟨l,[],[],.no,.no,.no,.no,rfl,↥0,rfl,rfl⟩
  .rintro⟨v,a⟩ rest δ ⟨pre,suf,st,s3,s4,s5,s6,hr,hl,hd,rfl⟩
   have hp:pre=rest.reverse++[(v,a)]:=by
    have:=congrArg List.reverse hr;rw[fh,cL]at this;exact this.symm
   have hl':l=rest.reverse++(v,a)::suf:=by rw[hl,hp,cz];rfl
   have hm:(v,a)∈l:=by rw[hl'];simp
   obtain⟨k,hk⟩:=Ex rest.reverse 1 (by rw[<- hl'];exact k3);obtain⟨k',rfl,hk'⟩:=hk;have hs:st.length=ary v+k':=Ey (show WN suf _ from hk') hd;have hsl:=IQ (show WN suf (ary v+k')from hk')
   have hsuf:suf.length<=40:=by
    rw[hl',az,ag]at k1;lia
   have ha:a.length<=10:=of_decide_eq_true (bK.mp k2 _ hm);refine⟨[.val (.str t),.val (.lst (l.map eP)),.own (st.reverse.map enc),.val (.str v),.val (eA a),s5,s6],⋯,LN (N:=n+1) ha (cJ (hW _ (k4 _ hm)) ht) ∅ ∅ (λhB h0 hf δ=>?_) λst' s5 s6 h=>?_⟩
   .show D.non=_
    have:BD l=none:=by
     rw[hl'];refine tP ?_ _;rw[oI hB h0 hd,hf];rfl
    rw[ah];unfold due;rw[this];rfl
   .exact⟨rest.reverse,(v,a)::suf,st',_,_,_,_,(fh _).symm,hl',h suf hd,rfl⟩
  .rintro δ ⟨pre,suf,st,s3,s4,s5,s6,hr,hl,hd,rfl⟩
   have hp:pre=[]:=by
    have:=congrArg List.reverse hr;rw[fh]at this;exact this.symm
   subst hp;have hl:l=suf:=hl;subst hl;have hs:=Ey k3 hd
   match st,hs,hd with
   |[A],_,hd =>
    show wSs _ (.cons _ _) _ _;refine bR (enc A) ⋯ ?_;show enc A=_;rw[ah];unfold due;rw[hd]
    rfl
   |_::_::_,hs,_=>simp only[ag]at hs;lia
def Fo(t:Str)(hb:(spl 32 t).length<999):stm t=(wlk (spl 32 t)).bind due:=by
 unfold stm bnd;generalize spl 32 t=ws at *;have key:=AL (lf:=lf) (nd:=nd) (isB:=isB) (cap:=cap) (ar:=ar) (ws.length+1) ws [[]] yX ∅;rw[fE]at key
 have nd1:∀(w:Str)(A:F),sz (nd w [A])=1+sz A:=λw A=>by
  show sz (if w="all" then F.q true A else if w="some" then F.q false A else F.neg A)=_;split
  .simp only[sz];lia
  split<;>(simp only[sz];lia)
 have nd2:∀(w:Str)(A C:F),sz (nd w [A,C])=1+sz A+sz C:=λw A C=>by
  show sz (if w="and" then F.bi .and A C else if w="or" then F.bi .or A C else F.bi .imp A C)=_;split
  .simp only[sz];lia
  split<;>(simp only[sz];lia)
 have lf1:∀(w:Str)(a:List Str)(A:F),lf w a=some A->sz A=1:=λw a A h=>by
  unfold lf at h;split at h
  .cases h;rfl
  split at h
  .cases h;rfl
  unfold wrd nS at h;split at h
  .split at h
   .cases h;rfl
   .cases h
  .split at h
   .obtain⟨ts,_,rfl⟩:=aj.mp h;rfl
   .cases h
 have key:(wk isB cap ar ws [[]]).bind BD=(RD (ws.length+1) [] ws).bind λp=>if p.2=[]then some [p.1]else none:=by
  refine key.trans ?_;show(RD (ws.length+1) [] ws).bind _=_;congr 1
  funext p
  show(fK _ (Option.bind (some ([],p.2)) _))=_;rw[ah];dsimp only;split<;>rfl
 unfold wlk
 cases eR:RD (ws.length+1) [] ws with
 |none =>
  rw[eR,fg]at key;rw[fg,fg,ite_self]
  cases eX:wk isB cap ar ws [[]]with
  |none=>rfl
  |some l =>
   rw[eX,ah]at key;rw[ah];split
   .rfl
   .rw[ah];unfold due;rw[key];rfl
 |some p =>
  rw[eR,ah]at key;rw[ah];by_cases hp:p.2=[]
  .rw[if_pos hp]at key;obtain⟨l,eX,eB⟩:=af.mp key;have hz:=yV (pz:=sz) nd1 nd2 lf1 (show bd isB ar lf nd l=some [p.1]from eB);simp only[aw,dm,aW,List.sum_nil]at hz;have hw:=oK eX;rw[eX,ah];by_cases h40:40<l.length
   .rw[if_pos (by lia:40<sz p.1),if_pos h40];split<;>rfl
   .rw[if_neg (by lia:¬40<sz p.1),if_neg h40,if_neg ∅,ah,ah,if_pos hp];unfold due;rw[eB];rfl
  .rw[if_neg hp]at key
   have e1:(if 100<ws.length then none else(if 40<sz p.1 then none else some p).bind λp=>if p.2=[]then some p.1 else none)=(none:Option F):=by
    split
    .rfl
    split
    .rfl
    .rw[ah,if_neg hp]
   rw[e1]
   cases eX:wk isB cap ar ws [[]]with
   |none=>rfl
   |some l =>
    rw[eX,ah]at key;rw[ah];split
    .rfl
    .rw[ah];unfold due;rw[key];rfl
def rdD:Option D->D
 |some x=>.lst [x]
 |none=>.non
def Cm{n:Nat}{d:D}:∀{o:Option D},Ans n 11 35 [d] o->PP.run Gs gls (n+1) 25 [d]=some (rdD o)
 |none,A=>by
  apply dq;refine bU d__law_read rfl rfl rfl ?_;simp only[d__law_read,init,SI,Nat.reduceAdd,Nat.reduceSub];refine jk 2 [.val d,.val .non,.val .non,.no] ⋯ ?_;show wSs _ (.cons (.opq (kP ups kr__law_read 1 3 kp__law_read kk__law_read)) .nil) _ _;obtain⟨r,er,q⟩:wRs ⟨PP.run Gs gls n,gls,hfs Gs⟩ kr__law_read [.val d,.val .non,.val .non,.no] λr=>r=.inr ("NoText",[.val d,.val .non,.val .non,.no]):=ko (as:=[d]) ⋯ A (λ_=>rfl) λx hx _=>by cases hx
  refine bz.mpr ⟨.rt .non [.val d,.no,.val .non,.no],?_,rfl⟩;show kP _ _ _ _ _ _ _ _=_;unfold kP;rw[er,q]
  kernel_rfl
 |some x,A=>by
  apply dq;refine bU d__law_read rfl rfl rfl ?_;simp only[d__law_read,init,SI,Nat.reduceAdd,Nat.reduceSub];refine jk 2 [.val d,.val .non,.val .non,.no] ⋯ ?_;show wSs _ (.cons (.opq (kP ups kr__law_read 1 3 kp__law_read kk__law_read)) .nil) _ _
  obtain⟨r,er,q⟩:wRs ⟨PP.run Gs gls n,gls,hfs Gs⟩ kr__law_read [.val d,.val .non,.val .non,.no] λr=>r=.inl (.nx [.val d,.val .non,.val x,.no]):=ko (as:=[d]) ⋯ A (λh=>by cases h) λy hy e=>by
   cases hy;exact gG.mpr ⟨_,_,cH [d] ⋯ e,_,rfl,lO.mpr rfl⟩
  refine bz.mpr ⟨.rt (.lst [x]) [.val d,.val .non,.val x,.no],?_,rfl⟩;show kP _ _ _ _ _ _ _ _=_;unfold kP;rw[er,q];kernel_rfl
def JC{t:Str}{A:F}(h:stm t=some A):sz A<=40:=by
 unfold stm bnd at h;split at h
 .cases h
 obtain⟨p,h1,h2⟩:=af.mp h;obtain⟨q,_,h3⟩:=af.mp h1;split at h3
 .cases h3
 cases h3;split at h2
 .cases h2;lia
 .cases h2
def yf(n:Nat)(t:Str)(ht:t.length<sizeLine)(hb:(spl 32 t).length<999)(hn:113<=n):PP.run Gs gls (n+2) 26 [.str t]=some (.bl true):=by
 obtain⟨m,rfl⟩:∃m,n=m+4:=⟨n-4,∅⟩;have r1:=MJ m t ht hb;rw[<- Fo t hb]at r1;have r2:=Cm (NC (m+3) t ht ∅);apply dq;refine bU gT rfl rfl rfl ?_;simp only[gT,init,SI,Nat.reduceAdd,Nat.reduceSub];refine iS [.str t] ⋯ ((lN r1).mpr ⟨_,rfl,?_⟩);show wSs _ (.cons _ _) [.val (.str t),.val (oF (stm t))] _
 cases e:stm t with
 |none =>
  rw[e]at r2;refine bC true ⋯ (λ_=>?_) λz=>by cases z
  exact bR (.bl true) (sT (x:=.non) (y:=.non) (cH [.str t] ⋯ r2) ⋯ rfl) rfl
 |some A =>
  rw[e]at r2;have hz:=JC e;refine bC false (by cases A<;>kernel_rfl) (λz=>by cases z) λ_=>?_;show wSs _ (.cons _ _) _ _;refine bR (.bl true) (sT (x:=.lst [enc A]) (y:=.lst [enc A]) (cH [.str t] ⋯ r2) ⋯ ?_) rfl
  have hd:dep (.lst [enc A])<=42:=by
   have:=mn A;unfold dep eO eO
   lia
  show(if iz (.lst [enc A]) (.lst [enc A])=true then some (eqD (.lst [enc A]) (.lst [enc A]))else _)=_;rw[if_pos ?_,mj _ ∅];unfold iz;rw[oa,Nat.max_self,decide_eq_true ∅,decide_eq_true ∅];rfl
def Cn(n:Nat)(d:D)(hd:fU [d]=some (.bl false))(hn:113<=n):PP.run Gs gls (n+1) 25 [d]=some .non:=by
 obtain⟨m,rfl⟩:∃m,n=m+1:=⟨n-1,∅⟩;exact Cm (HL m d hd ∅)
def bZ(a b:Str):(a++b).length=a.length+b.length:=by rw[<- bS,tj,az,bS,bS]
def bc(x:Str):Nat:=(cs x).count 32
def dD(a b:Str):bc (a++b)=bc a+bc b:=by unfold bc;rw[tj,jg]
def oZ(c:Nat):∀l:List Nat,(cO c l).length=l.count c+1
 |[]=>rfl
 |a::l=>by
  have ih:=oZ c l;unfold cO;by_cases h:a=c
  .rw[if_pos h,ag,ih,h,ze]
  .rw[if_neg h,kG (by exact h),<- ih];split
   .rename_i e;rw[e];rfl
   .rename_i e;rw[e]at ih;cases ih
def lT(x:Str):(spl 32 x).length=bc x+1:=by unfold spl;rw[ak,oZ];rfl
def fw:List Nat->Nat
 |[]=>0
 |a::l=>if a=32 then 0 else fw l+1
def mw:List Nat->Nat
 |[]=>0
 |a::l=>if a=32 then mw l else max (fw l+1) (mw l)
def sQ(a:Nat)(l:List Nat):fw (a::l)=if a=32 then 0 else fw l+1:=rfl
def sG(a:Nat)(l:List Nat):mw (a::l)=if a=32 then mw l else max (fw l+1) (mw l):=rfl
def IG:∀l,fw l<=l.length
 |[]=>aD _
 |a::l=>by have:=IG l;rw[sQ,ag];split<;>lia
def qV:∀l,mw l<=l.length
 |[]=>aD _
 |a::l=>by have:=IG l;have:=qV l;rw[sG,ag];split<;>lia
def Nt:∀l,fw l<=mw l
 |[]=>aD _
 |a::l=>by rw[sQ,sG];split<;>lia
def DN:∀x y,fw (x++y)<=fw x+fw y
 |[],y=>by show fw y<=0+fw y;lia
 |a::x,y=>by
  have:=DN x y;show fw (a::(x++y))<=_;rw[sQ,sQ];split<;>lia
def DM:∀x y,fw x<=fw (x++y)
 |[],y=>bM _
 |a::x,y=>by
  have:=DM x y;show _<=fw (a::(x++y));rw[sQ,sQ];split<;>lia
def wV:∀x y,mw (x++y)<=mw x+mw y
 |[],y=>by show mw y<=0+mw y;lia
 |a::x,y=>by
  have:=wV x y;have:=DN x y;have:=Nt y;show mw (a::(x++y))<=_;rw[sG,sG];split<;>lia
def Dk:∀x y,mw x<=mw (x++y)
 |[],y=>bM _
 |a::x,y=>by
  have:=Dk x y;have:=DM x y;show _<=mw (a::(x++y));rw[sG,sG];split<;>lia
def Dj:∀x y,mw y<=mw (x++y)
 |[],y=>aD _
 |a::x,y=>by
  have:=Dj x y;show _<=mw (a::(x++y));rw[sG];split<;>lia
def GS(l:List Nat)(k:Nat):mw (l.take k)<=mw l:=by
 have:=Dk (l.take k) (l.drop k)
 rwa[cB]at this
def GU(l:List Nat)(k:Nat):mw (l.drop k)<=mw l:=by
 have:=Dj (l.take k) (l.drop k)
 rwa[cB]at this
def DL:∀x y,fw (x++32::y)=fw x
 |[],y=>rfl
 |a::x,y=>by
  have:=DL x y;show fw (a::(x++32::y))=_;rw[sQ,sQ,this]
def wU:∀{x y:List Nat}{M:Nat},mw x<=M->mw y<=M->mw (x++32::y)<=M
 |[],y,M,_,h=>h
 |a::x,y,M,h1,h2=>by
  show mw (a::(x++32::y))<=M;rw[sG]at h1 |-;split at h1
  .rename_i h;rw[if_pos h];exact wU h1 h2
  .rename_i h;rw[if_neg h,DL];have:=wU (x:=x) (y:=y) (M:=M) ∅ h2
   lia
def uI:∀l:List Nat,(∀w∈cO 32 l,w.length<=mw l/\32∉w)/\∀w ws,cO 32 l=w::ws->w.length=fw l
 |[]=>⟨λw h=>by rw[bX.mp (show w∈[[]]from h)];exact⟨aD _,bQ⟩,λw ws h=>by cases h;rfl⟩
 |a::l=>by
  obtain⟨ih1,ih2⟩:=uI l;unfold cO;rw[sG,sQ];by_cases h:a=32
  .rw[if_pos h,if_pos h,if_pos h];refine⟨λw hw=>?_,λw ws e=>by cases e;rfl⟩;rcases aA.mp hw with rfl|hw
   .exact⟨bM _,bQ⟩
   .exact ih1 w hw
  .rw[if_neg h,if_neg h,if_neg h];obtain⟨v,vs,e⟩:=ic 32 l;rw[e]at ih1 ih2 |-;have hv:=ih1 v ay;have hl:=ih2 v vs rfl;refine⟨λw hw=>?_,λw ws e=>by cases e;rw[ag,hl]⟩;rcases aA.mp hw with rfl|hw
   .refine⟨by rw[ag];lia,λm=>?_⟩;rcases aA.mp m with m|m
    .exact h m.symm
    .exact hv.2 m
   .have:=ih1 w (ao _ hw);exact⟨∅,this.2⟩
def tl(us:List Str):Nat:=(us.map λu=>u.length+1).sum
def oY(c:Nat):∀l:List Nat,((cO c l).map λw=>w.length+1).sum=l.length+1
 |[]=>rfl
 |a::l=>by
  have ih:=oY c l;unfold cO;split
  .rw[aw,aW,ih,ag,aL];lia
  .obtain⟨v,vs,e⟩:=ic c l;rw[e]at ih |-;rw[aw,aW]at ih |-;simp only[ag]at ih |-
   lia
def JD(x:Str):tl (spl 32 x)=x.length+1:=by
 unfold tl spl;rw[jP,<- bS,<- oY 32];refine congrArg List.sum (Az λw _=>?_);show(sO w).length+1=_;rw[eN]
def wd{x w:Str}(h:w∈spl 32 x):w.length<=mw (cs x)/\bc w=0:=by
 obtain⟨v,hv,rfl⟩:=cE.mp h;obtain⟨h1,h2⟩:=(uI (cs x)).1 v hv;exact⟨by rw[eN];exact h1,List.count_eq_zero.mpr h2⟩
def jn(c:Nat)(acc:List Nat)(us:List Str):List Nat:=us.foldl (λacc u=>acc++c::cs u) acc
def kb{y:Str}{c:Nat}(h:cs y=[c])(u:Str)(us:List Str):cs (glued y (u::us))=jn c (cs u) us:=by
 have:∀(us:List Str)(acc:Array Nat),(us.foldl (λacc p=>acc++y.cps++p.cps) acc).toList=jn c acc.toList us:=λus=>by
  induction us with
  |nil=>intro acc;rfl
  |cons v us ih =>
   intro acc;rw[hZ,ih];show jn c _ us=jn c (acc.toList++c::cs v) us;congr 1;rw[lE,lE,show y.cps.toList=[c]from h,cz];rfl
 exact this us u.cps
def wX(c:Nat):∀(us:List Str)(acc:List Nat),(jn c acc us).length=acc.length+tl us
 |[],acc=>rfl
 |u::us,acc=>by
  have:=wX c us (acc++c::cs u);rw[az,ag,bS]at this;show(jn c (acc++c::cs u) us).length=_;rw[this];unfold tl;rw[aw,aW]
  lia
def Dy:∀(us:List Str)(acc:List Nat),(jn 32 acc us).count 32=acc.count 32+(us.map λu=>bc u+1).sum
 |[],acc=>rfl
 |u::us,acc=>by
  have:=Dy us (acc++32::cs u);rw[jg,ze]at this;show(jn 32 (acc++32::cs u) us).count 32=_;rw[this,aw,aW];unfold bc
  lia
def IA{M:Nat}:∀(us:List Str)(acc:List Nat),mw acc<=M->(∀u∈us,mw (cs u)<=M)->mw (jn 32 acc us)<=M
 |[],acc,h,_=>h
 |u::us,acc,h,h2=>IA us (acc++32::cs u) (wU h (h2 u ay)) λv hv=>h2 v (ao _ hv)
def Iz{c:Nat}(hc:c≠32):∀(us:List Str)(acc:List Nat),(jn c acc us).count 32=acc.count 32+(us.map bc).sum
 |[],acc=>rfl
 |u::us,acc=>by
  have:=Iz hc us (acc++c::cs u);rw[jg,kG hc]at this;show(jn c (acc++c::cs u) us).count 32=_;rw[this,aw,aW];unfold bc
  lia
def strs_map(xs:List Str):oW (xs.map .str)=some xs:=by
 induction xs with
 |nil=>rfl
 |cons x xs ih=>rw[aw];unfold oW;rw[ih];rfl
def Dr{y:Str}{c:Nat}(h:cs y=[c]){us:List Str}(hl:tl us<=sizeLine):mtD .join (.str y) (.lst (us.map .str))=some (.str (glued y us))/\(glued y us).length<=tl us:=by
 have y1:y.length=1:=by rw[<- bS,h];rfl
 have e1:us.toArray.foldl (·+·.length+y.length) 0=tl us:=by
  rw[List.foldl_toArray']
  .have:∀(us:List Str)(k:Nat),us.foldl (·+·.length+y.length) k=k+tl us:=λus=>by
    induction us with
    |nil=>intro k;rfl
    |cons u us ih =>
     intro k;rw[hZ,ih,y1];unfold tl;rw[aw,aW]
     lia
   rw[this,xF]
  .simp
 have e2:(glued y us).length<=tl us:=by
  cases us with
  |nil=>exact bM _
  |cons u us =>
   rw[<- bS,kb h,wX,bS];unfold tl;rw[aw,aW]
   lia
 refine⟨?_,e2⟩;show(oW (us.map .str)).bind _=_;rw[strs_map,ah,e1,if_pos ⟨by unfold tooLong;rw[decide_eq_false_iff_not];exact tV.mpr hl,aX e2 hl⟩]
def MC{x:Str}{k:Nat}(h:k<=x.length):lH x none (some (k:Int))=sO ((cs x).take k):=by
 refine(vK (x:=x) (j:=(k:Int)) ⟨∅,by show(k:Int)<=((cs x).length:Int);rw[bS];lia⟩).trans (gH ?_);show((cs x).drop 0).take ((k:Int)-0).toNat=_;rw[gh,show((k:Int)-0).toNat=k by lia];rfl
def FW{x:Str}(k:Nat):lH x (some (k:Int)) none=sO ((cs x).drop k):=by
 rcases og x.length k with h|h
 .have e:iG x (some (k:Int)) none=iG x (some (x.length:Int)) none:=by
   unfold iG;have a1:¬((k:Int)<0):=by lia
   have a2:¬((x.length:Int)<0):=by lia
   have a3:min (k:Int) (x.length:Int)=(x.length:Int):=by lia
   rw[show strSliceIndices (some (k:Int)) none 1 x.length=strSliceIndices (some (x.length:Int)) none 1 x.length by
    unfold strSliceIndices;simp only[if_neg a1,if_neg a2,a3,Int.min_self,show(1:Int)>0 from by decide,if_true]]
  show iG x (some (k:Int)) none=_;rw[e,tU ⟨∅,by show(x.length:Int)<=((cs x).length:Int);rw[bS];lia⟩];refine gH ?_;show((cs x).drop (x.length:Int).toNat).take _=(cs x).drop k;rw[dX (by rw[bS];lia),dX (by rw[bS];lia),List.take_nil]
 .refine(tU (x:=x) (i:=(k:Int)) ⟨∅,by show(k:Int)<=((cs x).length:Int);rw[bS];lia⟩).trans (gH ?_);show((cs x).drop (k:Int).toNat).take (((cs x).length:Int)-(k:Int)).toNat=(cs x).drop k;rw[de,cm (by rw[aR];lia)]
def si(n:Nat)(ns:List Int)(k:Int)(h0:0<=k)(h1:k<=1000):jJ Gs gls (n+1) 12 [.lst (ns.map .int),.int k] λd=>∃c:Int,d=.int c:=by
 refine bU iE rfl rfl rfl ?_;simp only[iE,init,SI,Nat.reduceAdd,Nat.reduceSub];simp only[↓WS,WI,↓reduceIte];have hl:(ns.map D.int).length=ns.length:=ak _;rw[hl];split
 .rename_i h;obtain⟨d,hm,e⟩:=vE (ds:=ns.map D.int) h0 (by rw[hl];exact h);obtain⟨c,_,rfl⟩:=cE.mp hm;exact⟨_,e,c,rfl⟩
 .refine⟨mul_r ⇑0 ⇑0,?_⟩;split
  .rename_i h;obtain⟨d,hm,e⟩:=vE (ds:=ns.map D.int) (j:=k*7%(ns.length:Int)) (bx _ (by omega)) (by rw[hl];exact ba _ h);obtain⟨c,_,rfl⟩:=cE.mp hm;refine⟨mul_r ⇑0 ⇑0,h,_,e,?_⟩;simp only[↓WS,WI,↓reduceIte];have a1:=bx (c*48271) (show(2147483647:Int)≠0 by decide);have a2:=ba (c*48271) (show(0:Int)<2147483647 by decide);exact⟨mul_r ⇑0 ⇑0,⇑0,mul_r ⇑0 ⇑0,mul_r (by omega) (by omega),⇑0,_,rfl⟩
  .exact⟨mul_r (by omega) (by omega),⇑0,_,rfl⟩
def mY{x:Str}{p:Nat->Bool}(h:(cs x).all p=true){j:Int}(h0:0<=j)(h1:j<x.length):∃u,atI x.cps.toList j=some u/\p u=true:=by
 obtain⟨d,hm,e⟩:=vE (ds:=x.cps.toList) h0 (by rw[str_len];exact h1);exact⟨d,e,bK.mp h d hm⟩
def nbl(u:Nat):Bool:=!(u==32)
def mX{u:Nat}(h:nbl u=true):bc ⟨#[u]⟩=0:=by
 have:u≠32:=by unfold nbl at h;simpa using h
 show[u].count 32=0;rw[kG this];rfl
def tok(k:Nat)(t:Str):Prop:=t.length<=k/\bc t=0
def Co(n:Nat)(c:Int):jJ Gs gls (n+1) 13 [.int c] λd=>∃t:Str,d=.str t/\tok 8 t:=by
 refine bU iD rfl rfl rfl ?_;simp only[iD,init,SI,Nat.reduceAdd,Nat.reduceSub];simp only[↓WS,WI,↓reduceIte];have e36:("abcdefghijklmnopqrstuvwxyz0123456789":Str).length=36:=by decide
 have j0:=bx (c/8) (show(26:Int)≠0 by decide);have j1:=ba (c/8) (show(0:Int)<26 by decide);obtain⟨u,eu,hu⟩:=mY (x:="abcdefghijklmnopqrstuvwxyz0123456789") (p:=nbl) ⇑0 j0 (by rw[e36];omega);refine⟨⇑0,⇑0,by rw[e36];exact small ⇑0,u,eu,⇑0,⇑0,⟨by omega,by omega⟩,?_⟩;refine oO (λxs δ=>∃(c r:Int)(t:Str)(s:Sl),δ=[.val (.int c),.val (.str "abcdefghijklmnopqrstuvwxyz0123456789"),.val (.str t),.val (.int r),s]/\t.length+xs.length<=8/\bc t=0) ?_ ?_ _ _ ?_
 .rintro x xs δ ⟨c,r,t,s,rfl,hl,hb⟩;rw[ag]at hl;simp only[↓WS,WI,↓reduceIte];obtain⟨v,e,hv⟩:=mY (x:="abcdefghijklmnopqrstuvwxyz0123456789") (p:=nbl) ⇑0 (j:=r%36) (bx _ ⇑0) (by rw[e36];exact ba _ ⇑0);have e1:(⟨#[v]⟩:Str).length=1:=rfl;exact⟨⇑0,by rw[e36];exact small ⇑0,v,e,small (by omega),⇑0,_,_,_,_,rfl,by rw[bZ,e1];omega,by rw[dD,hb,mX hv]⟩
 .rintro δ ⟨c,r,t,s,rfl,hl,hb⟩;simp only[↓WS,WI,↓reduceIte];exact⟨t,rfl,by rw[aL]at hl;omega,hb⟩
 .refine⟨_,_,_,_,rfl,?_,mX hu⟩;rw[se];have e1:(⟨#[u]⟩:Str).length=1:=rfl;omega
def yY(t:Str):([D.str "yes",.str "no",.str "not",.str "and",.str "or",.str "if",.str "all",.str "some"].any λy=>eqD y (.str t))=decide (t∈res):=tJ t res
def yQ:eO [D.str "yes",.str "no",.str "not",.str "and",.str "or",.str "if",.str "all",.str "some"]<99999:=by decide
def IJ(s:Str):dep (D.str s)<=150:=by rw[sV];omega
def JS(n:Nat)(c:Int):jJ Gs gls (n+1) 14 [.int c] λd=>∃t:Str,d=.str t/\tok 9 t:=by
 refine bU iA rfl rfl rfl ?_;simp only[iA,init,SI,Nat.reduceAdd,Nat.reduceSub];simp only[↓WS,WI,↓reduceIte];have e26:("etaoinshrdlcumwfgypbvkjxqz":Str).length=26:=by decide
 refine⟨⇑0,⇑0,⟨by omega,by omega⟩,?_⟩;refine oO (λxs δ=>∃(c r:Int)(t:Str)(s:Sl),δ=[.val (.int c),.val (.str t),.val (.int r),s]/\t.length+xs.length<=8/\bc t=0) ?_ ?_ _ _ ?_
 .rintro x xs δ ⟨c,r,t,s,rfl,ht,hb⟩;rw[ag]at ht;simp only[↓WS,WI,↓reduceIte];obtain⟨v,e,hv⟩:=mY (x:="etaoinshrdlcumwfgypbvkjxqz") (p:=nbl) ⇑0 (j:=r%26) (bx _ ⇑0) (by rw[e26];exact ba _ ⇑0);have e1:(⟨#[v]⟩:Str).length=1:=rfl;exact⟨⇑0,by rw[e26];exact small ⇑0,v,e,small (by omega),⇑0,_,_,_,_,rfl,by rw[bZ,e1];omega,by rw[dD,hb,mX hv]⟩
 .rintro δ ⟨c,r,t,s,rfl,ht,hb⟩;rw[aL]at ht;have e1:("s":Str).length=1:=by decide
  by_cases hm:t∈res
  .simp only[↓WS,WI,↓reduceIte,yY,hm,IJ,yQ,true_and,and_self];exact⟨by show 8<=sizeLine;decide,small (by omega),_,rfl,by rw[bZ];omega,by rw[dD,hb];decide⟩
  .simp only[↓WS,WI,↓reduceIte,yY,hm,IJ,yQ,true_and,and_self,decide_false];exact⟨by show 8<=sizeLine;decide,t,rfl,by omega,hb⟩
 .refine⟨_,_,_,_,rfl,?_⟩;rw[se];have e1:("":Str).length=0:=by decide
  exact⟨by omega,⇑0⟩
def Cq(n:Nat)(t:Str)(ar:List Str)(hl:ar.length<=10):jJ Gs gls (n+1) 15 [.str t,.lst (ar.map .str)] λd=>∃u:Str,d=.str u:=by
 refine bU gU rfl rfl rfl ?_;simp only[gU,init,SI,Nat.reduceAdd,Nat.reduceSub];show wSs _ (.cons _ _) _ _;refine jl (lq 0 ar.length) ?_ (vt (tl:=[]) hl (λi s e hi=>⟨_,rfl⟩) (λs hm=>?_) rfl .no)
 .have:=mh (cx:=⟨PP.run Gs gls n,gls,hfs Gs⟩) (e:=.blt .len (.cons (.var 1) .nil)) (δ:=[.val (.str t),.val (.lst (ar.map .str)),.no]) (eH (e:=.var 1) (ds:=ar.map .str) ⋯) ∅ (by rw[ak];lia);rw[ak,de]at this;exact this
 .show wSs _ (.cons _ _) _ _;exact bR (.str t) ⋯ ⟨t,rfl⟩
def Hw{ds:List D}{lo hi:Option Int}{x:D}(h:x∈cutD ds lo hi):x∈ds:=by
 unfold cutD at h;exact gO (gN h)
def Hx{ds:List D}{lo hi:Option Int}:(cutD ds lo hi).length<=ds.length:=by
 unfold cutD;rw[bw,aR];omega
def yR{α:Type}(g:α->D)(xs:List α)(lo hi:Option Int):∃ys:List α,cutD (xs.map g) lo hi=ys.map g/\(∀y∈ys,y∈xs)/\ys.length<=xs.length:=by
 unfold cutD;refine⟨(xs.drop (HT.sIx (xs.map g).length 0 lo)).take (HT.sIx (xs.map g).length (xs.map g).length hi-HT.sIx (xs.map g).length 0 lo),?_,λy hy=>gO (gN hy),?_⟩
 .rw[gK,gL]
 .rw[bw,aR];omega
def iF{ts:List Str}{j:Int}(h0:0<=j)(h1:j<ts.length):∃t:Str,t∈ts/\atI (ts.map D.str) j=some (.str t):=by
 obtain⟨d,hm,e⟩:=vE (ds:=ts.map D.str) h0 (by rw[ak];exact h1);obtain⟨t,ht,rfl⟩:=cE.mp hm;exact⟨t,ht,e⟩
def uF{P:D->D->Prop}{R:Str->Prop}(hP:∀x y,P x y->∃t:Str,y=.str t/\R t):∀(ds ys:List D),Paired P ds ys->∃ts:List Str,ys=ts.map .str/\ts.length=ds.length/\∀t∈ts,R t:=by
 intro ds ys r
 induction r with
 |nil=>exact⟨[],rfl,rfl,↥0⟩
 |cons h t ih =>
  obtain⟨c,rfl,hc⟩:=hP _ _ h;obtain⟨cs,rfl,hl,ha⟩:=ih;exact⟨c::cs,rfl,by simp[hl],by simpa[hc]using ha⟩
def rg{us:List Str}(h:us.length<=5)(ht:∀t∈us,tok 8 t):mtD .join (.str ",") (.lst (us.map .str))=some (.str (glued "," us))/\(glued "," us).length<=9*us.length/\bc (glued "," us)=0:=by
 have h1:∀us:List Str,(∀t∈us,tok 8 t)->tl us<=9*us.length/\(us.map bc).sum=0:=λus=>by
  induction us with
  |nil=>intro _;exact⟨aD _,rfl⟩
  |cons u us ih =>
   intro hu;obtain⟨i1,i2⟩:=ih λt q=>hu t (ao _ q);obtain⟨a1,a2⟩:=hu u ay;unfold tl at i1 |-;rw[aw,aW,aw,aW,i2,a2,ag];exact⟨∅,rfl⟩
 obtain⟨t1,t2⟩:=h1 us ht;obtain⟨j1,j2⟩:=Dr sZ (us:=us) (aX t1 (big ∅));refine⟨j1,∅,?_⟩
 cases us with
 |nil=>rfl
 |cons u us =>
  unfold bc;rw[kb sZ,Iz ⇑0];have:=(h1 us λt q=>ht t (ao _ q)).2;rw[this];exact(ht u ay).2
def EY{ds:List D}{lo hi:Option Int}{Q:D->Prop}:wSl (.lst ds) lo hi Q↔Q (.lst (cutD ds lo hi)):=yr
def zl0:([]:List D).length<=sizeLine:=by decide
def zl1{a:D}:[a].length<=sizeLine:=by show 1<=sizeLine;decide
def zl2{a b:D}:[a,b].length<=sizeLine:=by show 2<=sizeLine;decide
def zl3{a b c:D}:[a,b,c].length<=sizeLine:=by show 3<=sizeLine;decide
def ZL:=aG @zl1 (aG @zl2 @zl3)
def qC{cx:Cl}{δ:PP.Loc}{k:Nat}{tg:Tg}{elt:E}{Q:List D->PP.Loc->Prop}{P:D->D->Prop}(ds:List D)(h:∀x∈ds,wTg (δ++aC k .no) tg x λδ2=>wE cx elt δ2 λy δ4=>P x y/\δ4.take δ.length=δ)(q:∀ys,PySem.Paired P ds ys->Q ys δ):kM cx k tg .no elt ds δ Q :=
 lh P ds (λx hx=>by
  obtain⟨δ2,e,r⟩:=h x hx;exact⟨δ2,e,true,δ2,rfl,rfl,r⟩) q
def kds:List Str:=["word","not","and","or","if","all","some","yes","no","word"]
def QW:Str:="QWERTYUIOPASDFGHJKLZXCVBNM"
def pQ:(" ":Str).length=1/\bc " "=1:=by decide
def Ad:("not ":Str).length=4/\bc "not "=1:=by decide
def Lo:("(":Str).length=1/\bc "("=0/\(")":Str).length=1/\bc ")"=0:=by decide
def kd_len:∀k∈kds,k.length<=4/\bc k=0:=by decide
def drw(m:Nat)(d:D):Prop:=∃(t:Str)(s:D),d=.tup [.str t,s]/\t.length+6<=44*2^m/\bc t+2<=2^(m+1)
def kx(nms:List Str)(hn:nms.length=3)(hnm:∀t∈nms,tok 8 t):∀(m:Nat)(n:Nat)(c:Int)(ar:List Str),m+2<=n->m<=4->(∀t∈ar,tok 8 t)->ar.length+m<=4->jJ Gs gls n 16 [.int c,.int m,.lst (ar.map .str),.lst (nms.map .str)] (drw m)
 |m,0,c,ar,h,hm,hc,hl=>by omega
 |m,n+1,c,ar,h,hm,hc,hl=>by
  have p1:1<=2^m:=Nat.one_le_two_pow;have p2:2^(m+1)=2*2^m:=by rw[Nat.pow_succ];omega
  have p3:2^m<=16:=aX (Nat.pow_le_pow_right ⇑0 hm) ⇑0;refine bU gW rfl rfl rfl ?_;simp only[gW,init,SI,Nat.reduceAdd,Nat.reduceSub];refine oj (R:=λδ=>∃kd∈kds,δ=[.val (.int c),.val (.int m),.val (.lst (ar.map .str)),.val (.lst (nms.map .str)),.val (.str kd),.val (.int (c/10)),.no,.no,.no,.no,.no,.no,.no]) 2 _ _ ?_ ?_
  .simp only[nA,↓Dh,ag,aL,↓WS,WI,↓reduceIte];obtain⟨kd,hk,e⟩:=iF (ts:=kds) (j:=c%10) (bx _ ⇑0) (by have:=ba c (show(0:Int)<10 by decide);exact this);exact⟨⇑0,⇑0,.str kd,e,⟨⇑0,⇑0⟩,kd,hk,rfl⟩
  rintro _ ⟨kd,hk,rfl⟩;obtain⟨k1,k2⟩:=kd_len kd hk;simp only[fV];refine bz.mpr (CQ (p:=kd=="yes") (q:=kd=="no") (λh=>by simp only[↓WS,WI,↓reduceIte];exact h) (λh=>by simp only[↓WS,WI,↓reduceIte];exact h) (λhw=>?_) λw1 w2=>dr.mpr (bz.mpr (CQ (p:=kd=="word") (q:=decide ((m:Int)=0)) (λh=>by simp only[↓WS,WI,↓reduceIte];exact h) (λh=>by simp only[↓AO,↓xR,↓qA,↓uo,↓Bm,↓uu];exact h) (λhw=>?_) λw3 w4=>dr.mpr (bz.mpr (Ky (p:=kd=="not") (λh=>by simp only[↓WS,WI,↓reduceIte];exact h) (λhw=>?_) λw5=>dr.mpr (bz.mpr (CQ (p:=kd=="all") (q:=kd=="some") (λh=>by simp only[↓WS,WI,↓reduceIte];exact h) (λh=>by simp only[↓WS,WI,↓reduceIte];exact h) (λhw=>?_) λw6 w7=>dr.mpr ?_)))))))
  .simp only[↓WS,WI,↓reduceIte,ZL,true_and];exact⟨kd,_,rfl,by omega,by omega⟩
  .simp only[↓EY,↓WS,WI,↓reduceIte];obtain⟨zs,ez,hz,lz⟩:=yR D.str ar (some (-1)) none;rw[ez];simp only[ak,az];refine⟨big (by omega),big (by omega),mul_r ⇑0 ⇑0,⇑0,mul_r ⇑0 ⇑0,⇑0,mul_r ⇑0 ⇑0,⇑0,by show 3<=sizeLine;decide,⇑0,?_⟩;rw[<- bP,<- bP];refine lh (λx y=>∃t:Str,y=.str t/\tok 8 t) _ ?_ ?_
   .intro x hx;have hx':=Hw hx
    have:∃v:Int,x=.int v:=by
     simp only[aA,bQ,or_false]at hx';rcases hx' with rfl|rfl|rfl<;>exact⟨_,rfl⟩
    obtain⟨v,rfl⟩:=this;simp only[SI,az,ak,↓WS,WI,↓reduceIte];obtain⟨t,hm',e⟩:=iF (ts:=nms++ar++zs) (j:=v%((nms.length+ar.length+zs.length:Nat):Int)) (bx _ (by omega)) (by rw[az,az];exact ba _ (by omega));refine⟨trivial,by omega,_,e,⟨t,rfl,?_⟩,rfl⟩;rcases cc.mp hm' with h1|h1
    .rcases cc.mp h1 with h2|h2
     .exact hnm t h2
     .exact hc t h2
    .exact hc t (hz t h1)
   .intro ys r;obtain⟨us,rfl,hl',hus⟩:=uF (λ_ _ h=>h) _ _ r;have hl2 := @Hx [D.int (c/10*31%1009),D.int (c/10*37%1013),D.int (c/10*41%1019)] none (some (c/10%4));simp only[ag,aL]at hl2;have hu3:us.length<=3:=by omega
    obtain⟨hj,j1,j2⟩:=rg (us:=us) (by omega) hus;simp only[ak,az,↓WS,WI,↓reduceIte];refine⟨big (by omega),⇑0,?_⟩;obtain⟨n',rfl⟩:∃n',n=n'+1:=⟨n-1,by omega⟩;refine eY (JS n' _) ?_;rintro _ ⟨w,rfl,hw1,hw2⟩;refine qC (P:=λ_ _=>True) (us.map D.str) (λx hx=>?_) λys hy=>?_
    .obtain⟨t,_,rfl⟩:=cE.mp hx;simp only[SI,↓WS,WI,↓reduceIte];refine eY (Cq n' t ar (by omega)) ?_;rintro _ ⟨u,rfl⟩;exact⟨trivial,rfl⟩
    .have ly:ys.length=us.length:=by
      have:∀{ds ys:List D},Paired (λ_ _:D=>True) ds ys->ys.length=ds.length:=λr=>by
       induction r with
       |nil=>rfl
       |cons _ _ ih=>rw[ag,ag,ih]
      rw[this hy,ak]
     refine⟨by rw[ly];exact big (by omega),?_⟩;obtain⟨a1,a2,a3,a4⟩:=Lo;by_cases h0:us=[]
     .subst h0;simp only[↓WS,WI,↓reduceIte,ZL,true_and,dm,aL,Int.ofNat_zero,show ¬((0:Nat):Int)>0 by decide,show ¬(0:Int)<0 by decide,show ¬(0:Int)<((0:Nat):Int) by decide];exact⟨w,_,rfl,by omega,by omega⟩
     .have h1:(0:Int)<(us.length:Nat):=by
       have:0<us.length:=lJ.mpr h0;omega
      simp only[↓Bl,↓WS,WI,↓reduceIte,ZL,true_and,ak,h1,hj,yr];refine⟨big (by omega),big (by rw[bZ];omega),big (by rw[bZ,bZ];omega),_,_,rfl,?_,?_⟩
      .rw[bZ,bZ,bZ];omega
      .rw[dD,dD,dD];omega
  all_goals
   have hm0:1<=m:=by
    have:=of_decide_eq_false w4;omega
   obtain⟨m',rfl⟩:∃m',m=m'+1:=⟨m-1,by omega⟩;have em:((m'+1:Nat):Int)-1=(m':Int):=by omega
   have p4:2^(m'+1)=2*2^m':=by rw[Nat.pow_succ];omega
  .simp only[em,↓WS,WI,↓reduceIte];refine eY (kx nms hn hnm m' n (c/10) ar (by omega) (by omega) hc (by omega)) ?_;rintro _ ⟨t,s,rfl,l1,l2⟩;simp only[↓WS,WI,↓reduceIte,ZL,true_and];exact⟨big (by have:=Ad.1;omega),_,_,rfl,by rw[bZ,Ad.1];omega,by rw[dD,Ad.2];omega⟩
  .refine oj (R:=λδ=>∃l,tok 8 l/\δ=[.val (.int c),.val (.int (m'+1:Nat)),.val (.lst (ar.map .str)),.val (.lst (nms.map .str)),.val (.str kd),.val (.int (c/10)),.no,.no,.no,.no,.no,.val (.str l),.no]) 2 _ _ ?_ ?_
   .simp only[nA,↓Dh,↓WS,WI,↓reduceIte,ak];have e26:QW.length=26:=by decide
    obtain⟨u,e,hu⟩:=mY (x:=QW) (p:=nbl) ⇑0 (j:=(c/10+5*(ar.length:Int))%26) (bx _ ⇑0) (by rw[e26];exact ba _ ⇑0);have tu:tok 8 ⟨#[u]⟩:=⟨by show 1<=8;decide,mX hu⟩;refine⟨Nf ⇑0 ⇑0,⇑0,⇑0,_,e,⇑0,⇑0,?_⟩;split
    .split
     .rename_i h9;obtain⟨t,ht,e2⟩:=iF (ts:=ar) (j:=0) (by omega) h9;exact⟨_,e2,t,hc t ht,rfl⟩
     .exact⟨⟨#[u]⟩,tu,rfl⟩
    .exact⟨⟨#[u]⟩,tu,rfl⟩
   .rintro _ ⟨l,cl,rfl⟩;have ea:ar.map D.str++[.str l]=(ar++[l]).map .str:=by simp
    simp only[fV,em,↓WS,WI,↓reduceIte,ak,ea]
    have hc2:∀t∈ar++[l],tok 8 t:=λx q=>by
     rcases cc.mp q with q|q
     .exact hc x q
     .rw[bX.mp q];exact cl
    refine⟨⇑0,by show 1<=sizeLine;decide,big (by show ar.length+1<=_;omega),eY (kx nms hn hnm m' n (c/10/3) (ar++[l]) (by omega) (by omega) hc2 (by rw[az,cP];omega)) ?_⟩;rintro _ ⟨t,s,rfl,l1,l2⟩;obtain⟨c1,c2⟩:=cl;simp only[↓WS,WI,↓reduceIte,ZL,true_and,bZ,pQ.1];exact⟨big (by omega),big (by omega),big (by omega),big (by omega),_,_,rfl,by simp only[bZ,pQ.1];omega,by simp only[dD,pQ.2];omega⟩
  .simp only[em,↓WS,WI,↓reduceIte];refine⟨mul_r ⇑0 ⇑0,⇑0,eY (kx nms hn hnm m' n _ ar (by omega) (by omega) hc (by omega)) ?_⟩;rintro _ ⟨t,s,rfl,l1,l2⟩;refine⟨mul_r ⇑0 ⇑0,⇑0,eY (kx nms hn hnm m' n _ ar (by omega) (by omega) hc (by omega)) ?_⟩;rintro _ ⟨t',s',rfl,l1',l2'⟩;simp only[↓WS,WI,↓reduceIte,ZL,true_and,bZ,pQ.1];exact⟨big (by omega),big (by omega),big (by omega),big (by omega),_,_,rfl,by simp only[bZ,pQ.1];omega,by simp only[dD,pQ.2];omega⟩
def gd(d:D):Prop:=∃(t:Str)(s:D),d=.tup [.str t,s]/\t.length<=700/\bc t<=60
def Ln:("and yes ":Str).length=8/\bc "and yes "=2/\("if ":Str).length=3/\bc "if "=1/\(" no":Str).length=3/\bc " no"=1/\("p(A,J,":Str).length=6/\bc "p(A,J,"=0:=by decide
def wq(n:Nat)(c:Int)(nms:List Str)(hn:nms.length=3)(hnm:∀t∈nms,tok 8 t):jJ Gs gls (n+5) 17 [.int c,.lst (nms.map .str)] gd:=by
 obtain⟨e1,e2,e3,e4,e5,e6,e7,e8⟩:=Ln;refine bU iC rfl rfl rfl ?_;simp only[iC,init,SI,Nat.reduceAdd,Nat.reduceSub];simp only[↓WS,WI,↓reduceIte,ZL,zl0,true_and];refine⟨⇑0,?_⟩;refine eY (kx nms hn hnm 0 (n+4) (c/4) [] (by omega) (by omega) (λt q=>by cases q) ⇑0) ?_;rintro _ ⟨t,s,rfl,l1,l2⟩;show wTg _ _ (.tup [.str t,s]) _;simp only[↓WS,WI,↓reduceIte];refine⟨⇑0,?_⟩;split
 .refine⟨⇑0,?_⟩;refine iT (λi:Nat=>D.int (0+i)) (λxs δ=>∃(t:Str)(s:D)(u v:Sl),(∀k∈xs,k<19)/\t.length+8*xs.length<=200/\bc t+2*xs.length<=40/\δ=[.val (.int c),.val (.lst (nms.map .str)),.val (.str t),.val s,u,v]) ?_ ?_ (dW 19) _ ⟨t,s,_,_,λk h=>gf.mp h,by simp only[gg];omega,by simp only[gg];omega,rfl⟩
  .rintro x xs δ ⟨t,s,u,v,hk,h1,h2,rfl⟩;rw[ag]at h1 h2;have hx:=hk x ay;simp only[↓WS,WI,↓reduceIte,xI,ZL,true_and,bZ];refine⟨⟨by omega,by omega⟩,⇑0,?_⟩;split
   .exact⟨big (by omega),_,_,.val (.int x),v,λk h=>hk k (ao _ h),by rw[bZ];omega,by rw[dD];omega,rfl⟩
   .exact⟨big (by omega),big (by omega),_,_,.val (.int x),v,λk h=>hk k (ao _ h),by rw[bZ,bZ];omega,by rw[dD,dD];omega,rfl⟩
  .rintro δ ⟨t,s,u,v,hk,h1,h2,rfl⟩;rw[aL]at h1 h2;simp only[↓WS,WI,↓reduceIte,ZL,true_and];exact⟨big (by have:=Ad.1;omega),_,_,rfl,by rw[bZ,Ad.1];omega,by rw[dD,Ad.2];omega⟩
 .obtain⟨a1,a2,a3,a4⟩:=Lo;obtain⟨a,ha,ea⟩:=iF (ts:=nms) (j:=0) (by omega) (by omega);obtain⟨b1,b2⟩:=hnm a ha;simp only[ea,yr,↓WS,WI,↓reduceIte,ZL,true_and,bZ];refine⟨big (by omega),big (by omega),⇑0,?_⟩;refine iT (λi:Nat=>D.int (0+i)) (λxs δ=>∃(t:Str)(s:D)(u v:Sl),(∀k∈xs,k<10)/\t.length+7*xs.length<=200/\bc t+2*xs.length<=40/\δ=[.val (.int c),.val (.lst (nms.map .str)),.val (.str t),.val s,u,v]) ?_ ?_ (dW 10) _ ⟨_,_,_,_,λk h=>gf.mp h,by simp only[gg,bZ];omega,by simp only[gg,dD];omega,rfl⟩
  .rintro x xs δ ⟨t,s,u,v,hk,h1,h2,rfl⟩;rw[ag]at h1 h2;have hx:=hk x ay;have lj:("JIHGFEDCBA":Str).length=10:=by decide
   obtain⟨z,ej,hz⟩:=mY (x:="JIHGFEDCBA") (p:=nbl) ⇑0 (j:=(x:Int)) (by omega) (by rw[lj];omega);obtain⟨q,hq,eq⟩:=iF (ts:=["all","some"]) (j:=c/((x:Int)+3)%2) (bx _ ⇑0) (by have:=ba (c/((x:Int)+3)) (show(0:Int)<2 by decide);exact this);have eq':atI [D.str "all",.str "some"] (c/((x:Int)+3)%2)=some (.str q):=eq
   have hq4:q.length<=4/\bc q=0:=by
    have:∀q∈(["all","some"]:List Str),q.length<=4/\bc q=0:=by decide
    exact this q hq
   have l1:(⟨#[z]⟩:Str).length=1:=rfl;have l2:=mX hz;simp only[↓WS,WI,↓reduceIte,xI,ZL,true_and,eq',ej,yr,bZ,pQ.1,l1];exact⟨⟨by omega,by omega⟩,⇑0,big (by omega),⇑0,big (by omega),big (by omega),big (by omega),_,_,.val (.int x),.val (.str q),λk h=>hk k (ao _ h),by simp only[bZ,pQ.1,l1];omega,by simp only[dD,pQ.2,l2];omega,rfl⟩
  .rintro δ ⟨t,s,u,v,hk,h1,h2,rfl⟩;rw[aL]at h1 h2;simp only[↓WS,WI,↓reduceIte,ZL,true_and];exact⟨t,s,rfl,by omega,by omega⟩
def GR:List Str:=([""," ","p()","p(","p)","(a)","p(a","p(a,)","p(,a)","p(a, b)","p (a)","p(X)","X","P","not","p(A)","and p","all X","all p(X)","all XY p","all x p(x)","some X p(Y)","not  p"," p","p ","p q","if p","p(a)(b)","p(1)","p(1a)","p(0)","all X p(x)","yes no","yes(a)","not()","and","p1","abcdefghi","p(abcdefghi)","all X all X p(X,X)","p(not)","p(all)","all X X","-","p(a-b)"]:List String).map xE
def KG:∀t∈GR,t.length<=800/\bc t<=70:=by decide
def Nv:("p(":Str).length=2/\bc "p("=0/\("some ":Str).length=5/\bc "some "=1:=by decide
def MI(n:Nat)(c:Int)(nms:List Str)(hn:nms.length=3)(hnm:∀t∈nms,tok 8 t):jJ Gs gls (n+6) 23 [.int c,.lst (nms.map .str)] λd=>∃t:Str,d=.str t/\t.length<=800/\bc t<=70:=by
 obtain⟨a1,a2,a3,a4⟩:=Lo;obtain⟨o1,o2,o3,o4⟩:=Nv;refine bU jC rfl rfl rfl ?_;simp only[jC,init,SI,Nat.reduceAdd,Nat.reduceSub];refine jk 5 [.val (.int c),.val (.lst (nms.map .str)),.val (.lst (GR.map .str))] ⋯ ?_;simp only[fV,↓Bl,↓WS,WI,↓reduceIte];have m4:=bx (c/4) (show(4:Int)≠0 by decide);have m5:=ba (c/4) (show(0:Int)<4 by decide);refine⟨⇑0,?_⟩;split
 .refine⟨⇑0,⇑0,⟨by omega,by omega⟩,?_⟩;refine qC (P:=λ_ y=>∃t:Str,y=.str t/\tok 8 t) _ (λx hx=>?_) λys r=>?_
  .unfold lq at hx;obtain⟨i,hi,rfl⟩:=cE.mp hx;have hi:=gf.mp hi;simp only[SI,↓WS,WI,↓reduceIte,ak,hn];obtain⟨t,ht,e⟩:=iF (ts:=nms) (j:=c/4/(0+(i:Int)+1)%3) (bx _ ⇑0) (by rw[hn];exact ba _ ⇑0);exact⟨⇑0,⟨by omega,by omega⟩,⇑0,_,e,⟨t,rfl,hnm t ht⟩,rfl⟩
  .obtain⟨us,rfl,hl',hus⟩:=uF (λ_ _ h=>h) _ _ r;have hu5:us.length<=5:=by rw[hl',se];omega
   obtain⟨hj,j1,j2⟩:=rg (us:=us) hu5 hus;simp only[↓Bl,ak,hj,yr,↓WS,WI,↓reduceIte];exact⟨big (by omega),big (by omega),big (by rw[bZ];omega),_,rfl,by rw[bZ,bZ];omega,by rw[dD,dD];omega⟩
 refine⟨⇑0,?_⟩;split
 .obtain⟨q,hq,eq⟩:=iF (ts:=["not ","and no "]) (j:=c/4%2) (bx _ ⇑0) (by have:=ba (c/4) (show(0:Int)<2 by decide);exact this);have eq':atI [D.str "not ",.str "and no "] (c/4%2)=some (.str q):=eq
  have hq4:q.length<=10/\bc q<=2:=by
   have:∀q∈(["not ","and no "]:List Str),q.length<=10/\bc q<=2:=by decide
   exact this q hq
  refine⟨by show 2<=sizeLine;decide,⇑0,⇑0,_,eq',eY (wq n 1 nms hn hnm) ?_⟩;rintro _ ⟨t,s,rfl,l1,l2⟩;simp only[↓WS,WI,↓reduceIte];exact⟨big (by omega),_,rfl,by rw[bZ];omega,by rw[dD];omega⟩
 refine⟨⇑0,?_⟩;split
 .have lj:("XAJ":Str).length=3:=by decide
  obtain⟨z,ej,hz⟩:=mY (x:="XAJ") (p:=nbl) ⇑0 (j:=c/4%3) (bx _ ⇑0) (by rw[lj];exact ba _ ⇑0);have l1:(⟨#[z]⟩:Str).length=1:=rfl;have l2:=mX hz;refine⟨⇑0,⇑0,⇑0,_,ej,big (by rw[o3,l1];omega),big (by rw[bZ,o3,l1,pQ.1];omega),eY (wq n 0 nms hn hnm) ?_⟩;rintro _ ⟨t,s,rfl,l3,l4⟩;have:=pQ;simp only[↓WS,WI,↓reduceIte];exact⟨big (by simp only[bZ];omega),_,rfl,by simp only[bZ];omega,by simp only[dD];omega⟩
 .have ho:GR.length=45:=by decide
  obtain⟨t,ht,e⟩:=iF (ts:=GR) (j:=c/4%45) (bx _ ⇑0) (by rw[ho];exact ba _ ⇑0);rw[ak,ho];exact⟨⇑0,⇑0,_,e,t,rfl,KG t ht⟩
def Ch(x:Str)(d:D):Prop:=∃t:Str,d=.str t/\2*(t.length+mw (cs t)+20)<=3*(x.length+mw (cs x)+20)/\bc t<=bc x+1
def xv{x:Str}{i j:Nat}{z:Str}(hi:i<=x.length)(hij:i<=j)(hz:z.length<=1):Ch x (.str (sO ((cs x).take i)++z++sO ((cs x).drop j)))/\(sO ((cs x).take i)).length+z.length+(sO ((cs x).drop j)).length<=x.length+1:=by
 have l1:(sO ((cs x).take i)).length=i:=by rw[eN,bw,bS];lia
 have l2:(sO ((cs x).drop j)).length=x.length-j:=by rw[eN,aR,bS]
 refine⟨⟨_,rfl,?_,?_⟩,∅⟩
 .have m1:=GS (cs x) i;have m2:=GU (cs x) j;have m3:=qV (cs z);have m4:=wV (cs (sO ((cs x).take i)++z)) (cs (sO ((cs x).drop j)));have m5:=wV (cs (sO ((cs x).take i))) (cs z);have m6:=qV (cs (sO ((cs x).take i)++z++sO ((cs x).drop j)));rw[<- tj]at m4 m5;rw[bS]at m3 m6;rw[kR]at m4 m5;rw[bZ,bZ]at m6 |-;have m7:mw (cs (sO ((cs x).drop j)))=mw ((cs x).drop j):=rfl
  lia
 .rw[dD,dD];have b1:bc z<=1:=aX List.count_le_length (by rw[bS];exact hz)
  have b2:bc (sO ((cs x).take i))+bc (sO ((cs x).drop i))=bc x:=by
   unfold bc;rw[kR,kR,<- jg,cB]
  have b3:bc (sO ((cs x).drop j))<=bc (sO ((cs x).drop i)):=by
   unfold bc;rw[kR,kR,show j=i+(j-i) by lia,<- List.drop_drop];exact(List.drop_sublist _ _).count_le _
  lia
def HD{x:Str}{us:List Str}{M:Nat}(h1:tl us<=16777000)(hM:∀u∈us,mw (cs u)<=M)(h2:2*(tl us-1+M+20)<=3*(x.length+mw (cs x)+20))(h3:(us.map λu=>bc u+1).sum<=bc x+2):mtD .join (.str " ") (.lst (us.map .str))=some (.str (glued " " us))/\Ch x (.str (glued " " us)):=by
 obtain⟨j1,_⟩:=Dr pS (us:=us) (big ∅);refine⟨j1,_,rfl,?_,?_⟩
 .cases us with
  |nil =>
   have e1:(glued " " []).length=0:=rfl;have e2:mw (cs (glued " " []))=0:=rfl
   lia
  |cons u us =>
   have hl:(glued " " (u::us)).length=tl (u::us)-1:=by
    rw[<- bS,kb pS,wX,bS];unfold tl;rw[aw,aW]
    lia
   have hm:mw (cs (glued " " (u::us)))<=M:=by
    rw[kb pS];exact IA us (cs u) (hM u ay) λv hv=>hM v (ao _ hv)
   lia
 .cases us with
  |nil=>exact bM _
  |cons u us =>
   have hb:bc (glued " " (u::us))=bc u+(us.map λu=>bc u+1).sum:=by
    unfold bc;rw[kb pS,Dy];rfl
   rw[aw,aW]at h3
   lia
section
variable{g:Str->Nat}{l:List Str}{a b:Str}{k:Nat}
def kr(x y:List Str):((x++y).map g).sum=(x.map g).sum+(y.map g).sum:=by rw[bP,HZ]
def ot(k:Nat):((l.take k++a::l.drop k).map g).sum=(l.map g).sum+g a:=by
 conv=>rhs;rw[<- cB k l]
 rw[kr,kr,aw,aW]
 lia
def BA(h:l[k]?=some a):((l.eraseIdx k).map g).sum+g a=(l.map g).sum:=by
 obtain⟨hk,e⟩:=aF.mp h
 conv=>rhs;rw[<- cB k l,bN hk,e]
 rw[dJ,kr,kr,aw,aW]
 lia
def sum_set(h:l[k]?=some a):((l.set k b).map g).sum+g a=(l.map g).sum+g b:=by
 obtain⟨hk,e⟩:=aF.mp h
 conv=>rhs;rw[<- cB k l,bN hk,e]
 rw[List.set_eq_take_append_cons_drop,if_pos hk,kr,kr,aw,aW,aw,aW]
 lia
end
def Lu{ds:List D}{k:Nat}:cutD ds none (some (k:Int))=ds.take k:=by
 unfold cutD;rw[HT.sIx_none,HT.sIx_nat,gh,xG];rcases Nat.le_total k ds.length with h|h
 .rw[qw h]
 .rw[pX h,cm h,gE]
def Ee{ds:List D}{k:Nat}:cutD ds (some (k:Int)) none=ds.drop k:=by
 unfold cutD;rw[HT.sIx_none,HT.sIx_nat,cm]
 .rcases Nat.le_total k ds.length with h|h
  .rw[qw h]
  .rw[pX h,fq,dX h]
 .rw[aR]
  lia
section
variable{cx:Cl}{δ δ1:PP.Loc}
def DT{i:Nat}{j:E}{ds:List D}{k:Nat}{w:D}(h0:δ[i]?=some (.own ds))(hj:evE cx j δ=some (.int (k:Int),δ))(hk:ds[k]?=some w)(h6:k<1000000):evE cx (.popi i j) δ=some (w,δ.set i (.own (ds.eraseIdx k))):=by
 simp only[evE,h0,hj,ae,ah];rw[if_pos ⟨∅,by have:=(aF.mp hk).1;lia,∅⟩,de,hk];rfl
def mi{e:E}{d:D}(h:evE cx e δ=some (d,δ1)):cS cx (.cons e .nil) δ=some ([d],δ1):=by
 simp only[cS,h,ae,ah];rfl
def zi{i:Nat}{j e:E}{r:Ss}{Q:Out->Prop}{ds:List D}{k:Nat}{d:D}(he:evE cx e δ=some (d,δ))(h0:δ[i]?=some (.own ds))(hj:evE cx j δ=some (.int (k:Int),δ))(hk:k<ds.length)(q:wSs cx r (δ.set i (.own (ds.set k d))) Q):wSs cx (.cons (.setix i j e) r) δ Q:=by
 refine bz.mpr ⟨.nx _,?_,q⟩
 have hi:ixN ds.length (k:Int)=some k:=by
  unfold ixN;rw[if_pos ∅,if_pos ∅,de]
 simp only[evS,he,h0,hj,hi,ae,ah]
end
def SG:Str:=" ()ABXYZabcnotyesdif0123456789,;=>~-_'!?+*/<|&^.:#"
def CW:List Str:=(["not","and","if","all X","some","yes","p(X)","q(a)","X",""]:List String).map xE
def NA:∀t∈CW,t.length<=5/\bc t<=1/\mw (cs t)<=4:=by decide
def Ho{cx:Cl}{δ δ1 δ2:PP.Loc}{m:Mt}{a b:E}{x y z:D}(ha:evE cx a δ=some (x,δ1))(hb:evE cx b δ1=some (y,δ2))(h:mtD m x y=some z):evE cx (.mt m a b) δ=some (z,δ2):=by
 simp only[evE,ha,hb,h,ae,ah];rfl
def IW(x:Str):((spl 32 x).map λu=>bc u+1).sum=bc x+1:=by
 rw[<- lT]
 have:∀l:List Str,(∀u∈l,bc u=0)->(l.map λu=>bc u+1).sum=l.length:=λl=>by
  induction l with
  |nil=>intro _;rfl
  |cons u l ih =>
   intro h;rw[aw,aW,ih λv hv=>h v (ao _ hv),h u ay,ag]
   lia
 exact this _ λu hu=>(wd hu).2
def oB{c:Int}{m:Nat}(h:0<m):∃k:Nat,c%(m:Int)=(k:Int)/\k<m:=by
 have h0:=bx c (show(m:Int)≠0 by lia);have h1:=ba c (show(0:Int)<m by lia);exact⟨(c%(m:Int)).toNat,∅,∅⟩
def Iy(a:Int){m:Nat}(h:0<m):opD .mod (.int a) (.int (m:Int))=some (.int (a%(m:Int))):=if_pos ∅
noncomputable abbrev sC(x:Str)(c:Int)(i u:Nat)(s5 s6 s7:Sl):PP.Loc:=[.val (.str x),.val (.int c),.val (.str SG),.val (.int i),.val (.str ⟨#[u]⟩),s5,s6,s7]
def zH(n:Nat)(x:Str)(c:Int)(hx:3*(x.length+mw (cs x)+20)<=33554000)(hbx:bc x<=1000):jJ Gs gls (n+1) 24 [.str x,.int c] (Ch x):=by
 have hm:=qV (cs x);rw[bS]at hm;have hl:x.length<16777000:=by lia
 have hlt:x.length<sizeLine:=aK hl ⇑0;have sgl:SG.length=50:=by decide
 refine bU fX rfl rfl rfl ?_;simp only[fX,init,SI,Nat.reduceAdd,Nat.reduceSub];refine jk 1 [.val (.str x),.val (.int c),.val (.str SG),.no,.no,.no,.no,.no] ⋯ ?_;obtain⟨i,ei,hi⟩:=oB (c:=c/7) (m:=x.length+1) ∅;obtain⟨s,es,hs⟩:=oB (c:=c/41) (m:=50) ∅;have wn:0<(spl 32 x).length:=by rw[lT];lia
 obtain⟨k,ek,hk⟩:=oB (c:=c/7) (m:=(spl 32 x).length) wn;obtain⟨w,ew⟩:∃w,(spl 32 x)[k]?=some w:=⟨_,aN hk⟩;obtain⟨u,eu⟩:∃u,SG.cps.toList[s]?=some u:=⟨_,aN (by rw[str_len,sgl];exact hs)⟩;have hw:=wd (cY ew);have ht:=JD x;have hsum:=IW x
 have hws:∀v∈spl 32 x,mw (cs v)<=mw (cs x):=λv hv=>by
  have:=qV (cs v);rw[bS]at this;have:=(wd hv).1
  lia
 have hn1:(spl 32 x).length<=1001:=by rw[lT];lia
 have hn:(spl 32 x).length<=x.length+1:=by
  rw[<- ht];unfold tl
  have:∀l:List Str,l.length<=(l.map λu=>u.length+1).sum:=λl=>by
   induction l with
   |nil=>exact aD _
   |cons v l ih=>rw[aw,aW,ag];lia
  exact this _
 have ms:=m_split (x:=x) pS ⇑0 hlt;generalize spl 32 x=ws at *;show wSs _ (.cons _ _) _ _;refine eh (.int i) (cW (x:=.int (c/7)) (y:=.int ((x.length:Int)+1)) (cW (x:=.int c) (y:=.int 7) ⋯ ⋯ ⋯) (cW (x:=.int x.length) (y:=.int 1) (len_str ⋯ (cG hlt)) ⋯ ⋯) (by rw[<- ei];exact if_pos ∅)) ⟨_,rfl,?_⟩;show wSs _ (.cons _ _) [.val (.str x),.val (.int c),.val (.str SG),.val (.int i),.no,.no,.no,.no] _;refine eh (.str ⟨#[u]⟩) (gp (x:=.str SG) (y:=.int s) ⋯ (cW (x:=.int (c/41)) (y:=.int ((50:Nat):Int)) (cW (x:=.int c) (y:=.int 41) ⋯ ⋯ ⋯) ⋯ ((Iy (c/41) ⇑0).trans (by rw[es]))) ?_) ⟨_,rfl,?_⟩
 .show(if SG.length<=sizeLine then(atI SG.cps.toList (s:Int)).map _ else none)=_;rw[if_pos (by rw[sgl];decide),atI_nat eu];rfl
 show wSs _ (.cons _ _) (sC x c i u .no .no .no) _;refine rL (ds:=ws.map .str) (jz (x:=.str x) (y:=.str " ") ⋯ ⋯ ms) (by show 5<8;decide) ?_;show wSs _ (.cons _ _) (sC x c i u (.own (ws.map .str)) .no .no) _;refine eh (.int k) (cW (x:=.int (c/7)) (y:=.int (ws.map D.str).length) (cW (x:=.int c) (y:=.int 7) ⋯ ⋯ ⋯) (eH ⋯) (by rw[<- ek,ak];exact if_pos ∅)) ⟨_,rfl,?_⟩;refine eh (.int (c%7)) ⋯ ⟨_,rfl,?_⟩;show wSs _ (.cons _ _) (sC x c i u (.own (ws.map .str)) (.val (.int k)) (.val (.int (c%7)))) _;generalize c%7=y;have s1:slD (.str x) none (some (i:Int))=some (.str (sO ((cs x).take i))):=(if_pos (cG hlt)).trans (by rw[<- MC ∅]);have s2:∀j:Nat,slD (.str x) (some (j:Int)) none=some (.str (sO ((cs x).drop j))):=λj=>(if_pos (cG hlt)).trans (by rw[<- FW]);have add2:∀{a b:Str},a.length+b.length<=x.length+1->opD .add (.str a) (.str b)=some (.str (a++b)):=λh=>if_pos (big ∅);have u1:(⟨#[u]⟩:Str).length=1:=rfl;obtain⟨c0,d0⟩:=xv (x:=x) (i:=i) (j:=i) (z:=⟨#[u]⟩) ∅ (aD _) (kj u1);obtain⟨c2,d2⟩:=xv (x:=x) (i:=i) (j:=i+1) (z:=⟨#[u]⟩) ∅ ∅ (kj u1);obtain⟨c1,d1⟩:=xv (x:=x) (i:=i) (j:=i+1) (z:="") ∅ ∅ ⇑0;have i0:∀cx:Cl,evE cx (.sl (.var 0) .no (.yes (.var 3))) (sC x c i u (.own (ws.map .str)) (.val (.int k)) (.val (.int y)))=some (.str (sO ((cs x).take i)),(sC x c i u (.own (ws.map .str)) (.val (.int k)) (.val (.int y)))):=λcx=>fm (x:=.str x) (l:=none) (h:=some (i:Int)) ⋯ rfl ⋯ s1;have i1:∀cx:Cl,evE cx (.sl (.var 0) (.yes (.bin .add (.var 3) (.int 1))) .no) (sC x c i u (.own (ws.map .str)) (.val (.int k)) (.val (.int y)))=some (.str (sO ((cs x).drop (i+1))),(sC x c i u (.own (ws.map .str)) (.val (.int k)) (.val (.int y)))):=λcx=>fm (x:=.str x) (l:=some ((i+1:Nat):Int)) (h:=none) ⋯ ⋯ rfl (s2 _);refine bC (y==0) ⋯ (λ_=>?_) λ_=>?_
 .show wSs _ (.cons _ _) _ _;refine bR _ (cW (i0 _ |> λh=>cW h (y:=.str ⟨#[u]⟩) ⋯ (add2 ∅)) (fm (x:=.str x) (l:=some (i:Int)) (h:=none) ⋯ ⋯ rfl (s2 i)) (add2 (by rw[bZ];lia))) c0
 show wSs _ (.cons _ _) _ _;refine bC (y==1) ⋯ (λ_=>?_) λ_=>?_
 .show wSs _ (.cons _ _) _ _;have e0:sO ((cs x).take i)++""=sO ((cs x).take i):=gH (by rw[tj];exact bq _);rw[e0]at c1;exact bR _ (cW (i0 _) (i1 _) (add2 ∅)) c1
 show wSs _ (.cons _ _) _ _;refine bC (y==2) ⋯ (λ_=>?_) λ_=>?_
 .show wSs _ (.cons _ _) _ _;exact bR _ (cW (cW (i0 _) (y:=.str ⟨#[u]⟩) ⋯ (add2 ∅)) (i1 _) (add2 (by rw[bZ];lia))) c2
 -- the words,changed and joined
 have fin:∀(us:List Str)(M:Nat)(s5:Sl),(s5=.own (us.map .str)\/s5=.val (.lst (us.map .str)))->tl us<=16777000->(∀u∈us,mw (cs u)<=M)->2*(tl us-1+M+20)<=3*(x.length+mw (cs x)+20)->(us.map λu=>bc u+1).sum<=bc x+2->wSs ⟨PP.run Gs gls n,gls,hfs Gs⟩ (.cons (.ret (.mt .join (.str " ") (.var 5))) .nil) (sC x c i u s5 (.val (.int k)) (.val (.int y))) (retS (Ch x)):=λus M s5 h0 h1 h2 h3 h4=>by
  obtain⟨j1,j2⟩:=HD h1 h2 h3 h4;rcases h0 with rfl|rfl
  .exact bz.mpr (jo.mpr ⟨_,_,Ho (x:=.str " ") (y:=.lst (us.map .str)) (δ1:=(sC x c i u (.own (us.map .str)) (.val (.int k)) (.val (.int y)))) (δ2:=(sC x c i u (.val (.lst (us.map .str))) (.val (.int k)) (.val (.int y)))) ⋯ ⋯ j1,j2⟩)
  .exact bR _ (jz (x:=.str " ") (y:=.lst (us.map .str)) ⋯ ⋯ j1) j2
 have gk:(ws.map D.str)[k]?=some (.str w):=by rw[bH,ew];rfl
 have hl1:(ws.map D.str).length<sizeLine:=by rw[ak];exact aK (show ws.length<16777002 by lia) ⇑0
 have ik:∀cx:Cl,evE cx (.ix (.pk 5) (.var 6)) (sC x c i u (.own (ws.map .str)) (.val (.int k)) (.val (.int y)))=some (.str w,(sC x c i u (.own (ws.map .str)) (.val (.int k)) (.val (.int y)))):=λcx=>gp (x:=.lst (ws.map .str)) (y:=.int k) ⋯ ⋯ (atI_nat gk);show wSs _ (.cons _ _) _ _;refine bC (y==3) ⋯ (λ_=>?_) λ_=>?_
 .show wSs _ (.cons _ _) _ _;refine bz.mpr (AV (n:=(k:Int)) (d:=.str w) rfl (bh (d:=.int k) ⋯ (bh (ik _) rfl)) rfl ⟨∅,∅,hl1⟩ ?_)
  have e:(ws.map D.str).take (k:Int).toNat++D.str w::(ws.map D.str).drop (k:Int).toNat=(ws.take k++w::ws.drop k).map .str:=by
   rw[de,bP,aw,gK,gL]
  rw[e];have t1:tl (ws.take k++w::ws.drop k)=tl ws+(w.length+1):=ot k;have t2:((ws.take k++w::ws.drop k).map λu=>bc u+1).sum=(ws.map λu=>bc u+1).sum+(bc w+1):=ot k;refine fin _ (mw (cs x)) _ (.inl rfl) ∅ (λv hv=>?_) ∅ ∅;rcases cc.mp hv with hv|hv
  .exact hws v (gN hv)
  .rcases aA.mp hv with rfl|hv
   .exact hws _ (cY ew)
   .exact hws v (gO hv)
 have er1:tl (ws.eraseIdx k)+(w.length+1)=tl ws:=BA ew;have er2:((ws.eraseIdx k).map λu=>bc u+1).sum+(bc w+1)=(ws.map λu=>bc u+1).sum:=BA ew;have er3:∀v∈ws.eraseIdx k,mw (cs v)<=mw (cs x):=λv hv=>hws v (List.mem_of_mem_eraseIdx hv);show wSs _ (.cons _ _) _ _;refine bC (y==4) ⋯ (λ_=>?_) λ_=>?_
 .show wSs _ (.cons _ _) _ _
  have e:(ws.map D.str).take k++(ws.map D.str).drop (k+1)=(ws.eraseIdx k).map .str:=by
   rw[dJ,bP,gK,gL]
  have sl1:slD (.lst (ws.map .str)) none (some (k:Int))=some (.lst ((ws.map D.str).take k)):=by
   show some (D.lst (cutD _ _ _))=_;rw[Lu]
  have sl2:slD (.lst (ws.map .str)) (some ((k+1:Nat):Int)) none=some (.lst ((ws.map D.str).drop (k+1))):=by
   show some (D.lst (cutD _ _ _))=_;rw[Ee]
  refine eh (.lst ((ws.eraseIdx k).map .str)) (cW (fm (x:=.lst (ws.map .str)) (l:=none) (h:=some (k:Int)) ⋯ rfl ⋯ sl1) (fm (x:=.lst (ws.map .str)) (l:=some ((k+1:Nat):Int)) (h:=none) ⋯ ⋯ rfl sl2) (by
   rw[<- e]
   exact if_pos (by
    rw[bw,aR];exact aX (show _<=(ws.map D.str).length by lia) (cG hl1)))) ⟨_,rfl,?_⟩
  exact fin (ws.eraseIdx k) (mw (cs x)) _ (.inr rfl) ∅ er3 ∅ ∅
 show wSs _ (.cons _ _) _ _;refine bC (y==5) ⋯ (λ_=>?_) λ_=>?_
 .show wSs _ (.cons _ _) _ _
  have em:(ws.map D.str).eraseIdx k=(ws.eraseIdx k).map .str:=by
   rw[dJ,dJ,bP,gK,gL]
  have ep:=DT (cx:=⟨PP.run Gs gls n,gls,hfs Gs⟩) (δ:=(sC x c i u (.own (ws.map .str)) (.val (.int k)) (.val (.int y)))) (i:=5) (j:=.var 6) rfl rfl gk ∅;rw[em]at ep;refine bz.mpr (AV (n:=((k+1:Nat):Int)) (d:=.str w) (ds1:=(ws.eraseIdx k).map .str) rfl (xg (d:=.int ((k+1:Nat):Int)) ⋯ (mi ep)) rfl ⟨∅,∅,?_⟩ ?_)
  .rw[<- em];exact cJ (List.length_eraseIdx_le _ _) hl1
  have e:((ws.eraseIdx k).map D.str).take ((k+1:Nat):Int).toNat++D.str w::((ws.eraseIdx k).map D.str).drop ((k+1:Nat):Int).toNat=((ws.eraseIdx k).take (k+1)++w::(ws.eraseIdx k).drop (k+1)).map .str:=by
   rw[de,bP,aw,gK,gL]
  rw[e];have t1:tl ((ws.eraseIdx k).take (k+1)++w::(ws.eraseIdx k).drop (k+1))=tl (ws.eraseIdx k)+(w.length+1):=ot (k+1);have t2:(((ws.eraseIdx k).take (k+1)++w::(ws.eraseIdx k).drop (k+1)).map λu=>bc u+1).sum=((ws.eraseIdx k).map λu=>bc u+1).sum+(bc w+1):=ot (k+1);refine fin _ (mw (cs x)) _ (.inl rfl) ∅ (λv hv=>?_) ∅ ∅;rcases cc.mp hv with hv|hv
  .exact er3 v (gN hv)
  .rcases aA.mp hv with rfl|hv
   .exact hws _ (cY ew)
   .exact er3 v (gO hv)
 .show wSs _ (.cons _ _) _ _;obtain⟨q,eq,hq⟩:=oB (c:=c/41) (m:=10) ∅;have cl:CW.length=10:=by decide
  obtain⟨b,eb⟩:∃b,CW[q]?=some b:=⟨_,aN (by rw[cl];exact hq)⟩;obtain⟨b1,b2,b3⟩:=NA b (cY eb);refine zi (d:=.str b) (gp (x:=.lst (CW.map .str)) (y:=.int q) ⋯ (cW (x:=.int (c/41)) (y:=.int ((10:Nat):Int)) (cW (x:=.int c) (y:=.int 41) ⋯ ⋯ ⋯) ⋯ ((Iy (c/41) ⇑0).trans (by rw[eq]))) (atI_nat (by rw[bH,eb];rfl))) (ds:=ws.map .str) rfl (k:=k) rfl (by rw[ak];exact hk) ?_;rw[show(ws.map D.str).set k (.str b)=(ws.set k b).map .str from List.map_set.symm];have t1:tl (ws.set k b)+(w.length+1)=tl ws+(b.length+1):=sum_set ew;have t2:((ws.set k b).map λu=>bc u+1).sum+(bc w+1)=(ws.map λu=>bc u+1).sum+(bc b+1):=sum_set ew;refine fin (ws.set k b) (mw (cs x)+4) _ (.inl rfl) ∅ (λv hv=>?_) ∅ ∅;rcases List.mem_or_eq_of_mem_set hv with hv|rfl
  .have:=hws v hv;lia
  .lia
def pot:Nat->Nat
 |0=>3300
 |k+1=>3*pot k/2
def Ka:∀k:Nat,k<22->3*pot k<=50331000:=by decide
def Gn:∀k:Nat,k<21->3*pot k<=33554000:=by decide
def Bd(k:Nat)(x:Str):Prop:=x.length+mw (cs x)+20<=pot k/\bc x<=60+k
def MH{k:Nat}{x:Str}(h:Bd k x)(hk:k<=21):PP.run Gs gls 199 26 [.str x]=some (.bl true):=by
 have:=Ka k ∅;obtain⟨h1,h2⟩:=h;exact yf 197 x (aK (show x.length<16777000 by lia) ⇑0) (by rw[lT];lia) ∅
def Jv:tok 8 "by":=⟨⇑0,⇑0⟩
noncomputable abbrev sM(ns:List Int)(a b:Str)(s2 s3 s4 s5:Sl):PP.Loc:=[.val (.lst (ns.map .int)),.val (.lst ([a,b,"by"].map .str)),s2,s3,s4,s5]
def main(ns:List Int)(hl63:ns.length<=63):PP.run Gs gls 200 27 [.lst (ns.map .int)]=some (.bl true):=by
 apply dq;refine bU d_law rfl rfl rfl ?_;simp only[d_law,init,SI,Nat.reduceAdd,Nat.reduceSub];obtain⟨_,ec0,c0,rfl⟩:=si 198 ns 0 ⇑0 ⇑0;obtain⟨_,ea,a,rfl,ha⟩:=Co 198 c0;obtain⟨_,ec1,c1,rfl⟩:=si 198 ns 1 ⇑0 ⇑0;obtain⟨_,eb,b,rfl,hb⟩:=Co 198 c1;obtain⟨_,ec2,c2,rfl⟩:=si 198 ns 2 ⇑0 ⇑0;obtain⟨_,ec3,c3,rfl⟩:=si 198 ns 3 ⇑0 ⇑0;have hn:([a,b,"by"]:List Str).length=3:=rfl
 have hnm:∀t∈([a,b,"by"]:List Str),tok 8 t:=λt q=>by
  simp only[aA,bQ,or_false]at q;rcases q with rfl|rfl|rfl
  .exact ha
  .exact hb
  .exact Jv
 obtain⟨_,ed,t0,s0,rfl,l1,l2⟩:=kx [a,b,"by"] hn hnm 4 199 (c2/6) [] (by omega) (by omega) (λt q=>by cases q) ⇑0;obtain⟨_,et,t1,s1,rfl,l3,l4⟩:=wq 194 (c2/6) [a,b,"by"] hn hnm;refine eh (.lst ([a,b,"by"].map .str)) ?_ ⟨_,rfl,?_⟩
 .have e1:cS ⟨PP.run Gs gls 199,gls,hfs Gs⟩ (.cons (.call 13 (.cons (.call 12 (.cons (.var 0) (.cons (.int 0) .nil))) .nil)) (.cons (.call 13 (.cons (.call 12 (.cons (.var 0) (.cons (.int 1) .nil))) .nil)) (.cons (.str "by") .nil))) [.val (.lst (ns.map .int)),.no,.no,.no,.no,.no]=some ([.str a,.str b,.str "by"],[.val (.lst (ns.map .int)),.no,.no,.no,.no,.no]) :=
   bh (cH [.int c0] (bh (cH [.lst (ns.map .int),.int 0] ⋯ ec0) rfl) ea) (bh (cH [.int c1] (bh (cH [.lst (ns.map .int),.int 1] ⋯ ec1) rfl) eb) ⋯)
  simp only[evE,e1,ae,ah];exact if_pos (by show 3<=sizeLine;decide)
 show wSs _ (.cons _ _) (sM ns a b .no .no .no .no) _;refine iS [.lst (ns.map .int),.int 2] ⋯ ((lN ec2).mpr ⟨_,rfl,?_⟩);show wSs _ (.cons _ _) (sM ns a b (.val (.int c2)) .no .no .no) _;refine eh (.str t0) (gp (x:=.tup [.str t0,s0]) (y:=.int 0) (cH [.int (c2/6),.int 4,.lst [],.lst ([a,b,"by"].map .str)] ⋯ ed) ⋯ (atI_nat (j:=0) rfl)) ⟨_,rfl,?_⟩;show wSs _ (.cons _ _) (sM ns a b (.val (.int c2)) (.val (.str t0)) .no .no) _
 have rest:∀t:Str,t.length<=700->bc t<=60->wSs ⟨PP.run Gs gls 199,gls,hfs Gs⟩ (fV 4 d_law.body) (sM ns a b (.val (.int c2)) (.val (.str t)) .no .no) (retS λd=>d=.bl true):=λt h1 h2=>by
  show wSs _ (.cons _ _) _ _;obtain⟨zs,ez,hz,lz⟩:=yR D.int ns (some 4) (some 24)
  have lz2:(zs.map D.int).length<=20:=by
   rw[<- ez];unfold cutD;rw[bw,show(24:Int)=((24:Nat):Int)from rfl,show(4:Int)=((4:Nat):Int)from rfl,HT.sIx_nat,HT.sIx_nat,ak];omega
  rw[ak]at lz2
  have eI:evI ⟨PP.run Gs gls 199,gls,hfs Gs⟩ (.sq (.bin .add (.lst (.cons (.call 12 (.cons (.var 0) (.cons (.int 3) .nil))) .nil)) (.sl (.var 0) (.yes (.int 4)) (.yes (.int 24))))) (sM ns a b (.val (.int c2)) (.val (.str t)) .no .no)=some ((c3::zs).map .int,(sM ns a b (.val (.int c2)) (.val (.str t)) .no .no)):=by
   refine pN (d:=.lst ((c3::zs).map .int)) (cW (x:=.lst [.int c3]) (y:=.lst (zs.map .int)) ?_ (fm (x:=.lst (ns.map .int)) (l:=some 4) (h:=some 24) ⋯ ⋯ ⋯ (by rw[<- ez];rfl)) (if_pos ?_)) rfl
   .have h9:cS ⟨PP.run Gs gls 199,gls,hfs Gs⟩ (.cons (.call 12 (.cons (.var 0) (.cons (.int 3) .nil))) .nil) (sM ns a b (.val (.int c2)) (.val (.str t)) .no .no)=some ([.int c3],(sM ns a b (.val (.int c2)) (.val (.str t)) .no .no)):=mi (cH [.lst (ns.map .int),.int 3] ⋯ ec3);simp only[evE,h9,ae,ah];exact if_pos (by show 1<=sizeLine;decide)
   .rw[ak];exact big (by show 1+zs.length<=_;omega)
  refine jl _ eI ?_;refine iT D.int (λxs δ=>∃(k:Nat)(x:Str)(s:Sl),k+xs.length<=21/\Bd k x/\δ=(sM ns a b (.val (.int c2)) (.val (.str x)) s .no)) ?_ ?_ (c3::zs) _ ⟨0,t,.no,by rw[ag];omega,⟨by have:=qV (cs t);rw[bS]at this;show _<=3300;omega,by omega⟩,rfl⟩
  .rintro y xs δ ⟨k,x,s,hk,hB,rfl⟩;rw[ag]at hk;have r1:=MH hB (by omega);obtain⟨_,eo,q,rfl,o1,o2⟩:=MI 193 y [a,b,"by"] hn hnm;have r2:PP.run Gs gls 199 26 [.str q]=some (.bl true):=yf 197 q (cJ o1 ⇑0) (by rw[lT];omega) (by omega);have hp:=Gn k (by omega);obtain⟨_,eC,z,rfl,z1,z2⟩:=zH 198 x y (by have:=hB.1;omega) (by have:=hB.2;omega);refine⟨(sM ns a b (.val (.int c2)) (.val (.str x)) (.val (.int y)) .no),⋯,?_⟩;show wSs _ (.cons _ _) _ _;refine bC (!true||!true) (iO (gx (kC [.str x] ⋯ r1)) (gx (kC [.str q] (mi (cH [.int y,.lst ([a,b,"by"].map .str)] ⋯ eo)) r2))) (λh=>by cases h) λ_=>?_;show wSs _ (.cons _ _) _ _;refine iS [.str x,.int y] ⋯ ((lN eC).mpr ⟨_,rfl,dr.mpr ?_⟩);refine⟨k+1,z,.val (.int y),by omega,⟨?_,by have:=hB.2;omega⟩,rfl⟩;have:=hB.1;show _<=3*pot k/2;omega
  .rintro δ ⟨k,x,s,hk,hB,rfl⟩;rw[aL]at hk;have r1:=MH hB (by omega);show wSs _ (.cons _ _) _ _;refine eh (.lst [.non,.int 0,.bl true,.int (c2%10^30),.lst [.str x],.tup [.str x],.dct [x] [.str x],.tup [.str "yes"],.lst [],.tup [.str "word",.str "p",.tup []]]) ⋯ ⟨_,rfl,?_⟩;show wSs _ (.cons _ _) _ _;obtain⟨d,hd,ed⟩:=vE (ds:=[D.non,.int 0,.bl true,.int (c2%10^30),.lst [.str x],.tup [.str x],.dct [x] [.str x],.tup [.str "yes"],.lst [],.tup [.str "word",.str "p",.tup []]]) (j:=c2%10) (bx _ ⇑0) (by have:=ba c2 (show(0:Int)<10 by decide);exact this)
   have hs:fU [d]=some (.bl false):=by
    simp only[aA,bQ,or_false]at hd;rcases hd with rfl|rfl|rfl|rfl|rfl|rfl|rfl|rfl|rfl|rfl<;>rfl
   have r2:PP.run Gs gls 199 25 [d]=some .non:=Cn 198 d hs (by omega);refine bR (.bl (true&&true)) (vx (cH [.str x] ⋯ r1) λ_=>sT (x:=.non) (y:=.non) (cH [d] (mi (gp (x:=.lst [.non,.int 0,.bl true,.int (c2%10^30),.lst [.str x],.tup [.str x],.dct [x] [.str x],.tup [.str "yes"],.lst [],.tup [.str "word",.str "p",.tup []]]) (y:=.int (c2%10)) ⋯ ⋯ ed)) r2) ⋯ rfl) rfl
 have l1:t0.length+6<=44*16:=l1;have l2:bc t0+2<=32:=l2;refine bC (c2%6==4) ⋯ (λ_=>?_) λ_=>rest t0 (by omega) (by omega);show wSs _ (.cons _ _) _ _;exact eh (.str t1) (gp (x:=.tup [.str t1,s1]) (y:=.int 0) (cH [.int (c2/6),.lst ([a,b,"by"].map .str)] ⋯ et) ⋯ (atI_nat (j:=0) rfl)) ⟨_,rfl,rest t1 l3 l4⟩
end P1
end
section
namespace P1
open PySem L2 PP
end P1
end
section
namespace PySem.W.Fast
open Lean in
local macro_rules|`(#print $s:str)=>do
 let mut a:Array Syntax:=#[]
 let mut v:=0
 let mut k:=0
 for c in s.getString.toList do
  let n:=c.toNat
  v:=v*62+if n<58 then n-48 else if n<91 then n-55 else n-61
  k:=k+1
  if k=11 then
   let i:=mkIdent (.mkSimple s!"tw{v}")
   a:=a.push (<-`(def $i :=0)).raw
   v:=0
   k:=0
 return mkNullNode a
#print "9fSQ6kjUtNZ46kJWTQtri59lL9sT80jYg7k2dRWBiTwWEjJo0VlipiLBlnqVEq0rUODA4zZ8LCIUxA5xoNvclvOX4HDYvczzJPZG3DW1A1l5CmAPAoifQFDVH4V965TuUvz3AiU3khf0x9u74lMsisMpDqLUY04kUSNH9EpvG0t3bmWC5chx7iCrc6iEMQBi9zcvTV13Qwk6Etg3hCeEOUa1sFBj2rmhEKOnmiU4Zjr9hE84S98E5AXUVrfTOGABhkFxoAFPAtjpxprjI4dD64OTBM2pkTFz28GCzpw6kLcmAwIVVGh3LNWSoDzNnlM1jjjaisO4NeDcA00asYZ3oHQki2kAq1Y5AXpSFHSz82jBMasvxjbjfrGXBdSz6ER1E9uvtlFo8ZuDG7I3pCKEvba78vxbLRoW70CXpyAzlaNTZ5HJb9yFtOWs14krmJWbnsLBhbwbpj7NjE3UsClP6H3TqJXRzUPNSreKKI3fjtKkUln4UcnA3DHCP31Evsp29MmJP0cLkjLlmE6UI8PaFGcBMLwHC7sJWQaBQfHR84ZgxkQHx7P98TSJUJ5WGQiI9waatvPFauY8lLxn1YKqG1CdEJc1M1sRlWbPbTV7EsSjWVglTtHBKoYX3XwYdy6uKPasqTQpB2yso3NWDrOD7lUi7BkRSx2498Htuqy1jD4KC7w3YUpaNDKi2LXBT7cAAuwQgt6gPeE2fUWIbUL6uJ7fKBMUn1LAMJg6VycjdQMQ5R0k2kGFRSq8ROc0lp8fM33ajKv3HB3TgCrCK8ItHnLj36rfiImWt5GFHlZMR9fS4wBZgQo6ckKue01UdqnRTyPCHlmRx6ozVKfKHuWfc4hFjN3vpPSrfkY0IAGwCtQnvhRg9MzLmkG5vm35aT2AlbWB8vHQxlVtbrwVR0axm1LMXQa07mngsmQet29G5lM9vBCZNTIQWJP2UTBVsKHZDH7SbrDD71xdOoL0fr75epULC6uyVn1GxSl39LL8EKMa0pH0gra39usXCOKDOnACegF0WWiDRtJnLc6yzrxfy6U2sovgnWdbHcW464pqorgK2dzyWWeq1cF34aoYCwEuaJcG87bLoH7OA3IgTUmCvvlHdfPqWav6PaA6GCar2kadg4SwUY6jdT4eHHJBYBvhmIK5jMY92ZIZcr57wawtzjF1L21aiPeuPTZU485sShKTDNe7ZP7JfGfiXyLNHUmQ0ye6qLwCleTfHXIR8WELGzUMEU8BgBp1fx4IG9AMBwzG34JfdHz7kwcEuMF7CnEOzoFcfbDKIyiyg8xooR12P7E6ye2M0K9xsSXEGQtbCJoxDVrsB1zFE5T2wggOmjC68tNwBIKoj5o5iOClzmHQHaOLSEv7dtwIajYeNcYbS73CSC2Hz3QcrGwdxcz1ivOYImLMB1BPeDRFPiZvqhxaa5EkVrUvO8a3TEH7WCAMxTXg3G8ponhdYfQHtrmMCFAxRp0kMgIDwZFTL7AQbrxZpyl8Blu62kdOvtV3rldrO3ZTEDBkhqDcOkuCb9PXb4OvJx95Ip7KuBYYdhGIWBMW30bjmkLtxb1PbG8EzKdlRPpmn3o2G92D7Y6NhnBJEYizadFpnZLHr7EduDI0tJHO9GTDwVXe3MwZLkeYXGW2mB7OjmTkdS9BSW1K5ndLD2Th8Baqjsg5EFKvOIytb3kHDUH331LuD5GEZZaLq2lZx8TN1ErUSqXq7fLN6nFdxTiIBzPiCDW2vSKWzPopqARfZ7snI32hE1s86aMFnsEE2QT5AefuhpV1fa7ZeEtmfTukz8kyXLIPatcqHTEOrsYR46m6eL1JNhq8Nk185Y989Ch8D40L1ielHs1A5uilkOjUwGW7941JN3hdbOJXlNhvBqsAwLKOtNzzv55o5lk0xiPa5muIsoGD3gb9xyLH9cX7Yo7zkAvA3TSwgn2kDBRfIntmrUm7rKkGWyQPJeEucKePo765WCf1rZxIDOkm2wZNqro3giLDR4XwVz7Pye4SggOscjpe88ls9EuCnJGmEisPnpQDyEY4aZn6NEZHhV8sagENWc4w1HQrtruFRNgw1qxUgK6mhhI4frrkDmOADu3FNmW1AVPXD8KUQHarkg8U6ca5v8aym34Hx6mIQo1DTy7C1P8IfNqy1CoPTBMrHXc98jY0gmymX0hKBESXqKa4tqHIglUEYxDf49NG2bMVGigR9j1WGuSjpNj0Gx74ooCWUlHORVUtk6iB39YVdwnC6IQ71D85PYIxF5nCu067D6TfV68YoFTHfsaAGKza7pj35vmnKwstBQtZPuY2Bm7FG2bIMe8hBOYY7NQXqEMWeUFkf5bs437ngocvIpGJ7KX6ImFkGG7M86Z6NuQO29IbQJxYy13q2Ofpiark2m9AU8RQjkAwqSAfOciE9E40pK1gDEk2C7mn2vW5hgl8GBj24qZkIBQ75b8zPJ1ASp0w29wLM3uStBPOJIZ1NFYs35d2yeHfzExwXzJsukZ2p350t5GCbnjZ4we51e86VVdpAZUKEv56NC1uma7gJXJxczJfgIAl3ikdWlUH1aTyjKv8tldHJBmXxWMzXr9zwELWz8ZA11dl0ZgbuVj9HNEb6qj9wyA5DRICPSxrBj5vByCLqfb4QGf8pmn2XAzAH0KmB0Amhb09baxIZlkOXYIkeJgw55WEO3gP3S0Tm3GVGKFIcnrLuYa22mUZuF88J6Kvm10e3hnZ0InnBXejXinmJ0Je2CUDvMK1XRDhORToZ0BnLxK2TSd4F7xaqWoVRwfZJs7kTc6Iozb4PyLgffyIfYHu1269N6KepKbNM9JmiB6X5fSDlI5xh27LCX1mxfPb1b0H4DaXlLBFjIM1t9hiVPJmIYY9xkCEjZUJpi3BlRD0qrBGHPaPZAyibExQkinFLJds7CXR3u3OqqwGiBZj26cBwiAABVRpcLbz235DANsbdkWtG43BxAjl0QOHUD9t2pXcBvFh1wVGU6ibR8zy3wqc2A3hE9K46Q3iQ5t8lB4oSTVJ9I1PW7H1ls5EKL6B2mRTFmqi7ww0zoB5Nmv8qPD5uOuH2rE62LBa8Mv4V3thh7NynXmBIkUirDWA0BDBcJ53P1ziXY9LfnP1amAON0dQK8M39LbB31KjUUpnaslK6onXCwaSl65Yr3hfyycnb6zDZnioI1vpJjxBtHceeEv8hadWwW9i23JiLRLDaNvdc79uvlGkuPkp8fpXpPQA7p29FuIH3zBbhdEGbMVq59KnCDKKCqaNvnPq8t5QtBIFWT0DBrf2mxBnc242WPP4YxJ9OClOL9NDp1rhBVOkRzcjTPRF2E9fNoD1eTHmcOC1EpiA75wssKiru4iH9DHLk4OO7mZ0egy2Tl1rHdDh6do7Oz5v9EYOxDoevCBA4YtGvGxZRzZDVEAIVPLVpf"
end PySem.W.Fast
open PySem PySem.W PyProof.Rows
set_option maxRecDepth 100000 in
set_option maxHeartbeats 0 in
theorem PySem.Challenge.cw_cutless_k52_statements_refused_holds : PySem.Challenge.rw_cutless_k52_statements_refused.Holds := by
 w_on
 refine PySem.W.holds_law ⇑0 λsaid=>?_
 k_head;(case hw=>w_witness2)
 k_fill
 refine PP.walk_run (l:=PySem.Challenge.rw_cutless_k52_statements_refused) (G:=P1.Gs) (Gd:=P1.Gd) (gl:=P1.gls) (gn:=P1.gns) (i:=27) (fd:=P1.d_law) (x:="_law_script") P1.main rfl rfl rfl rfl (λw h Y=>⟨PySem.W.kIn_of Y,λt ht=>by cases ht⟩) rfl λw mg h KX G=>?_
 have mz:mg "ValueError"=none:=by
  refine PySem.W.mg_none_of KX G ?_
  k_is
 have hz:=PP.Clss.get KX G (l:=["CutlessError","NoCut","NoName","NoProof","NoRow","NoText","NotCleared","NotPlain","TooGreat"]) (by
  iterate 9 (apply PP.Clss.cons;k_is;kernel_rfl)
  exact .nil)
 have hu:=PP.Ups.get KX G (l:=P1.ups) (ps:=P1.pcs) (by
  iterate 1 (apply PP.Ups.cons;k_is;kernel_rfl;(iterate 9 (apply PP.Us.cons;k_is;kernel_rfl));exact .nil)
  exact .nil)
 have hT:=λn(h:n∈(["NoText"]:List Str))=>hz n (ud ((by decide:∀n∈(["NoText"]:List Str),List.elem n (["CutlessError","NoCut","NoName","NoProof","NoRow","NoText","NotCleared","NotPlain","TooGreat"]:List Str)=true) n h));apply PP.xd_mk (d:=P1.d_pieces) (x:="pieces") (rs:=P1.r_pieces) (cls:=["NoText"]) (cf:=PP.cfOf P1.Gd) (gn:=P1.gns) (tp:=P1.top) (i:=24) KX G;k_is;k_is;k_is;k_is;decide;rfl;exact hT;intro o3;apply PP.xd_mk (d:=P1.d_words_in) (x:="words_in") (rs:=P1.r_words_in) (cls:=["NoText"]) (cf:=PP.cfOf P1.Gd) (gn:=P1.gns) (tp:=P1.top) (i:=25) KX G;k_is;k_is;k_is;k_is;decide;rfl;exact hT;intro o4;apply PP.xd_mk (d:=P1.d_read_term) (x:="read_term") (rs:=P1.r_read_term) (cls:=["NoText"]) (cf:=PP.cfOf P1.Gd) (gn:=P1.gns) (tp:=P1.top) (i:=26) KX G;k_is;k_is;k_is;k_is;decide;rfl;exact hT;intro o5;apply PP.xd_mk (d:=P1.d_read_word) (x:="read_word") (rs:=P1.r_read_word) (cls:=["NoText"]) (cf:=PP.cfOf P1.Gd) (gn:=P1.gns) (tp:=P1.top) (i:=27) KX G;k_is;k_is;k_is;k_is;decide;rfl;exact hT;intro o6;apply PP.xd_mk (d:=P1.d_letters_within) (x:="letters_within") (rs:=P1.r_letters_within) (cls:=["NoText"]) (cf:=PP.cfOf P1.Gd) (gn:=P1.gns) (tp:=P1.top) (i:=28) KX G;k_is;k_is;k_is;k_is;decide;rfl;exact hT;intro o7;apply PP.xd_mk (d:=P1.d_read_first) (x:="read_first") (rs:=P1.r_read_first) (cls:=["NoText"]) (cf:=PP.cfOf P1.Gd) (gn:=P1.gns) (tp:=P1.top) (i:=29) KX G;k_is;k_is;k_is;k_is;decide;rfl;exact hT;intro o8;apply PP.xd_mk (d:=P1.d_read_bounded) (x:="read_bounded") (rs:=P1.r_read_bounded) (cls:=["NoText"]) (cf:=PP.cfOf P1.Gd) (gn:=P1.gns) (tp:=P1.top) (i:=31) KX G;k_is;k_is;k_is;k_is;decide;rfl;exact hT;intro o10;apply PP.xd_mk (d:=P1.d_read_statement) (x:="read_statement") (rs:=P1.r_read_statement) (cls:=["NoText"]) (cf:=PP.cfOf P1.Gd) (gn:=P1.gns) (tp:=P1.top) (i:=32) KX G;k_is;k_is;k_is;k_is;decide;rfl;exact hT;intro o11;apply PP.kd_mk (d:=P1.d__law_read) (x:="_law_read") (rs:=P1.kr__law_read) (ij:=1) (jj:=3) (post:=P1.kp__law_read) (ks:=P1.kk__law_read) (ls:=P1.kl__law_read) (ups:=P1.ups) (ps:=P1.pcs) (cf:=PP.cfOf P1.Gd) (gn:=P1.gns) (tp:=P1.top) (i:=47) KX G;k_is;k_is;k_is;k_is;decide;rfl;exact mz;exact λn h=>hz n (ud ((by decide:∀n∈P1.pcs,List.elem n (["CutlessError","NoCut","NoName","NoProof","NoRow","NoText","NotCleared","NotPlain","TooGreat"]:List Str)=true) n h));exact hu;intro o25;refine⟨PP.top_mk (tp:=P1.top) (is:=P1.pls) KX G ?H (PP.sub_app (b:=[P1.x_pieces,P1.x_words_in,P1.x_read_term,P1.x_read_word,P1.x_letters_within,P1.x_read_first,P1.x_read_bounded,P1.x_read_statement])) ?W ⇑0 ?B ?GL (?GD) (λf h=>by cases h),λt ht=>by cases ht⟩
 case W =>
  exact .cons o3 rfl rfl (.cons o4 rfl rfl (.cons o5 rfl rfl (.cons o6 rfl rfl (.cons o7 rfl rfl (.cons o8 rfl rfl (.cons o10 rfl rfl (.cons o11 rfl rfl (.nil))))))))
 case H =>
  iterate 3 (apply PP.Hds.cons;k_is;k_is;k_is;k_is;decide)
  refine .own o3.dn ?_;refine .own o4.dn ?_;refine .own o5.dn ?_;refine .own o6.dn ?_;refine .own o7.dn ?_;refine .own o8.dn ?_
  iterate 1 (apply PP.Hds.cons;k_is;k_is;k_is;k_is;decide)
  refine .own o10.dn ?_;refine .own o11.dn ?_
  iterate 13 (apply PP.Hds.cons;k_is;k_is;k_is;k_is;decide)
  refine .own o25 ?_
  iterate 2 (apply PP.Hds.cons;k_is;k_is;k_is;k_is;decide)
  exact .nil
 case B=>kernel_rfl
 case GL=>repeat' first|exact .nil|exact .str|exact .int|exact Nat.le_of_ble_eq_true rfl|(apply PP.InK.tup;k_is)|(apply PP.Gls.cons;k_is)|apply PP.InKs.cons
 case GD =>
  intro n l h;rw[show(PP.Tbs.gds:List (Str×List (Str×Int)))=(("WITHIN":Str),([("yes",0),("no",0),("not",1),("and",2),("or",2),("if",2)]:List (Str×Int)))::_ from rfl,bp]at h;split at h
  .rename_i hn;cases h;rw[eq_of_beq hn];apply PP.gd_mk KX G;k_is;kernel_rfl;decide;kernel_rfl
  cases h
end
