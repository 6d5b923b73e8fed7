import PyProof.Rows.All
import Wide.All
import OpenK.AllK
import Wide.FinOn
import Lean
import PyProof.EqAt
import PyProof.EqKinds
import PyProof.TupleCall
import KE.KSortAsk
import KE.KIntText
import PyProof.MinMaxWalk
import KE.KMinBuiltin
import KE.KRevIter
import PyProof.MeetsStr2
import KE.KTabLook
import KE.KIsAll
import PyProof.StrLawsIn
import PySem.Challenge.RW_cutless_k52_statements_refused
local macro_rules|`(∅)=>`(by lia)
local macro_rules|`(⋯)=>`(by kernel_rfl)
local macro_rules|`(⇑$_)=>`(by decide)
local macro_rules|`(↥$_)=>`(by simp)
local macro_rules|`(command|def $n:declId $s:optDeclSig $v:declVal)=>`(command|noncomputable def $n:declId $s:optDeclSig $v:declVal)
local macro_rules|`(tactic|decide)=>`(tactic|decide +kernel)
open And renaming intro->aG
open Array renaming toList_extract->fg,getElem?_eq_some_iff->fh,toList_inj->ft,toList_append->lI,length_toList->lJ,toList->nH,getElem?_toList->vU,getElem?_mapIdx->vV
open Bool renaming and_eq_true->aa,false_ne_true->aq,or_eq_true->bH,eq_iff_iff->bM,false_eq_true->cK,and_true->cV,not_eq_true'->de,not_eq_false'->dw,or_eq_false_iff->fm,or_eq_true_iff->fI,false_or->mL,true_or->nY,or_true->nZ,not_true->ur,and_self->uu,eq_false_iff->EE
open False renaming elim->bz
open ForInStep renaming yield->jm
open Iff renaming rfl->gS
open Int renaming emod_lt_of_pos->bf,emod_nonneg->bB,toNat_natCast->dg
open List renaming length_cons->ag,length_map->ak,mem_cons_of_mem->ao,map_cons->aw,mem_cons_self->ay,length_append->az,mem_cons->aA,size_toArray->aB,replicate->aC,getElem?_eq_some_iff->aF,getElem?_set_ne->aM,length_nil->aN,getElem?_eq_getElem->aO,mem_append_right->aP,findSome?_cons->aR,length_drop->aS,sum_cons->aY,length_set->bb,length_reverse->bg,lookup_cons->br,append_nil->bt,filterMap_cons->bw,length_take->bA,getElem?_set_self->bI,getElem?_map->bJ,all_eq_true->bO,drop_eq_getElem_cons->bQ,not_mem_nil->bS,mem_singleton->bY,mem_append_left->bZ,mem_append->cc,map_append->cg,all_cons->cj,take_of_length_le->cn,getElem?_append_left->cz,append_assoc->cB,take_append_drop->cD,mem_map->cG,reverse_cons->cN,length_singleton->cR,length_replicate->cS,range'->cY,mem_of_getElem?->cZ,map_nil->dq,range->du,extract_eq_take_drop->dE,getElem?_take_of_lt->dG,any_cons->dH,eraseIdx_eq_take_drop_succ->dN,drop_eq_nil_of_le->dY,set_append_right->eO,reverse_reverse->fj,getElem?_append_right->fk,drop_length->fu,getLast?_eq_getElem?->fE,forIn_cons->fO,find?_cons->fP,length_eq_zero_iff->fZ,getElem?_replicate->gb,findIdx?_eq_some_iff_getElem->gc,mem_range->gg,length_range->gh,drop_zero->gi,getElem?_eq_none->gE,dropLast_eq_take->gF,take_length->gG,cons_append->gH,map_take->gM,map_drop->gN,mem_of_mem_take->gQ,mem_of_mem_drop->gR,nodup_cons->ib,nil_append->ic,foldl_cons->ie,take_left->iM,contains_cons->iN,length->jh,getElem?_set->ji,count_append->jk,map_map->jS,reverseAux->ko,lookup_nil->kq,getElem?_reverse->kJ,count_cons_of_ne->kK,tail_drop->kZ,length_dropLast->lb,getLast?_append->lg,length_pos_iff->lN,filter_eq_self->lO,eraseDups_cons->lP,zip_cons_cons->mM,getElem?_drop->mO,findIdx?_cons->mP,filterMap_nil->mQ,mem_range'_1->nX,eraseIdxIfInBounds_toArray->ox,drop_append_of_le_length->qa,take_left'->qd,of_mem_zip->qe,findIdx?_eq_none_iff->uf,mem_of_elem_eq_true->um,all_nil->vT,drop_eq_nil_iff->zh,count_cons_self->zi,take_succ_cons->Aw,replicate_zero->Ax,replicate_succ->Ay,map_congr_left->Az,getElem_of_mem->AA,drop_succ_cons->AD,mem_filterMap->AG,getLast?_cons->AH,take_add_one->EA,reverse_drop->EB,nodup_append->EC,range'_succ->EI,map_reverse->EJ,getElem_mem->EK,sum_append->HQ,mem_filter->HR,head?_drop->HS
open Nat renaming le_refl->aD,lt_of_lt_of_le->aK,ne_of_lt->aU,le_trans->aZ,zero_le->bP,le_of_lt->cI,lt_of_le_of_lt->cL,lt_irrefl->cX,lt_succ_of_lt->jl,le_of_eq->kn,min_self->ot,lt_or_ge->ou,min_le_right->pY,min_eq_right->pZ,not_lt_zero->qx,min_le_left->qy,min_eq_left->qz,not_lt->ue,zero_add->xM,sub_zero->xN,add_zero->xO,add_le_add_left->AF,lt_succ_self->HN,le_max_right->HP,le_max_left->II
open Nat.succ renaming inj->lM
open Option renaming bind_eq_bind->ae,bind_eq_some_iff->af,bind_some->ah,map_eq_some_iff->aj,map_some->bo,isNone_iff_eq_none->cP,bind_none->fi,map->fM,getD_some->nW,isSome_iff_exists->rM,map_eq_none_iff->uk,isSome_map->Av,getD_none->AE
open Option.some renaming inj->bU
open Prod renaming fst->iL
open PyProof.Rows renaming callWith_type1->gA,AllBare->jU,slot_tuple_getitem->kN,assignInOrder_cons->pX,Subscript_->xJ,subscriptTail_builtinR->Eu,IntsAre->ED,tail_any->HK,IsTup->HU,assignInOrder_nil->LZ
open PyProof.Rows.IsTup renaming new->oy
open PySem renaming Value->ai,Shared->au,Addr->av,Expr->aE,wpAny_bind->aI,Program->aQ,wpAny_pure->bh,World->bD,Around->bE,Stmt->bG,Heap->bW,wpAny_truthy_bool->bX,wpAny_mono->cw,wpAny_newObj_type->dO,wpAny_loadPart_at->dP,Scope->dQ,Keyword->dR,call_meets->dU,FuncData->eH,wpAny_passesOwn->fc,typeIs_str->fK,Operator->gL,wpAny_field->iz,wpAny_execs_nil->iT,wpAny_isSubtype_exc->iU,wpAny_Call_Name_kw->jG,NameKind->jH,wpAny_pyIter_list->jR,wpAny_standAt->kj,wpAny_holding->kl,ExceptHandler->kr,Comprehension->ku,noFill_tuple_add->kM,PassesOwn->nV,seq_tuple_add->oO,IsPart->qb,codeAny_mono->qv,wpAny_execs_cons->uc,Arguments->ui,sizeLine_eq->uj,CmpOp->uo,wpAny_loadPart'->vN,OwnTail->vS,GenState->xQ,wpAny_getItem_list_slice->Ap,wpAny_comprehension_free->Aq,evalPart_none->Ar,compTurn_list->As,seqIndex_neg->Ew,concat_meets->Ex,codeAny_compStart_list->Ey,wpAny_isTrue_Compare1->EF,builtinLookup_eq_fast->EG,wpAny_pyIter_revIter->HH,wpAny_newFunctionEnv->HI,wpAny_loadName_local->HJ,seqIndex_of->HL,codeAny_call_builtin->HM,Const->HV,wpAny_loadName_cell->IH,wpAny_Name->LV,Result->LW,PlainAttrs->LX,wpAny_assign_Name->LY
open PySem.Builtin.Int renaming intBits->rO
open PySem.Builtin.List renaming listFitsIndex->mR
open PySem.Builtin.Slice renaming slicePlaces->eM,sliceAdjust->gO,sliceApplied->mK
open PySem.Builtin.Str renaming occurrences->cU,strKind->eZ,tooLong->rN,strSub->uh,glued->uq
open PySem.Builtin.Tuple renaming tupleExact->eY
open PySem.Calls renaming callWith_builtin->jQ,evalArgs_plain->kP,spliced_cons->mJ,Name_function_global->qA,spliced_nil->AI
open PySem.Heap renaming get?_push_of_some->ax,lt_size->aJ,get?_push_size->aX,get?_update_other->gj,SameBut->jT,size_push->lh,get?_none_of_le->lp,get?_update_self->xP
open PySem.Heap.IsSliceOf renaming new->qf
open PySem.Heap.SameBut renaming refl->ug
open PySem.NameKind renaming free->bR,cell->kO
open PySem.Obj renaming mapSeq->nG,mapFields->vQ,data_mapFields->Ez
open PySem.PassesOwn renaming never->nE
open PySem.PyData renaming str->jK,int->jL
open PySem.ScopeKind renaming function->vP
open PySem.SeqAt.EqAt renaming same->EL
open PySem.Spec renaming same->EH
open PySem.Str renaming empty->vR,ofString->xK
open PySem.StrLaws renaming occBody->dy,sliceText->iK,sliceText_from->ud,sliceText_to->vO
open PySem.Txt renaming slice->lL
open PySem.Value renaming ref->cm,none->jP,builtin->lK,str->oj,int->om,bool->qw
open PySem.Walks renaming list->Au
open Sum renaming inr->km,inl->oo
open True renaming intro->fQ
set_option Elab.async false
set_option linter.all false
set_option genInjectivity false
set_option genSizeOf false
set_option maxRecDepth 100000
set_option maxHeartbeats 4000000
section
-- CHANGE: your row's module here,as the last of these rows
namespace L2
open PySem PySem.Spec PyProof.Rows
abbrev Key:=Sum Int Str
def rm:Key->ai->Bool
 |.inl k,v=>Value.isInt k v
 |.inr x,v=>Value.isStrOf x v
def Oc(w:bD):Key->Int
 |.inl k=>hashInt k
 |.inr x=>hashStr w x
def dD:∀{k:Key}{v:ai},rm k v=true->(∃i t,k=oo i/\v=om i t)\/(∃x t,k=km x/\v=oj x t)
 |.inl i,v,h=>by
  obtain⟨t,e⟩:=Value.isInt_shape (k:=i) (v:=v) h
  exact .inl ⟨i,t,rfl,e⟩
 |.inr x,v,h=>by
  obtain⟨t,e⟩:=Value.isStrOf_shape (x:=x) (v:=v) h;exact .inr ⟨x,t,rfl,e⟩
def zU(i:Int)(t:Tok):rm (.inl i) (.int i t)=true:=by simp[rm,Value.isInt]
def zT(x:Str)(t:Tok):rm (.inr x) (.str x t)=true:=by simp[rm,Value.isStrOf]
def KR(a b:Int):decide ((oo a:Key)=oo b)=(a==b):=by
 by_cases e:a=b
 .subst e;simp
 .have h:¬(oo a:Key)=oo b:=λq=>e (Sum.inl.inj q);rw[decide_eq_false h];exact(beq_eq_false_iff_ne.mpr e).symm
def KO(a b:Str):decide ((km a:Key)=km b)=decide (a=b):=by
 by_cases e:a=b
 .subst e;simp
 .have h:¬(km a:Key)=km b:=λq=>e (Sum.inr.inj q);rw[decide_eq_false h,decide_eq_false e]
def KQ(a:Int)(b:Str):decide ((oo a:Key)=km b)=false:=decide_eq_false (λq=>nomatch q)
def KP(a:Str)(b:Int):decide ((km a:Key)=oo b)=false:=decide_eq_false (λq=>nomatch q)
def dC(prog:aQ)(w:bD):PySem.KeyKind prog w Key where
 is:=rm
 hash:=Oc w
 inj:=λv a b ha hb=>by
  rcases dD ha with⟨i,t,rfl,rfl⟩|⟨x,t,rfl,rfl⟩
  .rcases dD hb with⟨j,u,rfl,e⟩|⟨y,u,rfl,e⟩
   .injection e with e1 _;rw[e1]
   .exact nomatch e
  .rcases dD hb with⟨j,u,rfl,e⟩|⟨y,u,rfl,e⟩
   .exact nomatch e
   .injection e with e1 _;rw[e1]
 byValue:=λk v h=>by
  rcases dD h with⟨i,t,rfl,rfl⟩|⟨x,t,rfl,rfl⟩<;>rfl
 pyHash:=λhv h=>by
  rcases dD hv with⟨i,t,rfl,rfl⟩|⟨x,t,rfl,rfl⟩
  .exact wpAny_pyHash_int h
  .exact wpAny_pyHash_str h
 eqBool:=λhu hv h=>by
  rcases dD hu with⟨i,t,rfl,rfl⟩|⟨x,t,rfl,rfl⟩
  .rcases dD hv with⟨j,u,rfl,rfl⟩|⟨y,u,rfl,rfl⟩
   .rw[KR]at h;exact wpAny_eqBool_int h
   .rw[KQ]at h;exact SeqAt.EqAt.int_str i t y u _ _ _ _ h
  .rcases dD hv with⟨j,u,rfl,rfl⟩|⟨y,u,rfl,rfl⟩
   .rw[KP]at h;exact SeqAt.EqAt.str_int x t j u _ _ _ _ h
   .rw[KO]at h;exact wpAny_eqBool_str h
 «strs»:=λk x t v h=>by
  rcases dD h with⟨i,u,rfl,e⟩|⟨y,u,rfl,e⟩
  .exact nomatch e
  .injection e with e1 _;subst e1;cases v<;>rfl
def vq(prog:aQ)(w:bD)(i:Int)(t:Tok):(dC prog w).is (.inl i) (.int i t)=true:=zU i t
def vo(prog:aQ)(w:bD)(x:Str)(t:Tok):(dC prog w).is (.inr x) (.str x t)=true:=zT x t
end L2
namespace L2
open PySem PySem.Spec PyProof.Rows
set_option genInjectivity true in
inductive V where
 |non|bl (b:Bool)|int (i:Int)|str (x:Str)|ref (a:av)|ty (n:String)
 deriving DecidableEq
def RelV:V->ai->Prop
 |.non,u=>u=jP
 |.bl b,u=>u=qw b
 |.int i,u=>∃t,u=om i t
 |.str x,u=>∃t,u=oj x t
 |.ref a,u=>u=cm a
 |.ty n,u=>u=Value.type n
abbrev Vals:List V->List ai->Prop:=Paired RelV
def Vals.length{xs:List V}{us:List ai}(r:Vals xs us):xs.length=us.length:=Paired.length r
def Vals.get:∀{xs:List V}{us:List ai}{i:Nat}{x:V},Vals xs us->xs[i]?=some x->∃u,us[i]?=some u/\RelV x u
 |_,_,_,_,.nil,e=>by simp at e
 |_,_,0,_,.cons r _,e=>by simp at e;subst e;exact⟨_,rfl,r⟩
 |_,_,i+1,x,.cons _ t,e=>by
  obtain⟨u,h1,h2⟩:=Vals.get (i:=i) (x:=x) t (by simpa using e);exact⟨u,by simpa using h1,h2⟩
def Vals.set{x:V}{u:ai}(r:RelV x u):∀{xs:List V}{us:List ai}(i:Nat),Vals xs us->Vals (xs.set i x) (us.set i u)
 |_,_,_,.nil=>.nil
 |_,_,0,.cons _ t=>.cons r t
 |_,_,i+1,.cons q t=>.cons q (Vals.set r i t)
def Vals.append:∀{xs ys:List V}{us ws:List ai},Vals xs us->Vals ys ws->Vals (xs++ys) (us++ws)
 |_,_,_,_,.nil,s=>s
 |_,_,_,_,.cons r t,s=>.cons r (Vals.append t s)
def Vals.take:∀{xs:List V}{us:List ai}(n:Nat),Vals xs us->Vals (xs.take n) (us.take n)
 |_,_,0,_=>.nil
 |_,_,_+1,.nil=>.nil
 |_,_,n+1,.cons r t=>.cons r (Vals.take n t)
def Vals.drop:∀{xs:List V}{us:List ai}(n:Nat),Vals xs us->Vals (xs.drop n) (us.drop n)
 |_,_,0,r=>r
 |_,_,_+1,.nil=>.nil
 |_,_,n+1,.cons _ t=>Vals.drop n t
def gx:Option V->Option ai->Prop
 |some v,some u=>RelV v u
 |none,none=>True
 |_,_=>False
def KV{κ:Type}:List (κ×V)->List (κ×ai)->Prop:=Paired λ(p:κ×V)(q:κ×ai)=>p.1=q.1/\RelV p.2 q.2
def kV:Key->V
 |.inl i=>.int i
 |.inr x=>.str x
inductive HO where
 |lst (xs:List V)
 |tup (xs:List V)
 |dK (kvs:List (Key×V))|dT (kvs:List (List Key×V))
 |own (x:av)
 |frz (o:Obj) (u:HO)
 |tbl (ps:Array ai)
 |ext (φ:bW->Prop)
abbrev Hp:=av->Option HO
def upd(H:Hp)(a:av)(o:HO):Hp:=λb=>if b=a then some o else H b
def bK{H:Hp}{a:av}{o:HO}:upd H a o a=some o:=by unfold upd;rw[if_pos rfl]
def bF{H:Hp}{a b:av}{o:HO}(h:b≠a):upd H a o b=H b:=by unfold upd;rw[if_neg h]
def gp{H:Hp}{a b:av}{o:HO}(h:H a=some o)(h':H b=none):a≠b:=by
 intro e;subst e;rw[h]at h';cases h'
section
variable(P:aQ)(w:bD)
def eL(H:Hp)(h:bW)(a:av):HO->Prop
 |.lst xs=>xs.length<=sizeLine/\∃(its:List ai)(n:Nat),Vals xs its/\h.get? a=some {cls:=.type "list",data:=.seq its.toArray n}
 |.tup xs=>xs.length<=sizeLine/\∃its:List ai,Vals xs its/\HU h a its.toArray
 |.dK kvs=>kvs.length<=sizeLine/\(a==sysModules)=false/\∃vs,KV kvs vs/\h.DictOf (dC P w) a vs
 |.dT kvs=>kvs.length<=sizeLine/\(a==sysModules)=false/\∃xs:List (List Key×av×ai),
   Paired (λ(p:List Key×V)(q:List Key×av×ai)=>p.1=q.1/\H q.2.1=some (.tup (p.1.map kV))/\RelV p.2 q.2.2) kvs xs /\
   ∃o es ep,h.get? a=some o/\o.ExactDict/\o.data=.dict es ep/\es.toList=xs.map (entryOfKey (tupleKind (dC P w)))/\(xs.map (·.1)).Nodup
 |.own _=>∃o,h.get? a=some o
 |.frz o u=>h.get? a=some o/\eL H h a u
 |.tbl ps=>h.get? a=some {cls:=.none,data:=.fields ps}
 |.ext φ=>φ h/\(∃o,h.get? a=some o)/\∀h1 h2:bW,φ h1->(∀o,h1.get? a=some o->h2.get? a=some o)->φ h2
def HOk(H:Hp)(h:bW):Prop:=∀a o,H a=some o->eL P w H h a o
end
section
variable{P:aQ}{w:bD}{H H':Hp}{h h':bW}{a:av}{o:HO}
def eL.lt(x:eL P w H h a o):a<h.objs.size:=by
 cases o with
 |lst xs=>obtain⟨_,_,_,_,e⟩:=x;exact aJ e
 |tup xs=>obtain⟨_,_,_,p⟩:=x;exact p.lt
 |dK kvs=>obtain⟨_,_,_,_,o,_,_,e,_⟩:=x;exact aJ e
 |dT kvs=>obtain⟨_,_,_,_,o,_,_,e,_⟩:=x;exact aJ e
 |own y=>obtain⟨_,e⟩:=x;exact aJ e
 |frz ob u=>obtain⟨e,_⟩:=x;exact aJ e
 |tbl ps=>exact aJ (show h.get? a=some _ from x)
 |ext φ=>obtain⟨_,⟨_,e⟩,_⟩:=x;exact aJ e
def Paired.mapP{α β:Type}{F G:α->β->Prop}:∀{l₁:List α}{l₂:List β},Paired F l₁ l₂->(∀a b,F a b->G a b)->Paired G l₁ l₂
 |_,_,.nil,_=>.nil
 |_,_,.cons r t,f=>.cons (f _ _ r) (Paired.mapP t f)
def eL.stay(x:eL P w H h a o)(k:∀b u,(b=a\/H b=some (.own a))->h.get? b=some u->h'.get? b=some u)
 (ho:∀b,H b=some (.own a)->H' b=some (.own a))(ht:∀b xs,H b=some (.tup xs)->H' b=some (.tup xs)):eL P w H' h' a o:=by
 induction o with
 |lst xs=>obtain⟨z,its,n,r,e⟩:=x;exact⟨z,its,n,r,k _ _ (.inl rfl) e⟩
 |tup xs=>obtain⟨z,its,r,ob,e,c⟩:=x;exact⟨z,its,r,ob,k _ _ (.inl rfl) e,c⟩
 |dK kvs=>obtain⟨z,y,vs,r,ob,es,ep,e,c⟩:=x;exact⟨z,y,vs,r,ob,es,ep,k _ _ (.inl rfl) e,c⟩
 |dT kvs =>
  obtain⟨z,y,xs,r,ob,es,ep,e,c⟩:=x
  exact⟨z,y,xs,Paired.mapP r λp q z=>⟨z.1,ht _ _ z.2.1,z.2.2⟩,ob,es,ep,k _ _ (.inl rfl) e,c⟩
 |own y=>obtain⟨ob,e⟩:=x;exact⟨ob,k _ _ (.inl rfl) e⟩
 |frz ob u ih=>obtain⟨e,q⟩:=x;exact⟨k _ _ (.inl rfl) e,ih q⟩
 |tbl ps =>
  have e:h.get? a=some {cls:=.none,data:=.fields ps}:=x;show h'.get? a=some {cls:=.none,data:=.fields ps}
  exact k a _ (.inl rfl) e
 |ext φ=>obtain⟨p,⟨o,e⟩,st⟩:=x;exact⟨st _ _ p λo q=>k _ _ (.inl rfl) q,⟨o,k _ _ (.inl rfl) e⟩,st⟩
def HOk.lt(x:HOk P w H h)(e:H a=some o):a<h.objs.size:=(x a o e).lt
def HOk.fresh(x:HOk P w H h)(e:h.objs.size<=a):H a=none:=by
 cases q:H a with
 |none=>rfl
 |some u=>exact absurd (aK (x.lt q) e) (cX _)
def HOk.kept(x:HOk P w H h)(k:∀b u,h.get? b=some u->h'.get? b=some u):HOk P w H h':=λa o e =>
 (x a o e).stay (λb u _ q=>k b u q) (λ_ q=>q) λ_ _ q=>q
def HOk.laid(x:HOk P w H h)(k:∀b u,h.get? b=some u->h'.get? b=some u)(hp:h.objs.size<=a)(new:eL P w (upd H a o) h' a o):HOk P w (upd H a o) h':=λb u e=>by
 have hn:=x.fresh hp;by_cases hb:b=a
 .subst hb;rw[bK]at e;cases e;exact new
 .rw[bF hb]at e;exact(x b u e).stay (λc v _ q=>k c v q) (λc q=>by rw[bF (gp q hn)];exact q) λc xs q=>by rw[bF (gp q hn)];exact q
end
def Rd(H:Hp)(a:av)(u:HO):Prop:=H a=some u\/∃o,H a=some (.frz o u)
def Rd.ok{P:aQ}{w:bD}{H:Hp}{h:bW}{a:av}{u:HO}(r:Rd H a u)(x:HOk P w H h):eL P w H h a u:=by
 rcases r with r|⟨o,r⟩
 .exact x a u r
 .obtain⟨_,q⟩:=x a _ r;exact q
def Mut:Option HO->Prop
 |some (.lst _)=>True
 |some (.dK _)=>True
 |some (.dT _)=>True
 |some (.ext _)=>True
 |_=>False
section
variable{P:aQ}{w:bD}{H:Hp}{h h':bW}{x e:av}{o':HO}
def HOk.write(ok:HOk P w H h)(mu:Mut (H x))(he:e=x\/H e=some (.own x))(k:∀b u,b≠e->h.get? b=some u->h'.get? b=some u)(heo:∃u,h'.get? e=some u)
 (new:eL P w (upd H x o') h' x o'):HOk P w (upd H x o') h':=λb u q=>by
 have nown:∀c y,H c=some (.own y)->c≠x:=λc y r z=>by subst z;rw[r]at mu;exact mu
 have ntup:∀c xs,H c=some (.tup xs)->c≠x:=λc xs r z=>by subst z;rw[r]at mu;exact mu
 by_cases hb:b=x
 .subst hb;rw[bK]at q;cases q;exact new
 .rw[bF hb]at q;by_cases hbe:b=e
  .have q':H b=some (.own x):=by
    rcases he with z|z
    .exact absurd (hbe.trans z) hb
    .rw[hbe];exact z
   rw[q]at q';cases q';obtain⟨v,hv⟩:=heo;exact⟨v,by rw[hbe];exact hv⟩
  .refine(ok b u q).stay (λc v hc r=>k c v ?_ r) (λc r=>by rw[bF (nown c b r)];exact r) λc xs r=>by rw[bF (ntup c xs r)];exact r
   rcases hc with rfl|hc
   .exact hbe
   .rintro rfl;rcases he with z|z
    .exact nown c b hc z
    .rw[hc]at z;cases z;exact hb rfl
end
structure Un(fs ex:List av)(H H':Hp)(h h':bW):Prop where
 keep:∀b o,h.get? b=some o->H b=none->b∉fs->b∉ex->h'.get? b=some o
 slot:∀b o,h.get? b=some o->H b=none->b∈fs->b∉ex->∃sl,h'.get? b=some {o with slots:=sl}
 free:∀b o,h.get? b=some o->H b=none->b∉ex->H' b=none
 there:∀b o,h.get? b=some o->b∉ex->∃o',h'.get? b=some o'
 tups:∀b xs,H b=some (.tup xs)->H' b=some (.tup xs)
 frzs:∀b o u,H b=some (.frz o u)->H' b=some (.frz o u)
 tbls:∀b ps,H b=some (.tbl ps)->∃more,H' b=some (.tbl (ps++more))
section
variable{fs fs' ex ex':List av}{H H1 H2:Hp}{h h1 h2 h':bW}{a x e:av}{o:HO}
def Un.any(u:Un fs ex H H1 h h1)(q:h.get? b=some ob)(n:H b=none)(hx:b∉ex):∃sl,h1.get? b=some {ob with slots:=sl}:=by
 by_cases hb:b∈fs
 .exact u.slot b ob q n hb hx
 .exact⟨ob.slots,u.keep b ob q n hb hx⟩
def Un.kept(k:∀b u,h.get? b=some u->h'.get? b=some u):Un fs ex H H h h' :=
 ⟨λb ob q _ _ _=>k b ob q,λb ob q _ _ _=>⟨ob.slots,k b ob q⟩,λ_ _ _ n _=>n,λb ob q _=>⟨ob,k b ob q⟩,λ_ _ q=>q,λ_ _ _ q=>q,λ_ ps q=>⟨#[],by rw[q];simp⟩⟩
def Un.refl:Un fs ex H H h h:=Un.kept λ_ _ q=>q
def Un.laid(k:∀b u,h.get? b=some u->h'.get? b=some u)(hp:h.objs.size<=a)(hn:H a=none):Un fs ex H (upd H a o) h h' where
 keep:=λb u q _ _ _=>k b u q
 slot:=λb u q _ _ _=>⟨u.slots,k b u q⟩
 free:=λb u q n _=>by rw[bF (aU (aK (aJ q) hp))];exact n
 there:=λb u q _=>⟨u,k b u q⟩
 tups:=λb xs q=>by rw[bF (gp q hn)];exact q
 frzs:=λb u xs q=>by rw[bF (gp q hn)];exact q
 tbls:=λb ps q=>⟨#[],by rw[bF (gp q hn),q];simp⟩
def Un.write(mu:Mut (H x))(he:e=x\/H e=some (.own x))(k:∀b u,b≠e->h.get? b=some u->h'.get? b=some u)(heo:∃u,h'.get? e=some u):Un fs ex H (upd H x o) h h':=by
 have hx:∀b,H b=none->b≠x:=λb n z=>by subst z;rw[n]at mu;exact mu
 have hb:∀b,H b=none->b≠e:=λb n z=>by
  subst z;rcases he with r|r
  .exact hx b n r
  .rw[n]at r;cases r
 have hm:∀b u,H b=some u->¬Mut (some u)->b≠x:=λb u q nm z=>by subst z;rw[q]at mu;exact nm mu
 refine⟨λb u q n _ _=>k b u (hb b n) q,λb u q n _ _=>⟨u.slots,k b u (hb b n) q⟩,λb u q n _=>by rw[bF (hx b n)];exact n,λb u q _=>?_,
  λb xs q=>by rw[bF (hm b _ q λz=>z)];exact q,λb u xs q=>by rw[bF (hm b _ q λz=>z)];exact q,λb ps q=>⟨#[],by rw[bF (hm b _ q λz=>z),q];simp⟩⟩
 by_cases hbe:b=e
 .subst hbe;exact heo
 .exact⟨u,k b u hbe q⟩
end
def trk(h:bW)(H:Hp):List av:=(du h.objs.size).filter λa=>(H a).isSome
def qo(h:bW)(H:Hp):bW:=PySem.W.hideAll h (trk h H)
def zW(h:bW)(H:Hp):(qo h H).objs.size=h.objs.size:=PySem.W.hideAll_size _ _
def DD(e:h.get? b=some o)(n:H b=none):(qo h H).get? b=some o :=
 PySem.W.hideAll_get _ e λhm=>by
  have q:(H b).isSome=true:=(HR.mp hm).2;rw[n]at q;simp at q
def GH(e:(qo h H).get? b=some o):h.get? b=some o/\H b=none:=by
 have e':h.get? b=some o:=PySem.W.of_hideAll (trk h H) e;refine⟨e',?_⟩
 cases q:H b with
 |none=>rfl
 |some x =>
  have hm:b∈trk h H:=HR.mpr ⟨gg.mpr (aJ e'),by simp[q]⟩;have z:(qo h H).get? b=none:=PySem.W.hideAll_none (trk h H) hm;rw[z]at e;cases e
end L2
namespace L2
open PySem PySem.Spec PyProof.Rows
structure Mod(K:PySem.W.Frag)(mg:Str->Option ai)(base:bW):Prop where
 kin:K.In base
 glob:base.Ns mainGlobals mg
 blt:∃mb,base.Ns builtinsNs mb/\∀x:Str,x≠"__name__"->mb x=bootBuiltins x
 nolimit:base.NoLimit
structure Cx where
 prog:aQ
 w:bD
 K:PySem.W.Frag
 mg:Str->Option ai
 base:bW
 A:bE
 N:List Str
 s₀:au
 H₀:Hp
 env:Env
 outer:List Env
 stack:List Env
 ex:List av
 fn:Str->Bool
 calm:Bool
 pn:List (av×Obj)
 xe:ai->au->Prop
def frs(l:List Env):List av:=l.filterMap (·.frame)
noncomputable abbrev Cx.fs(X:Cx):List av:=frs X.outer
def Vis(sc:dQ)(x:Str):Prop:=sc.names.lookup x=some .local\/sc.names.lookup x=some .cell\/sc.names.lookup x=some .free
def Loc(sc:dQ)(x:Str):Prop:=sc.names.lookup x=some .local\/sc.names.lookup x=some .cell
def Look(env:Env)(h:bW)(m:Str->Option ai)(x:Str)(u:ai):Prop :=
 (env.kindOf x=some .local/\m x=some u)\/((env.kindOf x=some .cell\/env.kindOf x=some .free)/\∃c,env.cells.lookup x=some c/\h.IsCell c (some u))
structure Cx.Ok(X:Cx):Prop where
 mod:Mod X.K X.mg X.base
 kind:X.env.scope.kind=.function
 glob:X.env.globals=mainGlobals
 blt:X.env.builtins=builtinsNs
 above:X.s₀.heap.objs.size<=X.env.locals
 inj:∀x y c,X.env.cells.lookup x=some c->X.env.cells.lookup y=some c->x=y
 has:∀x,(X.env.kindOf x=some .cell\/X.env.kindOf x=some .free)->∃c,X.env.cells.lookup x=some c
 cab:∀x c,X.fn x=true->X.env.cells.lookup x=some c->X.s₀.heap.objs.size<=c
 hd:X.calm=true->X.A.handled=none
 frames:X.A.frames=some X.stack
 stk:X.stack=X.outer\/(X.stack=X.env::X.outer/\X.env.frame=some X.env.locals)
 exf:∀b∈X.ex,b≠X.env.locals/\∀x c,X.env.cells.lookup x=some c->c≠b
 bs:∀b o,X.base.get? b=some o->X.s₀.heap.get? b=some o/\X.H₀ b=none
 bsz:X.base.objs.size<=X.s₀.heap.objs.size
 noex:∀b o,X.base.get? b=some o->b∉X.ex
 exfs:∀b∈X.ex,b∉X.fs
 funs:X.s₀.heap.FunFrames X.base X.outer
 frf:∀b∈X.fs,X.H₀ b=none
structure Inv(X:Cx)(pins:List (av×Obj))(σ:List (Option V))(H:Hp)(s:au):Prop where
 ok:X.Ok
 os:s.os=X.s₀.os
 bare:jU s.gens
 base:Un X.fs X.ex X.H₀ H X.s₀.heap s.heap
 loc:∃m,s.heap.Ns X.env.locals m/\∀(i:Nat)(x:Str)(v:V),X.N[i]?=some x->σ[i]?=some (some v)->Vis X.env.scope x->∃u,RelV v u/\Look X.env s.heap m x u
 cell:∀x c,X.env.cells.lookup x=some c->∃v,s.heap.IsCell c v
 free:H X.env.locals=none
 freeC:∀x c,X.env.cells.lookup x=some c->H c=none
 pin:∀p∈X.pn++pins,s.heap.get? p.1=some p.2/\H p.1=none/\p.1≠X.env.locals/\p.1∉X.fs/\∀v,p.2.data≠.cell v
 hok:HOk X.prog X.w H s.heap
 len:σ.length=X.N.length
section
variable{X:Cx}{pins:List (av×Obj)}{σ:List (Option V)}{H H':Hp}{s:au}{h':bW}
def Cx.Ok.nofr(ok:X.Ok)(e:X.base.get? b=some o):b∉X.fs:=λhb=>by
 have:=(ok.funs.mem hb).1;rw[e]at this;cases this
def Inv.bs(I:Inv X pins σ H s):∀b o,X.base.get? b=some o->s.heap.get? b=some o/\H b=none:=λb o e =>
 ⟨I.base.keep b o (I.ok.bs b o e).1 (I.ok.bs b o e).2 (I.ok.nofr e) (I.ok.noex b o e),I.base.free b o (I.ok.bs b o e).1 (I.ok.bs b o e).2 (I.ok.noex b o e)⟩
def Inv.bk(I:Inv X pins σ H s):∀b o,X.base.get? b=some o->s.heap.get? b=some o:=λb o e=>(I.bs b o e).1
def Inv.mod(I:Inv X pins σ H s):Mod X.K X.mg X.base:=I.ok.mod
def Inv.kIn(I:Inv X pins σ H s):X.K.In s.heap:=I.ok.mod.kin.keeps I.bk
def Inv.lt(I:Inv X pins σ H s):X.env.locals<s.heap.objs.size:=let⟨_,hn,_⟩:=I.loc;hn.lt
def Inv.sz(I:Inv X pins σ H s):X.s₀.heap.objs.size<=s.heap.objs.size:=aZ I.ok.above (cI I.lt)
def Inv.nofs(I:Inv X pins σ H s)(h:s.heap.objs.size<=a):a∉X.fs:=λhb=>by
 obtain⟨_,o,ho,_⟩:=I.ok.funs.mem hb;exact absurd (aK (aJ ho) (aZ I.sz h)) (cX _)
def Inv.cne(I:Inv X pins σ H s):∀x c,X.env.cells.lookup x=some c->c≠X.env.locals:=λx c e z=>by
 obtain⟨v,o,ho,hd⟩:=I.cell x c e;obtain⟨m,⟨o',es,ep,ho',hd',_⟩,_⟩:=I.loc;rw[z,ho']at ho;cases ho;rw[hd']at hd;cases hd
def Inv.funs(I:Inv X pins σ H s):s.heap.FunFrames X.base X.outer:=by
 have all:∀(l:List Env),(∀b∈frs l,b∈X.fs)->X.s₀.heap.FunFrames X.base l->s.heap.FunFrames X.base l:=by
  intro l
  induction l with
  |nil=>intro _ _;trivial
  |cons env r ih =>
   intro hs hl;obtain⟨hk,⟨L,o,hf,hn,ho,hd⟩,hr⟩:=hl;have hL:L∈X.fs:=hs L (by unfold frs;rw[bw,hf];exact ay);obtain⟨sl,e⟩:=I.base.slot L o ho (I.ok.frf L hL) hL λz=>I.ok.exfs L z hL;exact⟨hk,⟨L,_,hf,hn,e,hd⟩,ih (λb hb=>hs b (by unfold frs;rw[bw,hf];exact ao _ hb)) hr⟩
 exact all X.outer (λ_ hb=>hb) I.ok.funs
def Inv.stack(I:Inv X pins σ H s):s.heap.FunFrames X.base X.stack:=by
 rcases I.ok.stk with e|⟨e,hf⟩
 .rw[e];exact I.funs
 .rw[e];obtain⟨m,hn,_⟩:=I.loc;refine .cons (by rw[I.ok.kind];decide) hf hn ?_ I.funs;exact lp (aZ I.ok.bsz I.ok.above)
def Inv.stkSub(I:Inv X pins σ H s):∀b∈frs X.stack,b∈X.env.locals::X.fs:=λb hb=>by
 rcases I.ok.stk with e|⟨e,hf⟩
 .rw[e]at hb;exact ao _ hb
 .rw[e]at hb;unfold frs at hb;rw[bw,hf]at hb;exact hb
def Inv.stkFree(I:Inv X pins σ H s):∀b∈frs X.stack,H b=none:=λb hb=>by
 rcases aA.mp (I.stkSub b hb)with e|hb
 .rw[e];exact I.free
 .obtain⟨_,o,ho,_⟩:=I.ok.funs.mem hb;exact I.base.free b o ho (I.ok.frf b hb) λz=>I.ok.exfs b z hb
def Inv.step{g':Array xQ}{t':Nat}{d':Drawn}{ch:List av}(I:Inv X pins σ H s)
 (hch:∀b∈ch,(b∈X.ex\/X.s₀.heap.objs.size<=b)/\b≠X.env.locals/\(∀x c,X.env.cells.lookup x=some c->c≠b)/\∀p∈X.pn++pins,p.1≠b)
 (keep:∀b o,b≠X.env.locals->b∉X.fs->b∉ch->s.heap.get? b=some o->H b=none->h'.get? b=some o)
 (slot:∀b o,b≠X.env.locals->b∈X.fs->b∉ch->s.heap.get? b=some o->H b=none->∃sl,h'.get? b=some {o with slots:=sl})(free:∀b o,b∉ch->s.heap.get? b=some o->H b=none->H' b=none)
 (there:∀b o,b∉ch->s.heap.get? b=some o->∃o',h'.get? b=some o')
 (tups:∀b xs,H b=some (.tup xs)->H' b=some (.tup xs))(frzs:∀b o u,H b=some (.frz o u)->H' b=some (.frz o u))(tbls:∀b ps,H b=some (.tbl ps)->∃more,H' b=some (.tbl (ps++more)))
 (ns:∀m,s.heap.Ns X.env.locals m->h'.Ns X.env.locals m)(hok:HOk X.prog X.w H' h')(hg:jU g') :
 Inv X pins σ H' {s with heap:=h',gens:=g',drawn:=d',toks:=t'}:=by
 have neL:∀b o,X.s₀.heap.get? b=some o->b≠X.env.locals:=λb o e=>aU (aK (aJ e) I.ok.above)
 have neC:∀b o,X.s₀.heap.get? b=some o->b∉X.ex->b∉ch:=λb o e hx hb=>by
  rcases(hch b hb).1 with z|z
  .exact hx z
  .exact absurd (aK (aJ e) z) (cX _)
 have cellK:∀x c,X.env.cells.lookup x=some c->∀v,s.heap.IsCell c v->h'.IsCell c v:=λx c e v zz=>by
  obtain⟨o,ho,hd⟩:=zz;have nch:c∉ch:=λz=>(hch c z).2.2.1 x c e rfl;by_cases hc:c∈X.fs
  .obtain⟨sl,q⟩:=slot c o (I.cne x c e) hc nch ho (I.freeC x c e);exact⟨_,q,hd⟩
  .exact⟨o,keep c o (I.cne x c e) hc nch ho (I.freeC x c e),hd⟩
 refine⟨I.ok,I.os,hg,⟨λb o e n hb hx=>?_,λb o e n hb hx=>?_,λb o e n hx=>?_,λb o e hx=>?_,λb xs e=>tups b xs (I.base.tups b xs e),λb o xs e=>frzs b o xs (I.base.frzs b o xs e),λb ps e=>?_⟩,?_,λx c e=>?_,?_,λx c e=>?_,λp hp=>?_,hok,I.len⟩
 .exact keep b o (neL b o e) hb (neC b o e hx) (I.base.keep b o e n hb hx) (I.base.free b o e n hx)
 .obtain⟨sl,e1⟩:=I.base.slot b o e n hb hx;obtain⟨sl',e2⟩:=slot b _ (neL b o e) hb (neC b o e hx) e1 (I.base.free b o e n hx);exact⟨sl',e2⟩
 .obtain⟨o',e1⟩:=I.base.there b o e hx;exact free b o' (neC b o e hx) e1 (I.base.free b o e n hx)
 .obtain⟨o',e1⟩:=I.base.there b o e hx;exact there b o' (neC b o e hx) e1
 .obtain⟨m1,e1⟩:=I.base.tbls b ps e;obtain⟨m2,e2⟩:=tbls b _ e1;exact⟨m1++m2,by rw[e2,Array.append_assoc]⟩
 .obtain⟨m,hn,hl⟩:=I.loc;refine⟨m,ns m hn,λi x v e1 e2 e3=>?_⟩;obtain⟨u,r,l⟩:=hl i x v e1 e2 e3;refine⟨u,r,?_⟩;rcases l with l|⟨k,c,e,z⟩
  .exact .inl l
  .exact .inr ⟨k,c,e,cellK x c e _ z⟩
 .obtain⟨v,z⟩:=I.cell x c e;exact⟨v,cellK x c e v z⟩
 .obtain⟨m,⟨o,_,_,ho,_⟩,_⟩:=I.loc;exact free _ o (λz=>(hch _ z).2.1 rfl) ho I.free
 .obtain⟨v,o,ho,hd⟩:=I.cell x c e;exact free c o (λz=>(hch c z).2.2.1 x c e rfl) ho (I.freeC x c e)
 .obtain⟨e,n,ne,nf,d⟩:=I.pin p hp;have nch:p.1∉ch:=λz=>(hch p.1 z).2.2.2 p hp rfl;exact⟨keep p.1 p.2 ne nf nch e n,free p.1 p.2 nch e n,ne,nf,d⟩
def Inv.un{t':Nat}(I:Inv X pins σ H s)(u:Un X.fs [] H H' s.heap h')(hok:HOk X.prog X.w H' h'):Inv X pins σ H' {s with heap:=h',toks:=t'}:=by
 obtain⟨m,⟨o,es,ep,ho,r⟩,_⟩:=id I.loc;obtain⟨sl,hL⟩:=u.any ho I.free ↥0
 exact I.step (g':=s.gens) (d':=s.drawn) (ch:=[]) (λ_ z=>nomatch z) (λb o _ hb _ e n=>u.keep b o e n hb ↥0) (λb o _ hb _ e n=>u.slot b o e n hb ↥0) (λb o _ e n=>u.free b o e n ↥0) (λb o _ e=>u.there b o e ↥0) u.tups u.frzs u.tbls (λm' hm=>by
  obtain⟨o',es',ep',ho',r'⟩:=hm;rw[ho]at ho';cases ho';exact⟨_,es',ep',hL,r'⟩) hok I.bare
def Inv.call{g':Array xQ}{t':Nat}{d':Drawn}{ch:List av}(I:Inv X pins σ H s)(u:Un (frs X.stack) ch H H' s.heap h')(hok:HOk X.prog X.w H' h')(hg:jU g')
 (hch:∀b∈ch,(b∈X.ex\/X.s₀.heap.objs.size<=b)/\b≠X.env.locals/\(∀x c,X.env.cells.lookup x=some c->c≠b)/\∀p∈X.pn++pins,p.1≠b) :
 Inv X pins σ H' {s with heap:=h',gens:=g',drawn:=d',toks:=t'}:=by
 obtain⟨m,⟨o,es,ep,ho,r⟩,_⟩:=id I.loc;obtain⟨sl,hL⟩:=u.any ho I.free λz=>(hch _ z).2.1 rfl
 exact I.step (ch:=ch) hch (λb o hL hb hc e n=>u.keep b o e n (λz=>(aA.mp (I.stkSub b z)).elim hL hb) hc) (λb o _ _ hc e n=>u.any e n hc) (λb o hc e n=>u.free b o e n hc) (λb o hc e=>u.there b o e hc) u.tups u.frzs u.tbls (λm' hm=>by
  obtain⟨o',es',ep',ho',r'⟩:=hm;rw[ho]at ho';cases ho';exact⟨_,es',ep',hL,r'⟩) hok hg
def Inv.turned{t':Nat}{it:av}(I:Inv X pins σ H s)(k:∀b o,b≠it->s.heap.get? b=some o->h'.get? b=some o)(hn:H it=none)(hL:it≠X.env.locals)
 (h1:it∈X.ex\/X.s₀.heap.objs.size<=it)(h2:∀x c,X.env.cells.lookup x=some c->c≠it)(h3:∀p∈X.pn++pins,p.1≠it):Inv X pins σ H {s with heap:=h',toks:=t'}:=by
 have nit:∀b u,H b=some u->b≠it:=λb u e z=>by rw[z,hn]at e;cases e
 refine I.step (g':=s.gens) (d':=s.drawn) (ch:=[it]) (λb hb=>?_) (λb o _ _ hc e _=>k b o (λz=>hc (by simp[z])) e) (λb o _ _ hc e _=>⟨o.slots,k b o (λz=>hc (by simp[z])) e⟩) (λ_ _ _ _ n=>n)
  (λb o hc e=>⟨o,k b o (λz=>hc (by simp[z])) e⟩) (λ_ _ e=>e) (λ_ _ _ e=>e) (λb ps e=>⟨#[],by rw[e];simp⟩) (λm hm=>?_) (λb u e=>?_) I.bare
 .have e:b=it:=by simpa using hb
  subst e;exact⟨h1,hL,h2,h3⟩
 .obtain⟨o,es,ep,ho,r⟩:=hm;exact⟨o,es,ep,k _ o (Ne.symm hL) ho,r⟩
 .refine(I.hok b u e).stay (λc v hc q=>k c v ?_ q) (λ_ q=>q) λ_ _ q=>q;rcases hc with z|z
  .rw[z];exact nit b u e
  .exact nit c _ z
def Inv.tok(I:Inv X pins σ H s)(t:Nat):Inv X pins σ H {s with toks:=t}:=I.un (h':=s.heap) (t':=t) Un.refl I.hok
def Inv.kept{t':Nat}(I:Inv X pins σ H s)(k:∀b u,s.heap.get? b=some u->h'.get? b=some u):Inv X pins σ H {s with heap:=h',toks:=t'}:=I.un (Un.kept k) (I.hok.kept k)
def Inv.laid{a:av}{o:HO}{t':Nat}(I:Inv X pins σ H s)(k:∀b u,s.heap.get? b=some u->h'.get? b=some u)(hp:s.heap.objs.size<=a)(new:eL X.prog X.w (upd H a o) h' a o) :
 Inv X pins σ (upd H a o) {s with heap:=h',toks:=t'}:=I.un (Un.laid k hp (I.hok.fresh hp)) (I.hok.laid k hp new)
def Inv.write(I:Inv X pins σ H s)(mu:Mut (H x))(he:e=x\/H e=some (.own x))(k:∀b u,b≠e->s.heap.get? b=some u->h'.get? b=some u)(heo:∃u,h'.get? e=some u)
 (new:eL X.prog X.w (upd H x o) h' x o):Inv X pins σ (upd H x o) {s with heap:=h',toks:=t'}:=I.un (Un.write mu he k heo) (I.hok.write mu he k heo new)
def Inv.pins_of(I:Inv X pins σ H s)(h:∀p∈pins',s.heap.get? p.1=some p.2/\H p.1=none/\p.1≠X.env.locals/\p.1∉X.fs/\∀v,p.2.data≠.cell v):Inv X pins' σ H s :=
 ⟨I.ok,I.os,I.bare,I.base,I.loc,I.cell,I.free,I.freeC,λp hp=>(cc.mp hp).elim (λz=>I.pin p (bZ _ z)) (h p),I.hok,I.len⟩
def vk{N:List Str}(hN:N.Nodup){i j:Nat}{x:Str}(a:N[i]?=some x)(b:N[j]?=some x):i=j:=by
 obtain⟨h1,e1⟩:=aF.mp a;obtain⟨h2,e2⟩:=aF.mp b;exact(List.getElem_inj hN).mp (e1.trans e2.symm)
def zA{M:Model}{A:bE}{E:ai->au->Prop}{i:Nat}{x:Str}{v:V}{u:ai}{Q:Unit->au->Prop}(I:Inv X pins σ H s)(hN:X.N.Nodup)(hi:X.N[i]?=some x)(hx:Loc X.env.scope x)(r:RelV v u)
 (h:∀s',Inv X pins (σ.set i (some v)) H s'->(∃a,jT a s.heap s'.heap/\(a=X.env.locals\/X.env.cells.lookup x=some a))->Q () s')(hf:X.fn x=true\/X.env.scope.names.lookup x=some .local:=by first|exact .inl rfl|exact .inr rfl|assumption):wpAny M A (storeName X.env x u) Q E s:=by
 obtain⟨m,hn,hl⟩:=id I.loc;have hcls:(X.env.scope.kind==.class||(X.env.scope.kind==.module&&X.env.locals != X.env.globals))=false:=by rw[I.ok.kind];rfl
 have hiσ:i<σ.length:=by rw[I.len];exact(aF.mp hi).1
 have cne:=I.cne
 have tracked:∀{a:av}{h':bW},(∃o,s.heap.get? a=some o/\H a=none)->jT a s.heap h'->HOk X.prog X.w H h':=λ{a h'}ha hs b ob e=>by
  obtain⟨_,_,hfree⟩:=ha;refine(I.hok b ob e).stay (λc w' hc q=>(hs.2 c ?_).trans q) (λ_ q=>q) λ_ _ q=>q;rintro rfl;rcases hc with rfl|hc
  .rw[hfree]at e;cases e
  .rw[hfree]at hc;cases hc
 rcases hx with hk|hk
 .refine wpAny_storeName_local hk hn (λh' hn' hs=>?_) hcls;obtain⟨oL,_,_,hoL,_⟩:=id hn;refine h _ ⟨I.ok,I.os,I.bare,⟨λb o e n hb hx=>?_,λb o e n hb hx=>?_,I.base.free,λb o e hx=>?_,I.base.tups,I.base.frzs,I.base.tbls⟩,⟨_,hn',λj y v' e1 e2 e3=>?_⟩,λy c e=>?_,I.free,I.freeC,λp hp=>?_,tracked ⟨oL,hoL,I.free⟩ hs,by simpa using I.len⟩ ⟨_,hs,.inl rfl⟩
  .exact(hs.2 b (aU (aK (aJ e) I.ok.above))).trans (I.base.keep b o e n hb hx)
  .obtain⟨sl,e1⟩:=I.base.slot b o e n hb hx;exact⟨sl,(hs.2 b (aU (aK (aJ e) I.ok.above))).trans e1⟩
  .obtain⟨o',e1⟩:=I.base.there b o e hx;exact⟨o',(hs.2 b (aU (aK (aJ e) I.ok.above))).trans e1⟩
  .by_cases hj:j=i
   .subst hj;rw[hi]at e1;cases e1;rw[bI hiσ]at e2;cases e2;exact⟨u,r,.inl ⟨hk,↥0⟩⟩
   .rw[aM (Ne.symm hj)]at e2;obtain⟨u',r',q⟩:=hl j y v' e1 e2 e3;refine⟨u',r',?_⟩;rcases q with⟨k,e⟩|⟨k,c,e,z⟩
    .refine .inl ⟨k,?_⟩;have:y≠x:=λe=>hj (vk hN e1 (e▸hi));simp[this,e]
    .exact .inr ⟨k,c,e,z.sameBut hs (cne y c e)⟩
  .obtain⟨w',z⟩:=I.cell y c e;exact⟨w',z.sameBut hs (cne y c e)⟩
  .obtain⟨e,n,ne,nf,d⟩:=I.pin p hp;exact⟨(hs.2 p.1 ne).trans e,n,ne,nf,d⟩
 .have hfn:X.fn x=true:=by
   rcases hf with z|z
   .exact z
   .rw[z]at hk;cases hk
  obtain⟨c,hc⟩:=I.ok.has x (.inl hk);obtain⟨w',z⟩:=I.cell x c hc;refine wpAny_storeName_cell I.ok.kind hk hc z (λh' hc' hs=>?_);obtain⟨oc,hoc,hocd⟩:=id z;refine h {s with heap:=h'} ⟨I.ok,I.os,I.bare,⟨λb o e n hb hx=>?_,λb o e n hb hx=>?_,I.base.free,λb o e hx=>?_,I.base.tups,I.base.frzs,I.base.tbls⟩,⟨m,hn.sameBut hs (Ne.symm (cne x c hc)),λj y v' e1 e2 e3=>?_⟩,λy c' e=>?_,I.free,I.freeC,λp hp=>?_,tracked ⟨oc,hoc,I.freeC x c hc⟩ hs,by simpa using I.len⟩ ⟨c,hs,.inr hc⟩
  .exact(hs.2 b (aU (aK (aJ e) (I.ok.cab x c hfn hc)))).trans (I.base.keep b o e n hb hx)
  .obtain⟨sl,e1⟩:=I.base.slot b o e n hb hx;exact⟨sl,(hs.2 b (aU (aK (aJ e) (I.ok.cab x c hfn hc)))).trans e1⟩
  .obtain⟨o',e1⟩:=I.base.there b o e hx;exact⟨o',(hs.2 b (aU (aK (aJ e) (I.ok.cab x c hfn hc)))).trans e1⟩
  .by_cases hj:j=i
   .subst hj;rw[hi]at e1;cases e1;rw[bI hiσ]at e2;cases e2;exact⟨u,r,.inr ⟨.inl hk,c,hc,hc'⟩⟩
   .rw[aM (Ne.symm hj)]at e2;obtain⟨u',r',q⟩:=hl j y v' e1 e2 e3;refine⟨u',r',?_⟩;rcases q with q|⟨k,c',e,z'⟩
    .exact .inl q
    .refine .inr ⟨k,c',e,z'.sameBut hs ?_⟩;rintro rfl;exact hj (vk hN e1 (I.ok.inj _ _ _ e hc▸hi))
  .by_cases hcc:c'=c
   .subst hcc;exact⟨_,hc'⟩
   .obtain⟨w2,z2⟩:=I.cell y c' e;exact⟨w2,z2.sameBut hs hcc⟩
  .obtain⟨e,n,ne,nf,d⟩:=I.pin p hp;refine⟨(hs.2 p.1 ?_).trans e,n,ne,nf,d⟩;intro q;rw[q,hoc]at e;have q':oc=p.2:=bU e;exact d w' (by rw[<- q'];exact hocd)
def ig(I:Inv X pins σ H s)(hN:X.N.Nodup)(hi:X.N[i]?=some x)(hx:Loc X.env.scope x)(r:RelV v u)
 (h:∀s',Inv X pins (σ.set i (some v)) H s'->Q () s')(hf:X.fn x=true\/X.env.scope.names.lookup x=some .local:=by first|exact .inl rfl|exact .inr rfl|assumption):wpAny M A (storeName X.env x u) Q E s :=
 zA I hN hi hx r (λs' I' _=>h s' I') hf
def Inv.call'(I:Inv X pins σ H s)(ho:s'.os=s.os)(u:Un (frs X.stack) ch H H' s.heap s'.heap)(hok:HOk X.prog X.w H' s'.heap)(hg:jU s'.gens)
 (hch:∀b∈ch,(b∈X.ex\/X.s₀.heap.objs.size<=b)/\b≠X.env.locals/\(∀x c,X.env.cells.lookup x=some c->c≠b)/\∀p∈X.pn++pins,p.1≠b):Inv X pins σ H' s':=by
 obtain⟨h',g',d',t',o'⟩:=s';have e:o'=s.os:=ho;subst e;exact I.call (g':=g') (t':=t') (d':=d') u hok hg hch
end
abbrev XK:=ai->Option av->Hp->Prop
abbrev St:=List (Option V)
abbrev VK:=V->Hp->Prop
abbrev TE:=St->Hp->VK->Prop
abbrev TT:=St->Hp->(Bool->Hp->Prop)->Prop
abbrev TA:=St->Hp->(List V->Hp->Prop)->Prop
structure Ends where
 nx:St->Hp->Prop
 rt:VK
 bk:St->Hp->Prop:=λ_ _=>False
 ct:St->Hp->Prop:=λ_ _=>False
abbrev TS:=Ends->St->Hp->Prop
def EP(X:Cx)(pins:List (av×Obj))(σ:St)(Q:VK)(u:ai)(s':au):Prop:=∃v H',Inv X pins σ H' s'/\RelV v u/\Q v H'
def TP(X:Cx)(pins:List (av×Obj))(σ:St)(Q:Bool->Hp->Prop)(b:Bool)(s':au):Prop:=∃H',Inv X pins σ H' s'/\Q b H'
def AP(X:Cx)(pins:List (av×Obj))(σ:St)(Q:List V->Hp->Prop)(us:List ai)(s':au):Prop:=∃vs H',Inv X pins σ H' s'/\Vals vs us/\Q vs H'
def SP(X:Cx)(pins:List (av×Obj))(D:Ends)(f:Flow)(s':au):Prop :=
 match f with
 |.next=>∃σ' H',Inv X pins σ' H' s'/\D.nx σ' H'
 |.brk=>∃σ' H',Inv X pins σ' H' s'/\D.bk σ' H'
 |.cont=>∃σ' H',Inv X pins σ' H' s'/\D.ct σ' H'
 |.ret u=>∃v σ' H',Inv X pins σ' H' s'/\RelV v u/\D.rt v H'
def PE(X:Cx)(e:aE)(t:TE):Prop :=
 ∀(pins:List (av×Obj))(s:au)(σ:St)(H:Hp)(Q:VK),Inv X pins σ H s->t σ H Q->wpAny (model X.prog X.w) X.A (eval e X.env) (EP X pins σ Q) X.xe s
def PT(X:Cx)(e:aE)(t:TT):Prop :=
 ∀(pins:List (av×Obj))(s:au)(σ:St)(H:Hp)(Q:Bool->Hp->Prop),Inv X pins σ H s->t σ H Q->wpAny (model X.prog X.w) X.A (isTrue e X.env (eval e X.env)) (TP X pins σ Q) X.xe s
def PW(X:Cx)(e:aE)(t:TT):Prop :=
 ∀(whole:Sem ai)(pins:List (av×Obj))(s:au)(σ:St)(H:Hp)(Q:Bool->Hp->Prop),Inv X pins σ H s->t σ H Q->wpAny (model X.prog X.w) X.A (isTrue e X.env whole) (TP X pins σ Q) X.xe s
def PW.pt{X:Cx}{e:aE}{t:TT}(h:PW X e t):PT X e t:=h _
def PA(X:Cx)(es:List aE)(t:TA):Prop :=
 ∀(pos:Pos)(pins:List (av×Obj))(s:au)(σ:St)(H:Hp)(Q:List V->Hp->Prop),Inv X pins σ H s->t σ H Q->wpAny (model X.prog X.w) X.A (spliced (backTo pos (starEach es X.env))) (AP X pins σ Q) X.xe s
def PS(X:Cx)(st:bG)(t:TS):Prop :=
 ∀(pins:List (av×Obj))(s:au)(σ:St)(H:Hp)(D:Ends),Inv X pins σ H s->t D σ H->wpAny (model X.prog X.w) X.A (exec st X.env) (SP X pins D) X.xe s
def PSs(X:Cx)(st:List bG)(t:TS):Prop :=
 ∀(pins:List (av×Obj))(s:au)(σ:St)(H:Hp)(D:Ends),Inv X pins σ H s->t D σ H->wpAny (model X.prog X.w) X.A (execs st X.env) (SP X pins D) X.xe s
def thn{α:Type}{t:Sem α}{Q Q':α->au->Prop}{M:Model}{A:bE}{E:ai->au->Prop}{s:au}(h:wpAny M A t Q E s)(hQ:∀a s,Q a s->Q' a s):wpAny M A t Q' E s:=cw h hQ λ_ _ x=>x
end L2
namespace L2
open PySem PySem.Spec PyProof.Rows
section
variable{X:Cx}
def wm(i:Nat):TE:=λσ H Q=>∃v,σ[i]?=some (some v)/\Q v H
def tC(v:V):TE:=λ_ H Q=>Q v H
def fJ(hN:X.N[i]?=some x)(hv:Vis X.env.scope x)(hd:(x==("__debug__":Str))=false:=by decide)(hcd:(x==("__classdict__":Str))=false:=by decide):PE X (.Name x pos) (wm i):=by
 intro pins s σ H Q I h;obtain⟨v,e,h⟩:=h;obtain⟨m,hn,hl⟩:=I.loc;obtain⟨u,r,l⟩:=hl i x v hN e hv;have fin:EP X pins σ Q u s:=⟨v,H,I,r,h⟩;rcases l with⟨hk,hm⟩|⟨hk,c,hc,hcell⟩
 .exact LV (HJ I.ok.kind hk hn hm fin) hd
 .rcases hk with hk|hk
  .exact LV (IH I.ok.kind hk hc hcell fin) hd
  .exact LV (wpAny_loadName_free I.ok.kind hk hc hcell fin hcd) hd
def CF:PE X (.Constant (.int i) j pos) (tC (.int i)):=λ_ _ _ H _ I h=>wpAny_Constant_int ⟨.int i,H,I.tok _,⟨_,rfl⟩,h⟩
def MO:PE X (.Constant (.bool b) j pos) (tC (.bl b)):=λ_ _ _ H _ I h=>Constant_bool ⟨.bl b,H,I,rfl,h⟩
def Ke:PE X (.Constant .none j pos) (tC .non):=λ_ _ _ H _ I h=>Constant_none ⟨.non,H,I,rfl,h⟩
def wK:PE X (.Constant (.str x) j pos) (tC (.str x)):=λ_ _ _ H _ I h=>Calls.Constant_str ⟨.str x,H,I.tok _,⟨_,rfl⟩,h⟩
def Gl(X:Cx)(x:Str):Prop:=X.env.kindOf x=some .globalImplicit
def kE(I:Inv X pins σ H s)(hg:Gl X x)(hm:X.mg x=some u)(h:Q u s)
 (hd:(x==("__debug__":Str))=false:=by decide):wpAny (model X.prog X.w) X.A (eval (.Name x pos) X.env) Q E s :=
 qA I.ok.kind hg (Calls.loadGlobal_global (by rw[I.ok.glob];exact I.mod.glob.keeps I.bk) hm h) hd
def pK{E:ai->au->Prop}{pins:List (av×Obj)}{s:au}{σ:St}{H:Hp}{x:Str}{u:ai}{pos:Pos}{Q:ai->au->Prop}(I:Inv X pins σ H s)(hg:Gl X x)(hm:X.mg x=none)(hv:bootBuiltins x=some u)(h:Q u s)
 (hn:x≠"__name__":=by decide)(hd:(x==("__debug__":Str))=false:=by decide):wpAny (model X.prog X.w) X.A (eval (.Name x pos) X.env) Q E s:=by
 obtain⟨mb,h1,h2⟩:=I.mod.blt;exact qA I.ok.kind hg (Calls.loadGlobal_builtin (by rw[I.ok.glob];exact I.mod.glob.keeps I.bk) hm (by rw[I.ok.blt];exact h1.keeps I.bk) ((h2 x hn).trans hv) h) hd
def oG(hg:Gl X x)(hm:X.mg x=some u)(r:RelV v u)(hd:(x==("__debug__":Str))=false:=by decide):PE X (.Name x pos) (tC v) :=
 λ_ _ _ H _ I h=>kE I hg hm ⟨v,H,I,r,h⟩ hd
def yx(hg:Gl X x)(hm:X.mg x=none)(hv:bootBuiltins x=some u)(r:RelV v u)(hn:x≠"__name__":=by decide)(hd:(x==("__debug__":Str))=false:=by decide):PE X (.Name x pos) (tC v) :=
 λ_ _ _ H _ I h=>pK I hg hm hv ⟨v,H,I,r,h⟩ hn hd
variable{a b:aE}{ta tb:TE}{pos:Pos}
def PC(X:Cx)(op:uo)(a b:aE)(t:TE):Prop :=
 ∀(pins:List (av×Obj))(s:au)(σ:St)(H:Hp)(Q:VK),Inv X pins σ H s->t σ H Q ->
  wpAny (model X.prog X.w) X.A (eval a X.env) (λv s₁=>wpAny (model X.prog X.w) X.A (eval b X.env) (λu s₂=>wpAny (model X.prog X.w) X.A (compareOp op v u) (EP X pins σ Q) X.xe s₂) X.xe s₁) X.xe s
def NM(ta:TE):TE:=λσ H Q=>ta σ H λx H1=>Q (.bl (decide (x=.non))) H1
def RelV.none_iff(r:RelV x v):(v==jP)=decide (x=.non):=by
 cases x with
 |non=>cases r;rfl
 |bl _=>cases r;rfl
 |int _=>obtain⟨t,rfl⟩:=r;rfl
 |str _=>obtain⟨t,rfl⟩:=r;rfl
 |ref _=>cases r;rfl
 |ty _=>cases r;rfl
def Kh{j pos'}(ha:PE X a ta):PC X .Is a (.Constant .none j pos') (NM ta):=by
 intro pins s σ H Q I h;refine thn (ha pins s σ H _ I h) λv s1 zz=>?_;obtain⟨x,H1,I1,r1,q1⟩:=zz;exact Constant_none (is_none_gen ⟨.bl _,H1,I1,by rw[r1.none_iff];rfl,q1⟩)
def tB(t:TE):TT:=λσ H Q=>t σ H λx H1=>∃c,x=.bl c/\Q c H1
def JS{op:uo}{t:TE}(h:PC X op a b t)(h1:behindInMarks op b=false:=by first|exact nobehind _ ⇑0 ⇑0|rfl):PT X (.Compare a [op] [b] pos) (tB t):=by
 intro pins s σ H Q I hw;refine EF (thn (h pins s σ H _ I hw) λv s1 h1=>thn h1 λu s2 h2=>thn h2 λc s3⟨x,H1,I1,r1,q1⟩=>?_) h1;obtain⟨d,rfl,q⟩:=q1;cases r1;exact bX ⟨H1,I1,q⟩
def wD{e:aE}{t:TE}(h:PE X e t)(he:∀whole,isTrue e X.env whole=(do let v <- whole;standAt e.pos;holding [v] (truthy v)):=by intro _;rfl):PT X e (tB t):=by
 intro pins s σ H Q I hw;refine isTrue_plain (thn (h pins s σ H _ I hw) λv s1⟨x,H1,I1,r1,q1⟩=>?_) (he _);obtain⟨d,rfl,q⟩:=q1;cases r1;exact bX ⟨H1,I1,q⟩
variable{tA tB':TT}{rest:List aE}
def Mv(t u:TT):TT:=λσ H Q=>t σ H λc H1=>if c=true then u σ H1 Q else Q false H1
def tOr(t u:TT):TT:=λσ H Q=>t σ H λc H1=>if c=true then Q true H1 else u σ H1 Q
def NK(t:TT):TT:=λσ H Q=>t σ H λc H1=>Q (!c) H1
def yo(ha:PT X a tA):PW X (.BoolOp .And [a] pos) tA:=by
 intro wh pins s σ H Q I h;refine isTrue_and (thn (ha pins s σ H Q I h) λc s1 e=>?_)
 cases c with
 |true=>exact isTrue_and_nil e
 |false=>exact e
def JQ(ha:PT X a tA):PW X (.BoolOp .Or [a] pos) tA:=by
 intro wh pins s σ H Q I h;refine isTrue_or (thn (ha pins s σ H Q I h) λc s1 e=>?_)
 cases c with
 |false=>exact isTrue_or_nil e
 |true=>exact e
def wB(ha:PT X a tA)(hb:PW X (.BoolOp .And (b::rest) pos) tB'):PW X (.BoolOp .And (a::b::rest) pos) (Mv tA tB'):=by
 intro wh pins s σ H Q I h;refine isTrue_and (thn (ha pins s σ H _ I h) λc s1⟨H1,I1,q1⟩=>?_)
 cases c with
 |true=>exact hb wh pins s1 σ H1 Q I1 q1
 |false=>exact⟨H1,I1,q1⟩
def MK(ha:PT X a tA)(hb:PW X (.BoolOp .Or (b::rest) pos) tB'):PW X (.BoolOp .Or (a::b::rest) pos) (tOr tA tB'):=by
 intro wh pins s σ H Q I h;refine isTrue_or (thn (ha pins s σ H _ I h) λc s1⟨H1,I1,q1⟩=>?_)
 cases c with
 |true=>exact⟨H1,I1,q1⟩
 |false=>exact hb wh pins s1 σ H1 Q I1 q1
def JR(ha:PT X a tA):PT X (.UnaryOp .Not a pos) (NK tA):=by
 intro pins s σ H Q I h;exact isTrue_not (ha pins s σ H (λc H1=>Q (!c) H1) I h)
def Mu(ta tb:TE):TE:=λσ H Q=>ta σ H λx H1=>∃c,x=.bl c/\if c=true then tb σ H1 Q else Q (.bl false) H1
def NJ(ta tb:TE):TE:=λσ H Q=>ta σ H λx H1=>∃c,x=.bl c/\if c=true then Q (.bl true) H1 else tb σ H1 Q
def Mm(ta:TE):TE:=λσ H Q=>ta σ H λx H1=>∃c,x=.bl c/\Q (.bl (!c)) H1
def wL(h:PE X a t):PE X (.BoolOp op [a] pos) t:=λpins s σ H Q I hw=>BoolOp_one (h pins s σ H Q I hw)
def CK(ha:PE X a ta)(hb:PE X (.BoolOp .And (b::rest) pos) tb):PE X (.BoolOp .And (a::b::rest) pos) (Mu ta tb):=by
 intro pins s σ H Q I h;refine BoolOp_and (thn (ha pins s σ H _ I h) λv s1⟨x,H1,I1,r1,q1⟩=>?_);obtain⟨c,rfl,q1⟩:=q1;cases r1;refine bX ?_
 cases c with
 |true=>exact hb pins s1 σ H1 Q I1 q1
 |false=>exact⟨.bl false,H1,I1,rfl,q1⟩
def MM(ha:PE X a ta)(hb:PE X (.BoolOp .Or (b::rest) pos) tb):PE X (.BoolOp .Or (a::b::rest) pos) (NJ ta tb):=by
 intro pins s σ H Q I h;refine BoolOp_or (thn (ha pins s σ H _ I h) λv s1⟨x,H1,I1,r1,q1⟩=>?_);obtain⟨c,rfl,q1⟩:=q1;cases r1;refine bX ?_
 cases c with
 |false=>exact hb pins s1 σ H1 Q I1 q1
 |true=>exact⟨.bl true,H1,I1,rfl,q1⟩
def Kd(ha:PE X a ta):PE X (.UnaryOp .Not a pos) (Mm ta):=by
 intro pins s σ H Q I h;refine UnaryOp_ (thn (ha pins s σ H _ I h) λv s1⟨x,H1,I1,r1,q1⟩=>?_);obtain⟨c,rfl,q1⟩:=q1;cases r1;exact not_of (bX ⟨.bl (!c),H1,I1,rfl,q1⟩)
def tIf(t:TT)(ta tb:TE):TE:=λσ H Q=>t σ H λc H1=>if c=true then ta σ H1 Q else tb σ H1 Q
def CG{c:aE}(hc:PT X c tA)(ha:PE X a ta)(hb:PE X b tb):PE X (.IfExp c a b pos) (tIf tA ta tb):=by
 intro pins s σ H Q I h;refine wpAny_IfExp (thn (hc pins s σ H _ I h) λd s1⟨H1,I1,q1⟩=>?_)
 cases d with
 |true=>exact ha pins s1 σ H1 Q I1 q1
 |false=>exact hb pins s1 σ H1 Q I1 q1
end
end L2
namespace L2
open PySem PySem.Spec PyProof.Rows
def SqL(K:PySem.W.Frag)(H:Hp)(a:av)(xs:List V):Prop :=
 Rd H a (.lst xs) \/
  ∃(o:Obj)(its:Array ai)(n:Nat),K.lookup a=some o/\o.cls=.type "list"/\o.dict=none/\o.data=.seq its n/\its.size<=sizeLine/\Vals xs its.toList
def SqT(K:PySem.W.Frag)(H:Hp)(a:av)(xs:List V):Prop :=
 Rd H a (.tup xs) \/
  ∃(o:Obj)(its:Array ai)(n:Nat),K.lookup a=some o/\o.cls=.type "tuple"/\o.data=.seq its n/\its.size<=sizeLine/\Vals xs its.toList
def Oq:ai->Option V
 |.none=>some .non
 |.bool b=>some (.bl b)
 |.int i _=>some (.int i)
 |.str x _=>some (.str x)
 |.ref a=>some (.ref a)
 |.type n=>some (.ty n)
 |_=>none
def RelV.abs(r:RelV x u):Oq u=some x:=by
 cases x with
 |non=>cases r;rfl
 |bl _=>cases r;rfl
 |int _=>obtain⟨t,rfl⟩:=r;rfl
 |str _=>obtain⟨t,rfl⟩:=r;rfl
 |ref _=>cases r;rfl
 |ty _=>cases r;rfl
def RelV.inj{x y:V}{u:ai}(r:RelV x u)(q:RelV y u):x=y:=bU (r.abs.symm.trans q.abs)
def Vals.inj:∀{xs ys:List V}{us:List ai},Vals xs us->Vals ys us->xs=ys
 |_,_,_,.nil,.nil=>rfl
 |_,_,_,.cons r t,.cons r' t'=>by rw[r.inj r',Vals.inj t t']
section
variable{X:Cx}{pins:List (av×Obj)}{σ:St}{H:Hp}{s:au}{a:av}{xs ys:List V}
def SqT.of{K:PySem.W.Frag}(h:H a=some (.tup xs)):SqT K H a xs:=.inl (.inl h)
def Inv.list(I:Inv X pins σ H s)(h:SqL X.K H a xs):∃its:List ai,Vals xs its/\PlainL s.heap a its.toArray/\xs.length<=sizeLine:=by
 rcases h with h|⟨o,its,n,hk,hc,hd,hs,hz,r⟩
 .obtain⟨z,its,n,r,e⟩:=h.ok I.hok;exact⟨its,r,⟨_,n,e,rfl,rfl,rfl⟩,z⟩
 .refine⟨its.toList,r,⟨o,n,I.kIn a o hk,hc,hd,by simpa using hs⟩,?_⟩;have e:=r.length;simp only[lJ]at e
  lia
def Inv.tuple(I:Inv X pins σ H s)(h:SqT X.K H a xs):∃its:List ai,Vals xs its/\HU s.heap a its.toArray/\xs.length<=sizeLine:=by
 rcases h with h|⟨o,its,n,hk,hc,hs,hz,r⟩
 .obtain⟨z,its,r,p⟩:=h.ok I.hok;exact⟨its,r,p,z⟩
 .refine⟨its.toList,r,⟨o,I.kIn a o hk,hc,n,by simpa using hs⟩,?_⟩;have e:=r.length;simp only[lJ]at e
  lia
def Inv.list_inj(I:Inv X pins σ H s)(h:SqL X.K H a xs)(h':SqL X.K H a ys):xs=ys:=by
 obtain⟨its,r,⟨o,n,e,_,_,d⟩,_⟩:=I.list h;obtain⟨its',r',⟨o',n',e',_,_,d'⟩,_⟩:=I.list h';rw[e]at e';cases e';rw[d]at d';injection d' with d1 _;have:its=its':=by simpa using congrArg nH d1
 subst this;exact r.inj r'
def Inv.tuple_inj(I:Inv X pins σ H s)(h:SqT X.K H a xs)(h':SqT X.K H a ys):xs=ys:=by
 obtain⟨its,r,⟨o,e,_,n,d⟩,_⟩:=I.tuple h;obtain⟨its',r',⟨o',e',_,n',d'⟩,_⟩:=I.tuple h';rw[e]at e';cases e';rw[d]at d';injection d' with d1 _;have:its=its':=by simpa using congrArg nH d1
 subst this;exact r.inj r'
end
abbrev Cx.wish(X:Cx)(E:ai->au->Prop):Cx:={X with xe:=E}
abbrev Cx.nox(X:Cx):Cx:=X.wish λ_ _=>False
def Cx.Ok.wish{X:Cx}(ok:X.Ok)(E:ai->au->Prop):(X.wish E).Ok :=
 ⟨ok.mod,ok.kind,ok.glob,ok.blt,ok.above,ok.inj,ok.has,ok.cab,ok.hd,ok.frames,ok.stk,ok.exf,ok.bs,ok.bsz,ok.noex,ok.exfs,ok.funs,ok.frf⟩
def Cx.Ok.unwish{X:Cx}{E:ai->au->Prop}(ok:(X.wish E).Ok):X.Ok :=
 ⟨ok.mod,ok.kind,ok.glob,ok.blt,ok.above,ok.inj,ok.has,ok.cab,ok.hd,ok.frames,ok.stk,ok.exf,ok.bs,ok.bsz,ok.noex,ok.exfs,ok.funs,ok.frf⟩
section
variable{X:Cx}{pins:List (av×Obj)}{σ:St}{H:Hp}{s:au}{E:ai->au->Prop}
def Inv.wish(I:Inv X pins σ H s)(E:ai->au->Prop):Inv (X.wish E) pins σ H s:=⟨I.ok.wish E,I.os,I.bare,I.base,I.loc,I.cell,I.free,I.freeC,I.pin,I.hok,I.len⟩
def Inv.unwish(I:Inv (X.wish E) pins σ H s):Inv X pins σ H s:=⟨I.ok.unwish,I.os,I.bare,I.base,I.loc,I.cell,I.free,I.freeC,I.pin,I.hok,I.len⟩
def SP.unwish{D:Ends}{f:Flow}{s':au}(h:SP (X.wish E) pins D f s'):SP X pins D f s':=by
 cases f with
 |next=>obtain⟨σ',H',I,q⟩:=h;exact⟨σ',H',I.unwish,q⟩
 |brk=>obtain⟨σ',H',I,q⟩:=h;exact⟨σ',H',I.unwish,q⟩
 |cont=>obtain⟨σ',H',I,q⟩:=h;exact⟨σ',H',I.unwish,q⟩
 |ret u=>obtain⟨v,σ',H',I,r,q⟩:=h;exact⟨v,σ',H',I.unwish,r,q⟩
def PE.nox{e:aE}{t:TE}(h:PE X.nox e t):PE X e t:=λpins s σ H Q I hw =>
 cw (h pins s σ H Q (I.wish _) hw) (λ_ _⟨v,H',I',r,q⟩=>⟨v,H',I'.unwish,r,q⟩) λ_ _ z=>bz z
def PT.nox{e:aE}{t:TT}(h:PT X.nox e t):PT X e t:=λpins s σ H Q I hw =>
 cw (h pins s σ H Q (I.wish _) hw) (λ_ _⟨H',I',q⟩=>⟨H',I'.unwish,q⟩) λ_ _ z=>bz z
def PSs.nox{st:List bG}{t:TS}(h:PSs X.nox st t):PSs X st t:=λpins s σ H D I hw =>
 cw (h pins s σ H D (I.wish _) hw) (λ_ _ q=>q.unwish) λ_ _ z=>bz z
end
section
variable{X:Cx}{st:bG}{rest:List bG}{t u:TS}{e:aE}{te:TE}{pos:Pos}
def Mn:TS:=λD σ H=>D.nx σ H
def NG(t u:TS):TS:=λD σ H=>t {D with nx:=u D} σ H
def mh:PSs X [] Mn:=λ_ _ σ H _ I h=>iT ⟨σ,H,I,h⟩
def jY(h1:PS X st t)(h2:PSs X rest u):PSs X (st::rest) (NG t u):=by
 intro pins s σ H D I h;refine uc (thn (h1 pins s σ H {D with nx:=u D} I h) λf s1 q=>?_)
 cases f with
 |next =>
  obtain⟨σ',H',I',q⟩:=q
  exact h2 pins s1 σ' H' D I' q
 |ret v=>exact q
 |brk=>exact q
 |cont=>exact q
def Gb(h1:PS X st t):PSs X [st] t:=by
 intro pins s σ H D I h;refine uc (thn (h1 pins s σ H D I h) λf s1 q=>?_)
 cases f with
 |next=>exact iT q
 |ret v=>exact q
 |brk=>exact q
 |cont=>exact q
def Inv.quiet{pins:List (av×Obj)}{σ:St}{H:Hp}{s:au}(I:Inv X pins σ H s):interactive X.env=false:=by simp[interactive,I.ok.kind]
def Mq(te:TE):TS:=λD σ H=>te σ H λ_ H1=>D.nx σ H1
def sE(he:PE X e te)(hs:swapsWith e none pos.line X.env=pure false:=by rfl):PS X (.Expr e pos) (Mq te):=by
 intro pins s σ H D I h;exact wpAny_Expr_any (thn (he pins s σ H _ I h) λv s1⟨x,H1,I1,r1,q1⟩=>⟨σ,H1,I1,q1⟩) I.quiet hs
def NH(te:TE):TS:=λD σ H=>te σ H D.rt
def Cu(he:PE X e te):PS X (.Return (some e) pos) (NH te):=by
 intro pins s σ H D I h;exact wpAny_Return_some (thn (he pins s σ H _ I h) λv s1⟨x,H1,I1,r1,q1⟩=>⟨x,σ,H1,I1,r1,q1⟩)
def NN(c:TT)(t u:TS):TS:=λD σ H=>c σ H λb H1=>if b=true then t D σ H1 else u D σ H1
def uU{c:aE}{a b:List bG}{tc:TT}(hc:PT X c tc)(ha:PSs X a t)(hb:PSs X b u):PS X (.If c a b pos) (NN tc t u):=by
 intro pins s σ H D I h;refine wpAny_If (thn (hc pins s σ H _ I h) λd s1⟨H1,I1,q1⟩=>?_)
 cases d with
 |true=>exact ha pins s1 σ H1 D I1 q1
 |false=>exact hb pins s1 σ H1 D I1 q1
def Jt:TS:=λ_ _ _=>False
def Cw:PS X st Jt:=λ_ _ _ _ _ _ h=>h.elim
end
abbrev TG:=V->St->Hp->(St->Hp->Prop)->Prop
abbrev TGs:=List V->St->Hp->(St->Hp->Prop)->Prop
def PG(X:Cx)(target:aE)(t:TG):Prop :=
 ∀(pins:List (av×Obj))(s:au)(σ:St)(H:Hp)(v:V)(u:ai)(Q:St->Hp->Prop),Inv X pins σ H s->RelV v u->t v σ H Q ->
  wpAny (model X.prog X.w) X.A (assign target X.env u) (λ_ s'=>∃σ' H',Inv X pins σ' H' s'/\Q σ' H') X.xe s
def PGs(X:Cx)(ts:List aE)(t:TGs):Prop :=
 ∀(pins:List (av×Obj))(s:au)(σ:St)(H:Hp)(vs:List V)(us:List ai)(Q:St->Hp->Prop),Inv X pins σ H s->Vals vs us->t vs σ H Q ->
  wpAny (model X.prog X.w) X.A (assignInOrder ((assignEach ts X.env).map (·.2)) us) (λ_ s'=>∃σ' H',Inv X pins σ' H' s'/\Q σ' H') X.xe s
abbrev LQ:=V->V->V->Hp->(Hp->Prop)->Prop
def NB(X:Cx)(t:LQ):Prop :=
 ∀(pins:List (av×Obj))(s:au)(σ:St)(H:Hp)(o i v:V)(ov iv u:ai)(Q:Hp->Prop),Inv X pins σ H s->RelV o ov->RelV i iv->RelV v u->t o i v H Q ->
  wpAny (model X.prog X.w) X.A (setItem ov iv u) (λ_ s'=>∃H',Inv X pins σ H' s'/\Q H') X.xe s
abbrev TIp:=V->V->Hp->VK->Prop
def PIp(X:Cx)(op:gL)(t:TIp):Prop :=
 ∀(pins:List (av×Obj))(s:au)(σ:St)(H:Hp)(x y:V)(v u:ai)(Q:VK),Inv X pins σ H s->RelV x v->RelV y u->t x y H Q ->
  wpAny (model X.prog X.w) X.A (inplaceOp op v u) (EP X pins σ Q) X.xe s
section
variable{X:Cx}{pos:Pos}
def pO(i:Nat):TG:=λv σ H Q=>Q (σ.set i (some v)) H
def sG(hN:X.N.Nodup)(hi:X.N[i]?=some x)(hx:Loc X.env.scope x)(hf:X.fn x=true\/X.env.scope.names.lookup x=some .local:=by first|exact .inl rfl|exact .inr rfl|assumption):PG X (.Name x pos) (pO i):=by
 intro pins s σ H v u Q I r h;exact LY (ig I hN hi hx r (λs' I'=>⟨_,H,I',h⟩) hf)
def Lf:TGs:=λvs σ H Q=>vs=[]/\Q σ H
def yP(t:TG)(u:TGs):TGs:=λvs σ H Q=>∃v r,vs=v::r/\t v σ H λσ' H'=>u r σ' H' Q
def yu:PGs X [] Lf:=by
 intro pins s σ H vs us Q I r h;obtain⟨e,h⟩:=h;subst e;cases r;exact LZ ⟨σ,H,I,h⟩
def pG{e:aE}{es:List aE}{t:TG}{u:TGs}(h1:PG X e t)(h2:PGs X es u)
 (hs:(assignEach (e::es) X.env).map (·.2)=assign e X.env::(assignEach es X.env).map (·.2):=by rfl):PGs X (e::es) (yP t u):=by
 intro pins s σ H vs us Q I r h;obtain⟨v,vr,e1,h⟩:=h;subst e1
 cases r with
 |cons r rr =>
  rw[hs];refine pX (thn (h1 pins s σ H _ _ _ I r h) λ_ s1⟨σ1,H1,I1,q1⟩=>?_);exact h2 pins s1 σ1 H1 _ _ Q I1 rr q1
def Oi(K:PySem.W.Frag)(n:Nat)(t:TGs):TG:=λv σ H Q=>∃a xs,v=.ref a/\SqT K H a xs/\xs.length=n/\t xs σ H Q
def Ka(hc:X.calm=true)(h:PGs X es t)
 (hn:(assignEach es X.env).length=n:=by rfl)(hst:(assignEach es X.env).findIdx? (·.1)=none:=by rfl):PG X (.Tuple es k pos) (Oi X.K n t):=by
 intro pins s σ H v u Q I r hw;obtain⟨a,xs,e1,hq,hl,hw⟩:=hw;subst e1;cases r;obtain⟨its,rv,ht,hz⟩:=I.tuple hq;refine assign_Tuple_tuple (I.ok.hd hc) ht (by simp[hn,<- hl,rv.length]) hst λh' hx=>?_;have I1:Inv X pins σ H {s with heap:=h'}:=I.kept (t':=s.toks) λb o e=>hx b o (aU (aJ e)) e;exact h pins _ σ H xs _ Q I1 (by simpa using rv) hw
def Oj(to ti:TE)(t:LQ):TG:=λv σ H Q=>to σ H λo H1=>ti σ H1 λi H2=>t o i v H2 λH3=>Q σ H3
def Kb{o i:aE}{to ti:TE}{t:LQ}(ho:PE X o to)(hi:PE X i ti)(hs:NB X t)
 (ha:∀v,assign (.Subscript o i pos) X.env v=(do
   let ov <- holding [v] (eval o X.env)
   let iv <- holding [v,ov] (eval i X.env)
   standAt pos
   holding [v,ov,iv] (setItem ov iv v)
   release [v,ov,iv] []):=by intro _;rfl):PG X (.Subscript o i pos) (Oj to ti t):=by
 intro pins s σ H v u Q I r h;rw[ha];refine aI (kl (thn (ho pins s σ H _ I h) λov s1⟨x,H1,I1,r1,q1⟩=>?_));refine aI (kl (thn (hi pins s1 σ H1 _ I1 q1) λiv s2⟨y,H2,I2,r2,q2⟩=>?_));refine aI (kj (aI (kl (thn (hs pins s2 σ H2 x y v ov iv u _ I2 r1 r2 r q2) λ_ s3⟨H3,I3,q3⟩=>?_))));exact wpAny_release ⟨σ,H3,I3,q3⟩
def Bu(te:TE)(g:TG):TS:=λD σ H=>te σ H λx H1=>g x σ H1 D.nx
def sF{tg e:aE}{te:TE}{g:TG}(he:PE X e te)(hg:PG X tg g)(hs:swapsWithSole [tg] e pos.line X.env=pure false:=by rfl)(hw:swappedStores [tg] e X.env=pure none:=by rfl)
 (h1:(assignEach [tg] X.env).map (·.2)=[assign tg X.env]:=by rfl):PS X (.Assign [tg] e pos) (Bu te g):=by
 intro pins s σ H D I h;refine wpAny_Assign_stores (thn (he pins s σ H _ I h) λv s1⟨x,H1,I1,r1,q1⟩=>?_) hs hw;rw[h1];exact thn (hg pins s1 σ H1 x v _ I1 r1 q1) λ_ s2 q=>q
def Ct{i:Nat}{x:Str}{e:aE}{te:TE}{pos':Pos}(hN:X.N.Nodup)(hi:X.N[i]?=some x)(hx:Loc X.env.scope x)(he:PE X e te)(hs:swapsWith e (some (.Name x pos')) pos.line X.env=pure false:=by rfl)(hf:X.fn x=true\/X.env.scope.names.lookup x=some .local:=by first|exact .inl rfl|exact .inr rfl|assumption) :
 PS X (.Assign [.Name x pos'] e pos) (Bu te (pO i)):=by
 intro pins s σ H D I h;refine wpAny_Assign_Name (thn (he pins s σ H _ I h) λv s1⟨y,H1,I1,r1,q1⟩=>?_) hs;exact ig I1 hN hi hx r1 (λs2 I2=>⟨_,H1,I2,q1⟩) hf
def NI(i j:Nat)(ta:TA):TS:=λD σ H=>ta σ H λvs H1=>∃v w,vs=[v,w]/\D.nx ((σ.set i (some v)).set j (some w)) H1
def JT{i j:Nat}{x y:Str}{a b:aE}{ta:TA}{px py pt:Pos}{kt k2 pt2}(hc:X.calm=true)(hN:X.N.Nodup)(hi:X.N[i]?=some x)(hj:X.N[j]?=some y)(hij:i≠j)
 (hx:X.env.scope.names.lookup x=some .local)(hy:X.env.scope.names.lookup y=some .local)(ha:PA X [a,b] ta)
 (hw:swappedStores [.Tuple [.Name x px,.Name y py] kt pt] (.Tuple [a,b] k2 pt2) X.env=pure (some [x,y]))
 (hs:swapsWithSole [.Tuple [.Name x px,.Name y py] kt pt] (.Tuple [a,b] k2 pt2) pos.line X.env=pure false:=by rfl) :
 PS X (.Assign [.Tuple [.Name x px,.Name y py] kt pt] (.Tuple [a,b] k2 pt2) pos) (NI i j ta):=by
 intro pins s σ H D I h;rw[exec_Assign_arm];refine aI (kj ?_);rw[hs];refine aI (bh ?_);rw[if_neg ⇑0];refine aI (Tuple_ (thn (ha _ pins s σ H _ I h) λus s1⟨vs,H1,I1,r1,q1⟩=>?_));obtain⟨v,w,e1,q1⟩:=q1;subst e1
 obtain⟨u1,u2,rfl,rv,rw'⟩:∃u1 u2,us=[u1,u2]/\RelV v u1/\RelV w u2:=by
  cases r1 with
  |cons p q =>
   cases q with
   |cons p' q' =>
    cases q';exact⟨_,_,rfl,p,p'⟩
 refine dO ?_ (by show 2<=sizeLine;decide);have I2:Inv X pins σ H1 {s1 with heap:=s1.heap.push {cls:=.type "tuple",data:=.seq [u1,u2].toArray} }:=I1.kept (t':=s1.toks) λb o e=>ax _ e;rw[hw];refine aI (bh ?_);show wpAny (model X.prog X.w) X.A (do rule "assign.swapped-stores";let items <- unpackItems (.ref s1.heap.objs.size) 2 none;assignInOrder [λv=>bindName X.env y v,λv=>bindName X.env x v] items.reverse;pure Flow.next) _ _ _;refine aI (wpAny_rule (aI (unpackItems_tuple (items := #[u1,u2]) (I.ok.hd hc) (oy s1.heap _) λh' hx'=>?_)));have I3:=I2.kept (h':=h') (t':=s1.toks) λb o e=>hx' b o (aU (aJ e)) e;show wpAny _ _ (assignInOrder [λv=>bindName X.env y v,λv=>bindName X.env x v] [u2,u1] >>= λ_=>pure Flow.next) _ _ _;refine aI (pX (wpAny_bindName (ig I3 hN hj (.inl hy) rw' (λs2 I4=>?_) (.inr hy))));refine pX (wpAny_bindName (ig I4 hN hi (.inl hx) rv (λs3 I5=>LZ (bh ?_)) (.inr hx)));rw[List.set_comm _ _ (Ne.symm hij)]at I5;exact⟨_,H1,I5,q1⟩
def NQ(i:Nat)(te:TE)(ti:TIp):TS:=λD σ H=>∃x,σ[i]?=some (some x)/\te σ H λy H1=>ti x y H1 λz H2=>D.nx (σ.set i (some z)) H2
def JU{i:Nat}{x:Str}{e:aE}{te:TE}{op:gL}{ti:TIp}{pos':Pos}(hN:X.N.Nodup)(hi:X.N[i]?=some x)(hx:Loc X.env.scope x)(he:PE X e te)(ho:PIp X op ti)(hf:X.fn x=true\/X.env.scope.names.lookup x=some .local:=by first|exact .inl rfl|exact .inr rfl|assumption) :
 PS X (.AugAssign (.Name x pos') op e pos) (NQ i te ti):=by
 intro pins s σ H D I h;obtain⟨v,e1,h⟩:=h;obtain⟨m,hn,hl⟩:=I.loc;have vis:Vis X.env.scope x:=by rcases hx with k|k;exact .inl k;exact .inr (.inl k)
 obtain⟨u,r,l⟩:=hl i x v hi e1 vis;refine wpAny_AugAssign_Name ?_
 have go:wpAny (model X.prog X.w) X.A (eval e X.env) (λw s₂=>wpAny (model X.prog X.w) X.A (inplaceOp op u w) (λr s₃=>wpAny (model X.prog X.w) X.A (storeName X.env x r) (λ_=>SP X pins D .next) X.xe s₃) X.xe s₂) X.xe s:=by
  refine thn (he pins s σ H _ I h) λw s1 zz=>?_;obtain⟨y,H1,I1,r1,q1⟩:=zz;refine thn (ho pins s1 σ H1 v y u w _ I1 r r1 q1) λz s2 zz=>?_;obtain⟨zv,H2,I2,r2,q2⟩:=zz;exact ig I2 hN hi hx r2 (λs3 I3=>⟨_,H2,I3,q2⟩) hf
 rcases l with⟨hk,hm⟩|⟨hk,c,hc,hcell⟩
 .exact HJ I.ok.kind hk hn hm go
 .rcases hk with hk|hk
  .exact IH I.ok.kind hk hc hcell go
  .rcases hx with k|k
   .have:X.env.scope.names.lookup x=some .free:=hk;rw[k]at this;cases this
   .have:X.env.scope.names.lookup x=some .free:=hk;rw[k]at this;cases this
def ipI(f:Int->Int->Int):TIp:=λx y H Q=>∃i j,x=.int i/\y=.int j/\Q (.int (f i j)) H
def Ld:PIp X .Add (ipI λi j=>i+j):=by
 intro pins s σ H x y v u Q I r1 r2 h;obtain⟨i,j,e1,e2,q⟩:=h;subst e1;subst e2;obtain⟨t,rfl⟩:=r1;obtain⟨t',rfl⟩:=r2;exact iadd_int ⟨.int _,H,I.tok _,⟨_,rfl⟩,q⟩
end
section
variable{X:Cx}{pos:Pos}
def Js(c:TT)(tb:TS):TS:=λD σ H=>∃W:Nat->St->Hp->Prop,(∃m,W m σ H)/\∀m σ H,W m σ H ->
 c σ H λb H1=>if b=true then ∃N:St->Hp->Prop,(∀σ' H',N σ' H'->∃m',m'<m/\W m' σ' H')/\tb {D with nx:=N,ct:=N,bk:=D.nx} σ H1 else D.nx σ H1
def Cs{c:aE}{body:List bG}{tc:TT}{tb:TS}(hp:nV (model X.prog X.w) X.A X.env X.xe)(hc:PT X c tc)(hb:PSs X body tb):PS X (.While c body [] pos) (Js tc tb):=by
 intro pins s σ H D I h;obtain⟨W,⟨m0,w0⟩,turn⟩:=h;refine wpAny_While (codeAny_whileLoop (λn s'=>∃σ' H',Inv X pins σ' H' s'/\W n σ' H') ?_ m0 ⟨σ,H,I,w0⟩);rintro n s1 ⟨σ1,H1,I1,w1⟩;refine fc hp (thn (hc pins s1 σ1 H1 _ I1 (turn n σ1 H1 w1)) λb s2⟨H2,I2,q2⟩=>?_)
 cases b with
 |true =>
  obtain⟨N,hN,q2⟩:=q2;rw[if_pos rfl];refine fc hp (thn (hb pins s2 σ1 H2 _ I2 q2) λf s3 q3=>?_)
  cases f with
  |next =>
   obtain⟨σ3,H3,I3,n3⟩:=q3;obtain⟨m',hm,w3⟩:=hN σ3 H3 n3
   exact⟨m',hm,σ3,H3,I3,w3⟩
  |cont =>
   obtain⟨σ3,H3,I3,n3⟩:=q3;obtain⟨m',hm,w3⟩:=hN σ3 H3 n3
   exact⟨m',hm,σ3,H3,I3,w3⟩
  |brk=>exact q3
  |ret v=>exact q3
 |false =>
  rw[if_neg aq];exact iT ⟨σ1,H2,I2,q2⟩
end
structure It where
 go:Nat->Hp->Prop
 yld:Nat->Hp->V->Hp->Prop
 stop:Nat->Hp->Prop
def lH(X:Cx)(pins:List (av×Obj))(H:Hp)(b:av):Prop :=
 H b=none/\b≠X.env.locals/\b∉X.fs/\(b∈X.ex\/X.s₀.heap.objs.size<=b)/\(∀x c,X.env.cells.lookup x=some c->c≠b)/\∀p∈X.pn++pins,p.1≠b
def Inv.fpOk(I:Inv X pins σ H s)(hb:s.heap.objs.size<=b)(hn:H' b=none):lH X pins H' b:=by
 refine⟨hn,Nat.ne_of_gt (aK I.lt hb),I.nofs hb,.inr (aZ I.sz hb),λx c e z=>?_,λp hp z=>?_⟩
 .obtain⟨v,q⟩:=I.cell x c e;exact absurd (aK q.lt (by rw[z];exact hb)) (cX _)
 .exact absurd (aK (aJ (I.pin p hp).1) (by rw[z];exact hb)) (cX _)
structure Turn(P:aQ)(w:bD)(K:PySem.W.Frag)(tg:aE)(J:It)(fp:List av)(it:av)(tn:Nat->bW->Prop):Prop where
 mem:it∈fp
 obj:∀i h,tn i h->∀b∈fp,∃o,h.get? b=some o/\∀v,o.data≠.cell v
 keep:∀i h h',tn i h->(∀b∈fp,∀o,h.get? b=some o->h'.get? b=some o)->tn i h'
 item:∀(X:Cx),X.prog=P->X.w=w->X.K=K->X.calm=true->∀(i:Nat)(pins:List (av×Obj))(s:au)(σ:St)(H:Hp)(E:ai->au->Prop),Inv X pins σ H s->(∀b∈fp,lH X pins H b)->tn i s.heap->J.go i H ->
  wpAny (model P w) X.A (pyNext (.ref it)) (λr s1=>∃u,r=some u /\
   wpAny (model P w) X.A (letOwnedTupleGo tg (.ref it) u) (λ_ s2=>∃x H',Inv X pins σ H' s2/\RelV x u/\J.yld i H x H'/\tn (i+1) s2.heap/\∀b∈fp,H' b=none) E s1) E s
 done:∀(X:Cx),X.prog=P->X.w=w->X.K=K->X.calm=true->∀(i:Nat)(pins:List (av×Obj))(s:au)(σ:St)(H:Hp)(E:ai->au->Prop),Inv X pins σ H s->(∀b∈fp,lH X pins H b)->tn i s.heap->J.stop i H ->
  wpAny (model P w) X.A (pyNext (.ref it)) (λr s1=>r=none/\Inv X pins σ H s1) E s
 self:∀(A:bE)(i:Nat)(s:au)(Q:ai->au->Prop)(E:ai->au->Prop),tn i s.heap->Q (.ref it) s->wpAny (model P w) A (pyIter (.ref it)) Q E s
abbrev TI:=St->Hp->(It->Hp->Prop)->Prop
def PIE(X:Cx)(pins:List (av×Obj))(σ:St)(tg:aE)(R:It->Hp->Prop)(itv:ai)(s2:au):Prop :=
 ∃(it:av)(fp:List av)(tn:Nat->bW->Prop)(J:It)(H':Hp),itv=.ref it/\Inv X pins σ H' s2/\Turn X.prog X.w X.K tg J fp it tn/\tn 0 s2.heap/\(∀b∈fp,lH X pins H' b)/\R J H'
def PI(X:Cx)(tg iter:aE)(wi:TI):Prop :=
 ∀(pins:List (av×Obj))(s:au)(σ:St)(H:Hp)(R:It->Hp->Prop),Inv X pins σ H s->wi σ H R ->
  wpAny (model X.prog X.w) X.A (eval iter X.env) (λv s1=>wpAny (model X.prog X.w) X.A (pyIter v) (PIE X pins σ tg R) X.xe s1) X.xe s
def vz(ho:s.heap.get? it=some o)(hc:o.cls=.type n)(hd:o.data=.fields vs)
 (hn:["enumerate","zip","dict_itemiterator","dict_reverseitemiterator","odict_iterator","itertools.zip_longest","itertools.pairwise"].contains n=false)(hQ:Q () s):wpAny M A (letOwnedTupleGo tg (.ref it) u) Q E s:=by
 unfold letOwnedTupleGo
 cases tg<;>first
  |exact bh hQ
  |(cases u<;>first
     |exact bh hQ
     |(refine aI (wpAny_load ho ?_)
       rw[hc,hd];show wpAny M A (if(["enumerate","zip","dict_itemiterator","dict_reverseitemiterator","odict_iterator","itertools.zip_longest","itertools.pairwise"].contains n&&vs[0]?==some (rawInt _))=true then _ else _) Q E s;rw[if_neg (by intro h;rw[hn,Bool.false_and]at h;cases h)];exact bh hQ))
def Itl(K:PySem.W.Frag)(a:av):It :=
 ⟨λi H=>∃xs x,SqL K H a xs/\xs[i]?=some x,λi H x H'=>H'=H/\∀xs,SqL K H a xs->xs[i]?=some x,λi H=>∃xs,SqL K H a xs/\xs.length<=i⟩
def Itt(K:PySem.W.Frag)(a:av):It :=
 ⟨λi H=>∃xs x,SqT K H a xs/\xs[i]?=some x,λi H x H'=>H'=H/\∀xs,SqT K H a xs->xs[i]?=some x,λi H=>∃xs,SqT K H a xs/\xs.length<=i⟩
def Itr(lo:Int)(n:Nat):It:=⟨λi _=>i<n,λi H x H'=>H'=H/\x=.int (lo+i),λi _=>n<=i⟩
def zw{P:aQ}{w:bD}{K:PySem.W.Frag}{tg:aE}(a it:av):Turn P w K tg (Itl K a) [it] it (λi h=>h.IsListIter it a i)where
 mem:=by simp
 obj:=λi h st b hb=>by
  have e:b=it:=by simpa using hb
  subst e;obtain⟨o,e,c,d⟩:=st;exact⟨o,e,λv z=>by rw[d]at z;cases z⟩
 keep:=λi h h' st k=>st.at λo e=>k it ↥0 o e
 item:=by
  intro X hP hw hK hc i pins s σ H E I hf st hg;subst hP hw hK;obtain⟨xs,x,hq,hx⟩:=hg;obtain⟨its,rv,p,hz⟩:=I.list hq;obtain⟨u,hu,ru⟩:=rv.get hx;obtain⟨f0,f1,f2,f3,f4,f5⟩:=hf it ↥0;refine wpAny_pyNext_list_item st p.isList (x:=u) (by simpa using hu) λh' st' sb=>?_;have I1:Inv X pins σ H {s with heap:=h'}:=I.turned (t':=s.toks) (λb o hb e=>(sb.2 b hb).trans e) f0 f1 f3 f4 f5;obtain⟨o,e,c,d⟩:=id st';exact⟨u,rfl,vz (s:={s with heap:=h'}) e c d ⇑0 ⟨x,H,I1,ru,⟨rfl,λys hy=>by rw[I.list_inj hy hq];exact hx⟩,st',λb hb=>(hf b hb).1⟩⟩
 done:=by
  intro X hP hw hK hc i pins s σ H E I hf st hg;subst hP hw hK;obtain⟨xs,hq,hx⟩:=hg;obtain⟨its,rv,p,hz⟩:=I.list hq;obtain⟨f0,f1,f2,f3,f4,f5⟩:=hf it ↥0;have hl:=rv.length;exact wpAny_pyNext_list_end (I.ok.hd hc) st p.isList (by simp;lia) λh' eb=>⟨rfl,I.turned (t':=s.toks) (λb o hb e=>eb b o hb e) f0 f1 f3 f4 f5⟩
 self:=λ_ _ _ _ _ st h=>wpAny_pyIter_listiter st h
def wd{P:aQ}{w:bD}{K:PySem.W.Frag}{tg:aE}(a it:av):Turn P w K tg (Itt K a) [it] it (λi h=>h.IsTupleIter it a i)where
 mem:=by simp
 obj:=λi h st b hb=>by
  have e:b=it:=by simpa using hb
  subst e;obtain⟨o,e,c,d⟩:=st;exact⟨o,e,λv z=>by rw[d]at z;cases z⟩
 keep:=λi h h' st k=>st.at λo e=>k it ↥0 o e
 item:=by
  intro X hP hw hK hc i pins s σ H E I hf st hg;subst hP hw hK;obtain⟨xs,x,hq,hx⟩:=hg;obtain⟨its,rv,p,hz⟩:=I.tuple hq;obtain⟨u,hu,ru⟩:=rv.get hx;obtain⟨f0,f1,f2,f3,f4,f5⟩:=hf it ↥0;refine wpAny_pyNext_tuple_item st (show s.heap.IsTuple a its.toArray from p) (x:=u) (by simpa using hu) λh' st' sb=>?_;have I1:Inv X pins σ H {s with heap:=h'}:=I.turned (t':=s.toks) (λb o hb e=>(sb.2 b hb).trans e) f0 f1 f3 f4 f5;obtain⟨o,e,c,d⟩:=id st';exact⟨u,rfl,vz (s:={s with heap:=h'}) e c d ⇑0 ⟨x,H,I1,ru,⟨rfl,λys hy=>by rw[I.tuple_inj hy hq];exact hx⟩,st',λb hb=>(hf b hb).1⟩⟩
 done:=by
  intro X hP hw hK hc i pins s σ H E I hf st hg;subst hP hw hK;obtain⟨xs,hq,hx⟩:=hg;obtain⟨its,rv,p,hz⟩:=I.tuple hq;obtain⟨f0,f1,f2,f3,f4,f5⟩:=hf it ↥0;have hl:=rv.length;exact wpAny_pyNext_tuple_end (I.ok.hd hc) st (show s.heap.IsTuple a its.toArray from p) (by simp;lia) λh' eb=>⟨rfl,I.turned (t':=s.toks) (λb o hb e=>eb b o hb e) f0 f1 f3 f4 f5⟩
 self:=λ_ _ _ _ _ st h=>wpAny_pyIter_tupleiter st h
def we{P:aQ}{w:bD}{K:PySem.W.Frag}{tg:aE}(it:av)(lo:Int)(n:Nat):Turn P w K tg (Itr lo n) [it] it (λi h=>IsRangeIter h it (lo+(i:Nat)*1) ((n:Int)-(i:Nat)) 1)where
 mem:=by simp
 obj:=λi h st b hb=>by
  have e:b=it:=by simpa using hb
  subst e
  exact⟨_,st,λv z=>by
   have z':Data.fields _=Data.cell v:=z;cases z'⟩
 keep:=λi h h' st k=>k it ↥0 _ st
 item:=by
  intro X hP hw hK hc i pins s σ H E I hf st hg;subst hP hw hK;obtain⟨f0,f1,f2,f3,f4,f5⟩:=hf it ↥0;have W:=Walks.range (prog:=X.prog) (w:=X.w) (I.ok.hd hc) it lo 1 n;refine W.item i s _ _ hg st λv h' tk hv st' kk=>?_;obtain⟨t,rfl⟩:=hv;have I1:Inv X pins σ H {s with heap:=h',toks:=tk}:=I.turned (λb o hb e=>kk b o (by simpa using hb) e) f0 f1 f3 f4 f5;refine⟨_,rfl,vz (s:={s with heap:=h',toks:=tk}) (n:="range_iterator") st' rfl rfl ⇑0 ⟨.int (lo+i),H,I1,⟨t,?_⟩,⟨rfl,rfl⟩,st',λb hb=>(hf b hb).1⟩⟩;rw[Int.mul_one]
 done:=by
  intro X hP hw hK hc i pins s σ H E I hf st hg;subst hP hw hK;obtain⟨f0,f1,f2,f3,f4,f5⟩:=hf it ↥0;exact wpAny_pyNext_range_end (I.ok.hd hc) st (by have:n<=i:=hg;lia) λh' eb=>⟨rfl,I.turned (t':=s.toks) (λb o hb e=>eb b o hb e) f0 f1 f3 f4 f5⟩
 self:=λ_ _ _ _ _ st h=>wpAny_pyIter_rangeiter st h
end L2
namespace L2
open PySem PySem.Spec PyProof.Rows
section
variable{X:Cx}{tg:aE}
def Cd{pins:List (av×Obj)}{σ:St}{H:Hp}{s:au}{R:It->Hp->Prop}{E:ai->au->Prop}{lo hi:Int}{t u v:Tok}{tk:Nat}(I:Inv X pins σ H s)(h1:-(2^62)<=lo)(h2:lo<2^62)(h3:-(2^62)<=hi)(h4:hi<2^62)
 (q:R (Itr lo (hi-lo).toNat) H):wpAny (model X.prog X.w) X.A (pyIter (.ref s.heap.objs.size)) (PIE X pins σ tg R) E {s with heap:=s.heap.push {cls:=.type "range",data:=.fields #[.int lo t,.int hi u,.int 1 v]},toks:=tk}:=by
 refine wpAny_pyIter_range (IsRange.new ..) (small_one h1 h2 h3 h4) ?_;have I1:Inv X pins σ H {s with heap:=s.heap.push {cls:=.type "range",data:=.fields #[.int lo t,.int hi u,.int 1 v]},toks:=tk}:=I.kept λb o e=>ax _ e
 refine⟨(s.heap.push {cls:=.type "range",data:=.fields #[.int lo t,.int hi u,.int 1 v]}).objs.size,[(s.heap.push {cls:=.type "range",data:=.fields #[.int lo t,.int hi u,.int 1 v]}).objs.size],_,_,H,rfl,
  I1.kept (t':=tk) λb o e=>ax _ e,we _ lo (hi-lo).toNat,?_,λb hb=>?_,q⟩
 .have e1:lo+((0:Nat):Int)*1=lo:=by simp
  have e2:(((hi-lo).toNat:Nat):Int)-((0:Nat):Int)=Builtin.Range.rangeSize lo hi 1:=by rw[rangeSize_one];split<;>lia
  show IsRangeIter _ _ (lo+((0:Nat):Int)*1) ((((hi-lo).toNat:Nat):Int)-((0:Nat):Int)) 1;rw[e1,e2];exact aX _ rfl
 .have e:b=(s.heap.push {cls:=.type "range",data:=.fields #[.int lo t,.int hi u,.int 1 v]}).objs.size:=by simpa using hb
  subst e;exact I1.fpOk (aD _) (I1.hok.fresh (aD _))
def Nm(ta:TA):TI:=λσ H R=>ta σ H λvs H1=>∃j:Int,vs=[.int j]/\-(2^62)<=j/\j<2^62/\R (Itr 0 j.toNat) H1
def zJ{a:aE}{ta:TA}{p pos:Pos}(hg:Gl X "range")(hm:X.mg "range"=none)(ha:PA X [a] ta)(hs:starEach [a] X.env=[(false,eval a X.env)]:=by rfl):PI X tg (.Call (.Name "range" p) [a] [] pos) (Nm ta):=by
 intro pins s σ H R I h;refine Call_ (pK I hg hm boot_range (gA (thn (ha pos pins s σ H _ I h) λus s1⟨vs,H1,I1,r1,q1⟩=>?_) hs rfl));obtain⟨j,e,q1,q2,q⟩:=q1;subst e
 cases r1 with
 |cons r rr =>
  cases rr;obtain⟨t,rfl⟩:=r;exact call_range_1 (Cd I1 ∅ ∅ q1 q2 (by simpa using q))
def NO(wi:TI)(g:TG)(tb:TS):TS:=λD σ H=>wi σ H λJ H1=>∃W:Nat->Nat->St->Hp->Prop,(∃m,W 0 m σ H1)/\∀i m σ H,W i m σ H ->
 (J.stop i H/\D.nx σ H)\/(J.go i H/\∃N:St->Hp->Prop,(∀σ' H',N σ' H'->∃m',m'<m/\W (i+1) m' σ' H')/\∀x H',J.yld i H x H'->g x σ H' λσ2 H2=>tb {D with nx:=N,ct:=N,bk:=D.nx} σ2 H2)
def pF(fp:List av)(h:bW):List (av×Obj):=fp.filterMap λb=>(h.get? b).map λo=>(b,o)
def jx(hb:b∈fp)(e:h.get? b=some o):(b,o)∈pF fp h:=AG.mpr ⟨b,hb,by rw[e];rfl⟩
def zQ(hp:p∈pF fp h):p.1∈fp/\h.get? p.1=some p.2:=by
 obtain⟨b,hb,e⟩:=AG.mp hp
 cases q:h.get? b with
 |none=>rw[q]at e;cases e
 |some o =>
  rw[q]at e;have e':(b,o)=p:=bU e;subst e';exact⟨hb,q⟩
def Inv.pinned(I:Inv X pins σ H s)(hf:∀b∈fp,lH X pins H b)(ho:∀b∈fp,∃o,s.heap.get? b=some o/\∀v,o.data≠.cell v):Inv X (pins++pF fp s.heap) σ H s :=
 I.pins_of λp hp=>(cc.mp hp).elim (λz=>I.pin p (aP _ z)) λz=>by
  obtain⟨hb,e⟩:=zQ z;obtain⟨f0,f1,f2,_⟩:=hf p.1 hb;obtain⟨o,e',d⟩:=ho p.1 hb;rw[e]at e';cases e';exact⟨e,f0,f1,f2,d⟩
def Inv.unpinned(I:Inv X (pins++pl) σ H s):Inv X pins σ H s:=I.pins_of λp hp=>I.pin p (aP _ (bZ _ hp))
def Cz(hp:nV (model X.prog X.w) X.A X.env X.xe)(hc:X.calm=true)(hi:PI X tg iter wi)(hg:PG X tg g)(hb:PSs X body tb)
 (hs:∀x,foldedSetIterable iter X.env x=pure x:=by intro _;rfl):PS X (.For tg iter body [] pos) (NO wi g tb):=by
 intro pins s σ H D I h;refine wpAny_For (thn (hi pins s σ H _ I h) λv s1 h1=>thn h1 λitv s2 h2=>?_) hs;obtain⟨it,fp,tn,J,H2,e,I2,T,st2,f2,W,⟨m0,w0⟩,turn⟩:=h2;subst e
 -- what stays true of the iterator's objects through the loop
 have stat:∀{H':Hp},(∀b∈fp,H' b=none)->∀b∈fp,lH X pins H' b:=λhn b hb=>⟨hn b hb,(f2 b hb).2⟩;refine codeAny_forLoop_any (λn s'=>∃i σ' H',Inv X pins σ' H' s'/\tn i s'.heap/\(∀b∈fp,H' b=none)/\W i n σ' H') ?_ m0 ⟨0,σ,H2,I2,st2,λb hb=>(f2 b hb).1,w0⟩;rintro n s3 ⟨i,σ3,H3,I3,st3,fr3,w3⟩;rcases turn i n σ3 H3 w3 with⟨stop,qn⟩|⟨go,N,hN,step⟩
 .refine fc hp (thn (T.done X rfl rfl rfl hc i pins s3 σ3 H3 X.xe I3 (stat fr3) st3 stop) λr s4⟨hr,I4⟩=>?_);subst hr;exact iT ⟨σ3,H3,I4,qn⟩
 .refine fc hp (thn (T.item X rfl rfl rfl hc i pins s3 σ3 H3 X.xe I3 (stat fr3) st3 go) λr s4⟨u,hr,h4⟩=>?_);subst hr;refine fc hp (thn h4 λ_ s5⟨x,H5,I5,r5,y5,st5,fr5⟩=>?_);have I5':=I5.pinned (stat fr5) (T.obj _ _ st5);refine fc hp (thn (hg _ s5 σ3 H5 x u _ I5' r5 (step x H5 y5)) λ_ s6⟨σ6,H6,I6,q6⟩=>?_);refine fc hp (thn (hb _ s6 σ6 H6 _ I6 q6) λf s7 q7=>?_)
  have again:∀{σ7:St}{H7:Hp},Inv X (pins++pF fp s5.heap) σ7 H7 s7->N σ7 H7->∃m,m<n/\∃i σ' H',Inv X pins σ' H' s7/\tn i s7.heap/\(∀b∈fp,H' b=none)/\W i m σ' H':=λ{σ7 H7}I7 n7=>by
   obtain⟨m',hm,w7⟩:=hN σ7 H7 n7;refine⟨m',hm,i+1,σ7,H7,I7.unpinned,T.keep _ _ _ st5 λb hb o e=>(I7.pin (b,o) (aP _ (aP _ (jx hb e)))).1,λb hb=>?_,w7⟩;obtain⟨o,e,d⟩:=T.obj _ _ st5 b hb;exact(I7.pin (b,o) (aP _ (aP _ (jx hb e)))).2.1
  cases f with
  |next=>obtain⟨σ7,H7,I7,n7⟩:=q7;exact again I7 n7
  |cont=>obtain⟨σ7,H7,I7,n7⟩:=q7;exact again I7 n7
  |brk=>obtain⟨σ7,H7,I7,q7⟩:=q7;exact⟨σ7,H7,I7.unpinned,q7⟩
  |ret v=>obtain⟨x7,σ7,H7,I7,r7,q7⟩:=q7;exact⟨x7,σ7,H7,I7.unpinned,r7,q7⟩
end
end L2
namespace L2
open PySem PySem.Spec PyProof.Rows
abbrev R2:=V->V->Hp->VK->Prop
def OpR(X:Cx)(f:ai->ai->Sem ai)(r:R2):Prop :=
 ∀(pins:List (av×Obj))(s:au)(σ:St)(H:Hp)(x y:V)(v u:ai)(Q:VK),Inv X pins σ H s->RelV x v->RelV y u->r x y H Q ->
  wpAny (model X.prog X.w) X.A (f v u) (EP X pins σ Q) X.xe s
def UnR(X:Cx)(f:ai->Sem ai)(r:V->Hp->VK->Prop):Prop :=
 ∀(pins:List (av×Obj))(s:au)(σ:St)(H:Hp)(x:V)(v:ai)(Q:VK),Inv X pins σ H s->RelV x v->r x H Q ->
  wpAny (model X.prog X.w) X.A (f v) (EP X pins σ Q) X.xe s
def cE(X:Cx)(f:ai)(r:List V->Hp->VK->Prop):Prop :=
 ∀(pins:List (av×Obj))(s:au)(σ:St)(H:Hp)(xs:List V)(us:List ai)(Q:VK),Inv X pins σ H s->Vals xs us->r xs H Q ->
  wpAny (model X.prog X.w) X.A (call f us) (EP X pins σ Q) X.xe s
def Ot(X:Cx)(r:V->Hp->(Bool->Hp->Prop)->Prop):Prop :=
 ∀(pins:List (av×Obj))(s:au)(σ:St)(H:Hp)(x:V)(v:ai)(Q:Bool->Hp->Prop),Inv X pins σ H s->RelV x v->r x H Q ->
  wpAny (model X.prog X.w) X.A (truthy v) (TP X pins σ Q) X.xe s
def tOp(r:R2)(ta tb:TE):TE:=λσ H Q=>ta σ H λx H1=>tb σ H1 λy H2=>r x y H2 Q
def tUn(r:V->Hp->VK->Prop)(ta:TE):TE:=λσ H Q=>ta σ H λx H1=>r x H1 Q
def rI(C:Int->Int->Prop)(g:Int->Int->V):R2:=λx y H Q=>∃i j,x=.int i/\y=.int j/\C i j/\Q (g i j) H
def rI0(g:Int->Int->V):R2:=λx y H Q=>∃i j,x=.int i/\y=.int j/\Q (g i j) H
def rU(g:Int->V):V->Hp->VK->Prop:=λx H Q=>∃i,x=.int i/\Q (g i) H
section
variable{X:Cx}{a b c:aE}{ta tb tc:TE}{pos:Pos}
def LI(ha:PE X a ta)(hb:PE X b tb){pins:List (av×Obj)}{s:au}{σ:St}{H:Hp}{R:V->V->Hp->Prop}(I:Inv X pins σ H s)
 (h:ta σ H λx H1=>tb σ H1 λy H2=>R x y H2){Q:ai->au->Prop}{f:ai->ai->Sem ai}
 (hf:∀v u s2 x y H2,Inv X pins σ H2 s2->RelV x v->RelV y u->R x y H2->wpAny (model X.prog X.w) X.A (f v u) Q X.xe s2) :
 wpAny (model X.prog X.w) X.A (eval a X.env) (λv s₁=>wpAny (model X.prog X.w) X.A (eval b X.env) (λu s₂=>wpAny (model X.prog X.w) X.A (f v u) Q X.xe s₂) X.xe s₁) X.xe s:=by
 refine thn (ha pins s σ H _ I h) λv s1 zz=>?_;obtain⟨x,H1,I1,r1,q1⟩:=zz;refine thn (hb pins s1 σ H1 _ I1 q1) λu s2 zz=>?_;obtain⟨y,H2,I2,r2,q2⟩:=zz;exact hf v u s2 x y H2 I2 r1 r2 q2
def qS{op:gL}{r:R2}(ho:OpR X (binaryOp op) r)(ha:PE X a ta)(hb:PE X b tb):PE X (.BinOp a op b pos) (tOp r ta tb):=by
 intro pins s σ H Q I h;exact wpAny_BinOp (LI ha hb I h λv u s2 x y H2 I2 rx ry q=>ho pins s2 σ H2 x y v u Q I2 rx ry q)
def ML(ho:UnR X (unaryOp op) r)(ha:PE X a ta):PE X (.UnaryOp op a pos) (tUn r ta):=by
 intro pins s σ H Q I h;exact UnaryOp_ (thn (ha pins s σ H _ I h) λv s1⟨x,H1,I1,r1,q1⟩=>ho pins s1 σ H1 x v Q I1 r1 q1)
def opI{f:ai->ai->Sem ai}{C:Int->Int->Prop}{g:Int->Int->Int}
 (rule:∀(i j:Int)(t u:Tok)(s:au)(Q:ai->au->Prop)(E:ai->au->Prop),C i j->Q (.int (g i j) s.toks) {s with toks:=s.toks+1}->wpAny (model X.prog X.w) X.A (f (.int i t) (.int j u)) Q E s) :
 OpR X f (rI C λi j=>.int (g i j)):=by
 intro pins s σ H x y v u Q I rx ry h;obtain⟨i,j,rfl,rfl,hc,q⟩:=h;obtain⟨t,rfl⟩:=rx;obtain⟨t',rfl⟩:=ry;exact rule i j t t' s _ _ hc ⟨.int (g i j),H,I.tok _,⟨_,rfl⟩,q⟩
def MY{f:ai->ai->Sem ai}{g:Int->Int->Int}
 (rule:∀(i j:Int)(t u:Tok)(s:au)(Q:ai->au->Prop)(E:ai->au->Prop),Q (.int (g i j) s.toks) {s with toks:=s.toks+1}->wpAny (model X.prog X.w) X.A (f (.int i t) (.int j u)) Q E s) :
 OpR X f (rI0 λi j=>.int (g i j)):=by
 intro pins s σ H x y v u Q I rx ry h;obtain⟨i,j,rfl,rfl,q⟩:=h;obtain⟨t,rfl⟩:=rx;obtain⟨t',rfl⟩:=ry;exact rule i j t t' s _ _ ⟨.int (g i j),H,I.tok _,⟨_,rfl⟩,q⟩
def Kt{f:ai->ai->Sem ai}{g:Int->Int->Bool}
 (rule:∀(i j:Int)(t u:Tok)(s:au)(Q:ai->au->Prop)(E:ai->au->Prop),Q (.bool (g i j)) s->wpAny (model X.prog X.w) X.A (f (.int i t) (.int j u)) Q E s) :
 OpR X f (rI0 λi j=>.bl (g i j)):=by
 intro pins s σ H x y v u Q I rx ry h;obtain⟨i,j,rfl,rfl,q⟩:=h;obtain⟨t,rfl⟩:=rx;obtain⟨t',rfl⟩:=ry;exact rule i j t t' s _ _ ⟨.bl (g i j),H,I,rfl,q⟩
def Ou(i j:Int):Prop:=0<=j/\j<=1000000/\i.natAbs<2^64
def Kr:OpR X (binaryOp .Add) (rI0 λi j=>.int (i+j)):=MY λ_ _ _ _ _ _ _ q=>add_int q
def Kj:OpR X (binaryOp .Sub) (rI0 λi j=>.int (i-j)):=MY λ_ _ _ _ _ _ _ q=>sub_int q
def Km:OpR X (binaryOp .Mod) (rI (λ_ j=>0<j) λi j=>.int (i%j)):=opI λi j _ _ _ _ _ hc q=>by
 have h1:(0:Int)<j:=hc;exact mod_int' ∅ (by rw[Int.fmod_eq_emod_of_nonneg i ∅];exact q)
def Kk:OpR X (binaryOp .Pow) (rI Ou λi j=>.int (i^j.toNat)):=opI λ_ _ _ _ _ _ _ hc q=>pow_int_small hc.1 hc.2.1 hc.2.2 q
def unI{f:ai->Sem ai}{g:Int->Int}
 (rule:∀(i:Int)(t:Tok)(s:au)(Q:ai->au->Prop)(E:ai->au->Prop),Q (.int (g i) s.toks) {s with toks:=s.toks+1}->wpAny (model X.prog X.w) X.A (f (.int i t)) Q E s) :
 UnR X f (rU λi=>.int (g i)):=by
 intro pins s σ H x v Q I rx h;obtain⟨i,rfl,q⟩:=h;obtain⟨t,rfl⟩:=rx;exact rule i t s _ _ ⟨.int (g i),H,I.tok _,⟨_,rfl⟩,q⟩
def Jo:UnR X (unaryOp .USub) (rU λi=>.int (-i)):=unI λ_ _ _ _ _ q=>neg_int q
end
def NV:V->V->Bool
 |.non,.non=>true|.non,.int _=>true|.int _,.non=>true|.non,.bl _=>true|.bl _,.non=>true|.non,.str _=>true|.str _,.non=>true
 |.int _,.int _=>true|.bl _,.bl _=>true|.str _,.str _=>true
 |.int _,.str _=>true|.str _,.int _=>true|.bl _,.str _=>true|.str _,.bl _=>true
 |_,_=>false
def rEq:R2:=λx y H Q=>NV x y=true/\Q (.bl (decide (x=y))) H
def Hl:decide (V.int i=V.int j)=(i==j):=by
 rw[bM];simp
def Lm:decide (V.bl i=V.bl j)=(i==j):=by
 rw[bM];simp
def Hk:decide (V.str i=V.str j)=(i==j):=by
 rw[bM];simp
section
variable{X:Cx}{a b c:aE}{ta tb tc:TE}{pos:Pos}
def fq(I:Inv X pins σ H s)(q:Q (.bl k) H)(e:k=k'):EP X pins σ Q (.bool k') s:=by
 subst e;exact⟨.bl k,H,I,rfl,q⟩
def MX:OpR X (compareOp .Eq) rEq:=by
 intro pins s σ H x y v u Q I rx ry h;obtain⟨hs,q⟩:=h
 cases x with
 |non =>
  cases rx
  cases y with
  |non=>cases ry;exact PySem.EqNone.eq_none_none (fq I q ↥0)
  |bl j=>cases ry;exact PySem.EqNone.eq_none_bool (fq I q ↥0)
  |int j=>obtain⟨t',rfl⟩:=ry;exact PySem.EqNone.eq_none_int (fq I q ↥0)
  |str j=>obtain⟨t',rfl⟩:=ry;exact PySem.EqNone.eq_none_str (fq I q ↥0)
  |_=>exact absurd (show false=true from hs) aq
 |bl i =>
  cases rx
  cases y with
  |non=>cases ry;exact PySem.EqNone.eq_bool_none (fq I q ↥0)
  |bl j=>cases ry;exact eq_bool (fq I q Lm)
  |str j=>obtain⟨t',rfl⟩:=ry;exact PySem.EqMixed.eq_bool_str (fq I q ↥0)
  |_=>exact absurd (show false=true from hs) aq
 |int i =>
  obtain⟨t,rfl⟩:=rx
  cases y with
  |non=>cases ry;exact PySem.EqNone.eq_int_none (fq I q ↥0)
  |int j=>obtain⟨t',rfl⟩:=ry;exact eq_int (fq I q Hl)
  |str j=>obtain⟨t',rfl⟩:=ry;exact PySem.EqMixed.eq_int_str (fq I q ↥0)
  |_=>exact absurd (show false=true from hs) aq
 |str i =>
  obtain⟨t,rfl⟩:=rx
  cases y with
  |non=>cases ry;exact PySem.EqNone.eq_str_none (fq I q ↥0)
  |bl j=>cases ry;exact PySem.EqMixed.eq_str_bool (fq I q ↥0)
  |int j=>obtain⟨t',rfl⟩:=ry;exact PySem.EqMixed.eq_str_int (fq I q ↥0)
  |str j=>obtain⟨t',rfl⟩:=ry;exact eq_str (fq I q Hk)
  |_=>exact absurd (show false=true from hs) aq
 |_=>cases y<;>exact absurd (show false=true from hs) aq
def MU:OpR X (compareOp .Lt) (rI0 λi j=>.bl (decide (i<j))):=Kt λ_ _ _ _ _ _ _ q=>lt_int q
def MV:OpR X (compareOp .LtE) (rI0 λi j=>.bl (decide (i<=j))):=Kt λ_ _ _ _ _ _ _ q=>le_int q
def MW:OpR X (compareOp .Gt) (rI0 λi j=>.bl (decide (j<i))):=Kt λ_ _ _ _ _ _ _ q=>gt_int q
def zO:OpR X (compareOp .In) (λx y H Q=>∃i j,x=.str i/\y=.str j/\Q (.bl (!(cU j i 0 j.length 1).isEmpty)) H):=by
 intro pins s σ H x y v u Q I rx ry h;obtain⟨i,j,rfl,rfl,q⟩:=h;obtain⟨t,rfl⟩:=rx;obtain⟨t',rfl⟩:=ry;exact in_str (fq I q rfl)
def Kn:OpR X (compareOp .Is) (λx y H Q=>y=.non/\Q (.bl (decide (x=.non))) H):=by
 intro pins s σ H x y v u Q I rx ry h;obtain⟨rfl,q⟩:=h;cases ry;refine is_none_gen (fq I q ?_)
 cases x<;>first
  |(cases rx;rfl)
  |(obtain⟨t,rfl⟩:=rx;rfl)
def OpR.or{f:ai->ai->Sem ai}{r r':R2}(h:OpR X f r)(h':OpR X f r'):OpR X f (λx y H Q=>r x y H Q\/r' x y H Q):=by
 intro pins s σ H x y v u Q I rx ry q;rcases q with q|q
 .exact h pins s σ H x y v u Q I rx ry q
 .exact h' pins s σ H x y v u Q I rx ry q
def yw{op:uo}{r:R2}(ho:OpR X (compareOp op) r)(ha:PE X a ta)(hb:PE X b tb)(hm:behindInMarks op b=false):PE X (.Compare a [op] [b] pos) (tOp r ta tb):=by
 intro pins s σ H Q I h;exact wpAny_Compare1 (LI ha hb I h λv u s2 x y H2 I2 rx ry q=>ho pins s2 σ H2 x y v u Q I2 rx ry q) hm
def Ia(t:TE):TT:=λσ H Q=>t σ H λx H'=>∃k,x=.bl k/\Q k H'
def yq(ho:OpR X (compareOp op) r)(ha:PE X a ta)(hb:PE X b tb)(hm:behindInMarks op b=false):PT X (.Compare a [op] [b] pos) (Ia (tOp r ta tb)):=by
 intro pins s σ H Q I h
 refine EF (thn (ha pins s σ H _ I h) λv s1⟨x,H1,I1,r1,q1⟩=>thn (hb pins s1 σ H1 _ I1 q1) λu s2⟨y,H2,I2,r2,q2⟩ =>
  thn (ho pins s2 σ H2 x y v u _ I2 r1 r2 q2) λc s3⟨z,H3,I3,r3,k,e,q3⟩=>?_) hm
 subst e;cases r3;exact bX ⟨H3,I3,q3⟩
def wo(r r':R2)(ta tb tc:TE):TE:=λσ H Q=>ta σ H λx H1=>tb σ H1 λy H2=>r x y H2 λz H3=>∃k,z=.bl k /\
 (if k=true then tc σ H3 λw' H4=>r' y w' H4 Q else Q (.bl false) H3)
def CJ(ho:OpR X (compareOp op) r)(ho':OpR X (compareOp op') r')(ha:PE X a ta)(hb:PE X b tb)(hc:PE X c tc)
 (hm:lastMarks [op,op'] [b,c]=false:=by with_unfolding_all rfl):PE X (.Compare a [op,op'] [b,c] pos) (wo r r' ta tb tc):=by
 intro pins s σ H Q I h
 refine Compare_chain (thn (ha pins s σ H _ I h) λv s1⟨x,H1,I1,r1,q1⟩=>chain_link (thn (hb pins s1 σ H1 _ I1 q1) λu s2⟨y,H2,I2,r2,q2⟩ =>
  thn (ho pins s2 σ H2 x y v u _ I2 r1 r2 q2) λd s3⟨z,H3,I3,r3,k,e,q3⟩=>?_)) hm
 subst e;cases r3;refine bX ?_
 cases k with
 |false=>exact ite_ff ⟨.bl false,H3,I3,rfl,q3⟩
 |true=>exact ite_tt (chain_last (thn (hc pins s3 σ H3 _ I3 q3) λw' s4⟨z',H4,I4,r4,q4⟩=>ho' pins s4 σ H4 y z' u w' Q I4 r2 r4 q4))
def Cq(ho:OpR X (compareOp op) r)(ho':OpR X (compareOp op') r')(ha:PE X a ta)(hb:PE X b tb)(hc:PE X c tc)
 (hm:lastMarks [op,op'] [b,c]=false:=by with_unfolding_all rfl):PT X (.Compare a [op,op'] [b,c] pos) (Ia (wo r r' ta tb tc)):=by
 intro pins s σ H Q I h
 refine isTrue_chain (thn (ha pins s σ H _ I h) λv s1⟨x,H1,I1,r1,q1⟩=>test_link (thn (hb pins s1 σ H1 _ I1 q1) λu s2⟨y,H2,I2,r2,q2⟩ =>
  thn (ho pins s2 σ H2 x y v u _ I2 r1 r2 q2) λd s3⟨z,H3,I3,r3,k,e,q3⟩=>?_)) hm
 subst e;cases r3;refine bX ?_
 cases k with
 |false =>
  obtain⟨k',e',q'⟩:=q3;cases e'
  exact ite_ff ⟨H3,I3,q'⟩
 |true =>
  refine ite_tt (test_last (thn (hc pins s3 σ H3 _ I3 q3) λw' s4⟨z',H4,I4,r4,q4⟩=>thn (ho' pins s4 σ H4 y z' u w' _ I4 r2 r4 q4) λd' s5⟨z2,H5,I5,r5,k2,e2,q5⟩=>?_));subst e2;cases r5;exact bX ⟨H5,I5,q5⟩
def LP(K:PySem.W.Frag)(x:V)(H:Hp)(k:Bool):Prop :=
 match x with
 |.non=>k=false
 |.bl b=>k=b
 |.int i=>k=(i != 0)
 |.str y=>y.length<=sizeLine/\k=((y.length:Int) != 0)
 |.ref p=>(∃xs,SqL K H p xs/\k=!xs.isEmpty)\/(∃xs,SqT K H p xs/\k=!xs.isEmpty)\/∃kvs,H p=some (.dK kvs)/\k=!kvs.isEmpty
 |_=>False
def xj{κ:Type}{kvs:List (κ×V)}{vs:List (κ×ai)}(r:KV kvs vs):(!vs.isEmpty)=!kvs.isEmpty:=by
 cases r<;>rfl
def pM{xs:List V}{its:List ai}(r:Vals xs its):(!its.toArray.isEmpty)=!xs.isEmpty:=by
 cases r<;>simp
def lC:(sizeLine:Nat)<2^63:=by rw[uj];decide
def Jq:Ot X (λx H Q=>∃k,LP X.K x H k/\Q k H):=by
 intro pins s σ H x v Q I rx h;obtain⟨k,e,q⟩:=h;have hl:=lC;have hs:sizeLine=16777216:=uj
 cases x with
 |non =>
  cases rx;have e':k=false:=e;subst e'
  exact truthy_none ⟨H,I,q⟩
 |bl b =>
  cases rx;have e':k=b:=e;subst e'
  exact bX ⟨H,I,q⟩
 |int i =>
  obtain⟨t,rfl⟩:=rx;have e':k=(i != 0):=e;subst e'
  exact PySem.P.truthy_int ⟨H,I,q⟩
 |str y =>
  obtain⟨t,rfl⟩:=rx;obtain⟨hy,e'⟩:y.length<=sizeLine/\k=((y.length:Int) != 0):=e;subst e'
  exact PySem.P.truthy_str ∅ ⟨H,I.tok _,q⟩
 |ref p =>
  cases rx;have e':(∃xs,SqL X.K H p xs/\k=!xs.isEmpty)\/(∃xs,SqT X.K H p xs/\k=!xs.isEmpty)\/∃kvs,H p=some (.dK kvs)/\k=!kvs.isEmpty:=e;rcases e' with⟨xs,hx,e'⟩|⟨xs,hx,e'⟩|⟨kvs,hx,e'⟩
  .subst e';obtain⟨its,r,pl,hz⟩:=I.list hx;have hlen:=r.length;exact wpAny_truthy_list pl.isList (by simp only[aB];lia) ⟨H,I.tok _,by rw[pM r];exact q⟩
  .subst e';obtain⟨its,r,pl,hz⟩:=I.tuple hx;have hlen:=r.length;exact truthy_tuple pl (by simp only[aB];lia) ⟨H,I.tok _,by rw[pM r];exact q⟩
  .subst e';obtain⟨hz,hS,vs,r,m⟩:kvs.length<=sizeLine/\(p==sysModules)=false/\∃vs,KV kvs vs/\s.heap.DictOf (dC X.prog X.w) p vs:=I.hok p _ hx;have hlen:kvs.length=vs.length:=Paired.length r
   exact wpAny_truthy_dict hS m ∅ ⟨H,I.tok _,by rw[xj r];exact q⟩
 |_=>exact(show False from e).elim
def pD(ha:PE X a ta)(he:∀whole,isTrue a X.env whole=(do let v <- whole;standAt a.pos;holding [v] (truthy v))) :
 PT X a (λσ H Q=>ta σ H λx H'=>∃k,LP X.K x H' k/\Q k H'):=by
 intro pins s σ H Q I h;exact isTrue_plain (thn (ha pins s σ H _ I h) λv s1⟨x,H1,I1,r1,q1⟩=>Jq pins s1 σ H1 x v Q I1 r1 q1) (he _)
def wM:OpR X (binaryOp .Add) (λx y H Q=>∃i j,x=.str i/\y=.str j/\i.length+j.length<=sizeLine/\Q (.str (i++j)) H):=by
 intro pins s σ H x y v u Q I rx ry h;obtain⟨i,j,rfl,rfl,hz,q⟩:=h;obtain⟨t,rfl⟩:=rx;obtain⟨t',rfl⟩:=ry;exact add_str (λt' tk=>⟨.str (i++j),H,I.tok _,⟨_,rfl⟩,q⟩) hz
def vals1(r:Vals [x] us):∃u,us=[u]/\RelV x u:=by
 cases r with
 |cons r1 r2=>cases r2;exact⟨_,rfl,r1⟩
def vals2(r:Vals [x,y] us):∃u w',us=[u,w']/\RelV x u/\RelV y w':=by
 cases r with
 |cons r1 r2 =>
  cases r2 with
  |cons r3 r4=>cases r4;exact⟨_,_,rfl,r1,r3⟩
def Ai(hc:X.calm=true):cE X (.builtin "max") (λxs H Q=>∃i j,xs=[.int i,.int j]/\Q (.int (if j>i then j else i)) H):=by
 intro pins s σ H xs us Q I r h;obtain⟨i,j,rfl,q⟩:=h;obtain⟨u,w',rfl,⟨t,rfl⟩,⟨t',rfl⟩⟩:=vals2 r;refine max_two_ints (I.ok.hd hc) λh' tk k=>⟨_,H,I.kept k,?_,q⟩;by_cases hj:j>i
 .rw[if_pos hj,if_pos hj];exact⟨_,rfl⟩
 .rw[if_neg hj,if_neg hj];exact⟨_,rfl⟩
def Ak:cE X (.type "int") (λxs H Q=>(∃i,xs=[.int i]/\Q (.int i) H)\/∃k,xs=[.bl k]/\Q (.int (if k then 1 else 0)) H):=by
 intro pins s σ H xs us Q I r h;rcases h with⟨i,rfl,q⟩|⟨k,rfl,q⟩
 .obtain⟨u,rfl,t,rfl⟩:=vals1 r;exact call_int_int ⟨.int i,H,I,⟨_,rfl⟩,q⟩
 .obtain⟨u,rfl,r1⟩:=vals1 r;cases r1;exact call_int_bool ⟨.int (if k then 1 else 0),H,I.tok _,⟨_,rfl⟩,q⟩
def tM:cE X (.type "str") (λxs H Q=>∃i,xs=[.int i]/\i.natAbs.log2<1920/\Q (.str (toString i)) H):=by
 intro pins s σ H xs us Q I r h;obtain⟨i,rfl,hz,q⟩:=h;obtain⟨u,rfl,t,rfl⟩:=vals1 r;exact PySem.P.str_of_int hz ⟨.str _,H,I.tok _,⟨_,rfl⟩,q⟩
end
end L2
namespace L2
open PySem PySem.Spec PyProof.Rows
section
variable{prog:aQ}{w:bD}{A:bE}{E:ai->au->Prop}{s:au}{K:PySem.W.Frag}{x dx C f:av}{mA:Str->Option ai}{name:Str}{v:ai}
end
section
variable{P:aQ}{w:bD}{H H':Hp}{h h':bW}{a C dx:av}{fs fs':List (Str×V)}
end
section
variable{X:Cx}{pins:List (av×Obj)}{σ:St}{H:Hp}{s:au}{a C dx:av}{fs:List (Str×V)}{f:Str}{v:V}{A:bE}{E:ai->au->Prop}
end
section
variable{X:Cx}{o e value:aE}{f:Str}{pos pos' tpos:Pos}{ta tv:TE}
end
section
variable{X:Cx}{pins:List (av×Obj)}{σ:St}{H:Hp}{s:au}{A:bE}{E:ai->au->Prop}{Q:ai->au->Prop}{c:ai}{b:Bool}
end
end L2
namespace L2
open PySem PySem.Spec PyProof.Rows
structure jO(k:Nat)(A:bE):Prop where
 hd:A.handled=none
 dp:A.depth+3*k+5<recursionLimit
 un:A.units+16*k+200<cLine
def jO.deeper{k:Nat}{A:bE}(r:jO (k+1) A)(env:Env):jO k (A.deeper env) :=
 ⟨r.hd,by have:=r.dp;show A.depth+1+3*k+5<_;lia,by have:=r.un;show A.units+3+16*k+200<_;lia⟩
def jO.depth{k:Nat}{A:bE}(r:jO k A):A.depth<recursionLimit:=by have:=r.dp;lia
def Bt:TA:=λ_ H Q=>Q [] H
def nK(ta:TE)(tr:TA):TA:=λσ H Q=>ta σ H λx H1=>tr σ H1 λxs H2=>Q (x::xs) H2
section
variable{X:Cx}{e:aE}{es:List aE}{te:TE}{t:TA}{pos:Pos}
def iQ:PA X [] Bt:=λ_ _ _ _ H Q I h=>AI ⟨[],H,I,.nil,h⟩
def dS(ha:PE X e te)(hr:PA X es t)(hs:starEach (e::es) X.env=(false,eval e X.env)::starEach es X.env:=by rfl):PA X (e::es) (nK te t):=by
 intro pos pins s σ H Q I h;rw[hs];show wpAny _ _ (spliced ((false,eval e X.env)::backTo pos (starEach es X.env))) _ _ s;refine mJ (thn (ha pins s σ H _ I h) λu s1⟨x,H1,I1,r1,q1⟩=>?_);exact thn (hr pos pins s1 σ H1 _ I1 q1) λus s2⟨xs,H2,I2,r2,q2⟩=>⟨x::xs,H2,I2,.cons r1 r2,q2⟩
def NF(t:TA):TE:=λσ H Q=>t σ H λxs H1=>xs.length<=sizeLine/\∀p,H1 p=none->Q (.ref p) (upd H1 p (.tup xs))
def NL(t:TA):TE:=λσ H Q=>t σ H λxs H1=>xs.length<=sizeLine/\∀p,H1 p=none->Q (.ref p) (upd H1 p (.lst xs))
def wJ(h:PA X es t):PE X (.Tuple es x1 pos) (NF t):=by
 intro pins s σ H Q I hq;refine wpAny_Tuple_spliced (thn (h pos pins s σ H _ I hq) λus s1⟨xs,H1,I1,r,z,q⟩=>⟨by rw[<- r.length];exact z,?_⟩);have hf:H1 s1.heap.objs.size=none:=I1.hok.fresh (aD _);refine⟨.ref s1.heap.objs.size,upd H1 s1.heap.objs.size (.tup xs),I1.laid (t':=s1.toks) (λb u e=>ax _ e) (aD _) ?_,rfl,q _ hf⟩;exact⟨z,us,r,⟨_,aX _ rfl,rfl,_,rfl⟩⟩
def CC(h:PA X es t):PE X (.List es pos) (NL t):=by
 intro pins s σ H Q I hq;refine wpAny_List_spliced (thn (h pos pins s σ H _ I hq) λus s1⟨xs,H1,I1,r,z,q⟩=>⟨by rw[<- r.length];exact z,?_⟩);have hf:H1 s1.heap.objs.size=none:=I1.hok.fresh (aD _);refine⟨.ref s1.heap.objs.size,upd H1 s1.heap.objs.size (.lst xs),I1.laid (t':=s1.toks) (λb u e=>ax _ e) (aD _) ?_,rfl,q _ hf⟩;exact⟨z,us,0,r,aX _ rfl⟩
end
abbrev Sp:=List V->Hp->VK->XK->Prop
abbrev CXT:=List Env->Hp->au->XK->ai->au->Prop
structure HG(P:aQ)(w:bD)(K:PySem.W.Frag)(mg:Str->Option ai)(base:bW)(A:bE)(outer:List Env)(s:au)(H:Hp):Prop where
 frames:A.frames=some outer
 mod:Mod K mg base
 bs:∀b o,base.get? b=some o->s.heap.get? b=some o/\H b=none
 bsz:base.objs.size<=s.heap.objs.size
 funs:s.heap.FunFrames base outer
 frf:∀b∈frs outer,H b=none
 hok:HOk P w H s.heap
 bare:jU s.gens
def CE(outer:List Env)(P:aQ)(w:bD)(H:Hp)(s:au)(Q:VK)(u:ai)(s':au):Prop :=
 ∃v H',s'.os=s.os/\jU s'.gens/\Un (frs outer) [] H H' s.heap s'.heap/\HOk P w H' s'.heap/\RelV v u/\Q v H'
def CR(CX:CXT)(outer:List Env)(P:aQ)(w:bD)(H:Hp)(s:au)(Q:VK)(E:XK)(r:LW)(s':au):Prop :=
 match r with
 |.ok (.ret u)=>CE outer P w H s Q u s'
 |.ok _=>False
 |.error e=>CX outer H s E e s'
structure gD(P:aQ)(w:bD)(K:PySem.W.Frag)(mg:Str->Option ai)(base:bW)(CX:CXT)(k:Nat)(f:av)(fd:eH)(ps:List Str)(sp:Sp):Prop where
 len:∀vs H Q E,sp vs H Q E->vs.length=ps.length
 run:∀(A:bE)(outer:List Env)(s:au)(H:Hp)(args:Args)(us:List ai)(vs:List V)(Q:VK)(E:XK),jO k A->HG P w K mg base A outer s H->BindsTo s fd args (ps.zip us)->Vals vs us->sp vs H Q E ->
  codeAny (model P w) A (.call (.ref f) args) (CR CX outer P w H s Q E) s
section
variable{X:Cx}{pins:List (av×Obj)}{σ:St}{H:Hp}{s s':au}
def Inv.env0(I:Inv X pins σ H s):HG X.prog X.w X.K X.mg X.base X.A X.stack s H :=
 ⟨I.ok.frames,I.ok.mod,I.bs,aZ I.ok.bsz I.sz,I.stack,I.stkFree,I.hok,I.bare⟩
def Inv.after(I:Inv X pins σ H s)(h:CE X.stack X.prog X.w H s Q u s'):EP X pins σ Q u s':=by
 obtain⟨v,H',os,bare,un,hok,r,q⟩:=h;obtain⟨hh,g,d,t,os'⟩:=s';obtain rfl:os'=s.os:=os;exact⟨v,H',I.call (h':=hh) (g':=g) (d':=d) (t':=t) (ch:=[]) un hok bare (λb z=>absurd z ↥0),r,q⟩
end
def Ms(sp:Sp)(dvs:List V)(E:XK)(t:TA):TE:=λσ H Q=>t σ H λvs H1=>sp (vs++dvs) H1 Q E
def Binds(K:PySem.W.Frag)(fd:eH)(ps:List Str)(ds:List ai):Prop :=
 ∀(s:au)(us:List ai),K.In s.heap->(us++ds).length=ps.length->BindsTo s fd ⟨us,[]⟩ (ps.zip (us++ds))
def Binds.all{K:PySem.W.Frag}{fd:eH}{ps:List Str}(h:∀us:List ai,us.length=ps.length->bindArgs fd ⟨us,[]⟩=pure (ps.zip us)):Binds K fd ps []:=λs us _ hl=>by
 rw[bt]at hl |-;exact .of_eq (h us hl)
def Passes(CX:CXT)(X:Cx)(E:XK):Prop:=∀(pins:List (av×Obj))(σ:St)(H:Hp)(s:au)(e:ai)(s':au),Inv X pins σ H s->CX X.stack H s E e s'->X.xe e s'
section
variable{X:Cx}{CX:CXT}{k:Nat}{f C:av}{fd:eH}{ps:List Str}{sp:Sp}{dvs:List V}{ds:List ai}{E:XK}{x m:Str}{p pos apos:Pos}{e o:aE}{es:List aE}{ta:TE}{t:TA}
def JN(F:gD X.prog X.w X.K X.mg X.base CX k f fd ps sp)(hr:jO k X.A)(hb:Binds X.K fd ps ds)(hd:Vals dvs ds)(hx:Passes CX X E)
 (I:Inv X pins σ H s)(r:Vals vs us)(h:sp (vs++dvs) H Q E):wpAny (model X.prog X.w) X.A (call (.ref f) us) (EP X pins σ Q) X.xe s:=by
 have r2:Vals (vs++dvs) (us++ds):=r.append hd;have hl:(us++ds).length=ps.length:=by rw[<- r2.length];exact F.len _ _ _ _ h
 refine wpAny_call (qv (F.run X.A X.stack s H ⟨us,[]⟩ (us++ds) (vs++dvs) Q E hr I.env0 (hb s us I.kIn hl) r2 h) λr s' hq=>?_)
 cases r with
 |error e=>exact hx pins σ H s e s' I hq
 |ok fl =>
  cases fl with
  |ret u=>exact I.after hq
  |next=>exact bz hq
  |brk=>exact bz hq
  |cont=>exact bz hq
def Gk(F:gD X.prog X.w X.K X.mg X.base CX k f fd ps sp)(hr:jO k X.A)(hg:Gl X x)(hm:X.mg x=some (.ref f))(hk:PySem.W.keepIn X.K (.ref f)=true)(hb:Binds X.K fd ps ds)(hd:Vals dvs ds)(hx:Passes CX X E)
 (ha:PA X (e::es) t)(hdb:(x==("__debug__":Str))=false:=by decide)(he:starEach (e::es) X.env=(false,eval e X.env)::starEach es X.env:=by rfl)(hpl:(backTo pos (starEach es X.env)).any (·.1)=false:=by rfl) :
 PE X (.Call (.Name x p) (e::es) [] pos) (Ms sp dvs E t):=by
 intro pins s σ H Q I h;refine jG (kE I hg hm ?_ hdb);refine PySem.W.callWith_K (h₀:=X.base) I.ok.mod.kin hk (thn (ha pos pins s σ H _ I h) λus s1⟨vs,H1,I1,r,q⟩=>⟨I1.kIn,?_⟩) he hpl;exact JN F hr hb hd hx I1 r q
end
section
variable{X:Cx}{CX:CXT}{k:Nat}{f C:av}{fd:eH}{ps ks:List Str}{sp:Sp}{E:XK}{x m:Str}{p pos apos kpos:Pos}{e o:aE}{es:List aE}{kws:List dR}{te ta:TE}{t tk:TA}{nm:Option Str}
variable{g:List ai->List ai->List ai}{gV:List V->List V->List V}
end
structure kI(N P:List Str)(sc:dQ):Prop where
 kind:sc.kind=.function
 co:sc.isCoroutine=false
 gen:sc.isGenerator=false
 nd:N.Nodup
 pre:N.take P.length=P
 par:∀x∈P,sc.names.lookup x=some .local\/sc.names.lookup x=some .cell
 nofree:∀y∈sc.names,y.2≠.free
def rH{kindOf:Str->Option jH}{x:Str}:∀{binds:List (Str×ai)}{m:Str->Option ai},(∀v,(x,v)∉binds)->bindL kindOf binds m x=m x
 |[],_,_=>rfl
 |(n,v)::r,m,h=>by
  unfold bindL;rw[rH λw hw=>h w (ao _ hw)];split
  .have:x≠n:=by rintro rfl;exact h v ay
   simp[this]
  .rfl
def rK{kindOf:Str->Option jH}{x:Str}:∀{binds:List (Str×ai)}{m:Str->Option ai},(∀v,(x,v)∉binds)->bindC kindOf binds m x=m x
 |[],_,_=>rfl
 |(n,v)::r,m,h=>by
  unfold bindC;rw[rK λw hw=>h w (ao _ hw)];split
  .rfl
  .have:x≠n:=by rintro rfl;exact h v ay
   simp[this]
def rJ{kindOf:Str->Option jH}{x:Str}{v:ai}:∀{P:List Str}{vs:List ai}{i:Nat}{m:Str->Option ai},P.Nodup->P[i]?=some x->vs[i]?=some v->kindOf x=some .local ->
 bindL kindOf (P.zip vs) m x=some v
 |[],_,_,_,_,h,_,_=>by simp at h
 |_::_,[],_,_,_,_,h,_=>by simp at h
 |p::P,w::vs,0,m,nd,h1,h2,hk=>by
  simp at h1 h2;subst h1;subst h2;show bindL kindOf ((p,w)::P.zip vs) m p=_;unfold bindL;rw[rH λv hv=>(ib.mp nd).1 (qe hv).1,if_pos hk]
  simp
 |p::P,w::vs,i+1,m,nd,h1,h2,hk=>by
  show bindL kindOf ((p,w)::P.zip vs) m x=_;unfold bindL;exact rJ (i:=i) (ib.mp nd).2 (by simpa using h1) (by simpa using h2) hk
def rL{kindOf:Str->Option jH}{x:Str}{v:ai}:∀{P:List Str}{vs:List ai}{i:Nat}{m:Str->Option ai},P.Nodup->P[i]?=some x->vs[i]?=some v->kindOf x≠some .local ->
 bindC kindOf (P.zip vs) m x=some v
 |[],_,_,_,_,h,_,_=>by simp at h
 |_::_,[],_,_,_,_,h,_=>by simp at h
 |p::P,w::vs,0,m,nd,h1,h2,hk=>by
  simp at h1 h2;subst h1;subst h2;show bindC kindOf ((p,w)::P.zip vs) m p=_;unfold bindC;rw[rK λv hv=>(ib.mp nd).1 (qe hv).1,if_neg hk]
  simp
 |p::P,w::vs,i+1,m,nd,h1,h2,hk=>by
  show bindC kindOf ((p,w)::P.zip vs) m x=_;unfold bindC;exact rL (i:=i) (ib.mp nd).2 (by simpa using h1) (by simpa using h2) hk
def start(N:List Str)(vs:List V):St:=vs.map some++aC (N.length-vs.length) none
def kf(CX:CXT)(P:aQ)(w:bD)(K:PySem.W.Frag)(mg:Str->Option ai)(base:bW)(N:List Str)(qual:Str)(scope:dQ)(f:av)(cd:ai)(A:bE)(outer:List Env)(s:au)(H:Hp)(E:XK):Cx where
 prog:=P
 w:=w
 K:=K
 mg:=mg
 base:=base
 A:=A.deeper (envOfC qual scope s.heap.objs.size f cd)
 N:=N
 s₀:=s
 H₀:=H
 env:=envOfC qual scope s.heap.objs.size f cd
 outer:=outer
 stack:=envOfC qual scope s.heap.objs.size f cd::outer
 ex:=[]
 calm:=true
 fn:=λ_=>true
 pn:=[]
 xe:=λe s'=>wpAny (model P w) (A.deeper (envOfC qual scope s.heap.objs.size f cd)) (leaving (envOfC qual scope s.heap.objs.size f cd) e) (λ_ s''=>CX outer H s E e s'') (λe' s''=>CX outer H s E e' s'') s'
def vG{sc:dQ}{n:Nat}{x:Str}(h:sc.names.lookup x=some .cell):∃c,(cellsFrom n sc.names []).lookup x=some c:=by
 have q:=PySem.W.cellsFrom_some sc.names n [] (.inl h);exact rM.mp q
def zV{CX:CXT}{P:aQ}{w:bD}{K:PySem.W.Frag}{mg:Str->Option ai}{base:bW}{N ps:List Str}{qual:Str}{scope:dQ}{f:av}{cd:ai}{A:bE}{outer:List Env}{s s1:au}{H:Hp}{E:XK}{us:List ai}{vs:List V}
 (S:kI N ps scope)(hd:A.handled=none)(e0:HG P w K mg base A outer s H)(hl:vs.length=ps.length)(r:Vals vs us)
 (x:InCallC s s.heap.objs.size (bindL (envOfC qual scope s.heap.objs.size f cd).kindOf (ps.zip us) λ_=>none) (cellsFrom (s.heap.objs.size+1) scope.names []) (bindC (envOfC qual scope s.heap.objs.size f cd).kindOf (ps.zip us) λ_=>none) s1) :
 Inv (kf CX P w K mg base N qual scope f cd A outer s H E) [] (start N vs) H s1:=by
 have hpl:ps.length<=N.length:=by have:=congrArg jh S.pre;rw[bA]at this;lia
 obtain⟨h1,tk,rfl,hk⟩:=x.done;have noA:∀b:av,b∉(kf CX P w K mg base N qual scope f cd A outer s H E).ex:=λb z=>absurd (show b∈([]:List av)from z) ↥0
 refine⟨⟨e0.mod,S.kind,rfl,rfl,aD _,λy z c h1 h2=>?_,λy hy=>?_,λy c _ h=>?_,λ_=>hd,Around.frames_deeper e0.frames,.inr ⟨rfl,rfl⟩,λb z=>absurd z (noA b),e0.bs,e0.bsz,λb _ _=>noA b,λb z=>absurd z (noA b),e0.funs,e0.frf⟩,
  rfl,e0.bare,Un.kept hk,⟨_,x.toInCall.ns,λi y v h1 h2 h3=>?_⟩,λy c h=>⟨_,x.cell y c h⟩,e0.hok.fresh (aD _),λy c h=>?_,λp hp=>absurd (show p∈([]:List (av×Obj))from hp) ↥0,e0.hok.kept hk,?_⟩
 .exact name_of_addr x.apart (PySem.mem_of_lookup h1) (PySem.mem_of_lookup h2)
 .have hy:scope.names.lookup y=some .cell\/scope.names.lookup y=some .free:=hy;rcases hy with hy|hy
  .exact vG hy
  .exact absurd rfl (S.nofree _ (PySem.mem_of_lookup hy))
 .exact cI (x.above y c (PySem.mem_of_lookup h))
 .have hi:i<vs.length:=by
   unfold start at h2;by_cases hi:i<vs.length
   .exact hi
   .rw[fk (by simpa using hi)]at h2;rw[gb]at h2;split at h2<;>cases h2
  have ha:vs[i]?=some v:=by
   unfold start at h2;rw[cz (by simpa using hi),bJ]at h2
   cases e:vs[i]? with
   |none=>rw[e]at h2;cases h2
   |some a=>rw[e]at h2;cases h2;rfl
  obtain⟨u,hu,rv⟩:=r.get ha
  have hp:ps[i]?=some y:=by
   rw[<- S.pre,dG ∅];exact h1
  have ndP:ps.Nodup:=by rw[<- S.pre];exact S.nd.sublist (List.take_sublist _ _)
  refine⟨u,rv,?_⟩;rcases S.par y (cZ hp)with k|k
  .exact .inl ⟨k,rJ ndP hp hu k⟩
  .obtain⟨c,e⟩:=vG (n:=s.heap.objs.size+1) k;refine .inr ⟨.inl k,c,e,?_⟩;have q:=x.cell y c e;rw[rL ndP hp hu (by show scope.names.lookup y≠_;rw[k];decide)]at q;exact q
 .exact e0.hok.fresh (cI (x.above y c (PySem.mem_of_lookup h)))
 .unfold start;show _=N.length;rw[az,ak,cS]
  lia
def Iy{CX:CXT}{P:aQ}{w:bD}{K:PySem.W.Frag}{mg:Str->Option ai}{base:bW}{k:Nat}{f:av}{name qual:Str}{params:ui}{body:List bG}{scope:dQ}{dV kV doc pm cdv ct oc:ai}{an od:Option av}
 {osl:Array (Option ai)}{N ps:List Str}{sp:Sp}(lk:K.lookup f=some ⟨oc,od,.func (PySem.W.fnOf name qual params body scope dV kV doc pm an cdv ct),osl⟩)(hcd:PySem.W.codeIn K cdv qual=true)(S:kI N ps scope)
 (len:∀vs H Q E,sp vs H Q E->vs.length=ps.length)
 (hbody:∀(A:bE)(outer:List Env)(s:au)(H:Hp)(vs:List V)(Q:VK)(E:XK),jO k (A.deeper (envOfC qual scope s.heap.objs.size f cdv))->sp vs H Q E ->
   ∃t,PSs (kf CX P w K mg base N qual scope f cdv A outer s H E) body t/\t {nx:=λ_ H'=>Q .non H',rt:=Q} (start N vs) H) :
 gD P w K mg base CX (k+1) f (PySem.W.fnOf name qual params body scope dV kV doc pm an cdv ct) ps sp:=by
 refine⟨len,λA outer s H args us vs Q E hr e0 hb r hsp=>?_⟩;have hl:=len _ _ _ _ hsp;have KX:K.In s.heap:=e0.mod.kin.keeps λb o e=>(e0.bs b o e).1;have lim:s.heap.NoLimit:=e0.mod.nolimit.keeps λb o e=>(e0.bs b o e).1
 have hkind:∀y∈ps.zip us,scope.names.lookup y.1=some .local\/(scope.names.lookup y.1=some .cell/\((cellsFrom (s.heap.objs.size+1) scope.names []).lookup y.1).isSome=true):=λ⟨n,v⟩hy=>by
  rcases S.par n (qe hy).1 with q|q
  .exact .inl q
  .exact .inr ⟨q,PySem.W.cellsFrom_some _ _ _ (.inl q)⟩
 refine codeAny_call_function hr.depth (KX _ _ lk) rfl S.co S.gen rfl (PySem.W.codeRec_of KX hcd) (hb _ _ _ _ ?_);refine wpAny_newFunctionEnv_cells S.kind hkind λenv he s1 x=>?_;subst he;refine⟨lim.keeps x.toInCall.keep,codeAny_func ?_⟩;obtain⟨t,ht,hq⟩:=hbody A outer s H vs Q E (hr.deeper _) hsp;have I:Inv (kf CX P w K mg base N qual scope f cdv A outer s H E) [] (start N vs) H s1:=zV S hr.hd e0 hl r x;refine cw (ht [] s1 (start N vs) H _ I hq) (λfl s' hs=>?_) λe s' hs=>hs
 have fin:∀{σ':St}{H':Hp}{v:V}{u:ai},Inv (kf CX P w K mg base N qual scope f cdv A outer s H E) [] σ' H' s'->RelV v u->Q v H'->CE outer P w H s Q u s' :=
  λ{σ' H' v u}J rv q=>⟨v,H',J.os,J.bare,J.base,J.hok,rv,q⟩
 cases fl with
 |ret u =>
  obtain⟨v,σ',H',J,rv,q⟩:=hs
  exact fin J rv q
 |next =>
  obtain⟨σ',H',J,q⟩:=hs
  exact fin (v:=V.non) (u:=jP) J rfl q
 |brk =>
  obtain⟨_,_,_,q⟩:=hs
  exact bz q
 |cont =>
  obtain⟨_,_,_,q⟩:=hs;exact bz q
end L2
namespace L2
open PySem PySem.Spec PyProof.Rows
section
variable{X:Cx}{x:Str}{p pos:Pos}{e:aE}{es:List aE}{t:TA}{id T:String}{r:List V->Hp->VK->Prop}
def tCB(r:List V->Hp->VK->Prop)(t:TA):TE:=λσ H Q=>t σ H λvs H1=>r vs H1 Q
def gB(hc:cE X (.builtin id) r)(hg:Gl X x)(hm:X.mg x=none)(hv:bootBuiltins x=some (.builtin id))(ha:PA X (e::es) t)(hn:x≠"__name__":=by decide)(hdb:(x==("__debug__":Str))=false:=by decide)
 (he:starEach (e::es) X.env=(false,eval e X.env)::starEach es X.env:=by rfl)(hpl:(backTo pos (starEach es X.env)).any (·.1)=false:=by rfl):PE X (.Call (.Name x p) (e::es) [] pos) (tCB r t):=by
 intro pins s σ H Q I h;refine jG (pK I hg hm hv ?_ hn hdb);exact PyProof.Rows.callWith_builtin1 (thn (ha pos pins s σ H _ I h) λus s1⟨vs,H1,I1,r1,q1⟩=>hc pins s1 σ H1 vs us Q I1 r1 q1) he hpl
def ia(hc:cE X (.type T) r)(hg:Gl X x)(hm:X.mg x=none)(hv:bootBuiltins x=some (.type T))(ha:PA X (e::es) t)(hn:x≠"__name__":=by decide)(hdb:(x==("__debug__":Str))=false:=by decide)
 (he:starEach (e::es) X.env=(false,eval e X.env)::starEach es X.env:=by rfl)(hpl:(backTo pos (starEach es X.env)).any (·.1)=false:=by rfl):PE X (.Call (.Name x p) (e::es) [] pos) (tCB r t):=by
 intro pins s σ H Q I h;refine jG (pK I hg hm hv ?_ hn hdb);exact gA (thn (ha pos pins s σ H _ I h) λus s1⟨vs,H1,I1,r1,q1⟩=>hc pins s1 σ H1 vs us Q I1 r1 q1) he hpl
end
end L2
namespace HT
open PySem PyProof.Rows
section
open PySem.SeqAt
open PySem.AutoSeq1 (wpAny_loadPart')
open PySem.MeetsSeq PySem.MeetsSeq2 PySem.MeetsSeq3
end
section
variable{prog:aQ}{w:bD}{A:bE}{E:ai->au->Prop}{s:au}
def cat_tup(ht:HU s.heap t vs.toArray)(hb:HU s.heap b ws.toArray)(hv:vs≠[])
 (h1:ws=[]->Q (.ref t) s)(h2:ws≠[]->Q (.ref s.heap.objs.size) {s with heap:=s.heap.push {cls:=.type "tuple",data:=.seq (vs++ws).toArray} })
 (hsz:vs.length+ws.length<=sizeLine):wpAny (model prog w) A (binaryOp .Add (.ref t) (.ref b)) Q E s:=by
 obtain⟨⟨cls,dd,data,sl⟩,ho,hc,n,hd⟩:=id ht;obtain⟨⟨cls2,dd2,data2,sl2⟩,ho2,hc2,n2,hd2⟩:=id hb;simp only at hc hd hc2 hd2;subst hc hd hc2 hd2;have e:vs.toArray++ws.toArray=(vs++ws).toArray:=by simp
 by_cases hw:ws=[]
 .exact Ex ⟨_,ho,rfl⟩ ⟨_,ho2,rfl⟩ kM oO PySem.F.slot_tuple_add PySem.F.entry_tuple_add (PySem.F.args_tuple_add_2 _ _)
   (tuple_addW1 t b vs.toArray ws.toArray n n2 dd dd2 sl sl2 (by simpa using hv) (by simp[hw])) ⟨ho,ho2,h1 hw⟩
 .refine Ex ⟨_,ho,rfl⟩ ⟨_,ho2,rfl⟩ kM oO PySem.F.slot_tuple_add PySem.F.entry_tuple_add (PySem.F.args_tuple_add_2 _ _)
   (tuple_addW2 t b vs.toArray ws.toArray n n2 dd dd2 sl sl2 (by simpa using hv) (by simpa using hw) (by rw[aB,aB];exact hsz)) ⟨ho,ho2,?_⟩
  rw[e];exact h2 hw
def sIx(n d:Nat):Option Int->Nat
 |none=>d
 |some v=>if v<0 then(v+(n:Int)).toNat else min v.toNat n
def sIx_none(n d:Nat):sIx n d none=d:=rfl
def sIx_nat(n d k:Nat):sIx n d (some (k:Int))=min k n:=by
 show(if(k:Int)<0 then((k:Int)+(n:Int)).toNat else min (k:Int).toNat n)=min k n;rw[if_neg ∅,dg]
def JM(n d:Nat)(hd:d<=n)(o:Option Int):sIx n d o<=n:=by
 cases o with
 |none=>exact hd
 |some v =>
  show(if v<0 then(v+(n:Int)).toNat else min v.toNat n)<=n;by_cases hv:v<0
  .rw[if_pos hv];lia
  .rw[if_neg hv];exact pY _ _
def yX(v:Int)(n d:Nat):(if v<0 then max (v+(n:Int)) 0 else min v (n:Int))=((sIx n d (some v):Nat):Int):=by
 show(if v<0 then max (v+(n:Int)) 0 else min v (n:Int))=(((if v<0 then(v+(n:Int)).toNat else min v.toNat n):Nat):Int);by_cases hv:v<0
 .simp only[if_pos hv];lia
 .simp only[if_neg hv];lia
def xH(lo hi:Option Int)(n:Nat):gO lo hi 1 (n:Int)=(((sIx n 0 lo:Nat):Int),((sIx n n hi:Nat):Int)):=by
 have h1:¬((1:Int)<0):=by lia
 unfold gO;simp only[h1,if_false];refine Prod.ext ?_ ?_
 .cases lo with
  |none=>rfl
  |some v=>exact yX v n 0
 .cases hi with
  |none=>rfl
  |some v=>exact yX v n n
def wF(i j:Nat):eM (i:Int) (j:Int) 1=j-i:=by
 unfold eM;have h1:(1:Int)>0:=by lia
 simp only[h1,if_true,Int.ediv_one];split<;>lia
def pA{v:ai}{o:Option Int}{Q:Option Int->au->Prop}(p:qb v o)(h:Q o s):wpAny (model prog w) A (Builtin.Slice.slicePartIndex v) Q E s:=by
 cases p with
 |none=>exact slicePart_none h
 |int i t=>exact slicePart_int h
def mW{sl:av}{vl vu:ai}{lo hi:Option Int}{n:Nat}{Q:Int×Int×Nat->au->Prop}(hs:s.heap.IsSliceOf sl vl vu .none)(pl:qb vl lo)(pu:qb vu hi)
 (h:Q (((sIx n 0 lo:Nat):Int),1,sIx n n hi-sIx n 0 lo) s):wpAny (model prog w) A (mK (.ref sl) (pure (n:Int))) Q E s:=by
 obtain⟨os,hos,hcs,hds⟩:=id hs;unfold mK Builtin.Slice.sliceFields;refine aI (aI (iz hos hds (x:=vl) rfl (aI (iz hos hds (x:=vu) rfl (aI (iz hos hds (x:=.none) rfl (bh ?_)))))));refine aI (slicePart_none ?_);show wpAny _ _ (if((1:Int)==0)=true then _ else _) _ _ s;rw[if_neg ⇑0];refine aI (pA pl (aI (pA pu (aI (bh ?_)))));show wpAny _ _ (match gO lo hi 1 (n:Int)with|(lo,hi)=>pure (lo,(1:Int),eM lo hi 1)) _ _ s;rw[xH lo hi n];show wpAny _ _ (pure (((sIx n 0 lo:Nat):Int),(1:Int),eM ((sIx n 0 lo:Nat):Int) ((sIx n n hi:Nat):Int) 1)) _ _ s;rw[wF];exact bh h
def CB(xs:Array ai)(i k:Nat):((du k).filterMap λ(m:Nat)=>xs[((i:Int)+(m:Int)*1).toNat]?).toArray=((xs.toList.drop i).take k).toArray:=by
 have e:(λ(m:Nat)=>xs[((i:Int)+(m:Int)*1).toNat]?)=λm=>xs[i+m]? := by
  funext m
  have:((i:Int)+(m:Int)*1).toNat=i+m:=by lia
  rw[this]
 rw[e];have:=pick_run xs i k;rw[List.filterMap_map]at this;have e2:((λx=>xs[x]?) ∘ λx=>i+x)=λm=>xs[i+m]? := rfl;rw[e2]at this;rw[this]
def getItem_tuple_cut{t sl:av}{items:Array ai}{vl vu:ai}{lo hi:Option Int}{Q:ai->au->Prop}(ht:HU s.heap t items)(hs:s.heap.IsSliceOf sl vl vu .none)(pl:qb vl lo)(pu:qb vu hi)
 (hw:¬(sIx items.size 0 lo=0/\sIx items.size items.size hi=items.size))
 (h:Q (.ref s.heap.objs.size) {s with heap:=s.heap.push {cls:=.type "tuple",data:=.seq ((items.toList.drop (sIx items.size 0 lo)).take (sIx items.size items.size hi-sIx items.size 0 lo)).toArray} })
 (hsz:items.size<=sizeLine):wpAny (model prog w) A (getItem (.ref t) (.ref sl)) Q E s:=by
 have htake:sizeOk (.seq ((items.toList.drop (sIx items.size 0 lo)).take (sIx items.size items.size hi-sIx items.size 0 lo)).toArray):=by
  show((items.toList.drop (sIx items.size 0 lo)).take (sIx items.size items.size hi-sIx items.size 0 lo)).toArray.size<=sizeLine;rw[aB,bA,aS,lJ];omega
 have hj:sIx items.size items.size hi<=items.size:=JM _ _ (aD _) hi;obtain⟨os,hos,hcs,hds⟩:=id hs;have hTs:s.TypeIs (.ref sl) "slice":=⟨os,hos,hcs⟩;unfold getItem
 try with_reducible refine kl ?_
 first|refine aI (bh ?_)|skip
 refine aI (wpAny_sequenceKey ht.typeIs ⇑0 ?_)
 refine aI (wpAny_callSpecial?_slot (name:=xK "__getitem__") ht.typeIs kN
  (wpAny_call_entry kN ht.typeIs entry_tuple_getitem ?_ (args_tuple_getitem _ _)))
 show wpAny _ _ (Builtin.Tuple.tupleItemsOf (.ref t) >>= _) _ _ s;refine aI (tupleItemsOf_ ht ?_);refine aI (wpAny_typeOf hTs ?_);rw[if_pos ⇑0];refine aI (mW hs pl pu ?_)
 have hno:¬((((sIx items.size 0 lo:Nat):Int)==0&&(1:Int)==1&&(sIx items.size items.size hi-sIx items.size 0 lo)==items.size)=true):=by
  intro q;rw[aa,aa]at q;have q1:((sIx items.size 0 lo:Nat):Int)=0:=eq_of_beq q.1.1;have q2:sIx items.size items.size hi-sIx items.size 0 lo=items.size:=eq_of_beq q.2;exact hw ⟨by omega,by omega⟩
 show wpAny _ _ (if(((sIx items.size 0 lo:Nat):Int)==0&&(1:Int)==1&&(sIx items.size items.size hi-sIx items.size 0 lo)==items.size)=true then _ else _) _ _ s;rw[if_neg hno,CB]
 first
  |exact aI (m:=eY _) (dO (bh ⟨_,rfl,bh h⟩) htake)
  |exact aI (m:=eY _) (dO (aI (bh (bh ⟨_,rfl,bh h⟩))) htake)
  |exact aI (aI (m:=eY _) (dO (bh (bh ⟨_,rfl,bh h⟩)) htake))
  |exact aI (aI (m:=eY _) (dO (bh ⟨_,rfl,bh h⟩) htake))
end
end HT
namespace L2
open PySem PySem.Spec PyProof.Rows
abbrev TO:=St->Hp->(Option Int->Hp->Prop)->Prop
def PO(X:Cx)(e:Option aE)(t:TO):Prop :=
 ∀(pins:List (av×Obj))(s:au)(σ:St)(H:Hp)(Q:Option Int->Hp->Prop),Inv X pins σ H s->t σ H Q ->
  wpAny (model X.prog X.w) X.A (evalPart e X.env) (λu s'=>∃o H',Inv X pins σ H' s'/\qb u o/\Q o H') X.xe s
def Fe:TO:=λ_ H Q=>Q none H
def Ml(t:TE):TO:=λσ H Q=>t σ H λx H1=>∃i,x=.int i/\Q (some i) H1
section
variable{X:Cx}{e:aE}{te:TE}{lo hi:Option aE}{tl th:TO}{pos p2:Pos}
def Gg:PO X none Fe:=by
 intro pins s σ H Q I h;rw[Ar];exact bh ⟨none,H,I,.none,h⟩
def Gf(h:PE X e te):PO X (some e) (Ml te):=by
 intro pins s σ H Q I hw;rw[evalPart_some];refine thn (h pins s σ H _ I hw) λu s1 zz=>?_;obtain⟨x,H1,I1,r1,q1⟩:=zz;obtain⟨i,rfl,q⟩:=q1;obtain⟨t,rfl⟩:=r1;exact⟨some i,H1,I1,.int i t,q⟩
def SlR(X:Cx)(r:V->Option Int->Option Int->Hp->VK->Prop):Prop :=
 ∀(pins:List (av×Obj))(s:au)(σ:St)(H:Hp)(x:V)(v vl vu:ai)(lo hi:Option Int)(sl:av)(Q:VK),Inv X pins σ H s->RelV x v->s.heap.IsSliceOf sl vl vu .none->qb vl lo->qb vu hi->r x lo hi H Q ->
  ∃T id,typeLookup (.type T) "__getitem__"=pure (some (.builtin id))/\s.TypeIs v T/\wpAny (model X.prog X.w) X.A (getItem v (.ref sl)) (EP X pins σ Q) X.xe s
def SlR.or{r r':V->Option Int->Option Int->Hp->VK->Prop}(h:SlR X r)(h':SlR X r'):SlR X (λx lo hi H Q=>r x lo hi H Q\/r' x lo hi H Q):=by
 intro pins s σ H x v vl vu lo hi sl Q I rx hs pl pu q;rcases q with q|q
 .exact h pins s σ H x v vl vu lo hi sl Q I rx hs pl pu q
 .exact h' pins s σ H x v vl vu lo hi sl Q I rx hs pl pu q
def tSl(r:V->Option Int->Option Int->Hp->VK->Prop)(te:TE)(tl th:TO):TE:=λσ H Q=>te σ H λx H1=>tl σ H1 λl H2=>th σ H2 λu H3=>r x l u H3 Q
def uW(hr:SlR X r)(he:PE X e te)(hl:PO X lo tl)(hu:PO X hi th):PE X (.Subscript e (.Slice lo hi none p2) pos) (tSl r te tl th):=by
 intro pins s σ H Q I h;refine xJ (thn (he pins s σ H _ I h) λv s1⟨x,H1,I1,r1,q1⟩=>?_);refine wpAny_Slice (thn (hl pins s1 σ H1 _ I1 q1) λvl s2⟨l,H2,I2,pl,q2⟩=>thn (hu pins s2 σ H2 _ I2 q2) λvu s3⟨u,H3,I3,pu,q3⟩=>?_);rw[Ar];refine bh ?_;have I4:Inv X pins σ H3 {s3 with heap:=s3.heap.push {cls:=.type "slice",data:=.fields #[vl,vu,.none]} }:=I3.kept (t':=s3.toks) λb ob q=>ax _ q;obtain⟨T,id,hT,ht,hg⟩:=hr pins {s3 with heap:=s3.heap.push {cls:=.type "slice",data:=.fields #[vl,vu,.none]} } σ H3 x v vl vu l u s3.heap.objs.size Q I4 r1 (qf ..) pl pu q3;show wpAny (model X.prog X.w) X.A (subscriptTail e (.Slice lo hi none p2) v (.ref s3.heap.objs.size)) (EP X pins σ Q) X.xe {s3 with heap:=s3.heap.push {cls:=.type "slice",data:=.fields #[vl,vu,.none]} };exact HK (ops:=[.ref s3.heap.objs.size,v]) ht hT hg (by with_unfolding_all rfl)
def qp(xs:List V)(lo hi:Option Int):List V:=(xs.drop (HT.sIx xs.length 0 lo)).take (HT.sIx xs.length xs.length hi-HT.sIx xs.length 0 lo)
def nQ(xs:List V)(lo hi:Option Int):(qp xs lo hi).length<=xs.length:=by
 unfold qp;rw[bA,aS]
 lia
def NW(K:PySem.W.Frag):V->Option Int->Option Int->Hp->VK->Prop:=λx lo hi H Q=>∃a xs,x=.ref a/\SqT K H a xs /\
 ¬(HT.sIx xs.length 0 lo=0/\HT.sIx xs.length xs.length hi=xs.length)/\∀p,H p=none->Q (.ref p) (upd H p (.tup (qp xs lo hi)))
def JK:SlR X (NW X.K):=by
 intro pins s σ H x v vl vu lo hi sl Q I rx hs pl pu h;obtain⟨a,xs,rfl,hx,hw,q⟩:=h;cases rx;obtain⟨its,r,ht,hz⟩:=I.tuple hx;have hlen:its.toArray.size=xs.length:=by rw[aB];exact r.length.symm
 refine⟨"tuple",_,PyProof.Rows.slot_tuple_getitem.lookup,ht.typeIs,?_⟩;refine HT.getItem_tuple_cut ht hs pl pu (by rw[hlen];exact hw) ?_ (by rw[hlen];exact hz);rw[hlen];refine⟨.ref s.heap.objs.size,_,I.laid (t':=s.toks) (o:=.tup (qp xs lo hi)) (λb ob q=>ax _ q) (aD _) ?_,rfl,q _ (I.hok.fresh (aD _))⟩;exact⟨aZ (nQ xs lo hi) hz,_,(r.drop (HT.sIx xs.length 0 lo)).take (HT.sIx xs.length xs.length hi-HT.sIx xs.length 0 lo),oy _ _⟩
def Ii(K:PySem.W.Frag):R2:=λx y H Q=>∃a b xs ys,x=.ref a/\y=.ref b/\SqT K H a xs/\SqT K H b ys/\xs≠[]/\xs.length+ys.length<=sizeLine /\
 (ys=[]->Q (.ref a) H)/\(ys≠[]->∀p,H p=none->Q (.ref p) (upd H p (.tup (xs++ys))))
def Vals.nil_iff(r:Vals xs us):us=[]↔xs=[]:=by
 cases r with
 |nil=>simp
 |cons _ _=>simp
def Gw:OpR X (binaryOp .Add) (Ii X.K):=by
 intro pins s σ H x y v u Q I rx ry h;obtain⟨a,b,xs,ys,rfl,rfl,ha,hb,hx,hz,q1,q2⟩:=h;cases rx;cases ry;obtain⟨its,r1,p1,_⟩:=I.tuple ha;obtain⟨its2,r2,p2,_⟩:=I.tuple hb;refine HT.cat_tup p1 p2 (λz=>hx (r1.nil_iff.mp z)) (λz=>⟨.ref a,H,I,rfl,q1 (r2.nil_iff.mp z)⟩) (λz=>?_) (by rw[<- r1.length,<- r2.length];exact hz);refine⟨.ref s.heap.objs.size,_,I.laid (t':=s.toks) (o:=.tup (xs++ys)) (λb ob q=>ax _ q) (aD _) ?_,rfl,q2 (λw=>z (r2.nil_iff.mpr w)) _ (I.hok.fresh (aD _))⟩;exact⟨by rw[az];exact hz,_,r1.append r2,oy _ _⟩
end
end L2
namespace L2
open PySem PySem.Spec PyProof.Rows
def ixN(n:Nat)(i:Int):Option Nat:=if 0<=i then(if i<n then some i.toNat else none)else if -(n:Int)<=i then some (i+n).toNat else none
def atI{α:Type}(xs:List α)(i:Int):Option α:=(ixN xs.length i).bind λj=>xs[j]?
def sR(h:ixN n i=some j):seqIndex? i n=some j/\j<n/\-(n:Int)<=i/\i<n:=by
 unfold ixN at h;by_cases h0:0<=i
 .rw[if_pos h0]at h;by_cases h1:i<n
  .rw[if_pos h1]at h;have e:i.toNat=j:=bU h;exact⟨by rw[HL h0 h1,e],∅,∅,h1⟩
  .rw[if_neg h1]at h;cases h
 .rw[if_neg h0]at h;by_cases h1:-(n:Int)<=i
  .rw[if_pos h1]at h;have e:(i+n).toNat=j:=bU h;exact⟨by rw[Ew ∅ h1,e],∅,h1,∅⟩
  .rw[if_neg h1]at h;cases h
def tU{α:Type}{xs:List α}{i:Int}{v:α}(h:atI xs i=some v):∃j,seqIndex? i xs.length=some j/\xs[j]?=some v/\j<xs.length/\-(xs.length:Int)<=i/\i<xs.length:=by
 unfold atI at h
 cases e:ixN xs.length i with
 |none=>rw[e]at h;cases h
 |some j =>
  rw[e]at h;obtain⟨h1,h2,h3,h4⟩:=sR e;exact⟨j,h1,h,h2,h3,h4⟩
def atI_nat{α:Type}{xs:List α}{j:Nat}{v:α}(h:xs[j]?=some v):atI xs (j:Int)=some v:=by
 have hj:j<xs.length:=(aF.mp h).1
 have e:ixN xs.length (j:Int)=some j:=by
  unfold ixN;rw[if_pos ∅,if_pos ∅];simp
 unfold atI;rw[e];exact h
def PlainIx(b:aE):Prop:=∀o i,subscripted b false o i=operate [o,i] (getItem o i)
def IxR(X:Cx)(r:R2):Prop :=
 ∀(value slice:aE)(pins:List (av×Obj))(s:au)(σ:St)(H:Hp)(x y:V)(v u:ai)(Q:VK),Inv X pins σ H s->RelV x v->RelV y u->r x y H Q ->
  subscripted slice false v u=operate [v,u] (getItem v u)->wpAny (model X.prog X.w) X.A (subscriptTail value slice v u) (EP X pins σ Q) X.xe s
def MtR(X:Cx)(id:String)(r:V->List V->Hp->VK->Prop):Prop :=
 ∀(pins:List (av×Obj))(s:au)(σ:St)(H:Hp)(x:V)(xs:List V)(v:ai)(us:List ai)(Q:VK),Inv X pins σ H s->RelV x v->Vals xs us->r x xs H Q ->
  wpAny (model X.prog X.w) X.A (call (.builtin id) (v::us)) (EP X pins σ Q) X.xe s
section
variable{X:Cx}{a b:aE}{ta tb:TE}{pos:Pos}
def IxR.or{r r':R2}(h:IxR X r)(h':IxR X r'):IxR X (λx y H Q=>r x y H Q\/r' x y H Q):=by
 intro value slice pins s σ H x y v u Q I rx ry q hs;rcases q with q|q
 .exact h value slice pins s σ H x y v u Q I rx ry q hs
 .exact h' value slice pins s σ H x y v u Q I rx ry q hs
def MN(hr:IxR X r)(ha:PE X a ta)(hb:PE X b tb)(hs:PlainIx b):PE X (.Subscript a b pos) (tOp r ta tb):=by
 intro pins s σ H Q I h;exact xJ (LI ha hb I h λv u s2 x y H2 I2 rx ry q=>hr a b pins s2 σ H2 x y v u Q I2 rx ry q (hs _ _))
def MJ(K:PySem.W.Frag):R2:=λx y H Q=>∃p xs i v,x=.ref p/\y=.int i/\SqL K H p xs/\atI xs i=some v/\Q v H
def MH(K:PySem.W.Frag):R2:=λx y H Q=>∃p xs i v,x=.ref p/\y=.int i/\SqT K H p xs/\atI xs i=some v/\Q v H
def MI:R2:=λx y H Q=>∃z i c,x=.str z/\y=.int i/\z.length<=sizeLine/\atI z.cps.toList i=some c/\Q (.str ⟨#[c]⟩) H
def GV:IxR X (MJ X.K):=by
 intro value slice pins s σ H x y v u Q I rx ry h hs;obtain⟨p,xs,i,z,rfl,rfl,hq,he,q⟩:=h;cases rx;obtain⟨t,rfl⟩:=ry;obtain⟨its,r,pl,hz⟩:=I.list hq;obtain⟨j,h1,h2,h3,h4,h5⟩:=tU he;obtain⟨w,ew,rw'⟩:=r.get h2;have hl:=r.length;have hn:=lC;have fin:EP X pins σ Q w s:=⟨z,H,I,rw',q⟩;by_cases h0:0<=i
 .have hj:i.toNat=j:=by
   rw[HL h0 h5]at h1;exact bU h1
  exact item_listR pl.isList h0 ∅ (by rw[hj];simpa using ew) fin hs
 .have hj:(i+(its.toArray.size:Int)).toNat=j:=by
   rw[Ew ∅ h4]at h1;rw[aB,<- hl];exact bU h1
  exact Eu (x:=w) pl.isList.typeIs slot_list_getitem.lookup
   (wpAny_getItem_list_neg (Q:=λr s'=>r=w/\EP X pins σ Q r s') pl.isList ∅ (by rw[aB]<;>lia) ∅ (by rw[hj];simpa using ew) ⟨rfl,fin⟩) hs
def KS:IxR X (MH X.K):=by
 intro value slice pins s σ H x y v u Q I rx ry h hs;obtain⟨p,xs,i,z,rfl,rfl,hq,he,q⟩:=h;cases rx;obtain⟨t,rfl⟩:=ry;obtain⟨its,r,pl,hz⟩:=I.tuple hq;obtain⟨j,h1,h2,h3,h4,h5⟩:=tU he;obtain⟨w,ew,rw'⟩:=r.get h2;have hl:=r.length;have hn:=lC;have fin:EP X pins σ Q w s:=⟨z,H,I,rw',q⟩
 exact Eu (x:=w) pl.typeIs slot_tuple_getitem.lookup
  (getItem_tuple (j:=j) (Q:=λr s'=>r=w/\EP X pins σ Q r s') pl ∅ ∅ (by rw[aB,<- hl];exact h1) (by simpa using ew) ⟨rfl,fin⟩) hs
def KU:IxR X MI:=by
 intro value slice pins s σ H x y v u Q I rx ry h hs;obtain⟨z,i,c,rfl,rfl,hz,he,q⟩:=h;obtain⟨t,rfl⟩:=rx;obtain⟨t',rfl⟩:=ry;obtain⟨j,h1,h2,h3,h4,h5⟩:=tU he;have hl:z.cps.toList.length=z.length:=by simp[Str.length]
 rw[hl]at h1 h4 h5;have hn:=lC
 exact HK (fK s z t) slot_str_getitem.lookup (getItem_str (c:=c) (by
  have e1:decide (i < -(2^63:Int))=false:=decide_eq_false ∅;have e2:decide (i ≥ 2^63)=false:=decide_eq_false ∅;rw[e1,e2,Bool.or_false]) (by rw[h1];simpa using h2) ⟨.str ⟨#[c]⟩,H,I.tok _,⟨_,rfl⟩,q⟩) hs
def rIx(K:PySem.W.Frag):R2:=λx y H Q=>MJ K x y H Q\/MH K x y H Q\/MI x y H Q
def KW:IxR X (rIx X.K):=GV.or (KS.or KU)
def xg(its:List ai)(n j:Nat)(u:ai):nG (·.setIfInBounds j u) {cls:=.type "list",data:=.seq its.toArray n}={cls:=.type "list",data:=.seq (its.set j u).toArray n}:=by
 simp[nG]
def Inv.lst{pins:List (av×Obj)}{σ:St}{H:Hp}{s:au}{p:av}{xs:List V}(I:Inv X pins σ H s)(h:H p=some (.lst xs)) :
 ∃(its:List ai)(n:Nat),Vals xs its/\s.heap.get? p=some {cls:=.type "list",data:=.seq its.toArray n}/\xs.length<=sizeLine:=by
 obtain⟨z,its,n,r,e⟩:=I.hok p _ h;exact⟨its,n,r,e,z⟩
def Inv.lstUpd{pins:List (av×Obj)}{σ:St}{H:Hp}{s:au}{p:av}{xs ys:List V}{its its':List ai}{n n':Nat}{f:Obj->Obj}(I:Inv X pins σ H s)(h:H p=some (.lst xs))
 (ho:s.heap.get? p=some {cls:=.type "list",data:=.seq its.toArray n})(hf:f {cls:=.type "list",data:=.seq its.toArray n}={cls:=.type "list",data:=.seq its'.toArray n'})(r:Vals ys its')(hz:ys.length<=sizeLine)(t:Nat) :
 Inv X pins σ (upd H p (.lst ys)) {s with heap:=s.heap.update p f,toks:=t}:=by
 have e:(s.heap.update p f).get? p=some {cls:=.type "list",data:=.seq its'.toArray n'}:=by
  rw[xP f ho (by rw[hf]<;>rfl),hf]
 refine I.write (x:=p) (e:=p) (by rw[h];trivial) (.inl rfl) (λb u hb q=>(gj _ _ (Ne.symm hb)).trans q) ⟨_,e⟩ ?_;exact⟨hz,its',n',r,e⟩
def MG:V->V->V->Hp->(Hp->Prop)->Prop:=λo i v H Q=>∃p xs k j,o=.ref p/\i=.int k/\H p=some (.lst xs)/\ixN xs.length k=some j/\Q (upd H p (.lst (xs.set j v)))
def set_list:NB X MG:=by
 intro pins s σ H o i v ov iv u Q I ro ri rv h;obtain⟨p,xs,k,j,rfl,rfl,hp,hj,q⟩:=h;cases ro;obtain⟨t,rfl⟩:=ri;obtain⟨its,n,r,ho,hz⟩:=I.lst hp;obtain⟨h1,h2,h3,h4⟩:=sR hj;have hl:=r.length;have hn:=lC
 have I':Inv X pins σ (upd H p (.lst (xs.set j v))) {s with heap:=s.heap.update p (nG (·.setIfInBounds j u))} :=
  I.lstUpd hp ho (xg its n j u) (r.set rv j) (by rw[bb];exact hz) s.toks
 by_cases h0:0<=k
 .have hk:k.toNat=j:=by
   rw[HL h0 h4]at h1;exact bU h1
  exact PySem.W.ki_setAt ho h0 ∅ (by rw[aB,<- hl];exact h4) (by rw[hk];exact⟨_,I',q⟩)
 .have hk:(k+(its.toArray.size:Int)).toNat=j:=by
   rw[Ew ∅ h3]at h1;rw[aB,<- hl];exact bU h1
  exact PySem.W.ki_setBack ho ∅ (by rw[aB,<- hl];exact h3) ∅ (by rw[hk];exact⟨_,I',q⟩)
def sk(lo hi:Option Int)(n:Nat):(sliceBounds lo hi none n).1=((HT.sIx n 0 lo:Nat):Int)/\(sliceBounds lo hi none n).2.1=((HT.sIx n n hi:Nat):Int)/\(sliceBounds lo hi none n).2.2=1:=by
 refine⟨?_,?_,rfl⟩
 .cases lo with
  |none=>simp[sliceBounds,HT.sIx]
  |some i =>
   simp only[sliceBounds,HT.sIx,AE,show(1:Int)>0 by decide,if_true];by_cases h:i<0
   .simp only[h,if_true]<;>lia
   .simp only[h,if_false]<;>lia
 .cases hi with
  |none=>simp[sliceBounds,HT.sIx]
  |some i =>
   simp only[sliceBounds,HT.sIx,AE,show(1:Int)>0 by decide,if_true];by_cases h:i<0
   .simp only[h,if_true]<;>lia
   .simp only[h,if_false]<;>lia
def qh(its:List ai)(lo hi:Option Int):slicePick its.toArray lo hi none=((its.drop (HT.sIx its.length 0 lo)).take (HT.sIx its.length its.length hi-HT.sIx its.length 0 lo)).toArray:=by
 obtain⟨h1,h2,h3⟩:=sk lo hi its.toArray.size;unfold slicePick;rw[h1,h2,h3];simp only[sliceRange_one,pick_run,aB]<;>rfl
def NY(K:PySem.W.Frag):V->Option Int->Option Int->Hp->VK->Prop:=λx lo hi H Q=>∃a xs,x=.ref a/\SqL K H a xs/\∀p,H p=none->Q (.ref p) (upd H p (.lst (qp xs lo hi)))
def ye:SlR X (NY X.K):=by
 intro pins s σ H x v vl vu lo hi sl Q I rx hs pl pu h;obtain⟨a,xs,rfl,hx,q⟩:=h;cases rx;obtain⟨its,r,ht,hz⟩:=I.list hx;have hlen:=r.length;refine⟨"list",_,slot_list_getitem.lookup,ht.isList.typeIs,?_⟩;refine Ap ht.isList hs pl pu .none ↥0 ?_ (by rw[aB]<;>lia);rw[qh,<- hlen];refine⟨.ref s.heap.objs.size,_,I.laid (t':=s.toks) (o:=.lst (qp xs lo hi)) (λb ob q=>ax _ q) (aD _) ?_,rfl,q _ (I.hok.fresh (aD _))⟩;exact⟨aZ (nQ xs lo hi) hz,_,0,(r.drop (HT.sIx xs.length 0 lo)).take (HT.sIx xs.length xs.length hi-HT.sIx xs.length 0 lo),aX _ rfl⟩
def tQ:cE X (.builtin "len") (λxs H Q=>∃p ys,xs=[.ref p]/\(SqL X.K H p ys\/SqT X.K H p ys)/\Q (.int ys.length) H):=by
 intro pins s σ H xs us Q I r h;obtain⟨p,ys,rfl,hq,q⟩:=h;obtain⟨u,rfl,rx⟩:=vals1 r;cases rx;have hn:=lC;rcases hq with hq|hq
 .obtain⟨its,r',pl,hz⟩:=I.list hq;have hlen:=r'.length;exact Calls.call_len_list pl.isList (by simp only[aB]<;>lia) ⟨.int ys.length,H,I.tok _,⟨s.toks+1,by rw[aB,hlen]⟩,q⟩
 .obtain⟨its,r',pl,hz⟩:=I.tuple hq;have hlen:=r'.length;exact len_tuple pl (by simp only[aB]<;>lia) ⟨.int ys.length,H,I.tok _,⟨s.toks+1,by rw[aB,hlen]⟩,q⟩
def tP:cE X (.builtin "len") (λxs H Q=>∃z,xs=[.str z]/\z.length<=sizeLine/\Q (.int z.length) H):=by
 intro pins s σ H xs us Q I r h;obtain⟨z,rfl,hz,q⟩:=h;obtain⟨u,rfl,t,rfl⟩:=vals1 r;have hn:=lC;exact len_str ∅ ⟨.int z.length,H,I.tok _,⟨_,rfl⟩,q⟩
def cE.or{f:ai}{r r':List V->Hp->VK->Prop}(h:cE X f r)(h':cE X f r'):cE X f (λxs H Q=>r xs H Q\/r' xs H Q):=by
 intro pins s σ H xs us Q I rs q;rcases q with q|q
 .exact h pins s σ H xs us Q I rs q
 .exact h' pins s σ H xs us Q I rs q
def mH:cE X (.type "list") (λxs H Q=>∃p ys,xs=[.ref p]/\(SqL X.K H p ys\/SqT X.K H p ys)/\∀l,H l=none->Q (.ref l) (upd H l (.lst ys))):=by
 intro pins s σ H xs us Q I r h;obtain⟨p,ys,rfl,hq,q⟩:=h;obtain⟨u,rfl,rx⟩:=vals1 r;cases rx
 have fin:∀(its:List ai),Vals ys its->ys.length<=sizeLine->∀(h':bW)(c':Nat),(∀b o',s.heap.get? b=some o'->h'.get? b=some o') ->
  h'.get? s.heap.objs.size=some {cls:=.type "list",dict:=none,data:=.seq its.toArray c',slots := #[]}->EP X pins σ Q (.ref s.heap.objs.size) {s with heap:=h'}:=λits r' hz h' c' kp e =>
  ⟨.ref s.heap.objs.size,_,I.laid (t':=s.toks) kp (aD _) (show eL X.prog X.w _ h' _ (.lst ys)from⟨hz,its,c',r',e⟩),rfl,q _ (I.hok.fresh (aD _))⟩
 rcases hq with hq|hq
 .obtain⟨its,r',pl,hz⟩:=I.list hq;have hlen:=r'.length;obtain⟨o,ho,hc,n,hd⟩:=pl.isList;exact call_list_seq p (.inl rfl) ho hc hd (λh' c' kp e=>fin its r' hz h' c' kp e) (by simp only[aB]<;>lia)
 .obtain⟨its,r',pl,hz⟩:=I.tuple hq;have hlen:=r'.length;obtain⟨o,ho,hc,n,hd⟩:=pl;exact call_list_seq p (.inr rfl) ho hc hd (λh' c' kp e=>fin its r' hz h' c' kp e) (by simp only[aB]<;>lia)
def qu:cE X (.type "tuple") (λxs H Q=>∃p ys,xs=[.ref p]/\((SqL X.K H p ys/\∀l,H l=none->Q (.ref l) (upd H l (.tup ys)))\/(SqT X.K H p ys/\Q (.ref p) H))):=by
 intro pins s σ H xs us Q I r h;obtain⟨p,ys,rfl,h⟩:=h;obtain⟨u,rfl,rx⟩:=vals1 r;cases rx;rcases h with⟨hq,q⟩|⟨hq,q⟩
 .obtain⟨its,r',pl,hz⟩:=I.list hq;have hlen:=r'.length;refine call_tuple_list pl.isList (λh' kp=>?_) (by simp only[aB]<;>lia);have I1:Inv X pins σ H {s with heap:=h'}:=I.kept (t':=s.toks) kp
  have I2:Inv X pins σ (upd H h'.objs.size (.tup ys)) {s with heap:=h'.push {cls:=.type "tuple",data:=.seq its.toArray} } :=
   I1.laid (t':=s.toks) (λb o e=>ax _ e) (aD _) (show eL X.prog X.w _ _ _ (.tup ys)from⟨hz,its,r',oy _ _⟩)
  exact⟨.ref h'.objs.size,_,I2,rfl,q _ (I1.hok.fresh (aD _))⟩
 .obtain⟨its,r',pl,hz⟩:=I.tuple hq;exact call_tuple_same pl ⟨.ref p,H,I,rfl,q⟩
def tyV(K:PySem.W.Frag)(T:String)(x:V)(H:Hp):Prop:=match x with
 |.str _=>T="str"
 |.int _=>T="int"
 |.ref p=>(T="list"/\∃xs,SqL K H p xs)\/(T="tuple"/\∃o,K.lookup p=some o/\o.cls=.type "tuple"/\o.dict=none) \/
   (T="dict"/\((∃kvs,H p=some (.dK kvs))\/∃kvs,H p=some (.dT kvs)))
 |_=>False
def Bn(I:Inv X pins σ H s)(r:RelV x v)(ty:tyV X.K T x H) :
 s.TypeIs v T/\∀a,v=.ref a->∃ob,s.heap.get? a=some ob/\ob.dict=none:=by
 cases x with
 |str z =>
  obtain⟨t,rfl⟩:=r;cases(show T="str" from ty)
  exact⟨fK s z t,λ_ e=>nomatch e⟩
 |int i =>
  obtain⟨t,rfl⟩:=r;cases(show T="int" from ty)
  exact⟨typeIs_int s i t,λ_ e=>nomatch e⟩
 |ref p =>
  cases r;rcases ty with⟨rfl,xs,hq⟩|⟨rfl,o,hk,hc,hd⟩|⟨rfl,hk⟩
  .obtain⟨its,_,pl,_⟩:=I.list hq;refine⟨pl.isList.typeIs,λa e=>?_⟩;cases e;obtain⟨o,n,e,c,hd,_⟩:=pl;exact⟨o,e,hd⟩
  .refine⟨⟨o,I.kIn p o hk,hc⟩,λa e=>?_⟩;cases e;exact⟨o,I.kIn _ o hk,hd⟩
  .have z:∃o,s.heap.get? p=some o/\o.ExactDict:=by
    rcases hk with⟨kvs,hk⟩|⟨kvs,hk⟩
    .obtain⟨_,_,_,_,o,_,_,e,ex,_⟩:=I.hok p _ hk;exact⟨o,e,ex⟩
    .obtain⟨_,_,_,_,o,_,_,e,ex,_⟩:=I.hok p _ hk;exact⟨o,e,ex⟩
   obtain⟨o,e,ex⟩:=z;refine⟨⟨o,e,ex.1⟩,λa e2=>?_⟩;cases e2
   exact⟨o,e,ex.2.1⟩
 |_=>exact bz ty
def NP(K:PySem.W.Frag)(T:String)(r:V->List V->Hp->VK->Prop)(to:TE):TE:=λσ H Q=>to σ H λx H1=>tyV K T x H1/\r x [] H1 Q
def tBM(K:PySem.W.Frag)(T:String)(r:V->List V->Hp->VK->Prop)(to:TE)(t:TA):TE:=λσ H Q=>to σ H λx H1=>tyV K T x H1/\t σ H1 λxs H2=>r x xs H2 Q
variable{o e:aE}{es:List aE}{to:TE}{t:TA}{name:Str}{apos cpos:Pos}{T id:String}{r:V->List V->Hp->VK->Prop}
def Kg(pa:LX T)(slot:Slot T name id)(hty:typeOf (.builtin id)=pure (.type "method_descriptor"))(hm:MtR X id r)(ho:PE X o to)
 (hbase:attributeBase o name X.env (eval o X.env)=eval o X.env:=by rfl)(hline:(apos.endLine==cpos.line)=true:=by rfl):PE X (.Call (.Attribute o name apos) [] [] cpos) (NP X.K T r to):=by
 intro pins s σ H Q I h;refine wpAny_Call_method0_late hbase hline (thn (ho pins s σ H _ I h) λv s1⟨x,H1,I1,r1,ty,q1⟩=>?_);obtain⟨h1,h2⟩:=Bn I1 r1 ty;exact⟨T,id,pa,slot,hty,h1,h2,jQ rfl (PySem.evalArgs_none (hm pins s1 σ H1 x [] v [] Q I1 r1 .nil q1))⟩
def uY(pa:LX T)(slot:Slot T name id)(hty:typeOf (.builtin id)=pure (.type "method_descriptor"))(hm:MtR X id r)(ho:PE X o to)(ha:PA X (e::es) t)
 (hbase:attributeBase o name X.env (eval o X.env)=eval o X.env:=by rfl)
 (hfew:((backTo cpos (starEach (e::es) X.env)).all (λx=>!x.1)&&(backToKw cpos (keywordEach [] X.env)).all (λx=>x.1.isSome)
   && decide ((e::es).length+([]:List dR).length+(if([]:List dR).isEmpty then 0 else 1)<30))=true:=by rfl)
 (hline:(apos.endLine==cpos.line)=true:=by rfl) (hs:starEach (e::es) X.env=(false,eval e X.env)::starEach es X.env:=by rfl) (hplain:(backTo cpos (starEach es X.env)).any (·.1)=false:=by rfl) :
 PE X (.Call (.Attribute o name apos) (e::es) [] cpos) (tBM X.K T r to t):=by
 intro pins s σ H Q I h;refine wpAny_Call_method_late hbase hfew hline rfl (thn (ho pins s σ H _ I h) λv s1⟨x,H1,I1,r1,ty,q1⟩=>?_);obtain⟨h1,h2⟩:=Bn I1 r1 ty;refine⟨T,id,pa,slot,hty,h1,h2,?_⟩;have hA:=ha cpos pins s1 σ H1 _ I1 q1;rw[hs]at hA |-;refine jQ (by show(false||(backTo cpos (starEach es X.env)).any (·.1))=false;rw[hplain]<;>rfl) (kP ?_);exact thn hA λus s2⟨vs,H2,I2,r2,q2⟩=>hm pins s2 σ H2 x vs v us Q I2 r1 r2 q2
end
end L2
namespace L2
open PySem PySem.Spec PyProof.Rows
def MtM(X:Cx)(id:String)(r:V->List V->Hp->VK->Prop):Prop :=
 ∀(pins:List (av×Obj))(s:au)(σ:St)(H:Hp)(x:V)(xs:List V)(v:ai)(us:List ai)(Q:VK),Inv X pins σ H s->RelV x v->Vals xs us->r x xs H Q ->
  wpAny (model X.prog X.w) X.A (call (.builtin id) (v::us)) (EP X pins σ Q) X.xe s
def Vals.one:∀{x:V}{us:List ai},Vals [x] us->∃u,us=[u]/\RelV x u
 |_,_,.cons r .nil=>⟨_,rfl,r⟩
def Vals.two(h:Vals [x,y] us):∃u v,us=[u,v]/\RelV x u/\RelV y v:=by
 cases h with
 |cons r t =>
  obtain⟨u,rfl,q⟩:=Vals.one t;exact⟨_,_,rfl,r,q⟩
def Vals.zero:∀{us:List ai},Vals [] us->us=[]
 |_,.nil=>rfl
def Vals.dropLast(h:Vals xs us):Vals xs.dropLast us.dropLast:=by
 induction h with
 |nil=>exact .nil
 |cons r t ih =>
  cases t with
  |nil=>exact .nil
  |cons q t'=>exact .cons r ih
def Vals.eraseIdx:∀{xs:List V}{us:List ai}(i:Nat),Vals xs us->Vals (xs.eraseIdx i) (us.eraseIdx i)
 |_,_,_,.nil=>.nil
 |_,_,0,.cons _ t=>t
 |_,_,i+1,.cons r t=>.cons r (Vals.eraseIdx i t)
def xv{α:Type}(l:List α):l.eraseIdx (l.length-1)=l.dropLast:=by
 induction l with
 |nil=>rfl
 |cons a r ih =>
  cases r with
  |nil=>rfl
  |cons b r =>
   have e:(a::b::r).length-1=((b::r).length-1)+1:=by
    have h1:(a::b::r).length=r.length+2:=rfl;have h2:(b::r).length=r.length+1:=rfl
    lia
   rw[e,List.eraseIdx_cons_succ,ih]
   all_goals rfl
def rj{α:Type}:∀(l:List α)(i:Nat),(l.eraseIdx i).length<=l.length
 |[],_=>aD _
 |_::_,0=>Nat.le_succ _
 |_::r,i+1=>Nat.succ_le_succ (rj r i)
section
variable{X:Cx}{pins:List (av×Obj)}{σ:St}{H:Hp}{s:au}{l b:av}{xs ys zs:List V}
def Inv.lset{its its':List ai}{n:Nat}{f:Array ai->Array ai}{t':Nat}(I:Inv X pins σ H s)(hH:H l=some (.lst xs))
 (e:s.heap.get? l=some {cls:=.type "list",data:=.seq its.toArray n})(hf:f its.toArray=its'.toArray)(hv:Vals ys its')(hz:ys.length<=sizeLine) :
 Inv X pins σ (upd H l (.lst ys)) {s with heap:=s.heap.update l (nG f),toks:=t'}:=by
 have q:=PySem.IsL.update e f;rw[hf]at q;refine I.write (x:=l) (e:=l) (by rw[hH];exact trivial) (.inl rfl) (λb' u hb hu=>(gj s.heap (nG f) (Ne.symm hb)).trans hu) ⟨_,q⟩ ?_;exact⟨hz,its',_,hv,q⟩
def Inv.lnew(I:Inv X pins σ H s)(hv:Vals ys its)(hz:ys.length<=sizeLine) :
 Inv X pins σ (upd H s.heap.objs.size (.lst ys)) {s with heap:=s.heap.push {cls:=.type "list",data:=.seq its.toArray},toks:=t'} :=
 I.laid (λ_ _ q=>ax _ q) (aD _) ⟨hz,its,0,hv,aX _ rfl⟩
def Inv.fresh(I:Inv X pins σ H s):H s.heap.objs.size=none:=I.hok.fresh (aD _)
def Inv.lstM(I:Inv X pins σ H s)(hH:H l=some (.lst xs)):xs.length<=sizeLine/\∃(its:List ai)(n:Nat),Vals xs its/\xs.length=its.length/\s.heap.get? l=some {cls:=.type "list",data:=.seq its.toArray n}:=by
 obtain⟨z,its,n,r,e⟩:=I.hok l _ hH;exact⟨z,its,n,r,r.length,e⟩
end
section
variable{X:Cx}
def FW:V->List V->Hp->VK->Prop:=λx vs H Q=>∃l xs y,x=.ref l/\vs=[y]/\H l=some (.lst xs)/\xs.length<sizeLine/\Q .non (upd H l (.lst (xs++[y])))
def rg:MtM X "list.append" FW:=by
 intro pins s σ H x vs v us Q I rx rv h;obtain⟨l,xs,y,rfl,rfl,hH,hz,q⟩:=h;cases rx;obtain⟨u,rfl,ru⟩:=rv.one;obtain⟨z,its,n,r,hl,e⟩:=I.lstM hH;refine dU F.slot_list_append ⟨_,e,rfl⟩ F.entry_list_append (F.args_list_append_2 _ _) (PySem.list_append l its.toArray n u (by rw[aB];lia)) ⟨e,?_⟩;refine⟨.non,_,I.lset (its':=its++[u]) hH e ↥0 (r.append (.cons ru .nil)) ?_,rfl,q⟩;rw[az,cR]
 lia
def NZ:V->List V->Hp->VK->Prop:=λx vs H Q=>∃l xs y,x=.ref l/\vs=[]/\H l=some (.lst xs)/\xs[xs.length-1]?=some y/\Q y (upd H l (.lst xs.dropLast))
def KC:MtM X "list.pop" NZ:=by
 intro pins s σ H x vs v us Q I rx rv h;obtain⟨l,xs,y,rfl,rfl,hH,hy,q⟩:=h;cases rx;have hus:=rv.zero;subst hus;obtain⟨z,its,n,r,hl,e⟩:=I.lstM hH;obtain⟨u,hu,ru⟩:=r.get hy
 have hy':its.toArray[its.toArray.size-1]?=some u:=by
  show its.toArray[its.length-1]?=some u;rw[<- vU,<- hl];exact hu
 refine dU F.slot_list_pop ⟨_,e,rfl⟩ F.entry_list_pop (F.args_list_pop_1 _) (MeetsSeq.list_pop_last l its.toArray n u hy' (by rw[aB];lia)) ⟨e,?_⟩;refine⟨y,_,I.lset (its':=its.dropLast) hH e ?_ r.dropLast ?_,ru,q⟩
 .show its.toArray.eraseIdxIfInBounds (its.toArray.size-1)=its.dropLast.toArray;rw[aB,ox,xv]
 .rw[lb]
  lia
def JP:V->List V->Hp->VK->Prop:=λx vs H Q=>∃l xs i k y,x=.ref l/\vs=[.int i]/\H l=some (.lst xs)/\-(2^63)<=i/\i<2^63/\seqIndex? i xs.length=some k/\xs[k]?=some y/\Q y (upd H l (.lst (xs.eraseIdx k)))
def Dh:MtM X "list.pop" JP:=by
 intro pins s σ H x vs v us Q I rx rv h;obtain⟨l,xs,i,k,y,rfl,rfl,hH,h1,h2,hk,hy,q⟩:=h;cases rx;obtain⟨u,rfl,ru⟩:=rv.one;obtain⟨t,rfl⟩:=ru;obtain⟨z,its,n,r,hl,e⟩:=I.lstM hH;obtain⟨w,hw,rw'⟩:=r.get hy
 refine dU F.slot_list_pop ⟨_,e,rfl⟩ F.entry_list_pop (F.args_list_pop_2 _ _)
  (MeetsSeq.list_pop_at l its.toArray n i t k w (fitsIndex_both h1 h2) (by rw[aB,<- hl];exact hk) (by rw[<- vU];exact hw) (by rw[aB];lia)) ⟨e,?_⟩
 refine⟨y,_,I.lset (its':=its.eraseIdx k) hH e ?_ (r.eraseIdx k) ?_,rw',q⟩
 .show its.toArray.eraseIdxIfInBounds k=(its.eraseIdx k).toArray;rw[ox]
 .have:=rj xs k
  lia
end
section
variable{prog:aQ}{w:bD}{A:bE}{E:ai->au->Prop}{s:au}
end
section
variable{X:Cx}
end
end L2
namespace Att
open PySem PySem.W PySem.Calls PyProof.Rows
def og:∀(ns:List Int)(vs:List ai),WellAll P h vs (ns.map WData.int)->ED vs ns:=by
 intro ns
 induction ns with
 |nil =>
  intro vs w;rw[dq]at w;cases w
  exact .nil
 |cons n ns ih =>
  intro vs w;rw[aw]at w
  cases w with
  |cons a b =>
   cases a;exact .cons _ _ (ih _ b)
def zG{l:OpenLaw}{n:Nat}(hn:l.most=some n){P:Params}{h:bW}{args:List WData}{vals:List ai}
 (hpre:l.row.toRowW.claim.pre args=true)(hwl:WellAll P h vals args) :
 ∃a vs ns,vals=[cm a]/\args=[WData.list (ns.map WData.int)]/\h.get? a=some {cls:=.type "list",data:=.seq vs.toArray}/\ED vs ns/\ns.length<=n:=by
 have hsh:WShape.hasAll [] args [.list .int]=true:=(pre_splitW hpre).1;have hc:l.pre.holds [] {args:=args}=true:=(pre_splitW hpre).2;obtain⟨d,r,rfl,h1,h2⟩:=hasAllW_cons hsh;obtain rfl:=hasAllW_nil h2;obtain⟨xs,rfl,h3⟩:=hasW_list h1;obtain⟨ns,rfl⟩:=items_int h3
 have hlen:ns.length<=n:=by
  unfold OpenLaw.pre at hc
  have h4:(WTm.not (.lt (.lit (.int (n:Int))) (.len (.arg 0)))).holds [] {args:=[.list (ns.map .int)]}=true:=by
   have h4:=(holds_andW hc).1;rw[hn]at h4;exact h4
  have h5:=condW_of h4 (w_not (w_lt w_lit (w_len_list (w_arg rfl))));rw[ak]at h5;refine Nat.le_of_not_lt λq=>?_;have q':(n:Int)<((ns.length:Nat):Int):=by lia
  first
   |(rw[decide_eq_true q']at h5;exact absurd h5 ⇑0)
   |(simp at h5;lia)
 cases hwl with
 |cons w1 w2 =>
  cases w2
  cases w1 with
  |list ho hall=>exact⟨_,_,ns,rfl,rfl,ho,og ns _ hall,hlen⟩
def zI(l:OpenLaw)(args:List WData):l.row.toRowW.claim.post args (.bool true) args=true :=
 postW_of (r:=l.row.toRowW) (X:=(true==true))
  (show WShape.has [] (.bool true) .bool=true by first|rfl|decide|simp[WShape.has,WShape.arms,WShape.armsAll])
  (show(WTm.eq .res (.lit (.bool true))).value [] {args:=args,res:=some (.bool true),after:=args}=some (.bool (true==true))from w_eq_bool (w_res rfl) w_lit) rfl
def attach_call{l:OpenLaw}{n:Nat}{q:aQ}{loose:List Str}{XP:(Str->Option ai)->bW->Prop}{YP:bD->bW->Prop}{d:DefRec}
 (hn:l.most=some n)(hdf:d.params.defaults=[])
 (call:∀(w:bD)(s₀ s₁:au)(mg mb:Str->Option ai)(fa:av)(o:Obj)(pm cd doc:ai)(a:av)(vs:List ai)(ns:List Int),
   Ground q loose [] XP w s₀ mg mb s₁.heap->YP w s₁.heap ->
   s₁.heap.get? fa=some o->o.data=.func (docDef d.name d.params d.body d.scope pm cd doc)->s₁.heap.CodeRec cd d.name->mg d.name=some (.ref fa) ->
   s₁.heap.get? a=some {cls:=.type "list",data:=.seq vs.toArray}->ED vs ns->ns.length<=n->s₁.gens=#[] ->
   codeAny (model l.prog w) callerA (.call (.ref fa) ⟨[.ref a],[]⟩) (λr s'=>r=.ok (.ret (.bool true))/\OldK s₁.heap s'.heap/\s'.os=s₁.os/\jU s'.gens) s₁) :
 WalkO q loose XP YP l.row.toRowW d [] (λf vs=>PySem.call f vs):=by
 intro w s₀ s₁ mg mb G Y fa o pm cd doc dV kV ho hd hcd hD hmg hg args vals as hpre hlay hrd hwl hlo;obtain rfl:dV=.none:=Dflts.none hD hdf;obtain rfl:kV=.none:=Dflts.noKw hD;obtain⟨a,vs,ns,rfl,rfl,hobj,hints,hlen⟩:=zG hn hpre hwl;refine enter_call (qv (call w s₀ s₁ mg mb fa o pm cd doc a vs ns G Y ho (fd_plain hd) hcd hmg hobj hints hlen hg) λr s' hq=>?_);obtain⟨rfl,h2,h3,h4⟩:=hq;exact⟨.inl ⟨.bool true,.bool true,[],rfl,λ_=>rfl,.bool true,zI l _,λ_=>⟨List.Pairwise.nil,λ_ hm=>(nomatch hm)⟩⟩,h2,h3,h4⟩
section
variable{prog:aQ}{w:bD}{A:bE}{E:ai->au->Prop}{s:au}{K:Frag}
end
end Att
namespace L2
open PySem PySem.Spec PyProof.Rows
def qH:∀{vs:List ai}{ns:List Int},ED vs ns->Vals (ns.map V.int) vs
 |_,_,.nil=>.nil
 |_,_,.cons n t h=>.cons ⟨t,rfl⟩ (qH h)
end L2
namespace L2
open PySem PySem.Spec PyProof.Rows
end L2
namespace L2
open PySem PySem.Spec PyProof.Rows
def fH(s:bG):ui:=match s with
 |.FunctionDef _ a _ _ _ _ _ _ _ _=>a
 |_=>{posonlyargs:=[],args:=[],vararg:=none,kwonlyargs:=[],kw_defaults:=[],kwarg:=none,defaults:=[]}
def dt(s:bG):List bG:=match s with
 |.FunctionDef _ _ b _ _ _ _ _ _ _=>b
 |_=>[]
def aW(s:bG):dQ:=match s with
 |.FunctionDef _ _ _ _ _ _ sc _ _ _=>sc
 |_=>{kind:=.function,names:=[],isGenerator:=false,isCoroutine:=false}
abbrev CX0:CXT:=λ_ _ _ _ _ _=>False
abbrev E0:XK:=λ_ _ _=>False
def MQ:Passes CX0 X E0:=λ_ _ _ _ _ _ _ h=>h.elim
structure Fun(K:PySem.W.Frag)(x qual:Str)(st:bG)(f:av)(fd:eH):Prop where
 ex:∃(oc:ai)(od:Option av)(dV kV doc pm:ai)(an:Option av)(cdv ct:ai)(osl:Array (Option ai)),
  fd=PySem.W.fnOf x qual (fH st) (dt st) (aW st) dV kV doc pm an cdv ct/\K.lookup f=some ⟨oc,od,.func fd,osl⟩/\PySem.W.codeIn K cdv qual=true
 kp:PySem.W.keepIn K (.ref f)=true
section
variable{P:aQ}{w:bD}{K:PySem.W.Frag}{mg:Str->Option ai}{base:bW}
def xm{x qual:Str}{st:bG}{f:av}{oc:ai}{od an:Option av}{osl:Array (Option ai)}{dV kV doc pm cdv ct:ai}(l:K.lookup f=some ⟨oc,od,.func (PySem.W.fnOf x qual (fH st) (dt st) (aW st) dV kV doc pm an cdv ct),osl⟩)
 (c:PySem.W.codeIn K cdv qual=true)(k:PySem.W.keepIn K (.ref f)=true):Fun K x qual st f (PySem.W.fnOf x qual (fH st) (dt st) (aW st) dV kV doc pm an cdv ct):=⟨⟨oc,od,dV,kV,doc,pm,an,cdv,ct,osl,rfl,l,c⟩,k⟩
end
section
variable{X:Cx}
end
def sS{A B:Prop}(h:B):if false=true then A else B:=by
 rw[if_neg aq];exact h
def qm{A B:Prop}(h:A):if true=true then A else B:=by
 rw[if_pos rfl];exact h
def fD(H H':Hp):Prop:=∀b o,H b=some o->H' b=some o
def fD.refl(H:Hp):fD H H:=λ_ _ h=>h
end L2
end
section
namespace L2
open PySem PySem.Spec PyProof.Rows
section
variable{κ:Type}[DecidableEq κ]
def lx(kvs:List (κ×V))(k:κ):Option V:=(kvs.find? λkv=>decide (kv.1=k)).map (·.2)
def putK(kvs:List (κ×V))(k:κ)(v:V):List (κ×V) :=
 if(kvs.any λkv=>decide (kv.1=k))=true then kvs.map (λkv=>if kv.1=k then(kv.1,v)else kv)else kvs++[(k,v)]
def lW{p:κ×V}{r:List (κ×V)}{k:κ}(e:p.1=k):lx (p::r) k=some p.2:=by simp[lx,fP,e]
def jV{p:κ×V}{r:List (κ×V)}{k:κ}(e:¬p.1=k):lx (p::r) k=lx r k:=by simp[lx,fP,e]
def uD(k:κ):∀kvs:List (κ×V),(kvs.any λkv=>decide (kv.1=k))=(lx kvs k).isSome
 |[]=>rfl
 |p::r=>by
  rw[dH];by_cases e:p.1=k
  .simp only[lW e,decide_eq_true e,nY,Option.isSome_some]
  .rw[jV e,decide_eq_false e,mL];exact uD k r
def vw(kvs:List (κ×V))(k:κ)(v:V):(putK kvs k v).length<=kvs.length+1:=by
 unfold putK;split
 .rw[ak];lia
 .rw[az,ag,aN];lia
def Cp{kvs:List (κ×V)}{k:κ}(v:V)(h:lx kvs k=none):putK kvs k v=kvs++[(k,v)]:=by
 unfold putK;rw[uD,h];exact if_neg ⇑0
def gx.getD{o:Option V}{u:Option ai}{d:V}{d':ai}(r:gx o u)(rd:RelV d d'):RelV (o.getD d) (u.getD d'):=by
 cases o with
 |none=>cases u with
  |none=>exact rd
  |some _=>exact(show False from r).elim
 |some _=>cases u with
  |none=>exact(show False from r).elim
  |some _=>exact r
def KV.val{kvs:List (κ×V)}{vs:List (κ×ai)}(r:KV kvs vs)(k:κ):gx (lx kvs k) (valueAt vs k):=by
 unfold KV at r
 induction r with
 |nil=>exact fQ
 | @cons p q ps qs h t ih =>
   obtain⟨h1,h2⟩:=h;by_cases e:p.1=k
   .have e':q.1=k:=h1.symm.trans e;have b:valueAt (q::qs) k=some q.2:=by simp[valueAt,fP,e']
    rw[lW e,b];exact h2
   .have e':¬q.1=k:=λz=>e (h1.trans z);have b:valueAt (q::qs) k=valueAt qs k:=by simp[valueAt,fP,e']
    rw[jV e,b];exact ih
def KV.any{kvs:List (κ×V)}{vs:List (κ×ai)}(r:KV kvs vs)(k:κ):(kvs.any λkv=>decide (kv.1=k))=vs.any λkv=>decide (kv.1=k):=by
 unfold KV at r
 induction r with
 |nil=>rfl
 |cons h t ih=>rw[dH,dH,ih,h.1]
def KV.repl{kvs:List (κ×V)}{vs:List (κ×ai)}(r:KV kvs vs)(k:κ){y:V}{u:ai}(ry:RelV y u) :
 KV (kvs.map λkv=>if kv.1=k then(kv.1,y)else kv) (vs.map λkv=>if kv.1=k then(kv.1,u)else kv):=by
 unfold KV at r |-
 induction r with
 |nil=>exact .nil
 | @cons p q ps qs h t ih =>
   rw[aw,aw];refine .cons ?_ ih;obtain⟨h1,h2⟩:=h;by_cases e:p.1=k
   .rw[if_pos e,if_pos (h1.symm.trans e)];exact⟨h1,ry⟩
   .rw[if_neg e,if_neg (λz=>e (h1.trans z))];exact⟨h1,h2⟩
def KV.put{kvs:List (κ×V)}{vs:List (κ×ai)}(r:KV kvs vs)(k:κ){y:V}{u:ai}(ry:RelV y u):KV (putK kvs k y) (stored vs k u):=by
 unfold putK stored;rw[r.any k];by_cases e:(vs.any λkv=>decide (kv.1=k))=true
 .rw[if_pos e,if_pos e];exact r.repl k ry
 .rw[if_neg e,if_neg e];exact Paired.snoc r ⟨rfl,ry⟩
end
def Dr{P:aQ}{w:bD}{k:Key}{u:ai}(r:RelV (kV k) u):(dC P w).is k u=true:=by
 cases k with
 |inl i=>obtain⟨t,e⟩:=(show ∃t,u=om i t from r);subst e;exact vq P w i t
 |inr x=>obtain⟨t,e⟩:=(show ∃t,u=oj x t from r);subst e;exact vo P w x t
def rq{P:aQ}{w:bD}:∀{ks:List Key}{us:List ai},Vals (ks.map kV) us->ItemsAre (dC P w) ks us
 |[],_,r=>by rw[dq]at r;cases r;exact .nil
 |k::ks,_,r=>by
  rw[aw]at r
  cases r with
  |cons h t=>exact .cons (Dr h) (rq t)
abbrev KT(H:Hp):List (List Key×V)->List (List Key×av×ai)->Prop:=Paired λp q=>p.1=q.1/\H q.2.1=some (.tup (p.1.map kV))/\RelV p.2 q.2.2
def KT.val{H:Hp}{kvs:List (List Key×V)}{xs:List (List Key×av×ai)}(r:KT H kvs xs)(k:List Key):gx (lx kvs k) ((atKey xs k).map (·.2)):=by
 induction r with
 |nil=>exact fQ
 | @cons p q ps qs h t ih =>
   obtain⟨h1,_,h2⟩:=h;by_cases e:p.1=k
   .have e':q.1=k:=h1.symm.trans e;have b:atKey (q::qs) k=some q.2:=by simp[atKey,fP,e']
    rw[lW e,b];exact h2
   .have e':¬q.1=k:=λz=>e (h1.trans z);have b:atKey (q::qs) k=atKey qs k:=by simp[atKey,fP,e']
    rw[jV e,b];exact ih
section
variable{P:aQ}{w:bD}{H:Hp}{h:bW}{a:av}
def Ih{u:HO}(ok:HOk P w H h)(e:Rd H a u):eL P w H h a u:=e.ok ok
def DT{kvs:List (Key×V)}(ok:HOk P w H h)(e:Rd H a (.dK kvs)):kvs.length<=sizeLine/\(a==sysModules)=false/\∃vs,KV kvs vs/\h.DictOf (dC P w) a vs :=
 show eL P w H h a (.dK kvs)from Ih ok e
def Nr{kvs:List (Key×V)}(ok:HOk P w H h)(e:H a=some (.dK kvs)):kvs.length<=sizeLine/\(a==sysModules)=false/\∃vs,KV kvs vs/\h.DictOf (dC P w) a vs:=DT ok (.inl e)
def Dq{ks:List Key}(ok:HOk P w H h)(e:H a=some (.tup (ks.map kV))):(tupleKind (dC P w)).is h ks a:=by
 obtain⟨_,its,r,o,h1,h2,n,h3⟩:=(show eL P w H h a (.tup (ks.map kV))from ok a _ e);exact⟨o,its.toArray,n,h1,h2,h3,by simpa using rq r⟩
def Iz{kvs:List (List Key×V)}(ok:HOk P w H h)(e:Rd H a (.dT kvs)):kvs.length<=sizeLine/\(a==sysModules)=false /\
 ∃xs,KT H kvs xs/\h.DictOfH (tupleKind (dC P w)) a xs:=by
 obtain⟨z,y,xs,r,o,es,ep,h1,h2,h3,h4,h5⟩:=(show eL P w H h a (.dT kvs)from Ih ok e);refine⟨z,y,xs,r,o,es,ep,h1,h2,h3,h4,λx hx=>?_,h5⟩
 have all:∀{l:List (List Key×V)}{m:List (List Key×av×ai)},KT H l m->∀x∈m,(tupleKind (dC P w)).is h x.1 x.2.1:=by
  intro l m q
  induction q with
  |nil=>intro x hx;exact nomatch hx
  | @cons p q ps qs hq t ih =>
    intro x hx;rcases aA.mp hx with e|hx
    .subst e;exact Dq ok (by rw[<- hq.1];exact hq.2.1)
    .exact ih x hx
 exact all r x hx
end
def DGet(H:Hp)(a:av)(y:V)(r:Option V):Prop :=
 (∃kvs k,Rd H a (.dK kvs)/\y=kV k/\r=lx kvs k)\/∃kvs k b,Rd H a (.dT kvs)/\y=.ref b/\H b=some (.tup (k.map kV))/\r=lx kvs k
section
variable{X:Cx}{pins:List (av×Obj)}{σ:St}{H:Hp}{s:au}{a:av}{y v:V}{u r:ai}{o:Option V}{A:bE}{E:ai->au->Prop}
def Inv.big(I:Inv X pins σ H s):sysModules<s.heap.objs.size:=by
 have h:mainGlobals<s.heap.objs.size:=(I.mod.glob.keeps I.bk).lt;exact Nat.lt_trans ⇑0 h
def Hm{h':bW}{t':Nat}{ob:HO}(I:Inv X pins σ H s)(mu:Mut (H a))(hs:jT a s.heap h')(he:∃q,h'.get? a=some q)(new:eL X.prog X.w (upd H a ob) h' a ob) :
 Inv X pins σ (upd H a ob) {s with heap:=h',toks:=t'} :=
 I.write (x:=a) (e:=a) mu (.inl rfl) (λb q hb z=>(hs.2 b hb).trans z) he new
def Ll{P:aQ}{w:bD}{H':Hp}{h':bW}{kvs:List (Key×V)}{vs:List (Key×ai)}(z:kvs.length<=sizeLine)(hd:(a==sysModules)=false)(rel:KV kvs vs)(dd:h'.DictOf (dC P w) a vs) :
 eL P w H' h' a (.dK kvs):=⟨z,hd,vs,rel,dd⟩
end
section
variable{X:Cx}{pins:List (av×Obj)}{σ:St}{H:Hp}{s:au}{a:av}{kvs:List (Key×V)}{k:Key}{u:ai}{A:bE}{E:ai->au->Prop}
end
section
variable{X:Cx}{o i e value:aE}{pos pos' tpos:Pos}{td ty tv:TE}
end
def DU{P:aQ}{w:bD}{H:Hp}(h:bW)(hb:sysModules<h.objs.size):eL P w H (h.push {cls:=.type "dict",data:=.dict #[]}) h.objs.size (.dK []) :=
 ⟨bP _,beq_eq_false_iff_ne.mpr (Ne.symm (aU hb)),[],.nil,Heap.DictOf.new h⟩
section
variable{X:Cx}{pos:Pos}
end
def sj:List (TE×TE)->St->Hp->(List (V×V)->Hp->Prop)->Prop
 |[],_,H,Q=>Q [] H
 |(tk,tv)::r,σ,H,Q=>tk σ H λx H1=>tv σ H1 λy H2=>sj r σ H2 λps H3=>Q ((x,y)::ps) H3
abbrev VV:List (V×V)->List (ai×ai)->Prop:=Paired λp q=>RelV p.1 q.1/\RelV p.2 q.2
def PPs(X:Cx)(pos:Pos)(keys:List (Option aE))(values:List aE)(trs:List (TE×TE)):Prop :=
 ∀(pins:List (av×Obj))(s:au)(σ:St)(H:Hp)(Q:List (V×V)->Hp->Prop),Inv X pins σ H s->sj trs σ H Q ->
  wpAny (model X.prog X.w) X.A (evalPairs (pairTrees keys values X.env pos)) (λvs s'=>∃ps H',Inv X pins σ H' s'/\VV ps vs/\Q ps H') X.xe s
def yt{X:Cx}{pos:Pos}:PPs X pos [] [] []:=λpins s σ H Q I h=>pairTrees_nil_walk ⟨[],H,I,.nil,h⟩
def uV{X:Cx}{pos:Pos}{k v:aE}{ks:List (Option aE)}{vs:List aE}{tk tv:TE}{trs:List (TE×TE)}(hk:PE X k tk)(hv:PE X v tv)(hr:PPs X pos ks vs trs) :
 PPs X pos (some k::ks) (v::vs) ((tk,tv)::trs):=λpins s σ H Q I h =>
 pairTrees_cons_walk (thn (hk pins s σ H _ I h) λu s1⟨x,H1,I1,rx,q1⟩=>thn (hv pins s1 σ H1 _ I1 q1) λw2 s2⟨y,H2,I2,ry,q2⟩ =>
  thn (hr pins s2 σ H2 _ I2 q2) λws s3⟨ps,H3,I3,rel,q3⟩=>⟨(x,y)::ps,H3,I3,.cons ⟨rx,ry⟩ rel,q3⟩)
def jw(kvs more:List (Key×V)):List (Key×V):=more.foldl (λacc kv=>putK acc kv.1 kv.2) kvs
def KV.merge:∀{more:List (Key×V)}{rs:List (Key×ai)}{kvs:List (Key×V)}{vs:List (Key×ai)},KV more rs->KV kvs vs->KV (jw kvs more) (merged vs rs):=by
 intro more rs kvs vs r;unfold KV at r
 induction r generalizing kvs vs with
 |nil=>intro q;exact q
 | @cons p q ps qs h t ih =>
   intro r0
   have e:KV (putK kvs p.1 p.2) (stored vs q.1 q.2):=by
    have:=r0.put p.1 h.2;rw[<- h.1];exact this
   exact ih e
def kT:∀(more kvs:List (Key×V)),(jw kvs more).length<=kvs.length+more.length
 |[],kvs=>by show kvs.length<=kvs.length+0;lia
 |p::r,kvs=>by
  have h1:=kT r (putK kvs p.1 p.2);have h2:=vw kvs p.1 p.2;show(jw (putK kvs p.1 p.2) r).length<=_;rw[ag];lia
def pV{P:aQ}{w:bD}:∀{kvs:List (Key×V)}{ws:List (ai×ai)},VV (kvs.map λkv=>(kV kv.1,kv.2)) ws->∃rs,Carries (dC P w) ws rs/\KV kvs rs
 |[],_,r=>by rw[dq]at r;cases r;exact⟨[],fQ,.nil⟩
 |p::kvs,_,r=>by
  rw[aw]at r
  cases r with
  | @cons a b as bs h t =>
    obtain⟨rs,c,q⟩:=pV (P:=P) (w:=w) t;obtain⟨b1,b2⟩:=b;exact⟨(p.1,b2)::rs,⟨Dr h.1,rfl,c⟩,.cons ⟨rfl,h.2⟩ q⟩
def Mr(trs:List (TE×TE)):TE:=λσ H Q=>∀p,H p=none->sj trs σ (upd H p (.dK [])) λps H2=>H2 p=some (.dK [])/\∃kvs:List (Key×V),ps=kvs.map (λkv=>(kV kv.1,kv.2))/\kvs.length<=15/\Q (.ref p) (upd H2 p (.dK (jw [] kvs)))
def yv{X:Cx}{pos:Pos}{keys:List (Option aE)}{values:List aE}{trs:List (TE×TE)}(h:PPs X pos keys values trs)(hall:keys.all (·.isSome)=true)(hl:keys.length=values.length)(h0:keys≠[])
 (h15:keys.length<=15):PE X (.Dict keys values pos) (Mr trs):=by
 intro pins s σ H Q I q;have hn:=I.hok.fresh (aD s.heap.objs.size);have I1:=I.laid (a:=s.heap.objs.size) (o:=.dK []) (h':=s.heap.push {cls:=.type "dict",data:=.dict #[]}) (t':=s.toks) (λ_ _ q=>ax _ q) (aD _) (DU s.heap I.big);refine wpAny_Dict_walk (knd:=dC X.prog X.w) hall hl h0 h15 (thn (h pins _ σ _ _ I1 (q _ hn)) λws s2⟨ps,H2,I2,rel,e,kvs,ep,lk,q2⟩=>?_);subst ep;obtain⟨rs,c,rk⟩:=pV (P:=X.prog) (w:=X.w) rel;obtain⟨z,hd,vs0,r0,dd⟩:=Nr I2.hok e;cases r0;refine⟨rs,c,dd,λh' dd' hs=>⟨.ref s.heap.objs.size,_,?_,rfl,q2⟩⟩
 have hz:(jw [] kvs).length<=sizeLine:=by
  have h1:=kT kvs [];rw[aN]at h1;rw[uj];lia
 have he:∃q,h'.get? s.heap.objs.size=some q:=let⟨q,_,_,hq,_⟩:=dd';⟨q,hq⟩
 exact Hm I2 (by rw[e];exact fQ) hs he (Ll hz hd (rk.merge .nil) dd')
structure M2(X:Cx)(o:aE)(m:Str)(apos:Pos)(e f:aE)(cpos:Pos):Prop where
 base:attributeBase o m X.env (eval o X.env)=eval o X.env
 few:((backTo cpos (starEach [e,f] X.env)).all (λx=>!x.1)&&(backToKw cpos (keywordEach [] X.env)).all (λx=>x.1.isSome)
  && decide (([e,f]:List aE).length+([]:List dR).length+(if([]:List dR).isEmpty then 0 else 1)<30))=true
 line:(apos.endLine==cpos.line)=true
 trees:backTo cpos (starEach [e,f] X.env)=[(false,eval e X.env),(false,eval f X.env)]
def IsD(H:Hp)(a:av):Prop:=(∃kvs,Rd H a (.dK kvs))\/∃kvs,Rd H a (.dT kvs)
def Dw{X:Cx}{pins:List (av×Obj)}{σ:St}{H:Hp}{s:au}{a:av}(I:Inv X pins σ H s)(d:IsD H a) :
 s.TypeIs (.ref a) "dict"/\(∀b,cm a=.ref b->∃ob,s.heap.get? b=some ob/\ob.dict=none)/\(a==sysModules)=false:=by
 rcases d with⟨kvs,e⟩|⟨kvs,e⟩
 .obtain⟨_,hd,vs,_,dd⟩:=DT I.hok e;refine⟨dd.typeIs,λb q=>?_,hd⟩;cases q;obtain⟨ob,_,_,h1,h2,_⟩:=dd;exact⟨ob,h1,h2.2.1⟩
 .obtain⟨_,hd,xs,_,dd⟩:=Iz I.hok e;refine⟨dd.typeIs,λb q=>?_,hd⟩;cases q;obtain⟨ob,_,_,h1,h2,_⟩:=dd;exact⟨ob,h1,h2.2.1⟩
section
variable{X:Cx}{pins:List (av×Obj)}{σ:St}{H:Hp}{s:au}{a:av}{y d:V}{u r:ai}{o:Option V}{A:bE}{E:ai->au->Prop}
def Ln{Q:ai->au->Prop}(hu:A.units+1<cLine)(I:Inv X pins σ H s)(g:DGet H a y o)(ry:RelV y u)(rd:RelV d r)(h:∀w' s',Inv X pins σ H s'->RelV (o.getD d) w'->Q w' s') :
 wpAny (model X.prog X.w) A (call (.builtin "dict.get") [.ref a,u,r]) Q E s:=by
 rcases g with⟨kvs,k,e,ey,l⟩|⟨kvs,k,b,e,ey,eb,l⟩
 .subst ey;obtain⟨z,hd,vs,rel,dd⟩:=DT I.hok e;refine call_meetsIn PySem.F.slot_dict_get dd.typeIs PySem.F.entry_dict_get (PySem.F.args_dict_get_3 _ _ _) (meets_dict_get_default (dC X.prog X.w) a (Dr ry) hd r) ⟨_,dd.mapOf,h _ _ (I.tok _) ?_⟩;rw[l];exact(rel.val k).getD rd
 .subst ey;cases(show u=cm b from ry);obtain⟨z,hd,xs,rel,dd⟩:=Iz I.hok e;refine call_meetsIn PySem.F.slot_dict_get dd.typeIs PySem.F.entry_dict_get (PySem.F.args_dict_get_3 _ _ _) (meetsH_dict_get_default (tupleKind (dC X.prog X.w)) a b hd r) ⟨tupleKind_room_in1 hu,k,xs,Dq I.hok eb,dd,h _ _ (I.tok _) ?_⟩;rw[l];exact(rel.val k).getD rd
end
def Ju(td ty tx:TE):TE:=λσ H Q=>td σ H λx H1=>∃a,x=.ref a/\IsD H1 a/\ty σ H1 λy H2=>tx σ H2 λz H3=>∃o,DGet H3 a y o/\Q (o.getD z) H3
section
variable{X:Cx}{o e f:aE}{apos cpos:Pos}{td ty tx:TE}
def CH(hu:X.A.units+1<cLine)(ho:PE X o td)(he:PE X e ty)(hf:PE X f tx)(m:M2 X o "get" apos e f cpos):PE X (.Call (.Attribute o "get" apos) [e,f] [] cpos) (Ju td ty tx):=by
 intro pins s σ H Q I h;refine wpAny_Call_method m.base m.few m.line PySem.F.plainAttrs_dict PySem.F.slot_dict_get PySem.F.type_dict_get (thn (ho pins s σ H _ I h) λu s1⟨x,H1,I1,rx,a,ex,d,q1⟩=>?_);subst ex;obtain rfl:u=cm a:=rx;obtain⟨t1,t2,_⟩:=Dw I1 d;refine⟨t1,t2,?_⟩;rw[m.trees]
 refine jQ rfl (kP (mJ (thn (he pins s1 σ H1 _ I1 q1) λiv s2⟨y,H2,I2,ry,q2⟩ =>
  mJ (thn (hf pins s2 σ H2 _ I2 q2) λfv s3⟨z,H3,I3,rz,ov,g,q3⟩=>AI ?_))))
 exact Ln hu I3 g ry rz λw' s4 I4 rw'=>⟨_,H3,I4,rw',q3⟩
end
section
variable{X:Cx}{pins:List (av×Obj)}{σ:St}{H:Hp}{s:au}{a:av}{kvs:List (Key×V)}{A:bE}{E:ai->au->Prop}
end
section
variable{X:Cx}{pins:List (av×Obj)}{σ:St}{H:Hp}{s:au}{a:av}{y:V}{u:ai}{A:bE}{E:ai->au->Prop}
end
abbrev TU:=St->Hp->(St->Hp->Prop)->Prop
def PU(X:Cx)(m:Sem Unit)(t:TU):Prop :=
 ∀(pins:List (av×Obj))(s:au)(σ:St)(H:Hp)(Q:St->Hp->Prop),Inv X pins σ H s->t σ H Q ->
  wpAny (model X.prog X.w) X.A m (λ_ s'=>∃σ' H',Inv X pins σ' H' s'/\Q σ' H') X.xe s
def PTs(X:Cx)(ifs:List aE)(t:TT):Prop :=
 ∀(pins:List (av×Obj))(s:au)(σ:St)(H:Hp)(Q:Bool->Hp->Prop),Inv X pins σ H s->t σ H Q ->
  wpAny (model X.prog X.w) X.A (forIn ifs true λc r=>if r=true then do let ok <- isTrue c X.env (eval c X.env);pure (jm ok)else pure (jm r)) (TP X pins σ Q) X.xe s
section
variable{X:Cx}
def Ga:PTs X [] (λ_ H Q=>Q true H):=λpins s σ H Q I h=>wpAny_tests_nil ⟨H,I,h⟩
def FZ(hc:PT X c t):PTs X [c] t:=λpins s σ H Q I h=>wpAny_tests_one (hc pins s σ H Q I h)
def tLp(J:It)(g:TG)(tt:TT)(tb:TU):TU:=λσ H Q=>∃W:Nat->Nat->St->Hp->Prop,(∃m,W 0 m σ H)/\∀i m σ H,W i m σ H ->
 (J.stop i H/\Q σ H)\/(J.go i H/\∀x H',J.yld i H x H'->g x σ H' λσ2 H2=>tt σ2 H2 λb H3 =>
   if b=true then tb σ2 H3 λσ4 H4=>∃m',m'<m/\W (i+1) m' σ4 H4 else ∃m',m'<m/\W (i+1) m' σ2 H3)
def ID
 {R:LW->au->Prop}(hx:∀x s',X.xe x s'->notedBy (model X.prog X.w) X.A X.env (λx s'=>R (.error x) s') x s')(hc:X.calm=true)
 (hq:(Code.compLoop e d (.ref it) acc X.env).quiet=true)
 (hden:(model X.prog X.w).den (.compLoop e d (.ref it) acc X.env)=(compTurn e d (.ref it) acc X.env).onRaise (λx=>do noteFrame x X.env;theTreesLotGoes x))
 (hund:X.A.under (.compLoop e d (.ref it) acc X.env)=X.A)
 (hturn:compTurn e d (.ref it) acc X.env=(do
   standAt ip
   match <- pyNext (.ref it)with
   |none=>pure (.done .next)
   |some v =>
    letOwnedTupleGo tg (.ref it) v
    assign tg X.env v
    let mut ok:=true
    for c in ifs do
     if ok then ok <- isTrue c X.env (eval c X.env)
    if ok then body
    again (.compLoop e d (.ref it) acc X.env)))
 (T:Turn X.prog X.w X.K tg J fp it tn) (hg:PG X tg g) (ht:PTs X ifs tt) (hb:PU X body tb)
 {pins:List (av×Obj)} {s:au} {σ:St} {H:Hp} {Q:St->Hp->Prop} (I:Inv X pins σ H s) (st:tn 0 s.heap) (f:∀b∈fp,lH X pins H b) (h:tLp J g tt tb σ H Q)
 (hR:∀s' σ' H',Inv X pins σ' H' s'->Q σ' H'->R (.ok .next) s'):codeAny (model X.prog X.w) X.A (.compLoop e d (.ref it) acc X.env) R s:=by
 obtain⟨W,⟨m0,w0⟩,turn⟩:=h;have stat:∀{H':Hp},(∀b∈fp,H' b=none)->∀b∈fp,lH X pins H' b:=λhn b hb=>⟨hn b hb,(f b hb).2⟩;refine codeAny_loop hq (λn s'=>∃i σ' H',Inv X pins σ' H' s'/\tn i s'.heap/\(∀b∈fp,H' b=none)/\W i n σ' H') ?_ m0 ⟨0,σ,H,I,st,λb hb=>(f b hb).1,w0⟩;rintro n s3 ⟨i,σ3,H3,I3,st3,fr3,w3⟩;rw[hden,hund,hturn];refine wpAny_noted ?_;have cut:∀{α:Type}{m:Sem α}{Q:α->au->Prop}{s:au},wpAny (model X.prog X.w) X.A m Q X.xe s->wpAny (model X.prog X.w) X.A m Q (notedBy (model X.prog X.w) X.A X.env λx s'=>R (.error x) s') s:=λz=>cw z (λ_ _ y=>y) hx;refine aI (kj (aI ?_));rcases turn i n σ3 H3 w3 with⟨stop,qn⟩|⟨go,step⟩
 .refine cut (thn (T.done X rfl rfl rfl hc i pins s3 σ3 H3 X.xe I3 (stat fr3) st3 stop) λr s4⟨hr,I4⟩=>?_);subst hr;exact bh (hR s4 σ3 H3 I4 qn)
 .refine cut (thn (T.item X rfl rfl rfl hc i pins s3 σ3 H3 X.xe I3 (stat fr3) st3 go) λr s4⟨u,hr,h4⟩=>?_);subst hr;refine aI (cut (thn h4 λ_ s5⟨x,H5,I5,r5,y5,st5,fr5⟩=>?_));have I5':=I5.pinned (stat fr5) (T.obj _ _ st5);refine aI (cut (thn (hg _ s5 σ3 H5 x u _ I5' r5 (step x H5 y5)) λ_ s6⟨σ6,H6,I6,q6⟩=>?_))
  have again:∀{σ7:St}{H7:Hp}{s7:au},Inv X (pins++pF fp s5.heap) σ7 H7 s7->(∃m',m'<n/\W (i+1) m' σ7 H7)->∃m,m<n/\∃i σ' H',Inv X pins σ' H' s7/\tn i s7.heap/\(∀b∈fp,H' b=none)/\W i m σ' H':=λ{σ7 H7 s7}I7 n7=>by
   obtain⟨m',hm,w7⟩:=n7;refine⟨m',hm,i+1,σ7,H7,I7.unpinned,T.keep _ _ _ st5 λb hb o e=>(I7.pin (b,o) (aP _ (aP _ (jx hb e)))).1,λb hb=>?_,w7⟩;obtain⟨o,e,d⟩:=T.obj _ _ st5 b hb;exact(I7.pin (b,o) (aP _ (aP _ (jx hb e)))).2.1
  refine aI (cut (thn (ht _ s6 σ6 H6 _ I6 q6) λok s7⟨H7,I7,q7⟩=>?_))
  cases ok with
  |false =>
   rw[if_neg aq]at q7
   exact bh ⟨rfl,again I7 q7⟩
  |true =>
   rw[if_pos rfl]at q7;refine aI (cut (thn (hb _ s7 σ6 H7 _ I7 q7) λ_ s8⟨σ8,H8,I8,q8⟩=>?_));exact bh ⟨rfl,again I8 q8⟩
end
def gw(env:Env):List (Str×jH)->List (Str×av)->List (Str×av)
 |[],cs=>cs
 |(n,k)::r,cs=>gw env r (if k==.free then(n,(env.cells.lookup n).getD 0)::cs else cs)
def yW:∀(names:List (Str×jH))(cs:List (Str×av)),(∀x,(x,bR)∈names->∃c,env.cells.lookup x=some c) ->
 (forIn names cs λx r=>match x with|(name,kind)=>(do
   if(kind==bR)=true then do
    let y <- cellOf env name
    pure (jm ((name,y)::r))
   else pure (jm r):Sem (ForInStep (List (Str×av)))))=(pure (gw env names cs):Sem (List (Str×av)))
 |[],cs,_=>rfl
 |(n,k)::r,cs,h=>by
  have ih:=λcs=>yW (env:=env) r cs λx hx=>h x (ao _ hx);rw[fO];by_cases hk:k=.free
  .subst hk;obtain⟨c,e⟩:=h n ay;have e2:cellOf env n=pure c:=by unfold cellOf;rw[e]
   simp only[beq_self_eq_true,if_true,e2,pure_bind,gw,e,nW];exact ih _
  .have hb:(k==bR)=false:=by simpa using hk
   simp only[hb,cK,if_false,pure_bind,gw];exact ih _
def Ea(h:∀x,(x,bR)∈scope.names->∃c,env.cells.lookup x=some c):closureFor scope env=pure (gw env scope.names []):=by
 have q:=yW (env:=env) scope.names [] h;unfold closureFor;rw[<- bind_pure (pure (gw env scope.names []):Sem _),<- q]
def tK:∀(names:List (Str×jH))(cs:List (Str×av)),(∀x,(x,bR)∈names->∃c,env.cells.lookup x=some c)->∀p∈gw env names cs,p∈cs\/env.cells.lookup p.1=some p.2
 |[],cs,_,p,hp=>.inl hp
 |(n,k)::r,cs,h,p,hp=>by
  unfold gw at hp;have ih:=tK (env:=env) r _ (λx hx=>h x (ao _ hx)) p hp;rcases ih with ih|ih
  .by_cases hk:k=.free
   .subst hk;rw[if_pos ↥0]at ih;rcases aA.mp ih with rfl|ih
    .obtain⟨c,e⟩:=h n ay;right;rw[e];rfl
    .exact .inl ih
   .rw[if_neg (by simpa using hk)]at ih;exact .inl ih
  .exact .inr ih
def tL:∀(names:List (Str×jH))(cs:List (Str×av))(x:Str),((x,bR)∈names\/∃c,(x,c)∈cs)->∃c,(x,c)∈gw env names cs
 |[],cs,x,h=>by
  rcases h with h|h
  .cases h
  .exact h
 |(n,k)::r,cs,x,h=>by
  unfold gw;refine tL (env:=env) r _ x ?_;rcases h with h|⟨c,h⟩
  .rcases aA.mp h with e|h
   .cases e;right;rw[if_pos ↥0];exact⟨_,ay⟩
   .exact .inl h
  .right;split
   .exact⟨c,ao _ h⟩
   .exact⟨c,h⟩
def iR{α:Type}:∀{l:List (Str×α)}{x:Str}{c:α},(x,c)∈l->∃d,l.lookup x=some d
 |[],_,_,h=>by cases h
 |(y,d)::r,x,c,h=>by
  rw[br]
  cases e:x==y with
  |true=>exact⟨d,rfl⟩
  |false =>
   rcases aA.mp h with q|q
   .cases q;simp at e
   .exact iR q
structure ki(X:Cx)(scope:dQ):Prop where
 kind:scope.kind=.function
 nocell:∀y∈scope.names,y.2≠.cell
 names:∀y∈scope.names,y.2=.local->scope.names.lookup y.1=some .local
 free:∀x,(x,bR)∈scope.names->X.env.kindOf x=some .cell\/X.env.kindOf x=some .free
def cxC(X:Cx)(scope:dQ)(cl:List (Str×av))(C:av)(Nc:List Str)(s:au)(H:Hp)(fp:List av):Cx :=
 {X with N:=Nc,s₀:=s,H₀:=H,env:=compEnvC scope cl C X.env,outer:=X.stack,ex:=fp,fn:=λ_=>false,pn:=[],xe:=λ_ _=>False}
def iw{scope:dQ}{env:Env}:∀(names:List (Str×jH))(x:Str),
 (names.map λ(n,k)=>if(k==bR&&env.scope.kind==.function&&env.kindOf n==some .cell)then(n,kO)else(n,k)).lookup x =
   (names.lookup x).map λk=>if(k==bR&&env.scope.kind==.function&&env.kindOf x==some .cell)then kO else k
 |[],x=>rfl
 |(n,k)::r,x=>by
  have ih:=iw (scope:=scope) (env:=env) r x;rw[aw]
  cases hx:x==n with
  |true =>
   have e:x=n:=by simpa using hx
   subst e;by_cases hc:(k==bR&&env.scope.kind==.function&&env.kindOf x==some .cell)=true
   .simp only[hc,if_true,br,beq_self_eq_true,bo]
   .simp only[hc,if_false,br,beq_self_eq_true,bo,cK]
  |false =>
   by_cases hc:(k==bR&&env.scope.kind==.function&&env.kindOf n==some .cell)=true
   .simp only[hc,if_true,br,hx];exact ih
   .simp only[hc,if_false,br,hx,cK];exact ih
def nu{scope:dQ}{env:Env}{cl:List (Str×av)}{C:av}(x:Str):(compEnvC scope cl C env).kindOf x =
 (scope.names.lookup x).map λk=>if(k==bR&&env.scope.kind==.function&&env.kindOf x==some .cell)then kO else k:=iw (scope:=scope) (env:=env) scope.names x
def qr(nc:∀y∈scope.names,y.2≠.cell)(h:(compEnvC scope cl C env).kindOf x=some .cell\/(compEnvC scope cl C env).kindOf x=some .free) :
 scope.names.lookup x=some .free:=by
 rw[nu]at h
 cases e:scope.names.lookup x with
 |none=>rw[e]at h;simp at h
 |some k =>
  rw[e]at h;have hm:=PySem.mem_of_lookup e;have:=nc _ hm;simp only[bo]at h;cases k<;>simp_all
def rA{X:Cx}{scope:dQ}{C:av}{Nc:List Str}{s:au}{h1:bW}{t1:Nat}{H:Hp}{fp:List av}{pins:List (av×Obj)}{σ:St}
 (S:ki X scope)(I:Inv X pins σ H s)(hf:∀b∈fp,lH X pins H b)(hfl:∀b∈fp,b<s.heap.objs.size)(hC:C=s.heap.objs.size)(hns:h1.Ns C λ_=>none)(hk:∀b o,s.heap.get? b=some o->h1.get? b=some o)
 (hN:∀i x,i<X.N.length->Nc[i]?=some x->Vis scope x->X.N[i]?=some x/\scope.names.lookup x=some .free)(hl:X.N.length<=Nc.length) :
 Inv (cxC X scope (gw X.env scope.names []) C Nc s H fp) [] (σ++aC (Nc.length-X.N.length) none) H {s with heap:=h1,toks:=t1}:=by
 have hcl:∀x,(x,bR)∈scope.names->∃c,X.env.cells.lookup x=some c:=λx hx=>I.ok.has x (S.free x hx)
 have hlk:∀x c,(gw X.env scope.names []).lookup x=some c->X.env.cells.lookup x=some c:=λx c e=>by
  have:=tK scope.names [] hcl _ (PySem.mem_of_lookup e);rcases this with z|z
  .cases z
  .exact z
 subst hC
 have neC:∀x c,(gw X.env scope.names []).lookup x=some c->c<s.heap.objs.size:=λx c e=>by
  obtain⟨v,z⟩:=I.cell x c (hlk x c e);exact z.lt
 refine⟨⟨I.ok.mod,S.kind,I.ok.glob,I.ok.blt,aD _,λx y c e1 e2=>I.ok.inj x y c (hlk x c e1) (hlk y c e2),λx hx=>?_,λx c z _=>absurd z aq,I.ok.hd,I.ok.frames,.inl rfl,λb hb=>⟨aU (hfl b hb),λx c e=>(hf b hb).2.2.2.2.1 x c (hlk x c e)⟩,
  I.bs,aZ I.ok.bsz I.sz,λb o e hb=>?_,λb hb hz=>?_,I.stack,I.stkFree⟩,rfl,I.bare,Un.kept hk,⟨_,hns,λi x v e1 e2 e3=>?_⟩,λx c e=>?_,I.hok.fresh (aD _),λx c e=>I.freeC x c (hlk x c e),λp hp=>absurd (show p∈([]:List (av×Obj))from hp) ↥0,I.hok.kept hk,?_⟩
 .have q:=qr (cl:=gw X.env scope.names []) (C:=s.heap.objs.size) S.nocell hx;obtain⟨c,hm⟩:=tL (env:=X.env) scope.names [] x (.inl (PySem.mem_of_lookup q));exact iR hm
 .obtain⟨_,_,_,f3,_⟩:=hf b hb;rcases f3 with z|z
  .exact I.ok.noex b o e z
  .exact absurd (aK (aJ e) (aZ I.ok.bsz z)) (cX _)
 .obtain⟨_,f1,f2,_⟩:=hf b hb;rcases aA.mp (I.stkSub b hz)with q|q
  .exact f1 q
  .exact f2 q
 .have e1:Nc[i]?=some x:=e1
  have hi:i<X.N.length:=by
   by_cases hi:i<X.N.length
   .exact hi
   .rw[fk (by rw[I.len];omega),gb]at e2;split at e2<;>cases e2
  rw[cz (by rw[I.len];exact hi)]at e2
  have vis:Vis scope x:=by
   have e3:Vis (relabel scope X.env) x:=e3;unfold Vis relabel at e3;rw[iw (scope:=scope)]at e3;unfold Vis
   cases q:scope.names.lookup x with
   |none=>rw[q]at e3;simp at e3
   |some k =>
    rw[q]at e3;simp only[bo]at e3;have:=S.nocell _ (PySem.mem_of_lookup q);cases k<;>simp_all
  obtain⟨n1,n2⟩:=hN i x hi e1 vis;obtain⟨m,hn,hl'⟩:=I.loc;have kd:=S.free x (PySem.mem_of_lookup n2)
  have visX:Vis X.env.scope x:=by
   rcases kd with z|z
   .exact .inr (.inl z)
   .exact .inr (.inr z)
  obtain⟨u,r,l⟩:=hl' i x v n1 e2 visX;refine⟨u,r,.inr ?_⟩;rcases l with⟨k,_⟩|⟨k,c,ec,z⟩
  .rcases kd with z|z
   .rw[z]at k;cases k
   .rw[z]at k;cases k
  .obtain⟨c',hm⟩:=tL (env:=X.env) scope.names [] x (.inl (PySem.mem_of_lookup n2));obtain⟨c2,hc2⟩:=iR hm;have:=hlk x c2 hc2;rw[ec]at this;cases this;refine⟨?_,c,hc2,?_⟩
   .show(compEnvC scope (gw X.env scope.names []) s.heap.objs.size X.env).kindOf x=some .cell\/(compEnvC scope (gw X.env scope.names []) s.heap.objs.size X.env).kindOf x=some .free;rw[nu,n2];simp only[bo];split
    .exact .inl rfl
    .exact .inr rfl
   .obtain⟨o,ho,hd⟩:=z;exact⟨o,hk _ _ ho,hd⟩
 .obtain⟨v,o,ho,hd⟩:=I.cell x c (hlk x c e);exact⟨v,o,hk _ _ ho,hd⟩
 .show _=Nc.length;rw[az,cS,I.len];omega
def uI(D:av)(te:TE):TU:=λσ H Q=>te σ H λy H'=>∃xs,H' D=some (.lst xs)/\xs.length<sizeLine/\Q σ (upd H' D (.lst (xs++[y])))
def sD(he:PE X elt te):PU X (do let _ <- call (.builtin "list.append") [.ref D,<- eval elt X.env]) (uI D te):=by
 intro pins s σ H Q I h;refine aI (thn (he pins s σ H _ I h) λu s1⟨y,H1,I1,r1,xs,hD,hz,q⟩=>?_);refine aI (thn (rg pins s1 σ H1 (.ref D) [y] (.ref D) [u] (λ_ H'=>Q σ H') I1 rfl (.cons r1 .nil) ⟨D,xs,y,rfl,rfl,hD,hz,q⟩) λ_ s2⟨_,H2,I2,_,q2⟩=>?_);exact bh ⟨σ,H2,I2,q2⟩
def tLC(k:Nat)(wi:TI)(g:TG)(tt:TT)(te:TE):TE:=λσ H Q=>wi σ H λJ H1=>∀D,H1 D=none ->
 tLp J g tt (uI D te) (σ++aC k none) (upd H1 D (.lst [])) λ_ H2=>Q (.ref D) H2
def lD
 (I:Inv X pins σ H s)(hf:∀b∈fp,lH X pins H b)(hC:C=s.heap.objs.size)(J:Inv (cxC X scope cl C Nc s H fp) [] σ' H' s')(hs:jT C s'.heap h2):Inv X pins σ H' {s' with heap:=h2}:=by
 have hok:HOk X.prog X.w H' h2:=λb ob e=>by
  refine(J.hok b ob e).stay (λc w' hc q=>(hs.2 c ?_).trans q) (λ_ q=>q) λ_ _ q=>q;rintro rfl;have fr:H' c=none:=J.free;rcases hc with rfl|hc
  .rw[fr]at e;cases e
  .rw[fr]at hc;cases hc
 have neC:∀b o,s.heap.get? b=some o->b≠C:=λb o e=>by rw[hC];exact aU (aJ e)
 refine I.call' (s':={s' with heap:=h2}) (ch:=fp) J.os ⟨λb o e n hb hx=>?_,λb o e n hb hx=>?_,λb o e n hx=>J.base.free b o e n hx,λb o e hx=>?_,J.base.tups,J.base.frzs,J.base.tbls⟩ hok J.bare λb hb=>?_
 .exact(hs.2 b (neC b o e)).trans (J.base.keep b o e n hb hx)
 .obtain⟨sl,z⟩:=J.base.slot b o e n hb hx;exact⟨sl,(hs.2 b (neC b o e)).trans z⟩
 .obtain⟨o',z⟩:=J.base.there b o e hx;exact⟨o',(hs.2 b (neC b o e)).trans z⟩
 .obtain⟨f0,f1,f2,f3,f4,f5⟩:=hf b hb;exact⟨f3,f1,f4,f5⟩
def pP
 (S:ki X scope)(I:Inv X pins σ H s)(hf:∀b∈fp,lH X pins H b)(hfl:∀b∈fp,b<s.heap.objs.size)(hC:C=s.heap.objs.size)(hn:∀b∈fp,H' b=none) :
 ∀b∈fp,lH (cxC X scope (gw X.env scope.names []) C Nc s H fp) [] H' b:=λb hb=>by
 have hcl:∀x,(x,bR)∈scope.names->∃c,X.env.cells.lookup x=some c:=λx hx=>I.ok.has x (S.free x hx);obtain⟨f0,f1,f2,f3,f4,f5⟩:=hf b hb;refine⟨hn b hb,?_,λz=>?_,.inl hb,λx c e=>?_,λp hp=>absurd (show p∈([]:List (av×Obj))from hp) ↥0⟩
 .show b≠C;rw[hC];exact aU (hfl b hb)
 .rcases aA.mp (I.stkSub b z)with q|q
  .exact f1 q
  .exact f2 q
 .have:=tK scope.names [] hcl _ (PySem.mem_of_lookup e);rcases this with z|z
  .cases z
  .exact f4 x c z
def Li(X:Cx)(C:av)(x:ai)(s':au):Prop:=∃m,s'.heap.Ns C m/\∀h',jT C s'.heap h'->∀cenv:Env,cenv.locals=C->wpAny (model X.prog X.w) X.A (passOn "comprehension.variables-let-go" x cenv:Sem ai) (λ_ _=>False) X.xe {s' with heap:=h'}
def Blk(X:Cx)(scope:dQ)(cl:List (Str×av))(C:av)(s:au)(H:Hp)(fp:List av)(σ:St):Prop:=∃pins,Inv X pins σ H s/\(∀b∈fp,lH X pins H b)/\(∀b∈fp,b<s.heap.objs.size)/\C=s.heap.objs.size/\cl=gw X.env scope.names []
def PG.nox(h:PG X.nox tg t):PG X tg t:=λpins s σ H v u Q I r hw=>cw (h pins s σ H v u Q (I.wish _) r hw) (λ_ _⟨σ',H',I',q⟩=>⟨σ',H',I'.unwish,q⟩) λ_ _ z=>bz z
def PTs.nox(h:PTs X.nox ifs t):PTs X ifs t:=λpins s σ H Q I hw=>cw (h pins s σ H Q (I.wish _) hw) (λ_ _⟨H',I',q⟩=>⟨H',I'.unwish,q⟩) λ_ _ z=>bz z
def qT{rest:List ku}{body:ai->Env->Sem Unit}{tb:St->av->TU}{xb:List (Str×av)->av->ai->au->Prop}
 (hx:∀cl C x s',xb cl C x s'->notedBy (model X.prog X.w) X.A (compEnvC scope cl C X.env) (Li X C) x s')(hc:X.calm=true)(S:ki X scope)(hN:∀i x,i<X.N.length->Nc[i]?=some x->Vis scope x->X.N[i]?=some x/\scope.names.lookup x=some .free)(hl:X.N.length<=Nc.length)
 (hi:PI X tg iter wi)(hg:∀cl C s H fp,PG (cxC X scope cl C Nc s H fp) tg g)(ht:∀cl C s H fp,PTs (cxC X scope cl C Nc s H fp) ifs tt)(hb:∀cl C s H fp σ D,Blk X scope cl C s H fp σ->PU ((cxC X scope cl C Nc s H fp).wish (xb cl C)) (body (.ref D) (compEnvC scope cl C X.env)) (tb σ D))
 (hturn:∀it acc env,compTurn (.ListComp elt (⟨tg,iter,ifs,0⟩::rest) scope pos) 0 it acc env=(do
   standAt iter.pos
   match <- pyNext it with
   |none=>pure (.done .next)
   |some v =>
    letOwnedTupleGo tg it v
    assign tg env v
    let mut ok:=true
    for c in ifs do
     if ok then ok <- isTrue c env (eval c env)
    if ok then body acc env
    again (.compLoop (.ListComp elt (⟨tg,iter,ifs,0⟩::rest) scope pos) 0 it acc env)))
 (hs:∀x,foldedSetIterable iter X.env x=pure x):PE X (.ListComp elt (⟨tg,iter,ifs,0⟩::rest) scope pos) (λσ H Q=>wi σ H λJ H1=>∀D,H1 D=none->tLp J g tt (tb σ D) (σ++aC (Nc.length-X.N.length) none) (upd H1 D (.lst [])) λ_ H2=>Q (.ref D) H2):=by
 intro pins s σ H Q I h;rw[eval_ListComp];refine Aq (use:=none) rfl hs (Ea λx hz=>I.ok.has x (S.free x hz)) S.kind S.names (thn (hi pins s σ H _ I h) λv s1 h1=>thn h1 λitv s2 h2=>?_);obtain⟨it,fp,tn,J,H2,e,I2,T,st2,f2,q⟩:=h2;subst e;refine dO (hd:=by size_fits) ?_;have hfr:=I2.fresh;have I3:Inv X pins σ (upd H2 s2.heap.objs.size (.lst [])) {s2 with heap:=s2.heap.push {cls:=.type "list",data:=.seq ([]:List ai).toArray} }:=I2.lnew (t':=s2.toks) (its:=[]) .nil (bP _);have st3:tn 0 (s2.heap.push {cls:=.type "list",data:=.seq ([]:List ai).toArray}):=T.keep _ _ _ st2 λb _ o e=>ax _ e
 have fl3:∀b∈fp,b<s2.heap.objs.size:=λb hb=>by
  obtain⟨o,e,_⟩:=T.obj _ _ st2 b hb;exact aJ e
 have ne3:∀b∈fp,upd H2 s2.heap.objs.size (.lst []) b=none:=λb hb=>by rw[bF (aU (fl3 b hb))];exact(f2 b hb).1
 have f3:∀b∈fp,lH X pins (upd H2 s2.heap.objs.size (.lst [])) b:=λb hb=>⟨ne3 b hb,(f2 b hb).2⟩;have q3:=q s2.heap.objs.size hfr;generalize hH3:upd H2 s2.heap.objs.size (.lst [])=H3 at I3 ne3 f3 q3;generalize hs3:({s2 with heap:=s2.heap.push {cls:=.type "list",data:=.seq ([]:List ai).toArray} }:au)=s3 at I3;have hs3h:s3.heap=s2.heap.push {cls:=.type "list",data:=.seq ([]:List ai).toArray}:=by rw[<- hs3]
 rw[<- hs3h]at st3;have fl4:∀b∈fp,b<s3.heap.objs.size:=λb hb=>by rw[hs3h,lh];exact jl (fl3 b hb)
 refine HI S.nocell (by intro y hy;simp at hy) (λh1 hns hsb=>?_) S.kind;have keep1:∀b o,s3.heap.get? b=some o->h1.get? b=some o:=λb o e=>hsb.extBut b o (aU (aJ e)) (ax _ e);have J0:=rA (h1:=h1) (t1:=s3.toks+([]:List (Str×ai)).length) S I3 f3 fl4 rfl (by simpa using hns) keep1 hN hl;have st4:tn 0 h1:=T.keep _ _ _ st3 λb _ o e=>keep1 b o e
 have loop:∀s4:au,s4={s3 with heap:=h1,toks:=s3.toks+([]:List (Str×ai)).length} ->
  codeAny (model X.prog X.w) X.A (.compLoop (.ListComp elt (⟨tg,iter,ifs,0⟩::rest) scope pos) 0 (.ref it) (.ref s2.heap.objs.size) (compEnvC scope (gw X.env scope.names []) s3.heap.objs.size X.env))
   (compPost (model X.prog X.w) X.A X.xe none (EP X pins σ Q) (.ref s2.heap.objs.size) s3.heap.objs.size) s4:=by
  rintro s4 rfl;refine ID (R:=compPost (model X.prog X.w) X.A X.xe none (EP X pins σ Q) (.ref s2.heap.objs.size) s3.heap.objs.size) (X:=(cxC X scope (gw X.env scope.names []) s3.heap.objs.size Nc s3 H3 fp).wish (xb (gw X.env scope.names []) s3.heap.objs.size)) (ip:=iter.pos) (λx s' z=>hx _ _ x s' z) hc rfl rfl rfl (hturn _ _ _) T (PG.nox (hg _ _ _ _ _)) (PTs.nox (ht _ _ _ _ _)) (hb _ _ _ _ _ σ _ ⟨pins,I3,f3,fl4,rfl,rfl⟩) (J0.wish _) st4 (pP (Nc:=Nc) S I3 f3 fl4 rfl ne3) q3 ?_;intro s' σ' H' J' q';obtain⟨m,hn,_⟩:=J'.loc;exact⟨m,hn,λh2 hs2=>⟨.ref s2.heap.objs.size,H',lD I3 f3 rfl J'.unwish hs2,rfl,q'⟩⟩
 exact Ey (loop _ rfl) (T.self _ _ _ _ _ st4 (loop _ rfl))
def zL{rest:List ku}{body:ai->Env->Sem Unit}{tb:av->TU}
 (hc:X.calm=true)(S:ki X scope)(hN:∀i x,i<X.N.length->Nc[i]?=some x->Vis scope x->X.N[i]?=some x/\scope.names.lookup x=some .free)(hl:X.N.length<=Nc.length)
 (hi:PI X tg iter wi)(hg:∀cl C s H fp,PG (cxC X scope cl C Nc s H fp) tg g)(ht:∀cl C s H fp,PTs (cxC X scope cl C Nc s H fp) ifs tt)(hb:∀cl C s H fp D,PU (cxC X scope cl C Nc s H fp) (body (.ref D) (compEnvC scope cl C X.env)) (tb D))
 (hturn:∀it acc env,compTurn (.ListComp elt (⟨tg,iter,ifs,0⟩::rest) scope pos) 0 it acc env=(do
   standAt iter.pos
   match <- pyNext it with
   |none=>pure (.done .next)
   |some v =>
    letOwnedTupleGo tg it v
    assign tg env v
    let mut ok:=true
    for c in ifs do
     if ok then ok <- isTrue c env (eval c env)
    if ok then body acc env
    again (.compLoop (.ListComp elt (⟨tg,iter,ifs,0⟩::rest) scope pos) 0 it acc env)))
 (hs:∀x,foldedSetIterable iter X.env x=pure x):PE X (.ListComp elt (⟨tg,iter,ifs,0⟩::rest) scope pos) (λσ H Q=>wi σ H λJ H1=>∀D,H1 D=none->tLp J g tt (tb D) (σ++aC (Nc.length-X.N.length) none) (upd H1 D (.lst [])) λ_ H2=>Q (.ref D) H2) :=
 qT (xb:=λ_ _ _ _=>False) (λ_ _ _ _ z=>z.elim) hc S hN hl hi hg ht (λcl C s H fp _ D _=>hb cl C s H fp D) hturn hs
def CD
 (hc:X.calm=true)(S:ki X scope)(hN:∀i x,i<X.N.length->Nc[i]?=some x->Vis scope x->X.N[i]?=some x/\scope.names.lookup x=some .free)(hl:X.N.length<=Nc.length)
 (hi:PI X tg iter wi)(hg:∀cl C s H fp,PG (cxC X scope cl C Nc s H fp) tg g)(ht:∀cl C s H fp,PTs (cxC X scope cl C Nc s H fp) ifs tt)(he:∀cl C s H fp,PE (cxC X scope cl C Nc s H fp) elt te)
 (hs:∀x,foldedSetIterable iter X.env x=pure x):PE X (.ListComp elt [⟨tg,iter,ifs,0⟩] scope pos) (tLC (Nc.length-X.N.length) wi g tt te) :=
 zL hc S hN hl hi hg ht (λ_ _ _ _ _ _=>sD (he _ _ _ _ _)) (λit acc env=>by rw[As]<;>rfl) hs
def Cy
 (hx:X.xe=λ_ _=>False)(hc:X.calm=true)(S:ki X scope)(hN:∀i x,i<X.N.length->Nc[i]?=some x->Vis scope x->X.N[i]?=some x/\scope.names.lookup x=some .free)(hl:X.N.length<=Nc.length)
 (hi:PI X tg iter wi)(hg:∀cl C s H fp,PG (cxC X scope cl C Nc s H fp) tg g)(ht:∀cl C s H fp,PTs (cxC X scope cl C Nc s H fp) ifs tt)(he:∀cl C s H fp,PE (cxC X scope cl C Nc s H fp) elt te)
 (hs:∀x,foldedSetIterable iter X.env x=pure x)
 (hNd:X.N.Nodup)(hy:X.N[i]?=some y)(hv:Loc X.env.scope y)(hf:X.fn y=true\/X.env.scope.names.lookup y=some .local)
 (hsw:swapsWith (.ListComp elt [⟨tg,iter,ifs,0⟩] scope pos) (some (.Name y py)) spos.line X.env=pure true) :
 PS X (.Assign [.Name y py] (.ListComp elt [⟨tg,iter,ifs,0⟩] scope pos) spos) (Bu (tLC (Nc.length-X.N.length) wi g tt te) (pO i)):=by
 intro pins s σ H Q I h;rw[exec_Assign_Name_used _ _ _ _ hsw];refine aI (kj (aI ?_));show wpAny _ X.A (do let _ <- comprehension (.ListComp elt [⟨tg,iter,ifs,0⟩] scope pos) scope X.env _ (newList []) false (eval iter X.env) (some (assign (.Name y py) X.env))) _ _ s
 refine aI (cw (Aq (use:=some (assign (.Name y py) X.env)) (Q:=λ_ s'=>SP X pins Q .next s') rfl hs (Ea λx hz=>I.ok.has x (S.free x hz)) S.kind S.names
  (thn (hi pins s σ H _ I h) λv s1 h1=>thn h1 λitv s2 h2=>?_)) (λ_ s' hq=>bh (bh hq)) λ_ _ e=>e)
 obtain⟨it,fp,tn,J,H2,e,I2,T,st2,f2,q⟩:=h2;subst e;refine dO (hd:=by size_fits) ?_;have hfr:=I2.fresh;have I3:Inv X pins σ (upd H2 s2.heap.objs.size (.lst [])) {s2 with heap:=s2.heap.push {cls:=.type "list",data:=.seq ([]:List ai).toArray} }:=I2.lnew (t':=s2.toks) (its:=[]) .nil (bP _);have st3:tn 0 (s2.heap.push {cls:=.type "list",data:=.seq ([]:List ai).toArray}):=T.keep _ _ _ st2 λb _ o e=>ax _ e
 have fl3:∀b∈fp,b<s2.heap.objs.size:=λb hb=>by
  obtain⟨o,e,_⟩:=T.obj _ _ st2 b hb;exact aJ e
 have ne3:∀b∈fp,upd H2 s2.heap.objs.size (.lst []) b=none:=λb hb=>by rw[bF (aU (fl3 b hb))];exact(f2 b hb).1
 have f3:∀b∈fp,lH X pins (upd H2 s2.heap.objs.size (.lst [])) b:=λb hb=>⟨ne3 b hb,(f2 b hb).2⟩;have q3:=q s2.heap.objs.size hfr;generalize hH3:upd H2 s2.heap.objs.size (.lst [])=H3 at I3 ne3 f3 q3;generalize hs3:({s2 with heap:=s2.heap.push {cls:=.type "list",data:=.seq ([]:List ai).toArray} }:au)=s3 at I3;have hs3h:s3.heap=s2.heap.push {cls:=.type "list",data:=.seq ([]:List ai).toArray}:=by rw[<- hs3]
 rw[<- hs3h]at st3;have fl4:∀b∈fp,b<s3.heap.objs.size:=λb hb=>by rw[hs3h,lh];exact jl (fl3 b hb)
 refine HI S.nocell (by intro y hy;simp at hy) (λh1 hns hsb=>?_) S.kind;have keep1:∀b o,s3.heap.get? b=some o->h1.get? b=some o:=λb o e=>hsb.extBut b o (aU (aJ e)) (ax _ e);have J0:=rA (h1:=h1) (t1:=s3.toks+([]:List (Str×ai)).length) S I3 f3 fl4 rfl (by simpa using hns) keep1 hN hl;have st4:tn 0 h1:=T.keep _ _ _ st3 λb _ o e=>keep1 b o e
 have loop:∀s4:au,s4={s3 with heap:=h1,toks:=s3.toks+([]:List (Str×ai)).length} ->
  codeAny (model X.prog X.w) X.A (.compLoop (.ListComp elt [⟨tg,iter,ifs,0⟩] scope pos) 0 (.ref it) (.ref s2.heap.objs.size) (compEnvC scope (gw X.env scope.names []) s3.heap.objs.size X.env))
   (compPost (model X.prog X.w) X.A X.xe (some (assign (.Name y py) X.env)) (λ_ s'=>SP X pins Q .next s') (.ref s2.heap.objs.size) s3.heap.objs.size) s4:=by
  rintro s4 rfl
  refine ID (X:=cxC X scope (gw X.env scope.names []) s3.heap.objs.size Nc s3 H3 fp) (ip:=iter.pos) (body:=(do let _ <- call (.builtin "list.append") [.ref s2.heap.objs.size,<- eval elt (compEnvC scope (gw X.env scope.names []) s3.heap.objs.size X.env)]))
   (λ_ _ z=>bz z) hc rfl rfl rfl (by rw[As]<;>rfl) T (hg _ _ _ _ _) (ht _ _ _ _ _) (sD (he _ _ _ _ _)) J0 st4 (pP S I3 f3 fl4 rfl ne3) q3 ?_
  intro s' σ' H' J' q';have hC:H' s3.heap.objs.size=none:=J'.free;obtain⟨m,hn,_⟩:=J'.loc;have hn:s'.heap.Ns s3.heap.objs.size m:=hn
  -- the frame's state,the block's own names still there
  have I4:Inv X pins σ H' s':=lD I3 f3 rfl J' (ug _ _);obtain⟨oc,es,ep,ho,hd,hr⟩:=id hn;have above:X.s₀.heap.objs.size<=s3.heap.objs.size:=I3.sz;have hL:s3.heap.objs.size≠X.env.locals:=Nat.ne_of_gt I3.lt;have hfs:s3.heap.objs.size∉X.fs:=I3.nofs (aD _)
  have I5:Inv X (pins++[(s3.heap.objs.size,oc)]) σ H' s':=I4.pins_of λp hp=>by
   rcases cc.mp hp with hp|hp
   .exact I4.pin p (aP _ hp)
   .have:p=(s3.heap.objs.size,oc):=by simpa using hp
    subst this;exact⟨ho,hC,hL,hfs,λv z=>by rw[hd]at z;cases z⟩
  show wpAny _ _ (assign (.Name y py) X.env (.ref s2.heap.objs.size)) _ _ _;refine LY (ig (v:=.ref s2.heap.objs.size) I5 hNd hy hv rfl (λs5 I6=>?_) hf);have hp6:=I6.pin (s3.heap.objs.size,oc) (aP _ (aP _ ↥0));refine⟨m,⟨oc,es,ep,hp6.1,hd,hr⟩,λh' hsb'=>?_⟩;have I7:Inv X pins (σ.set i (some (.ref s2.heap.objs.size))) H' s5:=I6.unpinned;refine⟨_,H',I7.turned (h':=h') (t':=s5.toks) (it:=s3.heap.objs.size) (λb o hb e=>(hsb'.2 b hb).trans e) hC hL (.inr above) (λx c e z=>?_) (λp hp z=>?_),q'⟩
  .obtain⟨v,o,hoc,hdc⟩:=I3.cell x c e;have:=aJ hoc;rw[z]at this;exact absurd this (cX _)
  .have hq:=(I3.pin p hp).1;have:=aJ hq;rw[z]at this;exact absurd this (cX _)
 exact Ey (loop _ rfl) (T.self _ _ _ _ _ st4 (loop _ rfl))
section
variable{X:Cx}
def NX:V->Option Int->Option Int->Hp->VK->Prop:=λx lo hi H Q=>∃t,x=.str t/\t.length<=sizeLine/\Q (.str (lL t lo hi)) H
def part_of{v:ai}{lo:Option Int}(h:qb v lo):∃l:Option (Int×Tok),v=partValue l/\l.map (·.1)=lo:=by
 cases h with
 |none=>exact⟨none,rfl,rfl⟩
 |int i t=>exact⟨some (i,t),rfl,rfl⟩
def JL:SlR X NX:=by
 intro pins s σ H x v vl vu lo hi sl Q I rx hs pl pu h;obtain⟨t,rfl,hz,q⟩:=h;obtain⟨k,rfl⟩:=rx;obtain⟨l,rfl,rfl⟩:=part_of pl;obtain⟨u,rfl,rfl⟩:=part_of pu;refine⟨"str",_,PySem.F.slot_str_getitem.lookup,fK _ _ _,wpAny_getItem_str_slice (l:=l) (u:=u) (st:=none) hs rfl ?_⟩;exact post_val_or_str ⟨aZ (Txt.slice_le t _ _) hz,λt' k=>⟨.str _,H,I.tok _,⟨_,rfl⟩,q⟩⟩
def qk:typeLookup (.type "tuple") (dunderI "add")=pure none:=by rw[typeLookup_type,EG];kernel_rfl
def GX:PIp X .Add (Ii X.K):=by
 intro pins s σ H x y v u Q I rx ry h;obtain⟨a,b,xs,ys,rfl,rfl,ha,hb,hx,hz,q1,q2⟩:=h;cases rx;cases ry;obtain⟨its,r1,p1,_⟩:=I.tuple ha;obtain⟨its2,r2,p2,_⟩:=I.tuple hb;obtain⟨⟨cls,dd,data,sl⟩,ho,hc,n,hd⟩:=id p1;obtain⟨⟨cls2,dd2,data2,sl2⟩,ho2,hc2,n2,hd2⟩:=id p2;simp only at hc hd hc2 hd2;subst hc hd hc2 hd2;have e:its.toArray++its2.toArray=(its++its2).toArray:=by simp
 have hv:its≠[]:=λz=>hx (r1.nil_iff.mp z);refine wpAny_inplaceOp_concat ⟨_,ho,rfl⟩ ⟨_,ho2,rfl⟩ qk kM oO ?_;by_cases hw:its2=[]
 .exact dU PySem.F.slot_tuple_add ⟨_,ho,rfl⟩ PySem.F.entry_tuple_add (PySem.F.args_tuple_add_2 _ _)
   (tuple_addW1 a b its.toArray its2.toArray n n2 dd dd2 sl sl2 (by simpa using hv) (by simp[hw])) ⟨ho,ho2,⟨.ref a,H,I,rfl,q1 (r2.nil_iff.mp hw)⟩⟩
 .refine dU PySem.F.slot_tuple_add ⟨_,ho,rfl⟩ PySem.F.entry_tuple_add (PySem.F.args_tuple_add_2 _ _)
   (tuple_addW2 a b its.toArray its2.toArray n n2 dd dd2 sl sl2 (by simpa using hv) (by simpa using hw) (by rw[aB,aB,<- r1.length,<- r2.length];exact hz)) ⟨ho,ho2,?_⟩
  rw[e];refine⟨.ref s.heap.objs.size,_,I.laid (t':=s.toks) (o:=.tup (xs++ys)) (λb ob q=>ax _ q) (aD _) ?_,rfl,q2 (λw=>hw (r2.nil_iff.mpr w)) _ (I.hok.fresh (aD _))⟩;exact⟨by rw[az];exact hz,_,r1.append r2,oy _ _⟩
end
end L2
end
section
namespace PP
open PySem PySem.W PyProof.Rows
structure Ord(lt:Nat->Nat->Bool):Prop where
 as:∀a b,lt a b=true->lt b a=false
 tr:∀a b c,lt b a=false->lt c b=false->lt c a=false
section
variable{lt:Nat->Nat->Bool}(O:Ord lt)
include O
end
end PP
end
section
namespace PP
open PySem
set_option genInjectivity true in
inductive D where
 |non|bl (b:Bool)|int (i:Int)|str (x:Str)|lst (ds:List D)|tup (ds:List D)|fn (k:Nat) (ds:List D)|dct (ks:List Str) (ds:List D)
 deriving Inhabited
mutual
noncomputable def eqD:D->D->Bool
 |.non,.non=>true
 |.bl a,.bl b=>a==b
 |.bl a,.int b=>(if a then 1 else 0)==b
 |.int a,.bl b=>a==(if b then 1 else 0)
 |.int a,.int b=>a==b
 |.str a,.str b=>a==b
 |.lst a,.lst b=>lE a b
 |.tup a,.tup b=>lE a b
 |_,_=>false
noncomputable def lE:List D->List D->Bool
 |[],[]=>true
 |x::xs,y::ys=>eqD x y&&lE xs ys
 |_,_=>false
end
mutual
noncomputable def dep:D->Nat
 |.lst ds|.tup ds=>eS ds+1
 |.fn _ _=>100000
 |.dct _ _=>100000
 |_=>0
noncomputable def eS:List D->Nat
 |[]=>0
 |x::xs=>max (dep x) (eS xs)
end
def flat:D->Bool
 |.non|.bl _|.int _|.str _=>true
 |_=>false
def tv:D->Option Bool
 |.non=>some false
 |.bl b=>some b
 |.int i=>some (i != 0)
 |.str x=>if x.length<=sizeLine then some ((x.length:Int) != 0)else none
 |.lst ds|.tup ds=>some (!ds.isEmpty)
 |.fn _ _=>none
 |.dct _ _=>none
inductive Op where
 |add|sub|mul|mod|fdiv|pow
 deriving DecidableEq
inductive Cop where
 |lt|le|gt|eq|ne|isin|notin|is
 deriving DecidableEq
inductive Blt where
 |len|max|toInt|toStr|toTup|toLst|all|sum|isStr
 deriving DecidableEq
def nO(i j:Int):Bool:=(decide (-(2^64)<i)&&decide (i<2^64))||(decide (-(2^64)<j)&&decide (j<2^64))||(decide (i.natAbs<2^200)&&decide (j.natAbs<2^200))
def FQ(x:Str)(n:Nat):Str:=⟨(aC n x.cps.toList).flatten.toArray⟩
def LM:D->D->Option D
 |.int a,.int b=>some (.int (a+b))
 |.str a,.str b=>if a.length+b.length<=sizeLine then some (.str (a++b))else none
 |.tup [],.tup b=>some (.tup b)
 |.tup (x::a),.tup b=>if(x::a).length+b.length<=sizeLine then some (.tup (x::a++b))else none
 |.lst a,.lst b=>if a.length+b.length<=sizeLine then some (.lst (a++b))else none
 |_,_=>none
def Eh:D->D->Option D
 |.int a,.int b=>some (.int (a+b))
 |.tup (x::a),.tup b=>if(x::a).length+b.length<=sizeLine then some (.tup (x::a++b))else none
 |_,_=>none
def Jw:D->D->Option D
 |.int a,.int b=>some (.int (a-b))
 |_,_=>none
def KA:D->D->Option D
 |.int a,.int b=>if nO a b then some (.int (a*b))else none
 |.str a,.int b=>if 0<=b/\b<=1000/\a.length<=1000 then some (.str (FQ a b.toNat))else none
 |_,_=>none
def KG:D->D->Option D
 |.int a,.int b=>if 0<b then some (.int (a%b))else none
 |_,_=>none
def DI:D->D->Option D
 |.int a,.int b=>if 0<b/\b<1000000000000000000000000000000000000000000000000000000000000 then some (.int (a/b))else none
 |_,_=>none
def JV:D->D->Option D
 |.int a,.int b=>if 0<=b/\b<=1000000/\a.natAbs<2^64 then some (.int (a^b.toNat))else none
 |_,_=>none
def opD:Op->D->D->Option D
 |.add=>LM|.sub=>Jw|.mul=>KA|.mod=>KG|.fdiv=>DI|.pow=>JV
def kin:D->D->Bool
 |.bl _,.bl _|.int _,.int _|.str _,.str _|.lst _,.lst _|.tup _,.tup _=>true
 |_,_=>false
def iD(a b:D):Bool:=kin a b&&decide (min (dep a) (dep b)<=150)&&decide (max (dep a) (dep b)<100000)
def Na:D->D->Bool
 |.int _,.str _=>true
 |.str _,.int _=>true
 |_,_=>false
def Gr(p:Int->Int->Bool):D->D->Option Bool
 |.int a,.int b=>some (p a b)
 |_,_=>none
def vg(y x:Str):Bool:=!(cU y x 0 y.length 1).isEmpty
def inD(a:D):D->Option Bool
 |.lst ds=>if dep a<=150/\eS ds<99999 then some (ds.any λy=>eqD y a)else none
 |.tup ds=>if dep a<=150/\eS ds<99999 then some (ds.any λy=>eqD y a)else none
 |.str y=>match a with
  |.str x=>some (vg y x)
  |_=>none
 |_=>none
def La:D->Bool
 |.non=>true
 |_=>false
def isD(a:D):D->Option Bool
 |.non=>some (La a)
 |.bl b=>match a with
  |.bl c=>some (c==b)
  |_=>none
 |_=>none
def leD:D->D->Option Bool
 |.int a,.int b=>some (decide (a<=b))
 |.str a,.str b=>some (!decide (b.cps.toList<a.cps.toList))
 |_,_=>none
def gv:Cop->D->D->Option Bool
 |.lt,x,y=>Gr (λa b=>decide (a<b)) x y
 |.le,x,y=>leD x y
 |.gt,x,y=>Gr (λa b=>decide (b<a)) x y
 |.eq,a,b=>if iD a b then some (eqD a b)else if Na a b=true then some false else none
 |.ne,a,b=>if iD a b then some (!eqD a b)else none
 |.isin,a,y=>inD a y
 |.notin,a,y=>(inD a y).map (!·)
 |.is,a,y=>isD a y
def ixD:D->D->Option D
 |.lst ds,.int i=>L2.atI ds i
 |.tup ds,.int i=>L2.atI ds i
 |.str x,.int i=>if x.length<=sizeLine then(L2.atI x.cps.toList i).map λc=>.str ⟨#[c]⟩else none
 |_,_=>none
def cutD(ds:List D)(lo hi:Option Int):List D:=(ds.drop (HT.sIx ds.length 0 lo)).take (HT.sIx ds.length ds.length hi-HT.sIx ds.length 0 lo)
def slD:D->Option Int->Option Int->Option D
 |.lst ds,lo,hi=>some (.lst (cutD ds lo hi))
 |.tup ds,lo,hi=>if HT.sIx ds.length 0 lo=0/\HT.sIx ds.length ds.length hi=ds.length then none else some (.tup (cutD ds lo hi))
 |.str x,lo,hi=>if x.length<=sizeLine then some (.str (lL x lo hi))else none
 |_,_,_=>none
def mq:List D->Option (List Int)
 |[]=>some []
 |.int i::r=>(mq r).map (i::·)
 |_=>none
def GS:List D->Option D
 |[.str x]=>if x.length<=sizeLine then some (.int x.length)else none
 |[.lst ds]=>some (.int ds.length)
 |[.tup ds]=>some (.int ds.length)
 |_=>none
def uF:List Int->Int
 |[]=>0
 |n::ns=>ns.foldl (λa b=>if b>a then b else a) n
def maxD:List D->Option D
 |[.int i,.int j]=>some (.int (if j>i then j else i))
 |[.lst ds]=>(mq ds).bind λns=>if ns=[]then none else some (.int (uF ns))
 |_=>none
def sg:List D->Option D
 |[.int i]=>some (.int i)
 |[.bl b]=>some (.int (if b then 1 else 0))
 |[.str x]=>if x.length<=640 then(PySem.intText? x).map .int else none
 |_=>none
def sf:List D->Option D
 |[.int i]=>if i.natAbs.log2<1920 then some (.str (toString i))else none
 |_=>none
def se:List D->Option D
 |[.lst ds]=>some (.tup ds)
 |[.tup ds]=>some (.tup ds)
 |_=>none
def mT:List D->Option D
 |[.lst ds]=>some (.lst ds)
 |[.tup ds]=>some (.lst ds)
 |_=>none
def Ff:List D->Option D
 |[.lst ds]=>(mq ds).map λns=>.int ns.sum
 |_=>none
def lF:List D->Option (List Bool)
 |[]=>some []
 |.bl i::r=>(lF r).map (i::·)
 |_=>none
def HA:List D->Option D
 |[.lst ds]=>(lF ds).map λbs=>.bl (bs.all id)
 |_=>none
def fW:List D->Option D
 |[.str _]=>some (.bl true)
 |[.fn _ _]=>none
 |[_]=>some (.bl false)
 |_=>none
def hZ:Blt->List D->Option D
 |.len=>GS|.max=>maxD|.toInt=>sg|.toStr=>sf|.toTup=>se|.toLst=>mT|.all=>HA|.sum=>Ff
 |.isStr=>fW
inductive Sl where
 |no|val (d:D)|own (ds:List D)|fnc (k:Nat) (cs:List D)|odc (ks:List Str) (ds:List D)
 deriving Inhabited
abbrev Loc:=List Sl
inductive Tg where
 |nm (i:Nat)
 |tp (is:List Nat)
 |pr (i:Nat) (is:List Nat)
def pb:List D->Option (List Str)
 |[]=>some []
 |.str x::r=>(pb r).map (x::·)
 |_=>none
inductive Mt|split|part|ends|join|index|find
def iP(x y:Str):List Str:=if(decide (x.length<y.length)||decide (eZ x<eZ y))=true then[x]else if(cU x y 0 x.length (x.length+1)).isEmpty=true then[x]else Builtin.Str.partsBetween x (cU x y 0 x.length (x.length+1)) y.length
def jJ(x y:Str):Str×Str×Str:=match cU x y 0 x.length 1 with
 |i::_=>(uh x 0 i,y,uh x (i+y.length) x.length)
 |[]=>(x,vR,vR)
def mtD:Mt->D->D->Option D
 |.split,.str x,.str y=>if 0<y.length/\x.length<=sizeLine/\(iP x y).length<=sizeLine then some (.lst ((iP x y).map .str))else none
 |.part,.str x,.str y=>if 0<y.length/\x.length<=sizeLine then some (.tup [.str (jJ x y).1,.str (jJ x y).2.1,.str (jJ x y).2.2])else none
 |.find,.str x,.str y=>some (.int (match cU x y 0 x.length 1 with|i::_=>(i:Int)|[]=>-1))
 |.ends,.str x,.str y=>some (.bl (decide (y.length<=x.length)&&Builtin.Str.subAt x y (x.length-y.length)))
 |.join,.str x,.lst ds=>(pb ds).bind λts=>if rN (ts.toArray.foldl (·+·.length+x.length) 0)=false/\(uq x ts).length<=sizeLine then some (.str (uq x ts))else none
 |.index,.lst ds,b=>if dep b<=150/\eS ds<99999 then(ds.findIdx? λd=>eqD d b).map (λi:Nat=>D.int (i:Int))else none
 |_,_,_=>none
mutual
inductive E where
 |var (i:Nat)
 |pk (i:Nat)
 |glob (g:Nat)
 |int (i:Int)|bl (b:Bool)|non|str (x:Str)
 |bin (op:Op) (a b:E)
 |cmp (op:Cop) (a b:E)
 |and (a b:E)|or (a b:E)|not (a:E)|neg (a:E)
 |ite (c a b:E)
 |tup (es:Es)|lst (es:Es)
 |ix (a b:E)
 |sl (a:E) (lo hi:Eo)
 |rvl (a:E) (h s:Eo)
 |dcc (l:List (Str×Int))
 |dsv (i j:Nat)
 |call (f:Nat) (es:Es)
 |blt (f:Blt) (es:Es)
 |pop (i:Nat)
 |popi (i:Nat) (j:E)
 |bad
 |mt (m:Mt) (a b:E)
 |gin (ng:Bool) (n:Str) (D:List (Str×Int)) (e:E)
 |gix (n:Str) (D:List (Str×Int)) (e:E)
 |chn (o1 o2:Cop) (a b e:E)
 |dgt (a b e:E)
 |comp (k:Nat) (tg:Tg) (src:It) (ifs:Eo) (elt:E)
inductive Es where
 |nil|cons (e:E) (es:Es)
inductive Eo where
 |no|yes (e:E)
inductive It where
 |rng (e:E)|rev (e:E)|sq (e:E)
end
def get(δ:Loc)(i:Nat):Option D:=match δ[i]? with
 |some (.val d)=>some d
 |some (.own ds)=>some (.lst ds)
 |_=>none
def zX(δ:Loc)(i:Nat):Option D:=match δ[i]? with
 |some (.odc ks ds)=>some (.dct ks ds)
 |_=>get δ i
def demote(δ:Loc)(i:Nat):Loc:=match δ[i]? with
 |some (.own ds)=>δ.set i (.val (.lst ds))
 |some (.odc ks ds)=>δ.set i (.val (.dct ks ds))
 |_=>δ
def dA(δ:Loc):Tg->D->Option Loc
 |.nm i,d=>if i<δ.length then some (δ.set i (.val d))else none
 |.tp is,.tup ds=>if is.length=ds.length/\is.all (· < δ.length)=true then some ((is.zip ds).foldl (λδ p=>δ.set p.1 (.val p.2)) δ)else none
 |.tp is,.lst ds=>if is.length=ds.length/\is.all (· < δ.length)=true then some ((is.zip ds).foldl (λδ p=>δ.set p.1 (.val p.2)) δ)else none
 |.pr i is,.tup [a,.tup ds]=>if i<δ.length/\is.length=ds.length/\is.all (· < δ.length)=true then some ((is.zip ds).foldl (λδ p=>δ.set p.1 (.val p.2)) (δ.set i (.val a)))else none
 |_,_=>none
def items:D->Option (List D)
 |.lst ds=>some ds
 |.tup ds=>some ds
 |.str x=>if x.length<=sizeLine then some (x.cps.toList.map λc=>.str ⟨#[c]⟩)else none
 |_=>none
def lA(lo:Int)(n:Nat):List D:=(du n).map λ(i:Nat)=>D.int (lo+i)
def mF(f:D->Loc->Option (Option D×Loc)):List D->Loc->Option (List D×Loc)
 |[],δ=>some ([],δ)
 |x::xs,δ=>do
  let(o,δ1) <- f x δ
  let(ys,δ2) <- mF f xs δ1
  return (match o with|some y=>y::ys|none=>ys,δ2)
def kW:List Str->List D->Str->Option D
 |k::ks,d::ds,x=>if k=x then some d else kW ks ds x
 |_,_,_=>none
structure Cl where
 call:Nat->List D->Option D
 gl:List D
 hf:Nat->Bool
section
variable(cx:Cl)
mutual
noncomputable def evE:E->Loc->Option (D×Loc)
 |.var i,δ=>do return (<- zX δ i,demote δ i)
 |.pk i,δ=>do return (<- get δ i,δ)
 |.glob g,δ=>do return (<- cx.gl[g]?,δ)
 |.int i,δ=>some (.int i,δ)
 |.bl b,δ=>some (.bl b,δ)
 |.non,δ=>some (.non,δ)
 |.str x,δ=>some (.str x,δ)
 |.bin op a b,δ=>do
  let(x,δ1) <- evE a δ
  let(y,δ2) <- evE b δ1
  return (<- opD op x y,δ2)
 |.cmp op a b,δ=>do
  let(x,δ1) <- evE a δ
  let(y,δ2) <- evE b δ1
  return (.bl (<- gv op x y),δ2)
 |.and a b,δ=>do
  match <- evE a δ with
  |(.bl true,δ1)=>evE b δ1
  |(.bl false,δ1)=>some (.bl false,δ1)
  |_=>none
 |.or a b,δ=>do
  match <- evE a δ with
  |(.bl true,δ1)=>some (.bl true,δ1)
  |(.bl false,δ1)=>evE b δ1
  |_=>none
 |.not a,δ=>do
  match <- evE a δ with
  |(.bl b,δ1)=>some (.bl (!b),δ1)
  |_=>none
 |.neg a,δ=>do
  match <- evE a δ with
  |(.int i,δ1)=>some (.int (-i),δ1)
  |_=>none
 |.gin ng _ l e,δ=>do
  match <- evE e δ with
  |(.str x,δ1)=>some (.bl ((l.lookup x).isSome != ng),δ1)
  |_=>none
 |.gix _ l e,δ=>do
  match <- evE e δ with
  |(.str x,δ1)=>(l.lookup x).map λi=>(.int i,δ1)
  |_=>none
 |.mt m a b,δ=>do
  let(x,δ1) <- evE a δ
  let(y,δ2) <- evE b δ1
  return (<- mtD m x y,δ2)
 |.chn o1 o2 a b e,δ=>do
  let(x,δ1) <- evE a δ
  let(y,δ2) <- evE b δ1
  let k <- gv o1 x y
  if k then do
   let(z,δ3) <- evE e δ2
   return (.bl (<- gv o2 y z),δ3)
  else some (.bl false,δ2)
 |.dgt a b e,δ=>do
  let(x,δ1) <- evE a δ
  let(y,δ2) <- evE b δ1
  let(z,δ3) <- evE e δ2
  match x,y with
  |.dct ks ds,.str t=>some ((kW ks ds t).getD z,δ3)
  |_,_=>none
 |.ite c a b,δ=>do
  let(k,δ1) <- evT c δ
  if k then evE a δ1 else evE b δ1
 |.tup es,δ=>do
  let(ds,δ1) <- cT es δ
  if ds.length<=sizeLine then return (.tup ds,δ1)else none
 |.lst es,δ=>do
  let(ds,δ1) <- cT es δ
  if ds.length<=sizeLine then return (.lst ds,δ1)else none
 |.ix a b,δ=>do
  let(x,δ1) <- evE a δ
  let(y,δ2) <- evE b δ1
  return (<- ixD x y,δ2)
 |.rvl a h s,δ=>do
  let(x,δ1) <- evE a δ
  let(y,δ2) <- evO h δ1
  let(o,δ3) <- evO s δ2
  match x,y with
  |.lst ds,some i=>if i<0/\o=some (-1)then some (.lst (ds.drop (ds.length-(-1-i).toNat)).reverse,δ3)else none
  |_,_=>none
 |.dcc l,δ=>some (.dct (l.map iL) (l.map λp=>.int p.2),δ)
 |.dsv i j,δ=>match δ[i]?,δ[j]? with
  |some (.val (.str x)),some (.val d)=>some (.dct [x] [d],δ)
  |_,_=>none
 |.sl a lo hi,δ=>do
  let(x,δ1) <- evE a δ
  let(l,δ2) <- evO lo δ1
  let(h,δ3) <- evO hi δ2
  return (<- slD x l h,δ3)
 |.call f es,δ=>do
  let(ds,δ1) <- cT es δ
  return (<- cx.call f ds,δ1)
 |.blt f es,δ=>do
  let(ds,δ1) <- cT es δ
  return (<- hZ f ds,δ1)
 |.pop i,δ=>do
  match δ[i]? with
  |some (.own ds)=>match ds.getLast? with
   |some d=>some (d,δ.set i (.own ds.dropLast))
   |none=>none
  |_=>none
 |.bad,_=>none
 |.popi i j,δ=>match δ[i]? with
  |some (.own _)=>do
   match <- evE j δ with
   |(.int m,δ1)=>match δ1[i]? with
    |some (.own ds)=>if 0<=m/\m<ds.length/\m<1000000 then(ds[m.toNat]?).map λd=>(d,δ1.set i (.own (ds.eraseIdx m.toNat)))else none
    |_=>none
   |_=>none
  |_=>none
 |.comp k tg src ifs elt,δ=>do
  let(ds,δ1) <- evI src δ
  let(ys,δ2) <- mF (λx δ0=>do
   let δ2 <- dA (δ0++aC k .no) tg x
   let(b,δ3) <- evG ifs δ2
   if b then do
    let(y,δ4) <- evE elt δ3
    return (some y,δ4.take δ0.length)
   else return (none,δ3.take δ0.length)) ds δ1
  if ys.length<=sizeLine then return (.lst ys,δ2)else none
noncomputable def evT:E->Loc->Option (Bool×Loc)
 |.and a b,δ=>do
  let(k,δ1) <- evT a δ
  if k then evT b δ1 else some (false,δ1)
 |.or a b,δ=>do
  let(k,δ1) <- evT a δ
  if k then some (true,δ1)else evT b δ1
 |.not a,δ=>do
  let(k,δ1) <- evT a δ
  return (!k,δ1)
 |.cmp op a b,δ=>do
  let(x,δ1) <- evE a δ
  let(y,δ2) <- evE b δ1
  return (<- gv op x y,δ2)
 |.gin ng _ l e,δ=>do
  match <- evE e δ with
  |(.str x,δ1)=>some ((l.lookup x).isSome != ng,δ1)
  |_=>none
 |.chn o1 o2 a b e,δ=>do
  let(x,δ1) <- evE a δ
  let(y,δ2) <- evE b δ1
  let k <- gv o1 x y
  if k then do
   let(z,δ3) <- evE e δ2
   return (<- gv o2 y z,δ3)
  else some (false,δ2)
 |.mt m a b,δ=>do
  let(x,δ1) <- evE a δ
  let(y,δ2) <- evE b δ1
  let d <- mtD m x y
  return (<- tv d,δ2)
 |.ix a b,δ=>do
  let(x,δ1) <- evE a δ
  let(y,δ2) <- evE b δ1
  let d <- ixD x y
  return (<- tv d,δ2)
 |.var i,δ=>do
  let d <- get δ i
  return (<- tv d,δ)
 |.pk i,δ=>do
  let d <- get δ i
  return (<- tv d,δ)
 |.call f es,δ=>do
  let(ds,δ1) <- cT es δ
  let d <- cx.call f ds
  return (<- tv d,δ1)
 |.blt f es,δ=>do
  let(ds,δ1) <- cT es δ
  let d <- hZ f ds
  return (<- tv d,δ1)
 |_,_=>none
noncomputable def cT:Es->Loc->Option (List D×Loc)
 |.nil,δ=>some ([],δ)
 |.cons e es,δ=>do
  let(d,δ1) <- evE e δ
  let(ds,δ2) <- cT es δ1
  return (d::ds,δ2)
noncomputable def evO:Eo->Loc->Option (Option Int×Loc)
 |.no,δ=>some (none,δ)
 |.yes e,δ=>do
  match <- evE e δ with
  |(.int i,δ1)=>some (some i,δ1)
  |_=>none
noncomputable def evG:Eo->Loc->Option (Bool×Loc)
 |.no,δ=>some (true,δ)
 |.yes e,δ=>evT e δ
noncomputable def evI:It->Loc->Option (List D×Loc)
 |.rng e,δ=>do
  match <- evE e δ with
  |(.int j,δ1)=>if -(2^62)<=j/\j<2^62 then some (lA 0 j.toNat,δ1)else none
  |_=>none
 |.rev e,δ=>do
  match <- evE e δ with
  |(.lst ds,δ1)=>some (ds.reverse,δ1)
  |_=>none
 |.sq e,δ=>do
  let(d,δ1) <- evE e δ
  return (<- items d,δ1)
end
end
inductive Out where
 |nx (δ:Loc)|rt (d:D) (δ:Loc)|ro (d:D) (δ:Loc)
mutual
inductive S where
 |asg (tg:Tg) (e:E)
 |new (i:Nat) (e:E)
 |cmp (own:Bool) (i:Nat) (e:E)
 |aug (i:Nat) (op:Op) (e:E)
 |ret (e:E)
 |ifs (c:E) (a b:Ss)
 |for_ (tg:Tg) (src:It) (body:Ss)
 |while_ (c:E) (body:Ss)
 |append (i:Nat) (e:E)
 |ins (i:Nat) (es:Es)
 |setix (i:Nat) (j e:E)
 |opq (f:Cl->Loc->Option Out)
 |bad
inductive Ss where
 |nil|cons (s:S) (ss:Ss)
end
def forL(f:D->Loc->Option Out):List D->Loc->Option Out
 |[],δ=>some (.nx δ)
 |x::xs,δ=>match f x δ with
  |some (.nx δ1)=>forL f xs δ1
  |some (.rt d δ1)=>some (.rt d δ1)
  |some (.ro ds δ1)=>some (.ro ds δ1)
  |none=>none
def lr(c:Loc->Option (Bool×Loc))(f:Loc->Option Out):Nat->Loc->Option Out
 |0,_=>none
 |n+1,δ=>match c δ with
  |some (true,δ1)=>match f δ1 with
   |some (.nx δ2)=>lr c f n δ2
   |some (.rt d δ2)=>some (.rt d δ2)
   |some (.ro ds δ2)=>some (.ro ds δ2)
   |none=>none
  |some (false,δ1)=>some (.nx δ1)
  |none=>none
def sH:Nat:=1000000
section
variable(cx:Cl)
mutual
noncomputable def evS:S->Loc->Option Out
 |.asg tg e,δ=>do
  let(d,δ1) <- evE cx e δ
  return .nx (<- dA δ1 tg d)
 |.new i e,δ=>do
  match <- evE cx e δ with
  |(.lst ds,δ1)=>if i<δ1.length then some (.nx (δ1.set i (.own ds)))else none
  |_=>none
 |.cmp own i e,δ=>do
  match <- evE cx e δ with
  |(.lst ds,δ1)=>if i<δ1.length then some (.nx (δ1.set i (if own then .own ds else .val (.lst ds))))else none
  |_=>none
 |.aug i op e,δ=>do
  match δ[i]? with
  |some (.val x)=>do
   let(y,δ1) <- evE cx e δ
   match op with
   |.add=>(Eh x y).map λz=>.nx (δ1.set i (.val z))
   |_=>none
  |_=>none
 |.ret e,δ=>do
  let(d,δ1) <- evE cx e δ
  return .rt d δ1
 |.ifs c a b,δ=>do
  let(k,δ1) <- evT cx c δ
  if k then cW a δ1 else cW b δ1
 |.for_ tg src body,δ=>do
  let(ds,δ1) <- evI cx src δ
  forL (λx δ0=>match dA δ0 tg x with
   |some δ2=>cW body δ2
   |none=>none) ds δ1
 |.while_ c body,δ=>lr (λδ0=>evT cx c δ0) (λδ0=>cW body δ0) 1000 δ
 |.append i e,δ=>match δ[i]? with
  |some (.own _)=>do
   let(d,δ1) <- evE cx e δ
   match δ1[i]? with
   |some (.own ds)=>if ds.length<sizeLine then some (.nx (δ1.set i (.own (ds++[d]))))else none
   |_=>none
  |_=>none
 |.ins i es,δ=>match δ[i]? with
  |some (.own _)=>do
   match <- cT cx es δ with
   |([.int n,d],δ1)=>match δ1[i]? with
    |some (.own ds)=>if 0<=n/\n<2^62/\ds.length<sizeLine then some (.nx (δ1.set i (.own (ds.take n.toNat++d::ds.drop n.toNat))))else none
    |_=>none
   |_=>none
  |_=>none
 |.setix i j e,δ=>do
  let(d,δ1) <- evE cx e δ
  match δ1[i]? with
  |some (.own _)=>do
   match <- evE cx j δ1 with
   |(.int k,δ2)=>match δ2[i]? with
    |some (.own ds)=>match L2.ixN ds.length k with
     |some m=>some (.nx (δ2.set i (.own (ds.set m d))))
     |none=>none
    |_=>none
   |_=>none
  |_=>none
 |.opq f,δ=>f cx δ
 |.bad,_=>none
noncomputable def cW:Ss->Loc->Option Out
 |.nil,δ=>some (.nx δ)
 |.cons s ss,δ=>match evS s δ with
  |some (.nx δ1)=>cW ss δ1
  |o=>o
end
end
structure Fd where
 name:Str
 ps:List Str
 loc:List Str
 body:Ss
 hf:Bool:=false
def outD:Option Out->Option D
 |some (.rt d _)=>some d
 |some (.ro d _)=>some d
 |some (.nx _)=>some .non
 |_=>none
def Ki:Option Out->Option D
 |some (.ro d _)=>some d
 |_=>none
def init(n:Nat)(ds:List D):Loc:=ds.map .val++aC (n-ds.length) .no
def hfs(G:List Fd)(f:Nat):Bool:=match G[f]? with
 |some fd=>fd.hf
 |none=>false
def Nl(n:Nat)(ds:List D)(k:Nat)(cs:List D):Loc:=ds.map .val++Sl.fnc k cs::aC (n-(ds.length+1)) .no
def entry(hf:Bool)(n:Nat)(ds:List D):Option Loc:=match hf with
 |false=>some (init n ds)
 |true=>match ds.getLast? with
  |some (.fn k cs)=>some (Nl n ds.dropLast k cs)
  |_=>none
def run(G:List Fd)(gl:List D):Nat->Nat->List D->Option D
 |0,_,_=>none
 |n+1,f,ds=>match G[f]? with
  |some fd=>if ds.length=fd.ps.length then(match entry fd.hf (fd.ps++fd.loc).length ds with
   |some δ=>outD (cW ⟨run G gl n,gl,hfs G⟩ fd.body δ)
   |none=>none)else none
  |none=>match G[f-sH]? with
   |some fd=>if sH<=f/\ds.length=fd.ps.length then(match entry fd.hf (fd.ps++fd.loc).length ds with
    |some δ=>Ki (cW ⟨run G gl n,gl,hfs G⟩ fd.body δ)
    |none=>none)else none
   |none=>none
def bp:E->Bool
 |.pk _=>true
 |_=>false
mutual
noncomputable def np:E->Bool
 |.bin _ a b|.cmp _ a b|.and a b|.or a b|.ix a b|.mt _ a b=>np a&&np b
 |.chn _ _ a b e=>np a&&np b&&np e
 |.gin _ _ _ e|.gix _ _ e=>np e
 |.dgt a b e=>np a&&np b&&np e
 |.not a=>np a
 |.neg a=>np a
 |.ite c a b=>np c&&np a&&np b
 |.tup es|.lst es|.call _ es|.blt _ es=>npS es
 |.sl a lo hi=>np a&&npO lo&&npO hi
 |.rvl a h s=>np a&&npO h&&npO s
 |.pop _=>false
 |.popi _ _=>false
 |.comp _ _ src ifs elt=>npI src&&npO ifs&&np elt
 |_=>true
noncomputable def npS:Es->Bool
 |.nil=>true
 |.cons e es=>np e&&npS es
noncomputable def npO:Eo->Bool
 |.no=>true
 |.yes e=>np e
noncomputable def npI:It->Bool
 |.rng e=>np e
 |.rev e=>np e
 |.sq e=>np e
end
end PP
example:PP.evE ⟨λ_ _=>none,[],λ_=>false⟩ (.bin .add (.int 1) (.int 2)) []=some (.int 3,[]):=rfl
end
section
namespace PP
open PySem L2
def KLs(K:PySem.W.Frag)(a:av)(xs:List V):Prop:=∃(its:Array ai)(n:Nat),K.lookup a=some ⟨.type "list",none,.seq its n,#[]⟩/\its.size<=sizeLine/\Vals xs its.toList
def Ls(K:PySem.W.Frag)(H:Hp)(F:av->Prop)(a:av)(xs:List V):Prop:=(Rd H a (.lst xs)/\¬F a)\/KLs K a xs
def LsB(K:PySem.W.Frag)(H:Hp)(a:av)(xs:List V):Prop:=Rd H a (.lst xs)\/KLs K a xs
def Ls.b{K:PySem.W.Frag}{H:Hp}{F:av->Prop}{a:av}{xs:List V}(h:Ls K H F a xs):LsB K H a xs:=h.imp (·.1) id
def LsB.sq(h:LsB K H a xs):SqL K H a xs:=by
 rcases h with h|⟨its,n,h1,h2,h3⟩
 .exact .inl h
 .exact .inr ⟨_,its,n,h1,rfl,rfl,rfl,h2,h3⟩
def Ls.sq(h:Ls K H F a xs):SqL K H a xs:=h.b.sq
def LsB.obj(I:Inv X pins σ H s)(h:LsB X.K H a xs) :
 ∃(its:List ai)(n:Nat),Vals xs its/\s.heap.get? a=some {cls:=.type "list",data:=.seq its.toArray n}/\xs.length<=sizeLine:=by
 rcases h with h|⟨its,n,h1,h2,h3⟩
 .obtain⟨z,its,n,r,e⟩:=h.ok I.hok;exact⟨its,n,r,e,z⟩
 .refine⟨its.toList,n,h3,?_,?_⟩
  .have:=I.kIn a _ h1;simpa using this
  .have:=h3.length;rw[this];simpa using h2
def zk:List Str->List V->List (Key×V)
 |k::ks,v::vs=>(.inr k,v)::zk ks vs
 |_,_=>[]
mutual
noncomputable def Rel(K:PySem.W.Frag)(H:Hp)(F:av->Prop):D->V->Prop
 |.non,v=>v=.non
 |.bl b,v=>v=.bl b
 |.int i,v=>v=.int i
 |.str x,v=>v=.str x
 |.lst ds,v=>∃a xs,v=.ref a/\Ls K H F a xs/\aH K H F ds xs
 |.tup ds,v=>∃a xs,v=.ref a/\SqT K H a xs/\aH K H F ds xs
 |.fn _ _,_=>False
 |.dct ks ds,v=>∃a vs,v=.ref a/\Rd H a (.dK (zk ks vs))/\¬F a/\ks.Nodup/\ks.length=ds.length/\aH K H F ds vs
noncomputable def aH(K:PySem.W.Frag)(H:Hp)(F:av->Prop):List D->List V->Prop
 |[],xs=>xs=[]
 |d::ds,xs=>∃y ys,xs=y::ys/\Rel K H F d y/\aH K H F ds ys
end
def NT:HO->Prop
 |.tbl _=>False
 |_=>True
structure Sim(H H':Hp):Prop where
 nt:∀b o,NT o->H b=some o->H' b=some o
 tb:∀b ps,H b=some (.tbl ps)->∃qs,H' b=some (.tbl qs)
def Sim.of(h:fD H H'):Sim H H':=⟨λb o _ e=>h b o e,λb ps e=>⟨ps,h b _ e⟩⟩
def Sim.refl(H:Hp):Sim H H:=⟨λb o _ e=>e,λb ps e=>⟨ps,e⟩⟩
def Sim.trans(a:Sim H H1)(b:Sim H1 H2):Sim H H2:=⟨λx o n e=>b.nt x o n (a.nt x o n e),λx ps e=>by
 obtain⟨qs,e⟩:=a.tb x ps e;exact b.tb x qs e⟩
def Fz(H:Hp)(a:av)(o:Obj):Prop:=H a=some (.frz o (.ext λh=>h.get? a=some o))
structure Lam where
 qual:Str
 params:ui
 body:aE
 scope:dQ
 ps:List Str
 caps:List Str
class Tbs where
 ts:List (av×Str)
 lams:List (Nat×Lam)
 gds:List (Str×List (Str×Int))
 dfs:List Nat
variable[Tbs]
def Mo:HO->Prop
 |.lst _=>True
 |.ext _=>True
 |.dK _=>True
 |_=>False
def flV:D->V
 |.bl b=>.bl b
 |.int i=>.int i
 |.str x=>.str x
 |_=>.non
def nD(H:Hp):List av->List D->Prop
 |[],ds=>ds=[]
 |c::r,ds=>∃d ds' o u,ds=d::ds'/\flat d=true/\Fz H c o/\o.data=.cell (some u)/\RelV (flV d) u/\nD H r ds'
def FnV(H:Hp)(k:Nat)(cs:List D)(a:av):Prop:=∃(L:Lam)(pm ctv:ai)(c':av)(oc:Obj)(vs:Array ai)(tk:Tok)(cells:List av),
 Tbs.lams.lookup k=some L/\Fz H a (PySem.W.kla_obj "<lambda>" L.qual L.params L.body L.scope (L.caps.zip cells) pm c' ctv)/\Fz H c' oc/\oc.data=.fields vs/\vs[1]?=some (.str L.qual tk)/\cells.Nodup/\cells.length=L.caps.length/\nD H cells cs
def nD.keep{H H':Hp}(k:∀a o,Fz H a o->Fz H' a o):∀{cells:List av}{cs:List D},nD H cells cs->nD H' cells cs
 |[],_,h=>h
 |c::r,cs,h=>by
  obtain⟨d,ds',o,u,e,h1,h2,h3,h4,h5⟩:=h;exact⟨d,ds',o,u,e,h1,k _ _ h2,h3,h4,nD.keep k h5⟩
def FnV.keep{H H':Hp}(k:∀a o,Fz H a o->Fz H' a o){n:Nat}{cs:List D}{a:av}(h:FnV H n cs a):FnV H' n cs a:=by
 obtain⟨L,pm,ctv,c',oc,vs,tk,cells,h1,h2,h3,h4,h5,h6,h7,h8⟩:=h;exact⟨L,pm,ctv,c',oc,vs,tk,cells,h1,k _ _ h2,k _ _ h3,h4,h5,h6,h7,h8.keep k⟩
def lG(H:Hp):Prop:=∀t∈Tbs.ts,∃ps,H t.1=some (.tbl ps)/\TriplesOk ps.toList/\∀pos cv,codeAmong pos ps.toList=some cv->∃c o vs tk,cv=.ref c/\Fz H c o/\o.data=.fields vs/\vs[1]?=some (.str t.2 tk)
def lG.keep{H H':Hp}(h:lG H)(k:∀b o,¬Mo o->H b=some o->H' b=some o):lG H':=λt ht=>by
 obtain⟨ps,h1,h2,h3⟩:=h t ht;refine⟨ps,k _ _ (λz=>z) h1,h2,λpos cv e=>?_⟩;obtain⟨c,o,vs,tk,e1,e2,e3⟩:=h3 pos cv e;exact⟨c,o,vs,tk,e1,k _ _ (λz=>z) e2,e3⟩
def FD(F:av->Prop)(H:Hp):Prop:=∀b,F b->∃o,H b=some o/\(Mo o\/(∃ps,o=.tbl ps)/\∃t∈Tbs.ts,t.1=b)
def FD.not(fd:FD F H)(e:H a=some o)(n:¬Mo o)(t:NT o):¬F a:=λz=>by
 obtain⟨u,e2,h⟩:=fd a z;rw[e]at e2;cases e2;rcases h with h|⟨⟨ps,rfl⟩,_⟩
 .exact n h
 .exact t
def FD.none(fd:FD F H)(e:H a=Option.none):¬F a:=λz=>by
 obtain⟨u,e2,_⟩:=fd a z;rw[e]at e2;cases e2
def TF(F:av->Prop):Prop:=∀t∈Tbs.ts,F t.1
structure Gh where
 h:Hp
 R:av->Prop
def Gh.free(G:Gh)(a:av):Prop:=G.h a=none/\¬G.R a
def g0:Gh:=⟨λ_=>none,λ_=>False⟩
structure Step(G:Gh)(F:av->Prop)(H:Hp)(F':av->Prop)(H':Hp):Prop where
 keep:∀b o,NT o->H b=some o->¬F b->H' b=some o
 grow:∀b,F' b->F b\/H b=none
 res:∀b o,G.R b->F b->H b=some o->F' b/\H' b=some o
 tb:∀b ps,H b=some (.tbl ps)->∃qs,H' b=some (.tbl qs)
def Step.refl:Step G F H F H:=⟨λ_ _ _ h _=>h,λ_ h=>.inl h,λ_ _ _ h e=>⟨h,e⟩,λ_ ps e=>⟨ps,e⟩⟩
def Step.trans(a:Step G F H F1 H1)(b:Step G F1 H1 F2 H2):Step G F H F2 H2 where
 keep:=λx o t h n=>b.keep x o t (a.keep x o t h n) λz=>by
  rcases a.grow x z with q|q
  .exact n q
  .rw[h]at q;cases q
 grow:=λx h=>by
  rcases b.grow x h with q|q
  .exact a.grow x q
  .by_cases f:F x
   .exact .inl f
   .right
    cases e:H x with
    |none=>rfl
    |some o =>
     by_cases t:NT o
     .rw[a.keep x o t e f]at q;cases q
     .cases o<;>first|(exact absurd trivial t)|skip
      obtain⟨qs,z⟩:=a.tb x _ e;rw[z]at q;cases q
 res:=λx o r h e=>by
  obtain⟨h1,e1⟩:=a.res x o r h e;exact b.res x o r h1 e1
 tb:=λx ps e=>by
  obtain⟨qs,e⟩:=a.tb x ps e;exact b.tb x qs e
def Step.of_same(h:fD H H'):Step G F H F H':=⟨λb o _ e _=>h b o e,λ_ h=>.inl h,λb o _ f e=>⟨f,h b o e⟩,λb ps e=>⟨ps,h b _ e⟩⟩
section
variable{K:PySem.W.Frag}{G:Gh}{H H':Hp}{F F':av->Prop}
def yj(t:NT u)(k:∀b o,NT o->H b=some o->¬F b->H' b=some o)(n:¬F a)(h:Rd H a u):Rd H' a u:=by
 rcases h with h|⟨o,h⟩
 .exact .inl (k a _ t h n)
 .exact .inr ⟨o,k a _ trivial h n⟩
def uM(fd:FD F H)(k:∀b o,NT o->H b=some o->¬F b->H' b=some o)(h:SqT K H a xs):SqT K H' a xs:=by
 rcases h with h|h
 .refine .inl (yj trivial k (λz=>?_) h);rcases h with h|⟨o,h⟩
  .exact fd.not h (λz=>z) trivial z
  .exact fd.not h (λz=>z) trivial z
 .exact .inr h
def Ls.step{a:av}{xs:List V}(s:Step G F H F' H')(h:Ls K H F a xs):Ls K H' F' a xs:=by
 rcases h with⟨h1,h2⟩|h
 .refine .inl ⟨yj trivial s.keep h2 h1,λz=>?_⟩;rcases s.grow a z with q|q
  .exact h2 q
  .rcases h1 with h|⟨o,h⟩
   .rw[h]at q;cases q
   .rw[h]at q;cases q
 .exact .inr h
def sX(fd:FD F H)(k:∀b o,NT o->H b=some o->¬F b->H' b=some o):∀a o,Fz H a o->Fz H' a o:=λa o h=>by
 exact k a _ trivial h (fd.not h (λz=>z) trivial)
mutual
theorem Rel.step(fd:FD F H)(s:Step G F H F' H'):∀(d:D)(v:V),Rel K H F d v->Rel K H' F' d v
 |.non,v,h=>by unfold Rel at h |-;exact h
 |.bl b,v,h=>by unfold Rel at h |-;exact h
 |.int i,v,h=>by unfold Rel at h |-;exact h
 |.str x,v,h=>by unfold Rel at h |-;exact h
 |.lst ds,v,h=>by
  unfold Rel at h |-;obtain⟨a,xs,e,h1,h3⟩:=h
  exact⟨a,xs,e,h1.step s,aH.step fd s ds xs h3⟩
 |.tup ds,v,h=>by
  unfold Rel at h |-;obtain⟨a,xs,e,h1,h3⟩:=h
  exact⟨a,xs,e,uM fd s.keep h1,aH.step fd s ds xs h3⟩
 |.fn _ _,v,h=>by unfold Rel at h;exact h.elim
 |.dct ks ds,v,h=>by
  unfold Rel at h |-;obtain⟨a,vs,e,h1,h2,h3,h4,h5⟩:=h;refine⟨a,vs,e,h1.elim (λh1=>.inl (s.keep a _ trivial h1 h2)) λ⟨o,h1⟩=>.inr ⟨o,s.keep a _ trivial h1 h2⟩,λz=>?_,h3,h4,aH.step fd s ds vs h5⟩;rcases s.grow a z with q|q
  .exact h2 q
  .rcases h1 with h1|⟨o,h1⟩<;>(rw[h1]at q;cases q)
theorem aH.step(fd:FD F H)(s:Step G F H F' H'):∀(ds:List D)(xs:List V),aH K H F ds xs->aH K H' F' ds xs
 |[],xs,h=>by unfold aH at h |-;exact h
 |d::ds,xs,h=>by
  unfold aH at h |-;obtain⟨y,ys,e,h1,h2⟩:=h;exact⟨y,ys,e,Rel.step fd s d y h1,aH.step fd s ds ys h2⟩
end
def Rel.less(fd:FD F H)(hs:∀b,F' b->F b){d:D}{v:V}(h:Rel K H F d v):Rel K H F' d v :=
 Rel.step (G:=g0) fd ⟨λ_ _ _ h _=>h,λb z=>.inl (hs b z),λ_ _ r _ _=>r.elim,λ_ ps e=>⟨ps,e⟩⟩ d v h
def aH.less(fd:FD F H)(hs:∀b,F' b->F b){ds:List D}{xs:List V}(h:aH K H F ds xs):aH K H F' ds xs :=
 aH.step (G:=g0) fd ⟨λ_ _ _ h _=>h,λb z=>.inl (hs b z),λ_ _ r _ _=>r.elim,λ_ ps e=>⟨ps,e⟩⟩ ds xs h
def aH.length:∀{ds:List D}{xs:List V},aH K H F ds xs->xs.length=ds.length
 |[],xs,h=>by unfold aH at h;subst h;rfl
 |d::ds,xs,h=>by
  unfold aH at h;obtain⟨y,ys,e,_,h2⟩:=h;subst e;rw[ag,ag,aH.length h2]
def aH.get:∀{ds:List D}{xs:List V}{i:Nat}{d:D},aH K H F ds xs->ds[i]?=some d->∃v,xs[i]?=some v/\Rel K H F d v
 |[],_,_,_,_,e=>by simp at e
 |d::ds,xs,i,d',h,e=>by
  unfold aH at h;obtain⟨y,ys,q,h1,h2⟩:=h;subst q
  cases i with
  |zero=>simp at e;subst e;exact⟨y,rfl,h1⟩
  |succ i =>
   obtain⟨v,h3,h4⟩:=aH.get (i:=i) h2 (by simpa using e);exact⟨v,by simpa using h3,h4⟩
def aH.append:∀{ds es:List D}{xs ys:List V},aH K H F ds xs->aH K H F es ys->aH K H F (ds++es) (xs++ys)
 |[],es,xs,ys,h,h'=>by unfold aH at h;subst h;exact h'
 |d::ds,es,xs,ys,h,h'=>by
  unfold aH at h;obtain⟨y,zs,q,h1,h2⟩:=h;subst q;show aH K H F (d::(ds++es)) (y::(zs++ys));unfold aH;exact⟨y,zs++ys,rfl,h1,aH.append h2 h'⟩
def aH.one(h:Rel K H F d v):aH K H F [d] [v]:=by
 unfold aH;exact⟨v,[],rfl,h,by unfold aH;rfl⟩
def aH.nil:aH K H F [] []:=by unfold aH;rfl
def aH.cons{d:D}{v:V}{ds:List D}{xs:List V}(h:Rel K H F d v)(t:aH K H F ds xs):aH K H F (d::ds) (v::xs):=by
 unfold aH;exact⟨v,xs,rfl,h,t⟩
def aH.take:∀{ds:List D}{xs:List V}(n:Nat),aH K H F ds xs->aH K H F (ds.take n) (xs.take n)
 |[],xs,n,h=>by unfold aH at h;subst h;simp;exact aH.nil
 |d::ds,xs,0,h=>by simp;exact aH.nil
 |d::ds,xs,n+1,h=>by
  unfold aH at h;obtain⟨y,ys,q,h1,h2⟩:=h;subst q;rw[Aw,Aw];exact aH.cons h1 (aH.take n h2)
def aH.drop:∀{ds:List D}{xs:List V}(n:Nat),aH K H F ds xs->aH K H F (ds.drop n) (xs.drop n)
 |[],xs,n,h=>by unfold aH at h;subst h;simp;exact aH.nil
 |d::ds,xs,0,h=>h
 |d::ds,xs,n+1,h=>by
  unfold aH at h;obtain⟨y,ys,q,h1,h2⟩:=h;subst q;rw[AD,AD];exact aH.drop n h2
def aH.set{d:D}{v:V}(r:Rel K H F d v):∀{ds:List D}{xs:List V}(n:Nat),aH K H F ds xs->aH K H F (ds.set n d) (xs.set n v)
 |[],xs,n,h=>by unfold aH at h;subst h;simp;exact aH.nil
 |e::ds,xs,0,h=>by
  unfold aH at h;obtain⟨y,ys,q,h1,h2⟩:=h;subst q
  exact aH.cons r h2
 |e::ds,xs,n+1,h=>by
  unfold aH at h;obtain⟨y,ys,q,h1,h2⟩:=h;subst q;exact aH.cons h1 (aH.set r n h2)
def aH.dropLast(h:aH K H F ds xs):aH K H F ds.dropLast xs.dropLast:=by
 rw[gF,gF,h.length];exact h.take _
def aH.cut(lo hi:Option Int)(h:aH K H F ds xs):aH K H F (cutD ds lo hi) (qp xs lo hi):=by
 unfold cutD qp;rw[h.length];exact(h.drop _).take _
end
def dc(K:PySem.W.Frag)(H:Hp)(F:av->Prop)(d:D)(v:V):Prop:=Rel K H F d v\/∃a xs ds,d=.lst ds/\v=.ref a/\H a=some (.lst xs)/\aH K H F ds xs
def RelM(m:Bool)(K:PySem.W.Frag)(H:Hp)(F:av->Prop)(d:D)(v:V):Prop:=if m=true then dc K H F d v else Rel K H F d v
def RelM.b{m:Bool}{K:PySem.W.Frag}{H:Hp}{F:av->Prop}{d:D}{v:V}(h:RelM m K H F d v):dc K H F d v:=by
 unfold RelM at h;split at h
 .exact h
 .exact .inl h
def dc.same{K:PySem.W.Frag}{G:Gh}{H H':Hp}{F F':av->Prop}{d:D}{v:V}(fd:FD F H)(s:Step G F H F' H')(k:Sim H H')(h:dc K H F d v):dc K H' F' d v:=by
 rcases h with h|⟨a,xs,ds,e1,e2,h1,h2⟩
 .exact .inl (Rel.step fd s d v h)
 .exact .inr ⟨a,xs,ds,e1,e2,k.nt _ _ trivial h1,aH.step fd s ds xs h2⟩
def RelM.step{m:Bool}{K:PySem.W.Frag}{G:Gh}{H H':Hp}{F F':av->Prop}{d:D}{v:V}(fd:FD F H)(s:Step G F H F' H')(k:m=true->Sim H H')(h:RelM m K H F d v):RelM m K H' F' d v:=by
 cases m with
 |true=>exact dc.same fd s (k rfl) h
 |false=>exact Rel.step fd s d v h
def eV(K:PySem.W.Frag)(G:Gh)(F:av->Prop)(H:Hp)(o:Option (Option V)):Sl->Prop
 |.no=>True
 |.val d=>∃v,o=some (some v)/\Rel K H F d v
 |.own ds=>∃a xs,o=some (some (.ref a))/\F a/\G.free a/\H a=some (.lst xs)/\aH K H F ds xs
 |.fnc k cs=>∃a,o=some (some (.ref a))/\FnV H k cs a
 |.odc ks ds=>∃a vs,o=some (some (.ref a))/\F a/\G.free a/\H a=some (.dK (zk ks vs))/\ks.Nodup/\ks.length=ds.length/\aH K H F ds vs
def ow:Sl->Bool
 |.own _=>true
 |.odc _ _=>true
 |_=>false
structure Ok(K:PySem.W.Frag)(G:Gh)(F:av->Prop)(σ:St)(H:Hp)(δ:Loc):Prop where
 same:Sim G.h H
 fd:FD F H
 rf:∀b,G.R b->F b
 rl:∀b,G.R b->∃o,H b=some o/\Mo o
 tf:TF F
 tabs:lG H
 len:δ.length=σ.length
 sl:∀(i:Nat)(s:Sl),δ[i]?=some s->eV K G F H σ[i]? s
 apart:∀(i j:Nat)(s t:Sl)(a:av),δ[i]?=some s->δ[j]?=some t->ow s=true->ow t=true->σ[i]?=some (some (.ref a))->σ[j]?=some (some (.ref a))->i=j
section
variable{K:PySem.W.Frag}{G:Gh}{H H':Hp}{F F':av->Prop}{σ:St}{δ:Loc}
def eV.same{o:Option (Option V)}(fd:FD F H)(k:fD H H'):∀{s:Sl},eV K G F H o s->eV K G F H' o s
 |.no,_=>trivial
 |.val d,h=>by
  obtain⟨v,e,h⟩:=h
  exact⟨v,e,Rel.step (G:=G) fd (Step.of_same k) d v h⟩
 |.own ds,h=>by
  obtain⟨a,xs,e,h1,h2,h3,h4⟩:=h
  exact⟨a,xs,e,h1,h2,k _ _ h3,aH.step (G:=G) fd (Step.of_same k) ds xs h4⟩
 |.fnc n cs,h=>by
  obtain⟨a,e,h⟩:=h
  exact⟨a,e,h.keep λa o z=>k _ _ z⟩
 |.odc ks ds,h=>by
  obtain⟨a,xs,e,h1,h2,h3,h4,h5,h6⟩:=h;exact⟨a,xs,e,h1,h2,k _ _ h3,h4,h5,aH.step (G:=G) fd (Step.of_same k) ds xs h6⟩
def FD.same(fd:FD F H)(k:fD H H'):FD F H':=λb h=>by
 obtain⟨o,e,q⟩:=fd b h;exact⟨o,k _ _ e,q⟩
def yg{P:av->Prop}(h:∀b,P b->∃o,H b=some o/\Mo o)(k:fD H H'):∀b,P b->∃o,H' b=some o/\Mo o:=λb z=>by
 obtain⟨o,e,q⟩:=h b z;exact⟨o,k _ _ e,q⟩
def Ok.same'(h:Ok K G F σ H δ)(k:fD H H'):Ok K G F σ H' δ :=
 ⟨h.same.trans (.of k),h.fd.same k,h.rf,yg h.rl k,h.tf,h.tabs.keep λb o _ e=>k b o e,h.len,λi s e=>(h.sl i s e).same h.fd k,h.apart⟩
def cH(h:H p=none)(o:HO):fD H (upd H p o):=λb u q=>by rw[bF (gp q h)];exact q
def eV.less{o:Option (Option V)}(fd:FD F H)(hs:∀b,F' b->F b):∀{s:Sl},(∀a,ow s=true->o=some (some (.ref a))->F' a)->eV K G F H o s->eV K G F' H o s
 |.no,_,_=>trivial
 |.val d,_,h=>by
  obtain⟨v,e,h⟩:=h
  exact⟨v,e,Rel.less fd hs h⟩
 |.own ds,q,h=>by
  obtain⟨a,xs,e,h1,h2,h3,h4⟩:=h
  exact⟨a,xs,e,q a rfl e,h2,h3,aH.less fd hs h4⟩
 |.fnc n cs,_,h=>h
 |.odc ks ds,q,h=>by
  obtain⟨a,xs,e,h1,h2,h3,h4,h5,h6⟩:=h;exact⟨a,xs,e,q a rfl e,h2,h3,h4,h5,aH.less fd hs h6⟩
inductive gx(K:PySem.W.Frag)(H:Hp)(F:av->Prop):D->HO->Prop
 |lst {ds:List D} {xs:List V}:aH K H F ds xs->gx K H F (.lst ds) (.lst xs)
 |dct {ks:List Str} {ds:List D} {vs:List V}:ks.Nodup->ks.length=ds.length->aH K H F ds vs->gx K H F (.dct ks ds) (.dK (zk ks vs))
def owS:D->Sl
 |.lst ds=>.own ds
 |.dct ks ds=>.odc ks ds
 |_=>.no
def Gq{d d':D}(h:ow (owS d)=true)(e:owS d=owS d'):d=d':=by
 cases d<;>first|(cases h;done)|skip
 .cases d'<;>first|(cases e;rfl)|cases e
 .cases d'<;>first|(cases e;rfl)|cases e
def gx.mo{d:D}{o:HO}(h:gx K H F d o):Mo o/\ow (owS d)=true:=by
 cases h<;>exact⟨trivial,rfl⟩
def gx.step(fd:FD F H)(s:Step G F H F' H'){d:D}{o:HO}(h:gx K H F d o):gx K H' F' d o:=by
 cases h with
 |lst h=>exact .lst (aH.step fd s _ _ h)
 |dct h1 h2 h3=>exact .dct h1 h2 (aH.step fd s _ _ h3)
def gx.sl{o:Option (Option V)}{a:av}{d:D}{u:HO}(e:o=some (some (.ref a)))(hF:F a)(hg:G.free a)(h:H a=some u)(r:gx K H F d u):eV K G F H o (owS d):=by
 cases r with
 |lst r=>exact⟨a,_,e,hF,hg,h,r⟩
 |dct h1 h2 h3=>exact⟨a,_,e,hF,hg,h,h1,h2,h3⟩
def eV.ow{o:Option (Option V)}{s:Sl}(h:eV K G F H o s)(q:ow s=true):∃a u d,o=some (some (.ref a))/\F a/\G.free a/\H a=some u/\gx K H F d u/\s=owS d:=by
 cases s with
 |own ds =>
  obtain⟨a,xs,e,h1,h2,h3,h4⟩:=h
  exact⟨a,_,.lst ds,e,h1,h2,h3,.lst h4,rfl⟩
 |odc ks ds =>
  obtain⟨a,xs,e,h1,h2,h3,h4,h5,h6⟩:=h
  exact⟨a,_,.dct ks ds,e,h1,h2,h3,.dct h4 h5 h6,rfl⟩
 |_=>cases q
def eV.stay0(fd:FD F H)(st:Step G' F H F' H')(k:∀a u,o=some (some (.ref a))->F a->G.free a->H a=some u->F' a/\H' a=some u):∀{s:Sl},eV K G F H o s->eV K G F' H' o s
 |.no,_=>trivial
 |.fnc n cs,h=>by
  obtain⟨v,e,z⟩:=h
  exact⟨v,e,z.keep (sX fd st.keep)⟩
 |.val d,h=>by
  obtain⟨v,e,z⟩:=h
  exact⟨v,e,Rel.step fd st d v z⟩
 |.own ds,h=>by
  obtain⟨a,u,d,e,h1,h2,h3,h4,e5⟩:=eV.ow h rfl;rw[e5];obtain⟨k1,k2⟩:=k a u e h1 h2 h3
  exact gx.sl e k1 h2 k2 (h4.step fd st)
 |.odc ks ds,h=>by
  obtain⟨a,u,d,e,h1,h2,h3,h4,e5⟩:=eV.ow h rfl;rw[e5];obtain⟨k1,k2⟩:=k a u e h1 h2 h3;exact gx.sl e k1 h2 k2 (h4.step fd st)
def eV.stay{o:Option (Option V)}(fd:FD F H)(st:Step G F H F' H')(k:∀a u,o=some (some (.ref a))->F a->G.free a->H a=some u->F' a/\H' a=some u){s:Sl}(h:eV K G F H o s):eV K G F' H' o s:=eV.stay0 fd st k h
def eV.free{G':Gh}{o:Option (Option V)}(k:∀a,F a->G.free a->G'.free a):∀{s:Sl},eV K G F H o s->eV K G' F H o s
 |.no,_=>trivial
 |.fnc n cs,h=>h
 |.val d,h=>h
 |.own ds,h=>by
  obtain⟨a,xs,e,h1,h2,h3⟩:=h
  exact⟨a,xs,e,h1,k a h1 h2,h3⟩
 |.odc ks ds,h=>by
  obtain⟨a,xs,e,h1,h2,h3⟩:=h;exact⟨a,xs,e,h1,k a h1 h2,h3⟩
def gx.rel(fd:FD F H)(hs:∀b,F' b->F b){a:av}(n:¬F' a){d:D}{u:HO}(h:H a=some u)(r:gx K H F d u):Rel K H F' d (.ref a):=by
 cases r with
 |lst r =>
  unfold Rel
  exact⟨a,_,rfl,.inl ⟨.inl h,n⟩,aH.less fd hs r⟩
 |dct h1 h2 h3 =>
  unfold Rel;exact⟨a,_,rfl,.inl h,n,h1,h2,aH.less fd hs h3⟩
inductive Hand(K:PySem.W.Frag)(H:Hp)(F:av->Prop)(a:av):D->V->Prop
 |one {d:D} {u:HO}:H a=some u->gx K H F d u->Hand K H F a d (.ref a)
 |tup {l zs:List D} {xs vs:List V} {t:av}:H a=some (.lst xs)->aH K H F l xs->SqT K H t (.ref a::vs)->aH K H F zs vs->Hand K H F a (.tup (.lst l::zs)) (.ref t)
def Hand.less(fd:FD F H)(hs:∀b,F' b->F b){a:av}{d:D}{v:V}(h:Hand K H F a d v):Hand K H F' a d v:=by
 cases h with
 |one h r =>
  refine .one h ?_
  cases r with
  |lst r=>exact .lst (aH.less fd hs r)
  |dct h1 h2 h3=>exact .dct h1 h2 (aH.less fd hs h3)
 |tup h r t z=>exact .tup h (aH.less fd hs r) t (aH.less fd hs z)
def Hand.rel(fd:FD F H)(hs:∀b,F' b->F b){a:av}(n:¬F' a){d:D}{v:V}(h:Hand K H F a d v):Rel K H F' d v:=by
 cases h with
 |one h r=>exact gx.rel fd hs n h r
 |tup h r t z =>
  have e:=gx.rel fd hs n h (.lst r);unfold Rel;refine⟨_,_,rfl,t,?_⟩;unfold aH;exact⟨_,_,rfl,e,aH.less fd hs z⟩
def fF{α:Type}{l:List α}{i j:Nat}{x y:α}(hi:i<l.length)(q:(l.set i x)[j]?=some y):(j=i/\y=x)\/(j≠i/\l[j]?=some y):=by
 by_cases hj:j=i
 .subst hj;rw[bI hi]at q;cases q;exact .inl ⟨rfl,rfl⟩
 .rw[aM (Ne.symm hj)]at q;exact .inr ⟨hj,q⟩
def Ok.demote(h:Ok K G F σ H δ){i:Nat}{d:D}{a:av}(e:δ[i]?=some (owS d))(eo:ow (owS d)=true)(ea:σ[i]?=some (some (.ref a))) :
 Ok K G (λb=>F b/\b≠a) σ H (δ.set i (.val d))/\Rel K H (λb=>F b/\b≠a) d (.ref a):=by
 have hi:i<δ.length:=(aF.mp e).1;obtain⟨a',u,d',e1,h1,h2,h3,h4,ed⟩:=eV.ow (h.sl i _ e) eo;rw[ea]at e1;cases e1;have ed:=Gq eo ed;subst ed;have hs:∀b,(F b/\b≠a)->F b:=λb z=>z.1;have r:Rel K H (λb=>F b/\b≠a) d (.ref a):=gx.rel h.fd hs (λz=>z.2 rfl) h3 h4
 have tf':TF λb=>F b/\b≠a:=λt ht=>⟨h.tf t ht,λw=>by
  obtain⟨ps,e2,_⟩:=h.tabs t ht;rw[w,h3]at e2;cases e2;exact h4.mo.1⟩
 refine⟨⟨h.same,λb z=>h.fd b z.1,λb z=>⟨h.rf b z,λw=>h2.2 (by rw[<- w];exact z)⟩,h.rl,tf',h.tabs,by rw[bb];exact h.len,λj s q=>?_,λj k s t b q1 q2 o1 o2 p1 p2=>?_⟩,r⟩
 .rcases fF hi q with⟨rfl,rfl⟩|⟨hj,q⟩
  .exact⟨.ref a,ea,r⟩
  .refine(h.sl j s q).less h.fd hs λb z zb=>?_;obtain⟨b',u',d',e1,f1,_⟩:=eV.ow (h.sl j _ q) z;rw[zb]at e1;cases e1;exact⟨f1,λw=>hj (h.apart j i _ _ a q e z eo (by rw[zb,w]) ea)⟩
 .rcases fF hi q1 with⟨rfl,rfl⟩|⟨hj,q1⟩
  .cases o1
  .rcases fF hi q2 with⟨rfl,rfl⟩|⟨hk,q2⟩
   .cases o2
   .exact h.apart j k s t b q1 q2 o1 o2 p1 p2
def Ok.set(h:Ok K G F σ H δ){i:Nat}{d:D}{v:V}(hi:i<δ.length)(r:Rel K H F d v):Ok K G F (σ.set i (some v)) H (δ.set i (.val d)):=by
 have hi':i<σ.length:=by rw[<- h.len];exact hi
 refine⟨h.same,h.fd,h.rf,h.rl,h.tf,h.tabs,by rw[bb,bb];exact h.len,λj s q=>?_,λj k s t b q1 q2 o1 o2 p1 p2=>?_⟩
 .rcases fF hi q with⟨rfl,rfl⟩|⟨hj,q⟩
  .exact⟨v,by rw[bI hi'],r⟩
  .rw[aM (Ne.symm hj)];exact h.sl j s q
 .rcases fF hi q1 with⟨rfl,rfl⟩|⟨hj,q1⟩
  .cases o1
  .rcases fF hi q2 with⟨rfl,rfl⟩|⟨hk,q2⟩
   .cases o2
   .rw[aM (Ne.symm hj)]at p1;rw[aM (Ne.symm hk)]at p2;exact h.apart j k s t b q1 q2 o1 o2 p1 p2
def Ok.ownO(h:Ok K G F σ H δ){i:Nat}{d:D}{u:HO}{p:av}(hi:i<δ.length)(hp:F p)(hg:G.free p)(e:H p=some u)(r:gx K H F d u)
 (hn:∀(j:Nat)s,δ[j]?=some s->ow s=true->σ[j]?≠some (some (.ref p))):Ok K G F (σ.set i (some (.ref p))) H (δ.set i (owS d)):=by
 have hi':i<σ.length:=by rw[<- h.len];exact hi
 refine⟨h.same,h.fd,h.rf,h.rl,h.tf,h.tabs,by rw[bb,bb];exact h.len,λj s q=>?_,λj k s t b q1 q2 o1 o2 p1 p2=>?_⟩
 .rcases fF hi q with⟨rfl,rfl⟩|⟨hj,q⟩
  .exact gx.sl (by rw[bI hi']) hp hg e r
  .rw[aM (Ne.symm hj)];exact h.sl j s q
 .rcases fF hi q1 with⟨rfl,rfl⟩|⟨hj,q3⟩
  .rcases fF hi q2 with⟨rfl,rfl⟩|⟨hk,q2⟩
   .rfl
   .rw[bI hi']at p1;rw[aM (Ne.symm hk)]at p2;cases p1;exact(hn k t q2 o2 p2).elim
  .rw[aM (Ne.symm hj)]at p1;rcases fF hi q2 with⟨rfl,rfl⟩|⟨hk,q2⟩
   .rw[bI hi']at p2;cases p2;exact(hn j s q3 o1 p1).elim
   .rw[aM (Ne.symm hk)]at p2;exact h.apart j k s t b q3 q2 o1 o2 p1 p2
def Ok.own(h:Ok K G F σ H δ){i:Nat}{ds:List D}{xs:List V}{p:av}(hi:i<δ.length)(hp:F p)(hg:G.free p)(e:H p=some (.lst xs))(r:aH K H F ds xs)
 (hn:∀(j:Nat)s,δ[j]?=some s->ow s=true->σ[j]?≠some (some (.ref p))):Ok K G F (σ.set i (some (.ref p))) H (δ.set i (.own ds)):=h.ownO (d:=.lst ds) hi hp hg e (.lst r) hn
def Ok.writeO(h:Ok K G F σ H δ){i:Nat}{d d':D}{a:av}{u:HO}(e:δ[i]?=some (owS d))(eo:ow (owS d)=true)(ea:σ[i]?=some (some (.ref a)))(r:gx K H F d' u) :
 Ok K G F σ (upd H a u) (δ.set i (owS d'))/\Step G F H F (upd H a u):=by
 have hi:i<δ.length:=(aF.mp e).1;have e':=e;obtain⟨a',x,d0,e1,h1,h2,h3,h4,_⟩:=eV.ow (h.sl i _ e) eo;rw[ea]at e1;cases e1
 have nt:NT x:=by
  have m:=h4.mo.1;cases x<;>first|trivial|exact m
 have st:Step G F H F (upd H a u):=⟨λb o _ q n=>by
  rw[bF (λz:b=a=>n (by rw[z];exact h1))];exact q,λb z=>.inl z,λb o r z e=>⟨z,by rw[bF (λw:b=a=>h2.2 (by rw[<- w];exact r))];exact e⟩,λb ps e=>⟨ps,by rw[bF (λw:b=a=>by rw[w,h3]at e;cases e;exact nt)];exact e⟩⟩
 have tb':lG (upd H a u):=h.tabs.keep λb o n e=>by rw[bF (λw:b=a=>by rw[w,h3]at e;cases e;exact n h4.mo.1)];exact e
 refine⟨⟨⟨λb o t q=>?_,λb ps q=>?_⟩,λb z=>?_,h.rf,λb z=>?_,h.tf,tb',by rw[bb];exact h.len,λj s q=>?_,λj k s t b q1 q2 o1 o2 p1 p2=>?_⟩,st⟩
 .have:=h.same.nt b o t q;rw[bF (λz:b=a=>by rw[z,h2.1]at q;cases q)];exact this
 .rw[bF (λz:b=a=>by rw[z,h2.1]at q;cases q)];exact h.same.tb b ps q
 .by_cases hb:b=a
  .subst hb;exact⟨u,bK,.inl r.mo.1⟩
  .rw[bF hb];exact h.fd b z
 .by_cases hb:b=a
  .subst hb;exact⟨u,bK,r.mo.1⟩
  .rw[bF hb];exact h.rl b z
 .rcases fF hi q with⟨rfl,rfl⟩|⟨hj,q⟩
  .exact gx.sl ea h1 h2 bK (r.step h.fd st)
  .cases eq:ow s with
   |true =>
    refine eV.stay h.fd st (λb v e f1 f2 f3=>⟨f1,?_⟩) (h.sl j s q);rw[bF (λw:b=a=>hj (h.apart j i _ _ a q e' eq eo (by rw[e,w]) ea))]
    exact f3
   |false =>
    have z:=h.sl j s q
    cases s with
    |no=>trivial
    |fnc n cs =>
     obtain⟨v,e,z⟩:=z
     exact⟨v,e,z.keep (sX h.fd st.keep)⟩
    |val d =>
     obtain⟨v,e,z⟩:=z
     exact⟨v,e,Rel.step h.fd st d v z⟩
    |own _=>cases eq
    |odc _ _=>cases eq
 .have un:∀(m:Nat)(g:Sl),(δ.set i (owS d'))[m]?=some g->ow g=true->∃g',δ[m]?=some g'/\ow g'=true:=λm g q o=>by
   rcases fF hi q with⟨rfl,rfl⟩|⟨hj,q⟩
   .exact⟨_,e,eo⟩
   .exact⟨g,q,o⟩
  obtain⟨g1,q1,o1⟩:=un j _ q1 o1;obtain⟨g2,q2,o2⟩:=un k _ q2 o2;exact h.apart j k g1 g2 b q1 q2 o1 o2 p1 p2
def Ok.write(h:Ok K G F σ H δ)(e:δ[i]?=some (.own ds))(ea:σ[i]?=some (some (.ref a)))(r:aH K H F es ys) :
 Ok K G F σ (upd H a (.lst ys)) (δ.set i (.own es))/\Step G F H F (upd H a (.lst ys)):=h.writeO (d:=.lst ds) (d':=.lst es) e rfl ea (.lst r)
def Mo.nt{o:HO}(m:Mo o):NT o:=by
 cases o<;>first|trivial|exact m
def Step.of_sim(rl:∀b,G.R b->∃o,H b=some o/\Mo o)(k:Sim H H'):Step G F H F H':=⟨λb o t e _=>k.nt b o t e,λb z=>.inl z,λb o r f e=>⟨f,by
 obtain⟨u,e2,m⟩:=rl b r;rw[e]at e2;cases e2;exact k.nt b _ m.nt e⟩,k.tb⟩
def Ok.call(h:Ok K G F σ H δ)(k:Sim H H')(t:lG H'):Ok K G F σ H' δ/\Step G F H F H':=by
 have st:Step G F H F H':=Step.of_sim h.rl k;refine⟨⟨h.same.trans k,λb z=>?_,h.rf,λb z=>?_,h.tf,t,h.len,λi s e=>?_,h.apart⟩,st⟩
 .obtain⟨o,e,m⟩:=h.fd b z;rcases m with m|⟨⟨ps,rfl⟩,t⟩
  .exact⟨o,k.nt _ _ m.nt e,.inl m⟩
  .obtain⟨qs,e⟩:=k.tb b ps e;exact⟨_,e,.inr ⟨⟨qs,rfl⟩,t⟩⟩
 .obtain⟨o,e,m⟩:=h.rl b z;exact⟨o,k.nt _ _ m.nt e,m⟩
 .cases eq:ow s with
  |true =>
   obtain⟨_,_,_,_,_,_,h3,h4,_⟩:=eV.ow (h.sl i s e) eq;refine eV.stay h.fd st (λb v e2 f1 f2 f3=>⟨f1,?_⟩) (h.sl i s e);obtain⟨o,e3,m⟩:=h.fd b f1;rw[f3]at e3;cases e3;rcases m with m|⟨⟨ps,rfl⟩,t,ht,eb⟩
   .exact k.nt _ _ m.nt f3
   .exfalso;obtain⟨c,w,d,e5,_,_,e7,r7,_⟩:=eV.ow (h.sl i s e) eq;rw[e2]at e5;cases e5;rw[f3]at e7;cases e7
    exact r7.mo.1
  |false =>
   have q:=h.sl i s e
   cases s with
   |no=>trivial
   |fnc n cs =>
    obtain⟨v,e,r⟩:=q
    exact⟨v,e,r.keep (sX h.fd st.keep)⟩
   |val d =>
    obtain⟨v,e,r⟩:=q
    exact⟨v,e,Rel.step h.fd st d v r⟩
   |own _=>cases eq
   |odc _ _=>cases eq
end
end PP
end
section
namespace PP
open PySem L2 PyProof.Rows PySem.SeqAt
variable[Tbs]
def zY(xs:List (Array Nat)):∀a:Array Nat,(xs.foldl (·++·) a).toList=a.toList++(xs.map (·.toList)).flatten:=by
 induction xs with
 |nil=>intro a;simp
 |cons x r ih=>intro a;rw[ie,ih];simp
def GK(x:Str)(n:Int)(h:0<=n):Txt.mul x n=FQ x n.toNat:=by
 unfold Txt.mul FQ;by_cases h1:n<1
 .have:n=0:=by lia
  subst this;rfl
 .rw[if_neg h1];by_cases h2:(n==1||x.length==0)=true
  .rw[if_pos h2];rw[bH]at h2;rcases h2 with h2|h2
   .have:n=1:=by simpa using h2
    subst this;simp
   .have e:x.cps=#[]:=by
     have:x.cps.size=0:=by simpa[Str.length]using h2
     exact Array.eq_empty_of_size_eq_zero this
    cases x;simp at e;subst e;simp
  .rw[if_neg h2];congr 1;apply Array.ext';rw[zY];simp
def Gu:OpR X (binaryOp .Mult) (λx y H Q=>∃i n,x=.str i/\y=.int n/\(0<=n/\n<=1000/\i.length<=1000)/\Q (.str (FQ i n.toNat)) H):=by
 intro pins s σ H x y v u Q I rx ry h;obtain⟨i,n,rfl,rfl,⟨h1,h2,h3⟩,q⟩:=h;obtain⟨t,rfl⟩:=rx;obtain⟨t',rfl⟩:=ry;refine SB.mul ⟨?_,λa _ b=>?_,λa _=>?_⟩ λt' k=>?_
 .simp;lia
 .have:(1000:Int)<=(2^63-1)/n:=by rw[Int.le_ediv_iff_mul_le ∅];lia
  lia
 .have:i.length*n.toNat<=1000*1000:=Nat.mul_le_mul h3 ∅;have z:=uj;unfold rN;simp
  lia
 .rw[GK i n h1];exact⟨.str _,H,I.tok _,⟨_,rfl⟩,q⟩
mutual
noncomputable def RdV(h:bW):D->ai->Prop
 |.non,u=>u=.none
 |.bl b,u=>u=.bool b
 |.int i,u=>∃t,u=.int i t
 |.str x,u=>∃t,u=.str x t
 |.lst ds,u=>∃a its,u=.ref a/\h.IsList a its/\RdL h ds its.toList
 |.tup ds,u=>∃a its,u=.ref a/\h.IsTuple a its/\RdL h ds its.toList
 |.fn _ _,_=>False
 |.dct _ _,_=>False
noncomputable def RdL(h:bW):List D->List ai->Prop
 |[],us=>us=[]
 |d::ds,us=>∃w ws,us=w::ws/\RdV h d w/\RdL h ds ws
end
mutual
theorem Cc(I:Inv X pins σ H s):∀(d:D)(v:V)(u:ai),Rel X.K H F d v->RelV v u->dep d<100000->RdV s.heap d u
 |.non,v,u,h,r,_=>by unfold Rel at h;subst h;unfold RdV;exact r
 |.bl b,v,u,h,r,_=>by unfold Rel at h;subst h;unfold RdV;exact r
 |.int b,v,u,h,r,_=>by unfold Rel at h;subst h;unfold RdV;exact r
 |.str b,v,u,h,r,_=>by unfold Rel at h;subst h;unfold RdV;exact r
 |.lst ds,v,u,h,r,hd=>by
  unfold dep at hd;unfold Rel at h;obtain⟨a,xs,e,h1,h3⟩:=h;subst e;cases(show u=cm a from r);obtain⟨its,rv,p,hz⟩:=I.list h1.sq;unfold RdV
  exact⟨a,its.toArray,rfl,p.isList,sx I ds xs its h3 rv ∅⟩
 |.tup ds,v,u,h,r,hd=>by
  unfold dep at hd;unfold Rel at h;obtain⟨a,xs,e,h1,h3⟩:=h;subst e;cases(show u=cm a from r);obtain⟨its,rv,p,hz⟩:=I.tuple h1;unfold RdV
  exact⟨a,its.toArray,rfl,p,sx I ds xs its h3 rv ∅⟩
 |.fn _ _,v,u,h,r,_=>by unfold Rel at h;exact h.elim
 |.dct _ _,v,u,h,r,hd=>by unfold dep at hd;exact absurd hd (cX _)
theorem sx(I:Inv X pins σ H s):∀(ds:List D)(xs:List V)(us:List ai),aH X.K H F ds xs->Vals xs us->eS ds<100000->RdL s.heap ds us
 |[],xs,us,h,r,_=>by unfold aH at h;subst h;cases r;unfold RdL;rfl
 |d::ds,xs,us,h,r,hd=>by
  unfold eS at hd;unfold aH at h;obtain⟨y,ys,e,h1,h2⟩:=h;subst e
  cases r with
  |cons r1 r2 =>
   unfold RdL;exact⟨_,_,rfl,Cc I d y _ h1 r1 ∅,sx I ds ys _ h2 r2 ∅⟩
end
def fo(I:Inv X pins σ H s)(h:dc X.K H F d v)(r:RelV v u)(hd:dep d<100000):RdV s.heap d u:=by
 rcases h with h|⟨a,xs,ds,rfl,rfl,h1,h2⟩
 .exact Cc I d v u h r hd
 .cases(show u=cm a from r);obtain⟨its,rv,p,hz⟩:=I.list (.inl (.inl h1));unfold RdV;unfold dep at hd;exact⟨a,its.toArray,rfl,p.isList,sx I ds xs its h2 rv ∅⟩
mutual
theorem RdV.inj:∀(d e:D)(u:ai),RdV h d u->RdV h e u->d=e
 |.non,e,u,a,b=>by
  unfold RdV at a;subst a
  cases e<;>unfold RdV at b<;>first|rfl|(obtain⟨_,_,b,_⟩:=b;cases b;done)|(obtain⟨_,b⟩:=b;cases b;done)|(cases b;done)
 |.bl x,e,u,a,b=>by
  unfold RdV at a;subst a
  cases e<;>unfold RdV at b<;>first|(cases b;rfl)|(obtain⟨_,_,b,_⟩:=b;cases b;done)|(obtain⟨_,b⟩:=b;cases b;done)|(cases b;done)
 |.int x,e,u,a,b=>by
  unfold RdV at a;obtain⟨t,a⟩:=a;subst a
  cases e<;>unfold RdV at b<;>first|(obtain⟨_,_,b,_⟩:=b;cases b;done)|(obtain⟨_,b⟩:=b;cases b;rfl)|(obtain⟨_,b⟩:=b;cases b;done)|(cases b;done)
 |.str x,e,u,a,b=>by
  unfold RdV at a;obtain⟨t,a⟩:=a;subst a
  cases e<;>unfold RdV at b<;>first|(obtain⟨_,_,b,_⟩:=b;cases b;done)|(obtain⟨_,b⟩:=b;cases b;rfl)|(obtain⟨_,b⟩:=b;cases b;done)|(cases b;done)
 |.lst ds,e,u,a,b=>by
  unfold RdV at a;obtain⟨l,its,a,h1,h2⟩:=a;subst a
  cases e with
  |lst es =>
   unfold RdV at b;obtain⟨l',its',b,k1,k2⟩:=b;cases b;obtain⟨o,g1,g2,n,g3⟩:=h1;obtain⟨o',f1,f2,n',f3⟩:=k1;rw[g1]at f1;cases f1;rw[g3]at f3;cases f3
   rw[RdL.inj ds es _ h2 k2]
  |tup es =>
   unfold RdV at b;obtain⟨l',its',b,k1,k2⟩:=b;cases b;obtain⟨o,g1,g2,_⟩:=h1;obtain⟨o',f1,f2,_⟩:=k1;rw[g1]at f1;cases f1
   rw[g2]at f2;injection f2 with f2;exact absurd f2 ⇑0
  |_=>unfold RdV at b;first|(obtain⟨_,b⟩:=b;cases b)|cases b
 |.tup ds,e,u,a,b=>by
  unfold RdV at a;obtain⟨l,its,a,h1,h2⟩:=a;subst a
  cases e with
  |tup es =>
   unfold RdV at b;obtain⟨l',its',b,k1,k2⟩:=b;cases b;obtain⟨o,g1,g2,n,g3⟩:=h1;obtain⟨o',f1,f2,n',f3⟩:=k1;rw[g1]at f1;cases f1;rw[g3]at f3;cases f3
   rw[RdL.inj ds es _ h2 k2]
  |lst es =>
   unfold RdV at b;obtain⟨l',its',b,k1,k2⟩:=b;cases b;obtain⟨o,g1,g2,_⟩:=h1;obtain⟨o',f1,f2,_⟩:=k1;rw[g1]at f1;cases f1
   rw[g2]at f2;injection f2 with f2;exact absurd f2 ⇑0
  |_=>unfold RdV at b;first|(obtain⟨_,b⟩:=b;cases b)|cases b
 |.fn _ _,e,u,a,b=>by unfold RdV at a;exact a.elim
 |.dct _ _,e,u,a,b=>by unfold RdV at a;exact a.elim
theorem RdL.inj:∀(ds es:List D)(us:List ai),RdL h ds us->RdL h es us->ds=es
 |[],es,us,a,b=>by
  unfold RdL at a;subst a
  cases es with
  |nil=>rfl
  |cons e es=>unfold RdL at b;obtain⟨_,_,b,_⟩:=b;cases b
 |d::ds,es,us,a,b=>by
  unfold RdL at a;obtain⟨w,ws,a,h1,h2⟩:=a;subst a
  cases es with
  |nil=>unfold RdL at b;cases b
  |cons e es =>
   unfold RdL at b;obtain⟨_,_,b,k1,k2⟩:=b;cases b;rw[RdV.inj d e w h1 k1,RdL.inj ds es ws h2 k2]
end
mutual
theorem mB:∀d:D,dep d<100000->eqD d d=true
 |.non,_=>by unfold eqD;rfl
 |.bl b,_=>by unfold eqD;simp
 |.int b,_=>by unfold eqD;simp
 |.str b,_=>by unfold eqD;simp
 |.lst ds,h=>by unfold eqD;exact nq ds (by unfold dep at h;lia)
 |.tup ds,h=>by unfold eqD;exact nq ds (by unfold dep at h;lia)
 |.fn _ _,h=>by unfold dep at h;lia
 |.dct _ _,h=>by unfold dep at h;lia
theorem nq:∀ds:List D,eS ds<100000->lE ds ds=true
 |[],_=>by unfold lE;rfl
 |d::ds,h=>by
  unfold eS at h;unfold lE;rw[mB d ∅,nq ds ∅];rfl
end
def pairD(ds es:List D)(j:Nat):Bool:=match ds[j]?,es[j]? with
 |some x,some y=>eqD x y
 |_,_=>false
def kC:∀(ds es:List D),(du (min ds.length es.length)).all (pairD ds es)=true/\ds.length=es.length↔lE ds es=true
 |[],[]=>by unfold lE;simp
 |[],_::_=>by unfold lE;simp
 |_::_,[]=>by unfold lE;simp
 |d::ds,e::es=>by
  have ih:=kC ds es;have e1:min (d::ds).length (e::es).length=min ds.length es.length+1:=by simp only[ag];lia
  rw[e1,List.range_succ_eq_map,cj,List.all_map];have e2:(pairD (d::ds) (e::es) ∘ Nat.succ)=pairD ds es:=by funext j;simp[pairD]
  rw[e2];unfold lE;rw[aa,aa,<- ih];have e3:pairD (d::ds) (e::es) 0=eqD d e:=rfl;rw[e3];simp only[ag];constructor
  .rintro⟨⟨a,b⟩,c⟩;exact⟨a,b,∅⟩
  .rintro⟨a,b,c⟩;exact⟨⟨a,b⟩,∅⟩
def pS(h:ds.length=es.length):(du ds.length).all (pairD ds es)=lE ds es:=by
 have q:=kC ds es;rw[<- h,ot]at q;rw[bM];rw[<- q];simp
def tq(h:ds.length≠es.length):lE ds es=false:=by
 have q:=kC ds es;rw[EE];intro z;exact h (q.mpr z).2
def nr(ds es:List D):((du (min ds.length es.length)).all (pairD ds es)&&ds.length==es.length)=lE ds es:=by
 have q:=kC ds es;rw[bM,aa,<- q];simp
def RdL.length:∀{ds:List D}{us:List ai},RdL h ds us->us.length=ds.length
 |[],us,a=>by unfold RdL at a;subst a;rfl
 |d::ds,us,a=>by
  unfold RdL at a;obtain⟨w,ws,a,_,h2⟩:=a;subst a;rw[ag,ag,RdL.length h2]
def mm1(a b c d:Nat):min a c<=min (max a b) (max c d):=Nat.le_min.mpr ⟨aZ (qy _ _) (II _ _),aZ (pY _ _) (II _ _)⟩
def mm2(a b c d:Nat):min b d<=min (max a b) (max c d):=Nat.le_min.mpr ⟨aZ (qy _ _) (HP _ _),aZ (pY _ _) (HP _ _)⟩
mutual
theorem DR:∀(a b:D)(A:bE)(s:au)(u v:ai),RdV s.heap a u->RdV s.heap b v->A.units+min (dep a) (dep b)<cLine->EqAt A s u v (eqD a b)
 |.non,b,A,s,u,v,ra,rb,hu=>by
  unfold RdV at ra;subst ra
  cases b with
  |non=>unfold RdV at rb;subst rb;unfold eqD;exact EL _
  |bl b=>unfold RdV at rb;subst rb;unfold eqD;exact EqAt.none_bool b
  |int b=>unfold RdV at rb;obtain⟨t,rfl⟩:=rb;unfold eqD;exact EqAt.none_int b t
  |str b=>unfold RdV at rb;obtain⟨t,rfl⟩:=rb;unfold eqD;exact EqAt.none_str b t
  |lst ds=>unfold RdV at rb;obtain⟨l,its,rfl,h1,h2⟩:=rb;unfold eqD;exact EqAt.none_list h1 ∅
  |tup ds=>unfold RdV at rb;obtain⟨l,its,rfl,h1,h2⟩:=rb;unfold eqD;exact EqAt.none_tuple h1 ∅
  |fn _ _=>unfold RdV at rb;exact rb.elim
  |dct _ _=>unfold RdV at rb;exact rb.elim
 |.bl a,b,A,s,u,v,ra,rb,hu=>by
  unfold RdV at ra;subst ra
  cases b with
  |non=>unfold RdV at rb;subst rb;unfold eqD;exact EqAt.bool_none a
  |bl b=>unfold RdV at rb;subst rb;unfold eqD;exact EqAt.bool_bool a b
  |int b=>unfold RdV at rb;obtain⟨t,rfl⟩:=rb;unfold eqD;exact EqAt.bool_int a b t
  |str b=>unfold RdV at rb;obtain⟨t,rfl⟩:=rb;unfold eqD;exact EqAt.bool_str a b t
  |lst ds=>unfold RdV at rb;obtain⟨l,its,rfl,h1,h2⟩:=rb;unfold eqD;exact EqAt.bool_list a h1 ∅
  |tup ds=>unfold RdV at rb;obtain⟨l,its,rfl,h1,h2⟩:=rb;unfold eqD;exact EqAt.bool_tuple a h1 ∅
  |fn _ _=>unfold RdV at rb;exact rb.elim
  |dct _ _=>unfold RdV at rb;exact rb.elim
 |.int a,b,A,s,u,v,ra,rb,hu=>by
  unfold RdV at ra;obtain⟨t',rfl⟩:=ra
  cases b with
  |non=>unfold RdV at rb;subst rb;unfold eqD;exact EqAt.int_none a t'
  |bl b=>unfold RdV at rb;subst rb;unfold eqD;exact EqAt.int_bool a t' b
  |int b=>unfold RdV at rb;obtain⟨t,rfl⟩:=rb;unfold eqD;exact EqAt.int_int a t' b t
  |str b=>unfold RdV at rb;obtain⟨t,rfl⟩:=rb;unfold eqD;exact EqAt.int_str a t' b t
  |lst ds=>unfold RdV at rb;obtain⟨l,its,rfl,h1,h2⟩:=rb;unfold eqD;exact EqAt.int_list a t' h1 ∅
  |tup ds=>unfold RdV at rb;obtain⟨l,its,rfl,h1,h2⟩:=rb;unfold eqD;exact EqAt.int_tuple a t' h1 ∅
  |fn _ _=>unfold RdV at rb;exact rb.elim
  |dct _ _=>unfold RdV at rb;exact rb.elim
 |.str a,b,A,s,u,v,ra,rb,hu=>by
  unfold RdV at ra;obtain⟨t',rfl⟩:=ra
  cases b with
  |non=>unfold RdV at rb;subst rb;unfold eqD;exact EqAt.str_none a t'
  |bl b=>unfold RdV at rb;subst rb;unfold eqD;exact EqAt.str_bool a t' b
  |int b=>unfold RdV at rb;obtain⟨t,rfl⟩:=rb;unfold eqD;exact EqAt.str_int a t' b t
  |str b=>unfold RdV at rb;obtain⟨t,rfl⟩:=rb;unfold eqD;exact EqAt.str_str a t' b t
  |lst ds=>unfold RdV at rb;obtain⟨l,its,rfl,h1,h2⟩:=rb;unfold eqD;exact EqAt.str_list a t' h1 ∅
  |tup ds=>unfold RdV at rb;obtain⟨l,its,rfl,h1,h2⟩:=rb;unfold eqD;exact EqAt.str_tuple a t' h1 ∅
  |fn _ _=>unfold RdV at rb;exact rb.elim
  |dct _ _=>unfold RdV at rb;exact rb.elim
 |.lst ds,b,A,s,u,v,ra,rb,hu=>by
  have ra':=ra;unfold RdV at ra;obtain⟨l,its,rfl,h1,h2⟩:=ra
  cases b with
  |non=>unfold RdV at rb;subst rb;unfold eqD;exact EqAt.list_none h1 ∅
  |bl b=>unfold RdV at rb;subst rb;unfold eqD;exact EqAt.list_bool b h1 ∅
  |int b=>unfold RdV at rb;obtain⟨t,rfl⟩:=rb;unfold eqD;exact EqAt.list_int b t h1 ∅
  |str b=>unfold RdV at rb;obtain⟨t,rfl⟩:=rb;unfold eqD;exact EqAt.list_str b t h1 ∅
  |tup es=>unfold RdV at rb;obtain⟨l',its',rfl,k1,k2⟩:=rb;unfold eqD;exact EqAt.list_tuple h1 k1 ∅
  |lst es =>
   have rb':=rb;unfold RdV at rb;obtain⟨l',its',rfl,k1,k2⟩:=rb;by_cases hl:l=l'
   .subst hl;have e:=RdV.inj _ _ _ ra' rb';cases e;have hd:dep (.lst ds)<100000:=by rw[ot]at hu;have:cLine=9900:=rfl;lia
    rw[mB _ hd];exact EL _
   .unfold eqD;have n1:its.size=ds.length:=by simpa using h2.length
    have n2:its'.size=es.length:=by simpa using k2.length
    have he:∀j(j1:j<its.size)(j2:j<its'.size),EqAt A.in1 s its[j] its'[j] (pairD ds es j):=λj j1 j2=>by
     have q:=jC ds es A.in1 s its.toList its'.toList h2 k2 (by show A.units+1+_<_;unfold dep at hu;lia) j (by simpa using j1) (by simpa using j2);simpa using q
    refine EqAt.of_refs hl ?_;by_cases hsz:its.size=its'.size
    .rw[<- pS (by lia:ds.length=es.length),<- n1];exact RcAt.lists h1 k1 hsz ∅ he
    .rw[tq (by lia:ds.length≠es.length)]
     exact RcAt.lists_lengths h1 k1 (by simpa using hsz) ∅
  |fn _ _=>unfold RdV at rb;exact rb.elim
  |dct _ _=>unfold RdV at rb;exact rb.elim
 |.tup ds,b,A,s,u,v,ra,rb,hu=>by
  have ra':=ra;unfold RdV at ra;obtain⟨l,its,rfl,h1,h2⟩:=ra
  cases b with
  |non=>unfold RdV at rb;subst rb;unfold eqD;exact EqAt.tuple_none h1 ∅
  |bl b=>unfold RdV at rb;subst rb;unfold eqD;exact EqAt.tuple_bool b h1 ∅
  |int b=>unfold RdV at rb;obtain⟨t,rfl⟩:=rb;unfold eqD;exact EqAt.tuple_int b t h1 ∅
  |str b=>unfold RdV at rb;obtain⟨t,rfl⟩:=rb;unfold eqD;exact EqAt.tuple_str b t h1 ∅
  |lst es=>unfold RdV at rb;obtain⟨l',its',rfl,k1,k2⟩:=rb;unfold eqD;exact EqAt.tuple_list h1 k1 ∅
  |tup es =>
   have rb':=rb;unfold RdV at rb;obtain⟨l',its',rfl,k1,k2⟩:=rb;by_cases hl:l=l'
   .subst hl;have e:=RdV.inj _ _ _ ra' rb';cases e;have hd:dep (.tup ds)<100000:=by rw[ot]at hu;have:cLine=9900:=rfl;lia
    rw[mB _ hd];exact EL _
   .unfold eqD;have n1:its.size=ds.length:=by simpa using h2.length
    have n2:its'.size=es.length:=by simpa using k2.length
    have he:∀j(j1:j<its.size)(j2:j<its'.size),EqAt A.in1 s its[j] its'[j] (pairD ds es j):=λj j1 j2=>by
     have q:=jC ds es A.in1 s its.toList its'.toList h2 k2 (by show A.units+1+_<_;unfold dep at hu;lia) j (by simpa using j1) (by simpa using j2);simpa using q
    refine EqAt.of_refs hl ?_;rw[<- nr,<- n1,<- n2]
    exact RcAt.tuples h1 k1 ∅ he
  |fn _ _=>unfold RdV at rb;exact rb.elim
  |dct _ _=>unfold RdV at rb;exact rb.elim
 |.fn _ _,b,A,s,u,v,ra,rb,hu=>by unfold RdV at ra;exact ra.elim
 |.dct _ _,b,A,s,u,v,ra,rb,hu=>by unfold RdV at ra;exact ra.elim
theorem jC:∀(ds es:List D)(A:bE)(s:au)(us vs:List ai),RdL s.heap ds us->RdL s.heap es vs->A.units+min (eS ds) (eS es)<cLine->∀j(h1:j<us.length)(h2:j<vs.length),EqAt A s us[j] vs[j] (pairD ds es j)
 |[],_,_,_,us,_,ra,_,_,j,h1,_=>by unfold RdL at ra;subst ra;exact absurd h1 (qx _)
 |_::_,[],_,_,_,vs,_,rb,_,j,_,h2=>by unfold RdL at rb;subst rb;exact absurd h2 (qx _)
 |d::ds,e::es,A,s,us,vs,ra,rb,hu,j,h1,h2=>by
  unfold RdL at ra rb;obtain⟨w,ws,rfl,a1,a2⟩:=ra;obtain⟨w',ws',rfl,b1,b2⟩:=rb;unfold eS at hu
  cases j with
  |zero=>exact DR d e A s w w' a1 b1 (cL (AF (mm1 _ _ _ _) _) hu)
  |succ j =>
   have q:=jC ds es A s ws ws' a2 b2 (cL (AF (mm2 _ _ _ _) _) hu) j (by simpa using h1) (by simpa using h2);simpa[pairD]using q
end
def yY(h:i.natAbs<2^200):rO i<=2^20:=by
 unfold rO;split
 .exact bP _
 .rename_i h0;have:i.natAbs.log2<200:=(Nat.log2_lt (by simpa using h0)).mpr h;have:(200:Nat)<=2^20:=by decide
  lia
def GN(h:nO i j=true):IntMulOk i j:=by
 unfold nO at h;simp only[bH,aa,decide_eq_true_eq]at h;rcases h with(h|h)|h
 .exact .of_left (intBits_le_64 h.1 h.2)
 .exact .of_right (intBits_le_64 h.1 h.2)
 .exact .of_bits (yY h.1) (yY h.2)
def Gv:OpR X (binaryOp .Mult) (rI IntMulOk λi j=>.int (i*j)):=opI λ_ _ _ _ _ _ _ hc q=>PyProof.Rows.mul_int q hc
def CN:OpR X (binaryOp .FloorDiv) (rI (λ_ j=>0<j/\j<1000000000000000000000000000000000000000000000000000000000000) λi j=>.int (i/j)):=opI λi j _ _ _ _ _ hc q=>by
 have h1:(0:Int)<j:=hc.1;have h2:j<1000000000000000000000000000000000000000000000000000000000000:=hc.2;refine PyProof.Rows.floordiv_int ∅ (by rw[Int.fdiv_eq_ediv_of_nonneg i ∅];exact q) (.inl (PyProof.noPylong_of_log2 ?_));exact Nat.lt_trans ((Nat.log2_lt (k:=200) ∅).mpr (aK (show j.natAbs<1000000000000000000000000000000000000000000000000000000000000 by lia) ⇑0)) ⇑0
section
variable{X:Cx}
def Kq(hu:X.A.units+200<cLine):OpR X (compareOp .Eq) (λx y H Q=>∃F a b,dc X.K H F a x/\dc X.K H F b y/\iD a b=true/\Q (.bl (eqD a b)) H):=by
 intro pins s σ H x y v u Q I rx ry h;obtain⟨F,a,b,ha,hb,hk,q⟩:=h;unfold iD at hk;rw[aa,aa]at hk;obtain⟨⟨hk,hd⟩,hm⟩:=hk;replace hd:=of_decide_eq_true hd;replace hm:=of_decide_eq_true hm;have ra:=fo I ha rx ∅;have rb:=fo I hb ry ∅;have fin:∀k:Bool,k=eqD a b->EP X pins σ Q (.bool k) s:=λk e=>⟨.bl k,H,I,rfl,by rw[e];exact q⟩
 cases a<;>cases b<;>first
  |(exact absurd (show false=true from hk) aq)
  |skip
 .unfold RdV at ra rb;subst ra;subst rb;exact RcAt.bool_bool _ _ _ _ _ _ (fin _ (by unfold eqD;rfl))
 .unfold RdV at ra rb;obtain⟨t,rfl⟩:=ra;obtain⟨t',rfl⟩:=rb;exact RcAt.int_int _ _ _ _ _ _ _ _ (fin _ (by unfold eqD;rfl))
 .unfold RdV at ra rb;obtain⟨t,rfl⟩:=ra;obtain⟨t',rfl⟩:=rb;exact RcAt.str_str _ _ _ _ _ _ _ _ (fin _ (by unfold eqD;rfl))
 .rename_i ds es;unfold RdV at ra rb;obtain⟨l,its,rfl,h1,h2⟩:=ra;obtain⟨l',its',rfl,k1,k2⟩:=rb;have n1:its.size=ds.length:=by simpa using h2.length
  have n2:its'.size=es.length:=by simpa using k2.length
  have he:∀j(j1:j<its.size)(j2:j<its'.size),EqAt X.A.in1 s its[j] its'[j] (pairD ds es j):=λj j1 j2=>by
   have q:=jC ds es X.A.in1 s its.toList its'.toList h2 k2 (by show X.A.units+1+_<_;unfold dep at hd;lia) j (by simpa using j1) (by simpa using j2);simpa using q
  by_cases hsz:its.size=its'.size
  .refine eq_listAt h1 k1 hsz ∅ he (fin _ ?_);unfold eqD;rw[n1];exact pS ∅
  .refine eq_list_lengthsAt h1 k1 (by simpa using hsz) ∅ (fin _ ?_);unfold eqD;exact(tq ∅).symm
 .rename_i ds es;unfold RdV at ra rb;obtain⟨l,its,rfl,h1,h2⟩:=ra;obtain⟨l',its',rfl,k1,k2⟩:=rb;have n1:its.size=ds.length:=by simpa using h2.length
  have n2:its'.size=es.length:=by simpa using k2.length
  have he:∀j(j1:j<its.size)(j2:j<its'.size),EqAt X.A.in1 s its[j] its'[j] (pairD ds es j):=λj j1 j2=>by
   have q:=jC ds es X.A.in1 s its.toList its'.toList h2 k2 (by show X.A.units+1+_<_;unfold dep at hd;lia) j (by simpa using j1) (by simpa using j2);simpa using q
  refine eq_tupleAt h1 k1 ∅ he (fin _ ?_);unfold eqD;rw[n1,n2];exact nr ds es
def Kl(hu:X.A.units+200<cLine):OpR X (compareOp .NotEq) (λx y H Q=>∃F a b,dc X.K H F a x/\dc X.K H F b y/\iD a b=true/\Q (.bl (!eqD a b)) H):=by
 intro pins s σ H x y v u Q I rx ry h;obtain⟨F,a,b,ha,hb,hk,q⟩:=h;unfold iD at hk;rw[aa,aa]at hk;obtain⟨⟨hk,hd⟩,hm⟩:=hk;replace hd:=of_decide_eq_true hd;replace hm:=of_decide_eq_true hm;have ra:=fo I ha rx ∅;have rb:=fo I hb ry ∅;have fin:∀k:Bool,k=(!eqD a b)->EP X pins σ Q (.bool k) s:=λk e=>⟨.bl k,H,I,rfl,by rw[e];exact q⟩
 cases a<;>cases b<;>first
  |(exact absurd (show false=true from hk) aq)
  |skip
 .unfold RdV at ra rb;subst ra;subst rb;exact RcNeAt.bool_bool _ _ _ _ _ _ (fin _ (by unfold eqD;rfl))
 .unfold RdV at ra rb;obtain⟨t,rfl⟩:=ra;obtain⟨t',rfl⟩:=rb;exact RcNeAt.int_int _ _ _ _ _ _ _ _ (fin _ (by unfold eqD;rfl))
 .unfold RdV at ra rb;obtain⟨t,rfl⟩:=ra;obtain⟨t',rfl⟩:=rb;exact RcNeAt.str_str _ _ _ _ _ _ _ _ (fin _ (by unfold eqD;rfl))
 .rename_i ds es;unfold RdV at ra rb;obtain⟨l,its,rfl,h1,h2⟩:=ra;obtain⟨l',its',rfl,k1,k2⟩:=rb;have n1:its.size=ds.length:=by simpa using h2.length
  have n2:its'.size=es.length:=by simpa using k2.length
  have he:∀j(j1:j<its.size)(j2:j<its'.size),EqAt X.A.in1 s its[j] its'[j] (pairD ds es j):=λj j1 j2=>by
   have q:=jC ds es X.A.in1 s its.toList its'.toList h2 k2 (by show X.A.units+1+_<_;unfold dep at hd;lia) j (by simpa using j1) (by simpa using j2);simpa using q
  by_cases hsz:its.size=its'.size
  .refine RcNeAt.lists h1 k1 hsz ∅ he _ _ _ _ (fin _ ?_);unfold eqD;rw[n1,pS ∅]
  .refine RcNeAt.lists_lengths h1 k1 (by simpa using hsz) ∅ _ _ _ _ (fin _ ?_);unfold eqD;rw[tq ∅];rfl
 .rename_i ds es;unfold RdV at ra rb;obtain⟨l,its,rfl,h1,h2⟩:=ra;obtain⟨l',its',rfl,k1,k2⟩:=rb;have n1:its.size=ds.length:=by simpa using h2.length
  have n2:its'.size=es.length:=by simpa using k2.length
  have he:∀j(j1:j<its.size)(j2:j<its'.size),EqAt X.A.in1 s its[j] its'[j] (pairD ds es j):=λj j1 j2=>by
   have q:=jC ds es X.A.in1 s its.toList its'.toList h2 k2 (by show X.A.units+1+_<_;unfold dep at hd;lia) j (by simpa using j1) (by simpa using j2);simpa using q
  refine RcNeAt.tuples h1 k1 ∅ he _ _ _ _ (fin _ ?_);unfold eqD;rw[n1,n2,nr ds es]
open Classical in
def isEq(h:bW)(a:D)(u:ai):Bool:=if ∃d,RdV h d u/\eqD d a=true then true else false
def sT(r:RdV h d u):isEq h a u=eqD d a:=by
 unfold isEq
 cases e:eqD d a with
 |true=>rw[if_pos ⟨d,r,e⟩]
 |false =>
  rw[if_neg];rintro⟨d',r',e'⟩;rw[RdV.inj d d' u r r',e']at e;cases e
def kh:∀{ds:List D}{us:List ai},RdL h ds us->us.any (isEq h a)=ds.any λd=>eqD d a
 |[],us,r=>by unfold RdL at r;subst r;rfl
 |d::ds,us,r=>by
  unfold RdL at r;obtain⟨w,ws,rfl,h1,h2⟩:=r;rw[dH,dH,sT h1,kh h2]
def ja(rv:RdV s.heap a v)(hu:A.units+dep a<cLine):∀{ds:List D}{us:List ai},RdL s.heap ds us->∀u∈us,EqAt A s u v (isEq s.heap a u)
 |[],us,r=>λu hm=>by unfold RdL at r;subst r;cases hm
 |d::ds,us,r=>λu hm=>by
  unfold RdL at r;obtain⟨w,ws,rfl,h1,h2⟩:=r;rcases aA.mp hm with rfl|hm
  .rw[sT h1];exact DR d a A s u v h1 rv ∅
  .exact ja rv hu h2 u hm
def Kp(hu:X.A.units+200<cLine):OpR X (compareOp .In) (λx y H Q=>∃F a ds,dc X.K H F a x/\(dc X.K H F (.lst ds) y\/dc X.K H F (.tup ds) y)/\(dep a<=150/\eS ds<99999)/\Q (.bl (ds.any λd=>eqD d a)) H):=by
 intro pins s σ H x y v u Q I rx ry h;obtain⟨F,a,ds,ha,hb,⟨hd,hm⟩,q⟩:=h;have ra:=fo I ha rx ∅;have fin:∀k:Bool,k=(ds.any λd=>eqD d a)->EP X pins σ Q (.bool k) s:=λk e=>⟨.bl k,H,I,rfl,by rw[e];exact q⟩;rcases hb with hb|hb
 .have rb:=fo I hb ry (by unfold dep;lia);unfold RdV at rb;obtain⟨l',its',rfl,k1,k2⟩:=rb;refine in_listAt (isEq s.heap a) k1 (λw hw=>ja ra (by show X.A.units+1+_<_;lia) k2 w (by simpa using hw)) (fin _ ?_);rw[show its'.any (isEq s.heap a)=its'.toList.any (isEq s.heap a) by simp,kh k2]
 .have rb:=fo I hb ry (by unfold dep;lia);unfold RdV at rb;obtain⟨l',its',rfl,k1,k2⟩:=rb;refine in_tupleAt (isEq s.heap a) k1 (λw hw=>ja ra (by show X.A.units+1+_<_;lia) k2 w (by simpa using hw)) (fin _ ?_);rw[show its'.any (isEq s.heap a)=its'.toList.any (isEq s.heap a) by simp,kh k2]
def zM(hu:X.A.units+200<cLine):OpR X (compareOp .NotIn) (λx y H Q=>∃F a ds,dc X.K H F a x/\(dc X.K H F (.lst ds) y\/dc X.K H F (.tup ds) y)/\(dep a<=150/\eS ds<99999)/\Q (.bl (!ds.any λd=>eqD d a)) H):=by
 intro pins s σ H x y v u Q I rx ry h;obtain⟨F,a,ds,ha,hb,⟨hd,hm⟩,q⟩:=h;have ra:=fo I ha rx ∅;have fin:∀k:Bool,k=(!ds.any λd=>eqD d a)->EP X pins σ Q (.bool k) s:=λk e=>⟨.bl k,H,I,rfl,by rw[e];exact q⟩;rcases hb with hb|hb
 .have rb:=fo I hb ry (by unfold dep;lia);unfold RdV at rb;obtain⟨l',its',rfl,k1,k2⟩:=rb;refine notIn_listAt (isEq s.heap a) k1 (λw hw=>ja ra (by show X.A.units+1+_<_;lia) k2 w (by simpa using hw)) (fin _ ?_);rw[show its'.any (isEq s.heap a)=its'.toList.any (isEq s.heap a) by simp,kh k2]
 .have rb:=fo I hb ry (by unfold dep;lia);unfold RdV at rb;obtain⟨l',its',rfl,k1,k2⟩:=rb;refine notIn_tupleAt (isEq s.heap a) k1 (λw hw=>ja ra (by show X.A.units+1+_<_;lia) k2 w (by simpa using hw)) (fin _ ?_);rw[show its'.any (isEq s.heap a)=its'.toList.any (isEq s.heap a) by simp,kh k2]
def pE(ns:List Int):∀j,preSum (λi=>ns.getD i 0) j=(ns.take j).sum
 |0=>by simp[preSum]
 |j+1=>by
  rw[preSum,pE ns j,EA,HQ]
  cases e:ns[j]? with
  |none=>simp[e]
  |some v=>simp[e]
def uC{ns:List Int}:∀{xs:List V}{us:List ai},xs=ns.map V.int->Vals xs us->∀i v,us[i]?=some v->∃t,v=om (ns.getD i 0) t:=by
 induction ns with
 |nil=>intro xs us e r i v h;subst e;cases r;simp at h
 |cons n ns ih =>
  intro xs us e r i v h;subst e
  cases r with
  |cons r1 r2 =>
   cases i with
   |zero=>simp at h;subst h;obtain⟨t,e⟩:=r1;exact⟨t,by simpa using e⟩
   |succ i =>
    obtain⟨t,e⟩:=ih rfl r2 i v (by simpa using h);exact⟨t,by simpa using e⟩
def EZ{ns:List Bool}:∀{xs:List V}{us:List ai},xs=ns.map V.bl->Vals xs us->∀i v,us[i]?=some v->v=qw (ns.getD i false):=by
 induction ns with
 |nil=>intro xs us e r i v h;subst e;cases r;simp at h
 |cons n ns ih =>
  intro xs us e r i v h;subst e
  cases r with
  |cons r1 r2 =>
   cases i with
   |zero=>simp at h;subst h;have e:_=qw n:=r1;simpa using e
   |succ i=>simpa using ih rfl r2 i v (by simpa using h)
def wz(bs:List Bool):((du bs.length).all λi=>bs.getD i false)=bs.all id:=by
 rw[bM,bO,bO];constructor
 .intro h b hb;obtain⟨i,hi,rfl⟩:=AA hb;have:=h i (gg.mpr hi);simpa[List.getD,aO hi]using this
 .intro h i hi;have hi':=gg.mp hi;have:=h bs[i] (EK hi');simpa[List.getD,aO hi']using this
def Al(hc:X.calm=true):cE X (.builtin "all") (λxs H Q=>∃(p:av)(ns:List Bool),xs=[.ref p]/\SqL X.K H p (ns.map V.bl)/\Q (.bl (ns.all id)) H):=by
 intro pins s σ H xs us Q I r h;obtain⟨p,ns,rfl,hq,q⟩:=h;obtain⟨u,rfl,rx⟩:=vals1 r;cases rx;obtain⟨its,rv,pl,hz⟩:=I.list hq;have hlt:p<s.heap.objs.size:=by obtain⟨o,e,_⟩:=pl.isList;exact aJ e
 refine call_all_walk (jR pl.isList ?_)
 refine⟨s.heap.objs.size,[s.heap.objs.size,p],[s.heap.objs.size],its.toArray.size,_,_,λi=>ns.getD i false,rfl,Au (A:=X.A.in1) (I.ok.hd hc) s.heap.objs.size p (aU hlt) its.toArray,
  ⟨⟨_,aX _ rfl,rfl,rfl⟩,?_⟩,λi v s' Q' E' hP hQ=>?_,λh' tk hk=>?_⟩
 .obtain⟨o,e,r⟩:=pl.isList;exact⟨o,ax _ e,r⟩
 .rw[EZ rfl rv i v (by simpa using hP)];exact bX hQ
 .have e:its.toArray.size=ns.length:=by rw[aB,<- rv.length,ak]
  rw[e,wz];exact⟨.bl (ns.all id),H,I.kept (h':=h') (t':=tk) (λb o e=>hk b o (by simp;exact aU (aJ e)) (ax _ e)),rfl,q⟩
def Ag(hc:X.calm=true):cE X (.builtin "sum") (λxs H Q=>∃(p:av)(ns:List Int),xs=[.ref p]/\SqL X.K H p (ns.map V.int)/\Q (.int ns.sum) H):=by
 intro pins s σ H xs us Q I r h;obtain⟨p,ns,rfl,hq,q⟩:=h;obtain⟨u,rfl,rx⟩:=vals1 r;cases rx;obtain⟨its,rv,pl,hz⟩:=I.list hq;have hlt:p<s.heap.objs.size:=by obtain⟨o,e,_⟩:=pl.isList;exact aJ e
 refine call_sum_walkG (jR pl.isList ?_)
 refine⟨s.heap.objs.size,[s.heap.objs.size,p],[s.heap.objs.size],its.toArray.size,_,_,λi=>ns.getD i 0,rfl,Au (A:=X.A.in1) (I.ok.hd hc) s.heap.objs.size p (aU hlt) its.toArray,
  ⟨⟨_,aX _ rfl,rfl,rfl⟩,?_⟩,λb hb=>?_,λi v e=>?_,λh' tk t' hk=>?_⟩
 .obtain⟨o,e,r⟩:=pl.isList;exact⟨o,ax _ e,r⟩
 .have:b=s.heap.objs.size\/b=p:=by simpa using hb
  show b<(s.heap.push _).objs.size;rw[lh];rcases this with rfl|rfl
  .exact HN _
  .exact jl hlt
 .exact uC rfl rv i v (by simpa using e)
 .refine⟨.int ns.sum,H,I.kept (h':=h') (t':=tk) λb o e=>?_,⟨t',?_⟩,q⟩
  .exact hk b o (by simp;exact aU (aJ e)) (ax _ e)
  .rw[pE];have e:its.toArray.size=ns.length:=by rw[aB,<- rv.length,ak]
   rw[e,gG]
def zx(h:ns≠[]):uF (ns++[v])=if v>uF ns then v else uF ns:=by
 cases ns with
 |nil=>exact absurd rfl h
 |cons n ns =>
  show(ns++[v]).foldl _ n=_;rw[List.foldl_append];rfl
def vH(ns:List Int):∀k,k<ns.length->ns.getD (argBest (λi j=>decide (ns.getD i 0>ns.getD j 0)) k) 0=uF (ns.take (k+1))
 |0,h=>by
  cases ns with
  |nil=>cases h
  |cons n ns=>simp[argBest,uF]
 |k+1,h=>by
  have ih:=vH ns k ∅;have e:ns[k+1]?=some (ns.getD (k+1) 0):=by rw[List.getD_eq_getElem?_getD,aO h];rfl
  have e2:ns.take (k+1+1)=ns.take (k+1)++[ns.getD (k+1) 0]:=by rw[EA,e];rfl
  rw[e2,zx (by cases ns with
   |nil=>cases h
   |cons _ _=>simp),<- ih]
  show ns.getD (if decide (ns.getD (k+1) 0>ns.getD (argBest (λi j=>decide (ns.getD i 0>ns.getD j 0)) k) 0)=true then k+1 else argBest (λi j=>decide (ns.getD i 0>ns.getD j 0)) k) 0=_;by_cases hb:ns.getD (k+1) 0>ns.getD (argBest (λi j=>decide (ns.getD i 0>ns.getD j 0)) k) 0
  .rw[if_pos (decide_eq_true hb),if_pos hb]
  .rw[if_neg (by simpa using hb),if_neg hb]
def Ah(hc:X.calm=true):cE X (.builtin "max") (λxs H Q=>∃(p:av)(ns:List Int),xs=[.ref p]/\ns≠[]/\SqL X.K H p (ns.map V.int)/\Q (.int (uF ns)) H):=by
 intro pins s σ H xs us Q I r h;obtain⟨p,ns,rfl,hne,hq,q⟩:=h;obtain⟨u,rfl,rx⟩:=vals1 r;cases rx;obtain⟨its,rv,pl,hz⟩:=I.list hq;have hlt:p<s.heap.objs.size:=by obtain⟨o,e,_⟩:=pl.isList;exact aJ e
 have hlen:its.toArray.size=ns.length:=by rw[aB,<- rv.length,ak]
 have hpos:0<ns.length:=lN.mpr hne;have hval:∀i v,its.toArray[i]?=some v->∃t,v=om (ns.getD i 0) t:=λi v e=>uC rfl rv i v (by simpa using e);refine call_max_walk (jR pl.isList ?_)
 refine⟨s.heap.objs.size,[s.heap.objs.size,p],[s.heap.objs.size],its.toArray.size,_,_,λi j=>decide (ns.getD i 0>ns.getD j 0),rfl,Au (A:=X.A.in1) (I.ok.hd hc) s.heap.objs.size p (aU hlt) its.toArray,
  ⟨⟨_,aX _ rfl,rfl,rfl⟩,?_⟩,λb hb=>?_,by rw[hlen];exact hpos,CmpOf.ints_gt (λi=>ns.getD i 0) hval,λv h' tk hv hk=>?_⟩
 .obtain⟨o,e,r⟩:=pl.isList;exact⟨o,ax _ e,r⟩
 .have:b=s.heap.objs.size\/b=p:=by simpa using hb
  show b<(s.heap.push _).objs.size;rw[lh];rcases this with rfl|rfl
  .exact HN _
  .exact jl hlt
 .refine⟨.int (uF ns),H,I.kept (h':=h') (t':=tk) λb o e=>?_,?_,q⟩
  .exact hk b o (by simp;exact aU (aJ e)) (ax _ e)
  .obtain⟨t,rfl⟩:=hval _ _ hv;refine⟨t,?_⟩;rw[vH ns _ ∅,hlen,show ns.length-1+1=ns.length by lia,gG]
def Ee{prog:aQ}{w:bD}{A:bE}{E:ai->au->Prop}{s:au}{t b:av}{ws:List ai}{Q:ai->au->Prop}(ht:HU s.heap t ([]:List ai).toArray)(hb:HU s.heap b ws.toArray)(h:Q (.ref b) s):wpAny (model prog w) A (binaryOp .Add (.ref t) (.ref b)) Q E s:=by
 obtain⟨⟨cls,dd,data,sl⟩,ho,hc,n,hd⟩:=id ht;obtain⟨⟨cls2,dd2,data2,sl2⟩,ho2,hc2,n2,hd2⟩:=id hb;simp only at hc hd hc2 hd2;subst hc hd hc2 hd2;exact Ex ⟨_,ho,rfl⟩ ⟨_,ho2,rfl⟩ kM oO PySem.F.slot_tuple_add PySem.F.entry_tuple_add (PySem.F.args_tuple_add_2 _ _) (tuple_addW0 t b _ ws.toArray n n2 dd dd2 sl sl2 rfl) ⟨ho,ho2,h⟩
def Gy:OpR X (binaryOp .Add) (λx y H Q=>∃a b ys,x=.ref a/\y=.ref b/\SqT X.K H a []/\SqT X.K H b ys/\Q (.ref b) H):=by
 intro pins s σ H x y v u Q I rx ry h;obtain⟨a,b,ys,rfl,rfl,ha,hb,q⟩:=h;cases rx;cases ry;obtain⟨its,r1,p1,_⟩:=I.tuple ha;obtain⟨its2,r2,p2,_⟩:=I.tuple hb;cases r1;exact Ee p1 p2 ⟨.ref b,H,I,rfl,q⟩
def tyName:Blt->Option String
 |.isStr=>some "str"
 |_=>none
def KZ(I:Inv X pins σ H s)(h:dc X.K H F (.lst ds) v)(r:RelV v u):∃l its,u=.ref l/\s.heap.IsList l its:=by
 rcases h with h|⟨a,xs,_,_,rfl,h1,_⟩
 .unfold Rel at h;obtain⟨a,xs,rfl,h1,_⟩:=h;obtain⟨its,_,p,_⟩:=I.list h1.sq;exact⟨a,_,r,p.isList⟩
 .obtain⟨its,_,p,_⟩:=I.list (.inl (.inl h1));exact⟨a,_,r,p.isList⟩
def KY(I:Inv X pins σ H s)(h:dc X.K H F (.tup ds) v)(r:RelV v u):∃l its,u=.ref l/\s.heap.IsTuple l its:=by
 rcases h with h|⟨a,xs,_,e,_⟩
 .unfold Rel at h;obtain⟨a,xs,rfl,h1,_⟩:=h;obtain⟨its,_,p,_⟩:=I.tuple h1;exact⟨a,_,r,p⟩
 .cases e
def Ef(hT:tyName f=some T):cE X (.builtin "isinstance") (λxs H Q=>∃F d x b,dc X.K H F d x/\xs=[x,.ty T]/\hZ f [d]=some (.bl b)/\Q (.bl b) H):=by
 intro pins s σ H xs us Q I r h;obtain⟨F,d,x,b,hr,rfl,hb,q⟩:=h;obtain⟨u,w',rfl,ru,rw'⟩:=vals2 r;cases(show w'=Value.type T from rw');have fin:∀tk,EP X pins σ Q (.bool b) {s with toks:=tk}:=λtk=>⟨.bl b,H,I.tok tk,rfl,q⟩
 cases d with
 |non=>have rd:=fo I hr ru (by unfold dep;lia);unfold RdV at rd;subst rd;cases f<;>simp[tyName]at hT<;>subst hT<;>simp[hZ,fW]at hb<;>subst hb<;>exact PySem.W.kia_one PySem.W.kitx_none I.kIn fQ rfl (λz=>nomatch z) fin
 |bl y=>have rd:=fo I hr ru (by unfold dep;lia);unfold RdV at rd;subst rd;cases f<;>simp[tyName]at hT<;>subst hT<;>simp[hZ,fW]at hb<;>subst hb<;>exact PySem.W.kia_one PySem.W.kitx_bool I.kIn fQ rfl (λz=>nomatch z) fin
 |int y=>have rd:=fo I hr ru (by unfold dep;lia);unfold RdV at rd;obtain⟨t,rfl⟩:=rd;cases f<;>simp[tyName]at hT<;>subst hT<;>simp[hZ,fW]at hb<;>subst hb<;>exact PySem.W.kia_one PySem.W.kitx_int I.kIn fQ rfl (λz=>nomatch z) fin
 |str y=>have rd:=fo I hr ru (by unfold dep;lia);unfold RdV at rd;obtain⟨t,rfl⟩:=rd;cases f<;>simp[tyName]at hT<;>subst hT<;>simp[hZ,fW]at hb<;>subst hb<;>exact PySem.W.kia_one PySem.W.kitx_str I.kIn fQ rfl (λz=>nomatch z) fin
 |lst y =>
  obtain⟨l,its,rfl,⟨o,h1,h2,_⟩⟩:=KZ I hr ru
  cases f<;>simp[tyName]at hT<;>subst hT<;>simp[hZ,fW]at hb<;>subst hb<;>exact PySem.W.kia_one PySem.W.kitx_list I.kIn ⟨o,h1,h2⟩ rfl (λz=>nomatch z) fin
 |tup y =>
  obtain⟨l,its,rfl,⟨o,h1,h2,_⟩⟩:=KY I hr ru
  cases f<;>simp[tyName]at hT<;>subst hT<;>simp[hZ,fW]at hb<;>subst hb<;>exact PySem.W.kia_one PySem.W.kitx_tuple I.kIn ⟨o,h1,h2⟩ rfl (λz=>nomatch z) fin
 |fn _ _=>cases f<;>simp[tyName]at hT<;>simp[hZ,fW]at hb
 |dct ks ds =>
  obtain⟨l,rfl,hty⟩:∃l,u=.ref l/\s.TypeIs (.ref l) "dict":=by
   rcases hr with h|⟨a,xs,_,e,_⟩
   .unfold Rel at h;obtain⟨a,vs,rfl,h1,_⟩:=h;exact⟨a,ru,(Dw I (.inl ⟨_,h1⟩)).1⟩
   .cases e
  obtain⟨o,h1,h2⟩:=hty;cases f<;>simp[tyName]at hT<;>subst hT<;>simp[hZ,fW]at hb<;>subst hb<;>exact PySem.W.kia_one PySem.W.kitx_dict I.kIn ⟨o,h1,h2⟩ rfl (λz=>nomatch z) fin
def Its(x:Str):L2.It:=⟨λi _=>i<x.cps.size,λi H v H'=>H'=H/\∃c,x.cps[i]?=some c/\v=.str ⟨#[c]⟩,λi _=>i=x.cps.size⟩
def oX{P:aQ}{w:bD}{K:PySem.W.Frag}{tg:aE}{it:av}{n:Nat}{PV:Nat->ai->Prop}{St:Nat->bW->Prop}{J:L2.It}{ty:String}
 (W:∀A:bE,A.handled=none->Walks P w A it [it] [it] n PV St)(hst:∀i h,St i h->∃(o:Obj)(vs:Array ai),h.get? it=some o/\o.cls=.type ty/\o.data=.fields vs)
 (hn:["enumerate","zip","dict_itemiterator","dict_reverseitemiterator","odict_iterator","itertools.zip_longest","itertools.pairwise"].contains ty=false)
 (go:∀i H,J.go i H->i<n)(stop:∀i H,J.stop i H->i=n)(yld:∀i v H,PV i v->∃x,RelV x v/\J.yld i H x H)
 (self:∀(A:bE)(i:Nat)(s:au)(Q:ai->au->Prop)(E:ai->au->Prop),St i s.heap->Q (.ref it) s->wpAny (model P w) A (pyIter (.ref it)) Q E s) :
 Turn P w K tg J [it] it St where
 mem:=by simp
 obj:=λi h st b hb=>by
  have e:b=it:=by simpa using hb
  subst e;obtain⟨o,vs,e,c,d⟩:=hst i h st;exact⟨o,e,λv z=>by rw[d]at z;cases z⟩
 keep:=λi h h' st k=>(W { } rfl).frame i h h' st k
 item:=by
  intro X hP hw hK hc i pins s σ H E I hf st hg;subst hP hw hK;obtain⟨f0,f1,f2,f3,f4,f5⟩:=hf it ↥0;refine(W X.A (I.ok.hd hc)).item i s _ _ (go i H hg) st λv h' tk hv st' kk=>?_;have I1:Inv X pins σ H {s with heap:=h',toks:=tk}:=I.turned (λb o hb e=>kk b o (by simpa using hb) e) f0 f1 f3 f4 f5;obtain⟨o,vs,e,c,d⟩:=hst _ _ st';obtain⟨x,r,y⟩:=yld i v H hv;exact⟨v,rfl,vz (s:={s with heap:=h',toks:=tk}) e c d hn ⟨x,H,I1,r,y,st',λb hb=>(hf b hb).1⟩⟩
 done:=by
  intro X hP hw hK hc i pins s σ H E I hf st hg;subst hP hw hK;obtain⟨f0,f1,f2,f3,f4,f5⟩:=hf it ↥0;have e:=stop i H hg;subst e;exact(W X.A (I.ok.hd hc)).done s _ _ st λh' tk kk=>⟨rfl,I.turned (λb o hb e=>kk b o (by simpa using hb) e) f0 f1 f3 f4 f5⟩
 self:=self
def Bo{P:aQ}{w:bD}{K:PySem.W.Frag}{tg:aE}(it:av)(x:Str)(t:Tok):Turn P w K tg (Its x) [it] it (λi h=>h.IsStrIter it (strIterType x) x t i):=by
 unfold strIterType;split
 .exact oX (ty:="str_ascii_iterator") (λA hA=>Walks.strAscii hA it x t) (λi h⟨o,e,c,d⟩=>⟨o,_,e,c,d⟩) ⇑0 (λi H z=>z) (λi H z=>z) (λi v H⟨c,u,h1,h2⟩=>⟨.str ⟨#[c]⟩,⟨u,h2⟩,rfl,c,h1,rfl⟩) λ_ _ _ _ _ st h=>wpAny_pyIter_striter_ascii st h
 .exact oX (ty:="str_iterator") (λA hA=>Walks.strWide hA it x t) (λi h⟨o,e,c,d⟩=>⟨o,_,e,c,d⟩) ⇑0 (λi H z=>z) (λi H z=>z) (λi v H⟨c,u,h1,h2⟩=>⟨.str ⟨#[c]⟩,⟨u,h2⟩,rfl,c,h1,rfl⟩) λ_ _ _ _ _ st h=>wpAny_pyIter_striter_wide st h
end
end PP
end
section
namespace PP
open PySem L2 PyProof.Rows PySem.SeqAt
open AutoSeq1 (wpAny_loadPart')
variable[Tbs]
section
variable{P:aQ}{w:bD}{A:bE}{s:au}
end
section
variable{K:PySem.W.Frag}{H:Hp}{F:av->Prop}
def DB{k x:Str}(h:¬k=x):¬(km k:Key)=km x:=λe=>h (Sum.inr.inj e)
def vD(x:Str):∀{ks:List Str}{ds:List D}{vs:List V},ks.length=ds.length->aH K H F ds vs ->
 (∀d,kW ks ds x=some d->∃v,lx (zk ks vs) (.inr x)=some v/\Rel K H F d v)/\(kW ks ds x=none->lx (zk ks vs) (.inr x)=none)
 |[],ds,vs,_,_=>⟨λd e=>(by unfold kW at e;cases e),λ_=>(by unfold zk;rfl)⟩
 |k::ks,[],vs,hl,_=>by cases hl
 |k::ks,d::ds,vs,hl,r=>by
  unfold aH at r;obtain⟨v,vs',rfl,r1,r2⟩:=r;have ih:=vD x (lM hl) r2;unfold kW zk;by_cases h:k=x
  .rw[if_pos h,lW (by rw[h])];exact⟨λd e=>(by cases e;exact⟨v,rfl,r1⟩),λe=>(by cases e)⟩
  .rw[if_neg h,jV (DB h)];exact ih
end
section
variable{X:Cx}{pins:List (av×Obj)}{σ:L2.St}{H:Hp}{s:au}{F:av->Prop}{A:bE}
end
end PP
end
section
namespace PP
open PySem L2 PyProof.Rows PySem.SeqAt PySem.Calls
section
variable{prog:aQ}{w:bD}{A:bE}{R:LW->au->Prop}{I:av}{fp wr:List av}{n:Nat}{P:Nat->ai->Prop}{St:Nat->bW->Prop}
end
variable{X:Cx}[Tbs]
end PP
end
section
namespace PP
open PySem L2 PySem.SeqAt PyProof.Rows PySem.W
open AutoSeq1 (wpAny_loadPart')
open MeetsSeq MeetsSeq2 MeetsSeq3 SeqRoads2
variable[Tbs]
def Gx:OpR X (binaryOp .Add) (λx y H Q=>∃l b xs zs,x=.ref l/\y=.ref b/\LsB X.K H l xs/\LsB X.K H b zs/\xs.length+zs.length<=sizeLine/\∀p,H p=none->Q (.ref p) (upd H p (.lst (xs++zs)))):=by
 intro pins s σ H x y v u Q I rx ry h;obtain⟨l,b,xs,zs,rfl,rfl,h1,h2,hz,q⟩:=h;cases rx;cases ry;obtain⟨i1,n1,r1,e1,z1⟩:=h1.obj I;obtain⟨i2,n2,r2,e2,z2⟩:=h2.obj I;have l1:=r1.length;have l2:=r2.length;refine PySem.P.add_list e1 e2 ?_ (by simp only[aB];omega);rw[show i1.toArray++i2.toArray=(i1++i2).toArray by simp];exact⟨.ref _,_,I.lnew (t':=s.toks) (r1.append r2) (by rw[az];omega),rfl,q _ I.fresh⟩
end PP
end
section
namespace PP
open PySem PySem.W PyProof.Rows
section
variable{lt:Nat->Nat->Bool}{n:Nat}
end
section
variable{prog:aQ}{w:bD}{A:bE}{E:ai->au->Prop}{s:au}
end
end PP
end
section
namespace PP
open PySem L2 PySem.SeqAt PyProof.Rows PySem.W
variable[Tbs]
section
variable{lt:Nat->Nat->Bool}
end
section
variable{prog:aQ}{w:bD}{s:au}
end
end PP
end
section
namespace PP
open PySem
structure Ck where
 N:List Str
 sc:dQ
 fns:List (Str×List Str)
 gn:List Str
def zu(sc:dQ)(x:Str):Bool:=match sc.names.lookup x with
 |some .local=>true|some .cell=>true|some .free=>true|_=>false
def KL(sc:dQ)(x:Str):Bool:=match sc.names.lookup x with
 |some .local=>true|some .cell=>true|_=>false
def glB(sc:dQ)(x:Str):Bool:=match sc.names.lookup x with
 |some .globalImplicit=>true|_=>false
def Dc(x:Str):Bool:=!(x==("__debug__":Str))&&!(x==("__classdict__":Str))&&!(x==("__name__":Str))
def dM(c:Ck)(i:Nat)(x:Str):Bool:=decide (c.N[i]?=some x)&&zu c.sc x&&Dc x
def fU(c:Ck)(i:Nat)(x:Str):Bool:=decide (c.N[i]?=some x)&&KL c.sc x&&Dc x
def dm(c:Ck)(x:Str):Bool:=glB c.sc x&&Dc x
def Gz:Op->gL->Bool
 |.add,.Add=>true|.sub,.Sub=>true|.mul,.Mult=>true|.mod,.Mod=>true|.fdiv,.FloorDiv=>true|.pow,.Pow=>true
 |_,_=>false
def jf:Cop->uo->Bool
 |.lt,.Lt=>true|.le,.LtE=>true|.gt,.Gt=>true|.eq,.Eq=>true|.ne,.NotEq=>true|.isin,.In=>true|.notin,.NotIn=>true|.is,.Is=>true
 |_,_=>false
def rG:Blt->Str
 |.len=>"len"|.max=>"max"|.toInt=>"int"|.toStr=>"str"|.toTup=>"tuple"|.toLst=>"list"|.all=>"all"|.sum=>"sum"
 |.isStr=>"isinstance"
def mtN:Mt->Str
 |.split=>"split"|.part=>"partition"|.ends=>"endswith"|.join=>"join"|.index=>"index"|.find=>"find"
def jg:List Str:=["len","min","max","int","str","tuple","list","dict","sum","isinstance","bool","range","sorted","set","zip","any","divmod","reversed","all"]
def iY:Es->Bool
 |.nil=>true
 |.cons e es=>!bp e&&iY es
def qj:Es->Bool
 |.nil=>true
 |.cons e es=>(!bp e||npS es)&&qj es
def DQ:Es->Nat
 |.nil=>0
 |.cons _ es=>DQ es+1
def st(x:aE):Str:=match x with
 |.Name y _=>y
 |.Attribute _ m _=>m
 |_=>""
def cst(x:aE):HV:=match x with
 |.Constant v _ _=>v
 |_=>.none
def e1(x:aE):aE:=match x with
 |.BinOp y _ _ _=>y
 |.Compare y _ _ _=>y
 |.UnaryOp _ y _=>y
 |.IfExp t _ _ _=>t
 |.Subscript y _ _=>y
 |.Call f _ _ _=>f
 |.Attribute y _ _=>y
 |.ListComp e _ _ _=>e
 |.SetComp e _ _ _=>e
 |_=>x
def bop(x:aE):gL:=match x with
 |.BinOp _ o _ _=>o
 |_=>.Add
def e2(x:aE):aE:=match x with
 |.BinOp _ _ z _=>z
 |.IfExp _ y _ _=>y
 |.Subscript _ z _=>z
 |_=>x
def Om(x:aE):List uo:=match x with
 |.Compare _ os _ _=>os
 |_=>[]
def ls(x:aE):List aE:=match x with
 |.Compare _ _ zs _=>zs
 |.BoolOp _ vs _=>vs
 |.Tuple es _ _=>es
 |.List es _=>es
 |.Call _ as _ _=>as
 |_=>[]
def Oo(x:aE):PySem.BoolOp:=match x with
 |.BoolOp o _ _=>o
 |_=>.And
def po(x:aE):Pos:=match x with
 |.Name _ p=>p
 |.BoolOp _ _ p=>p
 |.Call _ _ _ p=>p
 |.Attribute _ _ p=>p
 |.ListComp _ _ _ p=>p
 |_=>⟨0,0,0,0⟩
def uop(x:aE):PySem.UnaryOp:=match x with
 |.UnaryOp o _ _=>o
 |_=>.Not
def e3(x:aE):aE:=match x with
 |.IfExp _ _ z _=>z
 |_=>x
def o1(x:aE):Option aE:=match x with
 |.Slice l _ _ _=>l
 |_=>none
def o2(x:aE):Option aE:=match x with
 |.Slice _ h _ _=>h
 |_=>none
def o3(x:aE):Option aE:=match x with
 |.Slice _ _ s _=>s
 |_=>none
def kws(x:aE):List dR:=match x with
 |.Call _ _ ks _=>ks
 |_=>[]
def gns(x:aE):List ku:=match x with
 |.ListComp _ gs _ _=>gs
 |.SetComp _ gs _ _=>gs
 |_=>[]
def scp(x:aE)(d:dQ):dQ:=match x with
 |.ListComp _ _ sc _=>sc
 |.SetComp _ _ sc _=>sc
 |_=>d
def fy:aE->Nat
 |.Name .. => 0
 |.Constant .. => 1
 |.BinOp .. => 2
 |.Compare .. => 3
 |.BoolOp .. => 4
 |.UnaryOp .. => 5
 |.IfExp .. => 6
 |.Tuple .. => 7
 |.List .. => 8
 |.Subscript .. => 9
 |.Slice .. => 10
 |.Call .. => 11
 |.Attribute .. => 12
 |.ListComp .. => 13
 |.SetComp .. => 14
 |.JoinedStr .. => 15
 |.FormattedValue .. => 16
 |.Dict .. => 17
 |_=>99
def Nk(x:aE):Nat->Prop
 |0=>∃y p,x=.Name y p
 |1=>∃v n p,x=.Constant v n p
 |2=>∃y o z p,x=.BinOp y o z p
 |3=>∃y os zs p,x=.Compare y os zs p
 |4=>∃o vs p,x=.BoolOp o vs p
 |5=>∃o y p,x=.UnaryOp o y p
 |6=>∃t y z p,x=.IfExp t y z p
 |7=>∃es n p,x=.Tuple es n p
 |8=>∃es p,x=.List es p
 |9=>∃y z p,x=.Subscript y z p
 |10=>∃l u s p,x=.Slice l u s p
 |11=>∃f as ks p,x=.Call f as ks p
 |12=>∃y m p,x=.Attribute y m p
 |13=>∃e gs sc p,x=.ListComp e gs sc p
 |14=>∃e gs sc p,x=.SetComp e gs sc p
 |15=>∃vs p,x=.JoinedStr vs p
 |16=>∃y cv sp p,x=.FormattedValue y cv sp p
 |17=>∃ks vs p,x=.Dict ks vs p
 |_=>True
def DA(x:aE):Nk x (fy x):=by
 cases x<;>first|trivial|exact⟨_,_,rfl⟩|exact⟨_,_,_,rfl⟩|exact⟨_,_,_,_,rfl⟩|exact⟨_,_,_,_,_,rfl⟩
def cM(h:((fy x==n)&&b)=true):Nk x n/\b=true:=by
 rw[aa]at h;exact⟨eq_of_beq h.1▸DA x,h.2⟩
@[irreducible] noncomputable def cu (x:aE) (k:Str->Bool):Bool:=(fy x==0)&&k (st x)
def ba(h:cu x k=true):∃y p,x=.Name y p/\k y=true:=by
 unfold cu at h;obtain⟨⟨y,p,rfl⟩,h⟩:=cM h;exact⟨y,p,rfl,h⟩
@[irreducible] noncomputable def onC (x:aE) (k:HV->Bool):Bool:=(fy x==1)&&k (cst x)
def jv(h:onC x k=true):∃v n p,x=.Constant v n p/\k v=true:=by
 unfold onC at h;obtain⟨⟨v,n,p,rfl⟩,h⟩:=cM h;exact⟨v,n,p,rfl,h⟩
@[irreducible] noncomputable def CU (x:aE) (k:aE->gL->aE->Bool):Bool:=(fy x==2)&&k (e1 x) (bop x) (e2 x)
def vd(h:CU x k=true):∃y o z p,x=.BinOp y o z p/\k y o z=true:=by
 unfold CU at h;obtain⟨⟨y,o,z,p,rfl⟩,h⟩:=cM h;exact⟨y,o,z,p,rfl,h⟩
@[irreducible] noncomputable def qU (x:aE) (k:aE->List uo->List aE->Bool):Bool:=(fy x==3)&&k (e1 x) (Om x) (ls x)
def fA(h:qU x k=true):∃y os zs p,x=.Compare y os zs p/\k y os zs=true:=by
 unfold qU at h;obtain⟨⟨y,os,zs,p,rfl⟩,h⟩:=cM h;exact⟨y,os,zs,p,rfl,h⟩
@[irreducible] noncomputable def zP (x:aE) (k:PySem.BoolOp->List aE->Pos->Bool):Bool:=(fy x==4)&&k (Oo x) (ls x) (po x)
def kD(h:zP x k=true):∃o vs p,x=.BoolOp o vs p/\k o vs p=true:=by
 unfold zP at h;obtain⟨⟨o,vs,p,rfl⟩,h⟩:=cM h;exact⟨o,vs,p,rfl,h⟩
@[irreducible] noncomputable def CO (x:aE) (k:PySem.UnaryOp->aE->Bool):Bool:=(fy x==5)&&k (uop x) (e1 x)
def oH(h:CO x k=true):∃o y p,x=.UnaryOp o y p/\k o y=true:=by
 unfold CO at h;obtain⟨⟨o,y,p,rfl⟩,h⟩:=cM h;exact⟨o,y,p,rfl,h⟩
@[irreducible] noncomputable def Kv (x:aE) (k:aE->aE->aE->Bool):Bool:=(fy x==6)&&k (e1 x) (e2 x) (e3 x)
def yC(h:Kv x k=true):∃t y z p,x=.IfExp t y z p/\k t y z=true:=by
 unfold Kv at h;obtain⟨⟨t,y,z,p,rfl⟩,h⟩:=cM h;exact⟨t,y,z,p,rfl,h⟩
@[irreducible] noncomputable def jZ (x:aE) (k:List aE->Bool):Bool:=(fy x==7)&&k (ls x)
def dJ(h:jZ x k=true):∃es n p,x=.Tuple es n p/\k es=true:=by
 unfold jZ at h;obtain⟨⟨es,n,p,rfl⟩,h⟩:=cM h;exact⟨es,n,p,rfl,h⟩
@[irreducible] noncomputable def CQ (x:aE) (k:List aE->Bool):Bool:=(fy x==8)&&k (ls x)
def pI(h:CQ x k=true):∃es p,x=.List es p/\k es=true:=by
 unfold CQ at h;obtain⟨⟨es,p,rfl⟩,h⟩:=cM h;exact⟨es,p,rfl,h⟩
def dk:aE->List (Option aE)
 |.Dict ks _ _=>ks
 |_=>[]
def dv:aE->List aE
 |.Dict _ vs _=>vs
 |_=>[]
@[irreducible] noncomputable def GF (x:aE) (k:List (Option aE)->List aE->Bool):Bool:=(fy x==17)&&k (dk x) (dv x)
def oI(h:GF x k=true):∃ks vs p,x=.Dict ks vs p/\k ks vs=true:=by
 unfold GF at h;obtain⟨⟨ks,vs,p,rfl⟩,h⟩:=cM h;exact⟨ks,vs,p,rfl,h⟩
@[irreducible] noncomputable def nM (x:aE) (k:aE->aE->Bool):Bool:=(fy x==9)&&k (e1 x) (e2 x)
def gC(h:nM x k=true):∃y z p,x=.Subscript y z p/\k y z=true:=by
 unfold nM at h;obtain⟨⟨y,z,p,rfl⟩,h⟩:=cM h;exact⟨y,z,p,rfl,h⟩
@[irreducible] noncomputable def GB (x:aE) (k:Option aE->Option aE->Option aE->Bool):Bool:=(fy x==10)&&k (o1 x) (o2 x) (o3 x)
def sJ(h:GB x k=true):∃l u s p,x=.Slice l u s p/\k l u s=true:=by
 unfold GB at h;obtain⟨⟨l,u,s,p,rfl⟩,h⟩:=cM h;exact⟨l,u,s,p,rfl,h⟩
@[irreducible] noncomputable def sN (x:aE) (k:aE->List aE->List dR->Pos->Bool):Bool:=(fy x==11)&&k (e1 x) (ls x) (kws x) (po x)
def qV(h:sN x k=true):∃f as ks p,x=.Call f as ks p/\k f as ks p=true:=by
 unfold sN at h;obtain⟨⟨f,as,ks,p,rfl⟩,h⟩:=cM h;exact⟨f,as,ks,p,rfl,h⟩
@[irreducible] noncomputable def Kx (x:aE) (k:aE->Str->Pos->Bool):Bool:=(fy x==12)&&k (e1 x) (st x) (po x)
def GG(h:Kx x k=true):∃y m p,x=.Attribute y m p/\k y m p=true:=by
 unfold Kx at h;obtain⟨⟨y,m,p,rfl⟩,h⟩:=cM h;exact⟨y,m,p,rfl,h⟩
@[irreducible] noncomputable def GC (x:aE) (k:aE->List ku->dQ->Pos->Bool):Bool:=(fy x==13)&&k (e1 x) (gns x) (scp x default) (po x)
def mj(h:GC x k=true):∃e gs sc p,x=.ListComp e gs sc p/\k e gs sc p=true:=by
 unfold GC at h;obtain⟨⟨e,gs,sc,p,rfl⟩,h⟩:=cM h;exact⟨e,gs,sc,p,rfl,h⟩
def sls(x:bG):List aE:=match x with
 |.Assign ts _ _=>ts
 |_=>[]
def s1(x:bG):aE:=match x with
 |.Assign _ y _=>y
 |.AugAssign t _ _ _=>t
 |.If t _ _ _=>t
 |.For t _ _ _ _=>t
 |.While t _ _ _=>t
 |.Expr y _=>y
 |_=>.Constant .none 0 ⟨0,0,0,0⟩
def sop(x:bG):gL:=match x with
 |.AugAssign _ o _ _=>o
 |_=>.Add
def s2(x:bG):aE:=match x with
 |.AugAssign _ _ y _=>y
 |.For _ it _ _ _=>it
 |_=>.Constant .none 0 ⟨0,0,0,0⟩
def so(x:bG):Option aE:=match x with
 |.Return y _=>y
 |_=>none
def sb(x:bG):List bG:=match x with
 |.If _ y _ _=>y
 |.For _ _ y _ _=>y
 |.While _ y _ _=>y
 |_=>[]
def sc2(x:bG):List bG:=match x with
 |.If _ _ z _=>z
 |.For _ _ _ z _=>z
 |.While _ _ z _=>z
 |_=>[]
def si:bG->Nat
 |.Assign .. => 0
 |.AugAssign .. => 1
 |.Return .. => 2
 |.If .. => 3
 |.For .. => 4
 |.While .. => 5
 |.Expr .. => 6
 |_=>99
def Nj(x:bG):Nat->Prop
 |0=>∃ts y p,x=.Assign ts y p
 |1=>∃t o y p,x=.AugAssign t o y p
 |2=>∃y p,x=.Return y p
 |3=>∃t y z p,x=.If t y z p
 |4=>∃t it y z p,x=.For t it y z p
 |5=>∃t y z p,x=.While t y z p
 |6=>∃y p,x=.Expr y p
 |_=>True
def Dz(x:bG):Nj x (si x):=by
 cases x<;>first|trivial|exact⟨_,_,rfl⟩|exact⟨_,_,_,rfl⟩|exact⟨_,_,_,_,rfl⟩|exact⟨_,_,_,_,_,rfl⟩
def jz(h:((si x==n)&&b)=true):Nj x n/\b=true:=by
 rw[aa]at h;exact⟨eq_of_beq h.1▸Dz x,h.2⟩
@[irreducible] noncomputable def nN (x:bG) (k:List aE->aE->Bool):Bool:=(si x==0)&&k (sls x) (s1 x)
def iX(h:nN x k=true):∃ts y p,x=.Assign ts y p/\k ts y=true:=by
 unfold nN at h;obtain⟨⟨ts,y,p,rfl⟩,h⟩:=jz h;exact⟨ts,y,p,rfl,h⟩
@[irreducible] noncomputable def CY (x:bG) (k:aE->gL->aE->Bool):Bool:=(si x==1)&&k (s1 x) (sop x) (s2 x)
def CV(h:CY x k=true):∃t o y p,x=.AugAssign t o y p/\k t o y=true:=by
 unfold CY at h;obtain⟨⟨t,o,y,p,rfl⟩,h⟩:=jz h;exact⟨t,o,y,p,rfl,h⟩
@[irreducible] noncomputable def yB (x:bG) (k:Option aE->Bool):Bool:=(si x==2)&&k (so x)
def va(h:yB x k=true):∃y p,x=.Return y p/\k y=true:=by
 unfold yB at h;obtain⟨⟨y,p,rfl⟩,h⟩:=jz h;exact⟨y,p,rfl,h⟩
@[irreducible] noncomputable def pJ (x:bG) (k:aE->List bG->List bG->Bool):Bool:=(si x==3)&&k (s1 x) (sb x) (sc2 x)
def kb(h:pJ x k=true):∃t y z p,x=.If t y z p/\k t y z=true:=by
 unfold pJ at h;obtain⟨⟨t,y,z,p,rfl⟩,h⟩:=jz h;exact⟨t,y,z,p,rfl,h⟩
@[irreducible] noncomputable def yD (x:bG) (k:aE->aE->List bG->List bG->Bool):Bool:=(si x==4)&&k (s1 x) (s2 x) (sb x) (sc2 x)
def vc(h:yD x k=true):∃t it y z p,x=.For t it y z p/\k t it y z=true:=by
 unfold yD at h;obtain⟨⟨t,it,y,z,p,rfl⟩,h⟩:=jz h;exact⟨t,it,y,z,p,rfl,h⟩
@[irreducible] noncomputable def Ku (x:bG) (k:aE->List bG->List bG->Bool):Bool:=(si x==5)&&k (s1 x) (sb x) (sc2 x)
def GA(h:Ku x k=true):∃t y z p,x=.While t y z p/\k t y z=true:=by
 unfold Ku at h;obtain⟨⟨t,y,z,p,rfl⟩,h⟩:=jz h;exact⟨t,y,z,p,rfl,h⟩
@[irreducible] noncomputable def CT (x:bG) (k:aE->Bool):Bool:=(si x==6)&&k (s1 x)
def sL(h:CT x k=true):∃y p,x=.Expr y p/\k y=true:=by
 unfold CT at h;obtain⟨⟨y,p,rfl⟩,h⟩:=jz h;exact⟨y,p,rfl,h⟩
section
variable{α:Type}{xs:List α}
@[irreducible] noncomputable def on0 (xs:List α) (k:Bool):Bool:=match xs with
 |[]=>k
 |_=>false
def di(h:on0 xs k=true):xs=[]/\k=true:=by
 unfold on0 at h;cases xs<;>first|exact⟨rfl,h⟩|cases h
@[irreducible] noncomputable def onS (xs:List α) (k:α->List α->Bool):Bool:=match xs with
 |y::ys=>k y ys
 |_=>false
def cF(h:onS xs k=true):∃y ys,xs=y::ys/\k y ys=true:=by
 unfold onS at h;cases xs<;>first|exact⟨_,_,rfl,h⟩|cases h
@[irreducible] noncomputable def on1 (xs:List α) (k:α->Bool):Bool:=onS xs λy ys=>on0 ys (k y)
def cA(h:on1 xs k=true):∃y,xs=[y]/\k y=true:=by
 unfold on1 at h;obtain⟨y,ys,rfl,h1⟩:=cF h;obtain⟨rfl,h2⟩:=di h1;exact⟨y,rfl,h2⟩
@[irreducible] noncomputable def on2 (xs:List α) (k:α->α->Bool):Bool:=onS xs λy ys=>on1 ys (k y)
def fS(h:on2 xs k=true):∃y z,xs=[y,z]/\k y z=true:=by
 unfold on2 at h;obtain⟨y,ys,rfl,h1⟩:=cF h;obtain⟨z,rfl,h2⟩:=cA h1;exact⟨y,z,rfl,h2⟩
end
@[irreducible] noncomputable def onI (v:HV) (k:Int->Bool):Bool:=match v with
 |.int i=>k i
 |_=>false
def CS(h:onI v k=true):∃i,v=.int i/\k i=true:=by
 unfold onI at h;cases v<;>first|exact⟨_,rfl,h⟩|cases h
@[irreducible] noncomputable def onB (v:HV) (k:Bool->Bool):Bool:=match v with
 |.bool i=>k i
 |_=>false
def Kw(h:onB v k=true):∃i,v=.bool i/\k i=true:=by
 unfold onB at h;cases v<;>first|exact⟨_,rfl,h⟩|cases h
@[irreducible] noncomputable def onT (v:HV) (k:Str->Bool):Bool:=match v with
 |.str i=>k i
 |_=>false
def wN(h:onT v k=true):∃i,v=.str i/\k i=true:=by
 unfold onT at h;cases v<;>first|exact⟨_,rfl,h⟩|cases h
def Iu:HV->Bool
 |.none=>true
 |_=>false
def Du(h:Iu v=true):v=.none:=by
 cases v<;>first|rfl|cases h
@[irreducible] noncomputable def kL (x:aE) (k:Str->List aE->Bool):Bool:=sN x λf as ks _=>cu f λn=>on0 ks (k n as)
def dB(h:kL x k=true):∃n np as p,x=.Call (.Name n np) as [] p/\k n as=true:=by
 unfold kL at h;obtain⟨f,as,ks,p,rfl,h1⟩:=qV h;obtain⟨n,np,rfl,h2⟩:=ba h1;obtain⟨rfl,h3⟩:=di h2;exact⟨n,np,as,p,rfl,h3⟩
@[irreducible] noncomputable def onM (x:aE) (k:aE->Str->List aE->Bool):Bool:=sN x λf as ks cp=>Kx f λy m ap=>on0 ks (decide (ap.endLine=cp.line)&&k y m as)
def ka(h:onM x k=true):∃y m ap as cp,x=.Call (.Attribute y m ap) as [] cp/\ap.endLine=cp.line/\k y m as=true:=by
 unfold onM at h;obtain⟨f,as,ks,cp,rfl,h1⟩:=qV h;obtain⟨y,m,ap,rfl,h2⟩:=GG h1;obtain⟨rfl,h3⟩:=di h2;rw[aa]at h3;exact⟨y,m,ap,as,cp,rfl,of_decide_eq_true h3.1,h3.2⟩
@[irreducible] noncomputable def onG (g:ku) (k:aE->aE->List aE->Bool):Bool:=decide (g.is_async=0)&&k g.target g.iter g.ifs
def wU(h:onG g k=true):∃t it il,g=⟨t,it,il,0⟩/\k t it il=true:=by
 obtain⟨t,it,il,a⟩:=g;unfold onG at h;rw[aa]at h;have e:a=0:=of_decide_eq_true h.1;subst e;exact⟨t,it,il,rfl,h.2⟩
def Fb:aE->Option (List Str)
 |.Name x _=>some [x]
 |.Tuple es _ _=>es.mapM fun|.Name x _=>some x|_=>none
 |_=>none
def Hu(c:Ck):List Nat->List aE->Bool
 |[],es=>on0 es true
 |i::is,es=>onS es λe r=>cu e (λx=>fU c i x)&&Hu c is r
def qt(c:Ck):Tg->aE->Bool
 |.nm i,x=>cu x λy=>fU c i y
 |.tp is,x=>jZ x λes=>Hu c is es
 |.pr i is,x=>jZ x λes=>on2 es λa b=>cu a (λy=>fU c i y)&&jZ b λes=>Hu c is es
def wj(n:Nat):Tg->Bool
 |.nm i=>decide (n<=i)
 |.tp is=>is.all λi=>decide (n<=i)
 |.pr i is=>decide (n<=i)&&is.all λi=>decide (n<=i)
def mn(ts:List Str)(N:List Str):List Str:=N.map λy=>if ts.contains y then y++(" ":Str)else y
def me(c:Ck)(sc:dQ):Bool :=
 decide (sc.kind=.function)&&sc.names.all λp=>decide (p.2≠.cell)&&(!decide (p.2=.local)||decide (sc.names.lookup p.1=some .local)) &&
  (!decide (p.2=.free)||(match c.sc.names.lookup p.1 with|some .cell=>true|some .free=>true|_=>false))
def namesOk(c:Ck)(sc:dQ)(Nc:List Str):Bool :=
 decide Nc.Nodup&&(du c.N.length).all λi=>match Nc[i]? with
  |some x=>!zu sc x||(decide (c.N[i]?=some x)&&decide (sc.names.lookup x=some .free))
  |none=>false
def Ir:PySem.UnaryOp->Bool
 |.Not=>true
 |_=>false
def isNeg:PySem.UnaryOp->Bool
 |.USub=>true
 |_=>false
def vx(h:Ir o=true):o=.Not:=by cases o<;>first|rfl|cases h
def Dv(h:isNeg o=true):o=.USub:=by cases o<;>first|rfl|cases h
@[irreducible] noncomputable def onO (x:Option aE) (k:aE->Bool):Bool:=match x with
 |some y=>k y
 |none=>false
def lB(h:onO x k=true):∃y,x=some y/\k y=true:=by
 unfold onO at h
 cases x with
 |none=>cases h
 |some y=>exact⟨y,rfl,h⟩
def Ng(x:aE):Bool:=fy x==9
def Of(x:aE):Bool:=fy x==17
def Lw:List (Str×Int)->List (Option aE)->List aE->Bool
 |[],ks,vs=>on0 ks (on0 vs true)
 |p::l,ks,vs=>onS ks λk ks=>onS vs λv vs=>onO k λk=>onC k λa=>onT a λt=>onC v λb=>onI b λi=>decide (t=p.1)&&(decide (i=p.2)&&Lw l ks vs)
def dZ:aE->Bool
 |.Name .. |.Constant .. |.BinOp .. |.Compare .. |.BoolOp .. |.UnaryOp .. |.IfExp .. |.Tuple .. |.List .. |.Subscript .. |.Call .. |.ListComp .. => true
 |.JoinedStr .. => true
 |.Dict .. => true
 |_=>false
variable[Tbs]
def Nf(x:aE):Bool:=fy x==7
mutual
noncomputable def ckE(c:Ck):E->aE->Bool
 |.var i,x=>cu x λy=>dM c i y
 |.pk i,x=>cu x λy=>dM c i y
 |.glob g,x=>cu x λy=>decide (c.gn[g]?=some y)&&dm c y
 |.int i,x=>onC x λv=>onI v λj=>decide (i=j)
 |.bl b,x=>onC x λv=>onB v λj=>decide (b=j)
 |.non,x=>onC x Iu
 |.str t,x=>onC x λv=>onT v λu=>decide (t=u)
 |.bin op a b,x=>CU x λy o z=>Gz op o&&ckE c a y&&ckE c b z&&(!bp a||np b)
 |.cmp op a b,x=>qU x λy os zs=>on1 os λo=>on1 zs λz=>jf op o&&ckE c a y&&ckE c b z&&(!bp a||np b)
 |.and a b,x=>zP x λo vs p=>onS vs λy r=>onS r λz r2=>(match o with
  |.And=>true
  |.Or=>false)&&ckE c a y&&ckE c b (match r2 with
  |[]=>z
  |_::_=>.BoolOp .And (z::r2) p)&&!bp a&&!bp b
 |.or a b,x=>zP x λo vs p=>onS vs λy r=>onS r λz r2=>(match o with
  |.And=>false
  |.Or=>true)&&ckE c a y&&ckE c b (match r2 with
  |[]=>z
  |_::_=>.BoolOp .Or (z::r2) p)&&!bp a&&!bp b
 |.not a,x=>CO x λo y=>Ir o&&ckE c a y&&!bp a
 |.neg a,x=>CO x λo y=>isNeg o&&ckE c a y&&!bp a
 |.ite k a b,x=>Kv x λt y z=>ckE c k t&&ckE c a y&&ckE c b z&&!bp a&&!bp b
 |.tup es,x=>jZ x λxs=>iS c es xs&&iY es
 |.lst es,x=>CQ x λxs=>iS c es xs&&iY es
 |.ix a b,x=>nM x λy z=>ckE c a y&&ckE c b z&&(!bp a||np b)&&!bp b
 |.rvl a hi s,x=>nM x λy z=>GB z λl h t=>l.isNone&&(ckE c a y&&(ckO c hi h&&(ckO c s t&&!bp a)))
 |.dcc l,x=>GF x λks vs=>decide (l.map iL).Nodup&&(decide (l.length<=15)&&(!l.isEmpty&&Lw l ks vs))
 |.dsv i j,x=>GF x λks vs=>on1 ks λk=>on1 vs λv=>onO k λk=>cu k λy=>cu v λz=>dM c i y&&dM c j z
 |.sl a lo hi,x=>nM x λy z=>GB z λl h s=>s.isNone&&(ckE c a y&&ckO c lo l&&ckO c hi h&&(!bp a||(npO lo&&npO hi)))
 |.call f es,x=>kL x λn xs=>(match c.fns[f]? with
   |some (m,ps)=>decide (m=n)&&dm c n&&decide (ps.length=DQ es)&&iS c es xs&&iY es&&!xs.isEmpty
   |none=>false)
 |.blt f es,x=>kL x λn xs=>decide (rG f=n)&&dm c n&&(match tyName f with
   |some T=>on2 xs λy w=>cu w λt=>decide (t=(T:Str))&&dm c t&&iS c es [y]&&qj es
   |none=>!xs.isEmpty&&iS c es xs&&qj es)
 |.pop i,x=>onM x λy m as=>cu y λy=>on0 as (decide (m=("pop":Str))&&dM c i y)
 |.bad,x=>dZ x
 |.popi i j,x=>onM x λy m as=>cu y λy=>on1 as λz=>decide (m=("pop":Str))&&dM c i y&&ckE c j z&&!bp j
 |.gin ng n l e,x=>qU x λy os zs=>on1 os λo=>on1 zs λz=>cu z λm=>decide (m=n)&&dm c m&&decide (Tbs.gds.lookup m=some l)&&jf (if ng then .notin else .isin) o&&ckE c e y&&!bp e
 |.gix n l e,x=>nM x λy z=>cu y λm=>decide (m=n)&&dm c m&&decide (Tbs.gds.lookup m=some l)&&ckE c e z&&!bp e
 |.mt m a b,x=>onM x λy n as=>on1 as λz=>decide (n=mtN m)&&ckE c a y&&ckE c b z&&!bp a&&!bp b&&(fy y==0||fy y==1||fy y==9)
 |.chn o1 o2 a b e,x=>qU x λy os zs=>on2 os λq1 q2=>on2 zs λz w=>jf o1 q1&&jf o2 q2&&ckE c a y&&ckE c b z&&ckE c e w&&!bp a&&!bp b&&!bp e
 |.dgt a b e,x=>onM x λy m as=>on2 as λu v=>decide (m=("get":Str))&&ckE c a y&&ckE c b u&&ckE c e v&&!bp a&&!bp b&&!bp e&&(Ng y||Of y)
 |.comp k tg src ifs elt,x=>GC x λex gs sc _=>on1 gs λg=>onG g λt it il=>(match Fb t with
   |some ts=>decide (ts.length=k)&&wj c.N.length tg&&me c sc&&namesOk c sc (mn ts c.N++ts)&&qt ⟨mn ts c.N++ts,sc,c.fns,c.gn⟩ tg t&&ckI c src t it &&
     ckG ⟨mn ts c.N++ts,sc,c.fns,c.gn⟩ ifs il&&ckE ⟨mn ts c.N++ts,sc,c.fns,c.gn⟩ elt ex&&!bp elt
   |none=>false)
noncomputable def iS(c:Ck):Es->List aE->Bool
 |.nil,xs=>on0 xs true
 |.cons e es,xs=>onS xs λy ys=>ckE c e y&&iS c es ys
noncomputable def ckO(c:Ck):Eo->Option aE->Bool
 |.no,x=>x.isNone
 |.yes e,x=>onO x λy=>ckE c e y&&!bp e
noncomputable def ckG(c:Ck):Eo->List aE->Bool
 |.no,x=>on0 x true
 |.yes e,x=>on1 x λy=>ckE c e y
noncomputable def ckI(c:Ck):It->aE->aE->Bool
 |.rng e,_,x=>kL x λn xs=>on1 xs λy=>decide (n=("range":Str))&&dm c n&&ckE c e y&&!bp e
 |.rev e,_,x=>kL x λn xs=>on1 xs λy=>decide (n=("reversed":Str))&&dm c n&&ckE c e y&&!bp e
 |.sq e,_,x=>ckE c e x&&!bp e
end
def fL(h:iS c es (y::ys)=true):∃e es',es=.cons e es'/\ckE c e y=true/\iS c es' ys=true:=by
 cases es with
 |nil=>cases(di h).1
 |cons e es =>
  obtain⟨_,_,q,h'⟩:=cF h;cases q;rw[aa]at h';exact⟨e,es,rfl,h'⟩
def uG(h:qt c tg t=true):(∃x p,t=.Name x p)\/∃es n p,t=.Tuple es n p:=by
 cases tg with
 |nm i=>obtain⟨x,p,rfl,_⟩:=ba h;exact .inl ⟨x,p,rfl⟩
 |tp is=>obtain⟨es,n,p,rfl,_⟩:=dJ h;exact .inr ⟨es,n,p,rfl⟩
 |pr i is=>obtain⟨es,n,p,rfl,_⟩:=dJ h;exact .inr ⟨es,n,p,rfl⟩
def hdN(h:cu x k=true):dZ x=true:=by obtain⟨_,_,rfl,_⟩:=ba h;rfl
def hdC(h:onC x k=true):dZ x=true:=by obtain⟨_,_,_,rfl,_⟩:=jv h;rfl
def hdF(h:kL x k=true):dZ x=true:=by obtain⟨_,_,_,_,rfl,_⟩:=dB h;rfl
def hdM(h:onM x k=true):dZ x=true:=by obtain⟨_,_,_,_,_,rfl,_⟩:=ka h;rfl
def hdB(h:zP x k=true):dZ x=true:=by obtain⟨_,_,_,rfl,_⟩:=kD h;rfl
def hdU(h:CO x k=true):dZ x=true:=by obtain⟨_,_,_,rfl,_⟩:=oH h;rfl
def hdS(h:nM x k=true):dZ x=true:=by obtain⟨_,_,_,rfl,_⟩:=gC h;rfl
def bq(h:ckE c e x=true):dZ x=true:=by
 cases e with
 |var i=>exact hdN h
 |pk i=>exact hdN h
 |glob g=>exact hdN h
 |int i=>exact hdC h
 |bl b=>exact hdC h
 |non=>exact hdC h
 |str t=>exact hdC h
 |bin op a b=>obtain⟨_,_,_,_,rfl,_⟩:=vd h;rfl
 |cmp op a b=>obtain⟨_,_,_,_,rfl,_⟩:=fA h;rfl
 |and a b=>exact hdB h
 |or a b=>exact hdB h
 |not a=>exact hdU h
 |neg a=>exact hdU h
 |ite k a b=>obtain⟨_,_,_,_,rfl,_⟩:=yC h;rfl
 |tup es=>obtain⟨_,_,_,rfl,_⟩:=dJ h;rfl
 |lst es=>obtain⟨_,_,rfl,_⟩:=pI h;rfl
 |ix a b=>exact hdS h
 |sl a lo hi=>exact hdS h
 |rvl a h' s=>exact hdS h
 |dcc l=>obtain⟨_,_,_,rfl,_⟩:=oI h;rfl
 |dsv i j=>obtain⟨_,_,_,rfl,_⟩:=oI h;rfl
 |call f es=>exact hdF h
 |blt f es=>exact hdF h
 |pop i=>exact hdM h
 |popi i j=>exact hdM h
 |bad=>exact h
 |gin ng n l e=>obtain⟨_,_,_,_,rfl,_⟩:=fA h;rfl
 |gix n l e=>obtain⟨_,_,_,rfl,_⟩:=gC h;rfl
 |mt m a b=>exact hdM h
 |chn o1 o2 a b e=>obtain⟨_,_,_,_,rfl,_⟩:=fA h;rfl
 |dgt a b e=>exact hdM h
 |comp k tg src ifs elt=>obtain⟨_,_,_,_,rfl,_⟩:=mj h;rfl
def bu(h:dZ x=true)(xs:List aE)(env:Env):starEach (x::xs) env=(false,eval x env)::starEach xs env:=by
 cases x<;>first|rfl|(exact absurd h aq)
def DE(h:dZ x=true)(env:Env)(v:ai):foldedSetIterable x env v=pure v:=by
 cases x<;>first|rfl|(exact absurd h aq)
def kF(h:dZ x=true)(op:uo):behindInMarks op x=false:=by
 cases x<;>first|rfl|(exact absurd h aq)
def yN(h:dZ x=true):L2.PlainIx x:=by
 intro o i;cases x<;>first|rfl|(exact absurd h aq)
def ke:aE->Bool
 |.ListComp .. => true
 |_=>false
def head_swaps(h:dZ x=true)(hc:ke x=false)(t:Option aE)(n:Nat)(env:Env):swapsWith x t n env=pure false:=by
 cases x<;>first|rfl|(exact absurd h aq)|(exact absurd hc.symm aq)
def Dx:E->Bool
 |.comp .. => true
 |_=>false
@[irreducible] noncomputable def wQ (x:aE) (k:Str->Pos->Bool):Bool:=(fy x==0)&&k (st x) (po x)
def mi(h:wQ x k=true):∃y p,x=.Name y p/\k y p=true:=by
 unfold wQ at h;obtain⟨⟨y,p,rfl⟩,h⟩:=cM h;exact⟨y,p,rfl,h⟩
def newOk:E->Bool
 |.lst _=>true
 |.blt .toLst _=>true
 |.sl _ _ _=>true
 |.mt .split _ _=>true
 |_=>false
def isNm(x:aE):Bool:=fy x==0
def MS(c:Ck)(i j:Nat)(es:Es)(t y:aE):Bool:=jZ t λus=>on2 us λu v=>wQ u λx px=>wQ v λz pz=>jZ y λvs=>on2 vs λa b =>
 decide (c.N[i]?=some x)&&decide (c.N[j]?=some z)&&decide (c.sc.names.lookup x=some .local)&&decide (c.sc.names.lookup z=some .local)&&decide (x≠z)&&decide (px.line=pz.line)&&iS c es [a,b]&&iY es&&!(foldedForSure 8 a&&foldedForSure 8 b)&&!(constantsAlone 8 a&&constantsAlone 8 b)
def Ik(c:Ck)(tg:Tg)(e:E)(t y:aE):Bool:=match tg,e with
 |.tp [i,j],.tup es=>MS c i j es t y
 |_,_=>false
def MR(c:Ck)(t:aE):Bool:=jZ t λus=>on2 us λu v=>wQ u λx _=>wQ v λ_ _=>decide (c.sc.names.lookup x≠some .local)
mutual
noncomputable def ckS(c:Ck):S->bG->Bool
 |.asg tg e,x=>nN x λts y=>on1 ts λt=>qt c tg t&&ckE c e y&&!bp e&&!ke y&&(isNm t||!Nf y||MR c t||Ik c tg e t y)
 |.new i e,x=>nN x λts y=>on1 ts λt=>cu t λt=>fU c i t&&ckE c e y&&!ke y&&newOk e
 |.cmp own i e,x=>Dx e&&nN x λts y=>on1 ts λt=>wQ t λt tp=>GC y λex gs sc p=>fU c i t&&ckE c e (.ListComp ex gs sc p)&&((decide (c.sc.names.lookup t=some .local)&&decide (tp.line=p.line)&&!(sc.names.any λ(n,k)=>n==t&&(k==.local||k==.cell)))||(!own&&decide (c.sc.names.lookup t=some .cell)))
 |.aug i op e,x=>CY x λt o y=>cu t λt=>fU c i t&&Gz op o&&ckE c e y&&!bp e
 |.ret e,x=>yB x λy=>onO y λy=>ckE c e y&&!bp e
 |.ifs k a b,x=>pJ x λt y z=>ckE c k t&&oh c a y&&oh c b z
 |.for_ tg src body,x=>yD x λt it y z=>on0 z (qt c tg t&&ckI c src t it&&oh c body y)
 |.while_ k body,x=>Ku x λt y z=>on0 z (ckE c k t&&oh c body y)
 |.ins i es,x=>CT x λw=>onM w λy m as=>cu y λy=>on2 as λu v=>decide (m=("insert":Str))&&dM c i y&&iS c es [u,v]&&iY es
 |.append i e,x=>CT x λw=>onM w λy m as=>cu y λy=>on1 as λz=>decide (m=("append":Str))&&dM c i y&&ckE c e z&&!bp e
 |.setix i j e,x=>nN x λts y=>on1 ts λt=>nM t λw z=>cu w λt=>dM c i t&&ckE c e y&&!bp e&&!ke y&&ckE c j z&&!bp j
 |.opq _,_=>false
 |.bad,_=>true
noncomputable def oh(c:Ck):Ss->List bG->Bool
 |.nil,xs=>on0 xs true
 |.cons s ss,xs=>onS xs λy ys=>ckS c s y&&oh c ss ys
end
end PP
end
section
namespace PP
open PySem L2 PyProof.Rows
variable[Tbs]
def NA(K:PySem.W.Frag)(G:Gh)(F:av->Prop)(σ:L2.St)(H:Hp)(m nP:Bool)(d:D)(δ':Loc)(Q:VK):Prop :=
 ∀v H' F',Step G F H F' H'->(nP=true->Sim H H')->Ok K G F' σ H' δ'->RelM m K H' F' d v->Q v H'
def tE(K:PySem.W.Frag)(cx:Cl)(e:E):TE:=λσ H Q=>∃G F δ d δ',Ok K G F σ H δ/\evE cx e δ=some (d,δ')/\NA K G F σ H (bp e) (np e) d δ' Q
def tT(K:PySem.W.Frag)(cx:Cl)(e:E):TT:=λσ H Q=>∃G F δ b δ',Ok K G F σ H δ/\evT cx e δ=some (b,δ') /\
 ∀H' F',Step G F H F' H'->(np e=true->Sim H H')->Ok K G F' σ H' δ'->Q b H'
def nS(K:PySem.W.Frag)(H:Hp)(F:av->Prop):Es->List D->List V->Prop
 |.nil,ds,vs=>ds=[]/\vs=[]
 |.cons e es,ds,vs=>∃d ds' v vs',ds=d::ds'/\vs=v::vs'/\RelM (bp e) K H F d v/\nS K H F es ds' vs'
def tEs(K:PySem.W.Frag)(cx:Cl)(es:Es):TA:=λσ H Q=>∃G F δ ds δ',Ok K G F σ H δ/\cT cx es δ=some (ds,δ') /\
 ∀vs H' F',Step G F H F' H'->(npS es=true->Sim H H')->Ok K G F' σ H' δ'->nS K H' F' es ds vs->Q vs H'
def tO(K:PySem.W.Frag)(cx:Cl)(o:Eo):TO:=λσ H Q=>∃G F δ d δ',Ok K G F σ H δ/\evO cx o δ=some (d,δ') /\
 ∀H' F',Step G F H F' H'->(npO o=true->Sim H H')->Ok K G F' σ H' δ'->Q d H'
def tG(K:PySem.W.Frag)(cx:Cl)(o:Eo):TT:=λσ H Q=>∃G F δ b δ',Ok K G F σ H δ/\evG cx o δ=some (b,δ') /\
 ∀H' F',Step G F H F' H'->(npO o=true->Sim H H')->Ok K G F' σ H' δ'->Q b H'
def Wk(K:PySem.W.Frag)(G:Gh)(F:av->Prop)(H:Hp)(J:L2.It)(ds:List D):Prop:=∀F2 H2,Step G F H F2 H2->FD F2 H2->∀i:Nat,
 (∀d,ds[i]?=some d->J.go i H2/\∀x H3,J.yld i H2 x H3->fD H2 H3/\Rel K H3 F2 d x)/\(i=ds.length->J.stop i H2)
def tI(K:PySem.W.Frag)(cx:Cl)(t:It):TI:=λσ H R=>∃G F δ ds δ',Ok K G F σ H δ/\evI cx t δ=some (ds,δ') /\
 ∀J H' F',Step G F H F' H'->(npI t=true->Sim H H')->Ok K G F' σ H' δ'->(∀G',Wk K G' F' H' J ds)->R J H'
section
variable{K:PySem.W.Frag}{cx:Cl}{X:Cx}
def PE.imp(h:PE X e t)(w:∀σ H Q,t' σ H Q->t σ H Q):PE X e t':=λpins s σ H Q I q=>h pins s σ H Q I (w σ H Q q)
def PT.imp(h:PT X e t)(w:∀σ H Q,t' σ H Q->t σ H Q):PT X e t':=λpins s σ H Q I q=>h pins s σ H Q I (w σ H Q q)
def two{a b:E}{σ:L2.St}{G:Gh}{H:Hp}{F:av->Prop}{δ δ1 δ2:Loc}{x y:D}(ok:Ok K G F σ H δ)(ea:evE cx a δ=some (x,δ1))(eb:evE cx b δ1=some (y,δ2))(pc:(!bp a||np b)=true){R:V->V->Hp->Prop}
 (k:∀v u H2 F2,Step G F H F2 H2->((np a&&np b)=true->Sim H H2)->Ok K G F2 σ H2 δ2->RelM (bp a) K H2 F2 x v->RelM (bp b) K H2 F2 y u->R v u H2) :
 tE K cx a σ H λv H1=>tE K cx b σ H1 λu H2=>R v u H2:=by
 refine⟨G,F,δ,x,δ1,ok,ea,λv H1 F1 st1 sm1 ok1 r1=>⟨G,F1,δ1,y,δ2,ok1,eb,λu H2 F2 st2 sm2 ok2 r2=>?_⟩⟩;refine k v u H2 F2 (st1.trans st2) (λz=>?_) ok2 (RelM.step ok1.fd st2 (λz=>sm2 (by rw[z]at pc;simpa using pc)) r1) r2;rw[aa]at z;exact(sm1 z.1).trans (sm2 z.2)
def dc.int{H:Hp}{F:av->Prop}{i:Int}{v:V}(h:dc K H F (.int i) v):v=.int i:=by
 rcases h with h|⟨_,_,_,e,_⟩
 .unfold Rel at h;exact h
 .cases e
def dc.bl(h:dc K H F (.bl i) v):v=.bl i:=by
 rcases h with h|⟨_,_,_,e,_⟩
 .unfold Rel at h;exact h
 .cases e
def dc.str{H:Hp}{F:av->Prop}{i:Str}{v:V}(h:dc K H F (.str i) v):v=.str i:=by
 rcases h with h|⟨_,_,_,e,_⟩
 .unfold Rel at h;exact h
 .cases e
def dc.tup{H:Hp}{F:av->Prop}{ds:List D}{v:V}(h:dc K H F (.tup ds) v):∃a xs,v=.ref a/\SqT K H a xs/\aH K H F ds xs:=by
 rcases h with h|⟨_,_,_,e,_⟩
 .unfold Rel at h;exact h
 .cases e
def dc.lst{H:Hp}{F:av->Prop}{ds:List D}{v:V}(h:dc K H F (.lst ds) v):∃a xs,v=.ref a/\LsB K H a xs/\aH K H F ds xs:=by
 rcases h with h|⟨a,xs,_,e,e2,h1,h2⟩
 .unfold Rel at h;obtain⟨a,xs,e,h1,h2⟩:=h;exact⟨a,xs,e,h1.b,h2⟩
 .cases e;exact⟨a,xs,e2,.inl (.inl h1),h2⟩
def cC{H:Hp}{F:av->Prop}(i:Int):Rel K H F (.int i) (.int i):=by unfold Rel;rfl
def iy(i:Bool):Rel K H F (.bl i) (.bl i):=by unfold Rel;rfl
def eJ{H:Hp}{F:av->Prop}(i:Str):Rel K H F (.str i) (.str i):=by unfold Rel;rfl
def yh:Rel K H F .non .non:=by unfold Rel;rfl
def Ok.laid{σ:L2.St}{G:Gh}{H:Hp}{F:av->Prop}{δ:Loc}{p:av}(ok:Ok K G F σ H δ)(hp:H p=none)(o:HO):Ok K G F σ (upd H p o) δ/\Step G F H F (upd H p o)/\Sim H (upd H p o)/\¬F p :=
 ⟨ok.same' (cH hp o),Step.of_same (cH hp o),.of (cH hp o),ok.fd.none hp⟩
def jt{σ:L2.St}{G:Gh}{H:Hp}{F:av->Prop}{δ:Loc}{p:av}{ds:List D}{xs:List V}(ok:Ok K G F σ H δ)(hp:H p=none)(r:aH K H F ds xs):Rel K (upd H p (.tup xs)) F (.tup ds) (.ref p):=by
 unfold Rel;exact⟨p,xs,rfl,SqT.of bK,aH.step (G:=G) ok.fd (Step.of_same (cH hp _)) ds xs r⟩
def ju{σ:L2.St}{G:Gh}{H:Hp}{F:av->Prop}{δ:Loc}{p:av}{ds:List D}{xs:List V}(ok:Ok K G F σ H δ)(hp:H p=none)(r:aH K H F ds xs):Rel K (upd H p (.lst xs)) F (.lst ds) (.ref p):=by
 unfold Rel;exact⟨p,xs,rfl,.inl ⟨.inl bK,(ok.laid hp (.lst xs)).2.2.2⟩,aH.step (G:=G) ok.fd (Step.of_same (cH hp _)) ds xs r⟩
def FH{a b:E}{y z:aE}{op:Op}{o:gL}{pos:Pos}(ho:Gz op o=true)(pc:(!bp a||np b)=true)(ha:PE X y (tE X.K cx a))(hb:PE X z (tE X.K cx b)):PE X (.BinOp y o z pos) (tE X.K cx (.bin op a b)):=by
 intro pins s σ H Q I h;obtain⟨G,F,δ,d,δ',ok,ev,post⟩:=h;simp only[evE,ae,af]at ev;obtain⟨⟨x,δ1⟩,ea,⟨y',δ2⟩,eb,d',hd,e⟩:=ev;cases e;dsimp only at eb hd post;have fin:∀v H2 F2,Step G F H F2 H2->((np a&&np b)=true->Sim H H2)->Ok X.K G F2 σ H2 δ2->Rel X.K H2 F2 d v->Q v H2:=λv H2 F2 st sm ok2 r=>post v H2 F2 st sm ok2 r;cases op<;>cases o<;>first|(exact absurd ho aq)|skip
 .refine qS (Kr.or (wM.or (Gw.or (Gy.or Gx)))) ha hb pins s σ H Q I (two ok ea eb pc λv u H2 F2 st sm ok2 r1 r2=>?_);change LM x y'=some d at hd;unfold LM at hd;split at hd
  .cases hd;have e1:=r1.b.int;have e2:=r2.b.int;subst e1;subst e2;exact .inl ⟨_,_,rfl,rfl,fin _ _ _ st sm ok2 (cC _)⟩
  .split at hd
   .cases hd;have e1:=r1.b.str;have e2:=r2.b.str;subst e1;subst e2;exact .inr (.inl ⟨_,_,rfl,rfl,‹_›,fin _ _ _ st sm ok2 (eJ _)⟩)
   .cases hd
  .cases hd;obtain⟨p1,xs1,e1,s1,l1⟩:=r1.b.tup;obtain⟨p2,xs2,e2,s2,l2⟩:=r2.b.tup;subst e1;subst e2;unfold aH at l1;subst l1;refine .inr (.inr (.inr (.inl ⟨p1,p2,xs2,rfl,rfl,s1,s2,fin _ _ _ st sm ok2 ?_⟩)));unfold Rel;exact⟨p2,xs2,rfl,s2,l2⟩
  .split at hd
   .rename_i q;cases hd;obtain⟨p1,xs1,e1,s1,l1⟩:=r1.b.tup;obtain⟨p2,xs2,e2,s2,l2⟩:=r2.b.tup;subst e1;subst e2;refine .inr (.inr (.inl ⟨p1,p2,xs1,xs2,rfl,rfl,s1,s2,λz=>?_,by rw[l1.length,l2.length];exact q,λz=>?_,λ_ p hp=>?_⟩))
    .have:=l1.length;rw[z]at this;cases this
    .refine fin _ _ _ st sm ok2 ?_;have e:∀{ys:List D},aH X.K H2 F2 ys xs2->ys=[]:=λ{ys}r=>by have:=r.length;rw[z]at this;exact fZ.mp this.symm
     have:=e l2;subst this;rw[bt];unfold Rel;exact⟨p1,xs1,rfl,s1,l1⟩
    .obtain⟨o1,o2,o3,o4⟩:=ok2.laid hp (.tup (xs1++xs2));exact fin _ _ _ (st.trans o2) (λz=>(sm z).trans o3) o1 (jt ok2 hp (l1.append l2))
   .cases hd
  .split at hd
   .rename_i q;cases hd;obtain⟨p1,xs1,e1,s1,l1⟩:=r1.b.lst;obtain⟨p2,xs2,e2,s2,l2⟩:=r2.b.lst;subst e1;subst e2;refine .inr (.inr (.inr (.inr ⟨p1,p2,xs1,xs2,rfl,rfl,s1,s2,by rw[l1.length,l2.length];exact q,λp hp=>?_⟩)));obtain⟨o1,o2,o3,o4⟩:=ok2.laid hp (.lst (xs1++xs2));exact fin _ _ _ (st.trans o2) (λz=>(sm z).trans o3) o1 (ju ok2 hp (l1.append l2))
   .cases hd
  .cases hd
 .refine qS Kj ha hb pins s σ H Q I (two ok ea eb pc λv u H2 F2 st sm ok2 r1 r2=>?_);change Jw x y'=some d at hd;unfold Jw at hd;split at hd<;>first|(cases hd;done)|skip
  cases hd;have e1:=r1.b.int;have e2:=r2.b.int;subst e1;subst e2;exact⟨_,_,rfl,rfl,fin _ _ _ st sm ok2 (cC _)⟩
 .refine qS (Gv.or Gu) ha hb pins s σ H Q I (two ok ea eb pc λv u H2 F2 st sm ok2 r1 r2=>?_);change KA x y'=some d at hd;unfold KA at hd;split at hd<;>first|(cases hd;done)|skip
  .split at hd
   .rename_i q;cases hd;have e1:=r1.b.int;have e2:=r2.b.int;subst e1;subst e2;refine .inl ⟨_,_,rfl,rfl,?_,fin _ _ _ st sm ok2 (cC _)⟩;exact GN q
   .cases hd
  .split at hd
   .rename_i q;cases hd;have e1:=r1.b.str;have e2:=r2.b.int;subst e1;subst e2;exact .inr ⟨_,_,rfl,rfl,q,fin _ _ _ st sm ok2 (eJ _)⟩
   .cases hd
 .refine qS Km ha hb pins s σ H Q I (two ok ea eb pc λv u H2 F2 st sm ok2 r1 r2=>?_);change KG x y'=some d at hd;unfold KG at hd;split at hd<;>first|(cases hd;done)|skip
  split at hd
  .rename_i q;cases hd;have e1:=r1.b.int;have e2:=r2.b.int;subst e1;subst e2;exact⟨_,_,rfl,rfl,q,fin _ _ _ st sm ok2 (cC _)⟩
  .cases hd
 .refine qS CN ha hb pins s σ H Q I (two ok ea eb pc λv u H2 F2 st sm ok2 r1 r2=>?_);change DI x y'=some d at hd;unfold DI at hd;split at hd<;>first|(cases hd;done)|skip
  split at hd
  .rename_i q;cases hd;have e1:=r1.b.int;have e2:=r2.b.int;subst e1;subst e2;exact⟨_,_,rfl,rfl,q,fin _ _ _ st sm ok2 (cC _)⟩
  .cases hd
 .refine qS Kk ha hb pins s σ H Q I (two ok ea eb pc λv u H2 F2 st sm ok2 r1 r2=>?_);change JV x y'=some d at hd;unfold JV at hd;split at hd<;>first|(cases hd;done)|skip
  split at hd
  .rename_i q;cases hd;have e1:=r1.b.int;have e2:=r2.b.int;subst e1;subst e2;exact⟨_,_,rfl,rfl,q,fin _ _ _ st sm ok2 (cC _)⟩
  .cases hd
end
end PP
end
section
namespace PP
open PySem L2 PySem.SeqAt PyProof.Rows PySem.W
variable[Tbs]
end PP
end
section
namespace PP
open PySem PySem.W PyProof.Rows
section
variable{prog:aQ}{w:bD}{A:bE}{E:ai->au->Prop}{s:au}
end
end PP
end
section
namespace PP
open PySem L2 PySem.SeqAt PyProof.Rows PySem.W
variable[Tbs]
end PP
end
section
namespace PP
open PySem L2 PyProof.Rows PySem.SeqAt PySem.Calls
section
variable{prog:aQ}{w:bD}{A:bE}{R:LW->au->Prop}{I:av}{fp wr:List av}{n:Nat}{P:Nat->ai->Prop}{St:Nat->bW->Prop}
end
end PP
end
section
namespace PP
open PySem L2 PyProof.Rows
variable[Tbs]
section
variable{K:PySem.W.Frag}{cx:Cl}{X:Cx}
def eN(r:Rel K H F d v):RelM false K H F d v:=r
def rC(K:PySem.W.Frag)(op:Cop):R2:=λx y H Q=>∃F a b k,dc K H F a x/\dc K H F b y/\gv op a b=some k/\Q (.bl k) H
def CL(h:Gr p a b=some k):∃i j,a=.int i/\b=.int j/\k=p i j:=by
 unfold Gr at h;split at h
 .cases h;exact⟨_,_,rfl,rfl,rfl⟩
 .cases h
def Iv(h:inD a b=some k):(∃ds,(b=.lst ds\/b=.tup ds)/\(dep a<=150/\eS ds<99999)/\k=ds.any λy=>eqD y a)\/∃x y,a=.str x/\b=.str y/\k=vg y x:=by
 unfold inD at h;split at h
 .split at h
  .cases h;exact .inl ⟨_,.inl rfl,‹_›,rfl⟩
  .cases h
 .split at h
  .cases h;exact .inl ⟨_,.inr rfl,‹_›,rfl⟩
  .cases h
 .split at h
  .cases h;exact .inr ⟨_,_,rfl,rfl,rfl⟩
  .cases h
 .cases h
def sI:OpR X (compareOp .NotIn) (λx y H Q=>∃i j,x=.str i/\y=.str j/\Q (.bl (!vg j i)) H):=by
 intro pins s σ H x y v u Q I rx ry h;obtain⟨i,j,rfl,rfl,q⟩:=h;obtain⟨t,rfl⟩:=rx;obtain⟨t',rfl⟩:=ry;exact PySem.P.notIn_str ⟨.bl _,H,I,rfl,q⟩
def OpR.imp(h:OpR X f r)(w:∀x y H Q,r' x y H Q->r x y H Q):OpR X f r':=λpins s σ H x y v u Q I rx ry q=>h pins s σ H x y v u Q I rx ry (w _ _ _ _ q)
def Ko:OpR X (compareOp .Is) (λx y H Q=>∃i j,x=.bl i/\y=.bl j/\Q (.bl (i==j)) H):=by
 intro pins s σ H x y v u Q I rx ry h;obtain⟨i,j,rfl,rfl,q⟩:=h;cases rx;cases ry;exact PyProof.Rows.is_bool ⟨.bl _,H,I,rfl,q⟩
def Nh(h:isD a b=some k)(ra:dc K H F a x)(rb:dc K H F b y):(y=.non/\k=decide (x=.non))\/∃i j,x=.bl i/\y=.bl j/\k=(i==j):=by
 cases b<;>first|(cases h;done)|skip
 rotate_left
 .cases a<;>first|(cases h;done)|skip
  cases h;refine .inr ⟨_,_,?_,?_,rfl⟩
  .rcases ra with r|⟨_,_,_,e,_⟩
   .unfold Rel at r;exact r
   .cases e
  .rcases rb with r|⟨_,_,_,e,_⟩
   .unfold Rel at r;exact r
   .cases e
 cases h;refine .inl ⟨?_,?_⟩
 .rcases rb with r|⟨_,_,_,e,_⟩
  .unfold Rel at r;exact r
  .cases e
 .rcases ra with r|⟨_,_,_,rfl,rfl,_⟩
  .cases a<;>unfold Rel at r<;>first|(subst r;rfl)|(obtain⟨_,_,rfl,_⟩:=r;rfl)|exact r.elim
  .rfl
def Nd(h:leD a b=some k):(∃i j,a=.int i/\b=.int j/\k=decide (i<=j))\/∃i j,a=.str i/\b=.str j/\k=!decide (j.cps.toList<i.cps.toList):=by
 unfold leD at h;split at h
 .cases h;exact .inl ⟨_,_,rfl,rfl,rfl⟩
 .cases h;exact .inr ⟨_,_,rfl,rfl,rfl⟩
 .cases h
def zN:OpR X (compareOp .LtE) (λx y H Q=>∃i j,x=.str i/\y=.str j/\Q (.bl (!decide (j.cps.toList<i.cps.toList))) H):=by
 intro pins s σ H x y v u Q I rx ry h;obtain⟨i,j,rfl,rfl,q⟩:=h;obtain⟨t,rfl⟩:=rx;obtain⟨t',rfl⟩:=ry;exact PySem.P.le_str ⟨.bl _,H,I,rfl,q⟩
def opC(hu:X.A.units+200<cLine)(ho:jf op o=true):OpR X (compareOp o) (rC X.K op):=by
 cases op<;>cases o<;>first|(exact absurd ho aq)|skip
 .refine OpR.imp MU λx y H Q⟨F,a,b,k,ra,rb,e,q⟩=>?_;obtain⟨i,j,rfl,rfl,rfl⟩:=CL e;exact⟨i,j,ra.int,rb.int,q⟩
 .refine OpR.imp (MV.or zN) λx y H Q zz=>?_;obtain⟨F,a,b,k,ra,rb,e,q⟩:=zz;rcases Nd e with⟨i,j,rfl,rfl,rfl⟩|⟨i,j,rfl,rfl,rfl⟩
  .exact .inl ⟨i,j,ra.int,rb.int,q⟩
  .exact .inr ⟨i,j,ra.str,rb.str,q⟩
 .refine OpR.imp MW λx y H Q zz=>?_;obtain⟨F,a,b,k,ra,rb,e,q⟩:=zz;obtain⟨i,j,rfl,rfl,rfl⟩:=CL e;exact⟨i,j,ra.int,rb.int,q⟩
 .refine OpR.imp ((Kq hu).or MX) λx y H Q zz=>?_;obtain⟨F,a,b,k,ra,rb,e,q⟩:=zz;change (if iD a b=true then some (eqD a b)else if Na a b=true then some false else none)=some k at e;split at e
  .cases e;exact .inl ⟨F,a,b,ra,rb,‹_›,q⟩
  .split at e
   .rename_i hm;cases e;cases a<;>cases b<;>first|(cases hm;done)|skip
    .rw[ra.int,rb.str];exact .inr ⟨rfl,q⟩
    .rw[ra.str,rb.int];exact .inr ⟨rfl,q⟩
   .cases e
 .refine OpR.imp (Kl hu) λx y H Q zz=>?_;obtain⟨F,a,b,k,ra,rb,e,q⟩:=zz;change (if iD a b=true then some (!eqD a b)else none)=some k at e;split at e
  .cases e;exact⟨F,a,b,ra,rb,‹_›,q⟩
  .cases e
 .intro pins s σ H x y v u Q I rx ry h;obtain⟨F,a,b,k,ra,rb,e,q⟩:=h;rcases Iv e with⟨ds,hb,hd,rfl⟩|⟨x',y',rfl,rfl,rfl⟩
  .refine Kp hu pins s σ H x y v u Q I rx ry ⟨F,a,ds,ra,?_,hd,q⟩;rcases hb with rfl|rfl
   .exact .inl rb
   .exact .inr rb
  .exact zO pins s σ H x y v u Q I rx ry ⟨x',y',ra.str,rb.str,q⟩
 .intro pins s σ H x y v u Q I rx ry h;obtain⟨F,a,b,k,ra,rb,e,q⟩:=h;change (inD a b).map (!·)=some k at e;rw[aj]at e;obtain⟨k',e,rfl⟩:=e;rcases Iv e with⟨ds,hb,hd,rfl⟩|⟨x',y',rfl,rfl,rfl⟩
  .refine zM hu pins s σ H x y v u Q I rx ry ⟨F,a,ds,ra,?_,hd,q⟩;rcases hb with rfl|rfl
   .exact .inl rb
   .exact .inr rb
  .exact sI pins s σ H x y v u Q I rx ry ⟨x',y',ra.str,rb.str,q⟩
 .refine OpR.imp (Kn.or Ko) λx y H Q zz=>?_;obtain⟨F,a,b,k,ra,rb,e,q⟩:=zz;rcases Nh e ra rb with⟨e1,e2⟩|⟨i,j,e1,e2,e3⟩
  .exact .inl ⟨e1,e2▸q⟩
  .exact .inr ⟨i,j,e1,e2,e3▸q⟩
def Lu(ev:evE cx (.cmp op a b) δ=some (d,δ')):∃x δ1 y k,evE cx a δ=some (x,δ1)/\evE cx b δ1=some (y,δ')/\gv op x y=some k/\d=.bl k:=by
 simp only[evE,ae,af]at ev;obtain⟨⟨x,δ1⟩,ea,⟨y',δ2⟩,eb,k,hd,e⟩:=ev;cases e;exact⟨x,δ1,y',k,ea,eb,hd,rfl⟩
def Hs(ev:evT cx (.cmp op a b) δ=some (k,δ')):∃x δ1 y,evE cx a δ=some (x,δ1)/\evE cx b δ1=some (y,δ')/\gv op x y=some k:=by
 simp only[evT,ae,af]at ev;obtain⟨⟨x,δ1⟩,ea,⟨y',δ2⟩,eb,k,hd,e⟩:=ev;cases e;exact⟨x,δ1,y',ea,eb,hd⟩
def FF(hu:X.A.units+200<cLine)(ho:jf op o=true)(pc:(!bp a||np b)=true)(ha:PE X y (tE X.K cx a))(hb:PE X z (tE X.K cx b))(hm:behindInMarks o z=false) :
 PE X (.Compare y [o] [z] pos) (tE X.K cx (.cmp op a b)):=by
 refine PE.imp (yw (opC hu ho) ha hb hm) λσ H Q h=>?_;obtain⟨G,F,δ,d,δ',ok,ev,post⟩:=h;obtain⟨x,δ1,y',k,ea,eb,hd,rfl⟩:=Lu ev;exact two ok ea eb pc λv u H2 F2 st sm ok2 r1 r2=>⟨F2,x,y',k,r1.b,r2.b,hd,post _ H2 F2 st sm ok2 (eN (iy k))⟩
def BG(hu:X.A.units+200<cLine)(ho:jf op o=true)(pc:(!bp a||np b)=true)(ha:PE X y (tE X.K cx a))(hb:PE X z (tE X.K cx b))(hm:behindInMarks o z=false) :
 PT X (.Compare y [o] [z] pos) (tT X.K cx (.cmp op a b)):=by
 refine PT.imp (yq (opC hu ho) ha hb hm) λσ H Q h=>?_;obtain⟨G,F,δ,k,δ',ok,ev,post⟩:=h;obtain⟨x,δ1,y',ea,eb,hd⟩:=Hs ev;exact two ok ea eb pc λv u H2 F2 st sm ok2 r1 r2=>⟨F2,x,y',k,r1.b,r2.b,hd,k,rfl,post H2 F2 st sm ok2⟩
def dh(n:(!bp e)=true)(h:RelM (bp e) K H F d v):Rel K H F d v:=by
 have e1:bp e=false:=by simpa using n
 rw[e1]at h;exact h
def snd_and(na:(!bp a)=true)(nb:(!bp b)=true)(ha:PE X y (tE X.K cx a))(hb:PE X (.BoolOp .And (z::r) pos) (tE X.K cx b)):PE X (.BoolOp .And (y::z::r) pos) (tE X.K cx (.and a b)):=by
 refine PE.imp (CK ha hb) λσ H Q h=>?_;obtain⟨G,F,δ,d,δ',ok,ev,post⟩:=h;simp only[evE,ae,af]at ev;obtain⟨⟨x,δ1⟩,ea,ev⟩:=ev;refine⟨G,F,δ,x,δ1,ok,ea,λv H1 F1 st1 sm1 ok1 r1=>?_⟩;replace r1:=dh na r1;have np1:np (.and a b)=(np a&&np b):=rfl
 cases x with
 |bl k =>
  unfold Rel at r1;refine⟨k,r1,?_⟩
  cases k with
  |true =>
   rw[if_pos rfl];refine⟨G,F1,δ1,d,δ',ok1,ev,λu H2 F2 st2 sm2 ok2 r2=>post u H2 F2 (st1.trans st2) (λn=>?_) ok2 (eN (dh nb r2))⟩;rw[np1,aa]at n
   exact(sm1 n.1).trans (sm2 n.2)
  |false =>
   rw[if_neg aq];cases ev
   exact post _ H1 F1 st1 (λn=>by rw[np1,aa]at n;exact sm1 n.1) ok1 (eN (iy false))
 |_=>cases ev
def Bz(na:(!bp a)=true)(nb:(!bp b)=true)(ha:PE X y (tE X.K cx a))(hb:PE X (.BoolOp .Or (z::r) pos) (tE X.K cx b)):PE X (.BoolOp .Or (y::z::r) pos) (tE X.K cx (.or a b)):=by
 refine PE.imp (MM ha hb) λσ H Q h=>?_;obtain⟨G,F,δ,d,δ',ok,ev,post⟩:=h;simp only[evE,ae,af]at ev;obtain⟨⟨x,δ1⟩,ea,ev⟩:=ev;refine⟨G,F,δ,x,δ1,ok,ea,λv H1 F1 st1 sm1 ok1 r1=>?_⟩;replace r1:=dh na r1;have np1:np (.or a b)=(np a&&np b):=rfl
 cases x with
 |bl k =>
  unfold Rel at r1;refine⟨k,r1,?_⟩
  cases k with
  |false =>
   rw[if_neg aq];refine⟨G,F1,δ1,d,δ',ok1,ev,λu H2 F2 st2 sm2 ok2 r2=>post u H2 F2 (st1.trans st2) (λn=>?_) ok2 (eN (dh nb r2))⟩;rw[np1,aa]at n
   exact(sm1 n.1).trans (sm2 n.2)
  |true =>
   rw[if_pos rfl];cases ev
   exact post _ H1 F1 st1 (λn=>by rw[np1,aa]at n;exact sm1 n.1) ok1 (eN (iy true))
 |_=>cases ev
def Fq(na:(!bp a)=true)(ha:PE X y (tE X.K cx a)):PE X (.UnaryOp .Not y pos) (tE X.K cx (.not a)):=by
 refine PE.imp (Kd ha) λσ H Q h=>?_;obtain⟨G,F,δ,d,δ',ok,ev,post⟩:=h;simp only[evE,ae,af]at ev;obtain⟨⟨x,δ1⟩,ea,ev⟩:=ev;refine⟨G,F,δ,x,δ1,ok,ea,λv H1 F1 st1 sm1 ok1 r1=>?_⟩;replace r1:=dh na r1
 cases x with
 |bl k =>
  unfold Rel at r1;cases ev
  exact⟨k,r1,post _ H1 F1 st1 sm1 ok1 (eN (iy _))⟩
 |_=>cases ev
def PT.pw(h:PT X (.BoolOp op vs pos) t):PW X (.BoolOp op vs pos) t:=λ_ pins s σ H Q I q=>h pins s σ H Q I q
def uQ(ha:PT X y (tT X.K cx a))(hb:PW X (.BoolOp .And (z::r) pos) (tT X.K cx b)):PT X (.BoolOp .And (y::z::r) pos) (tT X.K cx (.and a b)):=by
 refine PT.imp (wB ha hb).pt λσ H Q h=>?_;obtain⟨G,F,δ,d,δ',ok,ev,post⟩:=h;simp only[evT,ae,af]at ev;obtain⟨⟨k,δ1⟩,ea,ev⟩:=ev;have np1:np (.and a b)=(np a&&np b):=rfl;refine⟨G,F,δ,k,δ1,ok,ea,λH1 F1 st1 sm1 ok1=>?_⟩
 cases k with
 |true =>
  rw[if_pos rfl];refine⟨G,F1,δ1,d,δ',ok1,ev,λH2 F2 st2 sm2 ok2=>post H2 F2 (st1.trans st2) (λn=>?_) ok2⟩;rw[np1,aa]at n
  exact(sm1 n.1).trans (sm2 n.2)
 |false =>
  rw[if_neg aq];cases ev;exact post H1 F1 st1 (λn=>by rw[np1,aa]at n;exact sm1 n.1) ok1
def yc(ha:PT X y (tT X.K cx a))(hb:PW X (.BoolOp .Or (z::r) pos) (tT X.K cx b)):PT X (.BoolOp .Or (y::z::r) pos) (tT X.K cx (.or a b)):=by
 refine PT.imp (MK ha hb).pt λσ H Q h=>?_;obtain⟨G,F,δ,d,δ',ok,ev,post⟩:=h;simp only[evT,ae,af]at ev;obtain⟨⟨k,δ1⟩,ea,ev⟩:=ev;have np1:np (.or a b)=(np a&&np b):=rfl;refine⟨G,F,δ,k,δ1,ok,ea,λH1 F1 st1 sm1 ok1=>?_⟩
 cases k with
 |false =>
  rw[if_neg aq];refine⟨G,F1,δ1,d,δ',ok1,ev,λH2 F2 st2 sm2 ok2=>post H2 F2 (st1.trans st2) (λn=>?_) ok2⟩;rw[np1,aa]at n
  exact(sm1 n.1).trans (sm2 n.2)
 |true =>
  rw[if_pos rfl];cases ev;exact post H1 F1 st1 (λn=>by rw[np1,aa]at n;exact sm1 n.1) ok1
def BE(ha:PT X y (tT X.K cx a)):PT X (.UnaryOp .Not y pos) (tT X.K cx (.not a)):=by
 refine PT.imp (JR ha) λσ H Q h=>?_;obtain⟨G,F,δ,d,δ',ok,ev,post⟩:=h;simp only[evT,ae,af]at ev;obtain⟨⟨k,δ1⟩,ea,ev⟩:=ev;cases ev;exact⟨G,F,δ,k,δ1,ok,ea,λH1 F1 st1 sm1 ok1=>post H1 F1 st1 sm1 ok1⟩
def Fv(na:(!bp a)=true)(nb:(!bp b)=true)(hc:PT X t (tT X.K cx c))(ha:PE X y (tE X.K cx a))(hb:PE X z (tE X.K cx b)):PE X (.IfExp t y z pos) (tE X.K cx (.ite c a b)):=by
 refine PE.imp (CG hc ha hb) λσ H Q h=>?_;obtain⟨G,F,δ,d,δ',ok,ev,post⟩:=h;simp only[evE,ae,af]at ev;obtain⟨⟨k,δ1⟩,ea,ev⟩:=ev;have np1:np (.ite c a b)=(np c&&np a&&np b):=rfl;refine⟨G,F,δ,k,δ1,ok,ea,λH1 F1 st1 sm1 ok1=>?_⟩
 cases k with
 |true =>
  rw[if_pos rfl];refine⟨G,F1,δ1,d,δ',ok1,ev,λu H2 F2 st2 sm2 ok2 r2=>post u H2 F2 (st1.trans st2) (λn=>?_) ok2 (eN (dh na r2))⟩;rw[np1,aa,aa]at n
  exact(sm1 n.1.1).trans (sm2 n.1.2)
 |false =>
  rw[if_neg aq];refine⟨G,F1,δ1,d,δ',ok1,ev,λu H2 F2 st2 sm2 ok2 r2=>post u H2 F2 (st1.trans st2) (λn=>?_) ok2 (eN (dh nb r2))⟩;rw[np1,aa,aa]at n;exact(sm1 n.1.1).trans (sm2 n.2)
def Ok.look(ok:Ok K G F σ H δ)(e:get δ i=some d):∃v,σ[i]?=some (some v)/\dc K H F d v/\∃F',Step G F H F' H/\Ok K G F' σ H (PP.demote δ i)/\Rel K H F' d v:=by
 unfold get at e
 cases q:δ[i]? with
 |none=>rw[q]at e;cases e
 |some s =>
  rw[q]at e
  cases s with
  |no=>cases e
  |fnc _ _=>cases e
  |odc _ _=>cases e
  |val d' =>
   cases e;obtain⟨v,e1,r⟩:=ok.sl i _ q;refine⟨v,e1,.inl r,F,Step.refl,?_,r⟩
   unfold PP.demote;rw[q];exact ok
  |own ds =>
   cases e;obtain⟨a,xs,e1,h1,h2,h3,h4⟩:=ok.sl i _ q;obtain⟨o1,o2⟩:=ok.demote (d:=.lst ds) q rfl e1;refine⟨.ref a,e1,.inr ⟨a,xs,ds,rfl,rfl,h3,h4⟩,λb=>F b/\b≠a,⟨λ_ _ _ z _=>z,λb z=>.inl z.1,λb o r z e=>⟨⟨z,λw=>h2.2 (by rw[<- w];exact r)⟩,e⟩,λ_ ps e=>⟨ps,e⟩⟩,?_,o2⟩;unfold PP.demote;rw[q];exact o1
def Ok.lookV(ok:Ok K G F σ H δ)(e:zX δ i=some d):∃v,σ[i]?=some (some v)/\∃F',Step G F H F' H/\Ok K G F' σ H (PP.demote δ i)/\Rel K H F' d v:=by
 unfold zX at e;split at e
 .rename_i ks ds q;cases e;obtain⟨a,xs,e1,h1,h2,_⟩:=ok.sl i _ q;obtain⟨o1,o2⟩:=ok.demote (d:=.dct ks ds) q rfl e1;refine⟨.ref a,e1,λb=>F b/\b≠a,⟨λ_ _ _ z _=>z,λb z=>.inl z.1,λb o r z e=>⟨⟨z,λw=>h2.2 (by rw[<- w];exact r)⟩,e⟩,λ_ ps e=>⟨ps,e⟩⟩,?_,o2⟩;unfold PP.demote;rw[q];exact o1
 .obtain⟨v,e1,_,h⟩:=ok.look e;exact⟨v,e1,h⟩
def Fi(hN:X.N[i]?=some x)(hv:Vis X.env.scope x)(hd:(x==("__debug__":Str))=false)(hcd:(x==("__classdict__":Str))=false):PE X (.Name x pos) (tE X.K cx (.var i)):=by
 refine PE.imp (fJ hN hv hd hcd) λσ H Q h=>?_;obtain⟨G,F,δ,d,δ',ok,ev,post⟩:=h;simp only[evE,ae,af]at ev;obtain⟨d',e1,e⟩:=ev;cases e;obtain⟨v,ev,F',st,ok',r⟩:=ok.lookV e1;exact⟨v,ev,post v H F' st (λ_=>Sim.refl H) ok' (eN r)⟩
def JC(hN:X.N[i]?=some x)(hv:Vis X.env.scope x)(hd:(x==("__debug__":Str))=false)(hcd:(x==("__classdict__":Str))=false):PE X (.Name x pos) (tE X.K cx (.pk i)):=by
 refine PE.imp (fJ hN hv hd hcd) λσ H Q h=>?_;obtain⟨G,F,δ,d,δ',ok,ev,post⟩:=h;simp only[evE,ae,af]at ev;obtain⟨d',e1,e⟩:=ev;cases e;obtain⟨v,ev,rb,_⟩:=ok.look e1;exact⟨v,ev,post v H F Step.refl (λ_=>Sim.refl H) ok rb⟩
def wg(r:dc K H F d v)(e:tv d=some k):LP K v H k:=by
 cases d with
 |non=>cases e;rcases r with r|⟨_,_,_,z,_⟩;(unfold Rel at r;subst r;rfl);cases z
 |bl b=>cases e;have:=r.bl;subst this;rfl
 |int i=>cases e;have:=r.int;subst this;rfl
 |str x =>
  change (if x.length<=sizeLine then some ((x.length:Int) != 0)else none)=some k at e;split at e
  .cases e;have:=r.str;subst this;exact⟨‹_›,rfl⟩
  .cases e
 |lst ds =>
  cases e;obtain⟨a,xs,rfl,h1,h2⟩:=r.lst;refine .inl ⟨xs,h1.sq,?_⟩;have:=h2.length
  cases ds<;>cases xs<;>first|rfl|(simp at this)
 |tup ds =>
  cases e;obtain⟨a,xs,rfl,h1,h2⟩:=r.tup;refine .inr (.inl ⟨xs,h1,?_⟩);have:=h2.length
  cases ds<;>cases xs<;>first|rfl|(simp at this)
 |fn _ _=>cases e
 |dct _ _=>cases e
def uO(he:e=.var i\/e=.pk i)(hN:X.N[i]?=some x)(hv:Vis X.env.scope x)(hd:(x==("__debug__":Str))=false)(hcd:(x==("__classdict__":Str))=false):PT X (.Name x pos) (tT X.K cx e):=by
 refine PT.imp (pD (fJ hN hv hd hcd) λ_=>rfl) λσ H Q h=>?_;obtain⟨G,F,δ,k,δ',ok,ev,post⟩:=h
 have ev':∃d,get δ i=some d/\tv d=some k/\δ=δ':=by
  rcases he with rfl|rfl
  .simp only[evT,ae,af]at ev;obtain⟨d,e1,k',e2,e⟩:=ev;cases e;exact⟨d,e1,e2,rfl⟩
  .simp only[evT,ae,af]at ev;obtain⟨d,e1,k',e2,e⟩:=ev;cases e;exact⟨d,e1,e2,rfl⟩
 obtain⟨d,e1,e2,rfl⟩:=ev';obtain⟨v,ev,rb,_⟩:=ok.look e1;exact⟨v,ev,k,wg rb e2,post H F Step.refl (λ_=>Sim.refl H) ok⟩
def Fw:PE X (.Constant (.int i) j pos) (tE X.K cx (.int i)) :=
 PE.imp CF λσ H Q⟨G,F,δ,d,δ',ok,ev,post⟩=>by cases ev;exact post _ H F Step.refl (λ_=>Sim.refl H) ok (eN (cC i))
def JG:PE X (.Constant (.bool i) j pos) (tE X.K cx (.bl i)) :=
 PE.imp MO λσ H Q⟨G,F,δ,d,δ',ok,ev,post⟩=>by cases ev;exact post _ H F Step.refl (λ_=>Sim.refl H) ok (eN (iy i))
def Fl:PE X (.Constant (.str i) j pos) (tE X.K cx (.str i)) :=
 PE.imp wK λσ H Q⟨G,F,δ,d,δ',ok,ev,post⟩=>by cases ev;exact post _ H F Step.refl (λ_=>Sim.refl H) ok (eN (eJ i))
def Fs:PE X (.Constant .none j pos) (tE X.K cx .non) :=
 PE.imp Ke λσ H Q⟨G,F,δ,d,δ',ok,ev,post⟩=>by cases ev;exact post _ H F Step.refl (λ_=>Sim.refl H) ok (eN yh)
def BA(hg:Gl X x)(hm:X.mg x=some u)(r:RelV v u)(hr:∀d,cx.gl[g]?=some d->∀H F,Rel X.K H F d v)(hd:(x==("__debug__":Str))=false):PE X (.Name x pos) (tE X.K cx (.glob g)):=by
 refine PE.imp (oG hg hm r hd) λσ H Q h=>?_;obtain⟨G,F,δ,d,δ',ok,ev,post⟩:=h;simp only[evE,ae,af]at ev;obtain⟨d',e1,e⟩:=ev;cases e;exact post v H F Step.refl (λ_=>Sim.refl H) ok (eN (hr d e1 H F))
def Ft(n:(!bp a)=true)(ha:PE X y (tE X.K cx a)):PE X (.UnaryOp .USub y pos) (tE X.K cx (.neg a)):=by
 refine PE.imp (ML Jo ha) λσ H Q h=>?_;obtain⟨G,F,δ,d,δ',ok,ev,post⟩:=h;simp only[evE,ae,af]at ev;obtain⟨⟨x,δ1⟩,ea,ev⟩:=ev
 cases x with
 |int i =>
  cases ev;refine⟨G,F,δ,_,_,ok,ea,λv H1 F1 st sm ok1 r=>?_⟩;have:=r.b.int;subst this
  exact⟨i,rfl,post _ H1 F1 st sm ok1 (eN (cC _))⟩
 |_=>cases ev
end
section
variable{K:PySem.W.Frag}{cx:Cl}{X:Cx}
def ma:PA X [] (tEs X.K cx .nil):=by
 refine λpos pins s σ H Q I h=>iQ pos pins s σ H Q I ?_;obtain⟨G,F,δ,ds,δ',ok,ev,post⟩:=h;simp only[cT]at ev;cases ev;exact post [] H F Step.refl (λ_=>Sim.refl H) ok ⟨rfl,rfl⟩
def jX(pc:(!bp a||npS es)=true)(ha:PE X y (tE X.K cx a))(hr:PA X ys (tEs X.K cx es))(hs:starEach (y::ys) X.env=(false,eval y X.env)::starEach ys X.env):PA X (y::ys) (tEs X.K cx (.cons a es)):=by
 refine λpos pins s σ H Q I h=>dS ha hr hs pos pins s σ H Q I ?_;obtain⟨G,F,δ,ds,δ',ok,ev,post⟩:=h;simp only[cT,ae,af]at ev;obtain⟨⟨x,δ1⟩,ea,⟨ds',δ2⟩,eb,e⟩:=ev;cases e;refine⟨G,F,δ,x,δ1,ok,ea,λv H1 F1 st1 sm1 ok1 r1=>⟨G,F1,δ1,ds',δ2,ok1,eb,λvs H2 F2 st2 sm2 ok2 r2=>?_⟩⟩;refine post (v::vs) H2 F2 (st1.trans st2) (λz=>?_) ok2 ⟨x,ds',v,vs,rfl,rfl,RelM.step ok1.fd st2 (λz=>sm2 (by rw[z]at pc;simpa using pc)) r1,r2⟩;have z':(np a&&npS es)=true:=z;rw[aa]at z';exact(sm1 z'.1).trans (sm2 z'.2)
def nS.rl:∀{es:Es}{ds:List D}{vs:List V},iY es=true->nS K H F es ds vs->aH K H F ds vs
 |.nil,ds,vs,_,h=>by obtain⟨rfl,rfl⟩:=h;exact aH.nil
 |.cons e es,ds,vs,n,h=>by
  obtain⟨d,ds',v,vs',rfl,rfl,h1,h2⟩:=h;have n':(!bp e&&iY es)=true:=n;rw[aa]at n';exact aH.cons (dh n'.1 h1) (nS.rl n'.2 h2)
def vL(K:PySem.W.Frag)(H:Hp)(F:av->Prop):List D->List V->Prop
 |[],vs=>vs=[]
 |d::ds,vs=>∃v vs',vs=v::vs'/\dc K H F d v/\vL K H F ds vs'
def nS.bl:∀{es:Es}{ds:List D}{vs:List V},nS K H F es ds vs->vL K H F ds vs
 |.nil,ds,vs,h=>by obtain⟨rfl,rfl⟩:=h;rfl
 |.cons e es,ds,vs,h=>by
  obtain⟨d,ds',v,vs',rfl,rfl,h1,h2⟩:=h;exact⟨v,vs',rfl,h1.b,nS.bl h2⟩
def yS{f:List D->Option D}{es:Es}{δ δ':Loc}{d:D}(ev:(do let(ds,δ1) <- cT cx es δ;return (<- f ds,δ1))=some (d,δ')):∃ds,cT cx es δ=some (ds,δ')/\f ds=some d:=by
 simp only[ae,af]at ev;obtain⟨⟨ds,δ1⟩,ea,d',hd,e⟩:=ev;cases e;exact⟨ds,ea,hd⟩
def Fj(n:iY es=true)(h:PA X xs (tEs X.K cx es)):PE X (.Tuple xs k pos) (tE X.K cx (.tup es)):=by
 refine PE.imp (wJ h) λσ H Q h=>?_;obtain⟨G,F,δ,d,δ',ok,ev,post⟩:=h;simp only[evE,ae,af]at ev;obtain⟨⟨ds,δ1⟩,ea,ev⟩:=ev;split at ev
 .rename_i hz;cases ev;refine⟨G,F,δ,ds,δ1,ok,ea,λvs H1 F1 st1 sm1 ok1 r1=>?_⟩;have r:=r1.rl n;refine⟨by rw[r.length];exact hz,λp hp=>?_⟩;obtain⟨o1,o2,o3,o4⟩:=ok1.laid hp (.tup vs);exact post _ _ _ (st1.trans o2) (λz=>(sm1 z).trans o3) o1 (eN (jt ok1 hp r))
 .cases ev
def Fu(n:iY es=true)(h:PA X xs (tEs X.K cx es)):PE X (.List xs pos) (tE X.K cx (.lst es)):=by
 refine PE.imp (CC h) λσ H Q h=>?_;obtain⟨G,F,δ,d,δ',ok,ev,post⟩:=h;simp only[evE,ae,af]at ev;obtain⟨⟨ds,δ1⟩,ea,ev⟩:=ev;split at ev
 .rename_i hz;cases ev;refine⟨G,F,δ,ds,δ1,ok,ea,λvs H1 F1 st1 sm1 ok1 r1=>?_⟩;have r:=r1.rl n;refine⟨by rw[r.length];exact hz,λp hp=>?_⟩;obtain⟨o1,o2,o3,o4⟩:=ok1.laid hp (.lst vs);exact post _ _ _ (st1.trans o2) (λz=>(sm1 z).trans o3) o1 (eN (ju ok1 hp r))
 .cases ev
def aH.at{H:Hp}{F:av->Prop}{ds:List D}{xs:List V}{i:Int}{d:D}(h:aH K H F ds xs)(e:atI ds i=some d):∃v,atI xs i=some v/\Rel K H F d v:=by
 unfold atI at e |-;rw[h.length]
 cases q:ixN ds.length i with
 |none=>rw[q]at e;cases e
 |some j =>
  rw[q]at e;exact h.get e
def JE(pc:(!bp a||np b)=true)(ha:PE X y (tE X.K cx a))(hb:PE X z (tE X.K cx b))(hp:PlainIx z):PE X (.Subscript y z pos) (tE X.K cx (.ix a b)):=by
 refine PE.imp (MN KW ha hb hp) λσ H Q h=>?_;obtain⟨G,F,δ,d,δ',ok,ev,post⟩:=h;simp only[evE,ae,af]at ev;obtain⟨⟨x,δ1⟩,ea,⟨y',δ2⟩,eb,d',hd,e⟩:=ev;cases e;dsimp only at eb hd post;refine two ok ea eb pc λv u H2 F2 st sm ok2 r1 r2=>?_;unfold ixD at hd;split at hd
 .have e2:=r2.b.int;obtain⟨p,xs,e1,h1,h2⟩:=r1.b.lst;obtain⟨w,hw,rw'⟩:=h2.at hd;exact .inl ⟨p,xs,_,w,e1,e2,h1.sq,hw,post _ _ _ st sm ok2 (eN rw')⟩
 .have e2:=r2.b.int;obtain⟨p,xs,e1,h1,h2⟩:=r1.b.tup;obtain⟨w,hw,rw'⟩:=h2.at hd;exact .inr (.inl ⟨p,xs,_,w,e1,e2,h1,hw,post _ _ _ st sm ok2 (eN rw')⟩)
 .have e2:=r2.b.int;have e1:=r1.b.str;split at hd
  .rename_i hz;rw[aj]at hd;obtain⟨c,hc,rfl⟩:=hd;exact .inr (.inr ⟨_,_,c,e1,e2,hz,hc,post _ _ _ st sm ok2 (eN (eJ _))⟩)
  .cases hd
 .cases hd
def Ib(h:∀e,o=.yes e->∃y,l=some y/\(!bp e)=true/\PE X y (tE X.K cx e))(hn:o=.no->l=none):PO X l (tO X.K cx o):=by
 cases o with
 |no =>
  rw[hn rfl];intro pins s σ H Q I q;refine Gg pins s σ H Q I ?_;obtain⟨G,F,δ,d,δ',ok,ev,post⟩:=q;simp only[evO]at ev;cases ev
  exact post H F Step.refl (λ_=>Sim.refl H) ok
 |yes e =>
  obtain⟨y,rfl,n,hy⟩:=h e rfl;intro pins s σ H Q I q;refine Gf hy pins s σ H Q I ?_;obtain⟨G,F,δ,d,δ',ok,ev,post⟩:=q;simp only[evO,ae,af]at ev;obtain⟨⟨x,δ1⟩,ea,ev⟩:=ev
  cases x with
  |int i =>
   cases ev
   exact⟨G,F,δ,.int i,δ',ok,ea,λv H1 F1 st1 sm1 ok1 r1=>⟨i,by have:=dh n r1;unfold Rel at this;exact this,post H1 F1 st1 sm1 ok1⟩⟩
  |_=>cases ev
def JA{a:E}{lo hi:Eo}{y:aE}{l h:Option aE}{pos p2:Pos}(pc:(!bp a||(npO lo&&npO hi))=true)(ha:PE X y (tE X.K cx a))(hl:PO X l (tO X.K cx lo))(hh:PO X h (tO X.K cx hi)):PE X (.Subscript y (.Slice l h none p2) pos) (tE X.K cx (.sl a lo hi)):=by
 refine PE.imp (uW (ye.or (JK.or JL)) ha hl hh) λσ H Q h=>?_;obtain⟨G,F,δ,d,δ',ok,ev,post⟩:=h;simp only[evE,ae,af]at ev;obtain⟨⟨x,δ1⟩,ea,⟨l',δ2⟩,eb,⟨h',δ3⟩,ec,d',hd,e⟩:=ev;cases e;dsimp only at eb ec hd post;refine⟨G,F,δ,x,δ1,ok,ea,λv H1 F1 st1 sm1 ok1 r1=>⟨G,F1,δ1,l',δ2,ok1,eb,λH2 F2 st2 sm2 ok2=>⟨G,F2,δ2,h',δ3,ok2,ec,λH3 F3 st3 sm3 ok3=>?_⟩⟩⟩;have st:=st2.trans st3
 have rb:dc X.K H3 F3 x v:=by
  refine(RelM.step ok1.fd st (λz=>?_) r1).b;rw[z]at pc;have pc':(npO lo&&npO hi)=true:=by simpa using pc
  rw[aa]at pc';exact(sm2 pc'.1).trans (sm3 pc'.2)
 have fin:∀w H4,fD H3 H4->Ok X.K G F3 σ H4 δ3->Rel X.K H4 F3 d w->Q w H4:=λw H4 s4 o4 r4=>post w H4 F3 ((st1.trans st).trans (Step.of_same s4)) (λz=>by
  have z':(np a&&npO lo&&npO hi)=true:=z;rw[aa,aa]at z';exact(((sm1 z'.1.1).trans (sm2 z'.1.2)).trans (sm3 z'.2)).trans (.of s4)) o4 (eN r4)
 unfold slD at hd;split at hd
 .cases hd;obtain⟨p,xs,e1,h1,h2⟩:=rb.lst;refine .inl ⟨p,xs,e1,h1.sq,λq hq=>?_⟩;obtain⟨o1,o2,o3,o4⟩:=ok3.laid hq (.lst (qp xs l' h'));exact fin _ _ (cH hq _) o1 (ju ok3 hq (h2.cut l' h'))
 .split at hd
  .cases hd
  .rename_i hw;cases hd;obtain⟨p,xs,e1,h1,h2⟩:=rb.tup;refine .inr (.inl ⟨p,xs,e1,h1,by rw[h2.length];exact hw,λq hq=>?_⟩);obtain⟨o1,o2,o3,o4⟩:=ok3.laid hq (.tup (qp xs l' h'));exact fin _ _ (cH hq _) o1 (jt ok3 hq (h2.cut l' h'))
 .split at hd
  .cases hd;have e1:=rb.str;subst e1;exact .inr (.inr ⟨_,rfl,‹_›,fin _ _ (λb o e=>e) ok3 (eJ _)⟩)
  .cases hd
 .cases hd
def spF(K:PySem.W.Frag)(f:List D->Option D):Sp:=λvs H Q _=>∃F ds d,FD F H/\TF F/\lG H/\aH K H F ds vs/\f ds=some d/\∀v H',Sim H H'->lG H'->Rel K H' F d v->Q v H'
def BC{f:Nat}{es:Es}{x:Str}{y:aE}{ys:List aE}{k:Nat}{a:av}{fd:eH}{ps:List Str}{p pos:Pos}(n:iY es=true)(fn:gD X.prog X.w X.K X.mg X.base CX0 k a fd ps (spF X.K (cx.call f)))(hr:jO k X.A)(hg:Gl X x)
 (hm:X.mg x=some (.ref a))(hk:PySem.W.keepIn X.K (.ref a)=true)(hb:Binds X.K fd ps [])(hA:PA X (y::ys) (tEs X.K cx es))(hd:(x==("__debug__":Str))=false)(he:starEach (y::ys) X.env=(false,eval y X.env)::starEach ys X.env)(hpl:(backTo pos (starEach ys X.env)).any (·.1)=false) :
 PE X (.Call (.Name x p) (y::ys) [] pos) (tE X.K cx (.call f es)):=by
 refine PE.imp (Gk fn hr hg hm hk hb .nil (MQ) hA hd he hpl) λσ H Q h=>?_;obtain⟨G,F,δ,d,δ',ok,ev,post⟩:=h;simp only[evE]at ev;obtain⟨ds,ea,hd⟩:=yS ev;refine⟨G,F,δ,ds,δ',ok,ea,λvs H1 F1 st1 sm1 ok1 r1=>?_⟩;show spF X.K (cx.call f) (vs++[]) H1 Q E0;rw[bt];exact⟨F1,ds,d,ok1.fd,ok1.tf,ok1.tabs,r1.rl n,hd,λv H2 s2 t2 r2=>post v H2 F1 (st1.trans (ok1.call s2 t2).2) (λz=>(sm1 z).trans s2) (ok1.call s2 t2).1 (eN r2)⟩
def oB{e:E}{x:aE}{es:Es}{f:List D->Option D}(hE:PE X x (tE X.K cx e))(he:∀whole,isTrue x X.env whole=(do let v <- whole;standAt x.pos;holding [v] (truthy v)))(n:bp e=false)
 (e1:∀δ,evE cx e δ=(do let(ds,δ1) <- cT cx es δ;return (<- f ds,δ1)))(e2:∀δ,evT cx e δ=(do let(ds,δ1) <- cT cx es δ;let d <- f ds;return (<- tv d,δ1))):PT X x (tT X.K cx e):=by
 refine PT.imp (pD hE he) λσ H Q h=>?_;obtain⟨G,F,δ,k,δ',ok,ev,post⟩:=h;rw[e2]at ev;simp only[ae,af]at ev;obtain⟨⟨ds,δ1⟩,ea,d,hd,k',hk,e⟩:=ev;cases e;refine⟨G,F,δ,d,δ1,ok,?_,λv H1 F1 st1 sm1 ok1 r1=>⟨k,wg r1.b hk,post H1 F1 st1 sm1 ok1⟩⟩;rw[e1];simp only[ae,af];exact⟨(ds,δ1),ea,d,hd,rfl⟩
def uP(hE:PE X x (tE X.K cx e))(he:∀whole,isTrue x X.env whole=(do let v <- whole;standAt x.pos;holding [v] (truthy v)))(e2:∀δ k δ',evT cx e δ=some (k,δ')->∃d,evE cx e δ=some (d,δ')/\tv d=some k):PT X x (tT X.K cx e) :=
 PT.imp (pD hE he) λσ H Q⟨G,F,δ,k,δ',ok,ev,post⟩=>let⟨d,e1,e3⟩:=e2 _ _ _ ev;⟨G,F,δ,d,δ',ok,e1,λv H1 F1 st1 sm1 ok1 r1=>⟨k,wg r1.b e3,post H1 F1 st1 sm1 ok1⟩⟩
def rB(K:PySem.W.Frag)(f:List D->Option D):List V->Hp->VK->Prop:=λxs H Q=>∃F ds d,FD F H/\vL K H F ds xs/\f ds=some d/\∀v H',fD H H'->Rel K H' F d v->Q v H'
def cE.imp{f:ai}{r r':List V->Hp->VK->Prop}(h:cE X f r)(w:∀xs H Q,r' xs H Q->r xs H Q):cE X f r':=λpins s σ H xs us Q I rv q=>h pins s σ H xs us Q I rv (w _ _ _ q)
def b1(h:vL K H F [d] xs):∃v,xs=[v]/\dc K H F d v:=by
 obtain⟨v,vs,rfl,h1,h2⟩:=h;cases h2;exact⟨v,rfl,h1⟩
def b2(h:vL K H F [d,e] xs):∃v u,xs=[v,u]/\dc K H F d v/\dc K H F e u:=by
 obtain⟨v,vs,rfl,h1,u,us,rfl,h2,h3⟩:=h;cases h3;exact⟨v,u,rfl,h1,h2⟩
def vj(fd:FD F H)(hp:H p=none):¬F p:=fd.none hp
def LC:cE X (.builtin "len") (rB X.K GS):=by
 refine cE.imp (tQ.or tP) λxs H Q zz=>?_;obtain⟨F,ds,d,fd,r,e,q⟩:=zz;unfold GS at e;split at e
 .split at e
  .cases e;obtain⟨v,rfl,rv⟩:=b1 r;exact .inr ⟨_,by rw[rv.str],‹_›,q _ _ (fD.refl H) (cC _)⟩
  .cases e
 .cases e;obtain⟨v,rfl,rv⟩:=b1 r;obtain⟨a,ys,rfl,h1,h2⟩:=rv.lst;exact .inl ⟨a,ys,rfl,.inl h1.sq,by rw[h2.length];exact q _ _ (fD.refl H) (cC _)⟩
 .cases e;obtain⟨v,rfl,rv⟩:=b1 r;obtain⟨a,ys,rfl,h1,h2⟩:=rv.tup;exact .inl ⟨a,ys,rfl,.inr h1,by rw[h2.length];exact q _ _ (fD.refl H) (cC _)⟩
 .cases e
def Aj:cE X (.type "int") (λxs H Q=>∃x n,xs=[.str x]/\PySem.intText? x=some n/\x.length<=640/\Q (.int n) H):=by
 intro pins s σ H xs us Q I rv h;obtain⟨x,n,rfl,h1,h2,q⟩:=h;obtain⟨u,rfl,ru⟩:=rv.one;obtain⟨t,rfl⟩:=ru;exact PySem.W.KIN.call_text h1 h2 ⟨.int n,H,I.tok _,⟨_,rfl⟩,q⟩
def LD:cE X (.type "int") (rB X.K sg):=by
 refine cE.imp (Ak.or Aj) λxs H Q zz=>?_;obtain⟨F,ds,d,fd,r,e,q⟩:=zz;unfold sg at e;split at e
 .cases e;obtain⟨v,rfl,r1⟩:=b1 r;exact .inl (.inl ⟨_,by rw[r1.int],q _ _ (fD.refl H) (cC _)⟩)
 .cases e;obtain⟨v,rfl,r1⟩:=b1 r;exact .inl (.inr ⟨_,by rw[r1.bl],q _ _ (fD.refl H) (cC _)⟩)
 .split at e
  .rw[aj]at e;obtain⟨n,e1,rfl⟩:=e;obtain⟨v,rfl,r1⟩:=b1 r;exact .inr ⟨_,n,by rw[r1.str],e1,‹_›,q _ _ (fD.refl H) (cC _)⟩
  .cases e
 .cases e
def Lz:cE X (.type "str") (rB X.K sf):=by
 refine cE.imp tM λxs H Q zz=>?_;obtain⟨F,ds,d,fd,r,e,q⟩:=zz;unfold sf at e;split at e
 .split at e
  .cases e;obtain⟨v,rfl,r1⟩:=b1 r;exact⟨_,by rw[r1.int],‹_›,q _ _ (fD.refl H) (eJ _)⟩
  .cases e
 .cases e
def Bx(h:fD H H'):Step g0 F H F H':=Step.of_same h
def Lx:cE X (.type "tuple") (rB X.K se):=by
 refine cE.imp qu λxs H Q zz=>?_;obtain⟨F,ds,d,fd,r,e,q⟩:=zz;unfold se at e;split at e
 .cases e;obtain⟨v,rfl,r1⟩:=b1 r;obtain⟨a,ys,rfl,h1,h2⟩:=r1.lst;refine⟨a,ys,rfl,.inl ⟨h1.sq,λl hl=>q _ _ (cH hl _) ?_⟩⟩;unfold Rel;exact⟨l,ys,rfl,SqT.of bK,aH.step fd (Bx (cH hl _)) _ _ h2⟩
 .cases e;obtain⟨v,rfl,r1⟩:=b1 r;obtain⟨a,ys,rfl,h1,h2⟩:=r1.tup;refine⟨a,ys,rfl,.inr ⟨h1,q _ _ (fD.refl H) ?_⟩⟩;unfold Rel;exact⟨a,ys,rfl,h1,h2⟩
 .cases e
def LB:cE X (.type "list") (rB X.K mT):=by
 refine cE.imp mH λxs H Q zz=>?_;obtain⟨F,ds,d,fd,r,e,q⟩:=zz;unfold mT at e;split at e
 .cases e;obtain⟨v,rfl,r1⟩:=b1 r;obtain⟨a,ys,rfl,h1,h2⟩:=r1.lst;refine⟨a,ys,rfl,.inl h1.sq,λl hl=>q _ _ (cH hl _) ?_⟩;unfold Rel;exact⟨l,ys,rfl,.inl ⟨.inl bK,vj fd hl⟩,aH.step fd (Bx (cH hl _)) _ _ h2⟩
 .cases e;obtain⟨v,rfl,r1⟩:=b1 r;obtain⟨a,ys,rfl,h1,h2⟩:=r1.tup;refine⟨a,ys,rfl,.inr h1,λl hl=>q _ _ (cH hl _) ?_⟩;unfold Rel;exact⟨l,ys,rfl,.inl ⟨.inl bK,vj fd hl⟩,aH.step fd (Bx (cH hl _)) _ _ h2⟩
 .cases e
def nh:∀{ds:List D}{ns:List Int}{xs:List V},mq ds=some ns->aH K H F ds xs->xs=ns.map V.int
 |[],ns,xs,e,r=>by cases e;unfold aH at r;exact r
 |d::ds,ns,xs,e,r=>by
  unfold aH at r;obtain⟨y,ys,rfl,h1,h2⟩:=r
  cases d with
  |int i =>
   unfold mq at e;rw[aj]at e;obtain⟨ms,e,rfl⟩:=e;unfold Rel at h1
   rw[h1,nh e h2,aw]
  |_=>cases e
def LA(hc:X.calm=true):cE X (.builtin "max") (rB X.K maxD):=by
 intro pins s σ H xs us Q I rv ⟨F,ds,d,fd,r,e,q⟩;unfold maxD at e;split at e
 .cases e;obtain⟨v,u,rfl,r1,r2⟩:=b2 r;exact Ai hc pins s σ H _ us Q I rv ⟨_,_,by rw[r1.int,r2.int],q _ _ (fD.refl H) (cC _)⟩
 .rw[af]at e;obtain⟨ns,e,e'⟩:=e;split at e'
  .cases e'
  .rename_i hne;cases e';obtain⟨v,rfl,r1⟩:=b1 r;obtain⟨a,ys,rfl,h1,h2⟩:=r1.lst;rw[nh e h2]at h1;exact Ah hc pins s σ H _ us Q I rv ⟨a,ns,rfl,hne,h1.sq,q _ _ (fD.refl H) (cC _)⟩
 .cases e
def pW:∀{ds:List D}{ns:List Bool}{xs:List V},lF ds=some ns->aH K H F ds xs->xs=ns.map V.bl
 |[],ns,xs,e,r=>by cases e;unfold aH at r;exact r
 |d::ds,ns,xs,e,r=>by
  unfold aH at r;obtain⟨y,ys,rfl,h1,h2⟩:=r
  cases d with
  |bl i =>
   unfold lF at e;rw[aj]at e;obtain⟨ms,e,rfl⟩:=e;unfold Rel at h1
   rw[h1,pW e h2,aw]
  |_=>cases e
def LF(hc:X.calm=true):cE X (.builtin "all") (rB X.K HA):=by
 refine cE.imp (Al hc) λxs H Q zz=>?_;obtain⟨F,ds,d,fd,r,e,q⟩:=zz;unfold HA at e;split at e
 .rw[aj]at e;obtain⟨ns,e,rfl⟩:=e;obtain⟨v,rfl,r1⟩:=b1 r;obtain⟨a,ys,rfl,h1,h2⟩:=r1.lst;rw[pW e h2]at h1;exact⟨a,ns,rfl,h1.sq,q _ _ (fD.refl H) (iy _)⟩
 .cases e
def Ly(hc:X.calm=true):cE X (.builtin "sum") (rB X.K Ff):=by
 refine cE.imp (Ag hc) λxs H Q zz=>?_;obtain⟨F,ds,d,fd,r,e,q⟩:=zz;unfold Ff at e;split at e
 .rw[aj]at e;obtain⟨ns,e,rfl⟩:=e;obtain⟨v,rfl,r1⟩:=b1 r;obtain⟨a,ys,rfl,h1,h2⟩:=r1.lst;rw[nh e h2]at h1;exact⟨a,ns,rfl,h1.sq,q _ _ (fD.refl H) (cC _)⟩
 .cases e
def iC{f:Blt}{es:Es}{x:Str}{p pos:Pos}{xs:List aE}(g:List D->Option D)(hg:hZ f=g)(h:PE X (.Call (.Name x p) xs [] pos) (tCB (rB X.K g) (tEs X.K cx es))):PE X (.Call (.Name x p) xs [] pos) (tE X.K cx (.blt f es)):=by
 subst hg;refine PE.imp h λσ H Q h=>?_;obtain⟨G,F,δ,d,δ',ok,ev,post⟩:=h;simp only[evE]at ev;obtain⟨ds,ea,hd⟩:=yS ev;refine⟨G,F,δ,ds,δ',ok,ea,λvs H1 F1 st1 sm1 ok1 r1=>?_⟩;exact⟨F1,ds,d,ok1.fd,r1.bl,hd,λv H2 s2 r2=>post v H2 F1 (st1.trans (Step.of_same s2)) (λz=>(sm1 z).trans (.of s2)) (ok1.same' s2) (eN r2)⟩
end
end PP
end
section
namespace HT
open PySem PySem.Spec PyProof.Rows
section
variable{prog:aQ}{w:bD}{A:bE}{E:ai->au->Prop}{s:au}
end
end HT
namespace L2
open PySem PySem.Spec PyProof.Rows
section
variable{X:Cx}{e:aE}{st:Option aE}{te:TE}{ts:TO}{pos p2:Pos}
end
end L2
namespace PP
open PySem L2 PyProof.Rows
variable[Tbs]
section
variable{K:PySem.W.Frag}{cx:Cl}{X:Cx}
end
end PP
end
section
namespace PP
open PySem L2 PyProof.Rows
variable[Tbs]
section
variable{K:PySem.W.Frag}{cx:Cl}{X:Cx}
def JF(hT:tyName f=some T)(ht:t=(T:Str))(hg:Gl X "isinstance")(hm:X.mg "isinstance"=none)(hgt:Gl X t)(hmt:X.mg t=none)(hy:PE X y (tE X.K cx e))(hs:starEach [y,.Name t tp] X.env=[(false,eval y X.env),(false,eval (.Name t tp) X.env)]) :
 PE X (.Call (.Name "isinstance" p) [y,.Name t tp] [] pos) (tE X.K cx (.blt f (.cons e .nil))):=by
 have hb:bootBuiltins t=some (.type T):=by
  subst ht;cases f<;>simp[tyName]at hT<;>subst hT<;>rfl
 have hn:t≠"__name__":=by
  subst ht;cases f<;>simp[tyName]at hT<;>subst hT<;>decide
 have hdb:(t==("__debug__":Str))=false:=by
  subst ht;cases f<;>simp[tyName]at hT<;>subst hT<;>decide
 have hA:PA X [y,.Name t tp] (nK (tE X.K cx e) (nK (tC (.ty T)) Bt)):=dS hy (dS (yx hgt hmt hb rfl hn hdb) iQ rfl) hs;refine PE.imp (gB (Ef hT) hg hm rfl hA ⇑0 ⇑0 hs rfl) λσ H Q h=>?_;obtain⟨G,F,δ,d,δ',ok,ev,post⟩:=h;simp only[evE]at ev;obtain⟨ds,ea,hd⟩:=yS ev;simp only[cT,ae,af]at ea;obtain⟨⟨x,δ1⟩,ea,⟨ds',δ2⟩,eb,e2⟩:=ea;cases eb;cases e2
 obtain⟨b,rfl⟩:∃b,d=.bl b:=by
  cases f<;>simp[tyName]at hT<;>(cases x<;>simp[hZ,fW]at hd<;>exact⟨_,hd.symm⟩)
 refine⟨G,F,δ,x,δ1,ok,ea,λv H1 F1 st1 sm1 ok1 r1=>?_⟩;exact⟨F1,x,v,b,r1.b,rfl,hd,post _ H1 F1 st1 (λz=>sm1 (by have z':(np e&&true)=true:=z;simpa using z')) ok1 (eN (iy b))⟩
def Fp(hN:X.N[i]?=some x)(hv:Vis X.env.scope x)(hd:(x==("__debug__":Str))=false)(hcd:(x==("__classdict__":Str))=false)(hl:ap.endLine=cp.line) :
 PE X (.Call (.Attribute (.Name x pos) "pop" ap) [] [] cp) (tE X.K cx (.pop i)):=by
 refine PE.imp (Kg PySem.F.plainAttrs_list PySem.F.slot_list_pop PySem.F.type_list_pop KC (fJ hN hv hd hcd) rfl (by simpa using hl)) λσ H Q h=>?_;obtain⟨G,F,δ,d,δ',ok,ev,post⟩:=h;simp only[evE]at ev
 cases q:δ[i]? with
 |none=>rw[q]at ev;cases ev
 |some s =>
  rw[q]at ev
  cases s with
  |no=>cases ev
  |fnc _ _=>cases ev
  |odc _ _=>cases ev
  |val _=>cases ev
  |own ds =>
   obtain⟨a,xs,e1,h1,h2,h3,h4⟩:=ok.sl i _ q;dsimp only at ev
   cases ql:ds.getLast? with
   |none=>rw[ql]at ev;cases ev
   |some d0 =>
    rw[ql]at ev;cases ev;have hlen:=h4.length;have hg:ds[ds.length-1]?=some d:=by rw[<- fE];exact ql
    obtain⟨w,hw,rw'⟩:=h4.get hg;obtain⟨o1,o2⟩:=ok.write q e1 (aH.dropLast h4);refine⟨.ref a,e1,.inl ⟨rfl,xs,.inl (.inl h3)⟩,a,xs,w,rfl,rfl,h3,by rw[hlen];exact hw,?_⟩;exact post w _ F o2 (λz=>absurd (show false=true from z) aq) o1 (eN (Rel.step ok.fd o2 d w rw'))
def aH.erase:∀{ds:List D}{xs:List V}(n:Nat),aH K H F ds xs->aH K H F (ds.eraseIdx n) (xs.eraseIdx n)
 |[],xs,n,h=>by unfold aH at h;subst h;exact aH.nil
 |e::ds,xs,0,h=>by
  unfold aH at h;obtain⟨y,ys,q,h1,h2⟩:=h;subst q
  exact h2
 |e::ds,xs,n+1,h=>by
  unfold aH at h;obtain⟨y,ys,q,h1,h2⟩:=h;subst q;exact aH.cons h1 (aH.erase n h2)
def By(hN:X.N[i]?=some x)(hv:Vis X.env.scope x)(hd:(x==("__debug__":Str))=false)(hcd:(x==("__classdict__":Str))=false)(hl:ap.endLine=cp.line)(hj:PE X z (tE X.K cx j))(hs:starEach [z] X.env=[(false,eval z X.env)])
 (hfew:((backTo cp (starEach [z] X.env)).all (λx=>!x.1)&&(backToKw cp (keywordEach [] X.env)).all (λx=>x.1.isSome)
   && decide (([z]:List aE).length+([]:List dR).length+(if([]:List dR).isEmpty then 0 else 1)<30))=true) :
 PE X (.Call (.Attribute (.Name x pos) "pop" ap) [z] [] cp) (tE X.K cx (.popi i j)):=by
 have hA:PA X [z] (tEs X.K cx (.cons j .nil)):=jX (by simp[npS]) hj ma hs;refine PE.imp (uY PySem.F.plainAttrs_list PySem.F.slot_list_pop PySem.F.type_list_pop Dh (fJ hN hv hd hcd) hA rfl hfew (by simpa using hl) hs rfl) λσ H Q h=>?_;obtain⟨G,F,δ,d,δ',ok,ev,post⟩:=h;simp only[evE]at ev;split at ev
 .rename_i ds0 q;obtain⟨a,xs0,e1,h1,h2,h3,h4⟩:=ok.sl i _ q;simp only[ae,af]at ev;obtain⟨⟨dj,δ1⟩,ej,ev⟩:=ev;refine⟨.ref a,e1,.inl ⟨rfl,xs0,.inl (.inl h3)⟩,G,F,δ,[dj],δ1,ok,by simp[cT,ej],λvs H1 F1 st sm ok1 r=>?_⟩;obtain⟨d',ds',v,vs',ed,rfl,rv,rn⟩:=r;cases ed;obtain⟨_,rfl⟩:=rn
  cases dj with
  |int m =>
   have em:=rv.b.int;subst em;dsimp only at ev;split at ev
   .rename_i ds q1;obtain⟨a',xs,ea',g1,g2,g3,g4⟩:=ok1.sl i _ q1;rw[e1]at ea';cases ea';split at ev
    .rename_i hm;rw[aj]at ev;obtain⟨d0,hd0,e0⟩:=ev;cases e0;obtain⟨w,hw,rw'⟩:=g4.get hd0;have hlen:=g4.length;obtain⟨o1,o2⟩:=ok1.write q1 e1 (aH.erase m.toNat g4);refine⟨a,xs,m,m.toNat,w,rfl,rfl,g3,∅,?_,?_,hw,post w _ F1 (st.trans o2) (λz=>absurd (show false=true from z) aq) o1 (eN (Rel.step ok1.fd o2 d w rw'))⟩
     .lia
     .exact(sR (by unfold ixN;rw[if_pos hm.1,if_pos ∅])).1
    .cases ev
   .cases ev
  |_=>cases ev
 .cases ev
def EM(fd:FD F H)(h1:Ls K H F a xs)(h3:aH K H F ds xs):Wk K G F H (Itl K a) ds:=by
 intro F2 H2 st fd2 i;have h4:=(h1.step st).sq;have h5:=aH.step fd st ds xs h3;refine⟨λd e=>?_,λe=>⟨xs,h4,by rw[h5.length];lia⟩⟩;obtain⟨v,hv,rv⟩:=h5.get e;refine⟨⟨xs,v,h4,hv⟩,λx H3 y=>?_⟩;obtain⟨rfl,y⟩:=y;refine⟨λ_ _ e=>e,?_⟩;have:=y xs h4;rw[hv]at this;cases this;exact rv
def IL(fd:FD F H)(h1:SqT K H a xs)(h3:aH K H F ds xs):Wk K G F H (Itt K a) ds:=by
 intro F2 H2 st fd2 i;have h4:=uM fd st.keep h1;have h5:=aH.step fd st ds xs h3;refine⟨λd e=>?_,λe=>⟨xs,h4,by rw[h5.length];lia⟩⟩;obtain⟨v,hv,rv⟩:=h5.get e;refine⟨⟨xs,v,h4,hv⟩,λx H3 y=>?_⟩;obtain⟨rfl,y⟩:=y;refine⟨λ_ _ e=>e,?_⟩;have:=y xs h4;rw[hv]at this;cases this;exact rv
def IM:Wk K G F H (Its x) (x.cps.toList.map λc=>D.str ⟨#[c]⟩):=by
 intro F2 H2 st fd2 i;refine⟨λd e=>?_,λe=>by show i=x.cps.size;simpa using e⟩;rw[bJ,aj]at e;obtain⟨c,hc,rfl⟩:=e;have hc':x.cps[i]?=some c:=by simpa using hc
 refine⟨(fh.mp hc').1,λv H3 y=>?_⟩;obtain⟨rfl,c',h1,h2⟩:=y;refine⟨λ_ _ e=>e,?_⟩;rw[hc']at h1;cases h1;rw[h2];exact eJ _
def IP{G:Gh}{H:Hp}{F:av->Prop}{lo:Int}{n:Nat}:Wk K G F H (Itr lo n) (lA lo n):=by
 intro F2 H2 st fd2 i;unfold lA;refine⟨λd e=>?_,λe=>by rw[e];simp;exact aD n⟩;rw[bJ,aj]at e;obtain⟨c,hc,rfl⟩:=e;have hl:i<n:=by have:=(aF.mp hc).1;simpa using this
 rw[List.getElem?_range hl]at hc;cases hc;refine⟨hl,λv H3 y=>?_⟩;obtain⟨rfl,h2⟩:=y;exact⟨λ_ _ e=>e,by rw[h2];exact cC _⟩
def Oh(K:PySem.W.Frag)(tl:TE):TI:=λσ H R=>tl σ H λv H1=>(∃a,v=.ref a/\(∃xs,SqL K H1 a xs)/\R (Itl K a) H1)\/(∃a,v=.ref a/\(∃xs,SqT K H1 a xs)/\R (Itt K a) H1)\/∃x,v=.str x/\R (Its x) H1
def JZ(hl:PE X l tl):PI X tg l (Oh X.K tl):=by
 intro pins s σ H R I h
 have key:∀{v:ai}{s1:au}{x:V}{H1:Hp},Inv X pins σ H1 s1->RelV x v->((∃a,x=.ref a/\(∃xs,SqL X.K H1 a xs)/\R (Itl X.K a) H1)\/(∃a,x=.ref a/\(∃xs,SqT X.K H1 a xs)/\R (Itt X.K a) H1)\/∃y,x=.str y/\R (Its y) H1) ->
  wpAny (model X.prog X.w) X.A (pyIter v) (PIE X pins σ tg R) X.xe s1:=by
  intro v s1 x H1 I1 r1 q1;rcases q1 with⟨a,rfl,⟨xs,hq⟩,q⟩|⟨a,rfl,⟨xs,hq⟩,q⟩|⟨z,rfl,q⟩
  .cases r1;obtain⟨its,rv,p,hz⟩:=I1.list hq;refine jR p.isList ?_;refine⟨s1.heap.objs.size,[s1.heap.objs.size],_,_,H1,rfl,I1.kept (t':=s1.toks) λb o e=>ax _ e,zw a _,⟨_,aX _ rfl,rfl,rfl⟩,λb hb=>?_,q⟩;have e:b=s1.heap.objs.size:=by simpa using hb
   subst e;exact I1.fpOk (aD _) (I1.hok.fresh (aD _))
  .cases r1;obtain⟨its,rv,p,hz⟩:=I1.tuple hq;refine wpAny_pyIter_tuple (show s1.heap.IsTuple a its.toArray from p) ?_;refine⟨s1.heap.objs.size,[s1.heap.objs.size],_,_,H1,rfl,I1.kept (t':=s1.toks) λb o e=>ax _ e,wd a _,⟨_,aX _ rfl,rfl,rfl⟩,λb hb=>?_,q⟩;have e:b=s1.heap.objs.size:=by simpa using hb
   subst e;exact I1.fpOk (aD _) (I1.hok.fresh (aD _))
  .obtain⟨t,rfl⟩:=r1;refine wpAny_pyIter_strU ?_;refine⟨s1.heap.objs.size,[s1.heap.objs.size],_,_,H1,rfl,I1.kept (t':=s1.toks) λb o e=>ax _ e,Bo s1.heap.objs.size z t,⟨_,aX _ rfl,rfl,rfl⟩,λb hb=>?_,q⟩;have e:b=s1.heap.objs.size:=by simpa using hb
   subst e;exact I1.fpOk (aD _) (I1.hok.fresh (aD _))
 exact thn (hl pins s σ H _ I h) λv s1⟨x,H1,I1,r1,q1⟩=>key I1 r1 q1
def PI.imp(h:PI X tg l t)(w:∀σ H R,t' σ H R->t σ H R):PI X tg l t':=λpins s σ H R I q=>h pins s σ H R I (w σ H R q)
def Jz(n:(!bp e)=true)(hl:PE X l (tE X.K cx e)):PI X tg l (tI X.K cx (.sq e)):=by
 refine PI.imp (JZ hl) λσ H R h=>?_;obtain⟨G,F,δ,ds,δ',ok,ev,post⟩:=h;simp only[evI,ae,af]at ev;obtain⟨⟨d,δ1⟩,ea,ds',hd,e2⟩:=ev;cases e2;dsimp only at hd post;refine⟨G,F,δ,d,δ1,ok,ea,λv H1 F1 st1 sm1 ok1 r1=>?_⟩;have r:=dh n r1;unfold items at hd;split at hd
 .cases hd;unfold Rel at r;obtain⟨a,xs,e1,h1,h3⟩:=r;exact .inl ⟨a,e1,⟨xs,h1.sq⟩,post _ _ _ st1 sm1 ok1 (λ_=>EM ok1.fd h1 h3)⟩
 .cases hd;unfold Rel at r;obtain⟨a,xs,e1,h1,h3⟩:=r;exact .inr (.inl ⟨a,e1,⟨xs,h1⟩,post _ _ _ st1 sm1 ok1 (λ_=>IL ok1.fd h1 h3)⟩)
 .split at hd
  .cases hd;unfold Rel at r;exact .inr (.inr ⟨_,r,post _ _ _ st1 sm1 ok1 λ_=>IM⟩)
  .cases hd
 .cases hd
def Fn(n:(!bp e)=true)(hg:Gl X "range")(hm:X.mg "range"=none)(hy:PE X y (tE X.K cx e))(hs:starEach [y] X.env=[(false,eval y X.env)]):PI X tg (.Call (.Name "range" p) [y] [] pos) (tI X.K cx (.rng e)):=by
 refine PI.imp (zJ hg hm (dS hy iQ hs) hs) λσ H R h=>?_;obtain⟨G,F,δ,ds,δ',ok,ev,post⟩:=h;simp only[evI,ae,af]at ev;obtain⟨⟨d,δ1⟩,ea,ev⟩:=ev
 cases d with
 |int j =>
  dsimp only at ev;split at ev
  .rename_i hj;cases ev;refine⟨G,F,δ,.int j,_,ok,ea,λv H1 F1 st1 sm1 ok1 r1=>?_⟩;have r:=dh n r1;unfold Rel at r;subst r;exact⟨j,rfl,hj.1,hj.2,post _ _ _ st1 sm1 ok1 λ_=>IP⟩
  .cases ev
 |_=>cases ev
end
section
variable{X:Cx}{cx:Cl}
def Itv(K:PySem.W.Frag)(a:av)(n:Nat):L2.It :=
 ⟨λi H=>∃xs x,SqL K H a xs/\xs.length=n/\xs.reverse[i]?=some x,λi H x H'=>H'=H/\∀xs,SqL K H a xs->xs.reverse[i]?=some x,λi _=>i=n⟩
def Bp{P:aQ}{w:bD}{K:PySem.W.Frag}{tg:aE}(a it:av)(n:Nat):Turn P w K tg (Itv K a n) [it] it (λi h=>i<=n/\h.IsRevIter it a ((n:Int)-1-(i:Int)))where
 mem:=by simp
 obj:=λi h st b hb=>by
  have e:b=it:=by simpa using hb
  subst e;obtain⟨_,o,e,c,d⟩:=st;exact⟨o,e,λv z=>by rw[d]at z;cases z⟩
 keep:=λi h h' st k=>⟨st.1,st.2.at λo e=>k it ↥0 o e⟩
 item:=by
  intro X hP hw hK hc i pins s σ H E I hf st hg;subst hP hw hK;obtain⟨xs,x,hq,hn,hx⟩:=hg;obtain⟨its,rv,p,hz⟩:=I.list hq
  have hi:i<xs.length:=by
   have:=(aF.mp hx).1;simpa using this
  have hx':xs[xs.length-1-i]?=some x:=by rw[<- kJ hi];exact hx
  obtain⟨u,hu,ru⟩:=rv.get hx';obtain⟨f0,f1,f2,f3,f4,f5⟩:=hf it ↥0;have ei:(n:Int)-1-(i:Int)=((xs.length-1-i:Nat):Int):=by lia
  have st2:=st.2;rw[ei]at st2;refine wpAny_pyNext_rev_item st2 p.isList (x:=u) (by simpa using hu) λh' st' sb=>?_;have I1:Inv X pins σ H {s with heap:=h'}:=I.turned (t':=s.toks) (λb o hb e=>(sb.2 b hb).trans e) f0 f1 f3 f4 f5;obtain⟨o,e,c,d⟩:=id st';have e2:((xs.length-1-i:Nat):Int)-1=(n:Int)-1-((i+1:Nat):Int):=by lia
  rw[e2]at st';exact⟨u,rfl,vz (s:={s with heap:=h'}) e c d ⇑0 ⟨x,H,I1,ru,⟨rfl,λys hy=>by rw[I.list_inj hy hq];exact hx⟩,⟨∅,st'⟩,λb hb=>(hf b hb).1⟩⟩
 done:=by
  intro X hP hw hK hc i pins s σ H E I hf st hg;subst hP hw hK;have hg:i=n:=hg;subst hg;obtain⟨f0,f1,f2,f3,f4,f5⟩:=hf it ↥0;have st2:=st.2;rw[show(i:Int)-1-(i:Int)=-1 by lia]at st2;exact wpAny_pyNext_rev_end (I.ok.hd hc) st2 λh' eb=>⟨rfl,I.turned (t':=s.toks) (λb o hb e=>eb b o hb e) f0 f1 f3 f4 f5⟩
 self:=λ_ _ _ _ _ st h=>HH st.2 h
def Og(K:PySem.W.Frag)(ta:TA):TI:=λσ H R=>ta σ H λvs H1=>∃a xs,vs=[.ref a]/\SqL K H1 a xs/\R (Itv K a xs.length) H1
def JY{tg a:aE}{ta:TA}{p pos:Pos}(hg:Gl X "reversed")(hm:X.mg "reversed"=none)(ha:PA X [a] ta)(hs:starEach [a] X.env=[(false,eval a X.env)]):PI X tg (.Call (.Name "reversed" p) [a] [] pos) (Og X.K ta):=by
 intro pins s σ H R I h;refine Call_ (pK I hg hm boot_reversed (gA (thn (ha pos pins s σ H _ I h) λus s1⟨vs,H1,I1,r1,q1⟩=>?_) hs rfl));obtain⟨a,xs,e,hq,q⟩:=q1;subst e;obtain⟨u,rfl,ru⟩:=r1.one;cases ru;obtain⟨its,rv,p,hz⟩:=I1.list hq;refine call_reversed_list p.isList ?_;have hl:=rv.length;have I2:=I1.kept (h':=s1.heap.push (revObj a ((its.toArray.size:Int)-1))) (t':=s1.toks) λb o e=>ax _ e;refine HH (it:=s1.heap.objs.size) (l:=a) (i:=(its.toArray.size:Int)-1) ⟨_,aX _ rfl,rfl,rfl⟩ ?_;refine⟨s1.heap.objs.size,[s1.heap.objs.size],_,_,H1,rfl,I2,Bp a _ xs.length,⟨bP _,?_⟩,λb hb=>?_,q⟩
 .have e:(xs.length:Int)-1-((0:Nat):Int)=(its.toArray.size:Int)-1:=by simp;lia
  rw[e];exact⟨_,aX _ rfl,rfl,rfl⟩
 .have e:b=s1.heap.objs.size:=by simpa using hb
  subst e;exact I1.fpOk (aD _) (I1.hok.fresh (aD _))
def IQ{K:PySem.W.Frag}{G:Gh}{H:Hp}{F:av->Prop}{a:av}{xs:List V}{ds:List D}(fd:FD F H)(h1:Ls K H F a xs)(h3:aH K H F ds xs):Wk K G F H (Itv K a xs.length) ds.reverse:=by
 intro F2 H2 st fd2 i;have h4:=(h1.step st).sq;have h5:=aH.step fd st ds xs h3;have hl:=h5.length;refine⟨λd e=>?_,λe=>by show i=xs.length;rw[bg]at e;lia⟩
 have hi:i<ds.length:=by
  have:=(aF.mp e).1;simpa using this
 rw[kJ hi]at e;obtain⟨v,hv,rv⟩:=h5.get e;have hv':xs.reverse[i]?=some v:=by rw[kJ ∅,hl];exact hv
 refine⟨⟨xs,v,h4,rfl,hv'⟩,λx H3 y=>?_⟩;obtain⟨rfl,y⟩:=y;refine⟨λ_ _ e=>e,?_⟩;have:=y xs h4;rw[hv']at this;cases this;exact rv
def Fo(n:(!bp e)=true)(hg:Gl X "reversed")(hm:X.mg "reversed"=none)(hy:PE X y (tE X.K cx e))(hs:starEach [y] X.env=[(false,eval y X.env)]):PI X tg (.Call (.Name "reversed" p) [y] [] pos) (tI X.K cx (.rev e)):=by
 refine PI.imp (JY hg hm (dS hy iQ hs) hs) λσ H R h=>?_;obtain⟨G,F,δ,ds,δ',ok,ev,post⟩:=h;simp only[evI,ae,af]at ev;obtain⟨⟨d,δ1⟩,ea,ev⟩:=ev
 cases d with
 |lst ds =>
  cases ev;refine⟨G,F,δ,.lst ds,_,ok,ea,λv H1 F1 st1 sm1 ok1 r1=>?_⟩;have r:=dh n r1;unfold Rel at r;obtain⟨a,xs,e1,h1,h3⟩:=r;subst e1
  exact⟨a,xs,rfl,h1.sq,post _ _ _ st1 sm1 ok1 λ_=>IQ ok1.fd h1 h3⟩
 |_=>cases ev
end
end PP
end
section
namespace PP
open PySem L2 PyProof.Rows Builtin.Str
variable[Tbs]
section
variable{X:Cx}{cx:Cl}
def rMt(K:PySem.W.Frag)(f:D->D->Option D):V->List V->Hp->VK->Prop:=λx vs H Q=>∃F a b d y,vs=[y]/\FD F H/\dc K H F a x/\dc K H F b y/\f a b=some d/\∀v H',fD H H'->Rel K H' F d v->Q v H'
def qL:∀(tk:Nat)(xs:List Str),∃l,strsFrom tk xs=strValues l/\l.map (·.1)=xs
 |tk,[]=>⟨[],rfl,rfl⟩
 |tk,x::xs=>by
  obtain⟨l,e1,e2⟩:=qL (tk+1) xs;exact⟨(x,tk)::l,by rw[strsFrom,e1];rfl,by rw[aw,e2]⟩
def qG:∀(l:List (Str×Tok)),Vals (l.map λp=>V.str p.1) (strValues l)
 |[]=>.nil
 |p::l=>.cons ⟨p.2,rfl⟩ (qG l)
def qP{K:PySem.W.Frag}{H:Hp}{F:av->Prop}:∀(l:List (Str×Tok)),aH K H F ((l.map (·.1)).map D.str) (l.map λp=>V.str p.1)
 |[]=>aH.nil
 |p::l=>aH.cons (eJ _) (qP l)
def rSp(K:PySem.W.Frag):V->List V->Hp->VK->Prop:=λx vs H Q=>∃F a b ds y,vs=[y]/\dc K H F a x/\dc K H F b y/\mtD .split a b=some (.lst ds)/\∀p xs,H p=none->aH K H F ds xs->Q (.ref p) (upd H p (.lst xs))
def vm{pins:List (av×Obj)}{σ:L2.St}{H:Hp}{s:au}{F:av->Prop}{Q:VK}{l:List (Str×Tok)}{tk:Nat}(I:Inv X pins σ H s)(hl:l.length<=sizeLine)
 (q:∀p xs,H p=none->aH X.K H F ((l.map (·.1)).map .str) xs->Q (.ref p) (upd H p (.lst xs))):EP X pins σ Q (.ref s.heap.objs.size) {s with heap:=s.heap.push {cls:=.type "list",data:=.seq (strValues l).toArray},toks:=tk}:=by
 refine⟨.ref s.heap.objs.size,upd H s.heap.objs.size (.lst (l.map λp=>V.str p.1)),I.laid (t':=tk) (λb u e=>ax _ e) (aD _) ?_,rfl,q _ _ (I.hok.fresh (aD _)) (qP l)⟩;exact⟨by rw[ak];exact hl,strValues l,_,qG l,aX _ rfl⟩
def qZ:MtR X "str.split" (rSp X.K):=by
 intro pins s σ H x xs v us Q I rx rv h;obtain⟨F,a,b,d,y,rfl,ra,rb,e,q⟩:=h;obtain⟨u,rfl,ru⟩:=rv.one
 cases a with
 |str x' =>
  cases b with
  |str y' =>
   have:=ra.str;subst this;have:=rb.str;subst this;obtain⟨t,rfl⟩:=rx;obtain⟨t',rfl⟩:=ru;unfold mtD at e;dsimp only at e;split at e
   .rename_i hc;obtain⟨c1,c2,c3⟩:=hc;cases e;have hy:(y'.length==0)=false:=by simp;lia
    have self:∀{tk:Nat},iP x' y'=[x']->EP X pins σ Q (.ref s.heap.objs.size) {s with heap:=s.heap.push {cls:=.type "list",data:=.seq [oj x' t].toArray},toks:=tk}:=λ{tk}e1=>by
     rw[e1]at q;exact vm (l:=[(x',t)]) I (show 1<=sizeLine by decide) q
    cases h1:(decide (x'.length<y'.length)||decide (strKind x'<strKind y'))with
    |true=>exact dU PySem.F.slot_str_split (fK s x' t) PySem.F.entry_str_split (PySem.F.args_str_split_2 _ _) (meets_str_split_cannot_occur x' y' t t' h1) (self (tk:=s.toks) (by unfold iP;rw[h1];rfl))
    |false =>
     cases h2:(occurrences x' y' 0 x'.length (x'.length+1)).isEmpty with
     |true=>exact dU PySem.F.slot_str_split (fK s x' t) PySem.F.entry_str_split (PySem.F.args_str_split_2 _ _) (meets_str_split_not_found x' y' t t' h1 hy h2) (self (tk:=s.toks) (by unfold iP;rw[h1,h2];rfl))
     |false =>
      have e3:iP x' y'=partsBetween x' (occurrences x' y' 0 x'.length (x'.length+1)) y'.length:=by unfold iP;rw[h1,h2];rfl
      rw[e3]at c3 q;refine dU PySem.F.slot_str_split (fK s x' t) PySem.F.entry_str_split (PySem.F.args_str_split_2 _ _) (meets_str_split_sep x' y' t t' h1 hy h2 c2 c3) ?_;obtain⟨l,el,em⟩:=qL s.toks (partsBetween x' (occurrences x' y' 0 x'.length (x'.length+1)) y'.length);show EP X pins σ Q (.ref s.heap.objs.size) _;rw[el];rw[<- em]at q c3 |-;exact vm I (by rw[ak]at c3;exact c3) q
   .cases e
  |_=>cases e
 |_=>cases e
def Dg:MtR X "str.split" (rMt X.K (mtD .split)):=by
 intro pins s σ H x xs v us Q I rx rv h;obtain⟨F,a,b,d,y,e0,fd,ra,rb,e,q⟩:=h
 obtain⟨ds,rfl⟩:∃ds,d=.lst ds:=by
  cases a<;>cases b<;>first|(cases e;done)|skip
  unfold mtD at e;dsimp only at e;split at e
  .cases e;exact⟨_,rfl⟩
  .cases e
 refine qZ pins s σ H x xs v us Q I rx rv ⟨F,a,b,ds,y,e0,ra,rb,e,λp xs hp r=>q _ _ (cH hp _) ?_⟩;unfold Rel;exact⟨p,xs,rfl,.inl ⟨.inl bK,vj fd hp⟩,aH.step (G:=g0) fd (Step.of_same (cH hp _)) _ _ r⟩
def GO:MtR X "str.partition" (rMt X.K (mtD .part)):=by
 intro pins s σ H x xs v us Q I rx rv h;obtain⟨F,a,b,d,y,rfl,fd,ra,rb,e,q⟩:=h;obtain⟨u,rfl,ru⟩:=rv.one
 cases a with
 |str x' =>
  cases b with
  |str y' =>
   have:=ra.str;subst this;have:=rb.str;subst this;obtain⟨t,rfl⟩:=rx;obtain⟨t',rfl⟩:=ru;unfold mtD at e;dsimp only at e;split at e
   .rename_i hc;obtain⟨c1,c2⟩:=hc;cases e;have hy:(y'.length==0)=false:=by simp;lia
    have fin:∀{a b c:Str}{t1 t2 t3:Tok}{tk:Nat},jJ x' y'=(a,b,c)->EP X pins σ Q (.ref s.heap.objs.size) {s with heap:=s.heap.push {cls:=.type "tuple",data:=.seq [oj a t1,.str b t2,.str c t3].toArray},toks:=tk}:=λ{a b c t1 t2 t3 tk}e1=>by
     rw[e1]at q;have hp:H s.heap.objs.size=none:=I.hok.fresh (aD _);refine⟨.ref s.heap.objs.size,upd H s.heap.objs.size (.tup [.str a,.str b,.str c]),I.laid (t':=tk) (λb u e=>ax _ e) (aD _) ⟨show 3<=sizeLine by decide,_,.cons ⟨t1,rfl⟩ (.cons ⟨t2,rfl⟩ (.cons ⟨t3,rfl⟩ .nil)),⟨_,aX _ rfl,rfl,_,rfl⟩⟩,rfl,q _ _ (cH hp _) ?_⟩;unfold Rel;exact⟨_,_,rfl,SqT.of bK,aH.cons (eJ _) (aH.cons (eJ _) (aH.cons (eJ _) aH.nil))⟩
    refine dU PySem.F.slot_str_partition (fK s x' t) PySem.F.entry_str_partition (PySem.F.args_str_partition_2 _ _) (meets_str_partition x' y' t t' hy c2) ?_;show EP X pins σ Q (.ref s.heap.objs.size) (match occurrences x' y' 0 x'.length 1 with|i::_=>_|[]=>_)
    cases e2:occurrences x' y' 0 x'.length 1 with
    |nil=>exact fin (by unfold jJ;rw[e2])
    |cons i r=>exact fin (by unfold jJ;rw[e2])
   .cases e
  |_=>cases e
 |_=>cases e
def GR:MtR X "str.endswith" (rMt X.K (mtD .ends)):=by
 intro pins s σ H x xs v us Q I rx rv h;obtain⟨F,a,b,d,y,rfl,fd,ra,rb,e,q⟩:=h;obtain⟨u,rfl,ru⟩:=rv.one
 cases a with
 |str x' =>
  cases b with
  |str y' =>
   have:=ra.str;subst this;have:=rb.str;subst this;obtain⟨t,rfl⟩:=rx;obtain⟨t',rfl⟩:=ru;cases e;refine call_gives PySem.F.slot_str_endswith (fK s x' t) PySem.F.entry_str_endswith (PySem.F.args_str_endswith_2 _ _) (gives_str_endswith x' y' t t') ⟨.bl _,H,I,rfl,?_⟩;rw[xM]
   exact q _ _ (fD.refl H) (iy _)
  |_=>cases e
 |_=>cases e
def GQ:MtR X "str.find" (rMt X.K (mtD .find)):=by
 intro pins s σ H x xs v us Q I rx rv h;obtain⟨F,a,b,d,y,rfl,fd,ra,rb,e,q⟩:=h;obtain⟨u,rfl,ru⟩:=rv.one
 cases a with
 |str x' =>
  cases b with
  |str y' =>
   have:=ra.str;subst this;have:=rb.str;subst this;obtain⟨t,rfl⟩:=rx;obtain⟨t',rfl⟩:=ru;cases e;refine call_gives PySem.F.slot_str_find (fK s x' t) PySem.F.entry_str_find (PySem.F.args_str_find_2 _ _) (gives_str_find x' y' t t') ⟨.int _,H,I.tok _,⟨_,rfl⟩,?_⟩
   exact q _ _ (fD.refl H) (cC _)
  |_=>cases e
 |_=>cases e
def qJ:∀{ds:List D}{ts:List Str},pb ds=some ts->ds=ts.map .str
 |[],ts,e=>by cases e;rfl
 |d::ds,ts,e=>by
  cases d with
  |str x =>
   unfold pb at e;rw[aj]at e;obtain⟨us,e,rfl⟩:=e;rw[qJ e]
   rfl
  |_=>cases e
def yE{K:PySem.W.Frag}{H:Hp}{F:av->Prop}:∀{ts:List Str}{xs:List V}{us:List ai},aH K H F (ts.map .str) xs->Vals xs us->∃l,us=strValues l/\l.map (·.1)=ts
 |[],xs,us,r,v=>by
  have e:xs=[]:=by rw[dq]at r;unfold aH at r;exact r
  subst e;cases v
  exact⟨[],rfl,rfl⟩
 |t::ts,xs,us,r,v=>by
  rw[aw]at r;unfold aH at r;obtain⟨y,ys,rfl,h1,h2⟩:=r
  cases v with
  |cons r1 r2 =>
   unfold Rel at h1;subst h1;obtain⟨tk,rfl⟩:=r1;obtain⟨l,rfl,e⟩:=yE h2 r2;exact⟨(t,tk)::l,rfl,by rw[aw,e]⟩
def GP:MtR X "str.join" (rMt X.K (mtD .join)):=by
 intro pins s σ H x xs v us Q I rx rv h;obtain⟨F,a,b,d,y,rfl,fd,ra,rb,e,q⟩:=h;obtain⟨u,rfl,ru⟩:=rv.one
 cases a with
 |str x' =>
  cases b with
  |lst ds =>
   have:=ra.str;subst this;obtain⟨a,ys,rfl,h1,h2⟩:=rb.lst;obtain⟨t,rfl⟩:=rx;cases ru;unfold mtD at e;dsimp only at e;rw[af]at e;obtain⟨ts,et,e⟩:=e;split at e
   .rename_i hc;cases e;obtain⟨its,rv,p,hz⟩:=I.list h1.sq;rw[qJ et]at h2;obtain⟨l,rfl,em⟩:=yE h2 rv;rw[<- em]at hc q;refine dU PySem.F.slot_str_join (fK s x' t) PySem.F.entry_str_join (PySem.F.args_str_join_2 _ _) (meets_str_join_list x' t a l hc.1) ⟨p.isList,?_⟩;have big:∀(g:Str),g=glued x' (l.map (·.1))->EP X pins σ Q (.str g s.toks) {s with toks:=s.toks+1}:=λg eg=>⟨.str g,H,I.kept (h':=s.heap) (t':=s.toks+1) λb o e=>e,⟨_,rfl⟩,q _ _ (fD.refl H) (by rw[eg];exact eJ _)⟩
    cases l with
    |nil=>exact⟨hc.2,big _ rfl⟩
    |cons c l =>
     cases l with
     |nil=>exact⟨.str c.1,H,I,⟨_,rfl⟩,q _ _ (fD.refl H) (eJ _)⟩
     |cons c' l=>exact⟨hc.2,big _ rfl⟩
   .cases e
  |_=>cases e
 |_=>cases e
def rD{h:bW}{a:D}:∀{ds:List D}{us:List ai},RdL h ds us->us.findIdx? (isEq h a)=ds.findIdx? λd=>eqD d a
 |[],us,r=>by unfold RdL at r;subst r;rfl
 |d::ds,us,r=>by
  unfold RdL at r;obtain⟨w,ws,rfl,h1,h2⟩:=r;rw[mP,mP,sT h1,rD h2]
def Di(hu:X.A.units+200<cLine):MtR X "list.index" (rMt X.K (mtD .index)):=by
 intro pins s σ H x xs v us Q I rx rv h;obtain⟨F,a,b,d,y,rfl,fd,hb,ha,e,q⟩:=h;obtain⟨u,rfl,ru⟩:=rv.one
 cases a with
 |lst ds =>
  unfold mtD at e;dsimp only at e;split at e
  .rename_i hd;rw[aj]at e;obtain⟨i,ei,rfl⟩:=e;have ra:=fo I ha ru ∅;have rb:=fo I hb rx (by unfold dep;lia);unfold RdV at rb;obtain⟨l',its',rfl,k1,k2⟩:=rb;obtain⟨⟨cls,dd,data,sl⟩,ho,hc,n,hdt⟩:=id k1;simp only at hc hdt;subst hc hdt;rw[<- rD k2]at ei;obtain⟨hi,e1,e2⟩:=gc.mp ei
   have hz:its'.size<=sizeLine:=by
    obtain⟨a',ys,ea,h1,h2⟩:=hb.lst;subst ea;obtain⟨its,rv2,p,hz⟩:=I.list h1.sq;obtain⟨o,ho',_,n',hd'⟩:=p.isList;cases rx;rw[ho]at ho';cases ho';cases hd';have e3:=rv2.length;simp only[aB]
    lia
   refine dU PySem.F.slot_list_index ⟨_,ho,rfl⟩ PySem.F.entry_list_index (PySem.F.args_list_index_2 _ _) (PySem.SeqAt.list_indexAt l' its' n dd sl u (isEq s.heap b) i (by simpa using hi) ?_ (by simpa using e1) λm hm h2=>?_) ⟨ho,λw hw=>ja ra (by show X.A.units+1+_<_;lia) k2 w (by simpa using hw),?_⟩
   .have:sizeLine<2^63-1:=by decide
    have hi':i<its'.size:=by simpa using hi
    lia
   .simpa using e2 m h2
   .exact⟨.int i,H,I.kept (h':=s.heap) (t':=s.toks+1) λb o e=>e,⟨_,rfl⟩,q _ _ (fD.refl H) (cC _)⟩
  .cases e
 |_=>cases e
def zc{y:aE}{n:Str}{env:Env}(h:(fy y==0||fy y==1||fy y==9)=true):attributeBase y n env (eval y env)=eval y env:=by
 rw[bH,bH]at h;rcases h with(h|h)|h
 .obtain⟨⟨_,_,rfl⟩,_⟩:=cM (b:=true) (by rw[cV];exact h);rfl
 .obtain⟨⟨_,_,_,rfl⟩,_⟩:=cM (b:=true) (by rw[cV];exact h);rfl
 .obtain⟨⟨_,_,_,rfl⟩,_⟩:=cM (b:=true) (by rw[cV];exact h);rfl
def kA{m:Mt}{T id:String}{a b:E}{y z:aE}{ap cp:Pos}(pa:LX T)(slot:Slot T (mtN m) id)(hty:typeOf (.builtin id)=pure (.type "method_descriptor"))(hm:MtR X id (rMt X.K (mtD m)))
 (htv:∀{F H v x y d},mtD m x y=some d->dc X.K H F x v->tyV X.K T v H)(na:(!bp a)=true)(nb:(!bp b)=true)(ha:PE X y (tE X.K cx a))(hb:PE X z (tE X.K cx b))(hl:ap.endLine=cp.line)
 (hbase:attributeBase y (mtN m) X.env (eval y X.env)=eval y X.env)(hs:starEach [z] X.env=[(false,eval z X.env)])
 (hfew:((backTo cp (starEach [z] X.env)).all (λx=>!x.1)&&(backToKw cp (keywordEach [] X.env)).all (λx=>x.1.isSome)
   && decide (([z]:List aE).length+([]:List dR).length+(if([]:List dR).isEmpty then 0 else 1)<30))=true) :
 PE X (.Call (.Attribute y (mtN m) ap) [z] [] cp) (tE X.K cx (.mt m a b)):=by
 have hA:PA X [z] (tEs X.K cx (.cons b .nil)):=jX (by simp[npS]) hb ma hs;refine PE.imp (uY pa slot hty hm ha hA hbase hfew (by simpa using hl) hs rfl) λσ H Q h=>?_;obtain⟨G,F,δ,d,δ',ok,ev,post⟩:=h;simp only[evE,ae,af]at ev;obtain⟨⟨x,δ1⟩,ea,⟨y',δ2⟩,eb,d',ed,e⟩:=ev;cases e;dsimp only at eb ed;refine⟨G,F,δ,_,δ1,ok,ea,λv H1 F1 st1 sm1 ok1 r1=>⟨htv ed r1.b,G,F1,δ1,[y'],δ2,ok1,by simp[cT,eb],λvs H2 F2 st2 sm2 ok2 r=>?_⟩⟩;obtain⟨d',ds',u,vs',ed',rfl,ru,rn⟩:=r;cases ed';obtain⟨_,rfl⟩:=rn;have r1':=Rel.step ok1.fd st2 _ _ (dh na r1);refine⟨F2,x,y',_,u,rfl,ok2.fd,.inl r1',ru.b,ed,λw H3 s3 r3=>post w H3 F2 ((st1.trans st2).trans (Step.of_same s3)) (λz=>?_) (ok2.same' s3) (eN r3)⟩;have z':=(aa _ _).mp (show(np a&&np b)=true from z);exact((sm1 z'.1).trans (sm2 (by simpa[npS]using z'.2))).trans (.of s3)
def tyS{m:Mt}{H:Hp}{F:av->Prop}{v:V}{x y d:D}(hm:∀x y d,mtD m x y=some d->∃t,x=.str t)(e:mtD m x y=some d)(r:dc X.K H F x v):tyV X.K "str" v H:=by
 obtain⟨t,rfl⟩:=hm _ _ _ e;rw[r.str];rfl
def JD(hu:X.A.units+200<cLine){m:Mt}{a b:E}{y z:aE}{ap cp:Pos}(na:(!bp a)=true)(nb:(!bp b)=true)(ha:PE X y (tE X.K cx a))(hb:PE X z (tE X.K cx b))(hl:ap.endLine=cp.line)
 (hbase:attributeBase y (mtN m) X.env (eval y X.env)=eval y X.env)(hs:starEach [z] X.env=[(false,eval z X.env)])
 (hfew:((backTo cp (starEach [z] X.env)).all (λx=>!x.1)&&(backToKw cp (keywordEach [] X.env)).all (λx=>x.1.isSome)
   && decide (([z]:List aE).length+([]:List dR).length+(if([]:List dR).isEmpty then 0 else 1)<30))=true) :
 PE X (.Call (.Attribute y (mtN m) ap) [z] [] cp) (tE X.K cx (.mt m a b)):=by
 cases m with
 |split=>exact kA PySem.F.plainAttrs_str PySem.F.slot_str_split PySem.F.type_str_split Dg (tyS λx y d e=>by cases x<;>first|exact⟨_,rfl⟩|cases e) na nb ha hb hl hbase hs hfew
 |part=>exact kA PySem.F.plainAttrs_str PySem.F.slot_str_partition PySem.F.type_str_partition GO (tyS λx y d e=>by cases x<;>first|exact⟨_,rfl⟩|cases e) na nb ha hb hl hbase hs hfew
 |ends=>exact kA PySem.F.plainAttrs_str PySem.F.slot_str_endswith PySem.F.type_str_endswith GR (tyS λx y d e=>by cases x<;>first|exact⟨_,rfl⟩|cases e) na nb ha hb hl hbase hs hfew
 |find=>exact kA PySem.F.plainAttrs_str PySem.F.slot_str_find PySem.F.type_str_find GQ (tyS λx y d e=>by cases x<;>first|exact⟨_,rfl⟩|cases e) na nb ha hb hl hbase hs hfew
 |join=>exact kA PySem.F.plainAttrs_str PySem.F.slot_str_join PySem.F.type_str_join GP (tyS λx y d e=>by cases x<;>first|exact⟨_,rfl⟩|cases e) na nb ha hb hl hbase hs hfew
 |index =>
  refine kA PySem.F.plainAttrs_list PySem.F.slot_list_index PySem.F.type_list_index (Di hu) (λ{F H v x y d}e r=>?_) na nb ha hb hl hbase hs hfew
  cases x with
  |lst ds =>
   obtain⟨p,xs,e1,h1,h2⟩:=r.lst;rw[e1]
   exact .inl ⟨rfl,xs,h1.sq⟩
  |_=>cases e
def ND{H:Hp}{F:av->Prop}{v:V}{x y d:D}(e:mtD .split x y=some d)(r:dc X.K H F x v):tyV X.K "str" v H:=tyS (λx y d e=>by cases x<;>first|exact⟨_,rfl⟩|cases e) e r
def Ec{o1 o2:Cop}{a b e:E}{σ:L2.St}{G:Gh}{H:Hp}{F:av->Prop}{δ δ1 δ2:Loc}{x y:D}{k:Bool}{Q:VK}(na:(!bp a)=true)(nb:(!bp b)=true)(ne:(!bp e)=true)(ok:Ok X.K G F σ H δ)
 (ea:evE cx a δ=some (x,δ1))(eb:evE cx b δ1=some (y,δ2))(ek:gv o1 x y=some k)
 (q:∀H2 F2,Step G F H F2 H2->((np a&&np b)=true->Sim H H2)->Ok X.K G F2 σ H2 δ2->k=false->Q (.bl false) H2)
 (r:k=true->∃z δ3 k2,evE cx e δ2=some (z,δ3)/\gv o2 y z=some k2/\∀H3 F3,Step G F H F3 H3->((np a&&np b&&np e)=true->Sim H H3)->Ok X.K G F3 σ H3 δ3->Q (.bl k2) H3) :
 wo (rC X.K o1) (rC X.K o2) (tE X.K cx a) (tE X.K cx b) (tE X.K cx e) σ H Q:=by
 have pc:(!bp a||np b)=true:=by rw[na];rfl
 refine two ok ea eb pc λv u H2 F2 st sm ok2 r1 r2=>?_;refine⟨F2,x,y,k,r1.b,r2.b,ek,k,rfl,?_⟩
 cases k with
 |false=>exact q H2 F2 st sm ok2 rfl
 |true =>
  obtain⟨z,δ3,k2,ee,ek2,q2⟩:=r rfl;rw[if_pos rfl];refine⟨G,F2,δ2,z,δ3,ok2,ee,λw H3 F3 st3 sm3 ok3 r3=>⟨F3,y,z,k2,.inl (Rel.step ok2.fd st3 _ _ (dh nb r2)),r3.b,ek2,q2 H3 F3 (st.trans st3) (λz=>?_) ok3⟩⟩;rw[aa]at z;exact(sm z.1).trans (sm3 z.2)
def FG(hu:X.A.units+200<cLine){o1 o2:Cop}{p1 p2:uo}{a b e:E}{y z w:aE}{pos:Pos}(h1:jf o1 p1=true)(h2:jf o2 p2=true)(na:(!bp a)=true)(nb:(!bp b)=true)(ne:(!bp e)=true)
 (ha:PE X y (tE X.K cx a))(hb:PE X z (tE X.K cx b))(he:PE X w (tE X.K cx e))(hm:behindInMarks p2 w=false):PE X (.Compare y [p1,p2] [z,w] pos) (tE X.K cx (.chn o1 o2 a b e)):=by
 refine PE.imp (CJ (opC hu h1) (opC hu h2) ha hb he hm) λσ H Q h=>?_;obtain⟨G,F,δ,d,δ',ok,ev,post⟩:=h;simp only[evE,ae,af]at ev;obtain⟨⟨x,δ1⟩,ea,⟨y',δ2⟩,eb,k,ek,ev⟩:=ev;dsimp only at eb ek ev;have npE:∀{A:Prop},((np a&&np b&&np e)=true->A)->np (.chn o1 o2 a b e)=true->A:=λf z=>f z;refine Ec na nb ne ok ea eb ek (λH2 F2 st sm ok2 k0=>?_) λk1=>?_
 .rw[k0,if_neg aq]at ev;cases ev;exact post _ H2 F2 st (npE λz=>sm ((aa _ _).mp z).1) ok2 (eN (iy _))
 .rw[k1,if_pos rfl]at ev;simp only[af]at ev;obtain⟨⟨z',δ3⟩,ee,k2,ek2,e9⟩:=ev;cases e9;exact⟨z',δ3,k2,ee,ek2,λH3 F3 st sm ok3=>post _ H3 F3 st (npE sm) ok3 (eN (iy _))⟩
def BH(hu:X.A.units+200<cLine){o1 o2:Cop}{p1 p2:uo}{a b e:E}{y z w:aE}{pos:Pos}(h1:jf o1 p1=true)(h2:jf o2 p2=true)(na:(!bp a)=true)(nb:(!bp b)=true)(ne:(!bp e)=true)
 (ha:PE X y (tE X.K cx a))(hb:PE X z (tE X.K cx b))(he:PE X w (tE X.K cx e))(hm:behindInMarks p2 w=false):PT X (.Compare y [p1,p2] [z,w] pos) (tT X.K cx (.chn o1 o2 a b e)):=by
 refine PT.imp (Cq (opC hu h1) (opC hu h2) ha hb he hm) λσ H Q h=>?_;obtain⟨G,F,δ,d,δ',ok,ev,post⟩:=h;simp only[evT,ae,af]at ev;obtain⟨⟨x,δ1⟩,ea,⟨y',δ2⟩,eb,k,ek,ev⟩:=ev;dsimp only at eb ek ev;have npE:∀{A:Prop},((np a&&np b&&np e)=true->A)->np (.chn o1 o2 a b e)=true->A:=λf z=>f z;refine Ec na nb ne ok ea eb ek (λH2 F2 st sm ok2 k0=>?_) λk1=>?_
 .rw[k0,if_neg aq]at ev;cases ev;exact⟨false,rfl,post H2 F2 st (npE λz=>sm ((aa _ _).mp z).1) ok2⟩
 .rw[k1,if_pos rfl]at ev;simp only[af]at ev;obtain⟨⟨z',δ3⟩,ee,k2,ek2,e9⟩:=ev;cases e9;exact⟨z',_,_,ee,ek2,λH3 F3 st sm ok3=>⟨_,rfl,post H3 F3 st (npE sm) ok3⟩⟩
end
end PP
end
section
namespace PP
open PySem L2 PyProof.Rows
variable[Tbs]
section
variable{X:Cx}{cx:Cl}
def GdK(w:bD)(K:PySem.W.Frag)(a:av)(D:List (Str×Int)):Prop :=
 KTD.tabLook KTD.flatLooks (λb=>K.lookup b) a (D.map λp=>(p.1,jL p.2))=true/\(D.map (·.1)).Nodup/\KTD.hashesOf (λb=>K.lookup b) a=D.map λp=>hashStr w p.1
def xl{pins:List (av×Obj)}{σ:L2.St}{H:Hp}{s:au}{a:av}{D:List (Str×Int)}(g:GdK X.w X.K a D)(I:Inv X pins σ H s):StrTab X.prog X.w s.heap a ((D.map λp=>(p.1,jL p.2)).map λp=>(jK p.1,p.2)) :=
 KTD.strTab_of_look X.prog X.w I.kIn g.1 (by rw[jS];exact g.2.1) (g.2.2.trans (by rw[jS];rfl))
def oK:∀{D:List (Str×Int)},PySem.Spec.lookup (.str x) ((D.map λp=>(p.1,jL p.2)).map λp=>(jK p.1,p.2))=(D.lookup x).map jL
 |[]=>rfl
 |(k,i)::D=>by
  have ih:=oK (x:=x) (D:=D);rw[aw,aw,br];unfold PySem.Spec.lookup;have es:EH (jK k) (jK x)=(k==x):=by unfold EH;rfl
  show(if EH (jK k) (jK x)=true then some (jL i)else _)=_;rw[es];by_cases h:x=k
  .subst h;rw[if_pos (beq_self_eq_true x),beq_self_eq_true x];rfl
  .rw[if_neg (λz=>h (eq_of_beq z).symm),show(x==k)=false from beq_eq_false_iff_ne.mpr h];exact ih
def CM{a:av}{D:List (Str×Int)}(g:GdK X.w X.K a D):OpR X (compareOp .In) (λx y H Q=>∃t,x=.str t/\y=.ref a/\Q (.bl (D.lookup t).isSome) H):=by
 intro pins s σ H x y v u Q I rx ry h;obtain⟨t,rfl,rfl,q⟩:=h;obtain⟨tk,rfl⟩:=rx;cases ry;refine in_strTab (xl g I) ⟨.bl _,H,I.kept (h':=s.heap) (t':=s.toks+1) λb o e=>e,rfl,?_⟩;rw[oK,Av];exact q
def yA{a:av}{D:List (Str×Int)}(g:GdK X.w X.K a D):OpR X (compareOp .NotIn) (λx y H Q=>∃t,x=.str t/\y=.ref a/\Q (.bl (!(D.lookup t).isSome)) H):=by
 intro pins s σ H x y v u Q I rx ry h;obtain⟨t,rfl,rfl,q⟩:=h;obtain⟨tk,rfl⟩:=rx;cases ry;refine notin_strTab (xl g I) ⟨.bl _,H,I.kept (h':=s.heap) (t':=s.toks+1) λb o e=>e,rfl,?_⟩;rw[oK,Av];exact q
def Mp(a:av)(D:List (Str×Int))(ty:TE):TE:=λσ H Q=>ty σ H λy H1=>∃t i,y=.str t/\D.lookup t=some i/\Q (.int i) H1
def Kf{a:av}{D:List (Str×Int)}{n:Str}{p pos:Pos}{y:aE}{ty:TE}(g:GdK X.w X.K a D)(hg:Gl X n)(hm:X.mg n=some (.ref a))(hd:(n==("__debug__":Str))=false)(hy:PE X y ty)
 (hs:∀t tk,subscripted y false (.ref a) (.str t tk)=operate [.ref a,.str t tk] (getItem (.ref a) (.str t tk))):PE X (.Subscript (.Name n p) y pos) (Mp a D ty):=by
 intro pins s σ H Q I h;refine xJ (thn (oG (v:=.ref a) hg hm rfl hd pins s σ H (λv H1=>v=.ref a/\Mp a D ty σ H1 Q) I ⟨rfl,h⟩) λu s1 z=>?_);obtain⟨v,H1,I1,rv,rfl,h⟩:=z;cases rv;refine thn (hy pins s1 σ H1 _ I1 h) λw s2 z=>?_;obtain⟨y',H2,I2,ry,t,i,rfl,el,q⟩:=z;obtain⟨tk,rfl⟩:=ry;refine item_strTab (xl g I2) (dv:=.int i) (by rw[oK,el];rfl) (λv hv=>?_) (hs t tk) (λr=>rfl);obtain⟨t',rfl⟩:=hv.int_inv;exact⟨.int i,H2,I2.kept (h':=s2.heap) (t':=s2.toks+1) λb o e=>e,⟨_,rfl⟩,q⟩
def Fy(g:GdK X.w X.K a l)(hg:Gl X n)(hm:X.mg n=some (.ref a))(hd:(n==("__debug__":Str))=false)
 (ho:jf (if ng then .notin else .isin) o=true)(ne:(!bp e)=true)(hy:PE X y (tE X.K cx e)):PE X (.Compare y [o] [.Name n p] pos) (tE X.K cx (.gin ng n l e)):=by
 have op:OpR X (compareOp o) (λx y H Q=>∃t,x=.str t/\y=.ref a/\Q (.bl ((l.lookup t).isSome != ng)) H):=by
  cases ng with
  |false =>
   cases o<;>first|(exact absurd ho aq)|skip
   exact OpR.imp (CM g) λx y H Q⟨t,e1,e2,q⟩=>⟨t,e1,e2,by simpa using q⟩
  |true =>
   cases o<;>first|(exact absurd ho aq)|skip
   exact OpR.imp (yA g) λx y H Q⟨t,e1,e2,q⟩=>⟨t,e1,e2,by simpa using q⟩
 refine PE.imp (yw op hy (oG (v:=.ref a) hg hm rfl hd) rfl) λσ H Q h=>?_;obtain⟨G,F,δ,d,δ',ok,ev,post⟩:=h;simp only[evE,ae,af]at ev;obtain⟨⟨x,δ1⟩,ea,ev⟩:=ev
 cases x with
 |str t =>
  cases ev
  exact⟨G,F,δ,_,_,ok,ea,λv H1 F1 st sm ok1 r=>⟨t,r.b.str,rfl,post _ H1 F1 st sm ok1 (eN (iy _))⟩⟩
 |_=>cases ev
def BF(g:GdK X.w X.K a l)(hg:Gl X n)(hm:X.mg n=some (.ref a))(hd:(n==("__debug__":Str))=false)
 (ho:jf (if ng then .notin else .isin) o=true)(ne:(!bp e)=true)(hy:PE X y (tE X.K cx e)):PT X (.Compare y [o] [.Name n p] pos) (tT X.K cx (.gin ng n l e)):=by
 have op:OpR X (compareOp o) (λx y H Q=>∃t,x=.str t/\y=.ref a/\Q (.bl ((l.lookup t).isSome != ng)) H):=by
  cases ng with
  |false =>
   cases o<;>first|(exact absurd ho aq)|skip
   exact OpR.imp (CM g) λx y H Q⟨t,e1,e2,q⟩=>⟨t,e1,e2,by simpa using q⟩
  |true =>
   cases o<;>first|(exact absurd ho aq)|skip
   exact OpR.imp (yA g) λx y H Q⟨t,e1,e2,q⟩=>⟨t,e1,e2,by simpa using q⟩
 refine PT.imp (yq op hy (oG (v:=.ref a) hg hm rfl hd) rfl) λσ H Q h=>?_;obtain⟨G,F,δ,d,δ',ok,ev,post⟩:=h;simp only[evT,ae,af]at ev;obtain⟨⟨x,δ1⟩,ea,ev⟩:=ev
 cases x with
 |str t =>
  cases ev
  exact⟨G,F,δ,_,_,ok,ea,λv H1 F1 st sm ok1 r=>⟨t,r.b.str,rfl,_,rfl,post H1 F1 st sm ok1⟩⟩
 |_=>cases ev
def Fx(g:GdK X.w X.K a l)(hg:Gl X n)(hm:X.mg n=some (.ref a))(hd:(n==("__debug__":Str))=false)(ne:(!bp e)=true)
 (hy:PE X y (tE X.K cx e))(hs:∀t tk,subscripted y false (.ref a) (.str t tk)=operate [.ref a,.str t tk] (getItem (.ref a) (.str t tk))):PE X (.Subscript (.Name n p) y pos) (tE X.K cx (.gix n l e)):=by
 refine PE.imp (Kf g hg hm hd hy hs) λσ H Q h=>?_;obtain⟨G,F,δ,d,δ',ok,ev,post⟩:=h;simp only[evE,ae,af]at ev;obtain⟨⟨x,δ1⟩,ea,ev⟩:=ev
 cases x with
 |str t =>
  rw[aj]at ev;obtain⟨i,el,e9⟩:=ev;cases e9
  exact⟨G,F,δ,_,_,ok,ea,λv H1 F1 st sm ok1 r=>⟨t,i,r.b.str,el,post _ H1 F1 st sm ok1 (eN (cC _))⟩⟩
 |_=>cases ev
end
def spO(K:PySem.W.Frag)(f:List D->Option D):Sp:=λvs H Q _=>∃F ds zs,FD F H/\TF F/\lG H/\aH K H F ds vs/\f ds=some zs/\∀a v H',Sim H H'->lG H'->H a=none->Hand K H' (λb=>F b\/b=a) a zs v->Q v H'
structure Cok(X:Cx)(c:Ck)(cx:Cl)(k:Nat):Prop where
 hN:X.N=c.N
 nd:c.N.Nodup
 vis:∀x,Vis c.sc x->Vis X.env.scope x
 gl:∀x,c.sc.names.lookup x=some .globalImplicit->Gl X x
 st:∀x,L2.Loc c.sc x->L2.Loc X.env.scope x/\(X.fn x=true\/X.env.scope.names.lookup x=some .local)
 kc:∀x,(c.sc.names.lookup x=some .cell\/c.sc.names.lookup x=some .free)->X.env.kindOf x=some .cell\/X.env.kindOf x=some .free
 calm:X.calm=true
 xe:X.xe=λ_ _=>False
 room:jO k X.A
 fns:∀(f:Nat)(x:Str)(ps:List Str),c.fns[f]?=some (x,ps)->∃a fd,X.mg x=some (.ref a)/\PySem.W.keepIn X.K (.ref a)=true/\Binds X.K fd ps []/\gD X.prog X.w X.K X.mg X.base CX0 k a fd ps (spF X.K (cx.call f))
 fnO:∀(f:Nat)(x:Str)(ps:List Str),c.fns[f]?=some (x,ps)->∃a fd,X.mg x=some (.ref a)/\PySem.W.keepIn X.K (.ref a)=true/\Binds X.K fd ps []/\gD X.prog X.w X.K X.mg X.base CX0 k a fd ps (spO X.K (cx.call (f+sH)))
 fnD:∀(f:Nat)(x:Str)(ps:List Str),c.fns[f]?=some (x,ps)->f∈Tbs.dfs->∃a fd,X.mg x=some (.ref a)/\PySem.W.keepIn X.K (.ref a)=true/\Binds X.K fd ps [.none]/\gD X.prog X.w X.K X.mg X.base CX0 k a fd ps (spF X.K (cx.call f))
 blt:∀x,x∈jg->X.mg x=none
 glob:∀(g:Nat)(x:Str)(d:D),c.gn[g]?=some x->cx.gl[g]?=some d->∃u v,X.mg x=some u/\RelV v u/\∀H F,Rel X.K H F d v
 gsome:∀(g:Nat)(x:Str),c.gn[g]?=some x->∃d,cx.gl[g]?=some d
 gds:∀(n:Str)(l:List (Str×Int)),Tbs.gds.lookup n=some l->∃a,X.mg n=some (.ref a)/\GdK X.w X.K a l
 pos:k=0->∀f ds,cx.call f ds=none
def Bm(h:zu sc x=true):Vis sc x:=by
 unfold zu at h;split at h
 .exact .inl ‹_›
 .exact .inr (.inl ‹_›)
 .exact .inr (.inr ‹_›)
 .cases h
def Dm(h:KL sc x=true):L2.Loc sc x:=by
 unfold KL at h;split at h
 .exact .inl ‹_›
 .exact .inr ‹_›
 .cases h
def Le(h:glB sc x=true):sc.names.lookup x=some .globalImplicit:=by
 unfold glB at h;split at h
 .assumption
 .cases h
def yG(h:Dc x=true):(x==("__debug__":Str))=false/\(x==("__classdict__":Str))=false/\x≠("__name__":Str):=by
 unfold Dc at h;rw[aa,aa]at h;refine⟨by simpa using h.1.1,by simpa using h.1.2,?_⟩;have:=h.2;intro z;subst z
 revert this
 decide
section
variable{X:Cx}{c:Ck}{cx:Cl}{k:Nat}
def Cok.name(C:Cok X c cx k)(h:dM c i x=true):X.N[i]?=some x/\Vis X.env.scope x/\(x==("__debug__":Str))=false/\(x==("__classdict__":Str))=false:=by
 unfold dM at h;rw[aa,aa]at h;obtain⟨⟨h1,h2⟩,h3⟩:=h;obtain⟨n1,n2,n3⟩:=yG h3;exact⟨by rw[C.hN];exact of_decide_eq_true h1,C.vis x (Bm h2),n1,n2⟩
def Cok.to(C:Cok X c cx k)(h:fU c i x=true):X.N[i]?=some x/\L2.Loc X.env.scope x/\(X.fn x=true\/X.env.scope.names.lookup x=some .local):=by
 unfold fU at h;rw[aa,aa]at h;obtain⟨⟨h1,h2⟩,h3⟩:=h;obtain⟨s1,s2⟩:=C.st x (Dm h2);exact⟨by rw[C.hN];exact of_decide_eq_true h1,s1,s2⟩
def Cok.global(C:Cok X c cx k)(h:dm c x=true):Gl X x/\(x==("__debug__":Str))=false/\x≠("__name__":Str):=by
 unfold dm at h;rw[aa]at h;obtain⟨n1,n2,n3⟩:=yG h.2;exact⟨C.gl x (Le h.1),n1,n3⟩
def Cok.units(C:Cok X c cx k):X.A.units+200<cLine:=by have:=C.room.un;lia
def Cok.nd'(C:Cok X c cx k):X.N.Nodup:=by rw[C.hN];exact C.nd
def pN:List Nat->TGs
 |[]=>Lf
 |i::is=>yP (pO i) (pN is)
def Hd(K:PySem.W.Frag)(n:Nat)(t:TGs):TG:=λv σ H Q=>∃a xs,v=.ref a/\(SqT K H a xs\/SqL K H a xs)/\xs.length=n/\t xs σ H Q
def mI{prog:aQ}{w:bD}{A:bE}{E:ai->au->Prop}{s:au}{env:Env}{elts:List aE}{x1}{pos:Pos}{t:av}{items:Array ai}{Q:Unit->au->Prop}(hh:A.handled=none)(ht:s.heap.IsList t items)
 (hn:(assignEach elts env).length=items.size)(hstar:(assignEach elts env).findIdx? (·.1)=none)
 (h:∀h',Heap.ExtBut s.heap.objs.size s.heap h'->wpAny (model prog w) A (assignInOrder ((assignEach elts env).map (·.2)) items.toList) Q E {s with heap:=h'}) :
 wpAny (model prog w) A (assign (.Tuple elts x1 pos) env (.ref t)) Q E s:=by
 rw[assign_Tuple];refine aI (kj ?_);unfold unpack;rw[hn,hstar];exact aI (kl (PySem.W.kun_itemsOf hh ht h))
def wH{X:Cx}{es:List aE}{k:Nat}{t:TGs}{n:Nat}{pos:Pos}(hc:X.calm=true)(h:PGs X es t)
 (hn:(assignEach es X.env).length=n:=by rfl)(hst:(assignEach es X.env).findIdx? (·.1)=none:=by rfl):PG X (.Tuple es k pos) (Hd X.K n t):=by
 intro pins s σ H v u Q I r hw;obtain⟨a,xs,e1,hq,hl,hw⟩:=hw;rcases hq with hq|hq
 .exact Ka hc h hn hst pins s σ H v u Q I r ⟨a,xs,e1,hq,hl,hw⟩
 .subst e1;cases r;obtain⟨its,rv,pl,hz⟩:=I.list hq;refine mI (I.ok.hd hc) pl.isList (by simp[hn,<- hl,rv.length]) hst λh' hx=>?_;have I1:Inv X pins σ H {s with heap:=h'}:=I.kept (t':=s.toks) λb o e=>hx b o (aU (aJ e)) e;exact h pins _ σ H xs _ Q I1 (by simpa using rv) hw
def gTg(K:PySem.W.Frag):Tg->TG
 |.nm i=>pO i
 |.tp is=>Hd K is.length (pN is)
 |.pr i is=>Hd K 2 (yP (pO i) (yP (Hd K is.length (pN is)) Lf))
def mY(C:Cok X c cx k):∀(is:List Nat)(es:List aE),Hu c is es=true->PGs X es (pN is)/\(assignEach es X.env).length=is.length/\(assignEach es X.env).findIdx? (·.1)=none
 |[],es,h=>by
  obtain⟨rfl,_⟩:=di h
  exact⟨yu,rfl,rfl⟩
 |i::is,es,h=>by
  obtain⟨e,r,rfl,hh⟩:=cF h;rw[aa]at hh;obtain⟨x,p,rfl,h1⟩:=ba hh.1;obtain⟨q1,q2,q3⟩:=mY C is r hh.2;obtain⟨n1,n2,n3⟩:=C.to h1;refine⟨pG (sG C.nd' n1 n2 n3) q1 rfl,?_,?_⟩
  .show(assignEach r X.env).length+1=_;rw[q2];rfl
  .show List.findIdx? _ ((false,_)::assignEach r X.env)=none;rw[mP,q3];rfl
def mV(C:Cok X c cx k)(h:qt c tg t=true):PG X t (gTg X.K tg):=by
 cases tg with
 |nm i =>
  obtain⟨_,_,rfl,h1⟩:=ba h;obtain⟨n1,n2,n3⟩:=C.to h1
  exact sG C.nd' n1 n2 n3
 |tp is =>
  obtain⟨_,_,_,rfl,h1⟩:=dJ h;obtain⟨q1,q2,q3⟩:=mY C _ _ h1
  exact wH C.calm q1 q2 q3
 |pr i is =>
  obtain⟨_,_,_,rfl,h1⟩:=dJ h;obtain⟨_,_,rfl,h2⟩:=fS h1;rw[aa]at h2;obtain⟨_,_,rfl,h3⟩:=ba h2.1;obtain⟨_,_,_,rfl,h4⟩:=dJ h2.2;obtain⟨n1,n2,n3⟩:=C.to h3;obtain⟨q1,q2,q3⟩:=mY C _ _ h4;exact wH C.calm (pG (sG C.nd' n1 n2 n3) (pG (wH C.calm q1 q2 q3) yu rfl) rfl) rfl rfl
def take_set{α:Type}(l:List α)(i n:Nat)(x:α)(h:n<=i):(l.set i x).take n=l.take n:=by
 apply List.ext_getElem?;intro j;by_cases hj:j<n
 .rw[dG hj,dG hj,aM ∅]
 .rw[gE (by rw[bA];lia),gE (by rw[bA];lia)]
def lY{K:PySem.W.Frag}{G:Gh}{H:Hp}{F:av->Prop}{Q:L2.St->Hp->Prop}:∀(is:List Nat)(ds:List D)(xs:List V)(σ:L2.St)(δ:Loc),Ok K G F σ H δ->aH K H F ds xs->is.length=ds.length->is.all (· < δ.length)=true ->
 (∀σ',Ok K G F σ' H ((is.zip ds).foldl (λδ p=>δ.set p.1 (.val p.2)) δ)->(∀n,(is.all λi=>decide (n<=i))=true->σ'.take n=σ.take n)->Q σ' H)->pN is xs σ H Q
 |[],ds,xs,σ,δ,ok,r,hl,_,q=>by
  have:ds=[]:=fZ.mp hl.symm;subst this;unfold aH at r
  exact⟨r,q σ ok λ_ _=>rfl⟩
 |i::is,[],xs,σ,δ,ok,r,hl,_,q=>by simp at hl
 |i::is,d::ds,xs,σ,δ,ok,r,hl,ha,q=>by
  unfold aH at r;obtain⟨y,ys,rfl,r1,r2⟩:=r;rw[cj,aa]at ha;refine⟨y,ys,rfl,?_⟩;refine lY is ds ys (σ.set i (some y)) (δ.set i (.val d)) (ok.set (of_decide_eq_true ha.1) r1) r2 (by simpa using hl) ?_ λσ' o t=>q σ' o λn hn=>?_
  .rw[bb];exact ha.2
  .rw[cj,aa]at hn;rw[t n hn.2,take_set _ _ _ _ (of_decide_eq_true hn.1)]
def ky{K:PySem.W.Frag}{G:Gh}{H:Hp}{F:av->Prop}{σ:L2.St}{δ δ':Loc}{tg:Tg}{d:D}{v:V}{Q:L2.St->Hp->Prop}(ok:Ok K G F σ H δ)(r:Rel K H F d v)(e:dA δ tg d=some δ')(q:∀σ',Ok K G F σ' H δ'->(∀n,wj n tg=true->σ'.take n=σ.take n)->Q σ' H):gTg K tg v σ H Q:=by
 unfold dA at e;split at e
 .split at e
  .cases e;exact q _ (ok.set ‹_› r) λn hn=>take_set _ _ _ _ (of_decide_eq_true hn)
  .cases e
 .split at e
  .rename_i hh;cases e;unfold Rel at r;obtain⟨a,xs,e1,h1,h2⟩:=r;exact⟨a,xs,e1,.inl h1,by rw[h2.length];exact hh.1.symm,lY _ _ _ _ _ ok h2 hh.1 hh.2 q⟩
  .cases e
 .split at e
  .rename_i hh;cases e;unfold Rel at r;obtain⟨a,xs,e1,h1,h2⟩:=r;exact⟨a,xs,e1,.inr h1.b.sq,by rw[h2.length];exact hh.1.symm,lY _ _ _ _ _ ok h2 hh.1 hh.2 q⟩
  .cases e
 .split at e
  .rename_i hh;cases e;unfold Rel at r;obtain⟨a,xs,e1,h1,h2⟩:=r;unfold aH at h2;obtain⟨y,ys,rfl,r1,r2⟩:=h2;unfold aH at r2;obtain⟨z,zs,rfl,r3,r4⟩:=r2;unfold aH at r4;subst r4;unfold Rel at r3;obtain⟨b,ws,e2,h3,h4⟩:=r3;refine⟨a,[y,z],e1,.inl h1,rfl,y,[z],rfl,z,[],rfl,b,ws,e2,.inl h3,by rw[h4.length];exact hh.2.1.symm,?_⟩;refine lY _ _ _ _ _ (ok.set hh.1 r1) h4 hh.2.1 (by rw[bb];exact hh.2.2) λσ' o t=>⟨rfl,q σ' o λn hn=>?_⟩;have hn':=(aa _ _).mp (show(decide (n<=_)&&_)=true from hn);rw[t n hn'.2,take_set _ _ _ _ (of_decide_eq_true hn'.1)]
  .cases e
 .cases e
def Ok.ext{K:PySem.W.Frag}{G:Gh}{H:Hp}{F:av->Prop}{σ:L2.St}{δ:Loc}(h:Ok K G F σ H δ)(tl:L2.St):Ok K G F (σ++tl) H (δ++aC tl.length .no):=by
 have low:∀(j:Nat)(s:Sl),(δ++aC tl.length .no)[j]?=some s->s=.no\/(δ[j]?=some s/\(σ++tl)[j]?=σ[j]?):=λj s e=>by
  by_cases hj:j<δ.length
  .rw[cz hj]at e;exact .inr ⟨e,cz (by rw[<- h.len];exact hj)⟩
  .rw[fk ∅,gb]at e;split at e
   .cases e;exact .inl rfl
   .cases e
 refine⟨h.same,h.fd,h.rf,h.rl,h.tf,h.tabs,by rw[az,az,cS,h.len],λj s e=>?_,λi j s t a e1 e2 o1 o2 p1 p2=>?_⟩
 .rcases low j s e with rfl|⟨e1,e2⟩
  .trivial
  .rw[e2];exact h.sl j s e1
 .rcases low i _ e1 with z|⟨a1,a2⟩
  .subst z;cases o1
  .rcases low j _ e2 with z|⟨b1,b2⟩
   .subst z;cases o2
   .rw[a2]at p1;rw[b2]at p2;exact h.apart i j s t a a1 b1 o1 o2 p1 p2
def Ok.cut{K:PySem.W.Frag}{G:Gh}{H:Hp}{F:av->Prop}{σ:L2.St}{δ:Loc}(h:Ok K G F σ H δ)(n:Nat):Ok K G F (σ.take n) H (δ.take n):=by
 have low:∀(j:Nat)(s:Sl),(δ.take n)[j]?=some s->δ[j]?=some s/\(σ.take n)[j]?=σ[j]? := λj s e=>by
  by_cases hj:j<n
  .rw[dG hj]at e;exact⟨e,dG hj⟩
  .rw[gE (by rw[bA];lia)]at e;cases e
 refine⟨h.same,h.fd,h.rf,h.rl,h.tf,h.tabs,by rw[bA,bA,h.len],λj s e=>?_,λi j s t a e1 e2 o1 o2 p1 p2=>?_⟩
 .obtain⟨e1,e2⟩:=low j s e;rw[e2];exact h.sl j s e1
 .obtain⟨a1,a2⟩:=low i _ e1;obtain⟨b1,b2⟩:=low j _ e2;rw[a2]at p1;rw[b2]at p2;exact h.apart i j s t a a1 b1 o1 o2 p1 p2
def Gh.and(G:Gh)(D:av):Gh:=⟨G.h,λb=>G.R b\/b=D⟩
def Ok.free{K:PySem.W.Frag}{G:Gh}{H:Hp}{F:av->Prop}{σ:L2.St}{δ:Loc}{p:av}(h:Ok K G F σ H δ)(hp:H p=none):G.free p:=by
 refine⟨?_,λz=>?_⟩
 .cases e:G.h p with
  |none=>rfl
  |some o =>
   by_cases t:NT o
   .rw[h.same.nt p o t e]at hp;cases hp
   .cases o<;>first|(exact absurd trivial t)|skip
    obtain⟨qs,z⟩:=h.same.tb p _ e;rw[z]at hp;cases hp
 .obtain⟨o,e,_⟩:=h.rl p z;rw[hp]at e;cases e
def Ok.enterO{K:PySem.W.Frag}{G:Gh}{H:Hp}{F:av->Prop}{σ:L2.St}{δ:Loc}{p:av}(h:Ok K G F σ H δ)(hp:H p=none){u:HO}(hu:Mo u):Ok K (G.and p) (λb=>F b\/b=p) σ (upd H p u) δ/\Step G F H (λb=>F b\/b=p) (upd H p u):=by
 have nF:¬F p:=vj h.fd hp;have sm:=cH hp u;have st:∀G':Gh,Step G' F H (λb=>F b\/b=p) (upd H p u):=λG'=>⟨λb o _ e _=>sm b o e,λb z=>by rcases z with z|z;exact .inl z;exact .inr (by rw[z];exact hp),λb o _ f e=>⟨.inl f,sm b o e⟩,λb ps e=>⟨ps,sm b _ e⟩⟩;refine⟨⟨h.same.trans (.of sm),λb z=>?_,λb z=>?_,λb z=>?_,λt ht=>.inl (h.tf t ht),h.tabs.keep λb o _ e=>sm b o e,h.len,λj s e=>?_,h.apart⟩,st G⟩
 .rcases z with z|z
  .exact h.fd.same sm b z
  .rw[z];exact⟨u,bK,.inl hu⟩
 .rcases z with z|z
  .exact .inl (h.rf b z)
  .exact .inr z
 .rcases z with z|z
  .exact yg h.rl sm b z
  .rw[z];exact⟨u,bK,hu⟩
 .exact eV.stay0 h.fd (st G) (λa v _ f1 _ f3=>⟨.inl f1,sm _ _ f3⟩) (eV.free (G:=G) (G':=G.and p) (λa f1 f2=>⟨f2.1,λz=>Or.elim z f2.2 λw=>nF (w▸f1)⟩) (h.sl j s e))
def Ok.enter{K:PySem.W.Frag}{G:Gh}{H:Hp}{F:av->Prop}{σ:L2.St}{δ:Loc}{p:av}(h:Ok K G F σ H δ)(hp:H p=none)(xs:List V):Ok K (G.and p) (λb=>F b\/b=p) σ (upd H p (.lst xs)) δ/\Step G F H (λb=>F b\/b=p) (upd H p (.lst xs)):=h.enterO hp trivial
def Ok.pokeO{K:PySem.W.Frag}{G:Gh}{H:Hp}{F:av->Prop}{σ:L2.St}{δ:Loc}{p:av}{x u:HO}(h:Ok K (G.and p) F σ H δ)(hg:G.free p)(hP:H p=some x)(hx:Mo x)(hu:Mo u):Ok K (G.and p) F σ (upd H p u) δ:=by
 have hF:F p:=h.rf p (.inr rfl);have nt:=hx.nt;have st0:Step g0 F H F (upd H p u):=⟨λb o _ e n=>by rw[bF (λz:b=p=>n (by rw[z];exact hF))];exact e,λb z=>.inl z,λ_ _ r _ _=>r.elim,λb ps e=>⟨ps,by rw[bF (λw:b=p=>by rw[w,hP]at e;cases e;exact nt)];exact e⟩⟩;refine⟨⟨λb o t e=>?_,λb ps e=>?_⟩,λb z=>?_,h.rf,λb z=>?_,h.tf,h.tabs.keep λb o n e=>?_,h.len,λj s e=>?_,h.apart⟩
 .rw[bF (λz:b=p=>by have e':G.h b=some o:=e;rw[z,hg.1]at e';cases e')];exact h.same.nt b o t e
 .rw[bF (λz:b=p=>by have e':G.h b=some _:=e;rw[z,hg.1]at e';cases e')];exact h.same.tb b ps e
 .by_cases hb:b=p
  .rw[hb];exact⟨u,bK,.inl hu⟩
  .rw[bF hb];exact h.fd b z
 .by_cases hb:b=p
  .rw[hb];exact⟨u,bK,hu⟩
  .rw[bF hb];exact h.rl b z
 .rw[bF (λw:b=p=>by rw[w,hP]at e;cases e;exact n hx)];exact e
 .exact eV.stay0 h.fd st0 (λa v _ f1 f2 f3=>⟨f1,by rw[bF (λz:a=p=>f2.2 (.inr z))];exact f3⟩) (h.sl j s e)
def Ok.poke{K:PySem.W.Frag}{G:Gh}{H:Hp}{F:av->Prop}{σ:L2.St}{δ:Loc}{p:av}{zs:List V}(h:Ok K (G.and p) F σ H δ)(hg:G.free p)(hP:H p=some (.lst zs))(xs:List V):Ok K (G.and p) F σ (upd H p (.lst xs)) δ:=h.pokeO hg hP trivial trivial
def Ok.leave{K:PySem.W.Frag}{G:Gh}{H:Hp}{F:av->Prop}{σ:L2.St}{δ:Loc}{p:av}(h:Ok K (G.and p) F σ H δ)(hg:G.free p):Ok K G (λb=>F b/\b≠p) σ H δ:=by
 have hs:∀b,(F b/\b≠p)->F b:=λb z=>z.1
 have tf':TF λb=>F b/\b≠p:=λt ht=>⟨h.tf t ht,λw=>by
  obtain⟨ps,e,_⟩:=h.tabs t ht;obtain⟨o,hP,m⟩:=h.rl p (.inr rfl);rw[w,hP]at e;cases e;exact m⟩
 refine⟨h.same,λb z=>h.fd b z.1,λb z=>⟨h.rf b (.inl z),λw=>hg.2 (by rw[<- w];exact z)⟩,λb z=>h.rl b (.inl z),tf',h.tabs,h.len,λj s e=>?_,h.apart⟩;refine((h.sl j s e).less h.fd hs λa z za=>?_).free (G:=G.and p) (G':=G) λb _ z=>⟨z.1,λw=>z.2 (Or.inl w)⟩;obtain⟨a',u,d,e1,f1,f2,_⟩:=eV.ow (h.sl j s e) z;rw[za]at e1;cases e1;exact⟨f1,λw=>f2.2 (.inr w)⟩
def Ok.keep{K:PySem.W.Frag}{G:Gh}{H:Hp}{F:av->Prop}{σ:L2.St}{δ:Loc}{p:av}(h:Ok K (G.and p) F σ H δ):Ok K G F σ H δ :=
 ⟨h.same,h.fd,λb z=>h.rf b (.inl z),λb z=>h.rl b (.inl z),h.tf,h.tabs,h.len,λj s e=>(h.sl j s e).free (G:=G.and p) (G':=G) λb _ z=>⟨z.1,λw=>z.2 (Or.inl w)⟩,h.apart⟩
end
section
variable{K:PySem.W.Frag}{cx:Cl}
def nR(cx:Cl)(k:Nat)(tg:Tg)(ifs:Eo)(elt:E):D->Loc->Option (Option D×Loc):=λx δ0=>do
 let δ2 <- dA (δ0++aC k .no) tg x
 let(b,δ3) <- evG cx ifs δ2
 if b then do
  let(y,δ4) <- evE cx elt δ3
  return (some y,δ4.take δ0.length)
 else return (none,δ3.take δ0.length)
def Hr(ev:evE cx (.comp k tg src ifs elt) δ=some (d,δ')) :
 ∃ds δ1 ys,evI cx src δ=some (ds,δ1)/\mF (nR cx k tg ifs elt) ds δ1=some (ys,δ')/\ys.length<=sizeLine/\d=.lst ys:=by
 simp only[evE,ae,af]at ev;obtain⟨⟨ds,δ1⟩,ea,⟨ys,δ2⟩,eb,ev⟩:=ev;split at ev
 .cases ev;exact⟨ds,δ1,ys,ea,eb,‹_›,rfl⟩
 .cases ev
def rE(h:nR cx k tg ifs elt x δ0=some (o,δ1)):∃δ2 b δ3,dA (δ0++aC k .no) tg x=some δ2/\evG cx ifs δ2=some (b,δ3) /\
 ((b=true/\∃y δ4,evE cx elt δ3=some (y,δ4)/\o=some y/\δ1=δ4.take δ0.length)\/(b=false/\o=none/\δ1=δ3.take δ0.length)):=by
 unfold nR at h;simp only[ae,af]at h;obtain⟨δ2,e1,⟨b,δ3⟩,e2,h⟩:=h;refine⟨δ2,b,δ3,e1,e2,?_⟩
 cases b with
 |true =>
  simp only[if_true,af]at h;obtain⟨⟨y,δ4⟩,e3,h⟩:=h;cases h
  exact .inl ⟨rfl,y,δ4,e3,rfl,rfl⟩
 |false =>
  simp only[cK,if_false]at h;cases h;exact .inr ⟨rfl,rfl,rfl⟩
def xC(h:mF f (x::xs) δ=some (ys,δ')):∃o δ1 zs,f x δ=some (o,δ1)/\mF f xs δ1=some (zs,δ')/\ys=(match o with|some y=>y::zs|none=>zs):=by
 unfold mF at h;simp only[ae,af]at h;obtain⟨⟨o,δ1⟩,e1,⟨zs,δ2⟩,e2,h⟩:=h;cases h;exact⟨o,δ1,zs,e1,e2,rfl⟩
def Step.sub(h:Step G' F H F' H')(hs:∀b,G.R b->G'.R b):Step G F H F' H':=⟨h.keep,h.grow,λb o r=>h.res b o (hs b r),h.tb⟩
def pQ:∀(ps:List (Nat×D))(δ:Loc),(ps.foldl (λδ p=>δ.set p.1 (Sl.val p.2)) δ).length=δ.length:=by
 intro ps
 induction ps with
 |nil=>intro δ;rfl
 |cons a r ih=>intro δ;rw[ie,ih,bb]
def qO(es:dA δ tg d=some δ'):δ'.length=δ.length:=by
 unfold dA at es;split at es
 .split at es
  .cases es;rw[bb]
  .cases es
 .split at es
  .cases es;rw[pQ]
  .cases es
 .split at es
  .cases es;rw[pQ]
  .cases es
 .split at es
  .cases es;rw[pQ,bb]
  .cases es
 .cases es
def yH{P:List D->(av->Prop)->L2.St->Hp->Prop}(wk:Wk K G F1 H1 J ds)(hs:∀r F σ H,P r F σ H->Step G F1 H1 F H/\FD F H)(hm:∀r F σ H H3,P r F σ H->fD H H3->P r F σ H3)(h0:P ds F0 σ0 H0)
 (turn:∀d r F σ H x(N:L2.St->Hp->Prop),P (d::r) F σ H->Rel K H F d x->(∀F4 σ4 H4,P r F4 σ4 H4->N σ4 H4)->g x σ H λσ2 H2=>tt σ2 H2 λb H3=>if b=true then tb σ2 H3 N else N σ2 H3)
 (fin:∀F σ H,P [] F σ H->Q σ H):tLp J g tt tb σ0 H0 Q:=by
 refine⟨λi m σc Hc=>m=ds.length-i/\i<=ds.length/\∃F',P (ds.drop i) F' σc Hc,⟨ds.length,↥0,bP _,F0,h0⟩,?_⟩;rintro i m σc Hc ⟨rfl,hi,F',h⟩;obtain⟨st,fd⟩:=hs _ _ _ _ h;by_cases hlt:i<ds.length
 .obtain⟨go,yl⟩:=(wk F' Hc st fd i).1 ds[i] (aO hlt);refine .inr ⟨go,λx H3 hy=>?_⟩;obtain⟨sm,rx⟩:=yl x H3 hy;rw[bQ hlt]at h;exact turn _ _ _ _ _ x _ (hm _ _ _ _ _ h sm) rx λF4 σ4 H4 z=>⟨_,∅,rfl,hlt,F4,z⟩
 .obtain rfl:i=ds.length:=by lia
  rw[fu]at h;exact .inl ⟨(wk F' Hc st fd ds.length).2 rfl,fin _ _ _ h⟩
def Step.new{o:HO}(s:Step G F1 H1 F8 H8)(hp:H1 p=none):Step G F1 H1 F8 (upd H8 p o):=by
 refine⟨λb o t e nf=>?_,s.grow,λb o r f e=>?_,λb ps e=>?_⟩
 .rw[bF (λw:b=p=>by rw[w,hp]at e;cases e)];exact s.keep b o t e nf
 .obtain⟨a1,a2⟩:=s.res b o r f e;refine⟨a1,?_⟩;rw[bF (λw:b=p=>by rw[w,hp]at e;cases e)];exact a2
 .rw[bF (λw:b=p=>by rw[w,hp]at e;cases e)];exact s.tb b ps e
def Sim.new{o:HO}(s:Sim H1 H8)(hp:H1 p=none):Sim H1 (upd H8 p o):=by
 refine⟨λb o t e=>?_,λb ps e=>?_⟩
 .rw[bF (λw:b=p=>by rw[w,hp]at e;cases e)];exact s.nt b o t e
 .rw[bF (λw:b=p=>by rw[w,hp]at e;cases e)];exact s.tb b ps e
def xB(n:(!bp elt)=true)(hge:wj σ.length tg=true)
 (ok1:Ok K G F1 σ H1 δ1)(wk:Wk K G F1 H1 J ds)(hp:H1 p=none)(ev:mF (nR cx k tg ifs elt) ds δ1=some (ys,δ2))(hz:ys.length<=sizeLine)
 (q:∀σ' H2 F2 xs,Ok K (G.and p) F2 σ H2 δ2->H2 p=some (.lst xs)->aH K H2 F2 ys xs->Step G F1 H1 F2 H2->((npO ifs&&np elt)=true->Sim H1 H2)->Q σ' H2) :
 tLp J (gTg K tg) (tG K cx ifs) (uI p (tE K cx elt)) (σ++aC k none) (upd H1 p (.lst [])) Q:=by
 have hg:=ok1.free hp;obtain⟨ok2,st2⟩:=ok1.enter hp [];have hFs:∀b,G.R b->(G.and p).R b:=λb z=>.inl z
 refine yH (P:=λr F' σc Hc=>∃δi zs xs yi,(∃tl:L2.St,σc=σ++tl/\tl.length=k)/\Ok K (G.and p) F' σ Hc δi/\mF (nR cx k tg ifs elt) r δi=some (zs,δ2)/\yi++zs=ys/\Hc p=some (.lst xs)/\aH K Hc F' yi xs/\Step G F1 H1 F' Hc /\
  ((npO ifs&&np elt)=true->Sim H1 Hc)) wk (λr F σ H z=>by obtain⟨_,_,_,_,_,ok,_,_,_,_,st,_⟩:=z;exact⟨st,ok.fd⟩) (λr F σ H H3 z sm=>by obtain⟨a1,a2,a3,a4,a5,ok,a6,a7,a8,a9,st,s⟩:=z;exact⟨a1,a2,a3,a4,a5,ok.same' sm,a6,a7,sm _ _ a8,aH.step ok.fd (Step.of_same (G:=G) sm) _ _ a9,st.trans (.of_same sm),λq=>(s q).trans (.of sm)⟩) (F0:=λb=>F1 b\/b=p) ⟨δ1,ys,[],[],⟨_,rfl,↥0⟩,ok2,ev,rfl,bK,aH.nil,st2,λ_=>.of (cH hp _)⟩ ?_ ?_
 .rintro d r F' _ H3 x N ⟨δi,zs,xs,yi,⟨tl,rfl,htl⟩,ok,el,ey,eD,rl,st,sm⟩ rx hN;have hF:F' p:=ok.rf p (.inr rfl);obtain⟨o,δ5,zs',ef,el',ez⟩:=xC el;obtain⟨δ6,b,δ7,es,eg,alt⟩:=rE ef;have okx:Ok K (G.and p) F' (σ++tl) H3 (δi++aC k .no):=by rw[<- htl];exact ok.ext tl
  refine ky okx rx es λσ2 ok6 htake=>?_;have t2:σ2.take σ.length=σ:=by rw[htake _ hge,qd];rfl
  have l2:σ2.length=σ.length+k:=by
   have a1:=okx.len;have a2:=ok6.len;have e1:=qO es;have e2:(σ++tl).length=σ.length+k:=by rw[az,htl]
   lia
  have dl:δi.length=σ.length:=ok.len
  have tail:∃tl':L2.St,σ2=σ++tl'/\tl'.length=k:=by
   refine⟨σ2.drop σ.length,?_,by rw[aS];lia⟩
   conv=>lhs;rw[<- cD σ.length σ2,t2]
  refine⟨G.and p,F',δ6,b,δ7,ok6,eg,λH7 F7 st7 sm7 ok7=>?_⟩;have keepD:∀{F8:av->Prop}{H8:Hp},Step (G.and p) F' H3 F8 H8->H8 p=some (.lst xs):=λs8=>(s8.res p _ (.inr rfl) hF eD).2;rcases alt with⟨rfl,y,δ8,ee,rfl,rfl⟩|⟨rfl,rfl,rfl⟩
  .refine qm ?_;refine⟨G.and p,F7,δ7,y,δ8,ok7,ee,λu H8 F8 st8 sm8 ok8 r8=>?_⟩;have s78:=st7.trans st8;have eD8:=keepD s78;have ry:=dh n r8;have rl8:aH K H8 F8 yi xs:=aH.step ok.fd s78 yi xs rl;have hF8:F8 p:=ok8.rf p (.inr rfl);have pk:Step g0 F8 H8 F8 (upd H8 p (.lst (xs++[u]))):=⟨λb o _ e nf=>by rw[bF (λz:b=p=>nf (by rw[z];exact hF8))];exact e,λb z=>.inl z,λ_ _ r _ _=>r.elim,λb ps e=>⟨ps,by rw[bF (λw:b=p=>by rw[w,eD8]at e;cases e)];exact e⟩⟩;subst ez
   have hyl:yi.length<sizeLine:=by
    have:=congrArg jh ey;rw[az]at this;simp only[ag]at this
    lia
   refine⟨xs,eD8,by rw[rl8.length];exact hyl,hN F8 _ _ ⟨δ8.take δi.length,zs',xs++[u],yi++[y],tail,?_,el',by rw[cB];exact ey,bK,?_,?_,λz=>?_⟩⟩
   .have:=(ok8.poke hg eD8 (xs++[u])).cut δi.length;rw[dl,t2]at this;rw[dl];exact this
   .exact aH.step ok8.fd pk _ _ (rl8.append (aH.one ry))
   .exact(st.trans (s78.sub hFs)).new hp
   .have z':=z;rw[aa]at z';exact(((sm z).trans (sm7 z'.1)).trans (sm8 z'.2)).new hp
  .refine sS ?_;subst ez;refine hN F7 _ _ ⟨δ7.take δi.length,_,xs,yi,tail,?_,el',ey,keepD st7,aH.step ok.fd st7 yi xs rl,st.trans (st7.sub hFs),λz=>?_⟩
   .have:=ok7.cut δi.length;rw[dl,t2]at this;rw[dl];exact this
   .have z':=z;rw[aa]at z';exact(sm z).trans (sm7 z'.1)
 .rintro F' _ Hc ⟨δi,zs,xs,yi,_,ok,el,ey,eD,rl,st,sm⟩;cases el;rw[bt]at ey;subst ey;exact q _ Hc F' xs ok eD rl st sm
end
end PP
end
section
namespace PP
open PySem
section
variable(cx:Cl)
def wE(e:E)(δ:Loc)(Q:D->Loc->Prop):Prop:=∃d δ',evE cx e δ=some (d,δ')/\Q d δ'
def wT(e:E)(δ:Loc)(Q:Bool->Loc->Prop):Prop:=∃d δ',evT cx e δ=some (d,δ')/\Q d δ'
def wEs(e:Es)(δ:Loc)(Q:List D->Loc->Prop):Prop:=∃d δ',cT cx e δ=some (d,δ')/\Q d δ'
def wO(e:Eo)(δ:Loc)(Q:Option Int->Loc->Prop):Prop:=∃d δ',evO cx e δ=some (d,δ')/\Q d δ'
def wG(e:Eo)(δ:Loc)(Q:Bool->Loc->Prop):Prop:=∃d δ',evG cx e δ=some (d,δ')/\Q d δ'
def wI(e:It)(δ:Loc)(Q:List D->Loc->Prop):Prop:=∃d δ',evI cx e δ=some (d,δ')/\Q d δ'
def wS(s:S)(δ:Loc)(Q:Out->Prop):Prop:=∃o,evS cx s δ=some o/\Q o
def wSs(s:Ss)(δ:Loc)(Q:Out->Prop):Prop:=∃o,cW cx s δ=some o/\Q o
def wTg(δ:Loc)(tg:Tg)(d:D)(Q:Loc->Prop):Prop:=∃δ',dA δ tg d=some δ'/\Q δ'
def wOp(op:Op)(x y:D)(Q:D->Prop):Prop:=∃z,opD op x y=some z/\Q z
def zp(op:Cop)(x y:D)(Q:Bool->Prop):Prop:=∃z,gv op x y=some z/\Q z
def Jn(f:Blt)(ds:List D)(Q:D->Prop):Prop:=∃z,hZ f ds=some z/\Q z
def HZ(f:Nat)(ds:List D)(Q:D->Prop):Prop:=∃z,cx.call f ds=some z/\Q z
def Mg(δ:Loc)(i:Nat)(Q:D->Prop):Prop:=∃z,PP.get δ i=some z/\Q z
def wIx(x y:D)(Q:D->Prop):Prop:=∃z,ixD x y=some z/\Q z
def wSl(x:D)(lo hi:Option Int)(Q:D->Prop):Prop:=∃z,slD x lo hi=some z/\Q z
def wItems(x:D)(Q:List D->Prop):Prop:=∃z,items x=some z/\Q z
def Mk(k:Nat)(tg:Tg)(ifs:Eo)(elt:E):D->Loc->Option (Option D×Loc):=λx δ0=>do
 let δ2 <- dA (δ0++aC k .no) tg x
 let(b,δ3) <- evG cx ifs δ2
 if b then do
  let(y,δ4) <- evE cx elt δ3
  return (some y,δ4.take δ0.length)
 else return (none,δ3.take δ0.length)
def kQ(k:Nat)(tg:Tg)(ifs:Eo)(elt:E)(ds:List D)(δ:Loc)(Q:List D->Loc->Prop):Prop:=∃ys δ',mF (Mk cx k tg ifs elt) ds δ=some (ys,δ')/\Q ys δ'
def Np(tg:Tg)(body:Ss):D->Loc->Option Out:=λx δ0=>match dA δ0 tg x with
 |some δ2=>cW cx body δ2
 |none=>none
def qg(tg:Tg)(body:Ss)(ds:List D)(δ:Loc)(Q:Out->Prop):Prop:=∃o,forL (Np cx tg body) ds δ=some o/\Q o
def oQ(c:E)(body:Ss)(n:Nat)(δ:Loc)(Q:Out->Prop):Prop:=∃o,lr (λδ0=>evT cx c δ0) (λδ0=>cW cx body δ0) n δ=some o/\Q o
end
section
variable{α β γ:Type}{P P':α->Loc->Prop}{R R':α->Prop}{Q:β->Loc->Prop}{S:γ->Prop}{o:Option (α×Loc)}{u:Option α}{f:α×Loc->Option (β×Loc)}{g:α->Option (β×Loc)}{f':α×Loc->Option γ}{g':α->Option γ}{d:β}{r:γ}{δ:Loc}{c:Prop}[Decidable c]
def yb:(∃r,o.bind f'=some r/\S r)↔∃x δ1,o=some (x,δ1)/\∃r,f' (x,δ1)=some r/\S r:=by
 cases o with
 |none=>exact⟨λ⟨_,e,_⟩=>(by cases e),λ⟨_,_,e,_⟩=>(by cases e)⟩
 |some p=>exact⟨λh=>⟨p.1,p.2,rfl,h⟩,λ⟨_,_,e,h⟩=>by cases e;exact h⟩
def yqs:(∃r,u.bind g'=some r/\S r)↔∃x,u=some x/\∃r,g' x=some r/\S r:=by
 cases u with
 |none=>exact⟨λ⟨_,e,_⟩=>(by cases e),λ⟨_,e,_⟩=>(by cases e)⟩
 |some p=>exact⟨λh=>⟨p,rfl,h⟩,λ⟨_,e,h⟩=>by cases e;exact h⟩
def yr:(∃r',some r=some r'/\S r')↔S r:=⟨λ⟨_,e,h⟩=>(by cases e;exact h),λh=>⟨_,rfl,h⟩⟩
def yi:(∃r',(if c then some r else none)=some r'/\S r')↔c/\S r:=by
 by_cases h:c
 .rw[if_pos h];exact yr.trans ⟨λq=>⟨h,q⟩,λq=>q.2⟩
 .rw[if_neg h];exact⟨λ⟨_,e,_⟩=>(by cases e),λq=>absurd q.1 h⟩
def yn{A:Prop}(h:¬A):(∃r',(none:Option γ)=some r'/\S r')↔A:=⟨λ⟨_,e,_⟩=>(by cases e),λq=>absurd q h⟩
def xq{o:Option (β×Loc)}:(∃d δ',o=some (d,δ')/\Q d δ')↔∃r,o=some r/\Q r.1 r.2:=⟨λ⟨_,_,e,q⟩=>⟨_,e,q⟩,λ⟨r,e,q⟩=>⟨r.1,r.2,e,q⟩⟩
def xb:(∃d δ',o.bind f=some (d,δ')/\Q d δ')↔∃x δ1,o=some (x,δ1)/\∃d δ',f (x,δ1)=some (d,δ')/\Q d δ':=xq.trans (yb.trans ⟨λ⟨x,y,e,h⟩=>⟨x,y,e,xq.mpr h⟩,λ⟨x,y,e,h⟩=>⟨x,y,e,xq.mp h⟩⟩)
def x1:(∃d δ',u.bind g=some (d,δ')/\Q d δ')↔∃x,u=some x/\∃d δ',g x=some (d,δ')/\Q d δ':=xq.trans (yqs.trans ⟨λ⟨x,e,h⟩=>⟨x,e,xq.mpr h⟩,λ⟨x,e,h⟩=>⟨x,e,xq.mp h⟩⟩)
def xr:(∃d' δ',some (d,δ)=some (d',δ')/\Q d' δ')↔Q d δ:=xq.trans yr
def xi:(∃d' δ',(if c then some (d,δ)else none)=some (d',δ')/\Q d' δ')↔c/\Q d δ:=xq.trans yi
def xn{A:Prop}(h:¬A):(∃d' δ',(none:Option (β×Loc))=some (d',δ')/\Q d' δ')↔A:=xq.trans (yn h)
def xc(h:∀x δ,P x δ↔P' x δ):(∃x δ1,o=some (x,δ1)/\P x δ1)↔∃x δ1,o=some (x,δ1)/\P' x δ1:=⟨λ⟨x,δ,e,p⟩=>⟨x,δ,e,(h x δ).mp p⟩,λ⟨x,δ,e,p⟩=>⟨x,δ,e,(h x δ).mpr p⟩⟩
def xd(h:∀x,R x↔R' x):(∃x,u=some x/\R x)↔∃x,u=some x/\R' x:=⟨λ⟨x,e,p⟩=>⟨x,e,(h x).mp p⟩,λ⟨x,e,p⟩=>⟨x,e,(h x).mpr p⟩⟩
end
def yQ{b:Int}{P:Int->Prop}:(∃k,D.int b=D.int k/\P k)↔P b:=⟨λ⟨_,e,q⟩=>by cases e;exact q,λq=>⟨_,rfl,q⟩⟩
def DJ{b:List D}{P:List D->Prop}:(∃k,D.lst b=D.lst k/\P k)↔P b:=⟨λ⟨_,e,q⟩=>by cases e;exact q,λq=>⟨_,rfl,q⟩⟩
section
variable{cx:Cl}{δ:Loc}
def Jf{i:Nat}{Q:D->Loc->Prop}:wE cx (.var i) δ Q↔∃d,zX δ i=some d/\Q d (demote δ i):=x1.trans (xd λ_=>xr)
def Jk{i:Int}{Q:D->Loc->Prop}:wE cx (.int i) δ Q↔Q (.int i) δ:=xr
def Jh{i:Str}{Q:D->Loc->Prop}:wE cx (.str i) δ Q↔Q (.str i) δ:=xr
def Jm{op:Op}{a b:E}{Q:D->Loc->Prop}:wE cx (.bin op a b) δ Q↔wE cx a δ λx δ1=>wE cx b δ1 λy δ2=>wOp op x y λz=>Q z δ2:=xb.trans (xc λ_ _=>xb.trans (xc λ_ _=>x1.trans (xd λ_=>xr)))
def IV{op:Cop}{a b:E}{Q:Bool->Loc->Prop}:wT cx (.cmp op a b) δ Q↔wE cx a δ λx δ1=>wE cx b δ1 λy δ2=>zp op x y λz=>Q z δ2:=xb.trans (xc λ_ _=>xb.trans (xc λ_ _=>x1.trans (xd λ_=>xr)))
def Ji{a:E}{Q:D->Loc->Prop}:wE cx (.neg a) δ Q↔wE cx a δ λx δ1=>∃i,x=.int i/\Q (.int (-i)) δ1:=xb.trans (xc λx _=>by
 cases x with
 |int k=>refine Iff.trans ?_ yQ.symm;exact xr
 |_=>exact xn λ⟨_,e,_⟩=>by cases e)
def IW{a b:E}{Q:Bool->Loc->Prop}:wT cx (.and a b) δ Q↔wT cx a δ λk δ1=>if k=true then wT cx b δ1 Q else Q false δ1:=xb.trans (xc λk _=>by cases k;exact xr;exact gS)
def Jg{es:Es}{Q:D->Loc->Prop}:wE cx (.tup es) δ Q↔wEs cx es δ λds δ1=>ds.length<=sizeLine/\Q (.tup ds) δ1:=xb.trans (xc λ_ _=>xi)
def Jj{es:Es}{Q:D->Loc->Prop}:wE cx (.lst es) δ Q↔wEs cx es δ λds δ1=>ds.length<=sizeLine/\Q (.lst ds) δ1:=xb.trans (xc λ_ _=>xi)
def Mj{a b:E}{Q:D->Loc->Prop}:wE cx (.ix a b) δ Q↔wE cx a δ λx δ1=>wE cx b δ1 λy δ2=>wIx x y λz=>Q z δ2:=xb.trans (xc λ_ _=>xb.trans (xc λ_ _=>x1.trans (xd λ_=>xr)))
def Mi{a:E}{lo hi:Eo}{Q:D->Loc->Prop}:wE cx (.sl a lo hi) δ Q↔wE cx a δ λx δ1=>wO cx lo δ1 λl δ2=>wO cx hi δ2 λh δ3=>wSl x l h λz=>Q z δ3:=xb.trans (xc λ_ _=>xb.trans (xc λ_ _=>xb.trans (xc λ_ _=>x1.trans (xd λ_=>xr))))
def rZ{f:Nat}{es:Es}{Q:D->Loc->Prop}:wE cx (.call f es) δ Q↔wEs cx es δ λds δ1=>HZ cx f ds λz=>Q z δ1:=xb.trans (xc λ_ _=>x1.trans (xd λ_=>xr))
def Jl{f:Blt}{es:Es}{Q:D->Loc->Prop}:wE cx (.blt f es) δ Q↔wEs cx es δ λds δ1=>Jn f ds λz=>Q z δ1:=xb.trans (xc λ_ _=>x1.trans (xd λ_=>xr))
def EU{Q:List D->Loc->Prop}:wEs cx .nil δ Q↔Q [] δ:=xr
def Bh{e:E}{es:Es}{Q:List D->Loc->Prop}:wEs cx (.cons e es) δ Q↔wE cx e δ λx δ1=>wEs cx es δ1 λxs δ2=>Q (x::xs) δ2:=xb.trans (xc λ_ _=>xb.trans (xc λ_ _=>xr))
def Me{Q:Option Int->Loc->Prop}:wO cx .no δ Q↔Q none δ:=xr
def Jd{e:E}{Q:Option Int->Loc->Prop}:wO cx (.yes e) δ Q↔wE cx e δ λx δ1=>∃i,x=.int i/\Q (some i) δ1:=xb.trans (xc λx _=>by
 cases x with
 |int k=>refine Iff.trans ?_ yQ.symm;exact xr
 |_=>exact xn λ⟨_,e,_⟩=>by cases e)
def Mh{Q:Bool->Loc->Prop}:wG cx .no δ Q↔Q true δ:=xr
def Je{e:E}{Q:List D->Loc->Prop}:wI cx (.rng e) δ Q↔wE cx e δ λx δ1=>∃j,x=.int j/\(-(2^62)<=j/\j<2^62)/\Q (lA 0 j.toNat) δ1:=xb.trans (xc λx _=>by
 cases x with
 |int k=>refine Iff.trans ?_ yQ.symm;exact xi
 |_=>exact xn λ⟨_,e,_⟩=>by cases e)
def Bi{m:Mt}{a b:E}{Q:D->Loc->Prop}:wE cx (.mt m a b) δ Q↔wE cx a δ λx δ1=>wE cx b δ1 λy δ2=>∃d,mtD m x y=some d/\Q d δ2:=xb.trans (xc λ_ _=>xb.trans (xc λ_ _=>x1.trans (xd λ_=>xr)))
def Mf{e:E}{Q:List D->Loc->Prop}:wI cx (.sq e) δ Q↔wE cx e δ λx δ1=>wItems x λds=>Q ds δ1:=xb.trans (xc λ_ _=>x1.trans (xd λ_=>xr))
def lV{k:Nat}{tg:Tg}{src:It}{ifs:Eo}{elt:E}{Q:D->Loc->Prop}:wE cx (.comp k tg src ifs elt) δ Q↔wI cx src δ λds δ1=>kQ cx k tg ifs elt ds δ1 λys δ2=>ys.length<=sizeLine/\Q (.lst ys) δ2:=xb.trans (xc λ_ _=>xb.trans (xc λ_ _=>xi))
def qD{k:Nat}{tg:Tg}{ifs:Eo}{elt:E}{Q:List D->Loc->Prop}:kQ cx k tg ifs elt [] δ Q↔Q [] δ:=xr
def oU{k:Nat}{tg:Tg}{ifs:Eo}{elt:E}{x:D}{xs:List D}{Q:List D->Loc->Prop}:kQ cx k tg ifs elt (x::xs) δ Q↔wTg (δ++aC k .no) tg x λδ2=>wG cx ifs δ2 λb δ3 =>
 if b=true then wE cx elt δ3 λy δ4=>kQ cx k tg ifs elt xs (δ4.take δ.length) λys δ5=>Q (y::ys) δ5 else kQ cx k tg ifs elt xs (δ3.take δ.length) Q:=xb.trans (x1.trans (xd λ_=>xb.trans (xc λb _=>by cases b;exact xr.trans (xb.trans (xc λ_ _=>xr));exact xb.trans (xc λ_ _=>xr.trans (xb.trans (xc λ_ _=>xr))))))
end
section
variable(cx:Cl)
def qI(ss:Ss)(Q:Out->Prop):Out->Prop
 |.nx δ=>wSs cx ss δ Q
 |.rt d δ=>Q (.rt d δ)
 |.ro d δ=>Q (.ro d δ)
end
def rh(next:Loc->Prop)(Q:Out->Prop):Out->Prop
 |.nx δ=>next δ
 |.rt d δ=>Q (.rt d δ)
 |.ro d δ=>Q (.ro d δ)
def rT(δ:Loc)(i:Nat)(s:Sl)(Q:Loc->Prop):Prop:=i<δ.length/\Q (δ.set i s)
def zj:Loc->Loc->Nat->Sl->(Loc->Prop)->Prop
 |_,[],_,_,_=>False
 |pre,_::δ,0,s,Q=>Q (ko pre (s::δ))
 |pre,t::δ,i+1,s,Q=>zj (t::pre) δ i s Q
def Jb(δ:Loc)(i:Nat)(s:Sl)(Q:Loc->Prop):Prop:=Q (δ.set i s)
def xV(pre δ:Loc)(i:Nat)(s:Sl)(Q:Loc->Prop):Prop:=Q (ko pre (δ.set i s))
def AW(pre δ:Loc)(Q:Loc->Prop):Prop:=Q (ko pre δ)
def vX(δ0:Loc)(j:Nat)(δ:Loc)(i:Nat)(Q:D->Loc->Prop):Prop:=match δ[i]? with
 |some (.val d)=>Q d δ0
 |some (.own ds)=>Q (.lst ds) (δ0.set j (.val (.lst ds)))
 |some (.odc ks ds)=>Q (.dct ks ds) (δ0.set j (.val (.dct ks ds)))
 |_=>False
def vZ(δ:Loc)(i:Nat)(Q:List D->Prop):Prop:=match δ[i]? with
 |some (.own ds)=>Q ds
 |_=>False
def Jc(δ:Loc)(i:Nat)(Q:List Str->List D->Prop):Prop:=match δ[i]? with
 |some (.odc ks ds)=>Q ks ds
 |_=>False
def IS(δ:Loc)(i:Nat)(Q:D->Prop):Prop:=match δ[i]? with
 |some (.val d)=>Q d
 |_=>False
section
variable{cx:Cl}{δ pre:Loc}
def lX{ss:Ss}{Q:Out->Prop}:qI cx ss Q (.nx δ)↔wSs cx ss δ Q:=gS
def uz{s:Sl}{Q:Loc->Prop}:∀{δ pre:Loc}{i:Nat},zj pre δ i s Q↔i<δ.length/\Q (ko pre (δ.set i s))
 |[],_,_=>⟨λh=>h.elim,λh=>absurd h.1 (qx _)⟩
 |_::_,_,0=>⟨λh=>⟨Nat.zero_lt_succ _,h⟩,λh=>h.2⟩
 |t::δ,pre,i+1=>(uz (δ:=δ) (pre:=t::pre) (i:=i)).trans ⟨λh=>⟨Nat.succ_lt_succ h.1,h.2⟩,λh=>⟨Nat.lt_of_succ_lt_succ h.1,h.2⟩⟩
def AQ{i:Nat}{s:Sl}{Q:Loc->Prop}:rT δ i s Q↔zj [] δ i s Q:=(uz (pre:=[])).symm
section
variable(zz:Unit)
theorem rZs{i:Nat}{s t:Sl}{Q:Loc->Prop}:zj pre (t::δ) (i+1) s Q=(zj (t::pre) δ i s Q):=rfl
theorem rZz{s t:Sl}{Q:Loc->Prop}:zj pre (t::δ) 0 s Q=(AW pre (s::δ) Q):=rfl
theorem rPz{i:Nat}{s:Sl}{Q:Loc->Prop}:Jb δ i s Q=(xV [] δ i s Q):=rfl
theorem rPs{i:Nat}{s t:Sl}{Q:Loc->Prop}:xV pre (t::δ) (i+1) s Q=(xV (t::pre) δ i s Q):=rfl
theorem rPo{s t:Sl}{Q:Loc->Prop}:xV pre (t::δ) 0 s Q=(AW pre (s::δ) Q):=rfl
theorem rRc{t:Sl}{Q:Loc->Prop}:AW (t::pre) δ Q=(AW pre (t::δ) Q):=rfl
theorem rRn{Q:Loc->Prop}:AW [] δ Q=(Q δ):=rfl
theorem rVs{δ0:Loc}{i j:Nat}{t:Sl}{Q:D->Loc->Prop}:vX δ0 j (t::δ) (i+1) Q=(vX δ0 j δ i Q):=rfl
theorem rVv{δ0:Loc}{j:Nat}{d:D}{Q:D->Loc->Prop}:vX δ0 j (.val d::δ) 0 Q=(Q d δ0):=rfl
theorem rVo{δ0:Loc}{j:Nat}{ds:List D}{Q:D->Loc->Prop}:vX δ0 j (.own ds::δ) 0 Q=(Jb δ0 j (.val (.lst ds)) λδ1=>Q (.lst ds) δ1):=rfl
theorem rVd{δ0:Loc}{j:Nat}{ks:List Str}{ds:List D}{Q:D->Loc->Prop}:vX δ0 j (.odc ks ds::δ) 0 Q=(Jb δ0 j (.val (.dct ks ds)) λδ1=>Q (.dct ks ds) δ1):=rfl
theorem rDs{i:Nat}{t:Sl}{Q:List Str->List D->Prop}:Jc (t::δ) (i+1) Q=(Jc δ i Q):=rfl
theorem rDd{ks:List Str}{ds:List D}{Q:List Str->List D->Prop}:Jc (.odc ks ds::δ) 0 Q=(Q ks ds):=rfl
theorem rGs{i:Nat}{t:Sl}{Q:D->Prop}:Mg (t::δ) (i+1) Q=(Mg δ i Q):=rfl
theorem rOs{i:Nat}{t:Sl}{Q:List D->Prop}:vZ (t::δ) (i+1) Q=(vZ δ i Q):=rfl
theorem rOo{ds:List D}{Q:List D->Prop}:vZ (.own ds::δ) 0 Q=(Q ds):=rfl
theorem rLs{i:Nat}{t:Sl}{Q:D->Prop}:IS (t::δ) (i+1) Q=(IS δ i Q):=rfl
theorem rLv{d:D}{Q:D->Prop}:IS (.val d::δ) 0 Q=(Q d):=rfl
theorem rTn{ss:Ss}{Q:Out->Prop}:qI cx ss Q (.nx δ)=(wSs cx ss δ Q):=rfl
theorem rTr{ss:Ss}{Q:Out->Prop}{d:D}:qI cx ss Q (.rt d δ)=(Q (.rt d δ)):=rfl
theorem rLn{n:Loc->Prop}{Q:Out->Prop}:rh n Q (.nx δ)=(n δ):=rfl
theorem rLr{n:Loc->Prop}{Q:Out->Prop}{d:D}:rh n Q (.rt d δ)=(Q (.rt d δ)):=rfl
end
def EV{i:Nat}{Q:D->Loc->Prop}:wE cx (.var i) δ Q↔vX δ i δ i Q:=by
 rw[Jf];unfold zX vX PP.get demote
 cases h:δ[i]? with
 |none=>simp
 |some s=>cases s<;>simp
def dz{Q:Out->Prop}:wSs cx .nil δ Q↔Q (.nx δ):=yr
def bL{s:S}{ss:Ss}{Q:Out->Prop}:wSs cx (.cons s ss) δ Q↔wS cx s δ (qI cx ss Q):=by
 unfold wSs wS;simp only[cW]
 cases evS cx s δ with
 |none=>exact yn (λ⟨_,e,_⟩=>by cases e)
 |some o =>
  refine Iff.trans ?_ yr.symm
  cases o with
  |nx δ1=>exact gS
  |_=>exact yr
def gI{tg:Tg}{e:E}{Q:Out->Prop}:wS cx (.asg tg e) δ Q↔wE cx e δ λd δ1=>wTg δ1 tg d λδ2=>Q (.nx δ2):=yb.trans (xc λ_ _=>yqs.trans (xd λ_=>yr))
def IU{i:Nat}{d:D}{Q:Loc->Prop}:wTg δ (.nm i) d Q↔rT δ i (.val d) Q:=yi
def IT{is:List Nat}{ds:List D}{Q:Loc->Prop}:wTg δ (.tp is) (.tup ds) Q↔(is.length=ds.length/\is.all (· < δ.length)=true)/\Q ((is.zip ds).foldl (λδ p=>δ.set p.1 (.val p.2)) δ):=yi
def AR{i:Nat}{e:E}{Q:Out->Prop}:wS cx (.new i e) δ Q↔wE cx e δ λd δ1=>∃ds,d=.lst ds/\rT δ1 i (.own ds) λδ2=>Q (.nx δ2):=yb.trans (xc λx _=>by
 cases x with
 |lst k=>refine Iff.trans ?_ DJ.symm;exact yi
 |_=>exact yn λ⟨_,e,_⟩=>by cases e)
def IX{own:Bool}{i:Nat}{e:E}{Q:Out->Prop}:wS cx (.cmp own i e) δ Q↔wE cx e δ λd δ1=>∃ds,d=.lst ds/\rT δ1 i (bif own then .own ds else .val (.lst ds)) λδ2=>Q (.nx δ2):=yb.trans (xc λx _=>by
 cases x with
 |lst k=>refine Iff.trans ?_ DJ.symm;cases own<;>exact yi
 |_=>exact yn λ⟨_,e,_⟩=>by cases e)
def rW{i:Nat}{e:E}{Q:Out->Prop}:wS cx (.cmp false i e) δ Q↔wE cx e δ λd δ1=>∃ds,d=.lst ds/\rT δ1 i (.val (.lst ds)) λδ2=>Q (.nx δ2):=IX
def jr{e:E}{Q:Out->Prop}:wS cx (.ret e) δ Q↔wE cx e δ λd δ1=>Q (.rt d δ1):=yb.trans (xc λ_ _=>yr)
def rV{c:E}{a b:Ss}{Q:Out->Prop}:wS cx (.ifs c a b) δ Q↔wT cx c δ λk δ1=>if k=true then wSs cx a δ1 Q else wSs cx b δ1 Q:=yb.trans (xc λk _=>by cases k<;>exact gS)
def AU{tg:Tg}{src:It}{body:Ss}{Q:Out->Prop}:wS cx (.for_ tg src body) δ Q↔wI cx src δ λds δ1=>qg cx tg body ds δ1 Q:=yb.trans (xc λ_ _=>gS)
def uB{c:E}{body:Ss}{Q:Out->Prop}:wS cx (.while_ c body) δ Q↔oQ cx c body 1000 δ Q:=gS
def AS{i:Nat}{es:Es}{ds:List D}{n:Int}{d:D}{δ1:Loc}{ds1:List D}{Q:Out->Prop}(h0:δ[i]?=some (.own ds))(h:cT cx es δ=some ([.int n,d],δ1))(h1:δ1[i]?=some (.own ds1))(hn:0<=n/\n<2^62/\ds1.length<sizeLine)(q:Q (.nx (δ1.set i (.own (ds1.take n.toNat++d::ds1.drop n.toNat))))):wS cx (.ins i es) δ Q :=
 ⟨_,by simp only[evS,h0,h,h1,ae,ah,if_pos hn],q⟩
def zm{i:Nat}{e:E}{Q:Out->Prop}:wS cx (.append i e) δ Q↔vZ δ i λ_=>wE cx e δ λd δ1=>vZ δ1 i λds=>ds.length<sizeLine/\rT δ1 i (.own (ds++[d])) λδ2=>Q (.nx δ2):=by
 unfold wS vZ;simp only[evS]
 cases δ[i]? with
 |none=>exact yn id
 |some s =>
  cases s with
  |own ds0 =>
   refine yb.trans (xc λd δ1=>?_);dsimp only
   cases h1:δ1[i]? with
   |none=>exact yn id
   |some s =>
    cases s with
    |own ds=>exact yi.trans ⟨λq=>⟨q.1,(aF.mp h1).1,q.2⟩,λq=>⟨q.1,q.2.2⟩⟩
    |_=>exact yn id
  |_=>exact yn id
def lU{tg:Tg}{body:Ss}{Q:Out->Prop}:qg cx tg body [] δ Q↔Q (.nx δ):=yr
def mS{tg:Tg}{body:Ss}{x:D}{xs:List D}{Q:Out->Prop}:qg cx tg body (x::xs) δ Q↔wTg δ tg x λδ2=>wSs cx body δ2 (rh (λδ3=>qg cx tg body xs δ3 Q) Q):=by
 unfold qg wTg wSs;simp only[forL,Np]
 cases dA δ tg x with
 |none=>exact yn (λ⟨_,e,_⟩=>by cases e)
 |some δ2 =>
  refine Iff.trans ?_ yr.symm;dsimp only
  cases cW cx body δ2 with
  |none=>exact yn (λ⟨_,e,_⟩=>by cases e)
  |some o =>
   refine Iff.trans ?_ yr.symm
   cases o with
   |nx δ1=>exact gS
   |_=>exact yr
def nI{c:E}{body:Ss}{n:Nat}{Q:Out->Prop}:oQ cx c body (n+1) δ Q↔wT cx c δ λk δ1=>if k=true then wSs cx body δ1 (rh (λδ3=>oQ cx c body n δ3 Q) Q)else Q (.nx δ1):=by
 unfold oQ wT wSs;simp only[lr]
 cases evT cx c δ with
 |none=>exact yn (λ⟨_,_,e,_⟩=>by cases e)
 |some p =>
  refine Iff.trans ?_ (xq.trans yr).symm;obtain⟨k,δ1⟩:=p
  cases k with
  |false=>exact yr
  |true =>
   dsimp only
   cases cW cx body δ1 with
   |none=>exact yn (λ⟨_,e,_⟩=>by cases e)
   |some o =>
    refine Iff.trans ?_ yr.symm
    cases o with
    |nx δ1=>exact gS
    |_=>exact yr
def oR{tg:Tg}{body:Ss}{Q:Out->Prop}(P:List D->Loc->Prop)(step:∀x xs δ,P (x::xs) δ->wTg δ tg x λδ2=>wSs cx body δ2 (rh (P xs) Q))(fin:∀δ,P [] δ->Q (.nx δ)):∀(ds:List D)(δ:Loc),P ds δ->qg cx tg body ds δ Q
 |[],δ,h=>lU.mpr (fin δ h)
 |x::xs,δ,h=>by
  rw[mS];obtain⟨δ2,e,o,e2,q⟩:=step x xs δ h;refine⟨δ2,e,o,e2,?_⟩
  cases o with
  |nx δ1=>exact oR P step fin xs δ1 q
  |rt d δ1=>exact q
  |ro d δ1=>exact q
def lu{k:Nat}{tg:Tg}{ifs:Eo}{elt:E}{Q:List D->Loc->Prop}(P:D->D->Prop):∀(ds:List D),(∀x∈ds,wTg (δ++aC k .no) tg x λδ2=>wG cx ifs δ2 λb δ3=>b=true/\wE cx elt δ3 λy δ4=>P x y/\δ4.take δ.length=δ) ->
 (∀ys,PySem.Paired P ds ys->Q ys δ)->kQ cx k tg ifs elt ds δ Q
 |[],h,q=>qD.mpr (q [] .nil)
 |x::xs,h,q=>by
  rw[oU];obtain⟨δ2,e,b,δ3,e2,rfl,y,δ4,e3,p,t⟩:=h x ay;refine⟨δ2,e,true,δ3,e2,?_⟩;show if true=true then _ else _
  rw[if_pos rfl];refine⟨y,δ4,e3,?_⟩;show kQ cx k tg ifs elt xs (δ4.take δ.length) _;rw[t];exact lu P xs (λz hz=>h z (ao _ hz)) λys r=>q (y::ys) (.cons p r)
end
def Bc{a b:Int}{Q:D->Prop}:wOp .add (.int a) (.int b) Q↔Q (.int (a+b)):=yr
def AX{a b:Int}{Q:D->Prop}:wOp .sub (.int a) (.int b) Q↔Q (.int (a-b)):=yr
def AY{a b:Int}{Q:D->Prop}:wOp .mul (.int a) (.int b) Q↔nO a b=true/\Q (.int (a*b)):=yi
def AZ{a b:Int}{Q:D->Prop}:wOp .mod (.int a) (.int b) Q↔0<b/\Q (.int (a%b)):=yi
def zo{a b:Int}{Q:D->Prop}:wOp .fdiv (.int a) (.int b) Q↔(0<b/\b<1000000000000000000000000000000000000000000000000000000000000)/\Q (.int (a/b)):=yi
def Ba{a b:Str}{Q:D->Prop}:wOp .add (.str a) (.str b) Q↔a.length+b.length<=sizeLine/\Q (.str (a++b)):=yi
def Bb{a b:List D}{Q:D->Prop}:wOp .add (.lst a) (.lst b) Q↔a.length+b.length<=sizeLine/\Q (.lst (a++b)):=yi
def EW{a b:Int}{Q:Bool->Prop}:zp .lt (.int a) (.int b) Q↔Q (decide (a<b)):=yr
def EY{a b:Int}{Q:Bool->Prop}:zp .gt (.int a) (.int b) Q↔Q (decide (b<a)):=yr
def Bl{a b:Int}{Q:Bool->Prop}:zp .eq (.int a) (.int b) Q↔Q (decide (a=b)):=yr
def Bk{a b:Str}{Q:Bool->Prop}:zp .eq (.str a) (.str b) Q↔Q (a==b):=yr
def Bj{a:D}{ds:List D}{Q:Bool->Prop}:zp .isin a (.tup ds) Q↔(dep a<=150/\eS ds<99999)/\Q (ds.any λy=>eqD y a):=yi
def zt{ds:List D}{Q:D->Prop}:Jn .len [.lst ds] Q↔Q (.int ds.length):=yr
def zq{ds:List D}{Q:D->Prop}:Jn .toTup [.lst ds] Q↔Q (.tup ds):=yr
def ES{ds:List D}{i:Int}{Q:D->Prop}:wIx (.lst ds) (.int i) Q↔∃d,L2.atI ds i=some d/\Q d:=gS
def Bf{d:D}{ds:List D}{Q:D->Prop}:wIx (.tup (d::ds)) (.int 0) Q↔Q d:=by
 simp[wIx,ixD,L2.atI,L2.ixN]
def wb{ds:List D}{Q:List D->Prop}:wItems (.lst ds) Q↔Q ds:=yr
def jM(G:List Fd)(gl:List D)(n i:Nat)(ds:List D)(Q:D->Prop):Prop:=∃d,PP.run G gl n i ds=some d/\Q d
def retS(Q:D->Prop):Out->Prop
 |.rt d _=>Q d
 |.nx _=>Q .non
 |.ro d _=>Q d
def fb{G:List Fd}{gl:List D}{n i:Nat}{ds:List D}{P Q:D->Prop}(h:jM G gl n i ds P)(k:∀d,P d->Q d):jM G gl n i ds Q:=by
 obtain⟨d,e,p⟩:=h;exact⟨d,e,k d p⟩
def bV{G:List Fd}{gl:List D}{n i:Nat}{ds:List D}{Q:D->Prop}(fd:Fd)(h:G[i]?=some fd)(hl:ds.length=fd.ps.length)(hf:fd.hf=false)(q:wSs ⟨PP.run G gl n,gl,hfs G⟩ fd.body (init (fd.ps++fd.loc).length ds) (retS Q)):jM G gl (n+1) i ds Q:=by
 obtain⟨o,e,q⟩:=q;unfold jM
 have:PP.run G gl (n+1) i ds=outD (cW ⟨PP.run G gl n,gl,hfs G⟩ fd.body (init (fd.ps++fd.loc).length ds)):=by
  conv=>lhs;unfold PP.run
  rw[h];dsimp only;rw[if_pos hl,hf];rfl
 rw[this,e]
 cases o with
 |rt d δ=>exact⟨d,rfl,q⟩
 |ro d δ=>exact⟨d,rfl,q⟩
 |nx δ=>exact⟨.non,rfl,q⟩
def qF{G:List Fd}{gl:List D}{n f:Nat}{ds:List D}{Q:D->Prop}:HZ ⟨PP.run G gl n,gl,hfs G⟩ f ds Q↔jM G gl n f ds Q:=gS
def FP{Q:D->Prop}{d:D}{δ:Loc}:retS Q (.rt d δ)↔Q d:=gS
def ER{x:Str}{i:Int}{Q:D->Prop}:wIx (.str x) (.int i) Q↔x.length<=sizeLine/\∃c,L2.atI x.cps.toList i=some c/\Q (.str ⟨#[c]⟩):=by
 unfold wIx ixD;dsimp only;constructor
 .rintro⟨z,e,q⟩;split at e
  .rw[aj]at e;obtain⟨c,e,rfl⟩:=e;exact⟨‹_›,c,e,q⟩
  .cases e
 .rintro⟨h,c,e,q⟩;exact⟨_,by rw[if_pos h,e];rfl,q⟩
def lR{G:List Fd}{gl:List D}{n i:Nat}{ds:List D}{d:D}{Q:D->Prop}(h:PP.run G gl n i ds=some d):jM G gl n i ds Q↔Q d:=by
 unfold jM;rw[h];exact⟨λ⟨_,e,q⟩=>by cases e;exact q,λq=>⟨d,rfl,q⟩⟩
def dr{G:List Fd}{gl:List D}{n i:Nat}{ds:List D}{d:D}(h:jM G gl n i ds λx=>x=d):PP.run G gl n i ds=some d:=by
 obtain⟨x,e,rfl⟩:=h;exact e
def vI{α:Type}{ds:List α}{j:Int}(h0:0<=j)(h1:j<ds.length):∃d,d∈ds/\L2.atI ds j=some d:=by
 have hk:j.toNat<ds.length:=by omega
 refine⟨ds[j.toNat],EK hk,?_⟩;have:=L2.atI_nat (xs:=ds) (j:=j.toNat) (v:=ds[j.toNat]) (aO hk)
 rwa[show((j.toNat:Nat):Int)=j by omega]at this
def mul_r{a b:Int}(h0:-(2^64)<b)(h1:b<2^64):nO a b=true:=by
 unfold nO;simp only[decide_eq_true h0,decide_eq_true h1,uu,nZ,nY]
def MZ{a b:Int}(h0:-(2^64)<a)(h1:a<2^64):nO a b=true:=by
 unfold nO;simp only[decide_eq_true h0,decide_eq_true h1,uu,nZ,nY]
def small{n:Nat}(h:n<=1000):n<=sizeLine:=cI (cL h ⇑0)
def str_len(x:Str):x.cps.toList.length=x.length:=by
 show x.cps.toList.length=x.cps.size;simp
def su{lo:Int}{n:Nat}:(lA lo n).length=n:=by simp[lA]
def Be{a b:D}{ds:List D}{Q:D->Prop}:wIx (.tup (a::b::ds)) (.int 1) Q↔Q b:=by
 have:L2.atI (a::b::ds) 1=some b:=L2.atI_nat (j:=1) rfl;simp[wIx,ixD,this]
def EN{δ:Loc}{i j:Nat}{a b:D}{Q:Loc->Prop}:wTg δ (.tp [i,j]) (.tup [a,b]) Q↔rT δ i (.val a) λδ1=>rT δ1 j (.val b) Q:=by
 rw[IT];unfold rT;simp only[cj,vT,bb,cV,aa,decide_eq_true_eq];exact⟨λ⟨⟨_,h1,h2⟩,q⟩=>⟨h1,h2,q⟩,λ⟨h1,h2,q⟩=>⟨⟨rfl,h1,h2⟩,q⟩⟩
def SI:=aG (@aw.{0,0}) (aG (@dq.{0,0}) (aG (@gH.{0}) (aG (@ic.{0}) (aG (@bt.{0}) (aG (@ag.{0}) (aG (@aN.{0}) (aG (@Ay.{0}) (@Ax.{0}))))))))
def WI:(∀a b:Prop,(if True then a else b)=a)/\(∀a b:Prop,(if False then a else b)=b)/\((false=true)=False)/\∀(p:Prop)[Decidable p],(decide p=true)=p:=⟨λ_ _=>if_pos trivial,λ_ _=>if_neg id,↥0,λp _=>by simp⟩
def WS:=aG (@Jk) (aG (@Jh) (aG (@Jm) (aG (@IV) (aG (@Ji) (aG (@IW) (aG (@Jg) (aG (@Jj) (aG (@Mj) (aG (@Mi) (aG (@rZ) (aG (@Jl) (aG (@EU) (aG (@Bh) (aG (@Me) (aG (@Jd) (aG (@Mh) (aG (@Je) (aG (@Mf) (aG (@lV) (aG (@AQ) (aG (@EV) (aG (@dz) (aG (@bL) (aG (@gI) (aG (@IU) (aG (@AR) (aG (@rW) (aG (@jr) (aG (@rV) (aG (@AU) (aG (@uB) (aG (@Bc) (aG (@AX) (aG (@AY) (aG (@AZ) (aG (@zo) (aG (@Ba) (aG (@Bb) (aG (@EW) (aG (@EY) (aG (@Bl) (aG (@Bk) (aG (@Bj) (aG (@zt) (aG (@zq) (aG (@ES) (aG (@Bf) (aG (@wb) (aG (@qF) (aG (@FP) (aG (@ER) (aG (@yQ) (aG (@DJ) (aG (@Be) (aG (@EN) (fQ))))))))))))))))))))))))))))))))))))))))))))))))))))))))
section
variable{cx:Cl}{δ:Loc}
def iW{α:Type}(g:α->D)(p:α->Bool)(h:α->D):∀(xs:List α),(∀x∈xs,wTg (δ++aC k .no) tg (g x) λδ2=>wG cx ifs δ2 λb δ3=>b=p x/\if b=true then wE cx elt δ3 λy δ4=>y=h x/\δ4.take δ.length=δ else δ3.take δ.length=δ) ->
 Q ((xs.filter p).map h) δ->kQ cx k tg ifs elt (xs.map g) δ Q
 |[],_,q=>qD.mpr q
 |x::xs,hx,q=>by
  rw[aw,oU];obtain⟨δ2,e,b,δ3,e2,rfl,e3⟩:=hx x ay;refine⟨δ2,e,_,δ3,e2,?_⟩
  cases hp:p x with
  |true =>
   rw[hp,if_pos rfl]at e3;obtain⟨y,δ4,e4,rfl,t⟩:=e3;rw[if_pos rfl];refine⟨_,δ4,e4,?_⟩;show kQ cx k tg ifs elt _ (δ4.take δ.length) _;rw[t];refine iW g p h xs (λz hz=>hx z (ao _ hz)) ?_;rw[List.filter_cons_of_pos hp]at q
   exact q
  |false =>
   rw[hp,if_neg aq]at e3;rw[if_neg aq,e3];refine iW g p h xs (λz hz=>hx z (ao _ hz)) ?_;rw[List.filter_cons_of_neg (by simp[hp])]at q;exact q
def iV{α:Type}(g:α->D)(P:List α->Loc->Prop)(step:∀x xs δ,P (x::xs) δ->wTg δ tg (g x) λδ2=>wSs cx body δ2 (rh (P xs) Q))(fin:∀δ,P [] δ->Q (.nx δ))(xs:List α)(δ:Loc)(h:P xs δ):qg cx tg body (xs.map g) δ Q:=by
 induction xs generalizing δ with
 |nil=>exact lU.mpr (fin δ h)
 |cons x xs ih =>
  rw[aw,mS];obtain⟨δ2,e,o,e2,q⟩:=step x xs δ h;refine⟨δ2,e,o,e2,?_⟩
  cases o with
  |nx δ3=>exact ih δ3 q
  |rt d δ3=>exact q
  |ro d δ3=>exact q
end
section
variable{cx:Cl}{δ:Loc}
end
section
variable{cx:Cl}{δ:Loc}
end
end PP
end
section
namespace PP
open PySem L2 PyProof.Rows
variable[Tbs]
section
variable{K:PySem.W.Frag}{H:Hp}{F:av->Prop}
end
section
variable{X:Cx}{cx:Cl}
def Rel.dct{K:PySem.W.Frag}{H:Hp}{F:av->Prop}{ks:List Str}{ds:List D}{v:V}(h:Rel K H F (.dct ks ds) v):∃a vs,v=.ref a/\Rd H a (.dK (zk ks vs))/\ks.Nodup/\ks.length=ds.length/\aH K H F ds vs:=by
 unfold Rel at h;obtain⟨a,vs,e,h1,_,h3,h4,h5⟩:=h;exact⟨a,vs,e,h1,h3,h4,h5⟩
def DGet.rd(e:Rd H a (.dK kvs)):L2.DGet H a (kV k) (lx kvs k):=.inl ⟨kvs,k,e,rfl,rfl⟩
def FC{a b e:E}{y z w:aE}{ap cp:Pos}(hu:X.A.units+1<cLine)(na:(!bp a)=true)(nb:(!bp b)=true)(ne:(!bp e)=true)(ha:PE X y (tE X.K cx a))(hb:PE X z (tE X.K cx b))(he:PE X w (tE X.K cx e))(m:M2 X y "get" ap z w cp) :
 PE X (.Call (.Attribute y "get" ap) [z,w] [] cp) (tE X.K cx (.dgt a b e)):=by
 refine PE.imp (CH hu ha hb he m) λσ H Q h=>?_;obtain⟨G,F,δ,d,δ',ok,ev,post⟩:=h;simp only[evE,ae,af]at ev;obtain⟨⟨x,δ1⟩,ea,⟨y',δ2⟩,eb,⟨z',δ3⟩,ec,ev⟩:=ev;dsimp only at ev eb ec;split at ev
 .rename_i ks ds t;cases ev;refine⟨G,F,δ,_,δ1,ok,ea,λv H1 F1 st1 sm1 ok1 r1=>?_⟩;have q1:=dh na r1;obtain⟨p,vs,e4,h1,_⟩:=q1.dct;refine⟨p,e4,.inl ⟨_,h1⟩,G,F1,δ1,_,δ2,ok1,eb,λu H2 F2 st2 sm2 ok2 r2=>⟨G,F2,δ2,z',_,ok2,ec,λw H3 F3 st3 sm3 ok3 r3=>?_⟩⟩;have e3:=r2.b.str;subst e3;have q3:=Rel.step ok1.fd (st2.trans st3) _ _ q1;obtain⟨p',vs',e4',h1',h2,h3,h4⟩:=q3.dct;rw[e4]at e4';cases e4';obtain⟨g1,g2⟩:=vD t h3 h4;refine⟨_,DGet.rd (k:=.inr t) h1',?_⟩
  have fin:∀u,Rel X.K H3 F3 ((kW ks ds t).getD z') u->Q u H3:=λu r=>post u H3 F3 ((st1.trans st2).trans st3) (λz=>by
   have z1:=(aa _ _).mp (show(np a&&np b&&np e)=true from z);have z2:=(aa _ _).mp z1.1;exact((sm1 z2.1).trans (sm2 z2.2)).trans (sm3 z1.2)) ok3 (eN r)
  cases eg:kW ks ds t with
  |none =>
   rw[g2 eg];refine fin _ ?_;rw[eg]
   exact dh ne r3
  |some d0 =>
   obtain⟨w',e5,rw'⟩:=g1 d0 eg;rw[e5];refine fin _ ?_;rw[eg];exact rw'
 .cases ev
end
end PP
end
section
namespace L2
open PySem PySem.Spec PyProof.Rows
def qR(l:List ai):∀n:Nat,n<=l.length->(((du n).map λ(k:Nat)=>(((l.length:Int)-1)+(-1)*(k:Int)).toNat).filterMap λj=>l[j]?)=(l.drop (l.length-n)).reverse
 |0,_=>by simp
 |n+1,h=>by
  have hk:l.length-1-n<l.length:=by lia
  have e:(((l.length:Int)-1)+(-1)*(n:Int)).toNat=l.length-1-n:=by lia
  rw[List.range_succ,cg,List.filterMap_append,qR l n ∅,show l.length-(n+1)=l.length-1-n by lia,bQ hk,show l.length-1-n+1=l.length-n by lia,cN];simp only[aw,dq,e,bw,mQ,aO hk]
def pv{its:List ai}{i:Int}(h:i<0):slicePick its.toArray none (some i) (some (-1))=(its.drop (its.length-(-1-i).toNat)).reverse.toArray:=by
 have e:sliceBounds none (some i) (some (-1)) its.length=((its.length:Int)-1,max (-1) (min (i+its.length) ((its.length:Int)-1)),-1):=by
  simp only[sliceBounds,nW,h,if_true,show ¬(-1:Int)>0 by decide,if_false]
 unfold slicePick;rw[aB,e];unfold sliceRange;rw[if_neg (show ¬(-1:Int)>0 by decide)]
 have hn:(if(its.length:Int)-1>max (-1) (min (i+its.length) ((its.length:Int)-1))then((its.length:Int)-1-max (-1) (min (i+its.length) ((its.length:Int)-1))-(-1)-1)/(- -1)else 0).toNat=min its.length (-1-i).toNat:=by
  rw[show(- -1:Int)=1 from rfl,Int.ediv_one];split<;>omega
 dsimp only;rw[hn];have:=qR its (min its.length (-1-i).toNat) (qy _ _);rw[show its.length-(-1-i).toNat=its.length-min its.length (-1-i).toNat by omega,<- this];simp only[List.getElem?_toArray]
section
variable{X:Cx}{e:aE}{hi st:Option aE}{te:TE}{th ts:TO}{pos p2:Pos}
def tRl(K:PySem.W.Frag)(te:TE)(th ts:TO):TE:=λσ H Q=>te σ H λx H1=>th σ H1 λh H2=>ts σ H2 λo H3=>o=some (-1)/\∃i a xs,h=some i/\i<0/\x=.ref a/\SqL K H3 a xs/\∀p,H3 p=none->Q (.ref p) (upd H3 p (.lst (xs.drop (xs.length-(-1-i).toNat)).reverse))
def Vals.back(r:Vals xs us):Vals xs.reverse us.reverse:=by
 induction r with
 |nil=>exact .nil
 |cons h t ih=>rw[cN,cN];exact ih.append (.cons h .nil)
def Kc(he:PE X e te)(hh:PO X hi th)(hs:PO X st ts):PE X (.Subscript e (.Slice none hi st p2) pos) (tRl X.K te th ts):=by
 intro pins s σ H Q I h;refine xJ (thn (he pins s σ H _ I h) λv s1⟨x,H1,I1,r1,q1⟩=>?_);refine wpAny_Slice ?_;rw[Ar];refine bh (thn (hh pins s1 σ H1 _ I1 q1) λvh s2⟨o,H2,I2,ph,q2⟩=>thn (hs pins s2 σ H2 _ I2 q2) λvi s3⟨j,H3,I3,ps,ej,i,a,xs,eo,hn,ex,hx,q3⟩=>?_);subst ej eo ex;obtain rfl:v=cm a:=r1;have I4:Inv X pins σ H3 {s3 with heap:=s3.heap.push {cls:=.type "slice",data:=.fields #[.none,vh,vi]} }:=I3.kept (t':=s3.toks) λb ob q=>ax _ q;obtain⟨its,r,ht,hz⟩:=I4.list hx;have hlen:=r.length
 have hg:wpAny (model X.prog X.w) X.A (getItem (.ref a) (.ref s3.heap.objs.size)) (EP X pins σ Q) X.xe {s3 with heap:=s3.heap.push {cls:=.type "slice",data:=.fields #[.none,vh,vi]} }:=by
  refine Ap ht.isList (qf ..) .none ph ps ↥0 ?_ (by rw[aB]<;>lia);rw[pv hn,<- hlen];refine⟨.ref _,_,I4.laid (t':=s3.toks) (o:=.lst (xs.drop (xs.length-(-1-i).toNat)).reverse) (λb ob q=>ax _ q) (aD _) ?_,rfl,q3 _ (I4.hok.fresh (aD _))⟩;exact⟨by rw[bg,aS];lia,_,0,(r.drop _).back,aX _ rfl⟩
 cases st<;>cases hi<;>first
  |exact HK (ops:=[.ref s3.heap.objs.size,.ref a]) ht.isList.typeIs slot_list_getitem.lookup hg (by with_unfolding_all rfl)
  |exact HK (ops:=[.ref a,.ref s3.heap.objs.size]) ht.isList.typeIs slot_list_getitem.lookup hg (by with_unfolding_all rfl)
end
end L2
namespace PP
open PySem L2 PyProof.Rows
variable[Tbs]
section
variable{K:PySem.W.Frag}{cx:Cl}{X:Cx}
def aH.back:∀{ds:List D}{xs:List V},aH K H F ds xs->aH K H F ds.reverse xs.reverse
 |[],xs,h=>by unfold aH at h;subst h;exact aH.nil
 |d::ds,xs,h=>by
  unfold aH at h;obtain⟨y,ys,rfl,h1,h2⟩:=h;rw[cN,cN];exact(aH.back h2).append (aH.one h1)
def aH.dropn:∀{ds:List D}{xs:List V}(n:Nat),aH K H F ds xs->aH K H F (ds.drop n) (xs.drop n)
 |ds,xs,0,h=>h
 |[],xs,n+1,h=>by unfold aH at h;subst h;exact aH.nil
 |d::ds,xs,n+1,h=>by
  unfold aH at h;obtain⟨y,ys,rfl,h1,h2⟩:=h;exact aH.dropn n h2
def Fm{a:E}{h s:Eo}{y:aE}{hi t:Option aE}{pos p2:Pos}(n:(!bp a)=true)(ha:PE X y (tE X.K cx a))(hh:PO X hi (tO X.K cx h))(hs:PO X t (tO X.K cx s)):PE X (.Subscript y (.Slice none hi t p2) pos) (tE X.K cx (.rvl a h s)):=by
 refine PE.imp (Kc ha hh hs) λσ H Q hq=>?_;obtain⟨G,F,δ,d,δ',ok,ev,post⟩:=hq;simp only[evE,ae,af]at ev;obtain⟨⟨x,δ1⟩,ea,⟨u,δ2⟩,eb,⟨o,δ3⟩,ec,ev⟩:=ev;dsimp only at eb ec ev;split at ev
 .rename_i ds i;split at ev
  .rename_i hc;cases ev;refine⟨G,F,δ,_,δ1,ok,ea,λv H1 F1 st1 sm1 ok1 r1=>⟨G,F1,δ1,_,δ2,ok1,eb,λH2 F2 st2 sm2 ok2=>⟨G,F2,δ2,o,_,ok2,ec,λH3 F3 st3 sm3 ok3=>⟨hc.2,?_⟩⟩⟩⟩;have r:=Rel.step ok1.fd (st2.trans st3) _ _ (dh n r1);unfold Rel at r;obtain⟨p,xs,e1,h1,h2⟩:=r;refine⟨i,p,xs,rfl,hc.1,e1,h1.sq,λq hq=>?_⟩;obtain⟨o1,_⟩:=ok3.laid hq (.lst (xs.drop (xs.length-(-1-i).toNat)).reverse);refine post _ _ F3 (((st1.trans st2).trans st3).trans (Step.of_same (cH hq _))) (λz=>?_) o1 (eN ?_)
   .have z':(np a&&npO h&&npO s)=true:=z;rw[aa,aa]at z';exact(((sm1 z'.1.1).trans (sm2 z'.1.2)).trans (sm3 z'.2)).trans (.of (cH hq _))
   .rw[h2.length];exact ju ok3 hq (h2.dropn _).back
  .cases ev
 .cases ev
def oW{x:Str}:∀{ks:List Str}{vs:List V},x∉ks->lx (zk ks vs) (.inr x)=none
 |[],_,_=>by unfold zk;rfl
 |_::_,[],_=>by unfold zk;rfl
 |k::ks,v::vs,h=>(jV (DB λe=>h (by rw[e];exact ay))).trans (oW λz=>h (ao _ z))
def xR:∀{ks:List Str}{vs:List V},ks.length=vs.length->zk ks vs++[(.inr x,v)]=zk (ks++[x]) (vs++[v])
 |[],[],_=>rfl
 |k::ks,w::vs,h=>by
  show(_::(zk ks vs++_))=_;rw[xR (lM h)];rfl
def vt:∀{l:List (Str×Int)}{ks:List Str}{vs:List V},(ks++l.map iL).Nodup->ks.length=vs.length->jw (zk ks vs) (l.map λp=>((.inr p.1:Key),V.int p.2))=zk (ks++l.map iL) (vs++l.map λp=>V.int p.2)
 |[],ks,vs,_,_=>by rw[dq,dq,dq,bt,bt];rfl
 |p::l,ks,vs,nd,h=>by
  have hx:p.1∉ks:=λm=>(EC.mp nd).2.2 _ m _ ay rfl;have e:ks++(p::l).map iL=(ks++[p.1])++l.map iL:=by rw[cB];rfl
  show jw (putK (zk ks vs) (.inr p.1) (V.int p.2)) _=_;rw[Cp _ (oW hx),xR h,vt (by rw[<- e];exact nd) (by rw[az,az,h];rfl),cB,cB];rfl
def CA:∀{l:List (Str×Int)}{ks:List (Option aE)}{vs:List aE},Lw l ks vs=true->PPs X pos ks vs (l.map λp=>(tC (.str p.1),tC (.int p.2)))/\ks.all (·.isSome)=true/\ks.length=vs.length/\ks.length=l.length
 |[],ks,vs,h=>by
  obtain⟨rfl,h1⟩:=di h;obtain⟨rfl,h2⟩:=di h1
  exact⟨yt,rfl,rfl,rfl⟩
 |p::l,ks,vs,h=>by
  obtain⟨k,ks,rfl,a1⟩:=cF h;obtain⟨v,vs,rfl,a2⟩:=cF a1;obtain⟨k,rfl,a3⟩:=lB a2;obtain⟨_,_,_,rfl,a4⟩:=jv a3;obtain⟨_,rfl,a5⟩:=wN a4;obtain⟨_,_,_,rfl,a6⟩:=jv a5;obtain⟨_,rfl,a7⟩:=CS a6;rw[aa,aa]at a7;have e1:=of_decide_eq_true a7.1;have e2:=of_decide_eq_true a7.2.1;subst e1 e2;obtain⟨h1,h2,h3,h4⟩:=CA a7.2.2;exact⟨uV wK CF h1,by rw[cj,h2];rfl,by rw[ag,ag,h3],by rw[ag,ag,h4]⟩
def qK{Q:List (V×V)->Hp->Prop}:∀{l:List (Str×Int)}{R:List (V×V)->List (V×V)},Q (R (l.map λp=>(V.str p.1,V.int p.2))) H->sj (l.map λp=>(tC (.str p.1),tC (.int p.2))) σ H λps H=>Q (R ps) H
 |[],_,h=>h
 |p::l,R,h=>qK (l:=l) (R:=λps=>R ((V.str p.1,V.int p.2)::ps)) h
def xW:upd (upd H p x) p y=upd H p y:=by
 funext b
 by_cases h:b=p
 .subst h;rw[bK,bK]
 .rw[bF h,bF h,bF h]
def qQ:∀{l:List (Str×Int)},aH K H F (l.map λp=>D.int p.2) (l.map λp=>V.int p.2)
 |[]=>aH.nil
 |p::l=>aH.cons (cC p.2) qQ
def FE{l:List (Str×Int)}{c:Ck}{x:aE}(h:ckE c (.dcc l) x=true):PE X x (tE X.K cx (.dcc l)):=by
 obtain⟨ks,vs,p,rfl,a⟩:=oI h;rw[aa,aa,aa]at a;obtain⟨h1,h2,h3,h4⟩:=a;have nd:=of_decide_eq_true h1;have le:=of_decide_eq_true h2;obtain⟨q1,q2,q3,q4⟩:=CA (X:=X) (pos:=p) h4;refine PE.imp (yv q1 q2 q3 (λe=>?_) (by rw[q4];exact le)) λσ H Q hq=>?_
 .rw[e]at q4
  cases l with
  |nil=>cases h3
  |cons=>cases q4
 obtain⟨G,F,δ,d,δ',ok,ev,post⟩:=hq;cases ev;intro a ha;refine qK (R:=id) (Q:=λps H2=>H2 a=some (.dK [])/\∃kvs:List (Key×V),ps=kvs.map (λkv=>(kV kv.1,kv.2))/\kvs.length<=15/\Q (.ref a) (upd H2 a (.dK (jw [] kvs)))) ⟨bK,l.map λp=>(.inr p.1,V.int p.2),?_,by rw[ak];exact le,?_⟩
 .rw[jS];rfl
 have em:jw [] (l.map λp=>((.inr p.1:Key),V.int p.2))=zk (l.map iL) (l.map λp=>V.int p.2):=vt (ks:=[]) (vs:=[]) nd rfl;rw[em,xW];obtain⟨o1,o2,o3,o4⟩:=ok.laid ha (.dK (zk (l.map iL) (l.map λp=>V.int p.2)));refine post _ _ F o2 (λ_=>o3) o1 (eN ?_);unfold Rel;exact⟨a,_,rfl,.inl bK,o4,nd,by rw[ak,ak],qQ⟩
def FA{c:Ck}{k:Nat}(C:Cok X c cx k){i j:Nat}{x:aE}(h:ckE c (.dsv i j) x=true):PE X x (tE X.K cx (.dsv i j)):=by
 obtain⟨ks,vs,p,rfl,a1⟩:=oI h;obtain⟨_,rfl,a2⟩:=cA a1;obtain⟨_,rfl,a3⟩:=cA a2;obtain⟨_,rfl,a4⟩:=lB a3;obtain⟨_,_,rfl,a5⟩:=ba a4;obtain⟨_,_,rfl,a6⟩:=ba a5;rw[aa]at a6;obtain⟨n1,n2,n3,n4⟩:=C.name a6.1;obtain⟨m1,m2,m3,m4⟩:=C.name a6.2;refine PE.imp (yv (uV (fJ n1 n2 n3 n4) (fJ m1 m2 m3 m4) yt) rfl rfl ↥0 (by show 1<=15;decide)) λσ H Q hq=>?_;obtain⟨G,F,δ,d,δ',ok,ev,post⟩:=hq;simp only[evE]at ev;split at ev
 .rename_i t d ei ej;cases ev;obtain⟨v,e1,r1⟩:=ok.sl i _ ei;obtain⟨w,e2,r2⟩:=ok.sl j _ ej;have e3:v=.str t:=r1;subst e3;intro a ha;refine⟨_,e1,w,e2,bK,[(.inr t,w)],rfl,by show 1<=15;decide,?_⟩;show Q _ (upd (upd H a _) a (.dK (zk [t] [w])));rw[xW];obtain⟨o1,o2,o3,o4⟩:=ok.laid ha (.dK (zk [t] [w]));refine post _ _ F o2 (λ_=>o3) o1 (eN ?_);unfold Rel;exact⟨a,_,rfl,.inl bK,o4,↥0,rfl,aH.one (Rel.step ok.fd o2 _ _ r2)⟩
 .cases ev
end
end PP
end
section
namespace PP
open PySem L2 PyProof.Rows
variable[Tbs]
section
variable{cx:Cl}{k:Nat}
def gU:∀{es:Es},iY es=true->qj es=true
 |.nil,_=>rfl
 |.cons e es,h=>by
  have h':(!bp e&&iY es)=true:=h;rw[aa]at h';show((!bp e||npS es)&&qj es)=true;rw[h'.1,gU h'.2];rfl
def iq:∀{es:Es}{ys:List aE},iS c es ys=true->(backTo pos (starEach ys env)).any (·.1)=false
 |.nil,ys,h=>by obtain⟨rfl,_⟩:=di h;rfl
 |.cons e es,ys,h=>by
  obtain⟨_,_,rfl,hh⟩:=cF h;rw[aa]at hh;rw[bu (bq hh.1)];show(false||(backTo pos (starEach _ env)).any (·.1))=false;rw[iq hh.2];rfl
def iu(C:Cok X c cx k)(h:me c sc=true):ki X sc:=by
 unfold me at h;rw[aa,bO]at h;obtain⟨h1,h2⟩:=h
 have q:∀p∈sc.names,p.2≠.cell/\(p.2=.local->sc.names.lookup p.1=some .local)/\(p.2=.free->c.sc.names.lookup p.1=some .cell\/c.sc.names.lookup p.1=some .free):=λp hp=>by
  have z:=h2 p hp;rw[aa,aa]at z;obtain⟨⟨a,b⟩,d⟩:=z;refine⟨of_decide_eq_true a,λe=>?_,λe=>?_⟩
  .rw[bH]at b;rcases b with b|b
   .simp[e]at b
   .exact of_decide_eq_true b
  .rw[bH]at d;rcases d with d|d
   .simp[e]at d
   .split at d
    .exact .inl ‹_›
    .exact .inr ‹_›
    .cases d
 exact⟨of_decide_eq_true h1,λy hy=>(q y hy).1,λy hy e=>(q y hy).2.1 e,λx hx=>C.kc x ((q _ hx).2.2 rfl)⟩
def gu(C:Cok X c cx k)(h:me c sc=true)(hn:Nc.Nodup)(cl:List (Str×av))(Ca:av)(s:au)(H:Hp)(fp:List av):Cok (cxC X sc cl Ca Nc s H fp) ⟨Nc,sc,c.fns,c.gn⟩ cx k:=by
 have S:=iu C h;have kd:∀x,(cxC X sc cl Ca Nc s H fp).env.kindOf x=(sc.names.lookup x).map λk=>if(k==bR&&X.env.scope.kind==.function&&X.env.kindOf x==some .cell)then kO else k:=λx=>nu x
 refine⟨rfl,hn,λx hx=>?_,λx hx=>?_,λx hx=>?_,λx hx=>?_,C.calm,rfl,C.room,C.fns,C.fnO,C.fnD,C.blt,C.glob,C.gsome,C.gds,C.pos⟩
 .have e:=kd x;show(cxC X sc cl Ca Nc s H fp).env.kindOf x=some .local\/(cxC X sc cl Ca Nc s H fp).env.kindOf x=some .cell\/(cxC X sc cl Ca Nc s H fp).env.kindOf x=some .free;rw[e];rcases hx with hx|hx|hx
  .rw[hx];exact .inl rfl
  .exact absurd rfl (S.nocell _ (PySem.mem_of_lookup hx))
  .rw[hx];simp only[bo];split
   .exact .inr (.inl rfl)
   .exact .inr (.inr rfl)
 .show(cxC X sc cl Ca Nc s H fp).env.kindOf x=some .globalImplicit;rw[kd x];have hx:sc.names.lookup x=some .globalImplicit:=hx;rw[hx];rfl
 .have:sc.names.lookup x=some .local:=by
   rcases hx with hx|hx
   .exact hx
   .exact absurd rfl (S.nocell _ (PySem.mem_of_lookup hx))
  have e:(cxC X sc cl Ca Nc s H fp).env.kindOf x=some .local:=by rw[kd x,this];rfl
  exact⟨.inl e,.inr e⟩
 .rw[kd x];have hx:sc.names.lookup x=some .cell\/sc.names.lookup x=some .free:=hx;rcases hx with hx|hx
  .exact absurd rfl (S.nocell _ (PySem.mem_of_lookup hx))
  .rw[hx];simp only[bo];split
   .exact .inl rfl
   .exact .inr rfl
def iZ(h:namesOk c sc Nc=true):Nc.Nodup/\∀i x,i<c.N.length->Nc[i]?=some x->Vis sc x->c.N[i]?=some x/\sc.names.lookup x=some .free:=by
 unfold namesOk at h;rw[aa,bO]at h;refine⟨of_decide_eq_true h.1,λi x hi e v=>?_⟩;have z:=h.2 i (by simpa using hi);rw[e]at z;dsimp only at z;rw[bH,aa]at z
 have vb:zu sc x=true:=by
  unfold zu;rcases v with v|v|v<;>rw[v]
 rcases z with z|⟨z1,z2⟩
 .rw[vb]at z;cases z
 .exact⟨of_decide_eq_true z1,of_decide_eq_true z2⟩
def vF{X:Cx}{c:Ck}{Nc:List Str}{kk:Nat}{tg:Tg}{src:It}{ifs:Eo}{elt:E}{pins:List (av×Obj)}{s:au}{σ:L2.St}{H:Hp}{Q:VK}(C:Cok X c cx k)(I:Inv X pins σ H s)(n:(!bp elt)=true)(hk:Nc.length=c.N.length+kk)(hge:wj c.N.length tg=true)
 {G:Gh}{F:av->Prop}{δ δ':Loc}{d:D}(ok:Ok X.K G F σ H δ)(ev:evE cx (.comp kk tg src ifs elt) δ=some (d,δ'))
 (q:∀p ys xs H1 F1 H2 F2,d=.lst ys->Step G F H F1 H1->Step G F1 H1 F2 H2->H1 p=none->G.free p->Ok X.K (G.and p) F2 σ H2 δ'->H2 p=some (.lst xs)->aH X.K H2 F2 ys xs->(np (.comp kk tg src ifs elt)=true->Sim H H2)->Q (.ref p) H2) :
 tLC (Nc.length-X.N.length) (tI X.K cx src) (gTg X.K tg) (tG X.K cx ifs) (tE X.K cx elt) σ H Q:=by
 obtain⟨ds,δ1,ys,ei,ec,hz,rfl⟩:=Hr ev;have ek:Nc.length-X.N.length=kk:=by rw[C.hN,hk];lia
 rw[ek];refine⟨G,F,δ,ds,δ1,ok,ei,λJ H1 F1 st1 sm1 ok1 wk=>λp hp=>?_⟩;have hg:=ok1.free hp;refine xB n (by rw[I.len,C.hN];exact hge) ok1 (wk _) hp ec hz λσ' H2 F2 xs ok2 eD rl st2 sm2=>?_;refine q p ys xs H1 F1 H2 F2 rfl st1 st2 hp hg ok2 eD rl λz=>?_;have z':(npI src&&npO ifs&&np elt)=true:=z;rw[aa,aa]at z';exact(sm1 z'.1.1).trans (sm2 (by rw[z'.1.2,z'.2];rfl))
def DZ{X:Cx}{c:Ck}{Nc:List Str}{kk:Nat}{tg:Tg}{src:It}{ifs:Eo}{elt:E}{pins:List (av×Obj)}{s:au}{σ:L2.St}{H:Hp}{Q:VK}(C:Cok X c cx k)(I:Inv X pins σ H s)(n:(!bp elt)=true)(hk:Nc.length=c.N.length+kk)(hge:wj c.N.length tg=true)
 (h:tE X.K cx (.comp kk tg src ifs elt) σ H Q):tLC (Nc.length-X.N.length) (tI X.K cx src) (gTg X.K tg) (tG X.K cx ifs) (tE X.K cx elt) σ H Q:=by
 obtain⟨G,F,δ,d,δ',ok,ev,post⟩:=h;refine vF C I n hk hge ok ev λp ys xs H1 F1 H2 F2 e st1 st2 hp hg ok2 eD rl sm=>?_;subst e
 have st':Step G F1 H1 (λb=>F2 b/\b≠p) H2:=⟨st2.keep,λb z=>st2.grow b z.1,λb o r f e=>by
  obtain⟨a1,a2⟩:=st2.res b o r f e;exact⟨⟨a1,λw=>by rw[w,hp]at e;cases e⟩,a2⟩,st2.tb⟩
 refine post (.ref p) H2 _ (st1.trans st') sm (ok2.leave hg) (eN ?_);unfold Rel;exact⟨p,xs,rfl,.inl ⟨.inl eD,λz=>z.2 rfl⟩,aH.less ok2.fd (λb z=>z.1) rl⟩
def BB(C:Cok X c cx k)(n:(!bp elt)=true)(hk:Nc.length=c.N.length+kk)(hge:wj c.N.length tg=true)(hs:me c sc=true)(hn:namesOk c sc Nc=true)
 (htg:∀cl Ca s H fp,PG (cxC X sc cl Ca Nc s H fp) t (gTg X.K tg))(hI:PI X t it (tI X.K cx src))(hG:∀cl Ca s H fp,PTs (cxC X sc cl Ca Nc s H fp) il (tG X.K cx ifs))(hE:∀cl Ca s H fp,PE (cxC X sc cl Ca Nc s H fp) ex (tE X.K cx elt))
 (hset:∀v,foldedSetIterable it X.env v=pure v):PE X (.ListComp ex [⟨t,it,il,0⟩] sc pos) (tE X.K cx (.comp kk tg src ifs elt)):=by
 obtain⟨nd,hvis⟩:=iZ hn;intro pins s σ H Q I h;refine CD (Nc:=Nc) C.calm (iu C hs) (λi x hi=>by rw[C.hN]at hi |-;exact hvis i x hi) (by rw[C.hN,hk];lia) hI htg hG hE hset pins s σ H Q I ?_;exact DZ C I n hk hge h
def call_of{X:Cx}{c:Ck}{f:Nat}{es:Es}{n:Str}{p pos:Pos}{xs:List aE}(C:Cok X c cx k)(hA:PA X xs (tEs X.K cx es)) (h:(match c.fns[f]? with
 |some (m,ps)=>decide (m=n)&&dm c n&&decide (ps.length=DQ es)&&iS c es xs&&iY es&&!xs.isEmpty
 |none=>false)=true):PE X (.Call (.Name n p) xs [] pos) (tE X.K cx (.call f es)):=by
 split at h
 .rename_i m ps ef;simp only[aa]at h;obtain⟨⟨⟨⟨⟨h1,h2⟩,h3⟩,h4⟩,h5⟩,h6⟩:=h;have e:=of_decide_eq_true h1;subst e;obtain⟨a,fd,hm,hk,hb,fn⟩:=C.fns f _ _ ef;obtain⟨g1,g2,g3⟩:=C.global h2
  cases xs with
  |nil=>simp at h6
  |cons y ys =>
   obtain⟨_,_,_,a1,a2⟩:=fL h4;exact BC h5 fn C.room g1 hm hk hb hA g2 (bu (bq a1) _ _) (iq a2)
 .cases h
def LH(C:Cok X c cx k)(hg:dm c (rG f)=true)(ht:tyName f=none)(hA:PA X (y::ys) (tEs X.K cx es))(h:iS c es (y::ys)=true):PE X (.Call (.Name (rG f) p) (y::ys) [] pos) (tE X.K cx (.blt f es)):=by
 obtain⟨g1,g2,g3⟩:=C.global hg;obtain⟨e,es',rfl,h1,h2⟩:=fL h;have he:=bu (bq h1) ys X.env;have hpl:=iq (env:=X.env) (pos:=pos) h2
 cases f with
 |len=>exact iC GS rfl (gB LC g1 (C.blt _ ⇑0) rfl hA g3 g2 he hpl)
 |max=>exact iC maxD rfl (gB (LA C.calm) g1 (C.blt _ ⇑0) rfl hA g3 g2 he hpl)
 |toInt=>exact iC sg rfl (ia LD g1 (C.blt _ ⇑0) rfl hA g3 g2 he hpl)
 |toStr=>exact iC sf rfl (ia Lz g1 (C.blt _ ⇑0) rfl hA g3 g2 he hpl)
 |toTup=>exact iC se rfl (ia Lx g1 (C.blt _ ⇑0) rfl hA g3 g2 he hpl)
 |toLst=>exact iC mT rfl (ia LB g1 (C.blt _ ⇑0) rfl hA g3 g2 he hpl)
 |all=>exact iC HA rfl (gB (LF C.calm) g1 (C.blt _ ⇑0) rfl hA g3 g2 he hpl)
 |sum=>exact iC Ff rfl (gB (Ly C.calm) g1 (C.blt _ ⇑0) rfl hA g3 g2 he hpl)
 |_=>cases ht
end
end PP
end
section
namespace PP
open PySem PySem.Spec PyProof.Rows
open Builtin.SmallTypes (nextOf)
section
variable{P:aQ}{w:bD}{A:bE}{E:ai->au->Prop}{s:au}
end
end PP
end
section
namespace PP
open PySem PySem.Spec L2 PyProof.Rows
open Builtin.SmallTypes (nextOf)
section
variable{X:Cx}{pins:List (av×Obj)}{σ:L2.St}{H:Hp}{s:au}{A:bE}{E:ai->au->Prop}
end
end PP
end
section
namespace PP
open PySem PySem.Spec L2 PyProof.Rows
section
variable{prog:aQ}{w:bD}{A:bE}{E:ai->au->Prop}{s:au}
end
end PP
end
section
namespace PP
open PySem L2 PyProof.Rows
variable[Tbs]
section
variable{X:Cx}{c:Ck}{cx:Cl}{k:Nat}
end
section
variable{cx:Cl}{k:Nat}
def jW{c:Ck}{tg:Tg}{ts:List Str}{kk:Nat}(h:ts.length=kk):(mn ts c.N++ts).length=c.N.length+kk:=by
 unfold mn;rw[az,ak,h]
def mG{c:Ck}{t:It}{x tg:aE}(h:ckI c t tg x=true)(env:Env)(v:ai):foldedSetIterable x env v=pure v:=by
 cases t with
 |rng e=>obtain⟨_,_,_,_,rfl,_⟩:=dB h;rfl
 |rev e=>obtain⟨_,_,_,_,rfl,_⟩:=dB h;rfl
 |sq e =>
  have h:(ckE c e x&&!bp e)=true:=h;rw[aa]at h;exact DE (bq h.1) env v
def hU{X:Cx}{c:Ck}{f:Blt}{es:Es}{x:aE}(C:Cok X c cx k)(h:ckE c (.blt f es) x=true)(hE:∀e y,es=.cons e .nil->ckE c e y=true->PE X y (tE X.K cx e))(hA:∀xs,iS c es xs=true->qj es=true->PA X xs (tEs X.K cx es)) :
 PE X x (tE X.K cx (.blt f es))/\∀whole,isTrue x X.env whole=(do let v <- whole;standAt x.pos;holding [v] (truthy v)):=by
 obtain⟨n,np,xs,p,rfl,hh⟩:=dB h;refine⟨?_,λ_=>rfl⟩;simp only[aa]at hh;obtain⟨⟨h1,h2⟩,h3⟩:=hh;have e:=of_decide_eq_true h1;subst e
 cases hT:tyName f with
 |some T =>
  rw[hT]at h3;obtain⟨y,w,rfl,h4⟩:=fS h3;obtain⟨t,tp,rfl,h5⟩:=ba h4;simp only[aa]at h5;obtain⟨⟨⟨a1,a2⟩,a3⟩,a4⟩:=h5;have et:=of_decide_eq_true a1
  cases es with
  |nil=>exact absurd (di a3).1 ↥0
  |cons e es' =>
   obtain⟨_,_,q0,a3'⟩:=cF a3;cases q0;rw[aa]at a3'
   cases es' with
   |cons _ _=>obtain⟨_,_,q0,_⟩:=cF a3'.2;cases q0
   |nil =>
    have q:=hE e y rfl a3'.1;obtain⟨t1,t2,t3⟩:=C.global a2
    have tb:t∈jg:=by
     subst et;cases f<;>simp[tyName]at hT<;>subst hT<;>decide
    have hs:starEach [y,.Name t tp] X.env=[(false,eval y X.env),(false,eval (.Name t tp) X.env)]:=by rw[bu (bq a3'.1)];rfl
    have nm:rG f=("isinstance":Str):=by cases f<;>simp[tyName]at hT<;>rfl
    rw[nm]at h2 |-;obtain⟨g1,_,_⟩:=C.global h2
    exact JF hT et g1 (C.blt _ ⇑0) t1 (C.blt _ tb) q hs
 |none =>
  rw[hT]at h3;simp only[aa]at h3;obtain⟨⟨b1,b2⟩,b3⟩:=h3
  cases xs with
  |nil=>simp at b1
  |cons y ys=>exact LH C h2 hT (hA _ b2 b3) b2
def mtT{X:Cx}{c:Ck}{m:Mt}{a b:E}{x:aE}(C:Cok X c cx k)(h:ckE c (.mt m a b) x=true)(hA:∀y,ckE c a y=true->PE X y (tE X.K cx a))(hB:∀y,ckE c b y=true->PE X y (tE X.K cx b)) :
 PE X x (tE X.K cx (.mt m a b))/\∀whole,isTrue x X.env whole=(do let v <- whole;standAt x.pos;holding [v] (truthy v)):=by
 obtain⟨_,_,_,_,_,rfl,hln,hh⟩:=ka h;obtain⟨_,rfl,h9⟩:=cA hh;rw[aa]at h9;obtain⟨h9,h6⟩:=h9;simp only[aa]at h9;obtain⟨⟨⟨⟨h1,h2⟩,h3⟩,h4⟩,h5⟩:=h9;have e:=of_decide_eq_true h1;subst e;refine⟨?_,λ_=>rfl⟩;exact JD C.units h4 h5 (hA _ h2) (hB _ h3) hln (zc h6) (bu (bq h3) [] X.env) (by rw[bu (bq h3)];rfl)
def ixT{X:Cx}{c:Ck}{a b:E}{x:aE}(C:Cok X c cx k)(h:ckE c (.ix a b) x=true)(hA:∀y,ckE c a y=true->PE X y (tE X.K cx a))(hB:∀y,ckE c b y=true->PE X y (tE X.K cx b)) :
 PE X x (tE X.K cx (.ix a b))/\∀whole,isTrue x X.env whole=(do let v <- whole;standAt x.pos;holding [v] (truthy v)):=by
 obtain⟨_,_,_,rfl,hq1⟩:=gC h;simp only[aa]at hq1;obtain⟨⟨⟨h1,h2⟩,h3⟩,h4⟩:=hq1;exact⟨JE h3 (hA _ h1) (hB _ h2) (yN (bq h2)),λ_=>rfl⟩
def Eg{X:Cx}{c:Ck}{f:Nat}{es:Es}{x:aE}(C:Cok X c cx k)(h:ckE c (.call f es) x=true)(hA:∀xs,iS c es xs=true->qj es=true->PA X xs (tEs X.K cx es)) :
 PE X x (tE X.K cx (.call f es))/\∀whole,isTrue x X.env whole=(do let v <- whole;standAt x.pos;holding [v] (truthy v)):=by
 obtain⟨n,np,xs,p,rfl,hh⟩:=dB h;refine⟨?_,λ_=>rfl⟩;have h':=hh;split at h'
 .simp only[aa]at h';exact call_of C (hA _ h'.1.1.2 (gU h'.1.2)) hh
 .cases h'
def noT(h:∀δ,evT cx e δ=none):PT X x (tT X.K cx e):=λpins s σ H Q I q=>by
 obtain⟨G,F,δ,b,δ',ok,ev,post⟩:=q;rw[h]at ev;cases ev
def noE{X:Cx}{e:E}{x:aE}(h:∀δ,evE cx e δ=none):PE X x (tE X.K cx e):=λpins s σ H Q I q=>by
 obtain⟨G,F,δ,b,δ',ok,ev,post⟩:=q;rw[h]at ev;cases ev
mutual
theorem cq:∀(e:E)(X:Cx)(c:Ck)(x:aE),Cok X c cx k->ckE c e x=true->PE X x (tE X.K cx e)
 |.var i,X,c,x,C,h=>by
  obtain⟨_,_,rfl,hq1⟩:=ba h;replace h:=hq1
  .obtain⟨n1,n2,n3,n4⟩:=C.name h
   exact Fi n1 n2 n3 n4
 |.pk i,X,c,x,C,h=>by
  obtain⟨_,_,rfl,hq1⟩:=ba h;replace h:=hq1
  .obtain⟨n1,n2,n3,n4⟩:=C.name h
   exact JC n1 n2 n3 n4
 |.glob g,X,c,x,C,h=>by
  obtain⟨_,_,rfl,hq1⟩:=ba h;replace h:=hq1
  .rw[aa]at h;have e:=of_decide_eq_true h.1;obtain⟨g1,g2,g3⟩:=C.global h.2;obtain⟨d,hd⟩:=C.gsome g _ e;obtain⟨u,v,hm,r,hr⟩:=C.glob g _ d e hd
   exact BA g1 hm r (λd' hd'=>by rw[hd]at hd';cases hd';exact hr) g2
 |.int i,X,c,x,C,h=>by
  obtain⟨_,_,_,rfl,hq1⟩:=jv h;obtain⟨_,rfl,hq2⟩:=CS hq1;replace h:=hq2
  .have e:=of_decide_eq_true h;subst e;exact Fw
 |.bl i,X,c,x,C,h=>by
  obtain⟨_,_,_,rfl,hq1⟩:=jv h;obtain⟨_,rfl,hq2⟩:=Kw hq1;replace h:=hq2
  .have e:=of_decide_eq_true h;subst e;exact JG
 |.non,X,c,x,C,h=>by
  obtain⟨_,_,_,rfl,hq1⟩:=jv h;replace h:=hq1;have e:=Du h;subst e
  exact Fs
 |.str i,X,c,x,C,h=>by
  obtain⟨_,_,_,rfl,hq1⟩:=jv h;obtain⟨_,rfl,hq2⟩:=wN hq1;replace h:=hq2
  .have e:=of_decide_eq_true h;subst e;exact Fl
 |.bin op a b,X,c,x,C,h=>by
  obtain⟨_,_,_,_,rfl,hq1⟩:=vd h;replace h:=hq1
  .simp only[aa]at h;obtain⟨⟨⟨h1,h2⟩,h3⟩,h4⟩:=h
   exact FH h1 h4 (cq a X c _ C h2) (cq b X c _ C h3)
 |.cmp op a b,X,c,x,C,h=>by
  obtain⟨_,_,_,_,rfl,hq1⟩:=fA h;obtain⟨_,rfl,hq2⟩:=cA hq1;obtain⟨_,rfl,hq3⟩:=cA hq2;replace h:=hq3
  .simp only[aa]at h;obtain⟨⟨⟨h1,h2⟩,h3⟩,h4⟩:=h
   exact FF C.units h1 h4 (cq a X c _ C h2) (cq b X c _ C h3) (kF (bq h3) _)
 |.and a b,X,c,x,C,h=>by
  obtain⟨o,_,p,rfl,hq1⟩:=kD h;obtain⟨y,r,rfl,hq2⟩:=cF hq1;obtain⟨z,r2,rfl,hq3⟩:=cF hq2;simp only[aa]at hq3;obtain⟨⟨⟨⟨h0,h1⟩,h2⟩,h3⟩,h4⟩:=hq3;cases o<;>first|(cases h0;done)|skip
  cases r2 with
  |nil=>exact snd_and h3 h4 (cq a X c _ C h1) (wL (cq b X c _ C h2))
  |cons w r=>exact snd_and h3 h4 (cq a X c _ C h1) (cq b X c _ C h2)
 |.or a b,X,c,x,C,h=>by
  obtain⟨o,_,p,rfl,hq1⟩:=kD h;obtain⟨y,r,rfl,hq2⟩:=cF hq1;obtain⟨z,r2,rfl,hq3⟩:=cF hq2;simp only[aa]at hq3;obtain⟨⟨⟨⟨h0,h1⟩,h2⟩,h3⟩,h4⟩:=hq3;cases o<;>first|(cases h0;done)|skip
  cases r2 with
  |nil=>exact Bz h3 h4 (cq a X c _ C h1) (wL (cq b X c _ C h2))
  |cons w r=>exact Bz h3 h4 (cq a X c _ C h1) (cq b X c _ C h2)
 |.not a,X,c,x,C,h=>by
  obtain⟨o,_,_,rfl,hh⟩:=oH h;simp only[aa]at hh;obtain rfl:=vx hh.1.1
  exact Fq hh.2 (cq a X c _ C hh.1.2)
 |.neg a,X,c,x,C,h=>by
  obtain⟨o,_,_,rfl,hh⟩:=oH h;simp only[aa]at hh;obtain rfl:=Dv hh.1.1
  exact Ft hh.2 (cq a X c _ C hh.1.2)
 |.ite t a b,X,c,x,C,h=>by
  obtain⟨_,_,_,_,rfl,hq1⟩:=yC h;replace h:=hq1
  .simp only[aa]at h;obtain⟨⟨⟨⟨h1,h2⟩,h3⟩,h4⟩,h5⟩:=h
   exact Fv h4 h5 (md t X c _ C h1) (cq a X c _ C h2) (cq b X c _ C h3)
 |.tup es,X,c,x,C,h=>by
  obtain⟨_,_,_,rfl,hq1⟩:=dJ h;replace h:=hq1
  .rw[aa]at h
   exact Fj h.2 (fz es X c _ C h.1 (gU h.2))
 |.lst es,X,c,x,C,h=>by
  obtain⟨_,_,rfl,hq1⟩:=pI h;replace h:=hq1
  .rw[aa]at h
   exact Fu h.2 (fz es X c _ C h.1 (gU h.2))
 |.ix a b,X,c,x,C,h=>(ixT C h (λy q=>cq a X c y C q) λy q=>cq b X c y C q).1
 |.rvl a hi s,X,c,x,C,h=>by
  obtain⟨_,_,_,rfl,hh⟩:=gC h;obtain⟨_,_,_,_,rfl,h9⟩:=sJ hh;simp only[aa]at h9;obtain⟨h1,h2,h3,h4,h5⟩:=h9;obtain rfl:=cP.mp h1
  exact Fm h5 (cq a X c _ C h2) (zE hi X c _ C h3) (zE s X c _ C h4)
 |.dcc l,X,c,x,C,h=>FE h
 |.dsv i j,X,c,x,C,h=>FA C h
 |.sl a lo hi,X,c,x,C,h=>by
  obtain⟨_,_,_,rfl,hh⟩:=gC h;obtain⟨_,_,o,_,rfl,h9⟩:=sJ hh;simp only[aa]at h9;obtain⟨h0,⟨⟨h1,h2⟩,h3⟩,h4⟩:=h9;obtain rfl:=cP.mp h0
  exact JA (by simpa using h4) (cq a X c _ C h1) (zE lo X c _ C h2) (zE hi X c _ C h3)
 |.call f es,X,c,x,C,h=>(Eg C h λxs h1 h2=>fz es X c xs C h1 h2).1
 |.blt f .nil,X,c,x,C,h=>(hU C h (λe y z=>by cases z) λxs h1 h2=>fz .nil X c xs C h1 h2).1
 |.blt f (.cons e .nil),X,c,x,C,h=>(hU C h (λe' y z h1=>by cases z;exact cq e X c y C h1) λxs h1 h2=>fz (.cons e .nil) X c xs C h1 h2).1
 |.blt f (.cons e (.cons e2 es)),X,c,x,C,h=>(hU C h (λe' y z=>by cases z) λxs h1 h2=>fz (.cons e (.cons e2 es)) X c xs C h1 h2).1
 |.pop i,X,c,x,C,h=>by
  obtain⟨_,_,_,_,_,rfl,hln,hh⟩:=ka h;obtain⟨_,_,rfl,h2⟩:=ba hh;obtain⟨rfl,h3⟩:=di h2;rw[aa]at h3;have e:=of_decide_eq_true h3.1;subst e;obtain⟨n1,n2,n3,n4⟩:=C.name h3.2
  exact Fp n1 n2 n3 n4 hln
 |.bad,X,c,x,C,h=>noE λδ=>rfl
 |.popi i j,X,c,x,C,h=>by
  obtain⟨_,_,_,_,_,rfl,hln,hh⟩:=ka h;obtain⟨_,_,rfl,h2⟩:=ba hh;obtain⟨_,rfl,h3⟩:=cA h2;simp only[aa]at h3;obtain⟨⟨⟨a1,a2⟩,a3⟩,a4⟩:=h3;have e:=of_decide_eq_true a1;subst e;obtain⟨n1,n2,n3,n4⟩:=C.name a2
  exact By n1 n2 n3 n4 hln (cq j X c _ C a3) (bu (bq a3) [] X.env) (by rw[bu (bq a3)];rfl)
 |.gin ng n l e,X,c,x,C,h=>by
  obtain⟨_,_,_,_,rfl,hq1⟩:=fA h;obtain⟨_,rfl,hq2⟩:=cA hq1;obtain⟨_,rfl,hq3⟩:=cA hq2;obtain⟨_,_,rfl,hq4⟩:=ba hq3;simp only[aa]at hq4;obtain⟨⟨⟨⟨⟨h1,h2⟩,h3⟩,h4⟩,h5⟩,h6⟩:=hq4;have e1:=of_decide_eq_true h1;subst e1;obtain⟨a,m1,m2⟩:=C.gds _ _ (of_decide_eq_true h3)
  exact Fy m2 (C.global h2).1 m1 (C.global h2).2.1 h4 h6 (cq e X c _ C h5)
 |.gix n l e,X,c,x,C,h=>by
  obtain⟨_,_,_,rfl,hq1⟩:=gC h;obtain⟨_,_,rfl,hq4⟩:=ba hq1;simp only[aa]at hq4;obtain⟨⟨⟨⟨h1,h2⟩,h3⟩,h4⟩,h5⟩:=hq4;have e1:=of_decide_eq_true h1;subst e1;obtain⟨a,m1,m2⟩:=C.gds _ _ (of_decide_eq_true h3)
  exact Fx m2 (C.global h2).1 m1 (C.global h2).2.1 h5 (cq e X c _ C h4) (λt tk=>yN (bq h4) _ _)
 |.mt m a b,X,c,x,C,h=>(mtT C h (λy q=>cq a X c y C q) λy q=>cq b X c y C q).1
 |.chn o1 o2 a b e,X,c,x,C,h=>by
  obtain⟨_,_,_,_,rfl,hq1⟩:=fA h;obtain⟨_,_,rfl,hq2⟩:=fS hq1;obtain⟨_,_,rfl,hq3⟩:=fS hq2;simp only[aa]at hq3;obtain⟨⟨⟨⟨⟨⟨⟨h1,h2⟩,h3⟩,h4⟩,h5⟩,h6⟩,h7⟩,h8⟩:=hq3
  exact FG C.units h1 h2 h6 h7 h8 (cq a X c _ C h3) (cq b X c _ C h4) (cq e X c _ C h5) (kF (bq h5) _)
 |.dgt a b e,X,c,x,C,h=>by
  obtain⟨_,_,_,_,_,rfl,hln,hh⟩:=ka h;obtain⟨_,_,rfl,h9⟩:=fS hh;simp only[aa]at h9;obtain⟨⟨⟨⟨⟨⟨⟨h1,h2⟩,h3⟩,h4⟩,h5⟩,h6⟩,h7⟩,h8⟩:=h9;have e:=of_decide_eq_true h1;subst e;refine FC (by have:=C.units;lia) h5 h6 h7 (cq a X c _ C h2) (cq b X c _ C h3) (cq e X c _ C h4) ⟨?_,?_,by simpa using hln,?_⟩
  .rcases(bH _ _).mp h8 with h8|h8
   .obtain⟨⟨_,_,_,rfl⟩,_⟩:=cM (b:=true) (by rw[cV];exact h8);rfl
   .obtain⟨⟨_,_,_,rfl⟩,_⟩:=cM (b:=true) (by rw[cV];exact h8);rfl
  .rw[bu (bq h3),bu (bq h4)];rfl
  .rw[bu (bq h3),bu (bq h4)];rfl
 |.comp kk tg src ifs elt,X,c,x,C,h=>by
  obtain⟨_,_,_,_,rfl,hq1⟩:=mj h;obtain⟨_,rfl,hq2⟩:=cA hq1;obtain⟨_,_,_,rfl,hq3⟩:=wU hq2;replace h:=hq3
  .split at h
   .rename_i ts ht;simp only[aa]at h;obtain⟨⟨⟨⟨⟨⟨⟨⟨h1,h2⟩,h3⟩,h4⟩,h5⟩,h6⟩,h7⟩,h8⟩,h9⟩:=h;have nd:=(iZ h4).1
    exact BB C h9 (jW (tg:=tg) (of_decide_eq_true h1)) h2 h3 h4 (λcl Ca s H fp=>mV (gu C h3 nd cl Ca s H fp) h5) (BZ src X c _ _ C h6)
     (λcl Ca s H fp=>JJ ifs _ _ _ (gu C h3 nd cl Ca s H fp) h7) (λcl Ca s H fp=>cq elt _ _ _ (gu C h3 nd cl Ca s H fp) h8) (λv=>mG h6 _ v)
   .cases h
theorem md:∀(e:E)(X:Cx)(c:Ck)(x:aE),Cok X c cx k->ckE c e x=true->PT X x (tT X.K cx e)
 |.var i,X,c,x,C,h=>by
  obtain⟨_,_,rfl,hq1⟩:=ba h;replace h:=hq1
  .obtain⟨n1,n2,n3,n4⟩:=C.name h
   exact uO (.inl rfl) n1 n2 n3 n4
 |.pk i,X,c,x,C,h=>by
  obtain⟨_,_,rfl,hq1⟩:=ba h;replace h:=hq1
  .obtain⟨n1,n2,n3,n4⟩:=C.name h
   exact uO (.inr rfl) n1 n2 n3 n4
 |.chn o1 o2 a b e,X,c,x,C,h=>by
  obtain⟨_,_,_,_,rfl,hq1⟩:=fA h;obtain⟨_,_,rfl,hq2⟩:=fS hq1;obtain⟨_,_,rfl,hq3⟩:=fS hq2;simp only[aa]at hq3;obtain⟨⟨⟨⟨⟨⟨⟨h1,h2⟩,h3⟩,h4⟩,h5⟩,h6⟩,h7⟩,h8⟩:=hq3
  exact BH C.units h1 h2 h6 h7 h8 (cq a X c _ C h3) (cq b X c _ C h4) (cq e X c _ C h5) (kF (bq h5) _)
 |.gin ng n l e,X,c,x,C,h=>by
  obtain⟨_,_,_,_,rfl,hq1⟩:=fA h;obtain⟨_,rfl,hq2⟩:=cA hq1;obtain⟨_,rfl,hq3⟩:=cA hq2;obtain⟨_,_,rfl,hq4⟩:=ba hq3;simp only[aa]at hq4;obtain⟨⟨⟨⟨⟨h1,h2⟩,h3⟩,h4⟩,h5⟩,h6⟩:=hq4;have e1:=of_decide_eq_true h1;subst e1;obtain⟨a,m1,m2⟩:=C.gds _ _ (of_decide_eq_true h3)
  exact BF m2 (C.global h2).1 m1 (C.global h2).2.1 h4 h6 (cq e X c _ C h5)
 |.cmp op a b,X,c,x,C,h=>by
  obtain⟨_,_,_,_,rfl,hq1⟩:=fA h;obtain⟨_,rfl,hq2⟩:=cA hq1;obtain⟨_,rfl,hq3⟩:=cA hq2;replace h:=hq3
  .simp only[aa]at h;obtain⟨⟨⟨h1,h2⟩,h3⟩,h4⟩:=h
   exact BG C.units h1 h4 (cq a X c _ C h2) (cq b X c _ C h3) (kF (bq h3) _)
 |.and a b,X,c,x,C,h=>by
  obtain⟨o,_,p,rfl,hq1⟩:=kD h;obtain⟨y,r,rfl,hq2⟩:=cF hq1;obtain⟨z,r2,rfl,hq3⟩:=cF hq2;simp only[aa]at hq3;obtain⟨⟨⟨⟨h0,h1⟩,h2⟩,h3⟩,h4⟩:=hq3;cases o<;>first|(cases h0;done)|skip
  cases r2 with
  |nil=>exact uQ (md a X c _ C h1) (yo (md b X c _ C h2))
  |cons w r=>exact uQ (md a X c _ C h1) (PT.pw (md b X c _ C h2))
 |.or a b,X,c,x,C,h=>by
  obtain⟨o,_,p,rfl,hq1⟩:=kD h;obtain⟨y,r,rfl,hq2⟩:=cF hq1;obtain⟨z,r2,rfl,hq3⟩:=cF hq2;simp only[aa]at hq3;obtain⟨⟨⟨⟨h0,h1⟩,h2⟩,h3⟩,h4⟩:=hq3;cases o<;>first|(cases h0;done)|skip
  cases r2 with
  |nil=>exact yc (md a X c _ C h1) (JQ (md b X c _ C h2))
  |cons w r=>exact yc (md a X c _ C h1) (PT.pw (md b X c _ C h2))
 |.not a,X,c,x,C,h=>by
  obtain⟨o,_,_,rfl,hh⟩:=oH h;simp only[aa]at hh;obtain rfl:=vx hh.1.1
  exact BE (md a X c _ C hh.1.2)
 |.call f es,X,c,x,C,h=>oB (es:=es) (f:=cx.call f) (Eg C h λxs h1 h2=>fz es X c xs C h1 h2).1 (Eg C h λxs h1 h2=>fz es X c xs C h1 h2).2 rfl (λδ=>rfl) λδ=>by rw[evT]
 |.blt f .nil,X,c,x,C,h=>oB (es:=.nil) (f:=hZ f) (hU C h (λe y z=>by cases z) λxs h1 h2=>fz .nil X c xs C h1 h2).1 (hU C h (λe y z=>by cases z) λxs h1 h2=>fz .nil X c xs C h1 h2).2 rfl (λδ=>rfl) λδ=>by rw[evT]
 |.blt f (.cons e .nil),X,c,x,C,h=>oB (es:=.cons e .nil) (f:=hZ f) (hU C h (λe' y z h1=>by cases z;exact cq e X c y C h1) λxs h1 h2=>fz (.cons e .nil) X c xs C h1 h2).1 (hU C h (λe' y z h1=>by cases z;exact cq e X c y C h1) λxs h1 h2=>fz (.cons e .nil) X c xs C h1 h2).2 rfl (λδ=>rfl) λδ=>by rw[evT]
 |.blt f (.cons e (.cons e2 es)),X,c,x,C,h=>oB (es:=.cons e (.cons e2 es)) (f:=hZ f) (hU C h (λe' y z=>by cases z) λxs h1 h2=>fz (.cons e (.cons e2 es)) X c xs C h1 h2).1 (hU C h (λe' y z=>by cases z) λxs h1 h2=>fz (.cons e (.cons e2 es)) X c xs C h1 h2).2 rfl (λδ=>rfl) λδ=>by rw[evT]
 |.glob _,X,c,x,C,h=>noT λδ=>rfl
 |.int _,X,c,x,C,h=>noT λδ=>rfl
 |.bl _,X,c,x,C,h=>noT λδ=>rfl
 |.non,X,c,x,C,h=>noT λδ=>rfl
 |.str _,X,c,x,C,h=>noT λδ=>rfl
 |.neg _,X,c,x,C,h=>noT λδ=>rfl
 |.gix ..,X,c,x,C,h=>noT λδ=>rfl
 |.mt m a b,X,c,x,C,h=>uP (mtT C h (λy q=>cq a X c y C q) λy q=>cq b X c y C q).1 (mtT C h (λy q=>cq a X c y C q) λy q=>cq b X c y C q).2 λδ k δ' q=>by
  simp only[evT,ae,af]at q;obtain⟨⟨u,δ1⟩,e1,⟨v,δ2⟩,e2,d,e3,t,e4,e5⟩:=q;cases e5
  exact⟨d,by simp only[evE,e1,e2,e3,ae,ah];rfl,e4⟩
 |.dgt _ _ _,X,c,x,C,h=>noT λδ=>rfl
 |.bin ..,X,c,x,C,h=>noT λδ=>rfl
 |.ite ..,X,c,x,C,h=>noT λδ=>rfl
 |.tup _,X,c,x,C,h=>noT λδ=>rfl
 |.lst _,X,c,x,C,h=>noT λδ=>rfl
 |.ix a b,X,c,x,C,h=>uP (ixT C h (λy q=>cq a X c y C q) λy q=>cq b X c y C q).1 (ixT C h (λy q=>cq a X c y C q) λy q=>cq b X c y C q).2 λδ k δ' q=>by
  simp only[evT,ae,af]at q;obtain⟨⟨u,δ1⟩,e1,⟨v,δ2⟩,e2,d,e3,t,e4,e5⟩:=q;cases e5
  exact⟨d,by simp only[evE,e1,e2,e3,ae,ah];rfl,e4⟩
 |.sl ..,X,c,x,C,h=>noT λδ=>rfl
 |.rvl ..,X,c,x,C,h=>noT λδ=>rfl
 |.dcc _,X,c,x,C,h=>noT λδ=>rfl
 |.dsv _ _,X,c,x,C,h=>noT λδ=>rfl
 |.pop _,X,c,x,C,h=>noT λδ=>rfl
 |.bad,X,c,x,C,h=>noT λδ=>rfl
 |.popi _ _,X,c,x,C,h=>noT λδ=>rfl
 |.comp ..,X,c,x,C,h=>noT λδ=>rfl
theorem fz:∀(es:Es)(X:Cx)(c:Ck)(xs:List aE),Cok X c cx k->iS c es xs=true->qj es=true->PA X xs (tEs X.K cx es)
 |.nil,X,c,xs,C,h,_=>by
  obtain⟨rfl,hq1⟩:=di h;replace h:=hq1
  .exact ma
 |.cons e es,X,c,xs,C,h,ho=>by
  obtain⟨_,_,rfl,hq1⟩:=cF h;replace h:=hq1
  .rw[aa]at h;have ho':((!bp e||npS es)&&qj es)=true:=ho;rw[aa]at ho';exact jX ho'.1 (cq e X c _ C h.1) (fz es X c _ C h.2 ho'.2) (bu (bq h.1) _ _)
theorem zE:∀(o:Eo)(X:Cx)(c:Ck)(l:Option aE),Cok X c cx k->ckO c o l=true->PO X l (tO X.K cx o)
 |.no,X,c,l,C,h=>by
  obtain rfl:=cP.mp h
  exact Ib (λe z=>by cases z) λ_=>rfl
 |.yes e,X,c,l,C,h=>by
  obtain⟨_,rfl,hq1⟩:=lB h;replace h:=hq1
  .rw[aa]at h;have q:=cq e X c _ C h.1;exact Ib (λe' z=>by cases z;exact⟨_,rfl,h.2,q⟩) λz=>by cases z
theorem JJ:∀(o:Eo)(X:Cx)(c:Ck)(l:List aE),Cok X c cx k->ckG c o l=true->PTs X l (tG X.K cx o)
 |.no,X,c,l,C,h=>by
  obtain⟨rfl,hq1⟩:=di h;replace h:=hq1
  .intro pins s σ H Q I q;obtain⟨G,F,δ,b,δ',ok,ev,post⟩:=q;simp only[evG]at ev;cases ev
   exact Ga pins s σ H Q I (post H F Step.refl (λ_=>Sim.refl H) ok)
 |.yes e,X,c,l,C,h=>by
  obtain⟨_,rfl,hq1⟩:=cA h;replace h:=hq1
  .have q:=FZ (md e X c _ C h);intro pins s σ H Q I z;obtain⟨G,F,δ,b,δ',ok,ev,post⟩:=z;simp only[evG]at ev;exact q pins s σ H Q I ⟨G,F,δ,b,δ',ok,ev,post⟩
theorem BZ:∀(t:It)(X:Cx)(c:Ck)(x tg:aE),Cok X c cx k->ckI c t tg x=true->PI X tg x (tI X.K cx t)
 |.rng e,X,c,x,tg,C,h=>by
  obtain⟨_,_,_,_,rfl,hq1⟩:=dB h;obtain⟨_,rfl,hq2⟩:=cA hq1;replace h:=hq2
  .simp only[aa]at h;obtain⟨⟨⟨h1,h2⟩,h3⟩,h4⟩:=h;have z:=of_decide_eq_true h1;subst z
   exact Fn h4 (C.global h2).1 (C.blt _ ⇑0) (cq e X c _ C h3) (bu (bq h3) _ _)
 |.rev e,X,c,x,tg,C,h=>by
  obtain⟨_,_,_,_,rfl,hq1⟩:=dB h;obtain⟨_,rfl,hq2⟩:=cA hq1;replace h:=hq2
  .simp only[aa]at h;obtain⟨⟨⟨h1,h2⟩,h3⟩,h4⟩:=h;have z:=of_decide_eq_true h1;subst z
   exact Fo h4 (C.global h2).1 (C.blt _ ⇑0) (cq e X c _ C h3) (bu (bq h3) _ _)
 |.sq e,X,c,x,tg,C,h=>by
  have h:(ckE c e x&&!bp e)=true:=h;rw[aa]at h;exact Jz h.2 (cq e X c x C h.1)
end
end
def kY(K:PySem.W.Frag)(G:Gh)(F:av->Prop)(H:Hp)(o:Out)(E:Ends):Prop:=match o with
 |.nx δ'=>∀σ' H' F',Step G F H F' H'->Ok K G F' σ' H' δ'->E.nx σ' H'
 |.rt d δ'=>∀v σ' H' F',Step G F H F' H'->Ok K G F' σ' H' δ'->Rel K H' F' d v->E.rt v H'
 |.ro d δ'=>∀a v σ' H' F',Step G F H F' H'->Ok K G F' σ' H' δ'->F' a->G.free a->Hand K H' F' a d v->E.rt v H'
def tS(K:PySem.W.Frag)(ev:Loc->Option Out):TS:=λE σ H=>∃G F δ o,Ok K G F σ H δ/\ev δ=some o/\kY K G F H o E
def kY.step{K:PySem.W.Frag}{G:Gh}{F F1:av->Prop}{H H1:Hp}{o:Out}{E:Ends}(st:Step G F H F1 H1)(h:kY K G F H o E):kY K G F1 H1 o E:=by
 cases o with
 |nx δ=>exact λσ' H' F' s k=>h σ' H' F' (st.trans s) k
 |rt d δ=>exact λv σ' H' F' s k r=>h v σ' H' F' (st.trans s) k r
 |ro ds δ=>exact λa xs σ' H' F' s k=>h a xs σ' H' F' (st.trans s) k
def Bv{env:Env}{x z:Str}{px pz pt pt2:Pos}{kt k2}{a b:aE}(hB:env.blockKind=.function)(hx:env.scope.names.lookup x=some .local)(hz:env.scope.names.lookup z=some .local)(hn:x≠z)(hl:px.line=pz.line)(ha:dZ a=true)(hb:dZ b=true)(hf:(foldedForSure 8 a&&foldedForSure 8 b)=false)(hc:(constantsAlone 8 a&&constantsAlone 8 b)=false) :
 swappedStores [.Tuple [.Name x px,.Name z pz] kt pt] (.Tuple [a,b] k2 pt2) env=pure (some [x,z]):=by
 have sa:∀a:aE,dZ a=true->(match a with|.Starred .. => true|_=>false)=false:=λa h=>by
  cases a<;>first|rfl|(exact absurd h aq)
 have k1:env.kindOf x=some .local:=hx;have k2:env.kindOf z=some .local:=hz;have e1:((env.blockKind != .function):Bool)=false:=by rw[hB];rfl
 have s1:=sa a ha;have s2:=sa b hb;have l1:(pz.line==px.line)=true:=by rw[hl];exact beq_self_eq_true _
 have n1:(z==x)=false:=by rw[beq_eq_false_iff_ne];exact hn.symm
 have d1:([x,z].eraseDups.length != [x,z].length)=false:=by
  rw[lP];simp[n1,lP]
 unfold swappedStores;simp only[ag,aN,dH,List.any_nil,e1,s1,s2,List.head?_cons,bo,nW,bw,mQ,k1,k2,Expr.pos,l1,beq_self_eq_true,uu,ite_true,d1,cj,vT,cV,hf,hc,Bool.or_false,Bool.or_self,nY,ur,bne_self_eq_false,↓reduceIte,cK,pure_bind];refine(if_neg ?_).trans (if_neg ?_)
 .exact ne_true_of_eq_false (fm.mpr ⟨s1,s2⟩)
 .rw[mL];exact ne_true_of_eq_false d1
def zy{env:Env}{c:Ck}{t y:aE}(hS:env.scope=c.sc)(h:MR c t=true):swappedStores [t] y env=pure none:=by
 obtain⟨_,_,_,rfl,h1⟩:=dJ h;obtain⟨_,_,rfl,h2⟩:=fS h1;obtain⟨x,px,rfl,h3⟩:=mi h2;obtain⟨z,pz,rfl,h4⟩:=mi h3;have hx:(env.kindOf x==some .local)=false:=beq_eq_false_iff_ne.mpr (by have:=of_decide_eq_true h4;rw[<- hS]at this;exact this);cases y<;>first|rfl|skip
 unfold swappedStores;simp only[ag,aN,bw,mQ,hx,Bool.false_and,cK,ite_false,pure_bind];by_cases q:(env.kindOf z==some .local&&pz.line==px.line)=true<;>simp[q,Expr.pos,lP]
section
variable{X:Cx}{c:Ck}{cx:Cl}{k:Nat}
def PS.imp{s:bG}{t t':TS}(h:PS X s t)(w:∀E σ H,t' E σ H->t E σ H):PS X s t':=λpins s σ H E I q=>h pins s σ H E I (w E σ H q)
def PSs.imp{s:List bG}{t t':TS}(h:PSs X s t)(w:∀E σ H,t' E σ H->t E σ H):PSs X s t':=λpins s σ H E I q=>h pins s σ H E I (w E σ H q)
def BK:PSs X [] (tS X.K (cW cx .nil)):=PSs.imp mh λE σ H zz=>by
 obtain⟨G,F,δ,o,ok,ev,post⟩:=zz;simp only[cW]at ev;cases ev;exact post σ H F Step.refl ok
def qN{s:S}{ss:Ss}{y:bG}{ys:List bG}(h1:PS X y (tS X.K (evS cx s)))(h2:PSs X ys (tS X.K (cW cx ss))):PSs X (y::ys) (tS X.K (cW cx (.cons s ss))):=PSs.imp (jY h1 h2) λE σ H zz=>by
 obtain⟨G,F,δ,o,ok,ev,post⟩:=zz;simp only[cW]at ev
 cases e:evS cx s δ with
 |none=>rw[e]at ev;cases ev
 |some o1 =>
  rw[e]at ev
  cases o1 with
  |nx δ1=>exact⟨G,F,δ,.nx δ1,ok,e,λσ' H' F' st ok'=>⟨G,F',δ1,o,ok',ev,post.step st⟩⟩
  |rt d δ1=>cases ev;exact⟨G,F,δ,_,ok,e,post⟩
  |ro d δ1=>cases ev;exact⟨G,F,δ,_,ok,e,post⟩
def Ei{tg:Tg}{e:E}{δ:Loc}{o:Out}(ev:evS cx (.asg tg e) δ=some o):∃d δ1 δ2,evE cx e δ=some (d,δ1)/\dA δ1 tg d=some δ2/\o=.nx δ2:=by
 simp only[evS,ae,af]at ev;obtain⟨⟨d,δ1⟩,e1,δ2,e2,e3⟩:=ev;cases e3;exact⟨d,δ1,δ2,e1,e2,rfl⟩
def LK{tg:Tg}{e:E}(n:(!bp e)=true){E:Ends}{σ:L2.St}{H:Hp}(h:tS X.K (evS cx (.asg tg e)) E σ H):Bu (tE X.K cx e) (gTg X.K tg) E σ H:=by
 obtain⟨G,F,δ,o,ok,ev,post⟩:=h;obtain⟨d,δ1,δ2,e1,e2,rfl⟩:=Ei ev;exact⟨G,F,δ,d,δ1,ok,e1,λv H1 F1 st sm ok1 r=>ky ok1 (dh n r) e2 λσ' ok2 _=>post σ' H1 F1 st ok2⟩
def uR(C:Cok X c cx k)(hm:(isNm t||!Nf y)=true\/swappedStores [t] y X.env=pure none)(h:qt c tg t=true)(hy:ckE c e y=true)(n:(!bp e)=true)(hs:swapsWithSole [t] y pos.line X.env=pure false)(he:PE X y (tE X.K cx e)):PS X (.Assign [t] y pos) (tS X.K (evS cx (.asg tg e))):=by
 have hh:=bq hy
 have hw:swappedStores [t] y X.env=pure none:=by
  refine hm.elim (λhm=>?_) id;rcases uG h with⟨_,_,rfl⟩|⟨_,_,_,rfl⟩
  .cases y<;>first|rfl|(exact absurd hh aq)
  .cases y<;>first|rfl|(exact absurd hm aq)|(exact absurd hh aq)
 have h1:(assignEach [t] X.env).map (·.2)=[assign t X.env]:=by
  rcases uG h with⟨_,_,rfl⟩|⟨_,_,_,rfl⟩<;>rfl
 exact PS.imp (sF he (mV C h) hs hw h1) λE σ H h=>LK n h
def Jp{α β:Type}{i j:α}{ds:List β}(h:[i,j].length=ds.length):∃a b,ds=[a,b]:=by
 cases ds with
 |nil=>cases h
 |cons a ds =>
  cases ds with
  |nil=>cases h
  |cons b ds =>
   cases ds with
   |nil=>exact⟨a,b,rfl⟩
   |cons c ds=>cases h
def BJ(C:Cok X c cx k)(hS:X.env.scope=c.sc)(hB:X.env.blockKind=.function){i j:Nat}{es:Es}{t y:aE}{pos:Pos}(h:MS c i j es t y=true)(hA:∀a b,iS c es [a,b]=true->iY es=true->PA X [a,b] (tEs X.K cx es)):PS X (.Assign [t] y pos) (tS X.K (evS cx (.asg (.tp [i,j]) (.tup es)))):=by
 obtain⟨_,_,_,rfl,h1⟩:=dJ h;obtain⟨_,_,rfl,h2⟩:=fS h1;obtain⟨x,px,rfl,h3⟩:=mi h2;obtain⟨z,pz,rfl,h4⟩:=mi h3;obtain⟨_,_,_,rfl,h5⟩:=dJ h4;obtain⟨a,b,rfl,h6⟩:=fS h5;clear h h1 h2 h3 h4 h5;have h:=h6;clear h6;simp only[aa,decide_eq_true_eq,de]at h;obtain⟨⟨⟨⟨⟨⟨⟨⟨⟨h1,h2⟩,h3⟩,h4⟩,h5⟩,h6⟩,h7⟩,h8⟩,h9⟩,h10⟩:=h;rw[<- C.hN]at h1 h2;rw[<- hS]at h3 h4;obtain⟨_,_,_,c1,c2⟩:=fL h7;obtain⟨_,_,_,c3,_⟩:=fL c2;refine PS.imp (JT C.calm C.nd' h1 h2 (λw=>h5 ?_) h3 h4 (hA a b h7 h8) (Bv hB h3 h4 h5 h6 (bq c1) (bq c3) h9 h10)) λE σ H⟨G,F,δ,o,ok,ev,post⟩=>?_
 .rw[w]at h1;exact bU (h1.symm.trans h2)
 obtain⟨d,δ1,δ2,e1,e2,rfl⟩:=Ei ev;simp only[evE,ae,af]at e1;obtain⟨⟨ds,δ3⟩,ea,e3⟩:=e1;split at e3
 .cases e3;unfold dA at e2;dsimp only at e2;split at e2
  .rename_i hh;cases e2;refine⟨G,F,δ,ds,_,ok,ea,λvs H1 F1 st sm ok1 r=>?_⟩;have r:=r.rl h8;obtain⟨d1,d2,rfl⟩:=Jp hh.1;have q:=hh.2;simp only[cj,vT,cV,aa,decide_eq_true_eq]at q;obtain⟨v1,vs1,rfl,r1,q1⟩:=r;obtain⟨v2,vs2,rfl,r2,q2⟩:=q1;obtain rfl:vs2=[]:=q2;exact⟨v1,v2,rfl,post _ H1 F1 st ((ok1.set q.1 r1).set (by rw[bb];exact q.2) r2)⟩
  .cases e2
 .cases e3
def tN(K:PySem.W.Frag)(cx:Cl)(e:E):TE:=λσ H Q=>∃G F δ ds δ',Ok K G F σ H δ/\evE cx e δ=some (.lst ds,δ') /\
 ∀p xs H1 F1,Step G F H F1 H1->Ok K G F1 σ H1 δ'->H1 p=none->aH K H1 F1 ds xs->Q (.ref p) (upd H1 p (.lst xs))
def Gp{K:PySem.W.Frag}{G:Gh}{F1:av->Prop}{σ:L2.St}{H1:Hp}{δ1:Loc}{i:Nat}{p:av}{ds:List D}{xs:List V}(ok1:Ok K G F1 σ H1 δ1)(hp:H1 p=none)(rl:aH K H1 F1 ds xs)(hi:i<δ1.length) :
 Ok K G (λb=>F1 b\/b=p) (σ.set i (some (.ref p))) (upd H1 p (.lst xs)) (δ1.set i (.own ds))/\Step G F1 H1 (λb=>F1 b\/b=p) (upd H1 p (.lst xs)):=by
 obtain⟨o1,o2⟩:=ok1.enter hp xs;refine⟨(o1.keep).own hi (.inr rfl) (ok1.free hp) bK (aH.step ok1.fd o2 ds xs rl) λj s e ho z=>?_,o2⟩;obtain⟨a,u,d,e1,_,_,e2,_⟩:=eV.ow (ok1.sl j _ e) ho;rw[z]at e1;cases e1;rw[hp]at e2;cases e2
def BL(C:Cok X c cx k){i:Nat}{e:E}{t:Str}{y:aE}{pos p2:Pos}(h:fU c i t=true)(hy:ckE c e y=true)(nc:(!ke y)=true)(he:PE X y (tN X.K cx e)):PS X (.Assign [.Name t p2] y pos) (tS X.K (evS cx (.new i e))):=by
 obtain⟨n1,n2,n3⟩:=C.to h;have nc':ke y=false:=by simpa using nc
 refine PS.imp (Ct C.nd' n1 n2 he (head_swaps (bq hy) nc' _ _ _) n3) λE σ H zz=>?_;obtain⟨G,F,δ,o,ok,ev,post⟩:=zz;simp only[evS,ae,af]at ev;obtain⟨⟨d,δ1⟩,e1,ev⟩:=ev
 cases d with
 |lst ds =>
  dsimp only at ev;split at ev
  .cases ev;refine⟨G,F,δ,ds,δ1,ok,e1,λp xs H1 F1 st ok1 hp rl=>?_⟩;obtain⟨o1,o2⟩:=Gp ok1 hp rl ‹_›;exact post _ _ _ (st.trans o2) o1
  .cases ev
 |_=>cases ev
def BY(n:iY es=true)(h:PA X xs (tEs X.K cx es)):PE X (.List xs pos) (tN X.K cx (.lst es)):=by
 refine PE.imp (CC h) λσ H Q h=>?_;obtain⟨G,F,δ,d,δ',ok,ev,post⟩:=h;simp only[evE,ae,af]at ev;obtain⟨⟨ds,δ1⟩,ea,ev⟩:=ev;split at ev
 .rename_i hz;cases ev;refine⟨G,F,δ,ds,δ1,ok,ea,λvs H1 F1 st1 sm1 ok1 r1=>?_⟩;have r:=r1.rl n;exact⟨by rw[r.length];exact hz,λp hp=>post p vs H1 F1 st1 ok1 hp r⟩
 .cases ev
def zF(C:Cok X c cx k){es:Es}{p pos:Pos}{y:aE}{ys:List aE}(hg:dm c (rG .toLst)=true)(hA:PA X (y::ys) (tEs X.K cx es))(h:iS c es (y::ys)=true):PE X (.Call (.Name (rG .toLst) p) (y::ys) [] pos) (tN X.K cx (.blt .toLst es)):=by
 obtain⟨g1,g2,g3⟩:=C.global hg;obtain⟨e,es',rfl,h1,h2⟩:=fL h;have he:=bu (bq h1) ys X.env;have hpl:=iq (env:=X.env) (pos:=pos) h2;refine PE.imp (ia mH g1 (C.blt _ ⇑0) rfl hA g3 g2 he hpl) λσ H Q h=>?_;obtain⟨G,F,δ,ds,δ',ok,ev,post⟩:=h;simp only[evE]at ev;obtain⟨zs,ea,hd⟩:=yS ev;refine⟨G,F,δ,zs,δ',ok,ea,λvs H1 F1 st1 sm1 ok1 r1=>?_⟩;have r:=r1.bl;change mT zs=some (D.lst ds)at hd;unfold mT at hd;split at hd
 .cases hd;obtain⟨v,rfl,r9⟩:=b1 r;obtain⟨a,ws,rfl,h1,h2⟩:=r9.lst;exact⟨a,ws,rfl,.inl h1.sq,λl hl=>post l ws H1 F1 st1 ok1 hl h2⟩
 .cases hd;obtain⟨v,rfl,r9⟩:=b1 r;obtain⟨a,ws,rfl,h1,h2⟩:=r9.tup;exact⟨a,ws,rfl,.inr h1,λl hl=>post l ws H1 F1 st1 ok1 hl h2⟩
 .cases hd
def FL{a:E}{lo hi:Eo}{y:aE}{l h:Option aE}{pos p2:Pos}(pc:(!bp a||(npO lo&&npO hi))=true)(ha:PE X y (tE X.K cx a))(hl:PO X l (tO X.K cx lo))(hh:PO X h (tO X.K cx hi)):PE X (.Subscript y (.Slice l h none p2) pos) (tN X.K cx (.sl a lo hi)):=by
 refine PE.imp (uW ye ha hl hh) λσ H Q h=>?_;obtain⟨G,F,δ,ds,δ',ok,ev,post⟩:=h;simp only[evE,ae,af]at ev;obtain⟨⟨x,δ1⟩,ea,⟨l',δ2⟩,eb,⟨h',δ3⟩,ec,d',hd,e⟩:=ev;cases e;dsimp only at eb ec hd post;refine⟨G,F,δ,x,δ1,ok,ea,λv H1 F1 st1 sm1 ok1 r1=>⟨G,F1,δ1,l',δ2,ok1,eb,λH2 F2 st2 sm2 ok2=>⟨G,F2,δ2,h',δ3,ok2,ec,λH3 F3 st3 sm3 ok3=>?_⟩⟩⟩;have st:=st2.trans st3
 have rb:dc X.K H3 F3 x v:=by
  refine(RelM.step ok1.fd st (λz=>?_) r1).b;rw[z]at pc;have pc':(npO lo&&npO hi)=true:=by simpa using pc
  rw[aa]at pc';exact(sm2 pc'.1).trans (sm3 pc'.2)
 unfold slD at hd;split at hd
 .cases hd;obtain⟨p,xs,e1,h1,h2⟩:=rb.lst;exact⟨p,xs,e1,h1.sq,λq hq=>post q _ H3 F3 (st1.trans st) ok3 hq (h2.cut l' h')⟩
 .split at hd
  .cases hd
  .cases hd
 .split at hd
  .cases hd
  .cases hd
 .cases hd
end
section
variable{X:Cx}{c:Ck}{cx:Cl}{k:Nat}
def JX{op:gL}{t t':TIp}(h:PIp X op t)(h':PIp X op t'):PIp X op (λx y H Q=>t x y H Q\/t' x y H Q):=λpins s σ H x y v u Q I r1 r2 q=>q.elim (h pins s σ H x y v u Q I r1 r2) (h' pins s σ H x y v u Q I r1 r2)
def BS(C:Cok X c cx k){i:Nat}{op:Op}{o:gL}{e:E}{t:Str}{y:aE}{pos p2:Pos}(h:fU c i t=true)(ho:Gz op o=true)(n:(!bp e)=true)(he:PE X y (tE X.K cx e)):PS X (.AugAssign (.Name t p2) o y pos) (tS X.K (evS cx (.aug i op e))):=by
 obtain⟨n1,n2,n3⟩:=C.to h
 have inv:∀{δ:Loc}{out:Out},evS cx (.aug i op e) δ=some out->∃x y δ1 z,δ[i]?=some (.val x)/\evE cx e δ=some (y,δ1)/\out=.nx (δ1.set i (.val z))/\op=.add/\Eh x y=some z:=by
  intro δ out ev;simp only[evS]at ev
  cases q:δ[i]? with
  |none=>rw[q]at ev;cases ev
  |some s =>
   rw[q]at ev
   cases s with
   |no=>cases ev
   |fnc _ _=>cases ev
   |odc _ _=>cases ev
   |own _=>cases ev
   |val x =>
    simp only[ae,af]at ev;obtain⟨⟨d,δ1⟩,e1,ev⟩:=ev;dsimp only at ev
    cases op with
    |add =>
     obtain⟨z,h1,h2⟩:=aj.mp ev
     exact⟨x,d,δ1,z,rfl,e1,h2.symm,rfl,h1⟩
    |_=>cases ev
 cases op with
 |add =>
  cases o<;>first|(exact absurd ho aq)|skip
  refine PS.imp (JU C.nd' n1 n2 he (JX Ld GX) n3) λE σ H zz=>?_;obtain⟨G,F,δ,out,ok,ev,post⟩:=zz;obtain⟨x,y,δ1,z,e1,e2,rfl,_,e3⟩:=inv ev
  .obtain⟨v,ev,r⟩:=ok.sl i _ e1;refine⟨_,ev,G,F,δ,_,δ1,ok,e2,λu H1 F1 st sm ok1 r1=>?_⟩;have hi:i<δ1.length:=by rw[ok1.len,<- ok.len];exact(aF.mp e1).1
   have ra:Rel X.K H1 F1 x v:=Rel.step ok.fd st x v r;have rb:=dh n r1;unfold Eh at e3;split at e3
   .cases e3;unfold Rel at ra rb;subst ra rb;exact .inl ⟨_,_,rfl,rfl,post _ H1 F1 st (ok1.set hi (cC _))⟩
   .split at e3
    .rename_i q;cases e3;obtain⟨p1,xs1,e1,s1,l1⟩:=dc.tup (.inl ra);obtain⟨p2,xs2,e2,s2,l2⟩:=dc.tup (.inl rb);subst e1;subst e2;refine .inr ⟨p1,p2,xs1,xs2,rfl,rfl,s1,s2,λz=>?_,by rw[l1.length,l2.length];exact q,λz=>?_,λ_ p hp=>?_⟩
     .have:=l1.length;rw[z]at this;cases this
     .refine post _ H1 F1 st (ok1.set hi ?_);have e:∀{ys:List D},aH X.K H1 F1 ys xs2->ys=[]:=λ{ys}r=>by have:=r.length;rw[z]at this;exact fZ.mp this.symm
      have:=e l2;subst this;rw[bt];exact ra
     .obtain⟨o1,o2,o3,o4⟩:=ok1.laid hp (.tup (xs1++xs2));exact post _ _ F1 (st.trans o2) (o1.set hi (jt ok1 hp (l1.append l2)))
    .cases e3
   .cases e3
 |_ =>
  refine PS.imp Cw λE σ H zz=>?_;obtain⟨G,F,δ,out,ok,ev,post⟩:=zz;obtain⟨_,_,_,_,_,_,_,z,_⟩:=inv ev;cases z
def BI{e:E}{y:aE}{pos:Pos}(n:(!bp e)=true)(he:PE X y (tE X.K cx e)):PS X (.Return (some y) pos) (tS X.K (evS cx (.ret e))):=PS.imp (Cu he) λE σ H zz=>by
 obtain⟨G,F,δ,out,ok,ev,post⟩:=zz;simp only[evS,ae,af]at ev;obtain⟨⟨d,δ1⟩,e1,ev⟩:=ev;cases ev;exact⟨G,F,δ,d,δ1,ok,e1,λv H1 F1 st sm ok1 r=>post v σ H1 F1 st ok1 (dh n r)⟩
def BO{t:E}{a b:Ss}{y:aE}{ya yb:List bG}{pos:Pos}(ht:PT X y (tT X.K cx t))(ha:PSs X ya (tS X.K (cW cx a)))(hb:PSs X yb (tS X.K (cW cx b))):PS X (.If y ya yb pos) (tS X.K (evS cx (.ifs t a b))):=PS.imp (uU ht ha hb) λE σ H zz=>by
 obtain⟨G,F,δ,out,ok,ev,post⟩:=zz;simp only[evS,ae,af]at ev;obtain⟨⟨q,δ1⟩,e1,ev⟩:=ev;refine⟨G,F,δ,q,δ1,ok,e1,λH1 F1 st sm ok1=>?_⟩
 cases q with
 |true=>exact qm ⟨G,F1,δ1,out,ok1,ev,post.step st⟩
 |false=>exact sS ⟨G,F1,δ1,out,ok1,ev,post.step st⟩
def BP(C:Cok X c cx k){tg:Tg}{src:It}{body:Ss}{t it:aE}{ys:List bG}{pos:Pos}(htg:qt c tg t=true)(hI:PI X t it (tI X.K cx src))(hset:∀v,foldedSetIterable it X.env v=pure v)(hb:PSs X ys (tS X.K (cW cx body))):PS X (.For t it ys [] pos) (tS X.K (evS cx (.for_ tg src body))):=by
 have hp:nV (model X.prog X.w) X.A X.env X.xe:=by rw[C.xe];exact nE
 refine PS.imp (Cz hp C.calm hI (mV C htg) hb hset) λE σ H zz=>?_;obtain⟨G,F,δ,out,ok,ev,post⟩:=zz;simp only[evS,ae,af]at ev;obtain⟨⟨ds,δ1⟩,e1,ev⟩:=ev;dsimp only at ev;generalize ef:(λ(x:D)(δ0:Loc)=>match dA δ0 tg x with|some δ2=>cW cx body δ2|none=>none)=f at ev;refine⟨G,F,δ,ds,δ1,ok,e1,λJ H1 F1 st sm ok1 wk=>?_⟩;refine⟨λi m σ' H'=>∃F' δ',m=ds.length-i/\i<=ds.length/\Step G F1 H1 F' H'/\Ok X.K G F' σ' H' δ'/\forL f (ds.drop i) δ'=some out,⟨_,F1,δ1,rfl,bP _,Step.refl,ok1,ev⟩,?_⟩;rintro i m σ' H' ⟨F',δ',rfl,hi,st',ok',ev'⟩;by_cases hlt:i<ds.length
 .right;obtain⟨d,hd⟩:∃d,ds[i]?=some d:=⟨ds[i],by simp[hlt]⟩;obtain⟨go,yl⟩:=(wk _ F' H' st' ok'.fd i).1 d hd;refine⟨go,?_⟩
  have edr:ds.drop i=d::ds.drop (i+1):=by
   rw[bQ hlt];congr 1;rw[aO hlt]at hd;exact bU hd
  rw[edr]at ev';unfold forL at ev';refine⟨λσ2 H2=>∃m',m'<ds.length-i/\∃F2 δ2,m'=ds.length-(i+1)/\i+1<=ds.length/\Step G F1 H1 F2 H2/\Ok X.K G F2 σ2 H2 δ2/\forL f (ds.drop (i+1)) δ2=some out,λσ2 H2 z=>z,λx H3 hy=>?_⟩;obtain⟨sm,rx⟩:=yl x H3 hy;replace ok':=ok'.same' sm;replace st':=st'.trans (Step.of_same sm)
  cases hf:f d δ' with
  |none=>rw[hf]at ev';cases ev'
  |some o1 =>
   have hf':=hf;rw[<- ef]at hf';dsimp only at hf'
   cases hs:dA δ' tg d with
   |none=>rw[hs]at hf';cases hf'
   |some δ2 =>
    rw[hs]at hf';refine ky ok' rx hs λσ2 ok2 _=>⟨G,F',δ2,o1,ok2,hf',?_⟩;rw[hf]at ev'
    cases o1 with
    |nx δ3=>exact λσ3 H4 F4 s4 k4=>⟨_,by omega,F4,δ3,rfl,hlt,st'.trans s4,k4,ev'⟩
    |rt d3 δ3 =>
     cases ev'
     exact λv σ3 H4 F4 s4 k4 r4=>post v σ3 H4 F4 ((st.trans st').trans s4) k4 r4
    |ro d3 δ3 =>
     cases ev';exact λa xs σ3 H4 F4 s4 k4=>post a xs σ3 H4 F4 ((st.trans st').trans s4) k4
 .left;have hi':i=ds.length:=by omega
  subst hi';refine⟨(wk _ F' H' st' ok'.fd ds.length).2 rfl,?_⟩;rw[fu]at ev';cases ev';exact post σ' H' F' (st.trans st') ok'
def wu(C:Cok X c cx k){t:E}{body:Ss}{y:aE}{ys:List bG}{pos:Pos}(ht:PT X y (tT X.K cx t))(hb:PSs X ys (tS X.K (cW cx body))):PS X (.While y ys [] pos) (tS X.K (evS cx (.while_ t body))):=by
 have hp:nV (model X.prog X.w) X.A X.env X.xe:=by rw[C.xe];exact nE
 refine PS.imp (Cs hp ht hb) λE σ H zz=>?_;obtain⟨G,F,δ,out,ok,ev,post⟩:=zz;simp only[evS]at ev;refine⟨λm σ' H'=>∃F' δ',Step G F H F' H'/\Ok X.K G F' σ' H' δ'/\lr (λδ0=>evT cx t δ0) (λδ0=>cW cx body δ0) m δ'=some out,⟨1000,F,δ,Step.refl,ok,ev⟩,?_⟩;rintro m σ' H' ⟨F',δ',st',ok',ev'⟩
 cases m with
 |zero=>cases ev'
 |succ m =>
  unfold lr at ev'
  cases ec:evT cx t δ' with
  |none=>rw[ec]at ev';cases ev'
  |some q =>
   obtain⟨b,δ1⟩:=q;rw[ec]at ev';refine⟨G,F',δ',b,δ1,ok',ec,λH1 F1 st1 sm1 ok1=>?_⟩;have sA:=st'.trans st1
   cases b with
   |true =>
    refine qm ?_;dsimp only at ev';refine⟨λσ2 H2=>∃m',m'<m+1/\∃F2 δ2,Step G F H F2 H2/\Ok X.K G F2 σ2 H2 δ2/\lr (λδ0=>evT cx t δ0) (λδ0=>cW cx body δ0) m' δ2=some out,λσ2 H2 z=>z,?_⟩
    cases hf:cW cx body δ1 with
    |none=>rw[hf]at ev';cases ev'
    |some o1 =>
     rw[hf]at ev';refine⟨G,F1,δ1,o1,ok1,hf,?_⟩
     cases o1 with
     |nx δ3=>exact λσ3 H4 F4 s4 k4=>⟨m,by omega,F4,δ3,sA.trans s4,k4,ev'⟩
     |rt d3 δ3 =>
      cases ev'
      exact λv σ3 H4 F4 s4 k4 r4=>post v σ3 H4 F4 (sA.trans s4) k4 r4
     |ro d3 δ3 =>
      cases ev'
      exact λa xs σ3 H4 F4 s4 k4=>post a xs σ3 H4 F4 (sA.trans s4) k4
   |false =>
    refine sS ?_;cases ev';exact post σ' H1 F1 sA ok1
end
section
variable{X:Cx}{c:Ck}{cx:Cl}{k:Nat}
def Ol(h:ckE c e z=true):((backTo cp (starEach [z] env)).all (λx=>!x.1)&&(backToKw cp (keywordEach [] env)).all (λx=>x.1.isSome)
 && decide (([z]:List aE).length+([]:List dR).length+(if([]:List dR).isEmpty then 0 else 1)<30))=true:=by
 rw[bu (bq h)];rfl
def uS(C:Cok X c cx k)(hx:dM c i x=true)(hl:ap.endLine=cp.line)(hz:ckE c e z=true)(n:(!bp e)=true)(he:PE X z (tE X.K cx e)) :
 PS X (.Expr (.Call (.Attribute (.Name x p1) "append" ap) [z] [] cp) p2) (tS X.K (evS cx (.append i e))):=by
 obtain⟨n1,n2,n3,n4⟩:=C.name hx;have hs:=bu (bq hz) [] X.env;have hA:PA X [z] (tEs X.K cx (.cons e .nil)):=jX (by simp[npS]) he ma hs;refine PS.imp (sE (uY PySem.F.plainAttrs_list PySem.F.slot_list_append PySem.F.type_list_append rg (fJ n1 n2 n3 n4) hA rfl (Ol hz) (by simpa using hl) hs rfl)) λE σ H zz=>?_;obtain⟨G,F,δ,out,ok,ev,post⟩:=zz;simp only[evS]at ev
 cases q:δ[i]? with
 |none=>rw[q]at ev;cases ev
 |some s =>
  rw[q]at ev
  cases s with
  |no=>cases ev
  |fnc _ _=>cases ev
  |odc _ _=>cases ev
  |val _=>cases ev
  |own ds0 =>
   simp only[ae,af]at ev;obtain⟨⟨d,δ1⟩,e1,ev⟩:=ev;dsimp only at ev;obtain⟨a,xs0,ea,f1,f2,f3,f4⟩:=ok.sl i _ q
   cases q1:δ1[i]? with
   |none=>rw[q1]at ev;cases ev
   |some s1 =>
    rw[q1]at ev
    cases s1 with
    |no=>cases ev
    |fnc _ _=>cases ev
    |odc _ _=>cases ev
    |val _=>cases ev
    |own ds =>
     dsimp only at ev;split at ev
     .rename_i hz';cases ev;refine⟨.ref a,ea,.inl ⟨rfl,xs0,.inl (.inl f3)⟩,G,F,δ,[d],δ1,ok,by simp[cT,e1],λvs H1 F1 st sm ok1 r=>?_⟩;obtain⟨d',ds',v,vs',ed,rfl,rv,rn⟩:=r;cases ed;obtain⟨_,rfl⟩:=rn;have rv':=dh n rv;obtain⟨a',xs,ea',g1,g2,g3,g4⟩:=ok1.sl i _ q1;rw[ea]at ea';cases ea';obtain⟨o1,o2⟩:=ok1.write q1 ea (g4.append (aH.one rv'));exact⟨a,xs,v,rfl,rfl,g3,by rw[g4.length];exact hz',post σ _ F1 (st.trans o2) o1⟩
     .cases ev
def Oa:V->List V->Hp->VK->Prop:=λx vs H Q=>∃l xs n y,x=.ref l/\vs=[.int n,y]/\0<=n/\n<2^62/\H l=some (.lst xs)/\xs.length<sizeLine/\Q .non (upd H l (.lst (xs.take n.toNat++y::xs.drop n.toNat)))
def KD:MtM X "list.insert" Oa:=by
 intro pins s σ H x vs v us Q I rx rv h;obtain⟨l,xs,n,y,rfl,rfl,h0,hn,hH,hz,q⟩:=h;cases rx;obtain⟨u1,u2,rfl,⟨t,rfl⟩,r2⟩:=rv.two;obtain⟨z,its,m,r,hl,e⟩:=I.lstM hH;have s1:its.toArray.size=xs.length:=by rw[aB];lia
 have hs:sizeLine<2^62:=by decide
 refine dU F.slot_list_insert ⟨_,e,rfl⟩ F.entry_list_insert (F.args_list_insert_3 _ _ _) (AutoListH.list_insert_list_int_val_1 l its.toArray m n t u2 ?_ ∅) ⟨e,?_⟩
 .have:mR n=true:=by
   unfold mR;rw[aa,decide_eq_true_eq,decide_eq_true_eq]
   lia
  rw[this];exact aq
 .refine⟨.non,_,I.lset (its':=its.take n.toNat++u2::its.drop n.toNat) hH e ?_ ((r.take _).append (.cons r2 (r.drop _))) ?_,rfl,q⟩
  .have w:its.take n.toNat=its.take (min n.toNat its.length)/\its.drop n.toNat=its.drop (min n.toNat its.length):=by
    by_cases z:n.toNat<=its.length
    .rw[qz z];exact⟨rfl,rfl⟩
    .rw[pZ ∅,cn ∅,gG,fu,dY ∅];exact⟨rfl,rfl⟩
   dsimp only;rw[if_neg ∅,w.1,w.2];simp only[List.extract_toArray,List.push_toArray,List.append_toArray,List.extract_eq_drop_take,gi,xN,cB,List.singleton_append,aB];rw[show ∀m,(its.drop m).take (its.length-m)=its.drop m from λm=>cn (by rw[aS];exact aD _)]
  .rw[az,ag,bA,aS]
   lia
def BN(C:Cok X c cx k)(hx:dM c i x=true)(hl:ap.endLine=cp.line)(hz:iS c es [u,v]=true)(n:iY es=true)(hA:PA X [u,v] (tEs X.K cx es)) :
 PS X (.Expr (.Call (.Attribute (.Name x p1) "insert" ap) [u,v] [] cp) p2) (tS X.K (evS cx (.ins i es))):=by
 obtain⟨n1,n2,n3,n4⟩:=C.name hx;obtain⟨e1,es1,rfl,c1,hz1⟩:=fL hz;obtain⟨e2,es2,rfl,c2,hz2⟩:=fL hz1
 have few:((backTo cp (starEach [u,v] X.env)).all (λx=>!x.1)&&(backToKw cp (keywordEach [] X.env)).all (λx=>x.1.isSome)&&decide (([u,v]:List aE).length+([]:List dR).length+(if([]:List dR).isEmpty then 0 else 1)<30))=true:=by
  rw[bu (bq c1),bu (bq c2)];rfl
 refine PS.imp (sE (uY PySem.F.plainAttrs_list PySem.F.slot_list_insert PySem.F.type_list_insert KD (fJ n1 n2 n3 n4) hA rfl few (by simpa using hl) (bu (bq c1) _ _) (iq hz1))) λE σ H zz=>?_;obtain⟨G,F,δ,out,ok,ev,post⟩:=zz;simp only[evS]at ev;split at ev
 case h_2=>cases ev
 rename_i ds0 q;rw[ae,af]at ev;obtain⟨⟨ds1,δ1⟩,ee,ev⟩:=ev;obtain⟨a,xs0,ea,f1,f2,f3,f4⟩:=ok.sl i _ q;split at ev
 case h_2=>cases ev
 rename_i nn d δ1' e9;cases e9;split at ev
 case h_2=>cases ev
 rename_i ds q1;split at ev
 .rename_i hc;cases ev;refine⟨.ref a,ea,.inl ⟨rfl,xs0,.inl (.inl f3)⟩,G,F,δ,_,δ1,ok,ee,λvs H1 F1 st sm ok1 r=>?_⟩;have rl:=r.rl n;unfold aH at rl;obtain⟨v1,w1,rfl,ra,rl⟩:=rl;unfold aH at rl;obtain⟨v2,w2,rfl,rb,rl⟩:=rl;unfold aH at rl;subst rl;obtain rfl:v1=.int nn:=ra;obtain⟨a',xs,ea',g1,g2,g3,g4⟩:=ok1.sl i _ q1;rw[ea]at ea';cases ea';obtain⟨o1,o2⟩:=ok1.write q1 ea ((g4.take nn.toNat).append (aH.cons rb (g4.drop nn.toNat)));exact⟨a,xs,nn,v2,rfl,rfl,hc.1,hc.2.1,g3,by rw[g4.length];exact hc.2.2,post σ _ F1 (st.trans o2) o1⟩
 .cases ev
def wx(C:Cok X c cx k)(hx:dM c i x=true)(hy:ckE c e y=true)(n:(!bp e)=true)(nc:(!ke y)=true)(hz:ckE c j z=true)(nj:(!bp j)=true)(he:PE X y (tE X.K cx e))(hj:PE X z (tE X.K cx j)) :
 PS X (.Assign [.Subscript (.Name x p1) z p2] y pos) (tS X.K (evS cx (.setix i j e))):=by
 obtain⟨n1,n2,n3,n4⟩:=C.name hx;have nc':ke y=false:=by simpa using nc
 have hh:=bq hz;have hh2:=bq hy
 have ha:∀v,assign (.Subscript (.Name x p1) z p2) X.env v=(do
  let ov <- holding [v] (eval (.Name x p1) X.env)
  let iv <- holding [v,ov] (eval z X.env)
  standAt p2
  holding [v,ov,iv] (setItem ov iv v)
  release [v,ov,iv] []):=by
  intro v;cases z<;>first|rfl|(exact absurd hh aq)
 have hsw:swapsWithSole [.Subscript (.Name x p1) z p2] y pos.line X.env=pure false:=by
  cases y<;>first|rfl|(exact absurd hh2 aq)|(exact absurd nc'.symm aq)
 have hw:swappedStores [.Subscript (.Name x p1) z p2] y X.env=pure none:=by
  cases y<;>first|rfl|(exact absurd hh2 aq)
 refine PS.imp (sF he (Kb (fJ n1 n2 n3 n4) hj set_list ha) hsw hw rfl) λE σ H zz=>?_;obtain⟨G,F,δ,out,ok,ev,post⟩:=zz;simp only[evS,ae,af]at ev;obtain⟨⟨d,δ1⟩,e1,ev⟩:=ev;dsimp only at ev;refine⟨G,F,δ,d,δ1,ok,e1,λv H1 F1 st1 sm1 ok1 r1=>?_⟩
 cases q1:δ1[i]? with
 |none=>rw[q1]at ev;cases ev
 |some s1 =>
  rw[q1]at ev
  cases s1 with
  |no=>cases ev
  |fnc _ _=>cases ev
  |odc _ _=>cases ev
  |val _=>cases ev
  |own ds0 =>
   obtain⟨a,xs0,ea,f1,f2,f3,f4⟩:=ok1.sl i _ q1;simp only[af]at ev;obtain⟨⟨dj,δ2⟩,e2,ev⟩:=ev;refine⟨.ref a,ea,G,F1,δ1,dj,δ2,ok1,e2,λw H2 F2 st2 sm2 ok2 r2=>?_⟩
   cases dj with
   |int m =>
    have:=r2.b.int;subst this;dsimp only at ev
    cases q2:δ2[i]? with
    |none=>rw[q2]at ev;cases ev
    |some s2 =>
     rw[q2]at ev
     cases s2 with
     |no=>cases ev
     |fnc _ _=>cases ev
     |odc _ _=>cases ev
     |val _=>cases ev
     |own ds =>
      dsimp only at ev;obtain⟨a',xs,ea',g1,g2,g3,g4⟩:=ok2.sl i _ q2;rw[ea]at ea';cases ea'
      cases q3:ixN ds.length m with
      |none=>rw[q3]at ev;cases ev
      |some mm =>
       rw[q3]at ev;cases ev;have rv:=Rel.step ok1.fd st2 d v (dh n r1);obtain⟨o1,o2⟩:=ok2.write q2 ea (aH.set rv mm g4)
       exact⟨a,xs,m,mm,rfl,rfl,g3,by rw[g4.length];exact q3,post σ _ F2 ((st1.trans st2).trans o2) o1⟩
   |_=>cases ev
def BR:PS X x (tS X.K (evS cx .bad)):=λpins s σ H D I h=>by
 obtain⟨G,F,δ,out,ok,ev,post⟩:=h;have ev:none=some out:=ev;cases ev
def wy{a b:E}{y z:aE}{ap cp:Pos}(na:(!bp a)=true)(ha:PE X y (tE X.K cx a))(hb:PE X z (tE X.K cx b))(hl:ap.endLine=cp.line)
 (hbase:attributeBase y (mtN .split) X.env (eval y X.env)=eval y X.env)(hs:starEach [z] X.env=[(false,eval z X.env)])
 (hfew:((backTo cp (starEach [z] X.env)).all (λx=>!x.1)&&(backToKw cp (keywordEach [] X.env)).all (λx=>x.1.isSome)
   && decide (([z]:List aE).length+([]:List dR).length+(if([]:List dR).isEmpty then 0 else 1)<30))=true) :
 PE X (.Call (.Attribute y (mtN .split) ap) [z] [] cp) (tN X.K cx (.mt .split a b)):=by
 have hA:PA X [z] (tEs X.K cx (.cons b .nil)):=jX (by simp[npS]) hb ma hs;refine PE.imp (uY PySem.F.plainAttrs_str PySem.F.slot_str_split PySem.F.type_str_split qZ ha hA hbase hfew (by simpa using hl) hs rfl) λσ H Q h=>?_;obtain⟨G,F,δ,ds,δ',ok,ev,post⟩:=h;simp only[evE,ae,af]at ev;obtain⟨⟨x,δ1⟩,ea,⟨y',δ2⟩,eb,d',ed,e⟩:=ev;cases e;dsimp only at eb ed;refine⟨G,F,δ,_,δ1,ok,ea,λv H1 F1 st1 sm1 ok1 r1=>⟨ND ed r1.b,G,F1,δ1,[y'],δ2,ok1,by simp[cT,eb],λvs H2 F2 st2 sm2 ok2 r=>?_⟩⟩;obtain⟨d',ds',u,vs',ed',rfl,ru,rn⟩:=r;cases ed';obtain⟨_,rfl⟩:=rn;have r1':=Rel.step ok1.fd st2 _ _ (dh na r1);exact⟨F2,x,y',ds,u,rfl,.inl r1',ru.b,ed,λp xs hp rl=>post p xs H2 F2 (st1.trans st2) ok2 hp rl⟩
def NU(hm:newOk e=true)(C:Cok X c cx k)(h:ckE c e y=true):PE X y (tN X.K cx e):=by
 unfold newOk at hm;split at hm
 .obtain⟨_,_,rfl,hh⟩:=pI h;rw[aa]at hh;exact BY hh.2 (fz _ X c _ C hh.1 (gU hh.2))
 .rename_i es;obtain⟨_,_,xs,_,rfl,hh⟩:=dB h;simp only[aa]at hh;obtain⟨⟨h1,h2⟩,h3⟩:=hh;have e1:=of_decide_eq_true h1;subst e1;have h3:(!xs.isEmpty&&iS c es xs&&qj es)=true:=h3;simp only[aa]at h3
  cases xs with
  |nil=>simp at h3
  |cons y ys=>exact zF C h2 (fz _ X c _ C h3.1.2 h3.2) h3.1.2
 .obtain⟨_,_,_,rfl,hh⟩:=gC h;obtain⟨_,_,o,_,rfl,h9⟩:=sJ hh;simp only[aa]at h9;obtain⟨h0,⟨⟨h1,h2⟩,h3⟩,h4⟩:=h9;obtain rfl:=cP.mp h0;exact FL (by simpa using h4) (cq _ X c _ C h1) (zE _ X c _ C h2) (zE _ X c _ C h3)
 .obtain⟨_,_,_,_,_,rfl,hln,hh⟩:=ka h;obtain⟨_,rfl,h9⟩:=cA hh;rw[aa]at h9;obtain⟨h9,h6⟩:=h9;simp only[aa]at h9;obtain⟨⟨⟨⟨h1,h2⟩,h3⟩,h4⟩,h5⟩:=h9;have e:=of_decide_eq_true h1;subst e;exact wy h4 (cq _ X c _ C h2) (cq _ X c _ C h3) hln (zc h6) (bu (bq h3) [] X.env) (by rw[bu (bq h3)];rfl)
 .cases hm
end
section
variable{X:Cx}{c:Ck}{cx:Cl}{k:Nat}
def zC(C:Cok X c cx k)(hS:X.env.scope=c.sc)(hB:X.env.blockKind=.function)(ho:(!own)=true)
 (hn:fU c i t=true)(h:ckE c (.comp kk tg src ifs elt) (.ListComp ex gs sc p)=true)(hl:c.sc.names.lookup t=some .cell)(he:PE X (.ListComp ex gs sc p) (tE X.K cx (.comp kk tg src ifs elt))) :
 PS X (.Assign [.Name t tp] (.ListComp ex gs sc p) sp) (tS X.K (evS cx (.cmp own i (.comp kk tg src ifs elt)))):=by
 have hs:swapsWithSole [.Name t tp] (.ListComp ex gs sc p) sp.line X.env=pure false:=by
  have e1:X.env.kindOf t=some .cell:=by
   show X.env.scope.names.lookup t=some .cell;rw[hS];exact hl
  show(pure (X.env.blockKind==.function&&X.env.kindOf t==some .local&&tp.line==p.line&&!(sc.names.any λ(n,k)=>n==t&&(k==.local||k==.cell))):Sem Bool)=pure false;rw[hB,e1];congr 1
 have ht:qt c (.nm i) (.Name t tp)=true:=by
  unfold qt cu;exact Bool.and_eq_true_iff.mpr ⟨rfl,hn⟩
 refine PS.imp (uR (tg:=.nm i) C (.inl rfl) ht h rfl hs he) λD σ H hq=>?_;obtain⟨G,F,δ,o,ok,ev,post⟩:=hq;refine⟨G,F,δ,o,ok,?_,post⟩;obtain rfl:own=false:=by simpa using ho
 simp only[evS,ae,af]at ev |-;obtain⟨⟨d,δ1⟩,e1,ev⟩:=ev
 cases d with
 |lst ds =>
  dsimp only at ev;split at ev
  .rename_i hi;cases ev;refine⟨_,e1,_,?_,rfl⟩;exact if_pos hi
  .cases ev
 |_=>cases ev
def BQ(C:Cok X c cx k)(hS:X.env.scope=c.sc)(hB:X.env.blockKind=.function)
 (hn:fU c i t=true)(h:ckE c (.comp kk tg src ifs elt) (.ListComp ex gs sc p)=true)(hl:c.sc.names.lookup t=some .local)(hp:tp.line=p.line)(hz:(!(sc.names.any λ(n,k)=>n==t&&(k==.local||k==.cell)))=true) :
 PS X (.Assign [.Name t tp] (.ListComp ex gs sc p) sp) (tS X.K (evS cx (.cmp own i (.comp kk tg src ifs elt)))):=by
 obtain⟨n1,n2,n3⟩:=C.to hn;obtain⟨_,_,_,_,e,hh⟩:=mj h;cases e;obtain⟨_,rfl,h9⟩:=cA hh;obtain⟨tgt,it,il,rfl,h10⟩:=wU h9;replace h:=h10
 .split at h
  .rename_i ts ht;simp only[aa]at h;obtain⟨⟨⟨⟨⟨⟨⟨⟨h1,h2⟩,h3⟩,h4⟩,h5⟩,h6⟩,h7⟩,h8⟩,h9⟩:=h;obtain⟨nd,hvis⟩:=iZ h4;have hk:=jW (tg:=tg) (c:=c) (of_decide_eq_true h1)
   have hsw:swapsWith (.ListComp ex [⟨tgt,it,il,0⟩] sc p) (some (.Name t tp)) sp.line X.env=pure true:=by
    have e1:X.env.kindOf t=some .local:=by
     show X.env.scope.names.lookup t=some .local;rw[hS];exact hl
    show(pure (X.env.blockKind==.function&&X.env.kindOf t==some .local&&tp.line==p.line&&!(sc.names.any λ(n,k)=>n==t&&(k==.local||k==.cell))):Sem Bool)=pure true;rw[hB,e1,hp,hz];congr 1;simp
   intro pins s σ H E I hq
   refine Cy (Nc:=mn ts c.N++ts) (te:=tE X.K cx elt) (tt:=tG X.K cx ifs) (g:=gTg X.K tg) C.xe C.calm (iu C h3) (λi x hi=>by rw[C.hN]at hi |-;exact hvis i x hi) (by rw[C.hN,hk];lia) (BZ src X c _ _ C h6)
    (λcl Ca s H fp=>mV (gu C h3 nd cl Ca s H fp) h5) (λcl Ca s H fp=>JJ ifs _ _ _ (gu C h3 nd cl Ca s H fp) h7) (λcl Ca s H fp=>cq elt _ _ _ (gu C h3 nd cl Ca s H fp) h8) (λv=>mG h6 _ v)
    C.nd' n1 n2 n3 hsw pins s σ H E I ?_
   obtain⟨G,F,δ,o,ok,ev,post⟩:=hq;simp only[evS,ae,af]at ev;obtain⟨⟨d,δ1⟩,e1,ev⟩:=ev
   cases d with
   |lst ds =>
    dsimp only at ev;split at ev
    .rename_i hi;cases ev;refine vF C I h9 hk h2 ok e1 λp ys xs H1 F1 H2 F2 e st1 st2 hp hg ok2 eD rl sm=>?_;cases e;show E.nx (σ.set i (some (.ref p))) H2
     cases own with
     |true =>
      refine post _ H2 F2 (st1.trans st2) ((ok2.keep).own hi (ok2.rf p (.inr rfl)) hg eD rl λj s ej ho z=>?_);obtain⟨a,u,d,e2,_,g2,_⟩:=eV.ow (ok2.sl j _ ej) ho;rw[z]at e2;cases e2
      exact g2.2 (.inr rfl)
     |false =>
      have st':Step G F1 H1 (λb=>F2 b/\b≠p) H2:=⟨st2.keep,λb z=>st2.grow b z.1,λb o r f e=>by
       obtain⟨a1,a2⟩:=st2.res b o r f e;exact⟨⟨a1,λw=>by rw[w,hp]at e;cases e⟩,a2⟩,st2.tb⟩
      refine post _ H2 _ (st1.trans st') ((ok2.leave hg).set hi ?_);unfold Rel;exact⟨p,xs,rfl,.inl ⟨.inl eD,λz=>z.2 rfl⟩,aH.less ok2.fd (λb z=>z.1) rl⟩
    .cases ev
   |_=>cases ev
  .cases h
end
section
variable{X:Cx}{c:Ck}{cx:Cl}{k:Nat}(C:Cok X c cx k)(hS:X.env.scope=c.sc)(hB:X.env.blockKind=.function)
include C hS hB
mutual
theorem FI:∀(s:S)(x:bG),ckS c s x=true->PS X x (tS X.K (evS cx s))
 |.asg tg e,x,h=>by
  obtain⟨_,_,_,rfl,hq1⟩:=iX h;obtain⟨_,rfl,hq2⟩:=cA hq1;replace h:=hq2
  .simp only[aa]at h;obtain⟨⟨⟨⟨h1,h2⟩,h3⟩,h4⟩,h5⟩:=h;rw[bH,bH]at h5;rcases h5 with h5|h5
   .exact uR C (h5.imp id (zy hS)) h1 h2 h3 (head_swaps (bq h2) (by simpa using h4) _ _ _) (cq e X c _ C h2)
   .unfold Ik at h5;split at h5
    .exact BJ C hS hB h5 λa b q n=>fz _ X c _ C q (gU n)
    .cases h5
 |.new i e,x,h=>by
  obtain⟨_,_,_,rfl,hq1⟩:=iX h;obtain⟨_,rfl,hq2⟩:=cA hq1;obtain⟨_,_,rfl,hq3⟩:=ba hq2;replace h:=hq3
  .simp only[aa]at h;obtain⟨⟨⟨h1,h2⟩,h3⟩,h4⟩:=h
   exact BL C h1 h2 h3 (NU h4 C h2)
 |.cmp own i e,x,h=>by
  have h:(Dx e&&_)=true:=h;rw[aa]at h;obtain⟨h0,h⟩:=h;cases e<;>first|(cases h0;done)|skip
  obtain⟨_,_,_,rfl,hh⟩:=iX h;obtain⟨_,rfl,h2⟩:=cA hh;obtain⟨_,_,rfl,h3⟩:=mi h2;obtain⟨_,_,_,_,rfl,h4⟩:=mj h3;simp only[aa]at h4;obtain⟨⟨a1,a2⟩,a3⟩:=h4;rcases fI.mp a3 with a3|a3
  .simp only[aa]at a3;exact BQ C hS hB a1 a2 (of_decide_eq_true a3.1.1) (of_decide_eq_true a3.1.2) a3.2
  .rw[aa]at a3
   exact zC C hS hB a3.1 a1 a2 (of_decide_eq_true a3.2) (cq _ X c _ C a2)
 |.aug i op e,x,h=>by
  obtain⟨_,_,_,_,rfl,hq1⟩:=CV h;obtain⟨_,_,rfl,hq2⟩:=ba hq1;replace h:=hq2
  .simp only[aa]at h;obtain⟨⟨⟨h1,h2⟩,h3⟩,h4⟩:=h
   exact BS C h1 h2 h4 (cq e X c _ C h3)
 |.ret e,x,h=>by
  obtain⟨_,_,rfl,hq1⟩:=va h;obtain⟨_,rfl,hq2⟩:=lB hq1;replace h:=hq2
  .rw[aa]at h
   exact BI h.2 (cq e X c _ C h.1)
 |.ifs t a b,x,h=>by
  obtain⟨_,_,_,_,rfl,hq1⟩:=kb h;replace h:=hq1
  .simp only[aa]at h
   exact BO (md t X c _ C h.1.1) (kR a _ h.1.2) (kR b _ h.2)
 |.for_ tg src body,x,h=>by
  obtain⟨_,_,_,_,_,rfl,hq1⟩:=vc h;obtain⟨rfl,hq2⟩:=di hq1;replace h:=hq2
  .simp only[aa]at h
   exact BP C h.1.1 (BZ src X c _ _ C h.1.2) (λv=>mG h.1.2 _ v) (kR body _ h.2)
 |.while_ t body,x,h=>by
  obtain⟨_,_,_,_,rfl,hq1⟩:=GA h;obtain⟨rfl,hq2⟩:=di hq1;replace h:=hq2
  .rw[aa]at h
   exact wu C (md t X c _ C h.1) (kR body _ h.2)
 |.ins i es,x,h=>by
  obtain⟨_,_,rfl,hh⟩:=sL h;obtain⟨_,_,_,_,_,rfl,hln,h2⟩:=ka hh;obtain⟨_,_,rfl,h3⟩:=ba h2;obtain⟨_,_,rfl,h4⟩:=fS h3;simp only[aa]at h4;obtain⟨⟨⟨a1,a2⟩,a3⟩,a4⟩:=h4;have z:=of_decide_eq_true a1;subst z
  exact BN C a2 hln a3 a4 (fz es X c _ C a3 (gU a4))
 |.append i e,x,h=>by
  obtain⟨_,_,rfl,hh⟩:=sL h;obtain⟨_,_,_,_,_,rfl,hln,h2⟩:=ka hh;obtain⟨_,_,rfl,h3⟩:=ba h2;obtain⟨_,rfl,h4⟩:=cA h3;simp only[aa]at h4;obtain⟨⟨⟨a1,a2⟩,a3⟩,a4⟩:=h4;have z:=of_decide_eq_true a1;subst z
  exact uS C a2 hln a3 a4 (cq e X c _ C a3)
 |.setix i j e,x,h=>by
  obtain⟨_,_,_,rfl,hq1⟩:=iX h;obtain⟨_,rfl,hq2⟩:=cA hq1;obtain⟨_,_,_,rfl,hq3⟩:=gC hq2;obtain⟨_,_,rfl,hq4⟩:=ba hq3;replace h:=hq4
  .simp only[aa]at h;obtain⟨⟨⟨⟨⟨h1,h2⟩,h3⟩,h4⟩,h5⟩,h6⟩:=h
   exact wx C h1 h2 h3 h4 h5 h6 (cq e X c _ C h2) (cq j X c _ C h5)
 |.opq _,x,h=>nomatch (h:false=true)
 |.bad,x,h=>BR
theorem kR:∀(ss:Ss)(xs:List bG),oh c ss xs=true->PSs X xs (tS X.K (cW cx ss))
 |.nil,xs,h=>by
  obtain⟨rfl,hq1⟩:=di h;replace h:=hq1
  .exact BK
 |.cons s ss,xs,h=>by
  obtain⟨_,_,rfl,hq1⟩:=cF h;replace h:=hq1
  .rw[aa]at h;exact qN (FI s _ h.1) (kR ss _ h.2)
end
end
end PP
end
section
namespace L2
open PySem PySem.Spec PyProof.Rows
def less(h:bW)(l:List av):bW:=⟨h.objs.mapIdx λi o=>if i∈l then {o with data:=.freed}else o,h.life⟩
def fV{h:bW}{l:List av}{b:av}(hb:b∈l):(less h l).get? b=none:=by
 unfold less Heap.get?;simp only[vV]
 cases h.objs[b]? with
 |none=>rfl
 |some o=>simp[hb]
def jb(hb:b∉l):(less h l).get? b=h.get? b:=by
 unfold less Heap.get?;simp only[vV]
 cases h.objs[b]? with
 |none=>rfl
 |some o=>simp[hb]
def jy{h:bW}{l:List av}:(less h l).StaysIn h:=λb o e=>by
 by_cases hb:b∈l
 .rw[fV hb]at e;cases e
 .rwa[jb hb]at e
def mr{h base base':bW}:∀{l:List Env},h.FunFrames base l->(∀b∈frs l,base'.get? b=none)->h.FunFrames base' l
 |[],_,_=>trivial
 |env::r,⟨hk,⟨L,o,hf,hn,ho,hd⟩,hr⟩,k=>by
  have hL:L∈frs (env::r):=by unfold frs;rw[bw,hf];exact ay
  exact⟨hk,⟨L,o,hf,k L hL,ho,hd⟩,mr hr λb hb=>k b (by unfold frs at *;rw[bw,hf];exact ao _ hb)⟩
section
variable{P:aQ}{w:bD}{H:Hp}{h:bW}{a:av}{o:HO}
def eL.there(x:eL P w H h a o):∃u,h.get? a=some u:=by
 cases o with
 |lst xs=>obtain⟨_,_,_,_,e⟩:=x;exact⟨_,e⟩
 |tup xs=>obtain⟨_,_,_,_,e,_⟩:=x;exact⟨_,e⟩
 |dK kvs=>obtain⟨_,_,_,_,o,_,_,e,_⟩:=x;exact⟨_,e⟩
 |dT kvs=>obtain⟨_,_,_,_,o,_,_,e,_⟩:=x;exact⟨_,e⟩
 |own y=>exact x
 |frz ob u=>obtain⟨e,_⟩:=x;exact⟨_,e⟩
 |tbl ps=>exact⟨_,show h.get? a=some _ from x⟩
 |ext φ=>obtain⟨_,e,_⟩:=x;exact e
def HOk.gone(x:HOk P w H h)(e:h.get? a=none):H a=none:=by
 cases q:H a with
 |none=>rfl
 |some u=>obtain⟨_,z⟩:=(x a u q).there;rw[e]at z;cases z
end
structure Fly(h0:bW)(H:Hp)(e:av)(cls:ai)(h:bW):Prop where
 new:h0.get? e=none
 fre:H e=none
 tr:∃oe vs a0 T oT ts fl,h.get? e=some oe/\(oe.cls=cls/\vs[0]?=some a0)/\oe.data=.fields vs/\vs[1]?=some (.ref T)/\(h0.get? T=none/\H T=none)/\T≠e/\h.get? T=some oT/\oT.data=.fields ts/\ts[3]?=some fl
def CXE(P:aQ)(w:bD):CXT:=λouter H s E e s'=>∃a cls H',e=.ref a/\Fly s.heap H' a cls s'.heap/\Un (frs outer) [] H H' s.heap s'.heap/\HOk P w H' s'.heap/\s'.os=s.os/\jU s'.gens/\E cls none H'
def Nw(X:Cx)(pins:List (av×Obj))(b:av):Prop:=X.s₀.heap.get? b=none/\b≠X.env.locals/\(∀x c,X.env.cells.lookup x=some c->c≠b)/\∀p∈X.pn++pins,p.1≠b
def qW(I:Inv X pins σ H s)(hex:X.ex=[])(nb:s.heap.get? b=none):Nw X pins b:=by
 refine⟨?_,?_,λy c e z=>?_,λp hp z=>?_⟩
 .cases z:X.s₀.heap.get? b with
  |none=>rfl
  |some o =>
   obtain⟨o',q'⟩:=I.base.there b o z (by rw[hex];simp);rw[nb]at q';cases q'
 .obtain⟨m,⟨o,_,_,ho,_⟩,_⟩:=I.loc;intro z;rw[z,ho]at nb;cases nb
 .obtain⟨v,o,ho,_⟩:=I.cell y c e;rw[z,nb]at ho;cases ho
 .have ho:=(I.pin p hp).1;rw[z,nb]at ho;cases ho
def LU(X:Cx)(pins:List (av×Obj))(H:Hp)(e:av)(cls:ai)(h:bW):Prop :=
 ∃oe vs a0 T oT ts fl,h.get? e=some oe/\(oe.cls=cls/\vs[0]?=some a0)/\oe.data=.fields vs/\vs[1]?=some (.ref T)/\(H e=none/\H T=none)/\T≠e/\h.get? T=some oT/\oT.data=.fields ts/\ts[3]?=some fl/\∀b∈[e,T],Nw X pins b
def nU(X:Cx)(E:St->XK):Prop:=∀(pins:List (av×Obj))(σ:St)(H:Hp)(s:au)(e:av)(cls:ai),Inv X pins σ H s->LU X pins H e cls s.heap->E σ cls none H->X.xe (.ref e) s
def mZ{M:Model}{A:bE}{E:ai->au->Prop}{s:au}{base:bW}{env:Env}{outer:List Env}{L e:av}{cls a0 fl:ai}{Q:Unit->au->Prop}
 (hfr:A.frames=some (env::outer))(hf:env.frame=some L)(stay:base.StaysIn s.heap)(ne:base.get? e=none)(ff:s.heap.FunFrames base (env::outer))(tr:s.heap.TracedAtW base e cls a0 fl)
 (hQ:∀h',Heap.HeldW base (env::outer) e cls a0 L h'->s.heap.UpToSlots h'->Q () {s with heap:=h'}):wpAny M A (noteFrame (.ref e) env) Q E s:=by
 obtain⟨oe,vs,T,oT,ts,he,⟨hcls,h0⟩,hd,h1,hnT,hTe,hT,hdT,h3⟩:=id tr;by_cases q:fl=rawInt L
 .subst q;exact wpAny_noteFrame_againW hf tr (hQ _ ⟨stay,ne,ff,tr⟩ (.refl _))
 .subst hcls;have other:∀b,b≠T->(s.heap.update T (vQ (·.setIfInBounds 3 jP))).get? b=s.heap.get? b:=λb hb=>gj _ _ (Ne.symm hb)
  have noRec:∀b o,s.heap.get? b=some o->(∀vs,o.data≠.fields vs)->b≠T:=λb o hb hnf q=>by
   rw[q,hT]at hb;cases hb;exact hnf ts hdT
  unfold noteFrame;simp only[hf];refine aI (iz he hd h1 ?_);rw[if_pos (show(cm T != jP)=true from by simp)];refine aI (iz hT hdT h3 ?_);rw[if_neg (by simpa using q)];refine aI (wpAny_setField hT hdT (fh.mp h3).1 ?_)
  exact wpAny_entryW hfr (ff.of_keeps λb o hb hn=>⟨o,(other b (noRec b o hb hn)).trans hb,rfl⟩) hf ((other e (Ne.symm hTe)).trans he) (λb o hb=>(other b λq=>by rw[q,hnT]at hb;cases hb).trans (stay b o hb)) ne hd (fh.mp h1).1 h0
   λh'⟨x1,x2,x3,x4⟩=>hQ h' ⟨x1,ne,x2,x3⟩ λb o hb hn=>x4 b o ((other b (noRec b o hb hn)).trans hb) hn
def yJ(I:Inv X pins σ H s)(hex:X.ex=[])(hst:X.stack=X.env::X.outer)(hfr:X.env.frame=some X.env.locals)
 (ne:X.s₀.heap.get? e=none)(nT:X.s₀.heap.get? T=none)(fe:H e=none)(fT:H T=none)
 (fl:Heap.FlyingW (less s.heap (e::T::frs X.stack)) X.outer e cls a0 h')(sm:s.heap.UpToSlots h') :
 Fly X.s₀.heap H e cls h'/\Un (frs X.outer) [] X.H₀ H X.s₀.heap h'/\HOk X.prog X.w H h':=by
 obtain⟨stay,ne',ff,oe,vs,T',oT,ts,he,hc,hd,h1,nT',hTe,hT,hdT,h3⟩:=fl
 have out:∀b o,s.heap.get? b=some o->b≠e->b≠T->b∉frs X.stack->h'.get? b=some o:=λb o q n1 n2 n3=>by
  refine stay b o ?_;rw[jb (by simp[n1,n2,n3])];exact q
 have ins:∀b o,s.heap.get? b=some o->b∈frs X.stack->∃sl,h'.get? b=some {o with slots:=sl}:=λb o q hb=>by
  obtain⟨_,o',ho',nf⟩:=I.stack.mem hb;rw[q]at ho';cases ho';exact sm b o q nf
 have gone:∀b,s.heap.get? b=none->X.s₀.heap.get? b=none:=λb q=>by
  cases z:X.s₀.heap.get? b with
  |none=>rfl
  |some o =>
   obtain⟨o',q'⟩:=I.base.there b o z (by rw[hex];simp);rw[q]at q';cases q'
 have hL0:X.s₀.heap.get? X.env.locals=none:=lp I.ok.above
 have hstk:∀b,b∈frs X.stack->b=X.env.locals\/b∈frs X.outer:=λb hb=>by
  rw[hst]at hb;unfold frs at hb;rw[bw,hfr]at hb;exact aA.mp hb
 have hsub:∀b,b∈frs X.outer->b∈frs X.stack:=λb hb=>by
  rw[hst];unfold frs;rw[bw,hfr];exact ao _ hb
 have nT2:X.s₀.heap.get? T'=none/\H T'=none:=by
  by_cases hm:T'∈e::T::frs X.stack
  .rcases aA.mp hm with q|hm
   .exact absurd q hTe
   .rcases aA.mp hm with q|hm
    .rw[q];exact⟨nT,fT⟩
    .obtain⟨_,o',ho',nf⟩:=I.stack.mem hm;obtain⟨sl,z⟩:=ins T' o' ho' hm;rw[hT]at z;cases z;exact absurd hdT (nf ts)
  .rw[jb hm]at nT';exact⟨gone _ nT',I.hok.gone nT'⟩
 refine⟨⟨ne,fe,oe,vs,a0,T',oT,ts,.none,he,hc,hd,h1,nT2,hTe,hT,hdT,h3⟩,⟨λb o q n hb _=>?_,λb o q n hb _=>?_,λb o q n _=>?_,λb o q _=>?_,I.base.tups,I.base.frzs,I.base.tbls⟩,λb o q=>?_⟩
 .refine out b o (I.base.keep b o q n hb (by rw[hex];simp)) ?_ ?_ λz=>?_
  .rintro rfl;rw[ne]at q;cases q
  .rintro rfl;rw[nT]at q;cases q
  .rcases hstk b z with z|z
   .rw[z,hL0]at q;cases q
   .exact hb z
 .obtain⟨sl,z⟩:=I.base.slot b o q n hb (by rw[hex];simp);obtain⟨sl2,z2⟩:=ins b _ z (hsub b hb);exact⟨sl2,z2⟩
 .exact I.base.free b o q n (by rw[hex];simp)
 .obtain⟨o',z⟩:=I.base.there b o q (by rw[hex];simp);by_cases hb:b∈frs X.stack
  .obtain⟨sl,z'⟩:=ins b o' z hb;exact⟨_,z'⟩
  .refine⟨o',out b o' z ?_ ?_ hb⟩
   .rintro rfl;rw[ne]at q;cases q
   .rintro rfl;rw[nT]at q;cases q
 .refine(I.hok b o q).stay (λc u hc z=>out c u z ?_ ?_ ?_) (λ_ z=>z) λ_ _ z=>z
  all_goals have hH:∃v,H c=some v:=hc.elim (λz=>⟨o,by rw[z];exact q⟩) λz=>⟨_,z⟩
  .rintro rfl;obtain⟨v,z2⟩:=hH;rw[fe]at z2;cases z2
  .rintro rfl;obtain⟨v,z2⟩:=hH;rw[fT]at z2;cases z2
  .intro z3;obtain⟨v,z2⟩:=hH;rw[I.stkFree c z3]at z2;cases z2
section
variable{P:aQ}{w:bD}{K:PySem.W.Frag}{mg:Str->Option ai}{base:bW}{N:List Str}{qual:Str}{scope:dQ}{f:av}{cd:ai}{A:bE}{outer:List Env}{s₀:au}{H₀:Hp}{E:XK}{pins:List (av×Obj)}{σ:St}{H:Hp}{s:au}
def Ij:nU (kf (CXE P w) P w K mg base N qual scope f cd A outer s₀ H₀ E) (λ_=>E):=λpins σ H s e cls I fly q=>by
 obtain⟨oe,vs,a0,T,oT,ts,fl,he,hc,hd,h1,⟨fe,fT⟩,hTe,hT,hdT,h3,nw⟩:=fly;show wpAny (model P w) _ (leaving _ (.ref e)) _ _ _;unfold leaving
 refine aI (mZ (base:=less s.heap (e::T::frs (kf (CXE P w) P w K mg base N qual scope f cd A outer s₀ H₀ E).stack)) I.ok.frames rfl jy (fV ay) (mr I.stack λb hb=>fV (ao _ (ao _ hb)))
  ⟨oe,vs,T,oT,ts,he,hc,hd,h1,fV (ao _ ay),hTe,hT,hdT,h3⟩ λh4 held sm4=>?_)
 refine wpAny_landsW held λh'⟨k1,k2,⟨_,_,k3⟩,k4⟩sm5=>?_;obtain⟨z1,z2,z3⟩:=yJ I rfl rfl rfl (nw e ↥0).1 (nw T ↥0).1 fe fT ⟨k1,k2,k3,k4⟩ (sm4.trans sm5);exact⟨e,cls,H,rfl,z1,z2,z3,I.os,I.bare,q⟩
def Nb{e:av}{cls:ai}{vs:List ai}{h':bW}(I:Inv (kf (CXE P w) P w K mg base N qual scope f cd A outer s₀ H₀ E) pins σ H s)(hx:Heap.MadeExcOf s.heap h' e cls vs)(q:E cls none H) :
 (kf (CXE P w) P w K mg base N qual scope f cd A outer s₀ H₀ E).xe (.ref e) {s with heap:=h'}:=by
 have gone:∀b,s.heap.get? b=none->s₀.heap.get? b=none:=λb q=>by
  cases z:s₀.heap.get? b with
  |none=>rfl
  |some o =>
   obtain⟨o',q'⟩:=I.base.there b o z (show b∉([]:List av) by simp);rw[q]at q';cases q'
 show wpAny (model P w) _ (leaving _ (.ref e)) _ _ _;refine wpAny_leaves_madeW (base:=less s.heap (e::e::frs (kf (CXE P w) P w K mg base N qual scope f cd A outer s₀ H₀ E).stack)) (h:=s.heap) I.ok.frames rfl jy (mr I.stack λb hb=>fV (ao _ (ao _ hb))) hx λh'' t fl _ _ sm=>?_;obtain⟨z1,z2,z3⟩:=yJ I rfl rfl rfl (gone e hx.new) (gone e hx.new) (I.hok.gone hx.new) (I.hok.gone hx.new) fl ((Heap.UpToSlots.of_keeps hx.keeps).trans sm);exact⟨e,cls,H,rfl,z1,z2,z3,I.os,I.bare,q⟩
end
def vM(X:Cx)(E:St->XK):Prop:=∀(pins:List (av×Obj))(σ:St)(H:Hp)(s:au)(e:ai)(s':au),Inv X pins σ H s->CXE X.prog X.w X.stack H s (E σ) e s'->X.xe e s'
def uZ{X:Cx}{E:St->XK}(hex:X.ex=[])(R:nU X E):vM X E:=λpins σ H s e s' I h=>by
 obtain⟨a,cls,H',rfl,fly,un,hok,os,bare,q⟩:=h;obtain⟨hh,g,d,t,os'⟩:=s';obtain rfl:os'=s.os:=os;have I2:=I.call (h':=hh) (g':=g) (d':=d) (t':=t) (ch:=[]) un hok bare (λb z=>absurd z ↥0);obtain⟨oe,vs,a0,T,oT,ts,fl,he,hc,hd,h1,⟨nT,fT⟩,hTe,hT,hdT,h3⟩:=fly.tr;refine R pins σ H' _ a cls I2 ⟨oe,vs,a0,T,oT,ts,fl,he,hc,hd,h1,⟨fly.fre,fT⟩,hTe,hT,hdT,h3,λb hb=>qW I hex ?_⟩ q;rcases aA.mp hb with z|z
 .rw[z];exact fly.new
 .rw[bY.mp z];exact nT
structure Rz(X:Cx)(E:St->XK):Prop where
 pass:nU X E
 made:∀(pins:List (av×Obj))(σ:St)(H:Hp)(s:au)(e:av)(cls:ai)(vs:List ai)(h':bW),Inv X pins σ H s->Heap.MadeExcOf s.heap h' e cls vs->E σ cls none H->X.xe (.ref e) {s with heap:=h'}
def MA{P:aQ}{w:bD}{K:PySem.W.Frag}{mg:Str->Option ai}{base:bW}{N:List Str}{qual:Str}{scope:dQ}{f:av}{cd:ai}{A:bE}{outer:List Env}{s₀:au}{H₀:Hp}{E:XK} :
 Rz (kf (CXE P w) P w K mg base N qual scope f cd A outer s₀ H₀ E) (λ_=>E):=⟨Ij,λ_ _ _ _ _ _ _ _ I hx q=>Nb I hx q⟩
def Ig:Rz X (λ_=>E0):=⟨λ_ _ _ _ _ _ _ _ q=>q.elim,λ_ _ _ _ _ _ _ _ _ _ q=>q.elim⟩
def veB:List ai:=[.type "ValueError",.type "Exception",.type "BaseException",.type "object"]
def VE(K:PySem.W.Frag)(C:av):Bool:=PySem.W.excIn K C veB "ValueError.__new__"
def oV{K:PySem.W.Frag}{h:bW}{C:av}(X:K.In h)(q:VE K C=true):∃bm N nm qn bs hdct sn sub ab col dd k0 k1 k2 k3 k5 mN,h.get? C=some (excClassObj nm qn C N bs bm hdct sn sub ab col dd k0 k1 k2 k3 k5 "ValueError.__new__")/\h.Ns N mN/\mN "__init__"=none/\vS h veB bm:=by
 unfold VE PySem.W.excIn at q;split at q
 .rename_i dd cd sl ho;split at q
  .rename_i C' bm k0 k1 k2 k3 n k5 hm hs;simp only[aa,beq_iff_eq,de]at q;obtain⟨⟨⟨⟨⟨rfl,rfl⟩,hdel⟩,ht⟩,hok⟩,hni⟩:=q;obtain⟨nm,bs,mro,ns,qn,hd,sn,sub,ab,col,del⟩:=cd;dsimp only at hm hdel hok hni;subst hm hdel
   have hsl:sl=#[k0,k1,k2,k3,some (.builtin "ValueError.__new__"),k5]:=by
    obtain⟨l⟩:=sl;simp only at hs;rw[hs]
   subst hsl;exact⟨bm,ns,nm,qn,bs,hd,sn,sub,ab,col,dd,k0,k1,k2,k3,k5,_,X _ _ ho,.of_isNs (PySem.W.isNs_of_in X hok),PySem.W.nsMap_none_of_in X hok hni,PySem.W.tail_of_in X ht⟩
  .cases q
 .cases q
def Cv{X:Cx}{E:St->XK}{x t:Str}{C:av}{np cp j2 pos:Pos}{j:Nat}(R:Rz X E)(hc:X.calm=true)(hg:Gl X x)(hm:X.mg x=some (.ref C))(hC:VE X.K C=true)(hd:(x==("__debug__":Str))=false) :
 PS X (.Raise (some (.Call (.Name x np) [.Constant (.str t) j j2] [] cp)) none pos) (λ_ σ H=>E σ (.ref C) none H):=by
 intro pins s σ H D I h;obtain⟨tl,N,nm,q,bs,hdct,sn,sub,ab,col,dd,k0,k1,k2,k3,k5,mN,hC,hN,hni,T⟩:=oV I.mod.kin hC
 refine wpAny_Raise_call_subT (C:=C) (nm:=nm) (q:=q) (N:=N) (bs:=bs) (bm:=tl) (hdct:=hdct) (sn:=sn) (sub:=sub) (ab:=ab) (col:=col) (dd:=dd) (k0:=k0) (k1:=k1) (k2:=k2) (k3:=k3) (k5:=k5)
  PySem.F.excBase_ValueError (mN:=mN) (T.hasType PySem.F.excBase_ValueError.hasBase) (I.ok.hd hc) rfl hni (kE I hg hm ⟨rfl,?_⟩ hd)
 have ha:PA X [.Constant (.str t) j j2] (nK (tC (.str t)) Bt):=dS wK iQ;refine kP (thn (ha cp pins s σ H (λvs H1=>vs.length=1/\H1=H) I ⟨rfl,rfl⟩) λus s2⟨vs,H2,I2,r,hl,hH⟩=>?_);refine⟨rfl,?_,I2.bk _ _ hC,hN.keeps I2.bk,T.keeps I2.bk,λh' e hx=>R.made pins σ H2 s2 e _ _ h' I2 hx (by rw[hH];exact h)⟩;show us.length<=sizeLine;rw[<- r.length,hl];decide
section
variable{X:Cx}
def PA.nox{es:List aE}{t:TA}(h:PA X.nox es t):PA X es t:=λpos pins s σ H Q I hw =>
 cw (h pos pins s σ H Q (I.wish _) hw) (λ_ _⟨v,H',I',r,q⟩=>⟨v,H',I'.unwish,r,q⟩) λ_ _ z=>bz z
def PS.nox{st:bG}{t:TS}(h:PS X.nox st t):PS X st t:=λpins s σ H D I hw =>
 cw (h pins s σ H D (I.wish _) hw) (λ_ _ q=>q.unwish) λ_ _ z=>bz z
def uX{E:St->XK}(R:vM X E)(F:gD X.prog X.w X.K X.mg X.base (CXE X.prog X.w) k f fd ps sp)(hr:jO k X.A)(hg:Gl X x)(hm:X.mg x=some (.ref f))(hk:PySem.W.keepIn X.K (.ref f)=true)(hb:Binds X.K fd ps [])
 (ha:PA X (e::es) t)(hdb:(x==("__debug__":Str))=false)(he:starEach (e::es) X.env=(false,eval e X.env)::starEach es X.env)(hpl:(backTo pos (starEach es X.env)).any (·.1)=false) :
 PE X (.Call (.Name x p) (e::es) [] pos) (λσ H Q=>t σ H λvs H1=>sp vs H1 Q (E σ)):=by
 intro pins s σ H Q I h;refine jG (kE I hg hm ?_ hdb);refine PySem.W.callWith_K (h₀:=X.base) I.ok.mod.kin hk (thn (ha pos pins s σ H _ I h) λus s1⟨vs,H1,I1,r,q⟩=>⟨I1.kIn,?_⟩) he hpl;have hl:us.length=ps.length:=by rw[<- r.length];exact F.len _ _ _ _ q
 have hb2:=hb s1 us I1.kIn (by rw[bt];exact hl);rw[bt]at hb2;refine wpAny_call (qv (F.run X.A X.stack s1 H1 ⟨us,[]⟩ us vs Q (E σ) hr I1.env0 hb2 r q) λr s' hq=>?_)
 cases r with
 |error e=>exact R pins σ H1 s1 e s' I1 hq
 |ok fl =>
  cases fl with
  |ret u=>exact I1.after hq
  |next=>exact bz hq
  |brk=>exact bz hq
  |cont=>exact bz hq
end
section
variable{M:Model}{A:bE}{E:ai->au->Prop}
variable{nm q nm' q':Str}{C N C' N':av}{bs bm bs' bm':List ai}{hdct hdct':Bool}{sn sn':List Str}{sub sub':List ai}{ab ab':Bool}{col col':Option Bool}{dd dd':Option av}{k0 k1 k2 k3 k5 l0 l1 l2 l3 l5:Option ai}{newId newId':String}
def zS{h:bW}{g:Array xQ}{d:Drawn}{t:Nat}{os:OsState}{e:av}{oe:Obj}{Q:Bool->au->Prop}
 (hC:h.get? C=some (excClassObj nm q C N bs bm hdct sn sub ab col dd k0 k1 k2 k3 k5 newId))(hP:h.get? C'=some (excClassObj nm' q' C' N' bs' bm' hdct' sn' sub' ab' col' dd' l0 l1 l2 l3 l5 newId'))
 (he:h.get? e=some oe)(hcls:oe.cls=.ref C)(hbase:bm'.contains (.type "BaseException")=true)
 (hq:Q ((cm C::bm).contains (.ref C')) ⟨h,g,d,t,os⟩):wpAny M A (excMatches (.ref e) (.ref C')) Q E ⟨h,g,d,t,os⟩:=by
 have hcB:(cm C'::bm').contains (.type "BaseException")=true:=by rw[iN,hbase,nZ]
 have f:=tc_notTuple;unfold excMatches
 repeat (first|(with_reducible refine dP he ?_;rw[hcls])|with_reducible refine dP hP ?_|(with_reducible refine iU hP ?_;rw[hcB])|(with_reducible refine iU hC ?_)|wp_step)
 cases hb:(cm C::bm).contains (.ref C')<;>(rw[hb]at hq;wp_walk;exact hq)
end
section
variable{X:Cx}{pins:List (av×Obj)}{σ:St}{H:Hp}{s:au}{h':bW}
def Inv.over{l:List av}{t':Nat}(I:Inv X pins σ H s)(hex:X.ex=[])(hl:∀b∈l,X.s₀.heap.get? b=none/\b≠X.env.locals/\(∀x c,X.env.cells.lookup x=some c->c≠b)/\∀p∈X.pn++pins,p.1≠b)
 (keep:∀b o,b∉frs X.stack->b∉l->s.heap.get? b=some o->h'.get? b=some o)(slot:∀b o,b∈frs X.stack->s.heap.get? b=some o->∃sl,h'.get? b=some {o with slots:=sl})(hok:HOk X.prog X.w H h') :
 Inv X pins σ H {s with heap:=h',toks:=t'}:=by
 have any:∀b o,b∉l->s.heap.get? b=some o->∃sl,h'.get? b=some {o with slots:=sl}:=λb o n e=>by
  by_cases hb:b∈frs X.stack
  .exact slot b o hb e
  .exact⟨o.slots,keep b o hb n e⟩
 have nl:∀b o,X.s₀.heap.get? b=some o->b∉l:=λb o e z=>by rw[(hl b z).1]at e;cases e
 have nL:∀b o,X.s₀.heap.get? b=some o->b≠X.env.locals:=λb o e=>aU (aK (aJ e) I.ok.above);have ni:∀b,b∉X.ex:=λb=>by rw[hex];simp
 have nst:∀b,b≠X.env.locals->b∉X.fs->b∉frs X.stack:=λb h1 h2 z=>(aA.mp (I.stkSub b z)).elim h1 h2;have nlc:X.env.locals∉l:=λz=>(hl _ z).2.1 rfl
 have cellK:∀x c,X.env.cells.lookup x=some c->∀v,s.heap.IsCell c v->h'.IsCell c v:=λx c e v zz=>by
  obtain⟨o,ho,hd⟩:=zz;obtain⟨sl,q⟩:=any c o (λz=>(hl c z).2.2.1 x c e rfl) ho;exact⟨_,q,hd⟩
 refine⟨I.ok,I.os,I.bare,⟨λb o e n hb hx=>?_,λb o e n hb hx=>?_,λb o e n hx=>I.base.free b o e n hx,λb o e hx=>?_,I.base.tups,I.base.frzs,I.base.tbls⟩,?_,λx c e=>?_,I.free,I.freeC,λp hp=>?_,hok,I.len⟩
 .exact keep b o (nst b (nL b o e) hb) (nl b o e) (I.base.keep b o e n hb hx)
 .obtain⟨sl,q⟩:=I.base.slot b o e n hb hx;obtain⟨sl2,q2⟩:=any b _ (nl b o e) q;exact⟨sl2,q2⟩
 .obtain⟨o',q⟩:=I.base.there b o e hx;obtain⟨sl2,q2⟩:=any b _ (nl b o e) q;exact⟨_,q2⟩
 .obtain⟨m,⟨o,es,ep,ho,r⟩,hv⟩:=I.loc;obtain⟨sl,q⟩:=any _ o nlc ho;refine⟨m,⟨_,es,ep,q,r⟩,λi x v e1 e2 e3=>?_⟩;obtain⟨u,rv,lk⟩:=hv i x v e1 e2 e3;refine⟨u,rv,?_⟩;rcases lk with lk|⟨k,c,e,z⟩
  .exact .inl lk
  .exact .inr ⟨k,c,e,cellK x c e _ z⟩
 .obtain⟨v,z⟩:=I.cell x c e;exact⟨v,cellK x c e v z⟩
 .obtain⟨e,n,ne,nf,d⟩:=I.pin p hp;exact⟨keep p.1 p.2 (nst p.1 ne nf) (λz=>(hl p.1 z).2.2.2 p hp rfl) e,n,ne,nf,d⟩
def Inv.fly{e T:av}{t':Nat}(I:Inv X pins σ H s)(hex:X.ex=[])(fe:H e=none)(fT:H T=none)
 (hl:∀b∈[e,T],X.s₀.heap.get? b=none/\b≠X.env.locals/\(∀x c,X.env.cells.lookup x=some c->c≠b)/\∀p∈X.pn++pins,p.1≠b)
 (stay:(less s.heap (e::T::frs X.stack)).StaysIn h')(sm:s.heap.UpToSlots h'):Inv X pins σ H {s with heap:=h',toks:=t'}:=by
 have keep:∀b o,b∉frs X.stack->b∉[e,T]->s.heap.get? b=some o->h'.get? b=some o:=λb o n1 n2 q=>by
  refine stay b o ?_;rw[jb]
  .exact q
  .intro z;rcases aA.mp z with z|z
   .exact n2 (by rw[z];simp)
   .rcases aA.mp z with z|z
    .exact n2 (by rw[z];simp)
    .exact n1 z
 refine I.over hex hl keep (λb o hb q=>?_) λb o q=>?_
 .obtain⟨_,o',ho',nf⟩:=I.stack.mem hb;rw[q]at ho';cases ho';exact sm b o q nf
 .refine(I.hok b o q).stay (λc u hc z=>keep c u ?_ ?_ z) (λ_ z=>z) λ_ _ z=>z
  all_goals have hH:∃v,H c=some v:=hc.elim (λz=>⟨o,by rw[z];exact q⟩) λz=>⟨_,z⟩
  .intro z3;obtain⟨v,z2⟩:=hH;rw[I.stkFree c z3]at z2;cases z2
  .intro z3;obtain⟨v,z2⟩:=hH;rcases aA.mp z3 with z3|z3
   .rw[z3,fe]at z2;cases z2
   .rw[bY.mp z3,fT]at z2;cases z2
end
def subIn(K:PySem.W.Frag)(C P:av):Bool:=match K.lookup C with
 |some ⟨_,_,.cls cd,_⟩=>cd.mro.contains (.ref P)
 |_=>false
def Jv{K:PySem.W.Frag}{h:bW}{C P N:av}{nm q:Str}{bs bm:List ai}{hdct:Bool}{sn:List Str}{sub:List ai}{ab:Bool}{col:Option Bool}{dd:Option av}{k0 k1 k2 k3 k5:Option ai}{newId:String}{b:Bool}(X:K.In h)(e:subIn K C P=b)(hv:VE K C=true)
 (hC:h.get? C=some (excClassObj nm q C N bs bm hdct sn sub ab col dd k0 k1 k2 k3 k5 newId)):(cm C::bm).contains (.ref P)=b:=by
 unfold subIn at e;split at e
 .rename_i ho;have z:=X _ _ ho;rw[hC]at z;cases z;exact e
 .rename_i hn;unfold VE PySem.W.excIn at hv;split at hv
  .rename_i ho;exact absurd ho (hn _ _ _ _)
  .cases hv
abbrev Cx.mrk(X:Cx)(e:av):Cx:={X with A:=X.A.mark (some (.ref e)),calm:=false,xe:=λ_ _=>False}
def Cx.Ok.mrk{X:Cx}(ok:X.Ok)(e:av):(X.mrk e).Ok :=
 ⟨ok.mod,ok.kind,ok.glob,ok.blt,ok.above,ok.inj,ok.has,ok.cab,(λz=>nomatch z),ok.frames,ok.stk,ok.exf,ok.bs,ok.bsz,ok.noex,ok.exfs,ok.funs,ok.frf⟩
def Inv.mrk{X:Cx}{pins:List (av×Obj)}{σ:St}{H:Hp}{s:au}(I:Inv X pins σ H s)(e:av):Inv (X.mrk e) pins σ H s:=⟨I.ok.mrk e,I.os,I.bare,I.base,I.loc,I.cell,I.free,I.freeC,I.pin,I.hok,I.len⟩
def Inv.unmrk(ok:X.Ok)(I:Inv (X.mrk e) pins σ H s):Inv X pins σ H s:=⟨ok,I.os,I.bare,I.base,I.loc,I.cell,I.free,I.freeC,I.pin,I.hok,I.len⟩
section
variable{X:Cx}{pins:List (av×Obj)}{σ:St}{H:Hp}{s:au}{a:av}{cls:ai}{x n:Str}{P:av}{np hp:Pos}{b₀:bG}{suite:List bG}{rest:List kr}{Q:Flow->au->Prop}{EX:ai->au->Prop}
def LG(I:Inv X pins σ H s)(fly:LU X pins H a cls s.heap)(hex:X.ex=[])(hst:X.stack=X.env::X.outer)(hfr:X.env.frame=some X.env.locals)(hg:Gl X x)(hm:X.mg x=some (.ref P))(hP:VE X.K P=true)(hd:(x==("__debug__":Str))=false)
 (k:∃C,cls=.ref C/\VE X.K C=true/\subIn X.K C P=true/\∀(s2:au)(oe:Obj)(vs:Array ai),(Inv X ((a,oe)::pins) σ H s2->oe.cls=.ref C->oe.data=.fields vs ->
   wpAny (model X.prog X.w) (X.A.mark (some (.ref a))) (storeName X.env n (.ref a)) (λ_ s₃=>wpAny (model X.prog X.w) (X.A.mark (some (.ref a))) (execs (b₀::suite) X.env)
    (λf s₄=>wpAny (model X.prog X.w) X.A (do bindName X.env n .none;unbindBehindTheSuite X.env n hp) (λ_ s₅=>Q f s₅) (λ_ _=>False) s₄) (λ_ _=>False) s₃) (λ_ _=>False) s2)) :
 wpAny (model X.prog X.w) X.A (noteFrame (.ref a) X.env) (λ_ s₂=>wpAny (model X.prog X.w) X.A (setFlight (.ref a) none) (λ_ s₃ =>
  wpAny (model X.prog X.w) X.A (handleBy (.ref a) X.env (.ExceptHandler (some (.Name x np)) (some n) (b₀::suite) hp::rest)) Q EX s₃) EX s₂) EX s:=by
 obtain⟨oe,vs,a0,T,oT,ts,fl,he,hc,hdt,h1,⟨fe,fT⟩,hTe,hT,hdT,h3,hl⟩:=fly;refine mZ (base:=less s.heap (a::T::frs X.stack)) (outer:=X.outer) (by rw[<- hst];exact I.ok.frames) hfr jy (fV ay) (by rw[<- hst];exact mr I.stack λb hb=>fV (ao _ (ao _ hb))) ⟨oe,vs,T,oT,ts,he,hc,hdt,h1,fV (ao _ ay),hTe,hT,hdT,h3⟩ λh4 held4 sm4=>?_;refine wpAny_landsW held4 λh5 fl5 sm5=>?_;have I5:=I.fly (t':=s.toks) hex fe fT hl fl5.1 (sm4.trans sm5);refine wpAny_handleBy_cons (codeAny_handlers_test (kE (X:=X.mrk a) (I5.mrk a) hg hm ?_ hd)) (by intro q;cases q);obtain⟨C,rfl,vC,sC,k⟩:=k;obtain⟨tl,N,nm,qn,bs,hdct,sn,sub,ab,col,dd,k0,k1,k2,k3,k5,mN,hC,hN,hni,TL⟩:=oV I5.kIn vC;obtain⟨tl',N',nm',qn',bs',hdct',sn',sub',ab',col',dd',l0,l1,l2,l3,l5,mN',hC',hN',hni',TL'⟩:=oV I5.kIn hP;obtain⟨ob,hob,hobc⟩:=fl5.there;refine zS hC hC' hob hobc (TL'.hasType rfl) ?_;rw[Jv I5.kIn sC vC hC];refine codeAny_handlers_suite_as ?_;refine lands_againW fl5 λh6 fl6 sm6=>?_;have I6:=I.fly (t':=s.toks) hex fe fT hl fl6.1 ((sm4.trans sm5).trans sm6);obtain⟨oe6,vs6,he6,hc6,hd6,_⟩:=fl6.first;have ha:=hl a ay
 have nfs:a∉X.fs:=λz=>by
  obtain⟨_,o,ho,nf⟩:=I6.funs.mem z;rw[he6]at ho;cases ho;exact nf _ hd6
 have I7:Inv X ((a,oe6)::pins) σ H {s with heap:=h6,toks:=s.toks}:=⟨I6.ok,I6.os,I6.bare,I6.base,I6.loc,I6.cell,I6.free,I6.freeC,λp hp=>by
  rcases cc.mp hp with z|z
  .exact I6.pin p (bZ _ z)
  .rcases aA.mp z with z|z
   .rw[z];exact⟨he6,fe,ha.2.1,nfs,λv z=>by rw[hd6]at z;cases z⟩
   .exact I6.pin p (aP _ z),I6.hok,I6.len⟩
 refine cw (k _ oe6 vs6 I7 hc6 hd6) (λ_ s₃ h₃=>cw h₃ (λf s₄ h₄=>?_) λ_ _ z=>bz z) λ_ _ z=>bz z;exact cw h₄ (λ_ _ z=>z) λ_ _ z=>bz z
end
section
variable{X:Cx}{pins:List (av×Obj)}{σ:St}{H:Hp}{s:au}
def zR{E:ai->au->Prop}(I:Inv X pins σ H s)(hN:X.N.Nodup)(hi:X.N[i]?=some x)(hx:X.env.kindOf x=some .local)
 (h:∀s',Inv X pins (σ.set i none) H s'->Q () s'):wpAny M A (do bindName X.env x .none;unbindBehindTheSuite X.env x pos) Q E s:=by
 obtain⟨m,hn,hl⟩:=id I.loc;refine wpAny_nameGoes_keeps hx hn (by rw[I.ok.kind];rfl) λh' v hn' hs=>h _ ?_;have keep:∀b o,b≠X.env.locals->s.heap.get? b=some o->h'.get? b=some o:=λb o hb e=>(hs.2 b hb).trans e;have nL:∀b o,X.s₀.heap.get? b=some o->b≠X.env.locals:=λb o e=>aU (aK (aJ e) I.ok.above);refine⟨I.ok,I.os,I.bare,⟨λb o e n hb hx=>?_,λb o e n hb hx=>?_,λb o e n hx=>I.base.free b o e n hx,λb o e hx=>?_,I.base.tups,I.base.frzs,I.base.tbls⟩,?_,λy c e=>?_,I.free,I.freeC,λp hp=>?_,λb o e=>?_,by rw[bb];exact I.len⟩
 .exact keep b o (nL b o e) (I.base.keep b o e n hb hx)
 .obtain⟨sl,q⟩:=I.base.slot b o e n hb hx;exact⟨sl,keep b _ (nL b o e) q⟩
 .obtain⟨o',q⟩:=I.base.there b o e hx;exact⟨o',keep b _ (nL b o e) q⟩
 .refine⟨_,hn',λj y w e1 e2 e3=>?_⟩
  have hj:j≠i:=by
   rintro rfl;rw[ji]at e2;simp only[↓reduceIte]at e2;split at e2<;>cases e2
  have e2':σ[j]?=some (some w):=by
   rw[aM (Ne.symm hj)]at e2;exact e2
  have ny:y≠x:=by
   rintro rfl;exact hj ((List.getElem?_inj (aF.mp e1).1 hN).mp (e1.trans hi.symm))
  obtain⟨u,r,lk⟩:=hl j y w e1 e2' e3;refine⟨u,r,?_⟩;rcases lk with⟨k,z⟩|⟨k,c,e,⟨o,ho,hd⟩⟩
  .refine .inl ⟨k,?_⟩;show(if y=x then v else m y)=some u;rw[if_neg ny];exact z
  .exact .inr ⟨k,c,e,o,keep c o (I.cne y c e) ho,hd⟩
 .obtain⟨v,o,ho,hd⟩:=I.cell y c e;exact⟨v,o,keep c o (I.cne y c e) ho,hd⟩
 .obtain⟨e,n,ne,nf,d⟩:=I.pin p hp;exact⟨keep _ _ ne e,n,ne,nf,d⟩
 .refine(I.hok b o e).stay (λc u hc z=>keep c u ?_ z) (λ_ z=>z) λ_ _ z=>z;rintro rfl;rcases hc with z2|z2
  .rw[<- z2,I.free]at e;cases e
  .rw[I.free]at z2;cases z2
end
def Inv.unpin(I:Inv X (q::pins) σ H s):Inv X pins σ H s :=
 ⟨I.ok,I.os,I.bare,I.base,I.loc,I.cell,I.free,I.freeC,λp hp=>I.pin p ((cc.mp hp).elim (bZ _) λz=>aP _ (ao _ z)),I.hok,I.len⟩
abbrev Cx.tried(X:Cx)(pn:List (av×Obj))(xe:ai->au->Prop):Cx:={X with pn:=pn,xe:=xe}
def Cx.Ok.tried{X:Cx}(ok:X.Ok)(pn:List (av×Obj))(xe:ai->au->Prop):(X.tried pn xe).Ok :=
 ⟨ok.mod,ok.kind,ok.glob,ok.blt,ok.above,ok.inj,ok.has,ok.cab,ok.hd,ok.frames,ok.stk,ok.exf,ok.bs,ok.bsz,ok.noex,ok.exfs,ok.funs,ok.frf⟩
section
variable{X:Cx}{pins pins':List (av×Obj)}{σ:St}{H:Hp}{s:au}{xe:ai->au->Prop}
def Inv.tried(I:Inv X pins σ H s):Inv (X.tried (X.pn++pins) xe) [] σ H s:=⟨I.ok.tried _ _,I.os,I.bare,I.base,I.loc,I.cell,I.free,I.freeC,λp hp=>I.pin p (by simpa using hp),I.hok,I.len⟩
def Inv.untried(ok:X.Ok)(I:Inv (X.tried (X.pn++pins) xe) pins' σ H s):Inv X pins σ H s:=⟨ok,I.os,I.bare,I.base,I.loc,I.cell,I.free,I.freeC,λp hp=>I.pin p (bZ _ hp),I.hok,I.len⟩
def SP.untried{D:Ends}(ok:X.Ok)(h:SP (X.tried (X.pn++pins) xe) pins' D f s'):SP X pins D f s':=by
 cases f with
 |next=>obtain⟨σ',H',I,q⟩:=h;exact⟨σ',H',I.untried ok,q⟩
 |brk=>obtain⟨σ',H',I,q⟩:=h;exact⟨σ',H',I.untried ok,q⟩
 |cont=>obtain⟨σ',H',I,q⟩:=h;exact⟨σ',H',I.untried ok,q⟩
 |ret u=>obtain⟨v,σ',H',I,r,q⟩:=h;exact⟨v,σ',H',I.untried ok,r,q⟩
end
def qns:List Str:=["__getattribute__","__getattr__","__class__"]
def FY(K:PySem.W.Frag):List ai->Bool
 |[]=>false
 |v::r=>(v::r)==veB||match v with
  |.ref A=>(match K.lookup A with
   |some ⟨_,_,.cls cd,_⟩=>PySem.W.nsOkIn K cd.ns&&qns.all (λn=>PySem.W.nsIn K cd.ns n==some none)&&FY K r
   |_=>false)
  |_=>false
def pC(K:PySem.W.Frag)(C:av):Bool:=match K.lookup C with
 |some ⟨_,_,.cls cd,_⟩=>FY K cd.mro
 |_=>false
section
variable{M:Model}{A:bE}{E:ai->au->Prop}{h:bW}{g:Array xQ}{d:Drawn}{t:Nat}{os:OsState}{K:PySem.W.Frag}
def Dl(X:K.In h)(hn:n∈qns)(hrest:lookupAlong veB n=pure y)(hq:Q y ⟨h,g,d,t,os⟩):∀{l:List ai},FY K l=true->wpAny M A (lookupAlong l n) Q E ⟨h,g,d,t,os⟩
 |[],e=>by cases e
 |v::r,e=>by
  unfold FY at e;rcases fI.mp e with q|q
  .rw[beq_iff_eq.mp q,hrest];exact bh hq
  .split at q
   .split at q
    .rename_i ho;simp only[aa]at q;rw[lookupAlong_cons];refine aI (wpAny_classOwn_cls (X _ _ ho) (.of_isNs (PySem.W.isNs_of_in X q.1.1)) ?_);rw[PySem.W.nsMap_none_of_in X q.1.1 (beq_iff_eq.mp (bO.mp q.1.2 n hn))];exact Dl X hn hrest hq q.2
    .cases q
   .cases q
variable{nm q:Str}{C N:av}{bs bm:List ai}{hdct:Bool}{sn:List Str}{sub:List ai}{ab:Bool}{col:Option Bool}{dd:Option av}{k0 k1 k2 k3 k5:Option ai}{newId:String}
def wc(X:K.In h)(hn:n∈qns)(hC:h.get? C=some (excClassObj nm q C N bs bm hdct sn sub ab col dd k0 k1 k2 k3 k5 newId))(hv:pC K C=true)
 (hB:typeLookup (.type "ValueError") n=pure y)(hq:Q y ⟨h,g,d,t,os⟩):wpAny M A (typeLookup (.ref C) n) Q E ⟨h,g,d,t,os⟩:=by
 have hrest:lookupAlong veB n=pure y:=by rw[typeLookup_eq,PySem.F.attrBase_ValueError.mro]at hB;exact hB
 rw[typeLookup_eq];refine aI (wpAny_mroOf_exc hC ?_);refine Dl X hn hrest hq ?_;unfold pC at hv;split at hv
 .rename_i ho;have z:=X _ _ ho;rw[hC]at z;cases z;exact hv
 .cases hv
end
def vv:typeLookup (.type "ValueError") "__class__"=pure (some (.builtin "object.__class__")):=by rw[typeLookup_type,EG];kernel_rfl
section
variable{prog:aQ}{w:bD}{A:bE}{E:ai->au->Prop}{h:bW}{g:Array xQ}{d:Drawn}{t:Nat}{os:OsState}{a:av}{o:Obj}{K:PySem.W.Frag}
 {nm q:Str}{C N:av}{bs bm:List ai}{hdct:Bool}{sn:List Str}{sub:List ai}{ab:Bool}{col:Option Bool}{dd:Option av}{k0 k1 k2 k3 k5:Option ai}{newId:String}
def Ed{R:LW->au->Prop}(hC:h.get? C=some (excClassObj nm q C N bs bm hdct sn sub ab col dd k0 k1 k2 k3 k5 newId))(T:vS h veB bm)(hx:h.get? a=some o)(hc:o.cls=.ref C)(hq:R (.ok (.ret (.ref C))) ⟨h,g,d,t,os⟩) :
 codeAny (model prog w) A (.call (.builtin "getset_descriptor.__get__") ⟨[.builtin "object.__class__",.ref a,.ref C],[]⟩) R ⟨h,g,d,t,os⟩:=by
 have hT5:(⟨h,g,d,t,os⟩:au).TypeIs (.builtin "object.__class__") "getset_descriptor":=F.typeOf_object_class
 have hcB:(cm C::bm).contains (.type (".".intercalate ("object.__class__".cutAt '.').dropLast))=true:=by
  rw[F.owner_object_class,iN,T.hasType rfl];rfl
 refine HM F.slot_gs_get.plain F.entry_gs_get (F.slot_gs_get.check _ _ _ _ _ _ _ _ hT5 (F.args_gs_get _ _ _) ?_)
 repeat (any_goals (first|assumption|(with_reducible refine dP hx ?_;rw[hc])|(with_reducible refine iU hC ?_;rw[hcB])|wp_step))
 refine⟨Code.quiet_builtin _ ⇑0,codeAny_builtin F.entry_object_class ?_⟩
 repeat (any_goals (first|assumption|(with_reducible refine dP hx ?_;rw[hc])|wp_step))
def xF(hC:h.get? C=some (excClassObj nm q C N bs bm hdct sn sub ab col dd k0 k1 k2 k3 k5 newId))(T:vS h veB bm)
 (hx:h.get? a=some o)(hc:o.cls=.ref C)(hq:Q () ⟨h,g,d,t,os⟩):wpAny M A (checkBuiltinCall "BaseException.__getattribute__" ⟨[.ref a,nameV],[]⟩) Q E ⟨h,g,d,t,os⟩:=by
 have hk:builtinKind "BaseException.__getattribute__"=some .slot:=by decide
 have hsplit:splitId "BaseException.__getattribute__"=some ("BaseException","__getattribute__"):=by decide
 have hcB:(cm C::bm).contains (.type "BaseException")=true:=by rw[iN,T.hasType rfl];rfl
 have ha:=F.args_bexc_ga (.ref a) nameV;simp only[checkBuiltinCall,hk,hsplit];refine aI ?_;unfold isInstance
 repeat (first|(with_reducible refine dP hx ?_;rw[hc])|(with_reducible refine iU hC ?_;rw[hcB])|wp_step)
 exact hq
def xE(X:K.In h)(hv:pC K C=true)(hC:h.get? C=some (excClassObj nm q C N bs bm hdct sn sub ab col dd k0 k1 k2 k3 k5 newId))(T:vS h veB bm)(hx:h.get? a=some o)(hc:o.cls=.ref C)(hq:Q (.done (.ret (.ref C))) ⟨h,g,d,t,os⟩) :
 wpAny (model prog w) A (Builtin.«object.__getattribute__» ⟨[.ref a,.str "__class__" tk],[]⟩) Q E ⟨h,g,d,t,os⟩:=by
 have hT5:(⟨h,g,d,t,os⟩:au).TypeIs (.builtin "object.__class__") "getset_descriptor":=F.typeOf_object_class;have f5:=F.typeOf_object_class;have f6:=F.slot_gs_get.lookup;have f7:=F.slot_gs_set.lookup;have hm:("__class__":Str)∈qns:=.tail _ (.tail _ (.head _))
 repeat (any_goals (first|assumption|(with_reducible refine dP hx ?_;rw[hc])|with_reducible refine wc X hm hC hv vv ?_|wp_step))
 refine Ed hC T hx hc ?_
 repeat (any_goals (first|assumption|wp_step))
def Hw(X:K.In h)(hv:pC K C=true)(hC:h.get? C=some (excClassObj nm q C N bs bm hdct sn sub ab col dd k0 k1 k2 k3 k5 newId))(T:vS h veB bm)(hx:h.get? a=some o)(hc:o.cls=.ref C)(hq:Q (.ref C) ⟨h,g,d,t,os⟩) :
 wpAny (model prog w) A (getAttrBy (.ref a) (.str "__class__" tk) false) Q E ⟨h,g,d,t,os⟩:=by
 have FB:=F.attrBase_ValueError;have f3:=FB.ga.bind (.ref a);have hx2:(lK "BaseException.__getattribute__"==lK "object.__getattribute__")=false:=by decide
 have hx1:(onTheHeap (cm C)&&lK "BaseException.__getattribute__"==lK "object.__getattribute__")=false:=by rw[hx2];rfl
 have hm1:("__getattribute__":Str)∈qns:=.head _;have hm2:("__getattr__":Str)∈qns:=.tail _ (.head _)
 repeat (any_goals (first|assumption|(with_reducible refine dP hx ?_;rw[hc])|with_reducible refine wc X hm1 hC hv FB.ga.lookup ?_|with_reducible refine wc X hm2 hC hv FB.noGetattr ?_|wp_step))
 refine HM FB.ga.plain F.entry_bexc_ga (xF hC T hx hc (xE X hv hC T hx hc ?_))
 repeat (any_goals (first|assumption|wp_step))
def Af(X:K.In h)(hv:pC K C=true)(hC:h.get? C=some (excClassObj nm q C N bs bm hdct sn sub ab col dd k0 k1 k2 k3 k5 newId))(T:vS h veB bm)(hx:h.get? a=some o)(hc:o.cls=.ref C)(hq:Q (some (.ref C)) ⟨h,g,d,t+1,os⟩) :
 wpAny (model prog w) A (getAttr? (.ref a) "__class__") Q E ⟨h,g,d,t,os⟩:=by
 unfold getAttr? getAttrBy?
 repeat (any_goals (first|assumption|with_reducible apply Hw X hv hC T hx hc|wp_step))
end
def sd{K:PySem.W.Frag}{C:av}(h:VE K C=true):∃d cd sl,K.lookup C=some ⟨.type "type",d,.cls cd,sl⟩/\∃bm,cd.mro=.ref C::bm:=by
 unfold VE PySem.W.excIn at h;split at h
 .rename_i ho;split at h
  .rename_i hm hs;simp only[aa,beq_iff_eq]at h;obtain⟨⟨⟨⟨⟨rfl,_⟩,_⟩,_⟩,_⟩,_⟩:=h;exact⟨_,_,_,ho,_,hm⟩
  .cases h
 .cases h
def yL{K:PySem.W.Frag}{C P:av}{b:Bool}(hC:VE K C=true)(hP:VE K P=true)(hs:subIn K C P=b):PySem.W.kitOne K (.ref C) (.ref P)=some b:=by
 obtain⟨_,cd,_,h1,bm,h2⟩:=sd hC;obtain⟨_,cd',_,h3,_⟩:=sd hP;unfold subIn at hs;rw[h1]at hs;have hs:cd.mro.contains (.ref P)=b:=hs;unfold PySem.W.kitOne;split
 .rename_i q;obtain rfl:C=P:=Value.ref.inj (beq_iff_eq.mp q);rw[<- hs,h2];simp
 .have a1:PySem.W.clsIn K P=some cd':=by unfold PySem.W.clsIn;rw[h3]
  have a2:PySem.W.typeIn K (.ref P)=some (.type "type"):=by show fM _ (K.lookup P)=_;rw[h3];rfl
  have a3:PySem.W.clsIn K C=some cd:=by unfold PySem.W.clsIn;rw[h1]
  show(if((PySem.W.clsIn K P).isSome&&PySem.W.typeIn K (.ref P)==some (.type "type"))=true then PySem.W.subIn K (.ref C) (.ref P)else none)=_;rw[if_pos (by rw[a1,a2];rfl)];show(PySem.W.clsIn K C).bind _=_;rw[a3,ah,hs,h2];rfl
def pL{K:PySem.W.Frag}{a C:av}(hC:VE K C=true)(hq:pC K C=true):PySem.W.KitX K (.ref a) (.ref C) (λh=>∃oe,h.get? a=some oe/\oe.cls=.ref C):=by
 obtain⟨_,cd,_,h1,_⟩:=sd hC;refine⟨λM h X p=>?_,λM h X _=>?_,λh tp dd its n sl X htp=>?_,λ{prog w A E Q s}X p k=>?_⟩
 .obtain⟨o,e1,e2⟩:=p;exact e2▸(PySem.W.Looks.ld e1).andThen .now
 .intro A' Q' E' s' k q;unfold isType loadHead;exact aI (wpAny_loadPart (k _ _ (X _ _ h1)) (bh q))
 .refine EE.mpr λq=>?_;obtain rfl:C=tp:=Value.ref.inj (beq_iff_eq.mp q);have z:=congrArg (fM Obj.cls) ((X _ _ h1).symm.trans htp);simp at z
 .obtain⟨o,e1,e2⟩:=p;obtain⟨tl,N,nm,qn,bs,hdct,sn,sub,ab,col,dd,k0,k1,k2,k3,k5,mN,oC,hN,hni,TL⟩:=oV X hC;obtain⟨h,g,d,t,os⟩:=s;exact Af X hq oC TL e1 e2 k
section
variable{X:Cx}{a C P:av}{oe:Obj}{b:Bool}
def Lr(hp:(a,oe)∈X.pn)(hc:oe.cls=.ref C)(hC:VE X.K C=true)(hq:pC X.K C=true)(hP:VE X.K P=true)(hs:subIn X.K C P=b):cE X (.builtin "isinstance") (λxs H Q=>xs=[.ref a,.ref P]/\Q (.bl b) H):=by
 intro pins s σ H vs us Q I r h;obtain⟨rfl,q⟩:=h;obtain⟨u1,u2,rfl,r1,r2⟩:=r.two;obtain rfl:u1=.ref a:=r1;obtain rfl:u2=.ref P:=r2;exact PySem.W.kia_one (pL hC hq) I.kIn ⟨oe,(I.pin (a,oe) (bZ _ hp)).1,hc⟩ (yL hC hP hs) (by intro e;cases e) λtk=>⟨.bl b,H,I.tok tk,rfl,q⟩
def Lq(hp:(a,oe)∈X.pn)(hc:oe.cls=.ref C)(hC:VE X.K C=true)(hq:pC X.K C=true){Ps:List av}(hk:PySem.W.kitAny X.K (.ref C) (Ps.map .ref)=some b):cE X (.builtin "isinstance") (λxs H Q=>∃tp,xs=[.ref a,.ref tp]/\H tp=some (.tup (Ps.map .ref))/\Q (.bl b) H):=by
 intro pins s σ H vs us Q I r h;obtain⟨tp,rfl,ht,q⟩:=h;obtain⟨u1,u2,rfl,r1,r2⟩:=r.two;obtain rfl:u1=.ref a:=r1;obtain rfl:u2=.ref tp:=r2;obtain⟨_,its,hv,⟨⟨cl,dd,da,sl⟩,e1,e2,n,e3⟩⟩:=I.hok tp _ ht;have e2:cl=.type "tuple":=e2;have e3:da=.seq its.toArray n:=e3;subst e2 e3
 have e4:∀(l:List av)(its:List ai),Vals (l.map V.ref) its->its=l.map cm:=by
  intro l
  induction l with
  |nil=>intro its h;cases h;rfl
  |cons p r ih =>
   intro its h
   cases h with
   |cons h1 h2=>rw[ih _ h2,show _=cm p from h1];rfl
 obtain rfl:=e4 _ _ hv;exact PySem.W.kia_tup (pL hC hq) I.kIn ⟨oe,(I.pin (a,oe) (bZ _ hp)).1,hc⟩ e1 hk (by intro e;cases e) λtk=>⟨.bl b,H,I.tok tk,rfl,q⟩
def Lp{T:String}(hp:(a,oe)∈X.pn)(hc:oe.cls=.ref C)(hC:VE X.K C=true)(hq:pC X.K C=true)(hm:PySem.W.kitMeta T=true)(hT:veB.contains (.type T)=true):cE X (.builtin "isinstance") (λxs H Q=>xs=[.ref a,.ty T]/\Q (.bl true) H):=by
 intro pins s σ H vs us Q I r h;obtain⟨rfl,q⟩:=h;obtain⟨u1,u2,rfl,r1,r2⟩:=r.two;obtain rfl:u1=.ref a:=r1;obtain rfl:u2=.type T:=r2
 have k:PySem.W.kitOne X.K (.ref C) (.type T)=some true:=by
  obtain⟨_,cd,_,h1,bm,h2⟩:=sd hC;obtain⟨tl,N,nm,qn,bs,hdct,sn,sub,ab,col,dd,k0,k1,k2,k3,k5,mN,oC,hN,hni,TL⟩:=oV I.kIn hC;have z:=I.kIn _ _ h1;rw[oC]at z;cases z;show(if _ then _ else(if PySem.W.kitMeta T=true then(PySem.W.clsIn X.K C).bind _ else _))=_;rw[if_neg (by intro e;cases beq_iff_eq.mp e),if_pos hm];unfold PySem.W.clsIn;rw[h1];show some ((cm C::tl).contains (.type T))=_;rw[iN,TL.hasType hT,nZ]
 exact PySem.W.kia_one (pL hC hq) I.kIn ⟨oe,(I.pin (a,oe) (bZ _ hp)).1,hc⟩ k (by intro e;cases e) λtk=>⟨.bl true,H,I.tok tk,rfl,q⟩
def CI(hg:Gl X x)(hm:X.mg x=some (.ref P))(hd:(x==("__debug__":Str))=false):PE X (.Name x pos) (tC (.ref P)):=λ_ _ _ H _ I h=>kE I hg hm ⟨.ref P,H,I,rfl,h⟩ hd
end
def tI(i:Nat)(a:av)(b:Bool):TE:=λσ H Q=>σ[i]?=some (some (.ref a))/\Q (.bl b) H
def PE.to{X:Cx}{e:aE}{t u:TE}(h:PE X e t)(w:∀σ H Q,u σ H Q->t σ H Q):PE X e u:=λpins s σ H Q I q=>h pins s σ H Q I (w σ H Q q)
section
variable{X:Cx}{i:Nat}{a C P:av}{oe:Obj}{n x:Str}{p np xp pos:Pos}{b1 b2 b:Bool}{y z:aE}{r:List aE}
def Gj(hn:PE X (.Name n np) (wm i))(hc:cE X (.builtin "isinstance") (λxs H Q=>xs=[.ref a,.ref P]/\Q (.bl b) H))(hi:Gl X "isinstance")(hmi:X.mg "isinstance"=none)(hg:Gl X x)(hm:X.mg x=some (.ref P))(hd:(x==("__debug__":Str))=false) :
 PE X (.Call (.Name "isinstance" p) [.Name n np,.Name x xp] [] pos) (tI i a b):=by
 have hA:PA X [.Name n np,.Name x xp] (nK (wm i) (nK (tC (.ref P)) Bt)):=dS hn (dS (CI hg hm hd) iQ rfl) rfl;exact PE.to (gB hc hi hmi rfl hA ⇑0 ⇑0 rfl rfl) λσ H Q⟨e,q⟩=>⟨_,e,rfl,q⟩
def Gi{T:String}(hn:PE X (.Name n np) (wm i))(hc:cE X (.builtin "isinstance") (λxs H Q=>xs=[.ref a,.ty T]/\Q (.bl b) H))(hi:Gl X "isinstance")(hmi:X.mg "isinstance"=none)(hg:Gl X x)(hm:X.mg x=none)(hb:bootBuiltins x=some (.type T))(hn2:x≠"__name__")(hd:(x==("__debug__":Str))=false) :
 PE X (.Call (.Name "isinstance" p) [.Name n np,.Name x xp] [] pos) (tI i a b):=by
 have hA:PA X [.Name n np,.Name x xp] (nK (wm i) (nK (tC (.ty T)) Bt)):=dS hn (dS (yx hg hm hb rfl hn2 hd) iQ rfl) rfl;exact PE.to (gB hc hi hmi rfl hA ⇑0 ⇑0 rfl rfl) λσ H Q⟨e,q⟩=>⟨_,e,rfl,q⟩
def yy(h1:PE X y (tI i a b1))(h2:PE X (.BoolOp .And (z::r) pos) (tI i a b2)):PE X (.BoolOp .And (y::z::r) pos) (tI i a (b1&&b2)):=PE.to (CK h1 h2) λσ H Q zz=>by
 obtain⟨e,q⟩:=zz;refine⟨e,b1,rfl,?_⟩
 cases b1 with
 |true=>exact qm ⟨e,q⟩
 |false=>exact sS q
end
section
variable{Y:Cx}{x n name qual:Str}{params:ui}{body:List bG}{scope:dQ}{dV kV doc pm cdv ct oc:ai}{an od:Option av}{osl:Array (Option ai)}{N:List Str}{q:Str}{f a:av}{oe:Obj}{j:Nat}{p np pos:Pos}{t:TS}
end
def wY{env env':Env}{e:ai}(h:env.frame=env'.frame):noteFrame e env=noteFrame e env':=by
 unfold noteFrame PySem.frameOf;rw[h]
noncomputable abbrev cxX(X:Cx)(scope:dQ)(cl:List (Str×av))(C:av)(Nc:List Str)(s:au)(H:Hp)(fp:List av):Cx :=
 (cxC X scope cl C Nc s H fp).wish (notedBy (model X.prog X.w) X.A (compEnvC scope cl C X.env) (Li X C))
def MP{X:Cx}{scope:dQ}{cl:List (Str×av)}{C:av}{Nc:List Str}{s0:au}{H0:Hp}{fp:List av}{σ:St}{E:St->XK}(R:nU X E)(hex:X.ex=[])(hst:X.stack=X.env::X.outer)(hfr:X.env.frame=some X.env.locals)
 (B:Blk X scope cl C s0 H0 fp σ):vM (cxX X scope cl C Nc s0 H0 fp) (λ_=>E σ):=λpinsB σB HB s e s' IB h=>by
 obtain⟨a,cls,H',rfl,fly,un,hok,os,bare,q⟩:=h;obtain⟨hh,g,d,t,os'⟩:=s';obtain rfl:os'=s.os:=os;obtain⟨pins,I3,f3,fl3,hC0,rfl⟩:=B;have JB:Inv (cxC X scope (gw X.env scope.names []) C Nc s0 H0 fp) ([]++pinsB) σB HB s:=IB.unwish;have IO:Inv X pins σ HB s:=lD I3 f3 hC0 JB.unpinned (ug _ _);have I2:=IO.call (h':=hh) (g':=g) (d':=d) (t':=t) (ch:=[]) un hok bare (λb z=>absurd z ↥0);have J2:=JB.call (h':=hh) (g':=g) (d':=d) (t':=t) (ch:=[]) un hok bare (λb z=>absurd z ↥0);obtain⟨oe,vs,a0,T,oT,ts,fl,he,hc,hd,h1,⟨nT,fT⟩,hTe,hT,hdT,h3⟩:=fly.tr;show wpAny (model X.prog X.w) X.A (noteFrame (.ref a) (compEnvC scope (gw X.env scope.names []) C X.env)) _ _ _;rw[wY (env:=compEnvC scope (gw X.env scope.names []) C X.env) (env':=X.env) rfl];refine mZ (base:=less hh (a::T::frs X.stack)) (outer:=X.outer) (by rw[<- hst];exact I2.ok.frames) hfr jy (fV ay) (by rw[<- hst];exact mr I2.stack λb hb=>fV (ao _ (ao _ hb))) ⟨oe,vs,T,oT,ts,he,hc,hd,h1,fV (ao _ ay),hTe,hT,hdT,h3⟩ λh4 held sm=>?_;obtain⟨m,hn,_⟩:=J2.loc;have hn:hh.Ns C m:=hn;have hn4:=sm.ns hn;refine⟨m,hn4,λh5 sb cenv _=>?_⟩;obtain⟨stay,_,_,oe',vs',T',oT',ts',he',hc',hd',h1',nT',hTe',hT',hdT',h3'⟩:=held;obtain⟨oc,es,ep,hoc,hdc,_⟩:=hn4
 have nC:∀b o v,h4.get? b=some o->o.data=.fields v->b≠C:=λb o v e1 e2 z=>by
  rw[z,hoc]at e1;cases e1;rw[hdc]at e2;cases e2
 have naC:=nC _ _ _ he' hd';have nTC:=nC _ _ _ hT' hdT';have he5:=(sb.2 a naC).trans he';have hT5:=(sb.2 T' nTC).trans hT'
 have nfr:∀b,b∈frs X.stack->∀o v,h4.get? b=some o->o.data≠.fields v:=λb hb o v e1 e2=>by
  obtain⟨_,o',ho',nf⟩:=I2.stack.mem hb;obtain⟨sl,z⟩:=sm b o' ho' nf;rw[e1]at z;cases z;exact nf v e2
 have nw2:∀{b},hh.get? b=none->Nw X pins b/\H' b=none:=λz=>⟨qW I2 hex z,I2.hok.gone z⟩
 have wT:Nw X pins T'/\H' T'=none:=by
  by_cases hm:T'∈a::T::frs X.stack
  .rcases aA.mp hm with z|hm
   .exact absurd z hTe'
   .rcases aA.mp hm with z|hm
    .rw[z];exact⟨qW IO hex nT,fT⟩
    .exact absurd hdT' (nfr T' hm _ _ hT')
  .rw[jb hm]at nT';exact nw2 nT'
 have wa:Nw X pins a/\H' a=none:=⟨qW IO hex fly.new,fly.fre⟩;have wTT:Nw X pins T/\H' T=none:=⟨qW IO hex nT,fT⟩;have wC:Nw X pins C/\H' C=none:=⟨qW I3 hex (lp (kn hC0.symm)),J2.free⟩
 have all:∀b∈[a,T,T',C],Nw X pins b/\H' b=none:=λb hb=>by
  rcases aA.mp hb with z|hb
  .rw[z];exact wa
  rcases aA.mp hb with z|hb
  .rw[z];exact wTT
  rcases aA.mp hb with z|hb
  .rw[z];exact wT
  .rw[bY.mp hb];exact wC
 have frC:C∉frs X.stack:=λz=>by
  obtain⟨_,o',ho',nf⟩:=I3.stack.mem z;exact cX _ (hC0▸aJ ho')
 unfold PySem.passOn;refine aI (iz he5 hd' h1' ?_);rw[if_neg ↥0];unfold setFlight;refine aI (aI (iz he5 hd' h1' ?_));rw[if_pos ↥0];have hsz:=(fh.mp h3').1;refine wpAny_setField hT5 hdT' hsz (wpAny_throw ?_);generalize hv:(cenv.frame.elim jP λf=>rawInt f)=mk;have oth:∀b,b≠T'->(h5.update T' (vQ (·.setIfInBounds 3 mk))).get? b=h5.get? b:=λb hb=>gj _ _ (Ne.symm hb)
 have keep:∀b o,b∉frs X.stack->b∉[a,T,T',C]->hh.get? b=some o->(h5.update T' (vQ (·.setIfInBounds 3 mk))).get? b=some o:=λb o n1 n2 e=>by
  simp only[aA,bS,or_false,not_or]at n2;rw[oth b n2.2.2.1,sb.2 b n2.2.2.2];refine stay b o ?_;rw[jb (by simp only[aA,not_or];exact⟨n2.1,n2.2.1,n1⟩)];exact e
 refine R pins σ H' _ a cls (I2.over (l:=[a,T,T',C]) (t':=t) hex (λb hb=>(all b hb).1) keep (λb o hb e=>?_) λb o e=>?_) ⟨oe',vs',a0,T',_,_,mk,?_,hc',hd',h1',⟨wa.2,wT.2⟩,hTe',xP _ hT5 (Obj.isFreed_of_fields (Ez hdT' _)),Ez hdT' _,by simp[hsz],λb hb=>?_⟩ q
 .obtain⟨_,o',ho',nf⟩:=I2.stack.mem hb;rw[e]at ho';cases ho';obtain⟨sl,z⟩:=sm b o e nf;refine⟨sl,?_⟩;rw[oth b λw=>?_,sb.2 b λw=>?_]
  .exact z
  .exact frC (w▸hb)
  .exact nfr b hb _ _ z (by rw[w,hT']at z;cases z;exact hdT')
 .refine(I2.hok b o e).stay (λc u hc z=>keep c u ?_ ?_ z) (λ_ z=>z) λ_ _ z=>z
  all_goals have hH:∃v,H' c=some v:=hc.elim (λz=>⟨o,by rw[z];exact e⟩) λz=>⟨_,z⟩
  .intro z3;obtain⟨v,z2⟩:=hH;rw[I2.stkFree c z3]at z2;cases z2
  .intro z3;obtain⟨v,z2⟩:=hH;rw[(all c z3).2]at z2;cases z2
 .rw[oth a (Ne.symm hTe')];exact he5
 .rcases aA.mp hb with z|z
  .rw[z];exact wa.1
  .rw[bY.mp z];exact wT.1
def zK{X:Cx}{scope:dQ}{Nc:List Str}{tg iter elt:aE}{wi:TI}{g:TG}{tt:TT}{ifs:List aE}{te:(St->XK)->TE}{pos:Pos}{E:St->XK}(R:nU X E)(hex:X.ex=[])(hst:X.stack=X.env::X.outer)(hfr:X.env.frame=some X.env.locals)
 (hc:X.calm=true)(S:ki X scope)(hN:∀i x,i<X.N.length->Nc[i]?=some x->Vis scope x->X.N[i]?=some x/\scope.names.lookup x=some .free)(hl:X.N.length<=Nc.length)
 (hi:PI X tg iter wi)(hg:∀cl C s H fp,PG (cxC X scope cl C Nc s H fp) tg g)(ht:∀cl C s H fp,PTs (cxC X scope cl C Nc s H fp) ifs tt)(he:∀cl C s H fp E',vM (cxX X scope cl C Nc s H fp) E'->PE (cxX X scope cl C Nc s H fp) elt (te E'))
 (hs:∀x,foldedSetIterable iter X.env x=pure x):PE X (.ListComp elt [⟨tg,iter,ifs,0⟩] scope pos) (λσ H Q=>wi σ H λJ H1=>∀D,H1 D=none->tLp J g tt (uI D (te λ_=>E σ)) (σ++aC (Nc.length-X.N.length) none) (upd H1 D (.lst [])) λ_ H2=>Q (.ref D) H2) :=
 qT (xb:=λcl C=>notedBy (model X.prog X.w) X.A (compEnvC scope cl C X.env) (Li X C)) (λ_ _ _ _ z=>z) hc S hN hl hi hg ht (λcl C s H fp σ D B=>sD (he cl C s H fp _ (MP R hex hst hfr B))) (λit acc env=>by rw[As]<;>rfl) hs
end L2
end
section
namespace PP
open PySem L2 PyProof.Rows
variable[Tbs]
mutual
inductive XE where
 |cal (f g:Nat) (es:Es)
 |tup (l:XL)
 |fn (f g:Nat) (l:XL)
 |tot (x:XE)
 |cmp (k:Nat) (tg:Tg) (src:It) (f g:Nat) (es:Es)
inductive XL where
 |hd (x:XE) (es:Es)
 |tl (e:E) (l:XL)
end
mutual
inductive R where
 |st (s:S)
 |rse (c:Str)
 |cal (s:S) (xs:List XE)
 |ifs (t:E) (a b:Rs)
 |fr (tg:Tg) (src:It) (body:Rs)
inductive Rs where
 |nil|cons (r:R) (rs:Rs)
end
def xvF(cx:Cl)(g:Nat)(es:Es)(δ:Loc):Option (Str×Loc):=match cT cx es δ with
 |some (ds,δ1)=>(match cx.call g ds with
  |some (.str c)=>some (c,δ1)
  |_=>none)
 |none=>none
def xvC(cx:Cl)(k:Nat)(tg:Tg)(f g:Nat)(es:Es):List D->Loc->Option (Str×Loc)
 |[],_=>none
 |d::ds,δ=>match(dA (δ++aC k .no) tg d).bind (xvF cx g es)with
  |some (c,δ1)=>some (c,δ1.take δ.length)
  |none=>match nR cx k tg .no (.call f es) d δ with
   |some (_,δ1)=>xvC cx k tg f g es ds δ1
   |none=>none
mutual
noncomputable def xvE(cx:Cl):XE->Loc->Option (Str×Loc)
 |.cal _ g es,δ=>xvF cx g es δ
 |.tup l,δ=>xvL cx l δ
 |.fn _ _ l,δ=>xvL cx l δ
 |.tot x,δ=>xvE cx x δ
 |.cmp k tg src f g es,δ=>match evI cx src δ with
  |some (ds,δ1)=>if ds.length<=sizeLine then xvC cx k tg f g es ds δ1 else none
  |none=>none
noncomputable def xvL(cx:Cl):XL->Loc->Option (Str×Loc)
 |.hd x _,δ=>xvE cx x δ
 |.tl e l,δ=>match evE cx e δ with
  |some (_,δ1)=>xvL cx l δ1
  |none=>none
end
abbrev OR:=Out ⊕ (Str×Loc)
def forR(f:D->Loc->Option OR):List D->Loc->Option OR
 |[],δ=>some (.inl (.nx δ))
 |x::xs,δ=>match f x δ with
  |some (.inl (.nx δ1))=>forR f xs δ1
  |o=>o
mutual
noncomputable def evR(cx:Cl):R->Loc->Option OR
 |.st s,δ=>(evS cx s δ).map .inl
 |.rse c,δ=>some (.inr (c,δ))
 |.cal s xs,δ=>match xs.findSome? λx=>xvE cx x δ with
  |some p=>some (.inr p)
  |none=>(evS cx s δ).map .inl
 |.ifs t a b,δ=>match evT cx t δ with
  |some (true,δ1)=>fN cx a δ1
  |some (false,δ1)=>fN cx b δ1
  |none=>none
 |.fr tg src body,δ=>match evI cx src δ with
  |some (ds,δ1)=>forR (λx δ0=>(dA δ0 tg x).bind λδ2=>fN cx body δ2) ds δ1
  |none=>none
noncomputable def fN(cx:Cl):Rs->Loc->Option OR
 |.nil,δ=>some (.inl (.nx δ))
 |.cons r rs,δ=>match evR cx r δ with
  |some (.inl (.nx δ1))=>fN cx rs δ1
  |o=>o
end
def zg(K:PySem.W.Frag)(mg:Str->Option ai)(G:Gh)(F:av->Prop)(H:Hp)(r:OR)(D:Ends)(W:L2.St->XK):Prop :=
 match r with
 |.inl o=>kY K G F H o D
 |.inr (c,δ')=>∀σ' H' F',Step G F H F' H'->Ok K G F' σ' H' δ'->∃u,mg c=some u/\W σ' u none H'
def zg.step{K:PySem.W.Frag}{mg:Str->Option ai}{G:Gh}{F F1:av->Prop}{H H1:Hp}{r:OR}{D:Ends}{W:L2.St->XK}(st:Step G F H F1 H1)(h:zg K mg G F H r D W):zg K mg G F1 H1 r D W:=by
 cases r with
 |inl o=>exact kY.step st h
 |inr p=>exact λσ' H' F' s k=>h σ' H' F' (st.trans s) k
def tR(K:PySem.W.Frag)(mg:Str->Option ai)(W:L2.St->XK)(ev:Loc->Option OR):TS:=λD σ H=>∃G F δ r,Ok K G F σ H δ/\ev δ=some r/\zg K mg G F H r D W
def tX(K:PySem.W.Frag)(mg:Str->Option ai)(W:L2.St->XK)(ev:Loc->Option (Str×Loc)):L2.St->Hp->Prop:=λσ H=>∃G F δ c δ1,Ok K G F σ H δ/\ev δ=some (c,δ1)/\∀H' F',Step G F H F' H'->Ok K G F' σ H' δ1->∃u,mg c=some u/\W σ u none H'
def spX(K:PySem.W.Frag)(mg:Str->Option ai)(f:List D->Option D):Sp:=λvs H _ E=>∃F ds c u,FD F H/\TF F/\lG H/\aH K H F ds vs/\f ds=some (.str c)/\mg c=some u/\∀H',Sim H H'->lG H'->E u none H'
section
variable{K:PySem.W.Frag}{cx:Cl}{X:Cx}{W:L2.St->XK}
def BV:PSs X [] (tR X.K X.mg W (fN cx .nil)):=PSs.imp mh λD σ H zz=>by
 obtain⟨G,F,δ,o,ok,ev,post⟩:=zz;simp only[fN]at ev;cases ev;exact post σ H F Step.refl ok
def zD{r:R}{rs:Rs}{y:bG}{ys:List bG}(h1:PS X y (tR X.K X.mg W (evR cx r)))(h2:PSs X ys (tR X.K X.mg W (fN cx rs))):PSs X (y::ys) (tR X.K X.mg W (fN cx (.cons r rs))):=PSs.imp (jY h1 h2) λD σ H zz=>by
 obtain⟨G,F,δ,o,ok,ev,post⟩:=zz;simp only[fN]at ev
 cases e:evR cx r δ with
 |none=>rw[e]at ev;cases ev
 |some o1 =>
  rw[e]at ev
  cases o1 with
  |inr p=>cases ev;exact⟨G,F,δ,_,ok,e,post⟩
  |inl o1 =>
   cases o1 with
   |nx δ1=>exact⟨G,F,δ,.inl (.nx δ1),ok,e,λσ' H' F' st ok'=>⟨G,F',δ1,o,ok',ev,post.step st⟩⟩
   |rt d δ1=>cases ev;exact⟨G,F,δ,_,ok,e,post⟩
   |ro d δ1=>cases ev;exact⟨G,F,δ,_,ok,e,post⟩
def FJ(h:PS X y (tS X.K (evS cx s))):PS X y (tR X.K X.mg W (evR cx (.st s))):=PS.imp h λD σ H zz=>by
 obtain⟨G,F,δ,o,ok,ev,post⟩:=zz;simp only[evR,aj]at ev;obtain⟨o1,e,rfl⟩:=ev;exact⟨G,F,δ,o1,ok,e,post⟩
def BW{t:E}{a b:Rs}{y:aE}{ya yb:List bG}{pos:Pos}(ht:PT X y (tT X.K cx t))(ha:PSs X ya (tR X.K X.mg W (fN cx a)))(hb:PSs X yb (tR X.K X.mg W (fN cx b))):PS X (.If y ya yb pos) (tR X.K X.mg W (evR cx (.ifs t a b))):=PS.imp (uU ht ha hb) λD σ H zz=>by
 obtain⟨G,F,δ,out,ok,ev,post⟩:=zz;simp only[evR]at ev
 cases e1:evT cx t δ with
 |none=>rw[e1]at ev;cases ev
 |some p =>
  obtain⟨q,δ1⟩:=p;rw[e1]at ev;refine⟨G,F,δ,q,δ1,ok,e1,λH1 F1 st sm ok1=>?_⟩
  cases q with
  |true=>exact qm ⟨G,F1,δ1,out,ok1,ev,post.step st⟩
  |false=>exact sS ⟨G,F1,δ1,out,ok1,ev,post.step st⟩
def BU{x t:Str}{C:av}{np cp j2 pos:Pos}{j:Nat}(R:Rz X W)(hc:X.calm=true)(hg:Gl X x)(hm:X.mg x=some (.ref C))(hC:VE X.K C=true)(hd:(x==("__debug__":Str))=false) :
 PS X (.Raise (some (.Call (.Name x np) [.Constant (.str t) j j2] [] cp)) none pos) (tR X.K X.mg W (evR cx (.rse x))):=PS.imp (Cv R hc hg hm hC hd) λD σ H zz=>by
 obtain⟨G,F,δ,out,ok,ev,post⟩:=zz;simp only[evR]at ev;cases ev;obtain⟨u,e,q⟩:=post σ H F Step.refl ok;rw[hm]at e;cases e;exact q
def Bs(n:iY es=true){σ:L2.St}{H:Hp}(h:tX X.K X.mg W (xvF cx g es) σ H):tEs X.K cx es σ H λvs H1=>spX X.K X.mg (cx.call g) vs H1 (λ_ _=>True) (W σ):=by
 obtain⟨G,F,δ,c,δ1,ok,ev,post⟩:=h;unfold xvF at ev;split at ev
 .rename_i ds δ2 ea;split at ev
  .rename_i c' ec;cases ev;refine⟨G,F,δ,ds,δ1,ok,ea,λvs H1 F1 st1 sm1 ok1 r1=>?_⟩;obtain⟨u,e1,_⟩:=post H1 F1 st1 ok1;refine⟨F1,ds,c,u,ok1.fd,ok1.tf,ok1.tabs,r1.rl n,ec,e1,λH2 s2 t2=>?_⟩;obtain⟨u',e2,q⟩:=post H2 F1 (st1.trans (ok1.call s2 t2).2) (ok1.call s2 t2).1;rw[e1]at e2;cases e2;exact q
  .cases ev
 .cases ev
def pq{s:S}{xs:List XE}(hO:PS X y (tS X.K (evS cx s)))(hX:∀x,x∈xs->PS X y (λ_ σ H=>tX X.K X.mg W (xvE cx x) σ H)):PS X y (tR X.K X.mg W (evR cx (.cal s xs))):=λpins s0 σ H D I zz=>by
 obtain⟨G,F,δ,o,ok,ev,post⟩:=zz;simp only[evR]at ev;split at ev
 .rename_i p hf;obtain⟨c,δ1⟩:=p;cases ev;obtain⟨x,hx,ex⟩:=List.exists_of_findSome?_eq_some hf;exact hX x hx pins s0 σ H D I ⟨G,F,δ,c,δ1,ok,ex,λH' F' st ok'=>post σ H' F' st ok'⟩
 .simp only[aj]at ev;obtain⟨o1,e,rfl⟩:=ev;exact hO pins s0 σ H D I ⟨G,F,δ,o1,ok,e,post⟩
def FK(hp:nV (model X.prog X.w) X.A X.env X.xe)(hc:X.calm=true){tg:Tg}{src:It}{body:Rs}{t it:aE}{ys:List bG}{pos:Pos}(htg:PG X t (gTg X.K tg))(hI:PI X t it (tI X.K cx src))(hset:∀v,foldedSetIterable it X.env v=pure v)(hb:PSs X ys (tR X.K X.mg W (fN cx body))):PS X (.For t it ys [] pos) (tR X.K X.mg W (evR cx (.fr tg src body))):=by
 refine PS.imp (Cz hp hc hI htg hb hset) λE σ H zz=>?_;obtain⟨G,F,δ,out,ok,ev,post⟩:=zz;simp only[evR]at ev;split at ev
 case h_2=>cases ev
 rename_i ds δ1 e1;generalize ef:(λ(x:D)(δ0:Loc)=>(dA δ0 tg x).bind λδ2=>fN cx body δ2)=f at ev;refine⟨G,F,δ,ds,δ1,ok,e1,λJ H1 F1 st sm ok1 wk=>?_⟩;refine⟨λi m σ' H'=>∃F' δ',m=ds.length-i/\i<=ds.length/\Step G F1 H1 F' H'/\Ok X.K G F' σ' H' δ'/\forR f (ds.drop i) δ'=some out,⟨_,F1,δ1,rfl,bP _,Step.refl,ok1,ev⟩,?_⟩;rintro i m σ' H' ⟨F',δ',rfl,hi,st',ok',ev'⟩;by_cases hlt:i<ds.length
 .right;obtain⟨go,yl⟩:=(wk _ F' H' st' ok'.fd i).1 ds[i] (aO hlt);refine⟨go,?_⟩;rw[bQ hlt]at ev';unfold forR at ev';refine⟨λσ2 H2=>∃m',m'<ds.length-i/\∃F2 δ2,m'=ds.length-(i+1)/\i+1<=ds.length/\Step G F1 H1 F2 H2/\Ok X.K G F2 σ2 H2 δ2/\forR f (ds.drop (i+1)) δ2=some out,λσ2 H2 z=>z,λx H3 hy=>?_⟩;obtain⟨sm,rx⟩:=yl x H3 hy;replace ok':=ok'.same' sm;replace st':=st'.trans (Step.of_same sm);have sA:=st.trans st'
  cases hf:f ds[i] δ' with
  |none=>rw[hf]at ev';cases ev'
  |some o1 =>
   have hf':=hf;rw[<- ef]at hf';obtain⟨δ2,hs,hf'⟩:=af.mp hf';refine ky ok' rx hs λσ2 ok2 _=>⟨G,F',δ2,o1,ok2,hf',?_⟩;rw[hf]at ev'
   have next:∀{δ3:Loc},forR f (ds.drop (i+1)) δ3=some out->∀σ3 H4 F4,Step G F' H3 F4 H4->Ok X.K G F4 σ3 H4 δ3->∃m',m'<ds.length-i/\∃F2 δ2,m'=ds.length-(i+1)/\i+1<=ds.length/\Step G F1 H1 F2 H4/\Ok X.K G F2 σ3 H4 δ2/\forR f (ds.drop (i+1)) δ2=some out :=
    λe σ3 H4 F4 s4 k4=>⟨_,∅,F4,_,rfl,hlt,st'.trans s4,k4,e⟩
   cases o1 with
   |inr p=>cases ev';exact λσ3 H4 F4 s4 k4=>post σ3 H4 F4 (sA.trans s4) k4
   |inl o1 =>
    cases o1 with
    |nx δ3=>exact next ev'
    |rt d3 δ3=>cases ev';exact λv σ3 H4 F4 s4 k4 r4=>post v σ3 H4 F4 (sA.trans s4) k4 r4
    |ro d3 δ3=>cases ev';exact λa xs σ3 H4 F4 s4 k4=>post a xs σ3 H4 F4 (sA.trans s4) k4
 .left;obtain rfl:i=ds.length:=by lia
  rw[fu]at ev';cases ev';exact⟨(wk _ F' H' st' ok'.fd ds.length).2 rfl,post σ' H' F' (st.trans st') ok'⟩
end
def Fc:bG->Nat
 |.Raise .. => 1
 |.Try .. => 2
 |_=>0
def Ni(x:bG):Nat->Prop
 |1=>∃e c p,x=.Raise e c p
 |2=>∃b h o f p,x=.Try b h o f p
 |_=>True
def Dy(x:bG):Ni x (Fc x):=by
 cases x<;>first|trivial|exact⟨_,_,_,rfl⟩|exact⟨_,_,_,_,_,rfl⟩
def yM(h:((Fc x==n)&&b)=true):Ni x n/\b=true:=by
 rw[aa]at h;exact⟨eq_of_beq h.1▸Dy x,h.2⟩
def rsE:bG->Option aE
 |.Raise e _ _=>e
 |_=>none
def rsC:bG->Option aE
 |.Raise _ c _=>c
 |_=>none
def Iq(n:Str)(x:bG):Bool:=(Fc x==1)&&((rsC x).isNone&&onO (rsE x) λe=>kL e λm as=>on1 as λa=>onC a (λv=>onT v λ_=>true)&&decide (m=n))
def Dt(h:Iq n x=true):∃np t j j2 cp pos,x=.Raise (some (.Call (.Name n np) [.Constant (.str t) j j2] [] cp)) none pos:=by
 obtain⟨⟨e,c,p,rfl⟩,h1⟩:=yM h;rw[aa]at h1;have hc:c=none:=cP.mp h1.1;obtain⟨y,hy,h2⟩:=lB h1.2;have hy:e=some y:=hy;obtain⟨m,np,as,cp,rfl,h3⟩:=dB h2;obtain⟨a,rfl,h4⟩:=cA h3;rw[aa]at h4;obtain⟨v,j,j2,rfl,h5⟩:=jv h4.1;obtain⟨t,rfl,_⟩:=wN h5;rw[hc,hy,of_decide_eq_true h4.2];exact⟨_,_,_,_,_,_,rfl⟩
mutual
noncomputable def ckX(xs:List (Nat×Nat))(c:Ck):XE->aE->Bool
 |.cal f g es,y=>xs.contains (f,g)&&ckE c (.call f es) y
 |.tup l,y=>jZ y λys=>ckL xs c l ys
 |.fn f g l,y=>xs.contains (f,g)&&kL y λn as=>(match c.fns[f]? with
  |some (m,_)=>decide (m=n)&&dm c n&&ckL xs c l as
  |none=>false)
 |.tot x,y=>kL y λn as=>on1 as λz=>decide (n=("tuple":Str))&&dm c n&&ckX xs c x z
 |.cmp k tg src f g es,y=>xs.contains (f,g)&&ckE c (.comp k tg src .no (.call f es)) y
noncomputable def ckL(xs:List (Nat×Nat))(c:Ck):XL->List aE->Bool
 |.hd x es,ys=>onS ys λy ys=>ckX xs c x y&&iS c es ys&&iY es
 |.tl e l,ys=>onS ys λy ys=>ckE c e y&&!bp e&&ckL xs c l ys
end
mutual
noncomputable def ckR(cls:List Str)(xs:List (Nat×Nat))(c:Ck):R->bG->Bool
 |.st s,x=>ckS c s x
 |.rse n,x=>Iq n x&&dm c n&&cls.contains n
 |.cal s l,x=>ckS c s x&&(yB x (λy=>onO y λy=>l.all λe=>ckX xs c e y)||(CT x (λy=>kL y (λ_ _=>true)&&l.all λe=>ckX xs c e y)||nN x λts y=>on1 ts λt=>(fy t==0||fy t==7)&&kL y (λ_ _=>true)&&l.all λe=>ckX xs c e y))
 |.ifs t a b,x=>pJ x λy ya yb=>ckE c t y&&oi cls xs c a ya&&oi cls xs c b yb
 |.fr tg src b,x=>yD x λt it ys z=>on0 z (qt c tg t&&ckI c src t it&&oi cls xs c b ys&&!cls.isEmpty)
noncomputable def oi(cls:List Str)(xs:List (Nat×Nat))(c:Ck):Rs->List bG->Bool
 |.nil,zs=>on0 zs true
 |.cons r rs,zs=>onS zs λy ys=>ckR cls xs c r y&&oi cls xs c rs ys
end
section
variable{X:Cx}{cls:List Str}{xs:List (Nat×Nat)}{c:Ck}{cx:Cl}{k:Nat}{W:L2.St->XK}
def IE(C:Cok X.nox c cx k)(Z:vM X W)(hfg:(f,g)∈xs)(h:ckE c (.call f es) y=true)
 (fx:∀(f g:Nat)(x:Str)(ps:List Str),(f,g)∈xs->c.fns[f]?=some (x,ps)->∃a fd,X.mg x=some (.ref a)/\PySem.W.keepIn X.K (.ref a)=true/\Binds X.K fd ps []/\gD X.prog X.w X.K X.mg X.base (CXE X.prog X.w) k a fd ps (spX X.K X.mg (cx.call g))) :
 iY es=true/\(∃n np as p,y=.Call (.Name n np) as [] p)/\PE X y (λσ H _=>tEs X.K cx es σ H λvs H1=>spX X.K X.mg (cx.call g) vs H1 (λ_ _=>True) (W σ)):=by
 obtain⟨n,np,as,p,rfl,hh⟩:=dB h;split at hh
 .rename_i m ps hf;simp only[aa]at hh;obtain⟨⟨⟨⟨⟨h1,h2⟩,h3⟩,h4⟩,h5⟩,h6⟩:=hh;have e:=of_decide_eq_true h1;subst e;obtain⟨a,fd,hm,hk,hb,fn⟩:=fx f g _ _ hfg hf;obtain⟨g1,g2,g3⟩:=C.global h2;refine⟨h5,⟨_,_,_,_,rfl⟩,?_⟩;have hA:=fz es X.nox c as C h4 (gU h5)
  cases as with
  |nil=>simp at h6
  |cons y ys =>
   obtain⟨_,_,_,c1,c2⟩:=fL h4;exact uX Z fn C.room g1 hm hk hb hA.nox g2 (bu (bq c1) _ _) (iq c2)
 .cases hh
def PI.nox{tg e:aE}{wi:TI}(h:PI X.nox tg e wi):PI X tg e wi:=λpins s σ H R I hw=>cw (h pins s σ H R (I.wish _) hw) (λv s1 h1=>cw h1 (λitv s2 h2=>by
 obtain⟨it,fp,tn,J,H2,e,I2,r⟩:=h2;exact⟨it,fp,tn,J,H2,e,I2.unwish,r⟩) λ_ _ z=>bz z) λ_ _ z=>bz z
def PE.or{e:aE}{t u:TE}(h:PE X e t)(h':PE X e u):PE X e (λσ H Q=>t σ H Q\/u σ H Q):=λpins s σ H Q I hw=>hw.elim (h pins s σ H Q I) (h' pins s σ H Q I)
def MT{y:aE}{ys:List aE}{w:L2.St->Hp->Prop}(h:PE X y λσ H _=>w σ H)(hr:PA X ys t)(hs:starEach (y::ys) X.env=(false,eval y X.env)::starEach ys X.env):PA X (y::ys) (λσ H _=>w σ H):=λpos pins s σ H Q I q=>dS h hr hs pos pins s σ H Q I q
def xS{x:XE}{y:aE}(h:ckX xs c x y=true):dZ y=true:=by
 cases x with
 |cal f g es=>exact bq (e:=.call f es) (by unfold ckX at h;rw[aa]at h;exact h.2)
 |tup l=>obtain⟨_,_,_,rfl,_⟩:=dJ h;rfl
 |fn f g l=>unfold ckX at h;rw[aa]at h;exact hdF h.2
 |tot x=>exact hdF h
 |cmp k tg src f g es=>exact bq (e:=.comp k tg src .no (.call f es)) (by unfold ckX at h;rw[aa]at h;exact h.2)
def vE{K:PySem.W.Frag}{mg:Str->Option ai}{G:Gh}{F1:av->Prop}{σ:L2.St}{H1:Hp}{δ1 δ2:Loc}{J:L2.It}{ds:List D}{p:av}{kk:Nat}{tg:Tg}{f g:Nat}{es:Es}{nm:Str}{E:XK}{Q:L2.St->Hp->Prop}(hge:wj σ.length tg=true)
 (ok1:Ok K G F1 σ H1 δ1)(wk:Wk K G F1 H1 J ds)(hp:H1 p=none)(hz:ds.length<=sizeLine)(ev:xvC cx kk tg f g es ds δ1=some (nm,δ2))
 (q:∀H2 F2,Ok K (G.and p) F2 σ H2 δ2->Step G F1 H1 F2 H2->∃u,mg nm=some u/\E u none H2) :
 tLp J (gTg K tg) (tG K cx .no) (uI p λσ H Q=>tE K cx (.call f es) σ H Q\/tX K mg (λ_=>E) (xvF cx g es) σ H) (σ++aC kk none) (upd H1 p (.lst [])) Q:=by
 have hg:=ok1.free hp;obtain⟨ok2,st2⟩:=ok1.enter hp [];have hFs:∀b,G.R b->(G.and p).R b:=λb z=>.inl z
 refine yH (P:=λr F' σc Hc=>∃δi xs,(∃tl:L2.St,σc=σ++tl/\tl.length=kk)/\Ok K (G.and p) F' σ Hc δi/\xvC cx kk tg f g es r δi=some (nm,δ2)/\Hc p=some (.lst xs)/\xs.length+r.length<=sizeLine/\Step G F1 H1 F' Hc) wk (λr F σ H z=>by obtain⟨_,_,_,ok,_,_,_,st⟩:=z;exact⟨st,ok.fd⟩)
  (λr F σ H H3 z sm=>by obtain⟨a1,a2,a3,ok,a6,a8,a9,st⟩:=z;exact⟨a1,a2,a3,ok.same' sm,a6,sm _ _ a8,a9,st.trans (.of_same sm)⟩) (F0:=λb=>F1 b\/b=p) ⟨δ1,[],⟨_,rfl,↥0⟩,ok2,ev,bK,by simpa using hz,st2⟩ ?_ ?_
 .rintro d r F' _ H3 x N ⟨δi,xs,⟨tl,rfl,htl⟩,ok,el,eD,hl,st⟩ rx hN;have hF:F' p:=ok.rf p (.inr rfl);have okx:Ok K (G.and p) F' (σ++tl) H3 (δi++aC kk .no):=by rw[<- htl];exact ok.ext tl
  have dl:δi.length=σ.length:=ok.len
  have tail:∀{σ2:L2.St}{δ6:Loc},Ok K (G.and p) F' σ2 H3 δ6->δ6.length=(δi++aC kk Sl.no).length->σ2.take σ.length=σ->∃tl':L2.St,σ2=σ++tl'/\tl'.length=kk:=λ{σ2 δ6}ok6 e1 t2=>by
   have a2:=ok6.len;have a1:=okx.len;have e2:(σ++tl).length=σ.length+kk:=by rw[az,htl]
   refine⟨σ2.drop σ.length,?_,by rw[aS];lia⟩
   conv=>lhs;rw[<- cD σ.length σ2,t2]
  unfold xvC at el;split at el
  .rename_i c' δ3 hb;cases el;obtain⟨δ6,es',ex⟩:=af.mp hb;refine ky okx rx es' λσ2 ok6 htake=>?_;have t2:σ2.take σ.length=σ:=by rw[htake _ hge,qd];rfl
   refine⟨G.and p,F',δ6,true,δ6,ok6,rfl,λH7 F7 st7 sm7 ok7=>qm (.inr ⟨G.and p,F7,δ6,nm,δ3,ok7,ex,λH8 F8 st8 ok8=>q H8 F8 ?_ (st.trans ((st7.trans st8).sub hFs))⟩)⟩;have:=ok8.cut δi.length;rw[dl,t2]at this;rw[dl];exact this
  .split at el
   .rename_i o δ5 ef;obtain⟨δ6,b,δ7,es',eg,alt⟩:=rE ef;cases eg;refine ky okx rx es' λσ2 ok6 htake=>?_;have t2:σ2.take σ.length=σ:=by rw[htake _ hge,qd];rfl
    have tl2:=tail ok6 (qO es') t2;rcases alt with⟨_,y,δ8,ee,rfl,rfl⟩|⟨z,_⟩
    .refine⟨G.and p,F',δ6,true,δ6,ok6,rfl,λH7 F7 st7 sm7 ok7=>qm (.inl ⟨G.and p,F7,δ6,y,δ8,ok7,ee,λu H8 F8 st8 sm8 ok8 r8=>?_⟩)⟩;have s78:=st7.trans st8;have eD8:=(s78.res p _ (.inr rfl) hF eD).2;simp only[ag]at hl;refine⟨xs,eD8,∅,hN F8 _ _ ⟨δ8.take δi.length,xs++[u],tl2,?_,el,bK,by rw[az];simp only[ag,aN];lia,(st.trans (s78.sub hFs)).new hp⟩⟩;have:=(ok8.poke hg eD8 (xs++[u])).cut δi.length;rw[dl,t2]at this;rw[dl];exact this
    .cases z
   .cases el
 .rintro F' _ Hc ⟨δi,xs,_,ok,el,_⟩;cases el
def Nx{y:aE}{t:aE}{w:L2.St->Hp->Prop}(ht:(fy t==0||fy t==7)=true)(hy:kL y (λ_ _=>true)=true)(h:PE X y λσ H _=>w σ H):PS X (.Assign [t] y pos) (λ_ σ H=>w σ H):=by
 obtain⟨n,np,as,p,rfl,_⟩:=dB hy;have hg:PG X t (λ_ _ _ _=>False):=λ_ _ _ _ _ _ _ _ _ z=>z.elim;rcases fI.mp ht with z|z
 .obtain⟨⟨_,_,rfl⟩,_⟩:=cM (b:=true) (by rw[cV];exact z);exact λpins s σ H D I q=>sF h hg rfl rfl rfl pins s σ H D I q
 .obtain⟨⟨_,_,_,rfl⟩,_⟩:=cM (b:=true) (by rw[cV];exact z);exact λpins s σ H D I q=>sF h hg rfl rfl rfl pins s σ H D I q
end
section
variable{X:Cx}{cls:List Str}{xs:List (Nat×Nat)}{c:Ck}{cx:Cl}{k:Nat}{W:L2.St->XK}(C:Cok X.nox c cx k)(Z:nU X W)(fr:X.ex=[]/\X.stack=X.env::X.outer/\X.env.frame=some X.env.locals)
 (fx:∀(f g:Nat)(x:Str)(ps:List Str),(f,g)∈xs->c.fns[f]?=some (x,ps)->∃a fd,X.mg x=some (.ref a)/\PySem.W.keepIn X.K (.ref a)=true/\Binds X.K fd ps []/\gD X.prog X.w X.K X.mg X.base (CXE X.prog X.w) k a fd ps (spX X.K X.mg (cx.call g)))
include C Z fr fx
mutual
theorem JH:∀(x:XE)(y:aE),ckX xs c x y=true->PE X y (λσ H _=>tX X.K X.mg W (xvE cx x) σ H)
 |.cal f g es,y,h=>by
  unfold ckX at h;rw[aa]at h;obtain⟨n,_,pe⟩:=IE C (uZ fr.1 Z) (by simpa using h.1) h.2 fx
  exact PE.imp pe λσ H Q z=>Bs n z
 |.tup l,y,h=>by
  obtain⟨ys,_,_,rfl,h1⟩:=dJ h
  exact PE.imp (wJ (JI l ys h1).1) λσ H Q z=>z
 |.fn f g l,y,h=>by
  unfold ckX at h;rw[aa]at h;obtain⟨n,np,as,p,rfl,h1⟩:=dB h.2;split at h1
  .rename_i m ps hf;simp only[aa]at h1;obtain⟨⟨h1,h2⟩,h3⟩:=h1;obtain rfl:=of_decide_eq_true h1;obtain⟨a,fd,hm,hk,hb,fn⟩:=fx f g _ _ (by simpa using h.1) hf;obtain⟨g1,g2,g3⟩:=C.global h2;obtain⟨hA,y,ys,rfl,e1,e2⟩:=JI l as h3;exact PE.imp (uX (uZ fr.1 Z) fn C.room g1 hm hk hb hA g2 e1 (e2 _)) λσ H Q z=>z
  .cases h1
 |.tot x,y,h=>by
  obtain⟨n,np,as,p,rfl,h1⟩:=dB h;obtain⟨z,rfl,h2⟩:=cA h1;simp only[aa]at h2;obtain⟨⟨h2,h3⟩,h4⟩:=h2;obtain rfl:=of_decide_eq_true h2;obtain⟨g1,g2,g3⟩:=C.global h3;have hs:=bu (xS h4) [] X.env
  exact PE.imp (ia (T:="tuple") (r:=λ_ _ _=>False) (λ_ _ _ _ _ _ _ _ _ z=>z.elim) g1 (C.blt _ ⇑0) rfl (MT (JH x z h4) iQ hs) g3 g2 hs rfl) λσ H Q z=>z
 |.cmp kk tg src f g es,y,h=>by
  unfold ckX at h;rw[aa]at h;obtain⟨h0,h⟩:=h;obtain⟨_,_,_,_,rfl,hq1⟩:=mj h;obtain⟨_,rfl,hq2⟩:=cA hq1;obtain⟨t,it,_,rfl,hq3⟩:=wU hq2;split at hq3
  .rename_i ts ht;simp only[aa]at hq3;obtain⟨⟨⟨⟨⟨⟨⟨⟨h1,h2⟩,h3⟩,h4⟩,h5⟩,h6⟩,h7⟩,h8⟩,h9⟩:=hq3;have nd:=(iZ h4).1;have hl:=jW (c:=c) (tg:=tg) (of_decide_eq_true h1);have hvis:=(iZ h4).2;have cb:=λcl Ca s H fp=>gu C h3 nd cl Ca s H fp;intro pins s σ H Q I z;refine zK (Nc:=mn ts c.N++ts) (g:=gTg X.K tg) (wi:=tI X.K cx src) (tt:=tG X.K cx .no) (te:=λE' σ H Q=>tE X.K cx (.call f es) σ H Q\/tX X.K X.mg E' (xvF cx g es) σ H) Z fr.1 fr.2.1 fr.2.2 C.calm (⟨(iu C h3).kind,(iu C h3).nocell,(iu C h3).names,(iu C h3).free⟩) (λi x hi=>by rw[show X.N=c.N from C.hN]at hi |-;exact hvis i x hi) (by rw[show X.N=c.N from C.hN,hl];lia) ?_ (λcl Ca s H fp=>mV (cb cl Ca s H fp) h5) (λcl Ca s H fp=>JJ .no _ _ _ (cb cl Ca s H fp) h7) (λcl Ca s H fp E' P=>?_) (λv=>mG h6 _ v) pins s σ H Q I ?_
   .exact PP.PI.nox (BZ src X.nox c _ _ C h6)
   .refine PP.PE.or (PE.nox (cq (.call f es) _ _ _ (cb cl Ca s H fp) h8)) ?_;obtain⟨n,_,pe⟩:=IE (X:=cxX X _ cl Ca _ s H fp) (cb cl Ca s H fp) P (by simpa using h0) h8 fx;exact PE.imp pe λσ H Q z=>Bs n z
   .obtain⟨G,F,δ,nm,δ',ok,ev,post⟩:=z;simp only[xvE]at ev;split at ev
    .rename_i ds δ1 ei;split at ev
     .rename_i hz;have ek:(mn ts c.N++ts).length-X.N.length=kk:=by rw[show X.N=c.N from C.hN,hl];lia
      rw[ek];refine⟨G,F,δ,ds,δ1,ok,ei,λJ H1 F1 st1 sm1 ok1 wk=>λp hp=>?_⟩;refine vE (E:=W σ) (by rw[I.len,show X.N=c.N from C.hN];exact h2) ok1 (wk _) hp hz ev λH2 F2 ok2 st2=>?_
      have st':Step G F1 H1 (λb=>F2 b/\b≠p) H2:=⟨st2.keep,λb z=>st2.grow b z.1,λb o r f e=>by
       obtain⟨a1,a2⟩:=st2.res b o r f e;exact⟨⟨a1,λw=>by rw[w,hp]at e;cases e⟩,a2⟩,st2.tb⟩
      exact post H2 _ (st1.trans st') (ok2.leave (ok1.free hp))
     .cases ev
    .cases ev
  .cases hq3
theorem JI:∀(l:XL)(ys:List aE),ckL xs c l ys=true->PA X ys (λσ H _=>tX X.K X.mg W (xvL cx l) σ H)/\∃z zs,ys=z::zs/\starEach (z::zs) X.env=(false,eval z X.env)::starEach zs X.env/\∀pos,(backTo pos (starEach zs X.env)).any (·.1)=false
 |.hd x es,ys,h=>by
  obtain⟨y,zs,rfl,h1⟩:=cF h;simp only[aa]at h1;have hs:=bu (xS h1.1.1) zs X.env
  exact⟨MT (JH x y h1.1.1) (fz es X.nox c zs C h1.1.2 (gU h1.2)).nox hs,y,zs,rfl,hs,λpos=>iq h1.1.2⟩
 |.tl e l,ys,h=>by
  obtain⟨y,zs,rfl,h1⟩:=cF h;simp only[aa]at h1;have hs:=bu (bq h1.1.1) zs X.env;obtain⟨hA,z,zs',rfl,e1,e2⟩:=JI l zs h1.2;refine⟨λpos pins s σ H Q I q=>dS (PE.nox (cq e X.nox c y C h1.1.1)) hA hs pos pins s σ H Q I ?_,y,_,rfl,hs,λpos=>?_⟩
  .obtain⟨G,F,δ,nm,δ',ok,ev,post⟩:=q;simp only[xvL]at ev;split at ev
   .rename_i d δ1 e1;exact⟨G,F,δ,d,δ1,ok,e1,λv H1 F1 st sm ok1 r=>⟨G,F1,δ1,nm,δ',ok1,ev,λH' F' st' ok'=>post H' F' (st.trans st') ok'⟩⟩
   .cases ev
  .rw[e1];exact e2 pos
end
end
section
variable{X:Cx}{cls:List Str}{xs:List (Nat×Nat)}{c:Ck}{cx:Cl}{k:Nat}{W:L2.St->XK}
variable(C:Cok X.nox c cx k)(hS:X.env.scope=c.sc)(hB:X.env.blockKind=.function)(Z:nU X W)(fr:X.ex=[]/\X.stack=X.env::X.outer/\X.env.frame=some X.env.locals)(Zm:cls≠[]->Rz X W)(hp:cls≠[]->nV (model X.prog X.w) X.A X.env X.xe)
 (fx:∀(f g:Nat)(x:Str)(ps:List Str),(f,g)∈xs->c.fns[f]?=some (x,ps)->∃a fd,X.mg x=some (.ref a)/\PySem.W.keepIn X.K (.ref a)=true/\Binds X.K fd ps []/\gD X.prog X.w X.K X.mg X.base (CXE X.prog X.w) k a fd ps (spX X.K X.mg (cx.call g)))
 (hcl:∀n,n∈cls->∃C,X.mg n=some (.ref C)/\VE X.K C=true)
include C hS hB Z fr Zm hp fx hcl
mutual
theorem NS:∀(r:R)(x:bG),ckR cls xs c r x=true->PS X x (tR X.K X.mg W (evR cx r))
 |.st s,x,h=>FJ (PS.nox (FI C hS hB s x h))
 |.rse n,x,h=>by
  simp only[ckR,aa]at h;obtain⟨np,t,j,j2,cp,pos,rfl⟩:=Dt h.1.1;obtain⟨C',hm,hC⟩:=hcl n (by simpa using h.2);obtain⟨g1,g2,g3⟩:=C.global h.1.2
  exact BU (Zm (by rintro rfl;simp at h)) C.calm g1 hm hC g2
 |.cal s l,x,h=>by
  simp only[ckR]at h;rw[aa]at h;have hO:=PS.nox (FI C hS hB s x h.1);have hX:∀y,(l.all λe=>ckX xs c e y)=true->∀e,e∈l->PE X y (λσ H _=>tX X.K X.mg W (xvE cx e) σ H):=λy q e he=>JH C Z fr fx e y (bO.mp q e he);rcases fI.mp h.2 with h|h
  .obtain⟨y,pos,rfl,h1⟩:=va h;obtain⟨y,rfl,h2⟩:=lB h1;exact pq hO λe he=>PS.imp (Cu (hX y h2 e he)) λD σ H q=>q
  rcases fI.mp h with h|h
  .obtain⟨y,pos,rfl,h1⟩:=sL h;rw[aa]at h1;refine pq hO λe he=>?_;have pe:=hX y h1.2 e he;obtain⟨n,np,as,p,rfl,_⟩:=dB h1.1;exact PS.imp (sE pe (by rfl)) λD σ H q=>q
  .obtain⟨ts,y,pos,rfl,h1⟩:=iX h;obtain⟨t,rfl,h2⟩:=cA h1;simp only[aa]at h2
   exact pq hO λe he=>Nx h2.1.1 h2.1.2 (hX y h2.2 e he)
 |.ifs t a b,x,h=>by
  obtain⟨_,_,_,_,rfl,hq1⟩:=kb h;simp only[aa]at hq1
  exact BW (PT.nox (md t X.nox c _ C hq1.1.1)) (pj a _ hq1.1.2) (pj b _ hq1.2)
 |.fr tg src b,x,h=>by
  obtain⟨t,it,ys,_,_,rfl,hq1⟩:=vc h;obtain⟨rfl,hq2⟩:=di hq1;simp only[aa]at hq2;obtain⟨⟨⟨h1,h2⟩,h3⟩,h4⟩:=hq2;exact FK (hp (by rintro rfl;simp at h4)) C.calm (PG.nox (mV C h1)) (PP.PI.nox (BZ src X.nox c _ _ C h2)) (λv=>mG h2 _ v) (pj b _ h3)
theorem pj:∀(rs:Rs)(zs:List bG),oi cls xs c rs zs=true->PSs X zs (tR X.K X.mg W (fN cx rs))
 |.nil,zs,h=>by
  obtain⟨rfl,_⟩:=di h
  exact BV
 |.cons r rs,zs,h=>by
  obtain⟨_,_,rfl,hq1⟩:=cF h;rw[aa]at hq1;exact zD (NS r _ hq1.1) (pj rs _ hq1.2)
end
end
inductive Qt where
 |isI (p:Str)|ty|an (a b:Qt)
def Qt.ev(up:List Str):Qt->Bool
 |.isI p=>up.contains p
 |.ty=>true
 |.an a b=>a.ev up&&b.ev up
def Lb:Option Sl->Bool
 |some .no=>true
 |_=>false
def GW(h:Lb o=true):o=some .no:=by
 unfold Lb at h;split at h
 .rfl
 .cases h
def Ht(c:Ck)(j:Nat)(ps:List Str):Qt->aE->Bool
 |.isI p,x=>kL x λf as=>on2 as λu v=>cu u (λn=>dM c j n)&&cu v (λm=>decide (m=p))&&decide (f=("isinstance":Str))&&dm c f&&dm c p&&ps.contains p
 |.ty,x=>kL x λf as=>on2 as λu v=>cu u (λn=>dM c j n)&&cu v (λm=>decide (m=("ValueError":Str)))&&decide (f=("isinstance":Str))&&dm c f&&dm c "ValueError"
 |.an a b,x=>zP x λo vs p=>onS vs λy r=>onS r λz r2=>(match o with
  |.And=>true
  |.Or=>false)&&Ht c j ps a y&&Ht c j ps b (match r2 with
  |[]=>z
  |_::_=>.BoolOp .And (z::r2) p)
structure Qk(Y:Cx)(c:Ck):Prop where
 nd:Y.N.Nodup
 name:∀{i x},dM c i x=true->Y.N[i]?=some x/\Vis Y.env.scope x/\(x==("__debug__":Str))=false/\(x==("__classdict__":Str))=false
 to:∀{i x},fU c i x=true->Y.N[i]?=some x/\L2.Loc Y.env.scope x/\(Y.fn x=true\/Y.env.scope.names.lookup x=some .local)
 glo:∀{x},dm c x=true->Gl Y x/\(x==("__debug__":Str))=false/\x≠("__name__":Str)
 isi:Y.mg "isinstance"=none
 hz:Y.mg "ValueError"=none
structure Ao(X:Cx)(ps:List Str)(C:av)(up:List Str):Prop where
 ve:VE X.K C=true
 qc:pC X.K C=true
 sub:∀p,p∈ps->∃P,X.mg p=some (.ref P)/\VE X.K P=true/\subIn X.K C P=up.contains p
def tIt(i:Nat)(a:av)(b:Bool):TT:=λσ H Q=>σ[i]?=some (some (.ref a))/\Q b H
def PT.to(h:PT X e t)(w:∀σ H Q,u σ H Q->t σ H Q):PT X e u:=λpins s σ H Q I q=>h pins s σ H Q I (w σ H Q q)
section
variable{Y:Cx}{c:Ck}{ps:List Str}{j:Nat}{a C:av}{oe:Obj}{up:List Str}
 (K1:Qk Y c)(U:Ao Y ps C up)(hp:(a,oe)∈Y.pn)(hc:oe.cls=.ref C)
include K1 U hp hc
theorem BX:∀(q:Qt)(x:aE),Ht c j ps q x=true->PE Y x (L2.tI j a (q.ev up))/\PT Y x (tIt j a (q.ev up))/\∀o vs p,x=.BoolOp o vs p->PW Y x (tIt j a (q.ev up))
 |.isI p,x,h=>by
  obtain⟨f,np,as,pos,rfl,hq1⟩:=dB h;obtain⟨u,v,rfl,hq2⟩:=fS hq1;simp only[aa]at hq2;obtain⟨⟨⟨⟨⟨h1,h2⟩,h3⟩,h4⟩,h5⟩,h6⟩:=hq2;obtain⟨n,np1,rfl,h1'⟩:=ba h1;obtain⟨m,mp,rfl,h2'⟩:=ba h2;obtain rfl:=of_decide_eq_true h2';obtain rfl:=of_decide_eq_true h3;obtain⟨P,hm,hP,hs⟩:=U.sub m (by simpa using h6);obtain⟨n1,n2,n3,n4⟩:=K1.name h1';obtain⟨g1,g2,g3⟩:=K1.glo h4;obtain⟨g4,g5,g6⟩:=K1.glo h5
  have key:PE Y (.Call (.Name "isinstance" np) [.Name n np1,.Name m mp] [] pos) (L2.tI j a ((Qt.isI m).ev up)):=by
   refine Gj (P:=P) (fJ n1 n2 n3 n4) ?_ g1 K1.isi g4 hm g5;show cE Y _ (λxs H Q=>xs=[.ref a,.ref P]/\Q (.bl (up.contains m)) H);exact Lr hp hc U.ve U.qc hP hs
  exact⟨key,PT.to (wD key) (λσ H Q⟨e,q⟩=>⟨e,_,rfl,q⟩),λ_ _ _ z=>by cases z⟩
 |.ty,x,h=>by
  obtain⟨f,np,as,pos,rfl,hq1⟩:=dB h;obtain⟨u,v,rfl,hq2⟩:=fS hq1;simp only[aa]at hq2;obtain⟨⟨⟨⟨h1,h2⟩,h3⟩,h4⟩,h5⟩:=hq2;obtain⟨n,np1,rfl,h1'⟩:=ba h1;obtain⟨m,mp,rfl,h2'⟩:=ba h2;obtain rfl:=of_decide_eq_true h2';obtain rfl:=of_decide_eq_true h3;obtain⟨n1,n2,n3,n4⟩:=K1.name h1';obtain⟨g1,g2,g3⟩:=K1.glo h4;obtain⟨g4,g5,g6⟩:=K1.glo h5
  have key:PE Y (.Call (.Name "isinstance" np) [.Name n np1,.Name "ValueError" mp] [] pos) (L2.tI j a (Qt.ty.ev up)) :=
   Gi (T:="ValueError") (fJ n1 n2 n3 n4) (Lp hp hc U.ve U.qc ⇑0 ⇑0) g1 K1.isi g4 K1.hz rfl g6 g5
  exact⟨key,PT.to (wD key) (λσ H Q⟨e,q⟩=>⟨e,_,rfl,q⟩),λ_ _ _ z=>by cases z⟩
 |.an q1 q2,x,h=>by
  obtain⟨o,_,p,rfl,hq1⟩:=kD h;obtain⟨y,r,rfl,hq2⟩:=cF hq1;obtain⟨z,r2,rfl,hq3⟩:=cF hq2;simp only[aa]at hq3;obtain⟨⟨h0,h1⟩,h2⟩:=hq3;cases o<;>first|(cases h0;done)|skip
  obtain⟨a1,a2,a3⟩:=BX q1 _ h1;obtain⟨b1,b2,b3⟩:=BX q2 _ h2
  have kw:PW Y (.BoolOp .And (y::z::r2) p) (tIt j a ((Qt.an q1 q2).ev up)):=by
   have k2:PW Y (.BoolOp .And (y::z::r2) p) (Mv (tIt j a (q1.ev up)) (tIt j a (q2.ev up))):=by
    cases r2 with
    |nil=>exact wB a2 (yo b2)
    |cons w r=>exact wB a2 (b3 _ _ _ rfl)
   refine λwh pins s σ H Q I⟨e,q⟩=>k2 wh pins s σ H Q I ⟨e,?_⟩;have q':Q (q1.ev up&&q2.ev up) H:=q
   cases z1:q1.ev up with
   |true=>rw[z1]at q';exact qm ⟨e,q'⟩
   |false=>rw[z1]at q';exact sS q'
  refine⟨?_,kw.pt,λ_ _ _ _=>kw⟩
  cases r2 with
  |nil=>exact yy a1 (wL b1)
  |cons w r=>exact yy a1 b1
end
def tyB:bG->List bG
 |.Try b _ _ _ _=>b
 |_=>[]
def tyH:bG->List kr
 |.Try _ h _ _ _=>h
 |_=>[]
def tyO:bG->List bG
 |.Try _ _ o _ _=>o
 |_=>[]
def tyF:bG->List bG
 |.Try _ _ _ f _=>f
 |_=>[]
def ehT:kr->Option aE
 |.ExceptHandler t _ _ _=>t
def ehN:kr->Option Str
 |.ExceptHandler _ n _ _=>n
def ehB:kr->List bG
 |.ExceptHandler _ _ b _=>b
def Il(x:bG)(k:List bG->Str->Str->bG->List bG->Bool):Bool:=(Fc x==2)&&on0 (tyO x) (on0 (tyF x) (on1 (tyH x) λh=>onO (ehT h) λe=>cu e λp=>onS (ehB h) λb r=>match ehN h with
 |some n=>k (tyB x) p n b r
 |none=>false))
def CP(h:Il x k=true):∃body p n b r np hp pos,x=.Try body [.ExceptHandler (some (.Name p np)) (some n) (b::r) hp] [] [] pos/\k body p n b r=true:=by
 obtain⟨⟨body,hs,o,f,pos,rfl⟩,h1⟩:=yM h;obtain⟨e1,h2⟩:=di h1;obtain⟨e2,h3⟩:=di h2;obtain⟨⟨t,n,b,hp⟩,e3,h4⟩:=cA h3;obtain⟨y,e4,h5⟩:=lB h4;obtain⟨p,np,rfl,h6⟩:=ba h5;obtain⟨b0,r,e5,h7⟩:=cF h6;have e1:o=[]:=e1;have e2:f=[]:=e2;have e3:hs=[.ExceptHandler t n b hp]:=e3;have e4:t=some (.Name p np):=e4;have e5:b=b0::r:=e5;subst e1 e2 e3 e4 e5
 cases n with
 |none=>cases h7
 |some n=>exact⟨body,p,n,b0,r,np,hp,pos,rfl,h7⟩
def Ok.keepNo{K:PySem.W.Frag}{G:Gh}{F:av->Prop}{σ:L2.St}{H:Hp}{δ:Loc}(h:Ok K G F σ H δ){j:Nat}(e:δ[j]?=some .no)(v:Option V):Ok K G F (σ.set j v) H δ:=by
 refine⟨h.same,h.fd,h.rf,h.rl,h.tf,h.tabs,by rw[bb];exact h.len,λi s hi=>?_,λi i' s t a e1 e2 o1 o2 a1 a2=>?_⟩
 .by_cases q:i=j
  .subst q;rw[e]at hi;cases hi;trivial
  .rw[aM (Ne.symm q)];exact h.sl i s hi
 .have n1:i≠j:=by rintro rfl;rw[e]at e1;cases e1;cases o1
  have n2:i'≠j:=by rintro rfl;rw[e]at e2;cases e2;cases o2
  rw[aM (Ne.symm n1)]at a1;rw[aM (Ne.symm n2)]at a2;exact h.apart i i' s t a e1 e2 o1 o2 a1 a2
section
variable{X:Cx}{c:Ck}{cx:Cl}{k:Nat}{ps:List Str}{xs:List (Nat×Nat)}{ups:List (Str×List Str)}
def Cok.tried(C:Cok X c cx k)(pn:List (av×Obj))(xe:ai->au->Prop):Cok (X.tried pn xe).nox c cx k:={C with xe:=rfl}
def iB(rs:Rs):Ss:=.cons (.opq λcx δ=>match fN cx rs δ with
 |some (.inl o)=>some o
 |_=>none) .nil
def NR(K1:Cok X c cx k)(hS:X.env.scope=c.sc)(hB:X.env.blockKind=.function)(fr:X.ex=[]/\X.stack=X.env::X.outer/\X.env.frame=some X.env.locals)
 (fx:∀(f g:Nat)(x:Str)(ps:List Str),(f,g)∈xs->c.fns[f]?=some (x,ps)->∃a fd,X.mg x=some (.ref a)/\PySem.W.keepIn X.K (.ref a)=true/\Binds X.K fd ps []/\gD X.prog X.w X.K X.mg X.base (CXE X.prog X.w) k a fd ps (spX X.K X.mg (cx.call g)))
 (hcl:∀n,n∈cls->∃C,X.mg n=some (.ref C)/\VE X.K C=true){rs:Rs}{zs:List bG}(h:oi cls xs c rs zs=true):PSs X zs (tS X.K (cW cx (iB rs))):=by
 have C':Cok X.nox c cx k:={K1 with xe:=rfl};refine PSs.imp (pj (X:=X) (W:=λ_=>E0) C' hS hB Ig.pass fr (λ_=>Ig) (λ_=>by rw[K1.xe];exact nE) fx hcl rs zs h) λD σ H zz=>?_;obtain⟨G,F,δ,o,ok,ev,post⟩:=zz;refine⟨G,F,δ,.inl o,ok,?_,post⟩;unfold iB at ev;simp only[cW,evS]at ev
 cases er:fN cx rs δ with
 |none=>rw[er]at ev;cases ev
 |some r =>
  rw[er]at ev
  cases r with
  |inr q=>cases ev
  |inl o1=>cases o1<;>(cases ev;rfl)
end
end PP
end
section
namespace L2
open PySem PySem.Spec PyProof.Rows
variable[PP.Tbs]
def SP.unpin{X:Cx}{q:av×Obj}{pins:List (av×Obj)}{D:Ends}(h:SP X (q::pins) D f s):SP X pins D f s:=by
 cases f with
 |next=>obtain⟨σ',H',I,q⟩:=h;exact⟨σ',H',I.unpin,q⟩
 |brk=>obtain⟨σ',H',I,q⟩:=h;exact⟨σ',H',I.unpin,q⟩
 |cont=>obtain⟨σ',H',I,q⟩:=h;exact⟨σ',H',I.unpin,q⟩
 |ret u=>obtain⟨v,σ',H',I,r,q⟩:=h;exact⟨v,σ',H',I.unpin,r,q⟩
def Cr{X:Cx}{i j:Nat}{x n y:Str}{P:av}{np hp pos np2 yp ap:Pos}{body rest:List bG}{tb:(St->XK)->TS}{tr:TS}{tk:av->av->TS}(hex:X.ex=[])(hst:X.stack=X.env::X.outer)(hfr:X.env.frame=some X.env.locals)
 (hg:Gl X x)(hm:X.mg x=some (.ref P))(hP:VE X.K P=true)(hd:(x==("__debug__":Str))=false)(hN:X.N.Nodup)(hj:X.N[j]?=some n)(hx:X.env.kindOf n=some .local)(hx2:X.env.scope.names.lookup n=some .local)(n3:(n==("__debug__":Str))=false)(n4:(n==("__classdict__":Str))=false)
 (hi:X.N[i]?=some y)(hy:L2.Loc X.env.scope y)(hy2:X.fn y=true\/X.env.scope.names.lookup y=some .local)
 (hb:∀(E:St->XK)(pn:List (av×Obj))(xe:ai->au->Prop),nU (X.tried pn xe) E->PSs (X.tried pn xe) body (tb E))
 (hr:PSs X rest tr)(hk:∀a C oe vs pn,oe.cls=.ref C->oe.data=.fields vs->(a,oe)∈pn->PSs (X.tried pn X.xe) rest (tk a C)) :
 PSs X (.Try body [.ExceptHandler (some (.Name x np)) (some n) [.Assign [.Name y yp] (.Name n np2) ap] hp] [] [] pos::rest) (λD σ H=>∃E:St->XK,tb E {D with nx:=tr D} σ H/\∀σ1 cls H1,E σ1 cls none H1->j<σ1.length/\∃C,cls=.ref C/\VE X.K C=true/\subIn X.K C P=true /\
  ∀a,tk a C D (((σ1.set j (some (.ref a))).set i (some (.ref a))).set j none) H1):=by
 intro pins s σ H D I h;obtain⟨E,hb1,hs1⟩:=h;refine uc (wpAny_Try_except (cw (hb E (X.pn++pins) _ (λpins' σ1 H2 s1 a cls I1 fly q=>?_) [] s σ H _ I.tried hb1) (λf s1 h1=>?_) λ_ _ z=>z))
 .have fly':LU X pins H2 a cls s1.heap:=by
   obtain⟨oe,vs,a0,T,oT,ts,fl,he,hc,hd,h1,fr,hTe,hT,hdT,h3,nw⟩:=fly;exact⟨oe,vs,a0,T,oT,ts,fl,he,hc,hd,h1,fr,hTe,hT,hdT,h3,λb hb=>⟨(nw b hb).1,(nw b hb).2.1,(nw b hb).2.2.1,λp hp=>(nw b hb).2.2.2 p (bZ _ hp)⟩⟩
  refine LG (Q:=λf s'=>match f with|.next=>wpAny (model X.prog X.w) X.A (execs rest X.env) (SP X pins D) X.xe s'|f=>SP X pins D f s') (EX:=X.xe) (I1.untried I.ok) fly' hex hst hfr hg hm hP hd ?_;obtain⟨hlt,C,e1,e2,e3,k⟩:=hs1 σ1 cls H2 q;refine⟨C,e1,e2,e3,λs2 oe vs I2 c1 c2=>?_⟩;refine ig I2 hN hj (.inl hx2) (v:=.ref a) rfl (λs3 I3=>?_) (.inr hx2);have suite:PSs (X.mrk a) [.Assign [.Name y yp] (.Name n np2) ap] (Bu (wm j) (pO i)):=Gb (Ct hN hi hy (fJ hj (.inl hx2) n3 n4) (PP.head_swaps (x:=.Name n np2) rfl rfl _ _ _) hy2);refine cw (suite _ s3 _ H2 {nx:=λσ' H'=>σ'=(σ1.set j (some (.ref a))).set i (some (.ref a))/\H'=H2,rt:=λ_ _=>False} (I3.mrk a) ⟨_,bI hlt,rfl,rfl⟩) (λf s4 h4=>?_) λ_ _ z=>z
  cases f with
  |next =>
   obtain⟨σ4,H4,I4,rfl,rfl⟩:=h4;refine zR (I4.unmrk I.ok) hN hj hx λs5 I5=>?_
   exact cw (hk a C oe vs (X.pn++((a,oe)::pins)) c1 c2 (aP _ ay) [] s5 _ H4 D I5.tried (k a)) (λf s6 z=>(SP.untried I.ok z).unpin) λ_ _ z=>z
  |brk=>obtain⟨_,_,_,z⟩:=h4;exact z.elim
  |cont=>obtain⟨_,_,_,z⟩:=h4;exact z.elim
  |ret u=>obtain⟨_,_,_,_,_,z⟩:=h4;exact z.elim
 .have h2:=h1.untried I.ok
  cases f with
  |next =>
   obtain⟨σ',H',I',q⟩:=h2
   exact iT (hr pins s1 σ' H' D I' q)
  |brk=>exact h2
  |cont=>exact h2
  |ret u=>exact h2
end L2
end
section
namespace PP
open PySem L2 PyProof.Rows
variable[Tbs]
inductive Ks where
 |skN (r:Ks)|tt (l:List Str) (b:Ss) (r:Ks)|qq (q:Qt) (b:Ss) (r:Ks)|rt (b:Ss)
def xY:Option Out->Option Out
 |some (.nx _)=>none
 |o=>o
def Ks.ev(up:List Str)(cx:Cl):Ks->Loc->Option Out
 |.skN r,δ=>r.ev up cx δ
 |.tt l b r,δ=>if l.any up.contains=true then xY (cW cx b δ)else r.ev up cx δ
 |.qq q b r,δ=>if q.ev up=true then xY (cW cx b δ)else r.ev up cx δ
 |.rt b,δ=>cW cx b δ
def kU(ups:List (Str×List Str))(rs:Rs)(i j:Nat)(post:Ss)(ks:Ks)(cx:Cl)(δ:Loc):Option Out:=match fN cx rs δ with
 |some (.inl (.nx δ1))=>cW cx post δ1
 |some (.inl o)=>some o
 |some (.inr (c,δ1))=>(match ups.lookup c with
  |some up=>if(Lb δ1[j]?&&decide (i<δ1.length))=true then ks.ev up cx (δ1.set i .no)else none
  |none=>none)
 |none=>none
def Lv(c:Ck)(ps:List Str):List Str->List aE->Bool
 |[],es=>on0 es true
 |p::l,es=>onS es λy ys=>cu y (λm=>decide (m=p))&&dm c p&&ps.contains p&&Lv c ps l ys
def Oe:uo->Bool
 |.Is=>true
 |_=>false
def Od:HV->Bool
 |.none=>true
 |_=>false
def Eb(c:Ck)(i:Nat)(ps:List Str):Ks->List bG->Bool
 |.skN r,zs=>onS zs λz zr=>(pJ z λt ya yb=>on0 yb (qU t λy os es=>on1 os λo=>on1 es λe=>Oe o&&onC e Od&&cu y λn=>dM c i n))&&Eb c i ps r zr
 |.tt l b r,zs=>onS zs λz zr=>(pJ z λt ya yb=>on0 yb (kL t λf as=>on2 as λu v=>cu u (λn=>dM c i n)&&jZ v (λes=>Lv c ps l es)&&decide (f=("isinstance":Str))&&dm c f&&decide (l.length<100)&&oh c b ya))&&Eb c i ps r zr
 |.qq q b r,zs=>onS zs λz zr=>(pJ z λt ya yb=>on0 yb (Ht c i ps q t&&oh c b ya))&&Eb c i ps r zr
 |.rt b,zs=>oh c b zs
def kY.stop{K:PySem.W.Frag}{G:Gh}{F:av->Prop}{H:Hp}{o:Out}{D D':Ends}(h:kY K G F H o D)(e:D'={D with nx:=D'.nx})(n:∀δ,o≠.nx δ):kY K G F H o D':=by
 rw[e]
 cases o with
 |nx δ=>exact absurd rfl (n δ)
 |rt d δ=>exact h
 |ro d δ=>exact h
def uL(h:xY x=some o):x=some o/\∀δ,o≠.nx δ:=by
 unfold xY at h;split at h
 .cases h
 .rename_i hn;exact⟨h,λδ e=>hn δ (by rw[h,e])⟩
def tKs(K:PySem.W.Frag)(i:Nat)(a:av)(ev:Loc->Option Out):TS:=λD σ H=>∃G F δ o,Ok K G F σ H δ/\δ[i]?=some .no/\σ[i]?=some (some (.ref a))/\ev δ=some o/\kY K G F H o D
section
variable{Y:Cx}{c:Ck}{cx:Cl}{k:Nat}{ps:List Str}{i:Nat}{a C:av}{oe:Obj}{up:List Str}
 (C1:Cok Y c cx k)(hS:Y.env.scope=c.sc)(hB:Y.env.blockKind=.function)(K1:Qk Y c)(U:Ao Y ps C up)(hp:(a,oe)∈Y.pn)(hc:oe.cls=.ref C)
include K1 U
theorem Ic:∀(l:List Str)(es:List aE),Lv c ps l es=true->∃Ps:List av,PA Y es (λσ H Q=>Q (Ps.map V.ref) H)/\PySem.W.kitAny Y.K (.ref C) (Ps.map cm)=some (l.any up.contains)/\Ps.length=l.length
 |[],es,h=>by
  obtain⟨rfl,_⟩:=di h
  exact⟨[],λpos pins s σ H Q I q=>iQ pos pins s σ H Q I q,rfl,rfl⟩
 |p::l,es,h=>by
  obtain⟨y,ys,rfl,h1⟩:=cF h;simp only[aa]at h1;obtain⟨⟨⟨h1,h2⟩,h3⟩,h4⟩:=h1;obtain⟨m,mp,rfl,h5⟩:=ba h1;obtain rfl:=of_decide_eq_true h5;obtain⟨Ps,hA,hk,hl⟩:=Ic l ys h4;obtain⟨P,hm,hP,hs⟩:=U.sub m (by simpa using h3);obtain⟨g1,g2,g3⟩:=K1.glo h2;refine⟨P::Ps,λpos pins s σ H Q I q=>dS (CI g1 hm g2) hA (bu rfl _ _) pos pins s σ H Q I q,?_,by rw[ag,hl];rfl⟩;rw[aw,dH];unfold PySem.W.kitAny;rw[yL U.ve hP hs]
  cases up.contains m with
  |true=>rfl
  |false=>exact hk
include C1 hS hB hp hc
theorem yd:∀(q:Ks)(zs:List bG),Eb c i ps q zs=true->PSs Y zs (tKs Y.K i a (q.ev up cx))
 |.skN r,zs,h=>by
  obtain⟨z,zr,rfl,h1⟩:=cF h;rw[aa]at h1;obtain⟨t,ya,yb,pos,rfl,h2⟩:=kb h1.1;obtain⟨rfl,h3⟩:=di h2;obtain⟨y,os,es,p,rfl,h4⟩:=fA h3;obtain⟨o,rfl,h5⟩:=cA h4;obtain⟨e,rfl,h6⟩:=cA h5;simp only[aa]at h6;obtain⟨⟨h6,h7⟩,h8⟩:=h6;obtain⟨n,np,rfl,h9⟩:=ba h8;obtain⟨v,vn,vp,rfl,h10⟩:=jv h7;cases o<;>first|(cases h6;done)|skip
  cases v<;>first|(cases h10;done)|skip
  obtain⟨n1,n2,n3,n4⟩:=K1.name h9;refine PSs.imp (jY (uU (a:=ya) (t:=λ_ _ _=>False) (JS (Kh (fJ n1 n2 n3 n4)) (by rfl)) (λ_ _ _ _ _ _ z=>z.elim) mh) (yd r zr h1.2)) λD σ H zz=>?_;obtain⟨G,F,δ,o,ok,d1,d2,ev,post⟩:=zz
  exact⟨_,d2,false,rfl,sS ⟨G,F,δ,o,ok,d1,d2,ev,post⟩⟩
 |.tt l b r,zs,h=>by
  obtain⟨z,zr,rfl,h1⟩:=cF h;rw[aa]at h1;obtain⟨t,ya,yb,pos,rfl,h2⟩:=kb h1.1;obtain⟨rfl,h3⟩:=di h2;obtain⟨f,fp,as,p,rfl,h4⟩:=dB h3;obtain⟨u,v,rfl,h5⟩:=fS h4;simp only[aa]at h5;obtain⟨⟨⟨⟨⟨h5,h6⟩,h7⟩,h8⟩,h9⟩,h10⟩:=h5;obtain rfl:=of_decide_eq_true h7;obtain⟨n,np,rfl,h11⟩:=ba h5;obtain⟨es,en,ep,rfl,h12⟩:=dJ h6;obtain⟨n1,n2,n3,n4⟩:=K1.name h11;obtain⟨g1,g2,g3⟩:=K1.glo h8;obtain⟨Ps,hA,hk,hl⟩:=Ic K1 U l es h12;have hV:PE Y (.Name n np) (wm i):=fJ n1 n2 n3 n4;have hT:=gB (pos:=p) (p:=fp) (Lq hp hc U.ve U.qc hk) g1 K1.isi rfl (dS hV (dS (wJ (x1:=en) (pos:=ep) hA) iQ rfl) rfl) ⇑0 ⇑0 rfl rfl;refine PSs.imp (jY (uU (wD hT) (kR C1 hS hB b ya h10) mh) (yd r zr h1.2)) λD σ H zz=>?_;obtain⟨G,F,δ,o,ok,d1,d2,ev,post⟩:=zz;refine⟨_,d2,by rw[ak,hl];exact aZ (cI (of_decide_eq_true h9)) ⇑0,λtp hn=>⟨tp,rfl,bK,_,rfl,?_⟩⟩;obtain⟨l1,l2,_⟩:=ok.laid hn (.tup (Ps.map V.ref));unfold Ks.ev at ev
  cases z1:l.any up.contains with
  |true =>
   rw[if_pos z1]at ev;obtain⟨e1,e2⟩:=uL ev
   exact qm ⟨G,F,δ,o,l1,e1,(post.step l2).stop rfl e2⟩
  |false =>
   rw[if_neg (by rw[z1];simp)]at ev
   exact sS ⟨G,F,δ,o,l1,d1,d2,ev,post.step l2⟩
 |.qq q b r,zs,h=>by
  obtain⟨z,zr,rfl,h1⟩:=cF h;rw[aa]at h1;obtain⟨t,ya,yb,pos,rfl,h2⟩:=kb h1.1;obtain⟨rfl,h3⟩:=di h2;rw[aa]at h3;refine PSs.imp (jY (uU (BX K1 U hp hc q t h3.1).2.1 (kR C1 hS hB b ya h3.2) mh) (yd r zr h1.2)) λD σ H zz=>?_;obtain⟨G,F,δ,o,ok,d1,d2,ev,post⟩:=zz;refine⟨d2,?_⟩;unfold Ks.ev at ev
  cases z1:q.ev up with
  |true =>
   rw[if_pos z1]at ev;obtain⟨e1,e2⟩:=uL ev
   exact qm ⟨G,F,δ,o,ok,e1,post.stop rfl e2⟩
  |false =>
   rw[if_neg (by rw[z1];simp)]at ev
   exact sS ⟨G,F,δ,o,ok,d1,d2,ev,post⟩
 |.rt b,zs,h=>PSs.imp (kR C1 hS hB b zs h) λD σ H⟨G,F,δ,o,ok,d1,d2,ev,post⟩=>⟨G,F,δ,o,ok,ev,post⟩
end
def Ok.setNo{K:PySem.W.Frag}{G:Gh}{F:av->Prop}{σ:L2.St}{H:Hp}{δ:Loc}(h:Ok K G F σ H δ)(i:Nat)(v:Option V):Ok K G F (σ.set i v) H (δ.set i .no):=by
 refine⟨h.same,h.fd,h.rf,h.rl,h.tf,h.tabs,by rw[bb,bb];exact h.len,λl s hl=>?_,λl l' s t a e1 e2 o1 o2 a1 a2=>?_⟩
 .by_cases q:l=i
  .subst q;rw[ji]at hl;simp only[↓reduceIte]at hl;split at hl
   .cases hl;trivial
   .cases hl
  .rw[aM (Ne.symm q)]at hl |-;exact h.sl l s hl
 .have n1:l≠i:=by
   rintro rfl;rw[ji]at e1;simp only[↓reduceIte]at e1;split at e1
   .cases e1;cases o1
   .cases e1
  have n2:l'≠i:=by
   rintro rfl;rw[ji]at e2;simp only[↓reduceIte]at e2;split at e2
   .cases e2;cases o2
   .cases e2
  rw[aM (Ne.symm n1)]at e1 a1;rw[aM (Ne.symm n2)]at e2 a2;exact h.apart l l' s t a e1 e2 o1 o2 a1 a2
def kS(ups:List (Str×List Str))(rs:Rs)(i j:Nat)(post:Ss)(ks:Ks):List S->Ss
 |[]=>.cons (.opq (kU ups rs i j post ks)) .nil
 |s::l=>.cons s (kS ups rs i j post ks l)
def ckK(c:Ck)(xs:List (Nat×Nat))(ps:List Str)(ups:List (Str×List Str))(rs:Rs)(i j:Nat)(post:Ss)(ks:Ks):List S->List bG->Bool
 |[],zs=>onS zs λz zr=>(Il z λbody p n b r=>on0 r (nN b λts y=>on1 ts λt=>cu t (λt=>fU c i t)&&cu y λy=>decide (y=n))&&dM c j n&&oi [] xs c rs body&&dm c p&&ps.contains p&&decide (c.sc.names.lookup n=some .local)&&decide (i≠j)&&ups.all λu=>u.2.contains p)&&oh c post zr&&Eb c i ps ks zr
 |s::l,zs=>onS zs λz zr=>ckS c s z&&ckK c xs ps ups rs i j post ks l zr
section
variable{X:Cx}{c:Ck}{cx:Cl}{k:Nat}{ps:List Str}{xs:List (Nat×Nat)}{ups:List (Str×List Str)}
def Mx(K1:Cok X c cx k)(hS:X.env.scope=c.sc)(hB:X.env.blockKind=.function)(hz:X.mg "ValueError"=none)(fr:X.ex=[]/\X.stack=X.env::X.outer/\X.env.frame=some X.env.locals)
 (fx:∀(f g:Nat)(x:Str)(ps:List Str),(f,g)∈xs->c.fns[f]?=some (x,ps)->∃a fd,X.mg x=some (.ref a)/\PySem.W.keepIn X.K (.ref a)=true/\Binds X.K fd ps []/\gD X.prog X.w X.K X.mg X.base (CXE X.prog X.w) k a fd ps (spX X.K X.mg (cx.call g)))
 (hps:∀p,p∈ps->∃P,X.mg p=some (.ref P)/\VE X.K P=true)(hup:∀n up,ups.lookup n=some up->∃C,X.mg n=some (.ref C)/\Ao X ps C up){rs:Rs}{i j:Nat}{post:Ss}{ks:Ks}:∀(l:List S)(zs:List bG),ckK c xs ps ups rs i j post ks l zs=true->PSs X zs (tS X.K (cW cx (kS ups rs i j post ks l)))
 |s::l,zs,h=>by
  obtain⟨_,_,rfl,hq⟩:=cF h;rw[aa]at hq
  exact qN (FI K1 hS hB s _ hq.1) (Mx K1 hS hB hz fr fx hps hup l _ hq.2)
 |[],zs,h=>by
  obtain⟨z,zr,rfl,h0⟩:=cF h;rw[aa,aa]at h0;obtain⟨⟨h,hpost⟩,hks⟩:=h0;obtain⟨body,p,n,b,r,np,hp,pos,rfl,h9⟩:=CP h;simp only[aa]at h9;obtain⟨⟨⟨⟨⟨⟨⟨h1,h2⟩,h3⟩,h4⟩,h5⟩,h6⟩,h7⟩,h8⟩:=h9;obtain⟨rfl,h9⟩:=di h1;obtain⟨ts,y,ap,rfl,h10⟩:=iX h9;obtain⟨t,rfl,h11⟩:=cA h10;rw[aa]at h11;obtain⟨t,tp,rfl,h12⟩:=ba h11.1;obtain⟨y,np2,rfl,h13⟩:=ba h11.2;obtain rfl:=of_decide_eq_true h13;have h6:=of_decide_eq_true h6;have hne:=of_decide_eq_true h7;obtain⟨g1,g2,g3⟩:=K1.global h4;obtain⟨f1,f2,f3⟩:=fr;obtain⟨m1,m2,m3,m4⟩:=K1.name h2;obtain⟨n1,n2,n3⟩:=K1.to h12;obtain⟨P,hm,hP⟩:=hps p (by simpa using h5);refine PSs.imp (Cr (i:=i) (j:=j) (P:=P) (tb:=λE=>tR X.K X.mg E (fN cx rs)) (tr:=tS X.K (cW cx post)) (tk:=λa C D σ H=>∃up,Ao X ps C up/\tKs X.K i a (ks.ev up cx) D σ H) f1 f2 f3 g1 hm hP g2 K1.nd' m1 (show X.env.scope.names.lookup y=some .local by rw[hS];exact h6) (show X.env.scope.names.lookup y=some .local by rw[hS];exact h6) m3 m4 n1 n2 n3 (λE pn xe hpass=>?_) (kR K1 hS hB post zr hpost) (λa C oe vs pn c1 c2 hp=>?_)) λD σ H⟨G,F,δ,o,ok,ev,pst⟩=>?_
  .exact pj (X:=X.tried pn xe) (cls:=[]) (K1.tried pn xe) hS hB hpass ⟨f1,f2,f3⟩ (λz=>absurd rfl z) (λz=>absurd rfl z) fx (λn z=>by simp at z) rs body h3
  .intro pins s σ H D I ⟨up,U,q⟩;exact PSs.nox (X:=X.tried pn X.xe) (yd (Y:=(X.tried pn X.xe).nox) (K1.tried pn X.xe) hS hB ⟨K1.nd',λh=>K1.name h,λh=>K1.to h,λh=>K1.global h,K1.blt _ ⇑0,hz⟩ ⟨U.ve,U.qc,U.sub⟩ hp c1 ks zr hks) pins s σ H D I q
  .have ev:kU ups rs i j post ks cx δ=some o:=by
    unfold kS at ev;simp only[cW,evS]at ev
    cases e:kU ups rs i j post ks cx δ with
    |none=>rw[e]at ev;cases ev
    |some o1=>rw[e]at ev;cases o1<;>exact ev
   unfold kU at ev;refine⟨λσ1 u _ H1=>∃nm δ1 F1,fN cx rs δ=some (.inr (nm,δ1))/\X.mg nm=some u/\Step G F H F1 H1/\Ok X.K G F1 σ1 H1 δ1,?_,?_⟩
   .cases er:fN cx rs δ with
    |none=>rw[er]at ev;cases ev
    |some r =>
     rw[er]at ev;refine⟨G,F,δ,r,ok,er,?_⟩
     cases r with
     |inl o1 =>
      cases o1 with
      |nx δ1=>exact λσ' H' F' st ok'=>⟨G,F',δ1,o,ok',ev,pst.step st⟩
      |rt d δ1=>cases ev;exact pst
      |ro d δ1=>cases ev;exact pst
     |inr q =>
      obtain⟨nm,δ1⟩:=q;dsimp only at ev;split at ev
      .rename_i up hl;obtain⟨C,hC,_⟩:=hup nm up hl;exact λσ' H' F' st ok'=>⟨_,hC,nm,δ1,F',rfl,hC,st,ok'⟩
      .cases ev
   .rintro σ1 u H1 ⟨nm,δ1,F1,er,hu,st,ok1⟩;rw[er]at ev;dsimp only at ev;split at ev
    .rename_i up hl;obtain⟨C,hC,U⟩:=hup nm up hl;rw[hu]at hC;cases hC;obtain⟨P',hm',_,hs⟩:=U.sub p (by simpa using h5);rw[hm]at hm';cases hm';split at ev
     .rename_i hn;rw[aa]at hn;have hj:=GW hn.1;have hil:=of_decide_eq_true hn.2;have hlj:j<σ1.length:=by rw[<- ok1.len];exact(aF.mp hj).1
      refine⟨hlj,C,rfl,U.ve,?_,λa=>⟨up,U,G,F1,_,o,((ok1.keepNo hj _).setNo i _).keepNo ?_ none,bI hil,?_,ev,pst.step st⟩⟩
      .rw[hs];have hmem:(nm,up)∈ups:=PySem.mem_of_lookup hl;exact bO.mp h8 _ hmem
      .rw[aM hne];exact hj
      .rw[aM (Ne.symm hne)];exact bI (by rw[bb,<- ok1.len];exact hil)
     .cases ev
    .cases ev
end
class Xs where
 xs:List (Nat×Nat)
variable[Xs]
def FX(X:Cx)(cf:List (Str×List Str))(cx:Cl)(k:Nat):Prop:=(X.ex=[]/\X.stack=X.env::X.outer/\X.env.frame=some X.env.locals)/\∀(f g:Nat)(x:Str)(ps:List Str),(f,g)∈Xs.xs->cf[f]?=some (x,ps)->∃a fd,X.mg x=some (.ref a)/\PySem.W.keepIn X.K (.ref a)=true/\Binds X.K fd ps []/\gD X.prog X.w X.K X.mg X.base (CXE X.prog X.w) k a fd ps (spX X.K X.mg (cx.call g))
def gf(rs:Rs):Ss:=.cons (.opq λcx δ=>match fN cx rs δ with
 |some (.inr (c,δ1))=>some (.rt (.str c) δ1)
 |_=>none) .nil
structure Dn(K:PySem.W.Frag)(mgv:Str->Option ai)(cf:List (Str×List Str))(gn:List Str)(fd:Fd)(st:bG)(a:av)(fdd:eH):Prop where
 fn:Fun K fd.name fd.name st a fdd
 mg:mgv fd.name=some (.ref a)
 sc:kI (fd.ps++fd.loc) fd.ps (aW st)
 ck:oh ⟨fd.ps++fd.loc,aW st,cf,gn⟩ fd.body (dt st)=true\/∀(X:Cx)(cx:Cl)(k:Nat),Cok X ⟨fd.ps++fd.loc,aW st,cf,gn⟩ cx k->X.env.scope=aW st->X.env.blockKind=.function->X.K=K->X.mg=mgv->FX X cf cx k->PSs X (dt st) (tS K (cW cx fd.body))
 bd:Binds K fdd fd.ps []
def zf(K:PySem.W.Frag)(mg:Str->Option ai)(cf:List (Str×List Str))(gn:List Str):List Fd->Prop
 |[]=>True
 |fd::r=>(∃st a fdd,Dn K mg cf gn fd st a fdd)/\zf K mg cf gn r
def nA{K:PySem.W.Frag}{mg:Str->Option ai}{cf:List (Str×List Str)}{gn:List Str}:∀{G:List Fd}{i:Nat}{fd:Fd},zf K mg cf gn G->G[i]?=some fd->∃st a fdd,Dn K mg cf gn fd st a fdd
 |[],_,_,_,e=>by simp at e
 |f::r,0,fd,h,e=>by
  cases e
  exact h.1
 |f::r,i+1,fd,h,e=>nA (i:=i) h.2 (by simpa using e)
def cfOf(G:List Fd):List (Str×List Str):=G.map λfd=>(fd.name,fd.ps)
structure Top(w:bD)(K:PySem.W.Frag)(mg:Str->Option ai)(G Gd:List Fd)(gl:List D)(gn:List Str):Prop where
 fns:zf K mg (cfOf Gd) gn Gd
 sub:∀(i:Nat)(fd:Fd),Gd[i]?=some fd->G[i]?=some fd
 xw:∀i g,(i,g)∈Xs.xs->∃fd st a fdd,Gd[i]?=some fd/\Dn K mg (cfOf Gd) gn fd st a fdd/\∃rs cls,G[g]?=some ⟨fd.name,fd.ps,fd.loc,gf rs,false⟩/\oi cls Xs.xs ⟨fd.ps++fd.loc,aW st,cfOf Gd,gn⟩ rs (dt st)=true/\∀n,n∈cls->∃C,mg n=some (.ref C)/\VE K C=true
 few:G.length<=sH
 blt:∀x,x∈jg->mg x=none
 glob:∀(g:Nat)(x:Str)(d:D),gn[g]?=some x->gl[g]?=some d->∃u v,mg x=some u/\RelV v u/\∀H F,Rel K H F d v
 gsome:∀(g:Nat)(x:Str),gn[g]?=some x->∃d,gl[g]?=some d
 gds:∀(n:Str)(l:List (Str×Int)),Tbs.gds.lookup n=some l->∃a,mg n=some (.ref a)/\GdK w K a l
 dfs:∀f∈Tbs.dfs,∃fd st a fdd,Gd[f]?=some fd/\Dn K mg (cfOf Gd) gn fd st a fdd/\Binds K fdd fd.ps [.none]
def pd{K:PySem.W.Frag}{H:Hp}{F:av->Prop}{ds:List D}{vs:List V}{N:List Str}(fd:FD F H)(tf:TF F)(tb:lG H)(r:aH K H F ds vs)(hl:vs.length<=N.length):Ok K ⟨H,λb=>F b/\∃o,H b=some o/\Mo o⟩ F (start N vs) H (init N.length ds):=by
 have hlen:=r.length
 have low:∀(i:Nat)(s:Sl),(init N.length ds)[i]?=some s->s=.no\/∃d,ds[i]?=some d/\s=.val d:=λi s e=>by
  unfold init at e;by_cases hi:i<ds.length
  .rw[cz (by simpa using hi),bJ,aO hi]at e;cases e;exact .inr ⟨_,aO hi,rfl⟩
  .rw[fk (by simp;omega),gb]at e;split at e
   .cases e;exact .inl rfl
   .cases e
 refine⟨Sim.refl H,fd,λb z=>z.1,λb z=>z.2,tf,tb,?_,λi s e=>?_,λi j s t a e1 _ o1=>?_⟩
 .unfold init L2.start;simp only[az,ak,cS];omega
 .rcases low i s e with rfl|⟨d,e1,rfl⟩
  .trivial
  .obtain⟨v,hv,rv⟩:=r.get e1;refine⟨v,?_,rv⟩;unfold L2.start;have hi:i<vs.length:=(aF.mp hv).1;rw[cz (by simpa using hi),bJ,hv];rfl
 .rcases low i _ e1 with z|⟨d,_,z⟩<;>(subst z;cases o1)
def AJ(rs:Rs)(np n:Nat)(cx:Cl)(ds:List D):Option D:=if ds.length=np then(match fN cx rs (init n ds)with
 |some (.inr (c,_))=>some (.str c)
 |_=>none)else none
def okX{P:aQ}{w:bD}{K:PySem.W.Frag}{mg:Str->Option ai}{base:bW}{x qual:Str}{st:bG}{f:av}{fd:eH}{N ps:List Str}{n:Nat}{cls:List Str}{xs:List (Nat×Nat)}{cf:List (Str×List Str)}{gn:List Str}{cx:Cl}{rs:Rs}(F:Fun K x qual st f fd)(S:kI N ps (aW st))(hps:ps.length<=N.length)
 (C:∀(A:bE)(outer:List Env)(s:au)(H:Hp)(E:XK),jO n (A.deeper (envOfC qual (aW st) s.heap.objs.size f fd.code))->Cok (kf (CXE P w) P w K mg base N qual (aW st) f fd.code A outer s H E).nox ⟨N,aW st,cf,gn⟩ cx n)
 (fx:∀(f g:Nat)(x:Str)(ps:List Str),(f,g)∈xs->cf[f]?=some (x,ps)->∃a fd,mg x=some (.ref a)/\PySem.W.keepIn K (.ref a)=true/\Binds K fd ps []/\gD P w K mg base (CXE P w) n a fd ps (spX K mg (cx.call g)))
 (hcl:∀n,n∈cls->∃C,mg n=some (.ref C)/\VE K C=true)
 (ck:oi cls xs ⟨N,aW st,cf,gn⟩ rs (dt st)=true):gD P w K mg base (CXE P w) (n+1) f fd ps (spX K mg (AJ rs ps.length N.length cx)):=by
 obtain⟨oc,od,dV,kV,doc,pm,an,cdv,ct,osl,rfl,lk,hcd⟩:=F.ex;refine Iy lk hcd S (λvs H Q E h=>?_) λA outer s H vs Q E hr hsp=>?_
 .obtain⟨F,ds,c,u,_,_,_,r,e,_⟩:=h;unfold AJ at e;split at e
  .rename_i hl;rw[r.length];exact hl
  .cases e
 .obtain⟨F,ds,c,u,hfd,htf,tb,r,e,hm,q⟩:=hsp;unfold AJ at e;split at e
  .rename_i hl
   have hblk:(kf (CXE P w) P w K mg base N qual (aW st) f cdv A outer s H E).env.blockKind=.function:=by
    unfold Env.blockKind;show(if(aW st).kind.isAnnotationScope then vP else(aW st).kind)=_;rw[S.kind];rfl
   refine⟨_,pj (W:=λ_=>E) (C A outer s H E hr) rfl hblk Ij ⟨rfl,rfl,rfl⟩ (λ_=>MA) (λ_=>PassesOwn.leaving) fx hcl rs _ ck,?_⟩
   cases ev:fN cx rs (init N.length ds)with
   |none=>rw[ev]at e;cases e
   |some o =>
    rw[ev]at e
    cases o with
    |inl o=>cases e
    |inr p =>
     obtain⟨c',δ'⟩:=p;cases e;exact⟨_,F,_,_,pd hfd htf tb r (by rw[r.length,hl];exact hps),ev,λσ' H' F' st ok'=>⟨u,hm,q H' ok'.same ok'.tabs⟩⟩
  .cases e
def grow{K:PySem.W.Frag}{H H':Hp}{F F':av->Prop}{σ:L2.St}{δ:Loc}(hfd:FD F H)(ok:Ok K ⟨H,λb=>F b/\∃o,H b=some o/\Mo o⟩ F' σ H' δ)(b:av)(z:F b):F' b:=by
 obtain⟨o,e,m|⟨⟨ps,rfl⟩,t,ht,eb⟩⟩:=hfd b z
 .exact ok.rf b ⟨z,o,e,m⟩
 .rw[<- eb];exact ok.tf t ht
def okC{P:aQ}{w:bD}{K:PySem.W.Frag}{mg:Str->Option ai}{base:bW}{x qual:Str}{st:bG}{f:av}{fd:eH}{N ps:List Str}{k:Nat}{sp:Sp}(F:Fun K x qual st f fd)(S:kI N ps (aW st))(len:∀vs H Q E,sp vs H Q E->vs.length=ps.length)
 (hbody:∀(A:bE)(outer:List Env)(s:au)(H:Hp)(vs:List V)(Q:VK)(E:XK),jO k (A.deeper (envOfC qual (aW st) s.heap.objs.size f fd.code))->sp vs H Q E ->
   ∃t,PSs (kf CX0 P w K mg base N qual (aW st) f fd.code A outer s H E).nox (dt st) t/\t {nx:=λ_ H'=>Q .non H',rt:=Q} (L2.start N vs) H):gD P w K mg base CX0 (k+1) f fd ps sp:=by
 obtain⟨oc,od,dV,kV,doc,pm,an,cdv,ct,osl,rfl,lk,hcd⟩:=F.ex;refine Iy lk hcd S len λA outer s H vs Q E hr hsp=>?_;obtain⟨t,h,q⟩:=hbody A outer s H vs Q E hr hsp;exact⟨t,h.nox,q⟩
section
variable{P:aQ}{w:bD}{K:PySem.W.Frag}{mg:Str->Option ai}{base:bW}{G Gd:List Fd}{gl:List D}{gn:List Str}
def BM(mg:Str->Option ai)(base:bW):Prop:=∃bm ob,mg "__builtins__"=some (.ref bm)/\bm≠builtinsNs/\base.get? bm=some ob/\ob.cls=.type "module"/\ob.dict=some builtinsNs/\ob.data=.plain
def sr{n i:Nat}{fd:Fd}(e:G[i]?=some fd){ds:List D}{d:D}(h:run G gl (n+1) i ds=some d):ds.length=fd.ps.length/\∃δ,entry fd.hf (fd.ps++fd.loc).length ds=some δ/\outD (cW ⟨run G gl n,gl,hfs G⟩ fd.body δ)=some d:=by
 unfold run at h;rw[e]at h;dsimp only at h;split at h
 .cases q:entry fd.hf (fd.ps++fd.loc).length ds with
  |none=>rw[q]at h;cases h
  |some δ=>rw[q]at h;exact⟨‹_›,δ,rfl,h⟩
 .cases h
def yz{n i:Nat}{fd:Fd}(few:G.length<=sH)(e:G[i]?=some fd){ds:List D}{d:D}(h:run G gl (n+1) (i+sH) ds=some d):ds.length=fd.ps.length/\∃δ,entry fd.hf (fd.ps++fd.loc).length ds=some δ/\Ki (cW ⟨run G gl n,gl,hfs G⟩ fd.body δ)=some d:=by
 unfold run at h;rw[gE (by omega)]at h;dsimp only at h;rw[Nat.add_sub_cancel,e]at h;dsimp only at h;split at h
 .cases q:entry fd.hf (fd.ps++fd.loc).length ds with
  |none=>rw[q]at h;cases h
  |some δ=>rw[q]at h;exact⟨(‹_/\_›).2,δ,rfl,h⟩
 .cases h
def Ma{G:List Fd}{gl:List D}{n g:Nat}{nm:Str}{ps loc:List Str}{rs:Rs}(e:G[g]?=some ⟨nm,ps,loc,gf rs,false⟩){ds:List D}{c:Str}(h:run G gl (n+1) g ds=some (.str c)):AJ rs ps.length (ps++loc).length ⟨run G gl n,gl,hfs G⟩ ds=some (.str c):=by
 obtain⟨hl,δ,e1,h2⟩:=sr e h;cases e1;unfold AJ;rw[if_pos hl];unfold gf at h2;simp only[cW,evS]at h2
 cases q:fN ⟨run G gl n,gl,hfs G⟩ rs (init (ps++loc).length ds)with
 |none=>rw[q]at h2;cases h2
 |some o =>
  rw[q]at h2
  cases o with
  |inl o=>cases h2
  |inr p=>cases h2;rfl
def Lg{P:aQ}{w:bD}{K:PySem.W.Frag}{mg:Str->Option ai}{base:bW}{n:Nat}{a:av}{fd:eH}{ps:List Str}{f f':List D->Option D}(F:gD P w K mg base (CXE P w) n a fd ps (spX K mg f))(h:∀ds c,f' ds=some (.str c)->f ds=some (.str c)):gD P w K mg base (CXE P w) n a fd ps (spX K mg f'):=by
 have im:∀vs H Q E,spX K mg f' vs H Q E->spX K mg f vs H Q E:=λvs H Q E⟨F,ds,c,u,a1,a2,a3,a4,e,a5⟩=>⟨F,ds,c,u,a1,a2,a3,a4,h _ _ e,a5⟩;exact⟨λvs H Q E q=>F.len vs H Q E (im vs H Q E q),λA outer s H args us vs Q E h1 h2 h3 h4 q=>F.run A outer s H args us vs Q E h1 h2 h3 h4 (im vs H Q E q)⟩
def qX{H:Hp}{F:av->Prop}{ds:List D}{vs:List V}(r:aH K H F ds vs){k:Nat}{cs:List D}(e:ds.getLast?=some (.fn k cs)):False:=by
 rw[fE]at e;obtain⟨v,_,rv⟩:=r.get e;unfold Rel at rv;exact rv
def uT{n f:Nat}{ds:List D}(z:n=0):run G gl n f ds=none:=by
 subst z;rfl
def Ej(T:Top w K mg G Gd gl gn)(hK:K.In base)(hB:BM mg base):∀n:Nat,(∀(i:Nat)(fd:Fd)(st:bG)(a:av)(fdd:eH),Gd[i]?=some fd->Dn K mg (cfOf Gd) gn fd st a fdd ->
 gD P w K mg base CX0 n a fdd fd.ps (spF K (run G gl n i))/\gD P w K mg base CX0 n a fdd fd.ps (spO K (run G gl n (i+sH))))/\∀(i g:Nat)(x:Str)(ps:List Str),(i,g)∈Xs.xs->(cfOf Gd)[i]?=some (x,ps)->∃a fd,mg x=some (.ref a)/\PySem.W.keepIn K (.ref a)=true/\Binds K fd ps []/\gD P w K mg base (CXE P w) n a fd ps (spX K mg (run G gl n g))
 |0=>by
  have z:∀i ds d,run G gl 0 i ds≠some d:=λi ds d h=>by unfold run at h;cases h
  refine⟨λi fd st a fdd e _=>⟨⟨λvs H Q E h=>?_,λA outer s H args us vs Q E _ _ _ _ h=>?_⟩,⟨λvs H Q E h=>?_,λA outer s H args us vs Q E _ _ _ _ h=>?_⟩⟩,λi g x ps hx hc=>?_⟩
  .obtain⟨F,ds,d,_,_,_,_,h1,_⟩:=h;exact(z _ _ _ h1).elim
  .obtain⟨F,ds,d,_,_,_,_,h1,_⟩:=h;exact(z _ _ _ h1).elim
  .obtain⟨F,ds,d,_,_,_,_,h1,_⟩:=h;exact(z _ _ _ h1).elim
  .obtain⟨F,ds,d,_,_,_,_,h1,_⟩:=h;exact(z _ _ _ h1).elim
  .obtain⟨fd,st,a,fdd,eg,Dd,rs,cls,e1,ck,hcl⟩:=T.xw i g hx;have hc':(Gd.map λfd=>(fd.name,fd.ps))[i]?=some (x,ps):=hc;rw[bJ,eg]at hc';cases hc';refine⟨a,fdd,Dd.mg,Dd.fn.kp,Dd.bd,⟨λvs H Q E h=>?_,λA outer s H args us vs Q E _ _ _ _ h=>?_⟩⟩
   .obtain⟨F,ds,c,u,_,_,_,_,h1,_⟩:=h;exact(z _ _ _ h1).elim
   .obtain⟨F,ds,c,u,_,_,_,_,h1,_⟩:=h;exact(z _ _ _ h1).elim
 |n+1=>by
  obtain⟨ih,ix⟩:=Ej T hK hB n
  have fns:∀(f:Nat)(x:Str)(ps:List Str),(cfOf Gd)[f]?=some (x,ps)->∃gd st a fdd,gd.name=x/\gd.ps=ps/\Gd[f]?=some gd/\Dn K mg (cfOf Gd) gn gd st a fdd:=λf x ps hf=>by
   have hf':(Gd.map λfd=>(fd.name,fd.ps))[f]?=some (x,ps):=hf;rw[bJ,aj]at hf';obtain⟨gd,eg,ep⟩:=hf';cases ep;obtain⟨st',a',fdd',D'⟩:=nA T.fns eg;exact⟨gd,st',a',fdd',rfl,rfl,eg,D'⟩
  have fn1:∀(f:Nat)(x:Str)(ps:List Str),(cfOf Gd)[f]?=some (x,ps)->∃a fd,mg x=some (.ref a)/\PySem.W.keepIn K (.ref a)=true/\Binds K fd ps []/\gD P w K mg base CX0 n a fd ps (spF K (run G gl n f)):=λf x ps hf=>by
   obtain⟨gd,st,a,fdd,rfl,rfl,eg,D'⟩:=fns f x ps hf;exact⟨a,fdd,D'.mg,D'.fn.kp,D'.bd,(ih f gd st a fdd eg D').1⟩
  have fn3:∀(f:Nat)(x:Str)(ps:List Str),(cfOf Gd)[f]?=some (x,ps)->∃a fd,mg x=some (.ref a)/\PySem.W.keepIn K (.ref a)=true/\Binds K fd ps []/\gD P w K mg base CX0 n a fd ps (spO K (run G gl n (f+sH))):=λf x ps hf=>by
   obtain⟨gd,st,a,fdd,rfl,rfl,eg,D'⟩:=fns f x ps hf;exact⟨a,fdd,D'.mg,D'.fn.kp,D'.bd,(ih f gd st a fdd eg D').2⟩
  have fnd:∀(f:Nat)(x:Str)(ps:List Str),(cfOf Gd)[f]?=some (x,ps)->f∈Tbs.dfs->∃a fd,mg x=some (.ref a)/\PySem.W.keepIn K (.ref a)=true/\Binds K fd ps [.none]/\gD P w K mg base CX0 n a fd ps (spF K (run G gl n f)):=λf x ps hf hd=>by
   obtain⟨gd,st,a,fdd,eg,D',bd⟩:=T.dfs f hd;have hf':(Gd.map λfd=>(fd.name,fd.ps))[f]?=some (x,ps):=hf;rw[bJ,eg]at hf';cases hf';exact⟨a,fdd,D'.mg,D'.fn.kp,bd,(ih f gd st a fdd eg D').1⟩
  refine⟨λi fd st a fdd e Dd=>?_,λi g x ps hx hc=>?_⟩
  .have eG:=T.sub i fd e
   have C:∀(A:bE)(outer:List Env)(s:au)(H:Hp)(E:XK),jO n (A.deeper (envOfC fd.name (aW st) s.heap.objs.size a fdd.code)) ->
    Cok (kf CX0 P w K mg base (fd.ps++fd.loc) fd.name (aW st) a fdd.code A outer s H E).nox ⟨fd.ps++fd.loc,aW st,cfOf Gd,gn⟩ ⟨run G gl n,gl,hfs G⟩ n:=λA outer s H E hr =>
    ⟨rfl,Dd.sc.nd,λx hx=>hx,λx hx=>hx,λx hx=>⟨hx,.inl rfl⟩,λx hx=>hx,rfl,rfl,hr,fn1,fn3,fnd,T.blt,T.glob,T.gsome,T.gds,λz f ds=>uT z⟩
   have B:∀(A:bE)(outer:List Env)(s:au)(H:Hp)(E:XK),jO n (A.deeper (envOfC fd.name (aW st) s.heap.objs.size a fdd.code)) ->
    PSs (kf CX0 P w K mg base (fd.ps++fd.loc) fd.name (aW st) a fdd.code A outer s H E).nox (dt st) (tS K (cW ⟨run G gl n,gl,hfs G⟩ fd.body)):=λA outer s H E hr=>by
    have hblk:(kf CX0 P w K mg base (fd.ps++fd.loc) fd.name (aW st) a fdd.code A outer s H E).nox.env.blockKind=.function:=by
     unfold Env.blockKind;show(if(aW st).kind.isAnnotationScope then vP else(aW st).kind)=_;rw[Dd.sc.kind];rfl
    rcases Dd.ck with ck|oq
    .exact kR (cx:=⟨run G gl n,gl,hfs G⟩) (C A outer s H E hr) rfl hblk fd.body (dt st) ck
    .exact oq _ _ n (C A outer s H E hr) rfl hblk rfl rfl ⟨⟨rfl,rfl,rfl⟩,ix⟩
   have fin:∀{F:av->Prop}{H:Hp}{σ:L2.St}{δ:Loc}{d:D}{Q:VK}{E:XK}(hfd:FD F H)(htf:TF F)(ok:Ok K ⟨H,λb=>F b/\∃o,H b=some o/\Mo o⟩ F σ H δ)(h2:outD (cW ⟨run G gl n,gl,hfs G⟩ fd.body δ)=some d)(q:∀v H',Sim H H'->lG H'->Rel K H' F d v->Q v H'),
    tS K (cW ⟨run G gl n,gl,hfs G⟩ fd.body) {nx:=λ_ H'=>Q .non H',rt:=Q} σ H:=λ{F H σ δ d Q E}hfd htf ok h2 q=>by
    cases eo:cW ⟨run G gl n,gl,hfs G⟩ fd.body δ with
    |none=>rw[eo]at h2;cases h2
    |some o =>
     rw[eo]at h2;refine⟨⟨H,λb=>F b/\∃o,H b=some o/\Mo o⟩,F,_,o,ok,eo,?_⟩
     cases o with
     |nx δ =>
      cases h2
      exact λσ' H' F' st' ok'=>q .non H' ok'.same ok'.tabs yh
     |rt d' δ =>
      cases h2;refine λv σ' H' F' st' ok' r'=>q v H' ok'.same ok'.tabs (Rel.step (G:=g0) ok'.fd ⟨λ_ _ _ e _=>e,λb z=>?_,λ_ _ r _ _=>r.elim,λ_ ps e=>⟨ps,e⟩⟩ _ v r')
      exact .inl (grow hfd ok' b z)
     |ro ds' δ =>
      cases h2;refine λa xs σ' H' F' st' ok' f1 f2 hd=>q _ H' ok'.same ok'.tabs ?_;exact Hand.rel ok'.fd (grow hfd ok') (vj hfd f2.1) hd
   have fiO:∀{F:av->Prop}{H:Hp}{σ:L2.St}{δ:Loc}{zs:D}{Q:VK}(hfd:FD F H)(htf:TF F)(ok:Ok K ⟨H,λb=>F b/\∃o,H b=some o/\Mo o⟩ F σ H δ)(h2:Ki (cW ⟨run G gl n,gl,hfs G⟩ fd.body δ)=some zs)(q:∀a v H',Sim H H'->lG H'->H a=none->Hand K H' (λb=>F b\/b=a) a zs v->Q v H'),
    tS K (cW ⟨run G gl n,gl,hfs G⟩ fd.body) {nx:=λ_ H'=>Q .non H',rt:=Q} σ H:=λ{F H σ δ zs Q}hfd htf ok h2 q=>by
    cases eo:cW ⟨run G gl n,gl,hfs G⟩ fd.body δ with
    |none=>rw[eo]at h2;cases h2
    |some o =>
     rw[eo]at h2;refine⟨⟨H,λb=>F b/\∃o,H b=some o/\Mo o⟩,F,_,o,ok,eo,?_⟩
     cases o with
     |ro ds' δ =>
      cases h2;refine λa xs σ' H' F' st' ok' f1 f2 hd=>q a xs H' ok'.same ok'.tabs f2.1 ?_
      have gr:∀b,(F b\/b=a)->F' b:=λb z=>by
       rcases z with z|z
       .exact grow hfd ok' b z
       .rw[z];exact f1
      exact hd.less ok'.fd gr
     |_=>cases h2
   refine⟨okC Dd.fn Dd.sc (λvs H Q E h=>?_) λA outer s H vs Q E hr h=>?_,okC Dd.fn Dd.sc (λvs H Q E h=>?_) λA outer s H vs Q E hr h=>?_⟩
   .obtain⟨F,ds,d,_,_,_,r,h1,_⟩:=h;rw[r.length,(sr eG h1).1]
   .obtain⟨F,ds,d,hfd,htf,htb,r,h1,q⟩:=h;obtain⟨hl,δ,ed,h2⟩:=sr eG h1;have hlen:=r.length;refine⟨_,B A outer s H E hr,?_⟩;unfold entry at ed;split at ed
    .cases ed;exact fin (E:=E) hfd htf (pd hfd htf htb r (by rw[hlen,hl,az];omega)) h2 q
    .split at ed
     .rename_i eq;exact(qX r eq).elim
     .cases ed
   .obtain⟨F,ds,zs,_,_,_,r,h1,_⟩:=h;rw[r.length,(yz T.few eG h1).1]
   .obtain⟨F,ds,zs,hfd,htf,htb,r,h1,q⟩:=h;obtain⟨hl,δ,ed,h2⟩:=yz T.few eG h1;have hlen:=r.length;refine⟨_,B A outer s H E hr,?_⟩;unfold entry at ed;split at ed
    .cases ed;exact fiO hfd htf (pd hfd htf htb r (by rw[hlen,hl,az];omega)) h2 q
    .split at ed
     .rename_i eq;exact(qX r eq).elim
     .cases ed
  .obtain⟨fd,st,a,fdd,eg,Dd,rs,cls,e1,ck,hcl⟩:=T.xw i g hx;have hc':(Gd.map λfd=>(fd.name,fd.ps))[i]?=some (x,ps):=hc;rw[bJ,eg]at hc';cases hc';exact⟨a,fdd,Dd.mg,Dd.fn.kp,Dd.bd,Lg (okX (cx:=⟨run G gl n,gl,hfs G⟩) Dd.fn Dd.sc (by rw[az];omega) (λA outer s H E hr=>⟨rfl,Dd.sc.nd,λx hx=>hx,λx hx=>hx,λx hx=>⟨hx,.inl rfl⟩,λx hx=>hx,rfl,rfl,hr,fn1,fn3,fnd,T.blt,T.glob,T.gsome,T.gds,λz f ds=>uT z⟩) ix hcl ck) λds c h=>Ma e1 h⟩
end
end PP
end
section
namespace PP
open PySem L2 PyProof.Rows
variable[Tbs][Xs]
def hS(a:av)(o:Option HO):Hp:=λb=>if b=a/\o.isSome=true then o else if b∈Tbs.ts.map (·.1)then some (.tbl #[])else none
def sV(e:hS a o b=some u):(b=a/\o=some u)\/(b∈Tbs.ts.map (·.1)/\u=.tbl #[]):=by
 unfold hS at e;split at e
 .rename_i h;exact .inl ⟨h.1,e⟩
 .split at e
  .cases e;exact .inr ⟨‹_›,rfl⟩
  .cases e
def GU{P:aQ}{w:bD}{K:PySem.W.Frag}{mg mb:Str->Option ai}{fa a:av}{fd:eH}{x:Str}{f:List D->Option D}{s₁:au}{vs:List ai}{ns:List Int}
 (KX:K.In s₁.heap)(hns:s₁.heap.Ns mainGlobals mg)(hb:s₁.heap.Ns builtinsNs mb)(hbb:∀x:Str,x≠"__name__"->mb x=bootBuiltins x)(hlim:s₁.heap.NoLimit)(hg:s₁.gens=#[])(hbm:BM mg s₁.heap)
 (ha:s₁.heap.get? a=some {cls:=.type "list",data:=.seq vs.toArray})(hi:ED vs ns)(hl:ns.length<=sizeLine)(hr:jO 200 callerA)
 (ht:∀t∈Tbs.ts,s₁.heap.get? t.1=some (PySem.W.tabObj #[])/\K.lookup t.1=none/\isCodeTable s₁.heap t.1)
 (F:∀base:bW,K.In base->BM mg base->gD P w K mg base CX0 200 fa fd [x] (spF K f))(hbind:Binds K fd [x] [])
 (hf:f [.lst (ns.map .int)]=some (.bl true)) :
 codeAny (model P w) callerA (.call (.ref fa) ⟨[.ref a],[]⟩) (λr s'=>r=.ok (.ret (.bool true))/\OldK s₁.heap s'.heap/\s'.os=s₁.os/\jU s'.gens) s₁:=by
 have rv:=qH hi;have lenV:=hi.length
 have htm:∀b,b∈Tbs.ts.map (·.1)->s₁.heap.get? b=some (PySem.W.tabObj #[])/\K.lookup b=none/\isCodeTable s₁.heap b:=λb hb=>by
  obtain⟨t,h1,h2⟩:=cG.mp hb;rw[<- h2];exact ht t h1
 have aT:a∉Tbs.ts.map (·.1):=λz=>by
  have:=(htm a z).1;rw[ha]at this;cases this
 have core:∀o:Option HO,(∀u,o=some u->∃xs,u=.frz {cls:=.type "list",data:=.seq vs.toArray} (.lst xs))->HOk P w (hS a o) s₁.heap->(o≠none->K.lookup a=none)->Rel K (hS a o) (λb=>b∈Tbs.ts.map (·.1)) (.lst (ns.map .int)) (.ref a) ->
  codeAny (model P w) callerA (.call (.ref fa) ⟨[.ref a],[]⟩) (λr s'=>r=.ok (.ret (.bool true))/\OldK s₁.heap s'.heap/\s'.os=s₁.os/\jU s'.gens) s₁:=by
  intro o hO hok hK hR;have base_of:∀{b:av}{x:Obj},s₁.heap.get? b=some x->hS a o b=none->(qo s₁.heap (hS a o)).get? b=some x:=λe n=>DD e n
  have noA:∀{b:av}{x:Obj},s₁.heap.get? b=some x->(∀its n,x.data≠.seq its n)->(∀vs,x.data≠.fields vs)->hS a o b=none:=λ{b x}e d1 d2=>by
   cases q:hS a o b with
   |none=>rfl
   |some u =>
    rcases sV q with⟨rfl,_⟩|⟨z,_⟩
    .rw[ha]at e;cases e;exact absurd rfl (d1 _ _)
    .rw[(htm b z).1]at e;cases e;exact absurd rfl (d2 _)
  have nsK:∀{b:av}{m:Str->Option ai},s₁.heap.Ns b m->(qo s₁.heap (hS a o)).Ns b m:=λ{b m}⟨x,es,ep,e,d,r⟩=>⟨x,es,ep,base_of e (noA e (λ_ _ z=>by rw[d]at z;cases z) λ_ z=>by rw[d]at z;cases z),d,r⟩
  have hKb:K.In (qo s₁.heap (hS a o)):=λb x e=>base_of (KX b x e) (by
   cases q:hS a o b with
   |none=>rfl
   |some u =>
    rcases sV q with⟨rfl,z⟩|⟨z,_⟩
    .rw[hK (by rw[z];simp)]at e;cases e
    .rw[(htm b z).2.1]at e;cases e)
  have hM:Mod K mg (qo s₁.heap (hS a o)):=⟨hKb,nsK hns,⟨mb,nsK hb,hbb⟩,let⟨mc,h1,h2⟩:=hlim;⟨mc,nsK h1,h2⟩⟩
  have hB:BM mg (qo s₁.heap (hS a o)):=by
   obtain⟨bm,ob,b1,b2,b3,b4,b5,b6⟩:=hbm;exact⟨bm,ob,b1,b2,base_of b3 (noA b3 (λ_ _ z=>by rw[b6]at z;cases z) λ_ z=>by rw[b6]at z;cases z),b4,b5,b6⟩
  have e0:HG P w K mg (qo s₁.heap (hS a o)) callerA [] s₁ (hS a o):=⟨rfl,hM,λb x e=>GH e,kn (zW _ _),trivial,λb hb=>absurd (show b∈([]:List av)from hb) ↥0,hok,.of_eq hg⟩
  have atT:∀b,b∈Tbs.ts.map (·.1)->hS a o b=some (.tbl #[]):=λb z=>by
   unfold hS;rw[if_neg (λy=>aT (by rw[<- y.1];exact z)),if_pos z]
  have sp:spF K f [.ref a] (hS a o) (λv _=>v=.bl true) E0:=⟨λb=>b∈Tbs.ts.map (·.1),[.lst (ns.map .int)],.bl true,λb z=>by
   obtain⟨t,h1,h2⟩:=cG.mp z;exact⟨_,atT b z,.inr ⟨⟨#[],rfl⟩,t,h1,h2⟩⟩,λt h=>cG.mpr ⟨t,h,rfl⟩,λt h=>⟨#[],atT _ (cG.mpr ⟨t,h,rfl⟩),trivial,λpos cv e=>by cases e⟩,aH.one hR,hf,λv H' _ _ r=>by unfold Rel at r;exact r⟩
  refine qv ((F _ hKb hB).run callerA [] s₁ (hS a o) ⟨[.ref a],[]⟩ [.ref a] [.ref a] _ _ hr e0 (hbind s₁ [.ref a] KX rfl) (.cons rfl .nil) sp) λr s' h=>?_
  cases r with
  |error e=>exact bz h
  |ok fl =>
   cases fl with
   |next=>exact bz h
   |brk=>exact bz h
   |cont=>exact bz h
   |ret u =>
    obtain⟨v,H',os,bare,un,hok',r',q⟩:=h;have q':v=.bl true:=q;subst q';obtain rfl:u=qw true:=r';refine⟨rfl,⟨λb x e=>?_,λb x e=>un.there b x e ↥0⟩,os,bare⟩
    cases q:hS a o b with
    |none=>exact .inl (un.keep b x e q (by intro z;exact absurd (show b∈([]:List av)from z) ↥0) ↥0)
    |some u =>
     rcases sV q with⟨_,z⟩|⟨z,rfl⟩
     .obtain⟨xs,rfl⟩:=hO u z;have z2:=un.frzs b _ _ q;obtain⟨e1,_⟩:=hok b _ q;obtain⟨e2,_⟩:=hok' b _ z2;rw[e]at e1;cases e1;exact .inl e2
     .obtain⟨more,y⟩:=un.tbls b _ q;have e2:s'.heap.get? b=some {cls:=.none,data:=.fields (#[]++more)}:=hok' b _ y;have e1:=(htm b z).1;rw[e]at e1;cases e1;exact .inr (.inl ⟨(htm b z).2.2,rfl,#[],more,rfl,e2⟩)
 have rl:∀(H:Hp)(F:av->Prop)(ms:List Int),aH K H F (ms.map .int) (ms.map V.int):=by
  intro H F ms
  induction ms with
  |nil=>exact aH.nil
  |cons m ms ih=>exact aH.cons (cC m) ih
 have hok1:∀o:Option HO,(∀u,o=some u->eL P w (hS a o) s₁.heap a u)->HOk P w (hS a o) s₁.heap:=λo ho b u e=>by
  rcases sV e with⟨rfl,z⟩|⟨z,rfl⟩
  .exact ho u z
  .exact(htm b z).1
 cases hk:K.lookup a with
 |some x =>
  have e:=KX a x hk;rw[ha]at e;cases e;refine core none (λu z=>by cases z) (hok1 none λu z=>by cases z) (λz=>absurd rfl z) ?_;unfold Rel
  exact⟨a,ns.map V.int,rfl,.inr ⟨vs.toArray,_,hk,by rw[aB,lenV];exact hl,by simpa using rv⟩,rl _ _ ns⟩
 |none =>
  refine core (some (.frz {cls:=.type "list",data:=.seq vs.toArray} (.lst (ns.map V.int)))) (λu z=>⟨_,(bU z).symm⟩) (hok1 _ λu z=>?_) (λ_=>hk) ?_
  .cases z;exact⟨ha,by rw[ak];exact hl,vs,_,rv,ha⟩
  .unfold Rel;refine⟨a,ns.map V.int,rfl,.inl ⟨.inr ⟨{cls:=.type "list",data:=.seq vs.toArray},?_⟩,aT⟩,rl _ _ ns⟩;unfold hS;rw[if_pos ⟨rfl,rfl⟩]
def walk_run{l:PySem.W.OpenLaw}{q:aQ}{loose:List Str}{XP:(Str->Option ai)->bW->Prop}{YP:bD->bW->Prop}{d:DefRec}{K:Params->PySem.W.Frag}{G Gd:List Fd}{gl:List D}{gn:List Str}{i:Nat}{fd:Fd}{x:Str}
 (main:∀ns:List Int,ns.length<=63->run G gl 200 i [.lst (ns.map .int)]=some (.bl true))(hi:Gd[i]?=some fd)(hp:fd.ps=[x])
 (hn:l.most=some 63)(hdf:d.params.defaults=[])(hY:∀(w:bD)(h:bW),YP w h->(K w.params).In h/\∀t∈Tbs.ts,h.get? t.1=some (PySem.W.tabObj #[]))
 (hnm:fd.name=d.name)(F:∀(w:bD)(mg:Str->Option ai)(h:bW),(K w.params).In h->h.Ns mainGlobals mg->Top w (K w.params) mg G Gd gl gn/\∀t∈Tbs.ts,(K w.params).lookup t.1=none/\∃c,PySem.W.codeHdIn (K w.params) c t.1=true) :
 PySem.W.WalkO q loose XP YP l.row.toRowW d [] (λf vs=>PySem.call f vs):=by
 have hr:jO 200 callerA:=⟨rfl,⇑0,⇑0⟩;refine Att.attach_call hn hdf λw s₀ s₁ mg mb fa o pm cd doc a vs ns TT Y ho hd hcd hmg hobj hints hlen hg=>?_;obtain⟨KX,tabs⟩:=hY w _ Y;obtain⟨T,tc⟩:=F w mg _ KX TT.T.g;obtain⟨st,fa',fdd,Dd⟩:=nA T.fns hi
 obtain rfl:fa=fa':=by
  have e:=Dd.mg;rw[hnm,hmg]at e;cases e;rfl
 refine GU KX TT.T.g TT.T.b TT.T.builtins TT.T.nolimit hg TT.T.bmain hobj hints (aZ hlen ⇑0) hr (λt ht=>?_) (λbase hK hB=>?_) (hp▸Dd.bd) (main ns hlen)
 .obtain⟨h1,c,h2⟩:=tc t ht;exact⟨tabs t ht,h1,((PySem.W.codeHd_of_K KX h2).tab (tabs t ht)).isCodeTable⟩
 .have:=((Ej (P:=l.prog) (w:=w) (base:=base) T hK hB 200).1 i fd st fa fdd hi Dd).1;rw[hp]at this;exact this
section
def wZ(K:PySem.W.Frag)(x:Str):Bool:=match PySem.W.nsIn K mainGlobals x with
 |some none=>true
 |_=>false
def Hy{K:PySem.W.Frag}{h:bW}{mg:Str->Option ai}(X:K.In h)(G:h.Ns mainGlobals mg)(q:jg.all (wZ K)=true)(x:Str)(hx:x∈jg):mg x=none:=by
 have h:=bO.mp q x hx;unfold wZ at h;split at h
 .exact PySem.W.mg_none_of X G ‹_›
 .cases h
def sub_app{a b:List Fd}(i:Nat)(fd:Fd)(h:a[i]?=some fd):(a++b)[i]?=some fd:=by
 rw[cz (aF.mp h).1];exact h
end
end PP
end
section
namespace PP
open PySem L2
def uw:∀{ps:List Str}{us:List ai}{x:Str},us.length=ps.length->x∈ps->((ps.zip us).lookup x).isSome=true
 |p::ps,u::us,x,hl,hx=>by
  rw[mM,br];split
  .rfl
  .rename_i z;refine uw (lM hl) ((aA.mp hx).resolve_left λe=>?_);rw[e,beq_self_eq_true]at z
   cases z
 |[],_,x,hl,hx=>by cases hx
 |p::ps,[],x,hl,hx=>by cases hl
def uv:∀{ps:List Str}{us:List ai},us.length=ps.length->ps.Nodup->(ps.filterMap λn=>((ps.zip us).lookup n).map (n,·))=ps.zip us
 |[],us,hl,_=>by rfl
 |p::ps,[],hl,_=>by cases hl
 |p::ps,u::us,hl,nd=>by
  rw[ib]at nd;have ih:=uv (lM hl) nd.2;rw[mM,bw,br,beq_self_eq_true];dsimp only[fM];congr 1
  have h:∀l:List Str,p∉l->(l.filterMap λn=>((((p,u)::ps.zip us).lookup n).map (n,·)))=l.filterMap λn=>((ps.zip us).lookup n).map (n,·):=λl=>by
   induction l with
   |nil=>intro _;rfl
   |cons n l il =>
    intro hn;rw[aA,not_or]at hn;rw[bw,bw,il hn.2,br,show(n==p)=false from beq_eq_false_iff_ne.mpr λe=>hn.1 e.symm]
  exact(h ps nd.1).trans ih
def ifF{α:Type}{c:Prop}[Decidable c]{a b x:α}(h:¬c)(e:b=x):(if c then a else b)=x:=by rw[if_neg h];exact e
def xG{fd:eH}{ps:List Str}{us:List ai}(h1:fd.params.posonlyargs=[])(h2:fd.params.args.map (·.arg)=ps)(h3:fd.params.kwonlyargs=[])(h4:fd.params.vararg=none)(h5:fd.params.kwarg=none)(h6:fd.defaults=.none)(nd:ps.Nodup)(hl:us.length=ps.length):bindArgs fd ⟨us,[]⟩=pure (ps.zip us):=by
 have hm:((ps.take ps.length).filter λn=>((ps.zip us).lookup n).isNone)=[]:=by
  rw[gG,List.filter_eq_nil_iff];intro x hx;have:=uw hl hx
  cases e:(ps.zip us).lookup x with
  |none=>rw[e]at this;cases this
  |some v=>simp
 cases fd with
 |mk a b p c d e f df g =>
  cases p with
  |mk p1 p2 p3 p4 p5 p6 p7 =>
   cases h1;cases h3;cases h4;cases h5;cases h6;cases h2;have hl:us.length=(p2.map (·.arg)).length:=hl;refine ifF (α:=Sem _) (λz=>?_) ?_
   .have z:(decide (us.length>(p2.map (·.arg)).length)&&true)=true:=z;rw[hl,cV,decide_eq_true_eq]at z;exact cX _ z
   generalize hd:List.drop _ _=dd;obtain rfl:dd=[]:=hd.symm.trans List.drop_nil;refine ifF (α:=Sem _) (λz=>Bool.noConfusion ((congrArg (λl:List Str=>!l.isEmpty) hm).symm.trans z)) ?_;generalize hz:List.zip (List.drop _ _) ([]:List ai)=zz;obtain rfl:zz=[]:=hz.symm.trans List.zip_nil_right;have e:(p2.map Arg.arg++[]).filterMap (λn=>(((p2.map Arg.arg).zip us).lookup n).map (n,·))=(p2.map Arg.arg).zip us:=by rw[bt];exact uv hl nd
   exact congrArg (pure:_->Sem _) e
def okD(d:Fd)(a:ui)(s:dQ):Bool :=
 a.posonlyargs.isEmpty&&(a.kwonlyargs.isEmpty&&(a.vararg.isNone&&(a.kwarg.isNone&&(decide (a.args.map (·.arg)=d.ps)&&(decide (s.kind=.function)&&((!s.isCoroutine)&&((!s.isGenerator)&&(decide (d.ps++d.loc).Nodup&&(d.ps.all (λx=>decide (s.names.lookup x=some .local)||decide (s.names.lookup x=some .cell))&&s.names.all λy=>decide (y.2≠.free))))))))))
def wV{d:Fd}{st:bG}(h:okD d (fH st) (aW st)=true):kI (d.ps++d.loc) d.ps (aW st):=by
 simp only[okD,aa,bH,decide_eq_true_eq,bO,de]at h;obtain⟨_,_,_,_,_,k,c,g,nd,p,f⟩:=h;exact⟨k,c,g,nd,iM,p,f⟩
def wW{K:PySem.W.Frag}{d:Fd}{st:bG}{fd:eH}(e1:fd.params=fH st)(e2:fd.defaults=.none)(h:okD d (fH st) (aW st)=true):Binds K fd d.ps []:=by
 simp only[okD,aa,decide_eq_true_eq,List.isEmpty_iff,cP]at h;obtain⟨h1,h2,h3,h4,h5,_,_,_,nd,_⟩:=h;rw[<- e1]at h1 h2 h3 h4 h5;exact .all λus hl=>xG h1 h5 h2 h3 h4 e2 (EC.mp nd).1 hl
section
variable[Tbs][Xs]{K:PySem.W.Frag}{h:bW}{w:bD}{mg:Str->Option ai}{cf:List (Str×List Str)}{gn:List Str}{tp:Nat->bG}{G Gd:List Fd}{gl:List D}
inductive Hds(K:PySem.W.Frag)(mg:Str->Option ai)(cf:List (Str×List Str))(gn:List Str)(tp:Nat->bG):List Fd->List (String×Nat)->Prop
 |nil:Hds K mg cf gn tp [] []
 |own {d:Fd} {i:String×Nat} {r:List Fd} {is:List (String×Nat)} (e:∃st a fdd,Dn K mg cf gn d st a fdd) (t:Hds K mg cf gn tp r is):Hds K mg cf gn tp (d::r) (i::is)
 |cons {d:Fd} {x:String} {i:Nat} {f:av} {oc:ai} {od an:Option av} {osl:Array (Option ai)} {kV doc pm cdv ct:ai} {r:List Fd} {is:List (String×Nat)} (a:PySem.W.nsIn K mainGlobals (.ofString x)=some (some (.ref f))) (l:K.lookup f=some ⟨oc,od,.func (PySem.W.fnOf (.ofString x) (.ofString x) (fH (tp i)) (dt (tp i)) (aW (tp i)) .none kV doc pm an cdv ct),osl⟩)
  (c:PySem.W.codeIn K cdv (.ofString x)=true) (k:PySem.W.keepIn K (.ref f)=true) (z:(decide (d.name=.ofString x)&&(okD d (fH (tp i)) (aW (tp i))&&oh ⟨d.ps++d.loc,aW (tp i),cf,gn⟩ d.body (dt (tp i))))=true) (t:Hds K mg cf gn tp r is):Hds K mg cf gn tp (d::r) ((x,i)::is)
def Hb(X:K.In h)(N:h.Ns mainGlobals mg){l:List Fd}{is:List (String×Nat)}(H:Hds K mg cf gn tp l is):zf K mg cf gn l:=by
 induction H with
 |nil=>trivial
 |own e t ih=>exact⟨e,ih⟩
 |cons a l c k z t ih =>
  rw[aa,decide_eq_true_eq,aa]at z;obtain⟨z0,z1,z2⟩:=z;rw[<- z0]at a l c;have F:=xm l c k;exact⟨⟨_,_,_,F,PySem.W.mg_of X N a,wV z1,.inl z2,wW rfl rfl z1⟩,ih⟩
mutual
inductive InK(K:PySem.W.Frag):D->ai->Prop
 |str {x:Str} {t:Tok}:InK K (.str x) (.str x t)
 |int {x:Int} {t:Tok}:InK K (.int x) (.int x t)
 |tup {ds:List D} {a:av} {oD:Option av} {oS:Array (Option ai)} {n:Nat} {vs:Array ai} (l:K.lookup a=some ⟨.type "tuple",oD,.seq vs n,oS⟩) (q:InKs K ds vs.toList) (z:vs.size<=99):InK K (.tup ds) (.ref a)
inductive InKs(K:PySem.W.Frag):List D->List ai->Prop
 |nil:InKs K [] []
 |cons {d:D} {v:ai} {ds:List D} {vs:List ai} (e:InK K d v) (t:InKs K ds vs):InKs K (d::ds) (v::vs)
end
mutual
theorem InK.rel:∀{d:D}{u:ai},InK K d u->∃v,RelV v u/\∀H F,Rel K H F d v
 |_,_,.str=>⟨.str _,⟨_,rfl⟩,λH F=>eJ _⟩
 |_,_,.int=>⟨.int _,⟨_,rfl⟩,λH F=>cC _⟩
 |_,_,.tup l q z=>by
  obtain⟨vs,h1,h2⟩:=q.rel;refine⟨.ref _,rfl,λH F=>?_⟩;unfold Rel;exact⟨_,vs,rfl,.inr ⟨_,_,_,l,rfl,rfl,aZ z ⇑0,h1⟩,h2 H F⟩
theorem InKs.rel:∀{ds:List D}{us:List ai},InKs K ds us->∃vs,Vals vs us/\∀H F,aH K H F ds vs
 |_,_,.nil=>⟨[],.nil,λ_ _=>aH.nil⟩
 |_,_,.cons e t=>by
  obtain⟨v,h1,h2⟩:=e.rel;obtain⟨vs,h3,h4⟩:=t.rel;exact⟨v::vs,.cons h1 h3,λH F=>aH.cons (h2 H F) (h4 H F)⟩
end
inductive Gls(K:PySem.W.Frag):List Str->List D->Prop
 |nil:Gls K [] []
 |cons {x:Str} {d:D} {v:ai} {xs:List Str} {ds:List D} (a:PySem.W.nsIn K mainGlobals x=some (some v)) (e:InK K d v) (t:Gls K xs ds):Gls K (x::xs) (d::ds)
def yO(X:K.In h)(N:h.Ns mainGlobals mg)(H:Gls K gn gl):∀(g:Nat)(x:Str),gn[g]?=some x->∃d,gl[g]?=some d/\∃u v,mg x=some u/\RelV v u/\∀H F,Rel K H F d v:=by
 induction H with
 |nil=>intro g x e;cases g<;>cases e
 |cons a e t ih =>
  intro g x z
  cases g with
  |zero =>
   cases z;obtain⟨v,h1,h2⟩:=e.rel
   exact⟨_,rfl,_,v,PySem.W.mg_of X N a,h1,h2⟩
  |succ g=>exact ih g x z
def gd_mk{K:PySem.W.Frag}{h:bW}{w:bD}{mg:Str->Option ai}{n:Str}{l:List (Str×Int)}{a:av}(X:K.In h)(G:h.Ns mainGlobals mg)(e:PySem.W.nsIn K mainGlobals n=some (some (.ref a)))(t:PyProof.Rows.KTD.tabLook PyProof.Rows.KTD.flatLooks (λb=>K.lookup b) a (l.map λp=>(p.1,jL p.2))=true)(nd:(l.map (·.1)).Nodup)
 (q:PyProof.Rows.KTD.hashesOf (λb=>K.lookup b) a=l.map λp=>hashStr w p.1):∃a,mg n=some (.ref a)/\GdK w K a l:=⟨a,PySem.W.mg_of X G e,t,nd,q⟩
inductive Clss(K:PySem.W.Frag):List Str->Prop
 |nil:Clss K []
 |cons {x:Str} {C:av} {r:List Str} (a:PySem.W.nsIn K mainGlobals x=some (some (.ref C))) (v:VE K C=true) (t:Clss K r):Clss K (x::r)
def Clss.get(X:K.In h)(N:h.Ns mainGlobals mg){l:List Str}(H:Clss K l):∀n,n∈l->∃C,mg n=some (.ref C)/\VE K C=true:=by
 induction H with
 |nil=>intro n z;cases z
 |cons a v t ih =>
  intro n z;rcases aA.mp z with rfl|z
  .exact⟨_,PySem.W.mg_of X N a,v⟩
  .exact ih n z
inductive Us(K:PySem.W.Frag)(C:av)(up:List Str):List Str->Prop
 |nil:Us K C up []
 |cons {x:Str} {P:av} {r:List Str} (a:PySem.W.nsIn K mainGlobals x=some (some (.ref P))) (v:(VE K P&&subIn K C P==up.contains x)=true) (t:Us K C up r):Us K C up (x::r)
def Us.get(X:K.In h)(N:h.Ns mainGlobals mg){C:av}{up l:List Str}(H:Us K C up l):∀n,n∈l->∃P,mg n=some (.ref P)/\VE K P=true/\subIn K C P=up.contains n:=by
 induction H with
 |nil=>intro n z;cases z
 |cons a v t ih =>
  intro n z;rcases aA.mp z with rfl|z
  .rw[aa]at v;exact⟨_,PySem.W.mg_of X N a,v.1,eq_of_beq v.2⟩
  .exact ih n z
inductive Ups(K:PySem.W.Frag)(ps:List Str):List (Str×List Str)->Prop
 |nil:Ups K ps []
 |cons {x:Str} {C:av} {up:List Str} {r:List (Str×List Str)} (a:PySem.W.nsIn K mainGlobals x=some (some (.ref C))) (v:(VE K C&&pC K C)=true) (u:Us K C up ps) (t:Ups K ps r):Ups K ps ((x,up)::r)
def Ups.get(X:K.In h)(N:h.Ns mainGlobals mg){ps:List Str}{l:List (Str×List Str)}(H:Ups K ps l):∀Y:Cx,Y.K=K->Y.mg=mg->∀n up,l.lookup n=some up->∃C,Y.mg n=some (.ref C)/\Ao Y ps C up:=λY hK hM=>by
 subst hK hM
 induction H with
 |nil=>intro n up z;cases z
 |cons a v u t ih =>
  intro n up z;rw[br]at z;split at z
  .rename_i q;cases z;rw[eq_of_beq q];rw[aa]at v;exact⟨_,PySem.W.mg_of X N a,v.1,v.2,u.get X N⟩
  .exact ih n up z
def Xd(K:PySem.W.Frag)(mg:Str->Option ai)(cf:List (Str×List Str))(gn:List Str)(rs:Rs)(d:Fd):Prop:=∃st a fdd cls,Dn K mg cf gn d st a fdd/\oi cls Xs.xs ⟨d.ps++d.loc,aW st,cf,gn⟩ rs (dt st)=true/\∀n,n∈cls->∃C,mg n=some (.ref C)/\VE K C=true
def Xd.dn{rs:Rs}{d:Fd}(x:Xd K mg cf gn rs d):∃st a fdd,Dn K mg cf gn d st a fdd:=by
 obtain⟨st,a,fdd,_,h,_⟩:=x;exact⟨st,a,fdd,h⟩
section
variable{Q:Prop}{d:Fd}{x:String}{i:Nat}{f:av}{oc:ai}{od an:Option av}{osl:Array (Option ai)}{kV doc pm cdv ct:ai}
def xd_mk{rs:Rs}{cls:List Str}(X:K.In h)(N:h.Ns mainGlobals mg)(a:PySem.W.nsIn K mainGlobals (.ofString x)=some (some (.ref f)))(l:K.lookup f=some ⟨oc,od,.func (PySem.W.fnOf (.ofString x) (.ofString x) (fH (tp i)) (dt (tp i)) (aW (tp i)) .none kV doc pm an cdv ct),osl⟩)
 (c:PySem.W.codeIn K cdv (.ofString x)=true)(k:PySem.W.keepIn K (.ref f)=true)(z:(decide (d.name=.ofString x)&&(okD d (fH (tp i)) (aW (tp i))&&oi cls Xs.xs ⟨d.ps++d.loc,aW (tp i),cf,gn⟩ rs (dt (tp i))))=true)(hb:d.body=iB rs)(hc:∀n,n∈cls->∃C,mg n=some (.ref C)/\VE K C=true)(q:Xd K mg cf gn rs d->Q):Q:=by
 rw[aa,decide_eq_true_eq,aa]at z;obtain⟨z0,z1,z2⟩:=z;rw[<- z0]at a l c;have F:=xm l c k;exact q ⟨_,_,_,cls,⟨F,PySem.W.mg_of X N a,wV z1,.inr (λY cx k C hS hB hK hM fx=>by subst hK hM;rw[hb];exact NR C hS hB fx.1 fx.2 hc z2),wW rfl rfl z1⟩,z2,hc⟩
def kd_mk{rs:Rs}{ij jj:Nat}{post:Ss}{ks:Ks}{ls:List S}{ups:List (Str×List Str)}{ps:List Str}(X:K.In h)(N:h.Ns mainGlobals mg)(a:PySem.W.nsIn K mainGlobals (.ofString x)=some (some (.ref f)))(l:K.lookup f=some ⟨oc,od,.func (PySem.W.fnOf (.ofString x) (.ofString x) (fH (tp i)) (dt (tp i)) (aW (tp i)) .none kV doc pm an cdv ct),osl⟩)
 (c:PySem.W.codeIn K cdv (.ofString x)=true)(k:PySem.W.keepIn K (.ref f)=true)(z:(decide (d.name=.ofString x)&&(okD d (fH (tp i)) (aW (tp i))&&ckK ⟨d.ps++d.loc,aW (tp i),cf,gn⟩ Xs.xs ps ups rs ij jj post ks ls (dt (tp i))))=true)(hb:d.body=kS ups rs ij jj post ks ls)(hz:mg "ValueError"=none)(hps:∀n,n∈ps->∃C,mg n=some (.ref C)/\VE K C=true)
 (hup:∀Y:Cx,Y.K=K->Y.mg=mg->∀n up,ups.lookup n=some up->∃C,Y.mg n=some (.ref C)/\Ao Y ps C up)(q:(∃st a fdd,Dn K mg cf gn d st a fdd)->Q):Q:=by
 rw[aa,decide_eq_true_eq,aa]at z;obtain⟨z0,z1,z2⟩:=z;rw[<- z0]at a l c;have F:=xm l c k;exact q ⟨_,_,_,F,PySem.W.mg_of X N a,wV z1,.inr (λY cx k C hS hB hK hM fx=>by have hu:=hup Y hK hM;subst hK hM;rw[hb];exact Mx C hS hB hz fx.1 fx.2 hps hu ls _ z2),wW rfl rfl z1⟩
end
inductive Xws(K:PySem.W.Frag)(mg:Str->Option ai)(G Gd:List Fd)(gn:List Str):List (Nat×Nat)->Prop
 |nil:Xws K mg G Gd gn []
 |cons {i g:Nat} {d:Fd} {rs:Rs} {r:List (Nat×Nat)} (x:Xd K mg (cfOf Gd) gn rs d) (e:Gd[i]?=some d) (e2:G[g]?=some ⟨d.name,d.ps,d.loc,gf rs,false⟩) (t:Xws K mg G Gd gn r):Xws K mg G Gd gn ((i,g)::r)
def Xws.get{l:List (Nat×Nat)}(H:Xws K mg G Gd gn l){i g:Nat}:(i,g)∈l->∃fd st a fdd,Gd[i]?=some fd/\Dn K mg (cfOf Gd) gn fd st a fdd/\∃rs cls,G[g]?=some ⟨fd.name,fd.ps,fd.loc,gf rs,false⟩/\oi cls Xs.xs ⟨fd.ps++fd.loc,aW st,cfOf Gd,gn⟩ rs (dt st)=true/\∀n,n∈cls->∃C,mg n=some (.ref C)/\VE K C=true:=by
 induction H with
 |nil=>intro z;cases z
 |cons x e e2 t ih =>
  intro z;rcases aA.mp z with z|z
  .cases z;obtain⟨st,a,fdd,cls,h1,h2,h3⟩:=x;exact⟨_,st,a,fdd,e,h1,_,cls,e2,h2,h3⟩
  .exact ih z
def top_mk(X:K.In h)(N:h.Ns mainGlobals mg){is:List (String×Nat)}(H:Hds K mg (cfOf Gd) gn tp Gd is)(sub:∀(i:Nat)(fd:Fd),Gd[i]?=some fd->G[i]?=some fd)(xw:Xws K mg G Gd gn Xs.xs)(few:G.length<=sH)(hb:jg.all (wZ K)=true)(hg:Gls K gn gl)
 (gds:∀(n:Str)(l:List (Str×Int)),Tbs.gds.lookup n=some l->∃a,mg n=some (.ref a)/\GdK w K a l)(dfs:∀f∈Tbs.dfs,∃fd st a fdd,Gd[f]?=some fd/\Dn K mg (cfOf Gd) gn fd st a fdd/\Binds K fdd fd.ps [.none]):Top w K mg G Gd gl gn :=
 ⟨Hb X N H,sub,λi g h=>xw.get h,few,Hy X N hb,λg x d h1 h2=>by
   obtain⟨d',e,r⟩:=yO X N hg g x h1;rw[h2]at e;cases e;exact r,λg x h1=>by
   obtain⟨d',e,r⟩:=yO X N hg g x h1;exact⟨d',e⟩,gds,dfs⟩
end
end PP
end
section
namespace PP
open PySem
section
variable{cx:Cl}{δ:Loc}
def wR(cx:Cl)(r:R)(δ:Loc)(Q:OR->Prop):Prop:=∃o,evR cx r δ=some o/\Q o
def wRs(cx:Cl)(rs:Rs)(δ:Loc)(Q:OR->Prop):Prop:=∃o,fN cx rs δ=some o/\Q o
def jI(cx:Cl)(rs:Rs)(Q:OR->Prop):OR->Prop
 |.inl (.nx δ)=>wRs cx rs δ Q
 |o=>Q o
def lS{Q:OR->Prop}:wRs cx .nil δ Q↔Q (.inl (.nx δ)):=⟨λ⟨_,e,q⟩=>by simp only[fN]at e;cases e;exact q,λq=>⟨_,by simp only[fN],q⟩⟩
def cO{r:R}{rs:Rs}{Q:OR->Prop}:wRs cx (.cons r rs) δ Q↔wR cx r δ (jI cx rs Q):=by
 unfold wRs wR;simp only[fN]
 cases evR cx r δ with
 |none=>exact⟨λ⟨_,e,_⟩=>(by cases e),λ⟨_,e,_⟩=>by cases e⟩
 |some o =>
  constructor
  .rintro⟨o',e,q⟩;refine⟨o,rfl,?_⟩;rcases o with(δ1|_|_|_|_)|_<;>first|exact⟨o',e,q⟩|(cases e;exact q)
  .rintro⟨o',e,q⟩;cases e;rcases o with(δ1|_|_|_|_)|_<;>first|exact q|exact⟨_,rfl,q⟩
def HY{s:S}{Q:OR->Prop}:wR cx (.st s) δ Q↔wS cx s δ λo=>Q (.inl o):=by
 unfold wR wS;simp only[evR]
 cases evS cx s δ with
 |none=>exact⟨λ⟨_,e,_⟩=>(by cases e),λ⟨_,e,_⟩=>by cases e⟩
 |some o=>exact⟨λ⟨_,e,q⟩=>by cases e;exact⟨_,rfl,q⟩,λ⟨_,e,q⟩=>by cases e;exact⟨_,rfl,q⟩⟩
def IZ{c:Str}{Q:OR->Prop}:wR cx (.rse c) δ Q↔Q (.inr (c,δ)):=⟨λ⟨_,e,q⟩=>by simp only[evR]at e;cases e;exact q,λq=>⟨_,by simp only[evR],q⟩⟩
def Ja{t:E}{a b:Rs}{Q:OR->Prop}:wR cx (.ifs t a b) δ Q↔wT cx t δ λk δ1=>if k=true then wRs cx a δ1 Q else wRs cx b δ1 Q:=by
 unfold wR wT wRs;simp only[evR]
 cases evT cx t δ with
 |none=>exact⟨λ⟨_,e,_⟩=>(by cases e),λ⟨_,_,e,_⟩=>by cases e⟩
 |some p =>
  obtain⟨k,δ1⟩:=p
  cases k with
  |true=>exact⟨λq=>⟨_,_,rfl,q⟩,λ⟨_,_,e,q⟩=>by cases e;exact q⟩
  |false=>exact⟨λq=>⟨_,_,rfl,q⟩,λ⟨_,_,e,q⟩=>by cases e;exact q⟩
def iA{s:S}{xs:List XE}{p:Str×Loc}{Q:OR->Prop}(h:(xs.findSome? λx=>xvE cx x δ)=some p)(q:Q (.inr p)):wR cx (.cal s xs) δ Q:=⟨_,by simp only[evR,h],q⟩
def lT{s:S}{xs:List XE}{Q:OR->Prop}(h:(xs.findSome? λx=>xvE cx x δ)=none)(q:wS cx s δ λo=>Q (.inl o)):wR cx (.cal s xs) δ Q:=by
 obtain⟨o,eo,q⟩:=q;exact⟨_,by simp only[evR,h,eo,bo],q⟩
def Md{tg:Tg}{src:It}{body:Rs}{Q:OR->Prop}:wR cx (.fr tg src body) δ Q↔∃ds δ1,evI cx src δ=some (ds,δ1)/\∃o,forR (λx δ0=>(dA δ0 tg x).bind λδ2=>fN cx body δ2) ds δ1=some o/\Q o:=by
 unfold wR;simp only[evR]
 cases evI cx src δ with
 |none=>exact⟨λ⟨_,e,_⟩=>(by cases e),λ⟨_,_,e,_⟩=>by cases e⟩
 |some q=>exact⟨λ⟨o,e,q⟩=>⟨_,_,rfl,o,e,q⟩,λ⟨_,_,e,o,e2,q⟩=>by cases e;exact⟨o,e2,q⟩⟩
def Mc{rs:Rs}{Q:Out->Prop}(h:wRs cx rs δ λr=>∃o,r=.inl o/\Q o):wSs cx (iB rs) δ Q:=by
 obtain⟨r,e,o,rfl,q⟩:=h;refine⟨o,?_,q⟩;unfold iB;simp only[cW,evS,e];cases o<;>rfl
def Mb{rs:Rs}{Q:Out->Prop}(h:wRs cx rs δ λr=>∃c δ1,r=.inr (c,δ1)/\Q (.rt (.str c) δ1)):wSs cx (gf rs) δ Q:=by
 obtain⟨r,e,c,δ1,rfl,q⟩:=h;refine⟨_,?_,q⟩;unfold gf;simp only[cW,evS,e]
def IJ{G:List Fd}{gl:List D}{n g:Nat}{ds:List D}(fd:Fd){rs:Rs}(e:G[g]?=some fd)(hb:fd.body=gf rs)(hf:fd.hf=false)(h:wRs ⟨PP.run G gl n,gl,hfs G⟩ rs (init (fd.ps++fd.loc).length ds) λr=>∃o,r=.inl o):PP.run G gl (n+1) g ds=none:=by
 obtain⟨r,er,o,rfl⟩:=h;unfold PP.run;rw[e];dsimp only;split
 .rw[hf];unfold entry;dsimp only;rw[hb];unfold gf;simp only[cW,evS,er];rfl
 .rfl
end
end PP
end
section
namespace PP
open PySem L2
def oZ:Nat->Ss->Ss
 |0,_=>.nil
 |_,.nil=>.nil
 |k+1,.cons s ss=>.cons s (oZ k ss)
def gP:Nat->Ss->Ss
 |0,ss=>ss
 |_,.nil=>.nil
 |k+1,.cons _ ss=>gP k ss
def nxS(R:PP.Loc->Prop)(Q:Out->Prop):Out->Prop
 |.nx δ=>R δ
 |o=>Q o
def Kz{R:PP.Loc->Prop}:nxS R Q (.nx δ)↔R δ:=gS
def xU(h:wS cx s δ P)(k:∀o,P o->Q o):wS cx s δ Q:=let⟨o,e,p⟩:=h;⟨o,e,k o p⟩
def rQ{R:PP.Loc->Prop}:∀(k:Nat)(ss:Ss)(δ:PP.Loc),wSs cx (oZ k ss) δ (nxS R Q)->(∀δ',R δ'->wSs cx (gP k ss) δ' Q)->wSs cx ss δ Q
 |0,ss,δ,h,q=>by
  unfold oZ at h
  exact q δ (dz.mp h)
 |_+1,.nil,δ,h,q=>by
  unfold oZ at h;unfold gP at q
  exact q δ (dz.mp h)
 |k+1,.cons s ss,δ,h,q=>by
  unfold oZ at h;unfold gP at q;refine bL.mpr (xU (bL.mp h) λo p=>?_)
  cases o with
  |nx δ1=>exact rQ k ss δ1 p q
  |rt d δ1=>exact p
  |ro d δ1=>exact p
def jo(k:Nat)(δ':PP.Loc)(h:cW cx (oZ k ss) δ=some (.nx δ'))(q:wSs cx (gP k ss) δ' Q):wSs cx ss δ Q:=rQ (R:=λd=>d=δ') k ss δ ⟨.nx δ',h,rfl⟩ λ_ e=>e▸q
def tV:Ss->Ss->Ss
 |.nil,r=>r
 |.cons s t,r=>.cons s (tV t r)
def rS{r:Ss}:∀{a:Ss}{δ:PP.Loc},wSs cx (tV a r) δ Q->wSs cx a δ (qI cx r Q)
 |.nil,δ,h=>dz.mpr (lX.mpr h)
 |.cons s t,δ,h=>bL.mpr (xU (bL.mp h) λo p=>by
  cases o with
  |nx δ1=>exact rS p
  |rt d δ1=>exact p
  |ro d δ1=>exact p)
def bj(p:Bool)(h:evT cx c δ=some (p,δ))(ha:p=true->wSs cx (tV a r) δ Q)(hb:p=false->wSs cx (tV b r) δ Q):wSs cx (.cons (.ifs c a b) r) δ Q :=
 bL.mpr (rV.mpr ⟨p,δ,h,by cases p;exact rS (hb rfl);exact rS (ha rfl)⟩)
variable{G:List Fd}{gl:List D}{n f:Nat}
def AO(as:List D)(δ1:PP.Loc)(h:cT ⟨PP.run G gl n,gl,hfs G⟩ es δ=some (as,δ1))(hc:jM G gl n f as λd=>∃δ2,dA δ1 tg d=some δ2/\wSs ⟨PP.run G gl n,gl,hfs G⟩ r δ2 Q):wSs ⟨PP.run G gl n,gl,hfs G⟩ (.cons (.asg tg (.call f es)) r) δ Q :=
 bL.mpr (gI.mpr (rZ.mpr ⟨as,δ1,h,qF.mpr hc⟩))
def dI(as:List D)(h:cT ⟨PP.run G gl n,gl,hfs G⟩ es δ=some (as,δ))(hc:jM G gl n f as λd=>∃δ2,dA δ tg d=some δ2/\wSs ⟨PP.run G gl n,gl,hfs G⟩ r δ2 Q):wSs ⟨PP.run G gl n,gl,hfs G⟩ (.cons (.asg tg (.call f es)) r) δ Q:=AO as δ h hc
def cy(d:D)(h:evE cx e δ=some (d,δ))(q:∃δ2,dA δ tg d=some δ2/\wSs cx r δ2 Q):wSs cx (.cons (.asg tg e) r) δ Q:=bL.mpr (gI.mpr ⟨d,δ,h,q⟩)
def eF(ha:evE cx a δ=some (x,δ))(hb:evE cx b δ=some (y,δ))(h:ixD x y=some z):evE cx (.ix a b) δ=some (z,δ):=by
 simp only[evE,ha,hb,h,ae,ah];rfl
def bN(ha:evE cx a δ=some (x,δ))(hb:evE cx b δ=some (y,δ))(h:gv op x y=some p):evT cx (.cmp op a b) δ=some (p,δ):=by
 simp only[evT,ha,hb,h,ae,ah];rfl
def jq(d:D)(h:evE cx e δ=some (d,δ))(ho:δ[i]?=some (.own ds))(hl:ds.length<sizeLine)(q:wSs cx r (δ.set i (.own (ds++[d]))) Q):wSs cx (.cons (.append i e) r) δ Q:=by
 have hi:i<δ.length:=(aF.mp ho).1;refine bL.mpr (zm.mpr ?_);unfold vZ;rw[ho];refine⟨d,δ,h,?_⟩;dsimp only;rw[ho];exact⟨hl,hi,q⟩
def gq(ha:evT cx a δ=some (p,δ))(hb:evT cx b δ=some (q,δ)):evT cx (.or a b) δ=some (p||q,δ):=by
 simp only[evT,ha,ae,ah];cases p
 .exact hb
 .rfl
def pR{α:Type}(g h:α->D)(as:α->List D)(xs:List α)(hl:xs.length<=sizeLine)(hi:evI ⟨PP.run G gl n,gl,hfs G⟩ src δ=some (xs.map g,δ))(hd:i=δ.length)(he:∀x∈xs,cT ⟨PP.run G gl n,gl,hfs G⟩ es (δ++[.val (g x)])=some (as x,δ++[.val (g x)]))(hc:∀x∈xs,PP.run G gl n f (as x)=some (h x)):evE ⟨PP.run G gl n,gl,hfs G⟩ (.comp 1 (.nm i) src .no (.call f es)) δ=some (.lst (xs.map h),δ):=by
 subst hd
 have:wE ⟨PP.run G gl n,gl,hfs G⟩ (.comp 1 (.nm δ.length) src .no (.call f es)) δ λd δ'=>d=.lst (xs.map h)/\δ'=δ:=by
  refine lV.mpr ⟨_,_,hi,iW g (λ_=>true) h xs (λx hx=>?_) ?_⟩
  .refine⟨δ++[.val (g x)],?_,true,_,rfl,rfl,?_⟩
   .show(if δ.length<(δ++aC 1 Sl.no).length then _ else _)=_;rw[if_pos ↥0];simp[eO]
   .rw[if_pos rfl];exact rZ.mpr ⟨_,_,he x hx,_,hc x hx,rfl,↥0⟩
  .rw[lO.mpr λ_ _=>rfl,ak];exact⟨hl,rfl,rfl⟩
 obtain⟨_,_,e,rfl,rfl⟩:=this;exact e
def AN(ds:List D)(h:evE cx e δ=some (.lst ds,δ))(hi:i<δ.length)(q:wSs cx r (δ.set i (.val (.lst ds))) Q):wSs cx (.cons (.cmp false i e) r) δ Q:=bL.mpr (rW.mpr ⟨_,_,h,ds,rfl,hi,q⟩)
def zZ(h:evE cx e δ=some (.lst ds,δ)):evE cx (.blt .toTup (.cons e .nil)) δ=some (.tup ds,δ):=by
 simp only[evE,cT,h,ae,ah];rfl
def cJ(as:List D)(he:cT ⟨PP.run G gl n,gl,hfs G⟩ es δ=some (as,δ))(hc:PP.run G gl n f as=some d):evE ⟨PP.run G gl n,gl,hfs G⟩ (.call f es) δ=some (d,δ):=by
 simp only[evE,he,hc,ae,ah];rfl
def nk(h:evE cx e δ=some (d,δ))(hi:items d=some ds):evI cx (.sq e) δ=some (ds,δ):=by
 simp only[evI,h,hi,ae,ah];rfl
def aL(h:evE cx e δ=some (d,δ))(hs:cT cx es δ=some (ds,δ)):cT cx (.cons e es) δ=some (d::ds,δ):=by
 simp only[cT,h,hs,ae,ah];rfl
def gz(h:cT cx es δ=some (ds,δ))(hl:ds.length<=sizeLine):evE cx (.tup es) δ=some (.tup ds,δ):=by
 simp only[evE,h,ae,ah];rw[if_pos hl];rfl
def aV(ha:evE cx a δ=some (x,δ))(hb:evE cx b δ=some (y,δ))(h:opD op x y=some z):evE cx (.bin op a b) δ=some (z,δ):=by
 simp only[evE,ha,hb,h,ae,ah];rfl
def lQ(d:D)(h:evE cx e δ=some (d,δ))(q:Q d):wSs cx (.cons (.ret e) r) δ (retS Q):=bL.mpr (jr.mpr ⟨d,δ,h,q⟩)
def Hi(hc:evT cx c δ=some (p,δ))(ha:evE cx a δ=some (x,δ))(hb:evE cx b δ=some (y,δ)):evE cx (.ite c a b) δ=some (if p=true then x else y,δ):=by
 simp only[evE,hc,ae,ah];cases p
 .exact hb
 .exact ha
def kG(as:List D)(he:cT ⟨PP.run G gl n,gl,hfs G⟩ es δ=some (as,δ))(hc:PP.run G gl n f as=some (.bl p)):evT ⟨PP.run G gl n,gl,hfs G⟩ (.call f es) δ=some (p,δ):=by
 simp only[evT,he,hc,ae,ah];rfl
def gy(h:evT cx e δ=some (p,δ)):evT cx (.not e) δ=some (!p,δ):=by
 simp only[evT,h,ae,ah];rfl
def mv{j:Int}(h:evE cx e δ=some (.int j,δ))(h0:-(2^62)<=j)(h1:j<2^62):evI cx (.rng e) δ=some (lA 0 j.toNat,δ):=by
 simp only[evI,h,ae,ah];rw[if_pos ⟨h0,h1⟩]
def gW(h:cT cx es δ=some (ds,δ))(hb:hZ b ds=some z):evE cx (.blt b es) δ=some (z,δ):=by
 simp only[evE,h,hb,ae,ah];rfl
def gT(ds:List D)(h:evI cx src δ=some (ds,δ))(q:qg cx tg body ds δ (qI cx r Q)):wSs cx (.cons (.for_ tg src body) r) δ Q:=bL.mpr (AU.mpr ⟨ds,δ,h,q⟩)
def tm(ha:evE cx a δ=some (x,δ))(hb:evE cx b δ=some (y,δ))(h:gv op x y=some p):evE cx (.cmp op a b) δ=some (.bl p,δ):=by
 simp only[evE,ha,hb,h,ae,ah];rfl
def xt(h:evE cx e δ=some (d,δ))(hs:cT cx es δ=some (ds,δ2)):cT cx (.cons e es) δ=some (d::ds,δ2):=by
 simp only[cT,h,hs,ae,ah];rfl
end PP
end
section
namespace PP
open PySem
section
variable{cx:Cl}{δ:Loc}
end
end PP
end
section
namespace PP
open PySem Builtin.Str
def cQ(c:Nat):List Nat->List (List Nat)
 |[]=>[[]]
 |a::l=>if a=c then[]::cQ c l else match cQ c l with
  |w::ws=>(a::w)::ws
  |[]=>[[a]]
def dW(c:Nat):Nat->List Nat->List Nat
 |_,[]=>[]
 |k,a::l=>if a=c then k::dW c (k+1) l else dW c (k+1) l
def sub_one{x:Str}{c k:Nat}:subAt x ⟨#[c]⟩ k=decide (x.cps.toList[k]?=some c):=by
 unfold subAt;show(x.cps.extract k (k+1)==#[c])=_;rw[bM,beq_iff_eq,decide_eq_true_eq];constructor
 .intro h;have:=congrArg nH h;rw[fg]at this;have e:(x.cps.toList.extract k (k+1))[0]?=some c:=by rw[this];rfl
  rw[dE]at e;simp at e;simpa using e
 .intro h;apply ft.mp;rw[fg,dE];obtain⟨hk,e⟩:=aF.mp h;rw[bQ hk,e];simp
def wX(x:Str)(c lim:Nat):∀(l:List Nat)(k:Nat)(found:Array Nat)(free:Nat),x.cps.toList.drop k=l->k<=x.length->free<=k->found.size+l.length<lim ->
 (forIn (cY k (l.length+1)) (found,free) (dy x ⟨#[c]⟩ x.length lim)).run.fst.toList=found.toList++dW c k l
 |[],k,found,free,hd,hk,hf,hs=>by
  have hlen:k=x.length:=by
   have:=congrArg jh hd;rw[aS]at this;have e:x.cps.toList.length=x.length:=rfl;simp at this;have:x.length<=k:=by show x.cps.size<=k;lia
   lia
  rw[show cY k (([]:List Nat).length+1)=[k]from rfl,fO];unfold dy;rw[if_neg (λh=>by have:=h.1.2;rw[hlen]at this;have e:(⟨#[c]⟩:Str).length=1:=rfl;lia)]
  simp[dW]
 |a::l,k,found,free,hd,hk,hf,hs=>by
  have hk':k<x.cps.toList.length:=by
   have:=congrArg jh hd;rw[aS,ag]at this
   lia
  have hkl:k<x.length:=by have:x.cps.toList.length=x.length:=rfl;lia
  have e0:x.cps.toList[k]?=some a:=by
   rw[<- HS,hd];rfl
  have e1:x.cps.toList.drop (k+1)=l:=by
   rw[<- kZ,hd];rfl
  rw[ag]at hs;rw[show cY k ((a::l).length+1)=k::cY (k+1) (l.length+1)from rfl,fO];unfold dy;have e2:(⟨#[c]⟩:Str).length=1:=rfl;rw[sub_one,e0,e2];by_cases h:a=c
  .rw[if_pos ⟨⟨⟨by show found.size<lim;lia,hf⟩,∅⟩,by simpa using h⟩];have ih:=wX x c lim l (k+1) (found.push k) (k+1) e1 ∅ (aD _) (by rw[Array.size_push];lia);unfold dW;rw[if_pos h];refine Eq.trans ih ?_;simp
  .rw[if_neg (λz=>h (by simpa using z.2))];have ih:=wX x c lim l (k+1) found free e1 ∅ ∅ ∅;unfold dW;rw[if_neg h];exact ih
def Ob(x:Str)(c:Nat):occurrences x ⟨#[c]⟩ 0 x.length (x.length+1)=dW c 0 x.cps.toList:=by
 rw[StrLaws.occ_eq];have:=wX x c (x.length+1) x.cps.toList 0 #[] 0 rfl (bP _) (aD _) (by show 0+x.cps.toList.length<x.length+1;have:x.cps.toList.length=x.length:=rfl;lia);rw[show x.cps.toList.length=x.length from rfl]at this;simpa using this
def ir(c:Nat):∀l:List Nat,∃w ws,cQ c l=w::ws
 |[]=>⟨_,_,rfl⟩
 |a::l=>by
  unfold cQ;split
  .exact⟨_,_,rfl⟩
  .obtain⟨w,ws,e⟩:=ir c l;rw[e];exact⟨_,_,rfl⟩
def pH(X:List Nat)(c:Nat):∀(l pre:List Nat)(s:Nat)(w:List Nat)(ws:List (List Nat)),X=pre++l->s<=pre.length->cQ c l=w::ws ->
 ((s::(dW c pre.length l).map (·+1)).zip (dW c pre.length l++[X.length])).map (λp=>(X.drop p.1).take (p.2-p.1))=(pre.drop s++w)::ws
 |[],pre,s,w,ws,hX,hs,e=>by
  cases e;subst hX;show[((pre++[]).drop s).take ((pre++[]).length-s)]=[pre.drop s++[]]
  rw[bt,bt,cn (by rw[aS];lia)]
 |a::l,pre,s,w,ws,hX,hs,e=>by
  unfold cQ at e;unfold dW;have hX':X=(pre++[a])++l:=by rw[hX];simp
  have hl:(pre++[a]).length=pre.length+1:=by simp
  by_cases h:a=c
  .rw[if_pos h]at e;cases e;obtain⟨w',ws',e'⟩:=ir c l;have ih:=pH X c l (pre++[a]) (pre.length+1) w' ws' hX' ∅ e';rw[if_pos h,aw,gH,mM,aw];rw[hl]at ih;rw[ih,e',show(pre++[a]).drop (pre.length+1)=[] by rw[<- hl,fu]];congr 1;rw[hX,qa hs,bt];have:(pre.drop s).length=pre.length-s:=aS;rw[<- this,iM]
  .rw[if_neg h]at e;obtain⟨w',ws',e'⟩:=ir c l;rw[e']at e;cases e;have ih:=pH X c l (pre++[a]) s w' ws hX' ∅ e';rw[hl]at ih;rw[if_neg h,ih,qa hs];simp
def zB(x:Str)(c:Nat)(hc:c<256):iP x ⟨#[c]⟩=(cQ c x.cps.toList).map λl=>⟨l.toArray⟩:=by
 obtain⟨w,ws,e⟩:=ir c x.cps.toList
 have key:partsBetween x (dW c 0 x.cps.toList) 1=(cQ c x.cps.toList).map λl=>(⟨l.toArray⟩:Str):=by
  have:=pH x.cps.toList c x.cps.toList [] 0 w ws rfl (aD _) e;rw[e];rw[show([]:List Nat).drop 0++w=w from rfl]at this;rw[<- this];unfold partsBetween;simp only[jS];refine Az λp hp=>?_;show strSub x p.1 p.2=⟨((x.cps.toList.drop p.1).take (p.2-p.1)).toArray⟩;unfold strSub;congr 1;apply ft.mp;rw[fg,dE]
 unfold iP;rw[Ob];split
 .rename_i h;rw[bH,decide_eq_true_eq,decide_eq_true_eq]at h;rcases h with h|h
  .have h0:x.cps.toList=[]:=by
    have:x.cps.toList.length=x.length:=rfl;have h':x.length<1:=h;exact fZ.mp ∅
   rw[h0];show[x]=[⟨#[]⟩];congr 1;cases x;simp only at h0;rw[show _=#[]from ft.mp h0]
  .exfalso;have a:eZ ⟨#[c]⟩=1:=by unfold eZ;simp[hc]
   rw[a]at h;unfold eZ at h;split at h
   .lia
   .split at h<;>lia
 .split
  .rename_i h;have h0:dW c 0 x.cps.toList=[]:=by simpa using h
   rw[h0]at key;rw[<- key];unfold partsBetween;show[x]=[strSub x 0 x.length];congr 1;unfold strSub;show x=⟨x.cps.extract 0 x.cps.size⟩;simp
  .exact key
def vf(x:Str)(c:Nat):∀(l:List Nat)(st:Array Nat×Nat),1<=st.1.size->(forIn l st (dy x ⟨#[c]⟩ x.length 1)).run.fst=st.1
 |[],st,_=>rfl
 |a::l,st,h=>by
  rw[fO];unfold dy;rw[if_neg (λz=>by have:=z.1.1.1;lia)];exact vf x c l (st.1,st.2) h
def occ_first(x:Str)(c:Nat):∀(l:List Nat)(k free:Nat),x.cps.toList.drop k=l->k<=x.length->free<=k ->
 (forIn (cY k (l.length+1)) ((#[]:Array Nat),free) (dy x ⟨#[c]⟩ x.length 1)).run.fst.toList=(dW c k l).take 1
 |[],k,free,hd,hk,hf=>by
  have hlen:x.length<=k:=by
   have:=congrArg jh hd;rw[aS]at this;have e:x.cps.toList.length=x.length:=rfl;simp at this;show x.cps.size<=k
   lia
  rw[show cY k (([]:List Nat).length+1)=[k]from rfl,fO];unfold dy;rw[if_neg (λh=>by have:=h.1.2;have e:(⟨#[c]⟩:Str).length=1:=rfl;lia)]
  simp[dW]
 |a::l,k,free,hd,hk,hf=>by
  have hkl:k<x.length:=by
   have:=congrArg jh hd;rw[aS,ag]at this;have e:x.cps.toList.length=x.length:=rfl
   lia
  have e0:x.cps.toList[k]?=some a:=by
   rw[<- HS,hd];rfl
  have e1:x.cps.toList.drop (k+1)=l:=by
   rw[<- kZ,hd];rfl
  rw[show cY k ((a::l).length+1)=k::cY (k+1) (l.length+1)from rfl,fO];unfold dy;have e2:(⟨#[c]⟩:Str).length=1:=rfl;rw[sub_one,e0,e2];by_cases h:a=c
  .rw[if_pos ⟨⟨⟨↥0,hf⟩,∅⟩,by simpa using h⟩];have ih:=vf x c (cY (k+1) (l.length+1)) ((#[]:Array Nat).push k,k+1) ↥0;unfold dW;rw[if_pos h];refine Eq.trans (congrArg nH ih) ?_;simp
  .rw[if_neg (λz=>h (by simpa using z.2))];have ih:=occ_first x c l (k+1) free e1 ∅ ∅;unfold dW;rw[if_neg h];exact ih
def sP(x:Str)(c:Nat):occurrences x ⟨#[c]⟩ 0 x.length 1=(dW c 0 x.cps.toList).take 1:=by
 rw[StrLaws.occ_eq];have:=occ_first x c x.cps.toList 0 0 rfl (bP _) (aD _);rw[show x.cps.toList.length=x.length from rfl]at this;simpa using this
def tD{c:Nat}:∀{u:List Nat}{k:Nat},c∉u->dW c k u=[]
 |[],_,_=>rfl
 |a::u,k,h=>by rw[dW,if_neg (λz=>h (by rw[z];exact ay)),tD λz=>h (ao _ z)]
def tF{c:Nat}{v:List Nat}:∀{u:List Nat}{k:Nat},c∉u->(dW c k (u++c::v)).take 1=[k+u.length]
 |[],k,_=>by
  show(dW c k (c::v)).take 1=_;rw[dW,if_pos rfl]
  rfl
 |a::u,k,h=>by
  show(dW c k (a::(u++c::v))).take 1=_;rw[dW,if_neg (λz=>h (by rw[z];exact ay)),tF λz=>h (ao _ z),ag];congr 1
  lia
def Gm{x:Str}{c:Nat}(h:c∉x.cps.toList):jJ x ⟨#[c]⟩=(x,vR,vR):=by
 unfold jJ;rw[sP,tD h];rfl
def Gn{u v:List Nat}{c:Nat}(h:c∉u):jJ ⟨(u++c::v).toArray⟩ ⟨#[c]⟩=(⟨u.toArray⟩,⟨#[c]⟩,⟨v.toArray⟩):=by
 unfold jJ;rw[sP,show(⟨(u++c::v).toArray⟩:Str).cps.toList=u++c::v from rfl,tF h];dsimp only
 have e1:strSub ⟨(u++c::v).toArray⟩ 0 (0+u.length)=⟨u.toArray⟩:=by
  unfold strSub;congr 1;apply ft.mp;rw[fg,dE];simp
 have e2:strSub ⟨(u++c::v).toArray⟩ (0+u.length+1) (⟨(u++c::v).toArray⟩:Str).length=⟨v.toArray⟩:=by
  unfold strSub;congr 1;apply ft.mp;rw[fg,dE];show((u++c::v).drop (0+u.length+1)).take ((u++c::v).toArray.size-(0+u.length+1))=v
  have e:(u++c::v).drop (0+u.length+1)=v:=by
   rw[show u++c::v=(u++[c])++v by simp,show 0+u.length+1=(u++[c]).length by simp,List.drop_left]
  rw[e,cn];simp
  lia
 rw[e1];exact congrArg (λz=>(_,_,z)) e2
end PP
end
section
namespace P1
open PySem L2 PP
def top(i:Nat):bG:=PySem.Challenge.pw_cutless_k52_statements_refused.main.body.getD i (.Pass ⟨0,0,0,0⟩)
def mE:Fd:=⟨"inside",["A"],[],
 (.cons (.ret (.ite (.cmp .isin (.ix (.var 0) (.int 0)) (.glob 0)) (.tup .nil) (.sl (.var 0) (.yes (.int 1)) .no)))
 .nil),false⟩
def jD:Fd:=⟨"is_small",["text"],[],
 (.cons (.ret (.and (.chn .le .le (.int 1) (.blt .len (.cons (.var 0) .nil)) (.glob 3)) (.blt .all (.cons (.comp 1 (.nm 1) (.sq (.var 0)) .no (.chn .le .le (.str "a") (.var 1) (.str "z"))) .nil))))
 .nil),false⟩
def kH:Fd:=⟨"is_name",["text"],[],
 (.cons (.ifs (.or (.not (.chn .le .le (.int 1) (.blt .len (.cons (.var 0) .nil)) (.glob 3))) (.not (.chn .le .le (.str "a") (.ix (.var 0) (.int 0)) (.str "z"))))
 (.cons (.ret (.bl false))
 .nil)
 .nil)
 (.cons (.ret (.blt .all (.cons (.comp 1 (.nm 1) (.sq (.var 0)) .no (.or (.chn .le .le (.str "a") (.var 1) (.str "z")) (.chn .le .le (.str "0") (.var 1) (.str "9")))) .nil)))
 .nil)),false⟩
def r_pieces:Rs:=(.cons (.ifs (.not (.blt .isStr (.cons (.var 0) .nil)))
 (.cons (.rse "NoText")
 .nil)
 .nil)
 (.cons (.st (.ret (.mt .split (.var 0) (.var 1))))
 .nil))
def x_pieces:Fd:=⟨"pieces",["text","between"],[],gf r_pieces,false⟩
def d_pieces:Fd:=⟨"pieces",["text","between"],[],
 (iB r_pieces),false⟩
def r_words_in:Rs:=(.cons (.cal (.asg (.nm 1) (.call 3 (.cons (.var 0) (.cons (.str " ") .nil)))) [(.cal 3 28 (.cons (.var 0) (.cons (.str " ") .nil)))])
 (.cons (.ifs (.cmp .gt (.blt .len (.cons (.var 1) .nil)) (.glob 7))
 (.cons (.rse "NoText")
 .nil)
 .nil)
 (.cons (.st (.ret (.var 1)))
 .nil)))
def x_words_in:Fd:=⟨"words_in",["text"],["words"],gf r_words_in,false⟩
def d_words_in:Fd:=⟨"words_in",["text"],["words"],
 (iB r_words_in),false⟩
def r_read_term:Rs:=(.cons (.st (.ifs (.cmp .isin (.var 0) (.var 1))
 (.cons (.ret (.blt .toStr (.cons (.mt .index (.var 1) (.var 0)) .nil)))
 .nil)
 .nil))
 (.cons (.ifs (.not (.call 2 (.cons (.var 0) .nil)))
 (.cons (.rse "NoText")
 .nil)
 .nil)
 (.cons (.st (.ret (.var 0)))
 .nil)))
def x_read_term:Fd:=⟨"read_term",["text","letters"],[],gf r_read_term,false⟩
def d_read_term:Fd:=⟨"read_term",["text","letters"],[],
 (iB r_read_term),false⟩
def r_read_word:Rs:=(.cons (.st (.asg (.tp [2,3,4]) (.mt .part (.var 0) (.str "("))))
 (.cons (.ifs (.or (.not (.call 1 (.cons (.var 2) .nil))) (.or (.gin false "WITHIN" [("yes",0),("no",0),("not",1),("and",2),("or",2),("if",2)] (.var 2)) (.cmp .isin (.var 2) (.glob 1))))
 (.cons (.rse "NoText")
 .nil)
 .nil)
 (.cons (.st (.ifs (.cmp .eq (.var 3) (.str ""))
 (.cons (.ret (.tup (.cons (.str "word") (.cons (.var 2) (.cons (.tup .nil) .nil)))))
 .nil)
 .nil))
 (.cons (.st (.asg (.nm 5) (.mt .split (.sl (.var 4) .no (.yes (.neg (.int 1)))) (.str ","))))
 (.cons (.ifs (.or (.not (.mt .ends (.var 4) (.str ")"))) (.cmp .gt (.blt .len (.cons (.var 5) .nil)) (.glob 4)))
 (.cons (.rse "NoText")
 .nil)
 .nil)
 (.cons (.cal (.ret (.tup (.cons (.str "word") (.cons (.var 2) (.cons (.blt .toTup (.cons (.comp 1 (.nm 6) (.sq (.var 5)) .no (.call 5 (.cons (.var 6) (.cons (.var 1) .nil)))) .nil)) .nil))))) [(.tup (.tl (.str "word") (.tl (.var 2) (.hd (.tot (.cmp 1 (.nm 6) (.sq (.var 5)) 5 30 (.cons (.var 6) (.cons (.var 1) .nil)))) .nil))))])
 .nil))))))
def x_read_word:Fd:=⟨"read_word",["text","letters"],["word","bracket","rest","terms"],gf r_read_word,false⟩
def d_read_word:Fd:=⟨"read_word",["text","letters"],["word","bracket","rest","terms"],
 (iB r_read_word),false⟩
def r_letters_within:Rs:=(.cons (.ifs (.cmp .eq (.blt .len (.cons (.var 1) .nil)) (.glob 6))
 (.cons (.rse "NoText")
 .nil)
 .nil)
 (.cons (.ifs (.or (.cmp .lt (.blt .len (.cons (.var 0) .nil)) (.int 2)) (.or (.cmp .ne (.blt .len (.cons (.ix (.var 0) (.int 1)) .nil)) (.int 1)) (.cmp .notin (.ix (.var 0) (.int 1)) (.glob 2))))
 (.cons (.rse "NoText")
 .nil)
 .nil)
 (.cons (.st (.ret (.bin .add (.lst (.cons (.ix (.var 0) (.int 1)) .nil)) (.var 1))))
 .nil)))
def x_letters_within:Fd:=⟨"letters_within",["words","letters"],[],gf r_letters_within,false⟩
def d_letters_within:Fd:=⟨"letters_within",["words","letters"],[],
 (iB r_letters_within),false⟩
def r_read_first:Rs:=(.cons (.ifs (.not (.var 0))
 (.cons (.rse "NoText")
 .nil)
 .nil)
 (.cons (.st (.asg (.nm 2) (.ix (.var 0) (.int 0))))
 (.cons (.ifs (.cmp .isin (.var 2) (.glob 1))
 (.cons (.cal (.asg (.tp [3,4]) (.call 8 (.cons (.sl (.var 0) (.yes (.int 2)) .no) (.cons (.call 7 (.cons (.var 0) (.cons (.var 1) .nil))) .nil)))) [(.fn 8 33 (.tl (.sl (.var 0) (.yes (.int 2)) .no) (.hd (.cal 7 32 (.cons (.var 0) (.cons (.var 1) .nil))) .nil))),(.cal 8 33 (.cons (.sl (.var 0) (.yes (.int 2)) .no) (.cons (.call 7 (.cons (.var 0) (.cons (.var 1) .nil))) .nil)))])
 (.cons (.st (.ret (.tup (.cons (.tup (.cons (.var 2) (.cons (.var 3) .nil))) (.cons (.var 4) .nil)))))
 .nil))
 .nil)
 (.cons (.ifs (.gin true "WITHIN" [("yes",0),("no",0),("not",1),("and",2),("or",2),("if",2)] (.var 2))
 (.cons (.cal (.ret (.tup (.cons (.call 6 (.cons (.var 2) (.cons (.var 1) .nil))) (.cons (.sl (.var 0) (.yes (.int 1)) .no) .nil)))) [(.tup (.hd (.cal 6 31 (.cons (.var 2) (.cons (.var 1) .nil))) (.cons (.sl (.var 0) (.yes (.int 1)) .no) .nil)))])
 .nil)
 .nil)
 (.cons (.st (.asg (.tp [5,4]) (.tup (.cons (.tup (.cons (.var 2) .nil)) (.cons (.sl (.var 0) (.yes (.int 1)) .no) .nil)))))
 (.cons (.fr (.nm 6) (.rng (.gix "WITHIN" [("yes",0),("no",0),("not",1),("and",2),("or",2),("if",2)] (.var 2)))
 (.cons (.cal (.asg (.tp [7,4]) (.call 8 (.cons (.var 4) (.cons (.var 1) .nil)))) [(.cal 8 33 (.cons (.var 4) (.cons (.var 1) .nil)))])
 (.cons (.st (.aug 5 .add (.tup (.cons (.var 7) .nil))))
 .nil)))
 (.cons (.st (.ret (.tup (.cons (.var 5) (.cons (.var 4) .nil)))))
 .nil)))))))
def x_read_first:Fd:=⟨"read_first",["words","letters"],["kind","body","behind","A","at","B"],gf r_read_first,false⟩
def d_read_first:Fd:=⟨"read_first",["words","letters"],["kind","body","behind","A","at","B"],
 (iB r_read_first),false⟩
def gX:Fd:=⟨"part_count",["A"],[],
 (.cons (.ret (.bin .add (.int 1) (.blt .sum (.cons (.comp 1 (.nm 1) (.sq (.call 0 (.cons (.var 0) .nil))) .no (.call 9 (.cons (.var 1) .nil))) .nil))))
 .nil),false⟩
def r_read_bounded:Rs:=(.cons (.cal (.asg (.tp [1,2]) (.call 8 (.cons (.var 0) (.cons (.lst .nil) .nil)))) [(.cal 8 33 (.cons (.var 0) (.cons (.lst .nil) .nil)))])
 (.cons (.ifs (.cmp .gt (.call 9 (.cons (.var 1) .nil)) (.glob 5))
 (.cons (.rse "NoText")
 .nil)
 .nil)
 (.cons (.st (.ret (.tup (.cons (.var 1) (.cons (.var 2) .nil)))))
 .nil)))
def x_read_bounded:Fd:=⟨"read_bounded",["words"],["A","behind"],gf r_read_bounded,false⟩
def d_read_bounded:Fd:=⟨"read_bounded",["words"],["A","behind"],
 (iB r_read_bounded),false⟩
def r_read_statement:Rs:=(.cons (.cal (.asg (.tp [1,2]) (.call 10 (.cons (.call 4 (.cons (.var 0) .nil)) .nil))) [(.fn 10 34 (.hd (.cal 4 29 (.cons (.var 0) .nil)) .nil)),(.cal 10 34 (.cons (.call 4 (.cons (.var 0) .nil)) .nil))])
 (.cons (.ifs (.var 2)
 (.cons (.rse "NoText")
 .nil)
 .nil)
 (.cons (.st (.ret (.var 1)))
 .nil)))
def x_read_statement:Fd:=⟨"read_statement",["text"],["A","behind"],gf r_read_statement,false⟩
def d_read_statement:Fd:=⟨"read_statement",["text"],["A","behind"],
 (iB r_read_statement),false⟩
def iI:Fd:=⟨"_law_cell",["_law_script","_law_k"],["_law_number"],
 (.cons (.ifs (.cmp .lt (.var 1) (.blt .len (.cons (.var 0) .nil)))
 (.cons (.ret (.ix (.var 0) (.var 1)))
 .nil)
 .nil)
 (.cons (.asg (.nm 2) (.bin .add (.bin .mul (.var 1) (.int 7919)) (.int 5)))
 (.cons (.ifs (.cmp .gt (.blt .len (.cons (.var 0) .nil)) (.int 0))
 (.cons (.asg (.nm 2) (.bin .add (.bin .mod (.bin .mul (.ix (.var 0) (.bin .mod (.bin .mul (.var 1) (.int 7)) (.blt .len (.cons (.var 0) .nil)))) (.int 48271)) (.int 2147483647)) (.bin .mul (.var 1) (.int 104729))))
 .nil)
 .nil)
 (.cons (.ret (.bin .mod (.bin .mul (.var 2) (.var 2)) (.int 2147483629)))
 .nil)))),false⟩
def iH:Fd:=⟨"_law_name",["_law_cell_here"],["_law_letters","_law_found","_law_rest","_law_k"],
 (.cons (.asg (.nm 1) (.str "abcdefghijklmnopqrstuvwxyz0123456789"))
 (.cons (.asg (.nm 2) (.ix (.var 1) (.bin .mod (.bin .fdiv (.var 0) (.int 8)) (.int 26))))
 (.cons (.asg (.nm 3) (.bin .fdiv (.var 0) (.int 208)))
 (.cons (.for_ (.nm 4) (.rng (.bin .mod (.var 0) (.int 8)))
 (.cons (.asg (.nm 2) (.bin .add (.var 2) (.ix (.var 1) (.bin .mod (.var 3) (.int 36)))))
 (.cons (.asg (.nm 3) (.bin .fdiv (.var 3) (.int 36)))
 .nil)))
 (.cons (.ret (.var 2))
 .nil))))),false⟩
def iE:Fd:=⟨"_law_word",["_law_cell_here"],["_law_found","_law_rest","_law_k"],
 (.cons (.asg (.nm 1) (.str ""))
 (.cons (.asg (.nm 2) (.bin .fdiv (.var 0) (.int 8)))
 (.cons (.for_ (.nm 3) (.rng (.bin .add (.int 1) (.bin .mod (.var 0) (.int 8))))
 (.cons (.asg (.nm 1) (.bin .add (.var 1) (.ix (.str "etaoinshrdlcumwfgypbvkjxqz") (.bin .mod (.var 2) (.int 26)))))
 (.cons (.asg (.nm 2) (.bin .fdiv (.var 2) (.int 26)))
 .nil)))
 (.cons (.ifs (.cmp .isin (.var 1) (.tup (.cons (.str "yes") (.cons (.str "no") (.cons (.str "not") (.cons (.str "and") (.cons (.str "or") (.cons (.str "if") (.cons (.str "all") (.cons (.str "some") .nil))))))))))
 (.cons (.ret (.bin .add (.var 1) (.str "s")))
 .nil)
 .nil)
 (.cons (.ret (.var 1))
 .nil))))),false⟩
def gZ:Fd:=⟨"_law_place",["_law_letter","_law_around"],["_law_k"],
 (.cons (.for_ (.nm 2) (.rng (.blt .len (.cons (.var 1) .nil)))
 (.cons (.ifs (.cmp .eq (.ix (.var 1) (.bin .sub (.neg (.int 1)) (.var 2))) (.var 0))
 (.cons (.ret (.blt .toStr (.cons (.var 2) .nil)))
 .nil)
 .nil)
 .nil))
 (.cons (.ret (.var 0))
 .nil)),false⟩
def hJ:Fd:=⟨"_law_drawn",["_law_cell_here","_law_deep","_law_around","_law_names"],["_law_kind","_law_rest","_law_some","_law_terms","_law_text","_law_s","_law_one","_law_letter","_law_two"],
 (.cons (.asg (.nm 4) (.ix (.lst (.cons (.str "word") (.cons (.str "not") (.cons (.str "and") (.cons (.str "or") (.cons (.str "if") (.cons (.str "all") (.cons (.str "some") (.cons (.str "yes") (.cons (.str "no") (.cons (.str "word") .nil))))))))))) (.bin .mod (.var 0) (.int 10))))
 (.cons (.asg (.nm 5) (.bin .fdiv (.var 0) (.int 10)))
 (.cons (.ifs (.or (.cmp .eq (.var 4) (.str "yes")) (.cmp .eq (.var 4) (.str "no")))
 (.cons (.ret (.tup (.cons (.var 4) (.cons (.tup (.cons (.var 4) .nil)) .nil))))
 .nil)
 .nil)
 (.cons (.ifs (.or (.cmp .eq (.var 4) (.str "word")) (.cmp .eq (.var 1) (.int 0)))
 (.cons (.asg (.nm 6) (.bin .add (.bin .add (.var 3) (.var 2)) (.sl (.var 2) (.yes (.neg (.int 1))) .no)))
 (.cons (.cmp false 7 (.comp 1 (.nm 13) (.sq (.sl (.lst (.cons (.bin .mod (.bin .mul (.var 5) (.int 31)) (.int 1009)) (.cons (.bin .mod (.bin .mul (.var 5) (.int 37)) (.int 1013)) (.cons (.bin .mod (.bin .mul (.var 5) (.int 41)) (.int 1019)) .nil)))) .no (.yes (.bin .mod (.var 5) (.int 4))))) .no (.ix (.var 6) (.bin .mod (.var 13) (.blt .len (.cons (.var 6) .nil))))))
 (.cons (.asg (.nm 8) (.call 14 (.cons (.bin .fdiv (.var 5) (.int 4)) .nil)))
 (.cons (.asg (.nm 9) (.tup (.cons (.str "word") (.cons (.var 8) (.cons (.blt .toTup (.cons (.comp 1 (.nm 13) (.sq (.var 7)) .no (.call 15 (.cons (.var 13) (.cons (.var 2) .nil)))) .nil)) .nil)))))
 (.cons (.ifs (.cmp .gt (.blt .len (.cons (.var 7) .nil)) (.int 0))
 (.cons (.asg (.nm 8) (.bin .add (.bin .add (.bin .add (.var 8) (.str "(")) (.mt .join (.str ",") (.var 7))) (.str ")")))
 .nil)
 .nil)
 (.cons (.ret (.tup (.cons (.var 8) (.cons (.var 9) .nil))))
 .nil))))))
 .nil)
 (.cons (.ifs (.cmp .eq (.var 4) (.str "not"))
 (.cons (.asg (.nm 10) (.call 16 (.cons (.var 5) (.cons (.bin .sub (.var 1) (.int 1)) (.cons (.var 2) (.cons (.var 3) .nil))))))
 (.cons (.ret (.tup (.cons (.bin .add (.str "not ") (.ix (.var 10) (.int 0))) (.cons (.tup (.cons (.str "not") (.cons (.ix (.var 10) (.int 1)) .nil))) .nil))))
 .nil))
 .nil)
 (.cons (.ifs (.or (.cmp .eq (.var 4) (.str "all")) (.cmp .eq (.var 4) (.str "some")))
 (.cons (.asg (.nm 11) (.ix (.str "QWERTYUIOPASDFGHJKLZXCVBNM") (.bin .mod (.bin .add (.var 5) (.bin .mul (.int 5) (.blt .len (.cons (.var 2) .nil)))) (.int 26))))
 (.cons (.ifs (.and (.cmp .eq (.bin .mod (.bin .fdiv (.var 5) (.int 26)) (.int 3)) (.int 1)) (.cmp .gt (.blt .len (.cons (.var 2) .nil)) (.int 0)))
 (.cons (.asg (.nm 11) (.ix (.var 2) (.int 0)))
 .nil)
 .nil)
 (.cons (.asg (.nm 10) (.call 16 (.cons (.bin .fdiv (.var 5) (.int 3)) (.cons (.bin .sub (.var 1) (.int 1)) (.cons (.bin .add (.var 2) (.lst (.cons (.var 11) .nil))) (.cons (.var 3) .nil))))))
 (.cons (.ret (.tup (.cons (.bin .add (.bin .add (.bin .add (.bin .add (.var 4) (.str " ")) (.var 11)) (.str " ")) (.ix (.var 10) (.int 0))) (.cons (.tup (.cons (.var 4) (.cons (.ix (.var 10) (.int 1)) .nil))) .nil))))
 .nil))))
 .nil)
 (.cons (.asg (.nm 10) (.call 16 (.cons (.bin .mod (.bin .mul (.var 5) (.int 48271)) (.int 2147483647)) (.cons (.bin .sub (.var 1) (.int 1)) (.cons (.var 2) (.cons (.var 3) .nil))))))
 (.cons (.asg (.nm 12) (.call 16 (.cons (.bin .mod (.bin .mul (.var 5) (.int 69621)) (.int 2147483629)) (.cons (.bin .sub (.var 1) (.int 1)) (.cons (.var 2) (.cons (.var 3) .nil))))))
 (.cons (.ret (.tup (.cons (.bin .add (.bin .add (.bin .add (.bin .add (.var 4) (.str " ")) (.ix (.var 10) (.int 0))) (.str " ")) (.ix (.var 12) (.int 0))) (.cons (.tup (.cons (.var 4) (.cons (.ix (.var 10) (.int 1)) (.cons (.ix (.var 12) (.int 1)) .nil)))) .nil))))
 .nil))))))))),false⟩
def iG:Fd:=⟨"_law_tall",["_law_cell_here","_law_names"],["_law_text","_law_s","_law_k","_law_word_here"],
 (.cons (.asg (.tp [2,3]) (.call 16 (.cons (.bin .fdiv (.var 0) (.int 4)) (.cons (.int 0) (.cons (.lst .nil) (.cons (.var 1) .nil))))))
 (.cons (.ifs (.cmp .eq (.bin .mod (.var 0) (.int 2)) (.int 1))
 (.cons (.for_ (.nm 4) (.rng (.int 19))
 (.cons (.ifs (.cmp .eq (.bin .mod (.bin .fdiv (.var 0) (.bin .add (.var 4) (.int 3))) (.int 2)) (.int 1))
 (.cons (.asg (.nm 2) (.bin .add (.str "and yes ") (.var 2)))
 (.cons (.asg (.nm 3) (.tup (.cons (.str "and") (.cons (.tup (.cons (.str "yes") .nil)) (.cons (.var 3) .nil)))))
 .nil))
 (.cons (.asg (.nm 2) (.bin .add (.bin .add (.str "if ") (.var 2)) (.str " no")))
 (.cons (.asg (.nm 3) (.tup (.cons (.str "if") (.cons (.var 3) (.cons (.tup (.cons (.str "no") .nil)) .nil)))))
 .nil)))
 .nil))
 (.cons (.ret (.tup (.cons (.bin .add (.str "not ") (.var 2)) (.cons (.tup (.cons (.str "not") (.cons (.var 3) .nil))) .nil))))
 .nil))
 .nil)
 (.cons (.asg (.nm 2) (.bin .add (.bin .add (.str "p(A,J,") (.ix (.var 1) (.int 0))) (.str ")")))
 (.cons (.asg (.nm 3) (.tup (.cons (.str "word") (.cons (.str "p") (.cons (.tup (.cons (.str "9") (.cons (.str "0") (.cons (.ix (.var 1) (.int 0)) .nil)))) .nil)))))
 (.cons (.for_ (.nm 4) (.rng (.int 10))
 (.cons (.asg (.nm 5) (.ix (.lst (.cons (.str "all") (.cons (.str "some") .nil))) (.bin .mod (.bin .fdiv (.var 0) (.bin .add (.var 4) (.int 3))) (.int 2))))
 (.cons (.asg (.nm 2) (.bin .add (.bin .add (.bin .add (.bin .add (.var 5) (.str " ")) (.ix (.str "JIHGFEDCBA") (.var 4))) (.str " ")) (.var 2)))
 (.cons (.asg (.nm 3) (.tup (.cons (.var 5) (.cons (.var 3) .nil))))
 .nil))))
 (.cons (.ret (.tup (.cons (.var 2) (.cons (.var 3) .nil))))
 .nil)))))),false⟩
def fX:Fd:=⟨"_law_made_of",["_law_text","_law_allowed"],["_law_sign"],
 (.cons (.ifs (.not (.chn .lt .lt (.int 0) (.blt .len (.cons (.var 0) .nil)) (.int 9)))
 (.cons (.ret (.bl false))
 .nil)
 .nil)
 (.cons (.for_ (.nm 2) (.sq (.var 0))
 (.cons (.ifs (.cmp .notin (.var 2) (.var 1))
 (.cons (.ret (.bl false))
 .nil)
 .nil)
 .nil))
 (.cons (.ret (.bl true))
 .nil))),false⟩
def iF:Fd:=⟨"_law_term",["_law_text","_law_around"],["_law_small","_law_k"],
 (.cons (.asg (.nm 2) (.str "abcdefghijklmnopqrstuvwxyz"))
 (.cons (.for_ (.nm 3) (.rng (.blt .len (.cons (.var 1) .nil)))
 (.cons (.ifs (.cmp .eq (.ix (.var 1) (.bin .sub (.neg (.int 1)) (.var 3))) (.var 0))
 (.cons (.ret (.blt .toStr (.cons (.var 3) .nil)))
 .nil)
 .nil)
 .nil))
 (.cons (.ifs (.and (.call 18 (.cons (.var 0) (.cons (.bin .add (.var 2) (.str "0123456789")) .nil))) (.cmp .isin (.ix (.var 0) (.int 0)) (.var 2)))
 (.cons (.ret (.var 0))
 .nil)
 .nil)
 (.cons (.ret .non)
 .nil)))),false⟩
def eT:Fd:=⟨"_law_word_of",["_law_text","_law_around"],["_law_word_here","_law_terms","_law_at"],
 (.cons (.asg (.nm 2) (.var 0))
 (.cons (.asg (.nm 3) (.lst .nil))
 (.cons (.ifs (.cmp .eq (.sl (.var 0) (.yes (.neg (.int 1))) .no) (.str ")"))
 (.cons (.asg (.nm 4) (.mt .find (.var 0) (.str "(")))
 (.cons (.ifs (.cmp .lt (.var 4) (.int 0))
 (.cons (.ret .non)
 .nil)
 .nil)
 (.cons (.asg (.nm 2) (.sl (.var 0) .no (.yes (.var 4))))
 (.cons (.asg (.nm 3) (.mt .split (.sl (.var 0) (.yes (.bin .add (.var 4) (.int 1))) (.yes (.neg (.int 1)))) (.str ",")))
 .nil))))
 .nil)
 (.cons (.ifs (.or (.not (.call 18 (.cons (.var 2) (.cons (.str "abcdefghijklmnopqrstuvwxyz") .nil)))) (.cmp .gt (.blt .len (.cons (.var 3) .nil)) (.int 3)))
 (.cons (.ret .non)
 .nil)
 .nil)
 (.cons (.ifs (.cmp .isin (.var 2) (.tup (.cons (.str "yes") (.cons (.str "no") (.cons (.str "not") (.cons (.str "and") (.cons (.str "or") (.cons (.str "if") (.cons (.str "all") (.cons (.str "some") .nil))))))))))
 (.cons (.ret .non)
 .nil)
 .nil)
 (.cons (.cmp false 3 (.comp 1 (.nm 5) (.sq (.var 3)) .no (.call 19 (.cons (.var 5) (.cons (.var 1) .nil)))))
 (.cons (.ifs (.cmp .isin .non (.var 3))
 (.cons (.ret .non)
 .nil)
 .nil)
 (.cons (.ret (.tup (.cons (.str "word") (.cons (.var 2) (.cons (.blt .toTup (.cons (.var 3) .nil)) .nil)))))
 .nil)))))))),false⟩
def dX:Fd:=⟨"_law_walked",["_law_words"],["_law_stack","_law_walked_here","_law_at","_law_around","_law_k"],
 (.cons (.new 1 (.lst (.cons (.lst .nil) .nil)))
 (.cons (.new 2 (.lst .nil))
 (.cons (.asg (.nm 3) (.int 0))
 (.cons (.while_ (.cmp .lt (.var 3) (.blt .len (.cons (.var 0) .nil)))
 (.cons (.ifs (.cmp .eq (.pk 1) (.lst .nil))
 (.cons (.ret .non)
 .nil)
 .nil)
 (.cons (.asg (.nm 4) (.pop 1))
 (.cons (.append 2 (.tup (.cons (.ix (.var 0) (.var 3)) (.cons (.var 4) .nil))))
 (.cons (.ifs (.or (.cmp .eq (.ix (.var 0) (.var 3)) (.str "all")) (.cmp .eq (.ix (.var 0) (.var 3)) (.str "some")))
 (.cons (.aug 3 .add (.int 1))
 (.cons (.ifs (.or (.cmp .eq (.var 3) (.blt .len (.cons (.var 0) .nil))) (.or (.cmp .ne (.blt .len (.cons (.ix (.var 0) (.var 3)) .nil)) (.int 1)) (.cmp .notin (.ix (.var 0) (.var 3)) (.str "ABCDEFGHIJKLMNOPQRSTUVWXYZ"))))
 (.cons (.ret .non)
 .nil)
 .nil)
 (.cons (.append 1 (.bin .add (.var 4) (.lst (.cons (.ix (.var 0) (.var 3)) .nil))))
 .nil)))
 .nil)
 (.cons (.for_ (.nm 5) (.rng (.dgt (.dcc [("not",1),("and",2),("or",2),("if",2)]) (.ix (.var 0) (.var 3)) (.int 0)))
 (.cons (.append 1 (.var 4))
 .nil))
 (.cons (.aug 3 .add (.int 1))
 .nil)))))))
 (.cons (.ifs (.or (.cmp .ne (.pk 1) (.lst .nil)) (.or (.cmp .gt (.blt .len (.cons (.pk 2) .nil)) (.int 40)) (.cmp .gt (.blt .max (.cons (.comp 2 (.tp [6,7]) (.sq (.var 2)) .no (.blt .len (.cons (.var 7) .nil))) .nil)) (.int 10))))
 (.cons (.ret .non)
 .nil)
 .nil)
 (.cons (.ret (.var 2))
 .nil)))))),false⟩
def eU:Fd:=⟨"_law_due",["_law_text"],["_law_walked_here","_law_stand","_law_word_here","_law_around","_law_size","_law_s"],
 (.cons (.asg (.nm 1) (.call 21 (.cons (.mt .split (.var 0) (.str " ")) .nil)))
 (.cons (.ifs (.cmp .is (.var 1) .non)
 (.cons (.ret .non)
 .nil)
 .nil)
 (.cons (.new 2 (.lst .nil))
 (.cons (.for_ (.tp [3,4]) (.rev (.var 1))
 (.cons (.asg (.nm 5) (.dgt (.dcc [("not",1),("all",1),("some",1),("and",2),("or",2),("if",2)]) (.var 3) (.int 0)))
 (.cons (.ifs (.or (.cmp .eq (.var 3) (.str "yes")) (.cmp .eq (.var 3) (.str "no")))
 (.cons (.asg (.nm 6) (.tup (.cons (.var 3) .nil)))
 .nil)
 (.cons (.ifs (.cmp .eq (.var 5) (.int 0))
 (.cons (.asg (.nm 6) (.call 20 (.cons (.var 3) (.cons (.var 4) .nil))))
 .nil)
 (.cons (.asg (.nm 6) (.bin .add (.tup (.cons (.var 3) .nil)) (.blt .toTup (.cons (.rvl (.var 2) (.yes (.bin .sub (.neg (.int 1)) (.var 5))) (.yes (.neg (.int 1)))) .nil))))
 (.cons (.new 2 (.sl (.pk 2) .no (.yes (.neg (.var 5)))))
 .nil)))
 .nil))
 (.cons (.ifs (.cmp .is (.var 6) .non)
 (.cons (.ret .non)
 .nil)
 .nil)
 (.cons (.append 2 (.var 6))
 .nil)))))
 (.cons (.ret (.ix (.pk 2) (.int 0)))
 .nil))))),false⟩
def jE:Fd:=⟨"_law_odd",["_law_cell_here","_law_names"],["_law_some"],
 (.cons (.asg (.nm 2) (.lst (.cons (.str "") (.cons (.str " ") (.cons (.str "p()") (.cons (.str "p(") (.cons (.str "p)") (.cons (.str "(a)") (.cons (.str "p(a") (.cons (.str "p(a,)") (.cons (.str "p(,a)") (.cons (.str "p(a, b)") (.cons (.str "p (a)") (.cons (.str "p(X)") (.cons (.str "X") (.cons (.str "P") (.cons (.str "not") .nil)))))))))))))))))
 (.cons (.asg (.nm 2) (.bin .add (.var 2) (.lst (.cons (.str "p(A)") .nil))))
 (.cons (.asg (.nm 2) (.bin .add (.var 2) (.lst (.cons (.str "and p") (.cons (.str "all X") (.cons (.str "all p(X)") (.cons (.str "all XY p") (.cons (.str "all x p(x)") (.cons (.str "some X p(Y)") (.cons (.str "not  p") (.cons (.str " p") (.cons (.str "p ") (.cons (.str "p q") .nil)))))))))))))
 (.cons (.asg (.nm 2) (.bin .add (.var 2) (.lst (.cons (.str "if p") (.cons (.str "p(a)(b)") (.cons (.str "p(1)") (.cons (.str "p(1a)") (.cons (.str "p(0)") (.cons (.str "all X p(x)") (.cons (.str "yes no") (.cons (.str "yes(a)") (.cons (.str "not()") (.cons (.str "and") (.cons (.str "p1") .nil))))))))))))))
 (.cons (.asg (.nm 2) (.bin .add (.var 2) (.lst (.cons (.str "abcdefghi") (.cons (.str "p(abcdefghi)") (.cons (.str "all X all X p(X,X)") (.cons (.str "p(not)") (.cons (.str "p(all)") (.cons (.str "all X X") (.cons (.str "-") (.cons (.str "p(a-b)") .nil)))))))))))
 (.cons (.ifs (.cmp .eq (.bin .mod (.var 0) (.int 4)) (.int 1))
 (.cons (.ret (.bin .add (.bin .add (.str "p(") (.mt .join (.str ",") (.comp 1 (.nm 3) (.rng (.bin .add (.int 2) (.bin .mod (.bin .fdiv (.var 0) (.int 4)) (.int 4)))) .no (.ix (.var 1) (.bin .mod (.bin .fdiv (.bin .fdiv (.var 0) (.int 4)) (.bin .add (.var 3) (.int 1))) (.blt .len (.cons (.var 1) .nil))))))) (.str ")")))
 .nil)
 .nil)
 (.cons (.ifs (.cmp .eq (.bin .mod (.var 0) (.int 4)) (.int 2))
 (.cons (.ret (.bin .add (.ix (.lst (.cons (.str "not ") (.cons (.str "and no ") .nil))) (.bin .mod (.bin .fdiv (.var 0) (.int 4)) (.int 2))) (.ix (.call 17 (.cons (.int 1) (.cons (.var 1) .nil))) (.int 0))))
 .nil)
 .nil)
 (.cons (.ifs (.cmp .eq (.bin .mod (.var 0) (.int 4)) (.int 3))
 (.cons (.ret (.bin .add (.bin .add (.bin .add (.str "some ") (.ix (.str "XAJ") (.bin .mod (.bin .fdiv (.var 0) (.int 4)) (.int 3)))) (.str " ")) (.ix (.call 17 (.cons (.int 0) (.cons (.var 1) .nil))) (.int 0))))
 .nil)
 .nil)
 (.cons (.ret (.ix (.var 2) (.bin .mod (.bin .fdiv (.var 0) (.int 4)) (.blt .len (.cons (.var 2) .nil)))))
 .nil))))))))),false⟩
def fY:Fd:=⟨"_law_changed",["_law_text","_law_cell_here"],["_law_signs_all","_law_at","_law_sign","_law_words","_law_k","_law_way"],
 (.cons (.asg (.nm 2) (.str " ()ABXYZabcnotyesdif0123456789,;=>~-_'!?+*/<|&^.:#"))
 (.cons (.asg (.nm 3) (.bin .mod (.bin .fdiv (.var 1) (.int 7)) (.bin .add (.blt .len (.cons (.var 0) .nil)) (.int 1))))
 (.cons (.asg (.nm 4) (.ix (.var 2) (.bin .mod (.bin .fdiv (.var 1) (.int 41)) (.blt .len (.cons (.var 2) .nil)))))
 (.cons (.new 5 (.mt .split (.var 0) (.str " ")))
 (.cons (.asg (.nm 6) (.bin .mod (.bin .fdiv (.var 1) (.int 7)) (.blt .len (.cons (.pk 5) .nil))))
 (.cons (.asg (.nm 7) (.bin .mod (.var 1) (.int 7)))
 (.cons (.ifs (.cmp .eq (.var 7) (.int 0))
 (.cons (.ret (.bin .add (.bin .add (.sl (.var 0) .no (.yes (.var 3))) (.var 4)) (.sl (.var 0) (.yes (.var 3)) .no)))
 .nil)
 .nil)
 (.cons (.ifs (.cmp .eq (.var 7) (.int 1))
 (.cons (.ret (.bin .add (.sl (.var 0) .no (.yes (.var 3))) (.sl (.var 0) (.yes (.bin .add (.var 3) (.int 1))) .no)))
 .nil)
 .nil)
 (.cons (.ifs (.cmp .eq (.var 7) (.int 2))
 (.cons (.ret (.bin .add (.bin .add (.sl (.var 0) .no (.yes (.var 3))) (.var 4)) (.sl (.var 0) (.yes (.bin .add (.var 3) (.int 1))) .no)))
 .nil)
 .nil)
 (.cons (.ifs (.cmp .eq (.var 7) (.int 3))
 (.cons (.ins 5 (.cons (.var 6) (.cons (.ix (.pk 5) (.var 6)) .nil)))
 .nil)
 (.cons (.ifs (.cmp .eq (.var 7) (.int 4))
 (.cons (.asg (.nm 5) (.bin .add (.sl (.pk 5) .no (.yes (.var 6))) (.sl (.pk 5) (.yes (.bin .add (.var 6) (.int 1))) .no)))
 .nil)
 (.cons (.ifs (.cmp .eq (.var 7) (.int 5))
 (.cons (.ins 5 (.cons (.bin .add (.var 6) (.int 1)) (.cons (.popi 5 (.var 6)) .nil)))
 .nil)
 (.cons (.setix 5 (.var 6) (.ix (.lst (.cons (.str "not") (.cons (.str "and") (.cons (.str "if") (.cons (.str "all X") (.cons (.str "some") (.cons (.str "yes") (.cons (.str "p(X)") (.cons (.str "q(a)") (.cons (.str "X") (.cons (.str "") .nil))))))))))) (.bin .mod (.bin .fdiv (.var 1) (.int 41)) (.int 10))))
 .nil))
 .nil))
 .nil))
 (.cons (.ret (.mt .join (.str " ") (.var 5)))
 .nil))))))))))),false⟩
def ups:List (Str×List Str):=[("NoText",["NoText","CutlessError"])]
def pcs:List Str:=["CutlessError","NoCut","NoName","NoProof","NoRow","NoText","NotCleared","NotPlain","TooGreat"]
def kr__law_read:Rs:=(.cons (.cal (.asg (.nm 2) (.call 11 (.cons (.var 0) .nil))) [(.cal 11 35 (.cons (.var 0) .nil))])
 .nil)
def kp__law_read:Ss:=(.cons (.ifs (.cmp .is (.var 1) .non)
 (.cons (.ret (.lst (.cons (.var 2) .nil)))
 .nil)
 .nil)
 (.cons .bad
 (.cons .bad
 (.cons .bad
 .nil))))
def kk__law_read:Ks:=(.skN (.tt ["NoCut","NoName","NoProof","NoRow","NotCleared","NotPlain","TooGreat"] (.cons .bad .nil) (.qq (.an .ty (.isI "NoText")) (.cons (.ret .non)
 .nil) (.rt (.cons .bad
 .nil)))))
def kl__law_read:List S:=[(.asg (.nm 1) .non),(.asg (.nm 2) .non)]
def d__law_read:Fd:=⟨"_law_read",["_law_thing"],["_law_refused","_law_told","e"],
 (kS ups kr__law_read 1 3 kp__law_read kk__law_read kl__law_read),false⟩
def gY:Fd:=⟨"_law_right",["_law_text"],["_law_s"],
 (.cons (.asg (.nm 1) (.call 22 (.cons (.var 0) .nil)))
 (.cons (.ifs (.cmp .is (.var 1) .non)
 (.cons (.ret (.cmp .is (.call 25 (.cons (.var 0) .nil)) .non))
 .nil)
 .nil)
 (.cons (.ret (.cmp .eq (.call 25 (.cons (.var 0) .nil)) (.lst (.cons (.var 1) .nil))))
 .nil))),false⟩
def d_law:Fd:=⟨"law",["_law_script"],["_law_names","_law_cell_here","_law_text","_law_number","_law_things"],
 (.cons (.asg (.nm 1) (.lst (.cons (.call 13 (.cons (.call 12 (.cons (.var 0) (.cons (.int 0) .nil))) .nil)) (.cons (.call 13 (.cons (.call 12 (.cons (.var 0) (.cons (.int 1) .nil))) .nil)) (.cons (.str "by") .nil)))))
 (.cons (.asg (.nm 2) (.call 12 (.cons (.var 0) (.cons (.int 2) .nil))))
 (.cons (.asg (.nm 3) (.ix (.call 16 (.cons (.bin .fdiv (.var 2) (.int 6)) (.cons (.int 4) (.cons (.lst .nil) (.cons (.var 1) .nil))))) (.int 0)))
 (.cons (.ifs (.cmp .eq (.bin .mod (.var 2) (.int 6)) (.int 4))
 (.cons (.asg (.nm 3) (.ix (.call 17 (.cons (.bin .fdiv (.var 2) (.int 6)) (.cons (.var 1) .nil))) (.int 0)))
 .nil)
 .nil)
 (.cons (.for_ (.nm 4) (.sq (.bin .add (.lst (.cons (.call 12 (.cons (.var 0) (.cons (.int 3) .nil))) .nil)) (.sl (.var 0) (.yes (.int 4)) (.yes (.int 24)))))
 (.cons (.ifs (.or (.not (.call 26 (.cons (.var 3) .nil))) (.not (.call 26 (.cons (.call 23 (.cons (.var 4) (.cons (.var 1) .nil))) .nil))))
 (.cons .bad
 .nil)
 .nil)
 (.cons (.asg (.nm 3) (.call 24 (.cons (.var 3) (.cons (.var 4) .nil))))
 .nil)))
 (.cons (.asg (.nm 5) (.lst (.cons .non (.cons (.int 0) (.cons (.bl true) (.cons (.bin .mod (.var 2) (.bin .pow (.int 10) (.int 30))) (.cons (.lst (.cons (.var 3) .nil)) (.cons (.tup (.cons (.var 3) .nil)) (.cons (.dsv 3 3) (.cons (.tup (.cons (.str "yes") .nil)) (.cons (.lst .nil) (.cons (.tup (.cons (.str "word") (.cons (.str "p") (.cons (.tup .nil) .nil)))) .nil))))))))))))
 (.cons (.ret (.and (.call 26 (.cons (.var 3) .nil)) (.cmp .is (.call 25 (.cons (.ix (.var 5) (.bin .mod (.var 2) (.int 10))) .nil)) .non)))
 .nil))))))),false⟩
noncomputable instance xsi:Xs:=⟨[(3,28),(4,29),(5,30),(6,31),(7,32),(8,33),(10,34),(11,35)]⟩
def Gd:List Fd:=[mE,jD,kH,d_pieces,d_words_in,d_read_term,d_read_word,d_letters_within,d_read_first,gX,d_read_bounded,d_read_statement,iI,iH,iE,gZ,hJ,iG,fX,iF,eT,dX,eU,jE,fY,d__law_read,gY,d_law]
def Gs:List Fd:=[mE,jD,kH,d_pieces,d_words_in,d_read_term,d_read_word,d_letters_within,d_read_first,gX,d_read_bounded,d_read_statement,iI,iH,iE,gZ,hJ,iG,fX,iF,eT,dX,eU,jE,fY,d__law_read,gY,d_law,x_pieces,x_words_in,x_read_term,x_read_word,x_letters_within,x_read_first,x_read_bounded,x_read_statement]
noncomputable instance tbs:Tbs:=⟨[],[],[("WITHIN",[("yes",0),("no",0),("not",1),("and",2),("or",2),("if",2)])],[]⟩
def pls:List (String×Nat):=[("inside",13),("is_small",22),("is_name",23),("pieces",24),("words_in",25),("read_term",26),("read_word",27),("letters_within",28),("read_first",29),("part_count",30),("read_bounded",31),("read_statement",32),("_law_cell",34),("_law_name",35),("_law_word",36),("_law_place",37),("_law_drawn",38),("_law_tall",39),("_law_made_of",40),("_law_term",41),("_law_word_of",42),("_law_walked",43),("_law_due",44),("_law_odd",45),("_law_changed",46),("_law_read",47),("_law_right",48),("law",49)]
def gls:List D:=[.tup [.str "yes",.str "no",.str "word"],.tup [.str "all",.str "some"],.str "ABCDEFGHIJKLMNOPQRSTUVWXYZ",.int 8,.int 3,.int 40,.int 10,.int 100]
def gns:List Str:=["LEAVES","BINDERS","LETTERS","LONGEST","MOST_TERMS","MOST_PARTS","MOST_NESTED","MOST_WORDS"]
end P1
end
section
namespace P1
open PySem L2 PP Builtin.Str
def cs(x:Str):List Nat:=x.cps.toList
def sO(l:List Nat):Str:=⟨l.toArray⟩
def kX(l:List Nat):cs (sO l)=l:=rfl
def Ie(x:Str):sO (cs x)=x:=rfl
def tJ(a b:Str):cs (a++b)=cs a++cs b:=lI
def gJ{a b:Str}(h:cs a=cs b):a=b:=by
 obtain⟨a⟩:=a;obtain⟨b⟩:=b;rw[show a=b from ft.mp h]
def bT(x:Str):(cs x).length=x.length:=str_len x
def eQ(l:List Nat):(sO l).length=l.length:=by rw[<- bT,kX]
def big{n:Nat}(h:n<=16777216):n<=sizeLine:=h
inductive B|and|or|imp
def B.s:B->Str|.and=>"and"|.or=>"or"|.imp=>"if"
def qs(b:Bool):Str:=if b then "all" else "some"
inductive F where
 |yes|no|word (w:Str) (ts:List Str)|neg (a:F)|q (b:Bool) (a:F)|bi (b:B) (x y:F)
def enc:F->D
 |.yes=>.tup [.str "yes"]
 |.no=>.tup [.str "no"]
 |.word w ts=>.tup [.str "word",.str w,.tup (ts.map .str)]
 |.neg a=>.tup [.str "not",enc a]
 |.q b a=>.tup [.str (qs b),enc a]
 |.bi b x y=>.tup [.str b.s,enc x,enc y]
def sz:F->Nat
 |.neg a=>sz a+1
 |.q _ a=>sz a+1
 |.bi _ x y=>sz x+sz y+1
 |_=>1
def tw(x:Str):dep (.str x)=0:=by unfold dep;rfl
def mC:∀ts:List Str,eS (ts.map D.str)=0
 |[]=>by unfold eS;rfl
 |t::ts=>by rw[aw];unfold eS;rw[mC ts,tw];rfl
def mD:∀A:F,dep (enc A)<=sz A+1
 |.yes|.no=>by unfold enc;simp[dep,eS,sz]
 |.word w ts=>by unfold enc;simp[dep,eS,mC,sz]
 |.neg a=>by have:=mD a;unfold enc;simp[dep,eS,sz];lia
 |.q b a=>by have:=mD a;unfold enc;simp[dep,eS,sz];lia
 |.bi b x y=>by have:=mD x;have:=mD y;unfold enc;simp[dep,eS,sz];lia
def res:List Str:=["yes","no","not","and","or","if","all","some"]
def isL(c:Nat):Bool:=decide (97<=c)&&decide (c<=122)
def isG(c:Nat):Bool:=isL c||(decide (48<=c)&&decide (c<=57))
def jN(w:Str):Bool:=decide (1<=w.length)&&decide (w.length<=8)&&(cs w).all isL
def nmB(t:Str):Bool:=decide (1<=t.length)&&decide (t.length<=8)&&(isL ((cs t).headD 0)&&(cs t).all isG)
def trm(ls:List Str)(t:Str):Option Str:=match ls.findIdx? (λy=>y==t)with
 |some i=>some (toString (i:Int))
 |none=>if nmB t=true then some t else none
def iO(ls:List Str):List Str->Option (List Str)
 |[]=>some []
 |t::ts=>(trm ls t).bind λu=>(iO ls ts).map (u::·)
def fC:List Nat->List Nat×Option (List Nat)
 |[]=>([],none)
 |a::l=>if a=40 then([],some l)else(a::(fC l).1,(fC l).2)
def oa(u:Str)(ls:List Str):Option (List Nat)->Option F
 |none=>if(jN u&&!decide (u∈res))=true then some (.word u [])else none
 |some v=>if(jN u&&!decide (u∈res))=true/\v.getLast?=some 41/\(cQ 44 v.dropLast).length<=3 then(iO ls ((cQ 44 v.dropLast).map sO)).map (.word u)else none
def wrd(w:Str)(ls:List Str):Option F:=oa (sO (fC (cs w)).1) ls (fC (cs w)).2
def je:∀{l:List Nat},(fC l).2=none->40∉l/\(fC l).1=l
 |[],_=>⟨bS,rfl⟩
 |a::l,h=>by
  unfold fC at h |-;split at h
  .cases h
  .rename_i ha;obtain⟨h1,h2⟩:=je h;rw[if_neg ha];refine⟨λm=>?_,by dsimp only;rw[h2]⟩;rcases aA.mp m with m|m
   .exact ha m.symm
   .exact h1 m
def jd:∀{l v:List Nat},(fC l).2=some v->l=(fC l).1++40::v/\40∉(fC l).1
 |a::l,v,h=>by
  unfold fC at h |-;split at h
  .rename_i ha;cases h;rw[if_pos ha,ha];exact⟨rfl,bS⟩
  .rename_i ha;obtain⟨h1,h2⟩:=jd h;rw[if_neg ha];refine⟨by dsimp only;rw[gH,<- h1],λm=>?_⟩;rcases aA.mp m with m|m
   .exact ha m.symm
   .exact h2 m
section
variable{cx:Cl}{δ:PP.Loc}
def oM{a b e:E}{o1 o2:Cop}{x y z:D}{p q:Bool}(ha:evE cx a δ=some (x,δ))(hb:evE cx b δ=some (y,δ))(he:evE cx e δ=some (z,δ))(h1:gv o1 x y=some p)(h2:gv o2 y z=some q):evE cx (.chn o1 o2 a b e) δ=some (.bl (p&&q),δ):=by
 simp only[evE,ha,hb,h1,ae,ah];cases p
 .rfl
 .simp only[if_true,he,h2,ah];rfl
def sZ{a b e:E}{o1 o2:Cop}{x y z:D}{p q:Bool}(ha:evE cx a δ=some (x,δ))(hb:evE cx b δ=some (y,δ))(he:evE cx e δ=some (z,δ))(h1:gv o1 x y=some p)(h2:gv o2 y z=some q):evT cx (.chn o1 o2 a b e) δ=some (p&&q,δ):=by
 simp only[evT,ha,hb,h1,ae,ah];cases p
 .rfl
 .simp only[if_true,he,h2,ah];rfl
def vB{a b:E}{p q:Bool}(ha:evE cx a δ=some (.bl p,δ))(hb:p=true->evE cx b δ=some (.bl q,δ)):evE cx (.and a b) δ=some (.bl (p&&q),δ):=by
 simp only[evE,ha,ae,ah];cases p
 .rfl
 .exact hb rfl
def Hf{a b:E}{p q:Bool}(ha:evE cx a δ=some (.bl p,δ))(hb:p=false->evE cx b δ=some (.bl q,δ)):evE cx (.or a b) δ=some (.bl (p||q),δ):=by
 simp only[evE,ha,ae,ah];cases p
 .exact hb rfl
 .rfl
def DM{a b:E}{p q:Bool}(ha:evT cx a δ=some (p,δ))(hb:p=true->evT cx b δ=some (q,δ)):evT cx (.and a b) δ=some (p&&q,δ):=by
 simp only[evT,ha,ae,ah];cases p
 .rfl
 .exact hb rfl
def jA{a b:E}{p q:Bool}(ha:evT cx a δ=some (p,δ))(hb:p=false->evT cx b δ=some (q,δ)):evT cx (.or a b) δ=some (p||q,δ):=by
 simp only[evT,ha,ae,ah];cases p
 .exact hb rfl
 .rfl
def vA{α:Type}{src:PP.It}{elt:E}{i:Nat}(g h:α->D)(xs:List α)(hl:xs.length<=sizeLine)(hi:evI cx src δ=some (xs.map g,δ))(hd:i=δ.length)(he:∀x∈xs,evE cx elt (δ++[.val (g x)])=some (h x,δ++[.val (g x)])):evE cx (.comp 1 (.nm i) src .no elt) δ=some (.lst (xs.map h),δ):=by
 subst hd
 have:wE cx (.comp 1 (.nm δ.length) src .no elt) δ λd δ'=>d=.lst (xs.map h)/\δ'=δ:=by
  refine lV.mpr ⟨_,_,hi,iW g (λ_=>true) h xs (λx hx=>?_) ?_⟩
  .refine⟨δ++[.val (g x)],?_,true,_,rfl,rfl,?_⟩
   .show(if δ.length<(δ++aC 1 Sl.no).length then _ else _)=_;rw[if_pos ↥0];simp[eO]
   .rw[if_pos rfl];exact⟨_,_,he x hx,rfl,↥0⟩
  .rw[lO.mpr λ_ _=>rfl,ak];exact⟨hl,rfl,rfl⟩
 obtain⟨_,_,e,rfl,rfl⟩:=this;exact e
def jB{m:Mt}{a b:E}{x y z:D}(ha:evE cx a δ=some (x,δ))(hb:evE cx b δ=some (y,δ))(h:mtD m x y=some z):evE cx (.mt m a b) δ=some (z,δ):=by
 simp only[evE,ha,hb,h,ae,ah];rfl
def Lh{m:Mt}{a b:E}{x y:D}{p:Bool}(ha:evE cx a δ=some (x,δ))(hb:evE cx b δ=some (y,δ))(h:mtD m x y=some (.bl p)):evT cx (.mt m a b) δ=some (p,δ):=by
 simp only[evT,ha,hb,h,ae,ah];rfl
def yR{ng:Bool}{n:Str}{l:List (Str×Int)}{e:E}{x:Str}(h:evE cx e δ=some (.str x,δ)):evT cx (.gin ng n l e) δ=some ((l.lookup x).isSome != ng,δ):=by
 simp only[evT,h,ae,ah]
def eh{a:E}{lo hi:Eo}{x z:D}{l h:Option Int}(ha:evE cx a δ=some (x,δ))(hl:evO cx lo δ=some (l,δ))(hh:evO cx hi δ=some (h,δ))(e:slD x l h=some z):evE cx (.sl a lo hi) δ=some (z,δ):=by
 simp only[evE,ha,hl,hh,e,ae,ah];rfl
def DL{f:Blt}{es:Es}{p:Bool}{ds:List D}(h:cT cx es δ=some (ds,δ))(hb:hZ f ds=some (.bl p)):evT cx (.blt f es) δ=some (p,δ):=by
 simp only[evT,h,hb,ae,ah];rfl
def len_str{i:Nat}{x:Str}(hi:evE cx (.var i) δ=some (.str x,δ))(hl:x.length<=sizeLine):evE cx (.blt .len (.cons (.var i) .nil)) δ=some (.int x.length,δ):=gW (aL hi rfl) (show(if x.length<=sizeLine then some (D.int x.length)else none)=_ from if_pos hl)
def eK{e:E}{ds:List D}(hi:evE cx e δ=some (.lst ds,δ)):evE cx (.blt .len (.cons e .nil)) δ=some (.int ds.length,δ):=gW (aL hi rfl) rfl
end
def Ans(n f x:Nat)(as:List D):Option D->Prop
 |some d=>PP.run Gs gls n f as=some d/\PP.run Gs gls n x as=none
 |none=>PP.run Gs gls n x as=some (.str "NoText")
def nB:Option D->OR->Prop
 |some d,r=>∃δ,r=.inl (.rt d δ)
 |none,r=>∃δ,r=.inr ("NoText",δ)
def gK{n f x:Nat}{as:List D}{o:Option D}(fd fx:Fd)(rs:Rs)(e1:Gs[f]?=some fd)(e2:Gs[x]?=some fx)(b1:fd.body=iB rs)(b2:fx.body=gf rs)(h1:fd.hf=false)(h2:fx.hf=false)(p:fx.ps=fd.ps)(q:fx.loc=fd.loc)(hl:as.length=fd.ps.length)
 (h:wRs ⟨PP.run Gs gls n,gls,hfs Gs⟩ rs (init (fd.ps++fd.loc).length as) (nB o)):Ans (n+1) f x as o:=by
 obtain⟨r,er,z⟩:=h
 cases o with
 |none =>
  obtain⟨δ,rfl⟩:=z;refine dr (bV fx e2 (by rw[p];exact hl) h2 ?_);rw[b2,p,q]
  exact Mb ⟨_,er,_,δ,rfl,rfl⟩
 |some d =>
  obtain⟨δ,rfl⟩:=z;refine⟨dr (bV fd e1 hl h1 ?_),IJ fx e2 b2 h2 ?_⟩
  .rw[b1];exact Mc ⟨_,er,_,rfl,rfl⟩
  .rw[p,q];exact⟨_,er,_,rfl⟩
section
variable{n:Nat}{δ:PP.Loc}
def xo(o:Option D)(δ:PP.Loc):Option (Str×PP.Loc):=match o with
 |none=>some ("NoText",δ)
 |some _=>none
def lq{f x:Nat}{es:Es}{as:List D}{o:Option D}(he:cT ⟨PP.run Gs gls n,gls,hfs Gs⟩ es δ=some (as,δ))(A:Ans n f x as o):xvE ⟨PP.run Gs gls n,gls,hfs Gs⟩ (.cal f x es) δ=xo o δ:=by
 show(match cT _ es δ with
  |some (ds,δ1)=>(match PP.run Gs gls n x ds with
   |some (.str c)=>some (c,δ1)
   |_=>none)
  |none=>none)=_
 rw[he];dsimp only
 cases o with
 |none=>rw[show PP.run Gs gls n x as=_ from A];rfl
 |some d=>rw[A.2];rfl
def kx{s:S}{rs:Rs}{f x:Nat}{es:Es}{as:List D}{o:Option D}{Q:OR->Prop}(he:cT ⟨PP.run Gs gls n,gls,hfs Gs⟩ es δ=some (as,δ))(A:Ans n f x as o)(h0:o=none->Q (.inr ("NoText",δ)))
 (h1:∀d,o=some d->PP.run Gs gls n f as=some d->wS ⟨PP.run Gs gls n,gls,hfs Gs⟩ s δ λr=>jI ⟨PP.run Gs gls n,gls,hfs Gs⟩ rs Q (.inl r)):wRs ⟨PP.run Gs gls n,gls,hfs Gs⟩ (.cons (.cal s [.cal f x es]) rs) δ Q:=by
 have e:=lq he A
 cases o with
 |none=>exact cO.mpr (iA (p:=("NoText",δ)) (by rw[aR,e];rfl) (h0 rfl))
 |some d=>exact cO.mpr (lT (by rw[aR,e];rfl) (h1 d rfl A.1))
def vY{cx:Cl}{t:E}{a b r:Rs}{Q:OR->Prop}(k:Bool)(h:evT cx t δ=some (k,δ))(ha:k=true->wRs cx a δ (jI cx r Q))(hb:k=false->wRs cx b δ (jI cx r Q)):wRs cx (.cons (.ifs t a b) r) δ Q:=by
 refine cO.mpr (Ja.mpr ⟨k,δ,h,?_⟩)
 cases k with
 |true=>exact ha rfl
 |false=>exact hb rfl
def gm{cx:Cl}{t:E}{r:Rs}{c:Str}{Q:OR->Prop}(k:Bool)(h:evT cx t δ=some (k,δ))(ha:k=true->Q (.inr (c,δ)))(hb:k=false->wRs cx r δ Q):wRs cx (.cons (.ifs t (.cons (.rse c) .nil) .nil) r) δ Q :=
 vY k h (λe=>cO.mpr (IZ.mpr (ha e))) λe=>lS.mpr (hb e)
def rY{cx:Cl}{s:S}{r:Rs}{Q:OR->Prop}(h:wS cx s δ λo=>jI cx r Q (.inl o)):wRs cx (.cons (.st s) r) δ Q:=cO.mpr (HY.mpr h)
def rX{cx:Cl}{t:E}{a b:Ss}{r:Rs}{Q:OR->Prop}(k:Bool)(h:evT cx t δ=some (k,δ))(ha:k=true->wSs cx a δ λo=>jI cx r Q (.inl o))(hb:k=false->wSs cx b δ λo=>jI cx r Q (.inl o)):wRs cx (.cons (.st (.ifs t a b)) r) δ Q :=
 rY (rV.mpr ⟨k,δ,h,by cases k;exact hb rfl;exact ha rfl⟩)
def oz{cx:Cl}{tg:Tg}{e:E}{r:Rs}{Q:OR->Prop}(d:D)(h:evE cx e δ=some (d,δ))(q:∃δ2,dA δ tg d=some δ2/\wRs cx r δ2 Q):wRs cx (.cons (.st (.asg tg e)) r) δ Q:=rY (gI.mpr ⟨d,δ,h,q⟩)
def uA{cx:Cl}{e:E}{r:Ss}{rr:Rs}{d:D}(h:evE cx e δ=some (d,δ)):wSs cx (.cons (.ret e) r) δ λo=>jI cx rr (nB (some d)) (.inl o):=bL.mpr (jr.mpr ⟨d,δ,h,⟨_,rfl⟩⟩)
def AV{cx:Cl}{e:E}{r rs:Rs}{d:D}(h:evE cx e δ=some (d,δ)):wRs cx (.cons (.st (.ret e)) r) δ (jI cx rs (nB (some d))):=cO.mpr (HY.mpr (jr.mpr ⟨d,δ,h,δ,rfl⟩))
def js{cx:Cl}{e:E}{r:Rs}{d:D}(h:evE cx e δ=some (d,δ)):wRs cx (.cons (.st (.ret e)) r) δ (nB (some d)):=rY (jr.mpr ⟨d,δ,h,δ,rfl⟩)
end
def lt1{a b:Nat}:decide ([a]<[b])=decide (a<b):=by
 rw[decide_eq_decide,List.cons_lt_cons_iff];simp
def s_a:cs "a"=[97]:=by decide
def s_z:cs "z"=[122]:=by decide
def s_0:cs "0"=[48]:=by decide
def s_9:cs "9"=[57]:=by decide
def le_lo{a:Str}{k c:Nat}(h:cs a=[k]):gv .le (.str a) (.str ⟨#[c]⟩)=some (decide (k<=c)):=by
 show some (!decide ([c]<cs a))=_;rw[h,lt1,<- decide_not];simp only[ue]
def yK{a:Str}{k c:Nat}(h:cs a=[k]):gv .le (.str ⟨#[c]⟩) (.str a)=some (decide (c<=k)):=by
 show some (!decide (cs a<[c]))=_;rw[h,lt1,<- decide_not];simp only[ue]
def rF{α:Type}(p:α->Bool):∀xs:List α,lF (xs.map λx=>D.bl (p x))=some (xs.map p)
 |[]=>rfl
 |x::xs=>by rw[aw];unfold lF;rw[rF p xs];rfl
def Ek{α:Type}(p:α->Bool)(xs:List α):hZ .all [.lst (xs.map λx=>D.bl (p x))]=some (.bl (xs.all p)):=by
 show(lF _).map _=_;rw[rF];show some (D.bl ((xs.map p).all id))=_;rw[List.all_map];rfl
def yI(w:Str):(decide ((1:Int)<=(w.length:Int))&&decide ((w.length:Int)<=8))=(decide (1<=w.length)&&decide (w.length<=8)):=by
 congr 1
 .rw[decide_eq_decide];lia
 .rw[decide_eq_decide];lia
def FR(n:Nat)(w:Str)(hw:w.length<=sizeLine):PP.run Gs gls (n+1) 1 [.str w]=some (.bl (jN w)):=by
 apply dr;refine bV jD rfl rfl rfl ?_;simp only[jD,init,SI,Nat.reduceAdd,Nat.reduceSub];refine lQ (.bl ((decide ((1:Int)<=(w.length:Int))&&decide ((w.length:Int)<=8))&&(cs w).all isL)) (vB (oM (x:=.int 1) (y:=.int w.length) (z:=.int 8) ⋯ (len_str ⋯ hw) ⋯ rfl rfl) λ_=>gW (ds:=[.lst ((cs w).map λc=>.bl (isL c))]) (aL (vA (λc=>.str ⟨#[c]⟩) (λc=>.bl (isL c)) (cs w) (by rw[bT];exact hw) (nk (d:=.str w) ⋯ (if_pos hw)) rfl λc _=>oM (x:=.str "a") (y:=.str ⟨#[c]⟩) (z:=.str "z") ⋯ ⋯ ⋯ (le_lo s_a) (yK s_z)) rfl) (Ek _ _)) ?_;rw[yI];rfl
def Cn(n:Nat)(t:Str)(ht:t.length<=sizeLine):PP.run Gs gls (n+1) 2 [.str t]=some (.bl (nmB t)):=by
 apply dr;refine bV kH rfl rfl rfl ?_;simp only[kH,init,SI,Nat.reduceAdd,Nat.reduceSub]
 have e1:evT ⟨PP.run Gs gls n,gls,hfs Gs⟩ (.not (.chn .le .le (.int 1) (.blt .len (.cons (.var 0) .nil)) (.glob 3))) [.val (.str t)]=some (!(decide (1<=t.length)&&decide (t.length<=8)),[.val (.str t)]):=by
  rw[<- yI];exact gy (sZ (x:=.int 1) (y:=.int t.length) (z:=.int 8) ⋯ (len_str ⋯ ht) ⋯ rfl rfl)
 have e2:(!(decide (1<=t.length)&&decide (t.length<=8)))=false->evT ⟨PP.run Gs gls n,gls,hfs Gs⟩ (.not (.chn .le .le (.str "a") (.ix (.var 0) (.int 0)) (.str "z"))) [.val (.str t)]=some (!isL ((cs t).headD 0),[.val (.str t)]):=λh=>by
  obtain⟨c,r,e⟩:∃c r,cs t=c::r:=by
   cases e:cs t with
   |nil =>
    have:=bT t;rw[e]at this;rw[<- this]at h
    cases h
   |cons c r=>exact⟨c,r,rfl⟩
  have e3:ixD (.str t) (.int 0)=some (.str ⟨#[c]⟩):=by
   show(if t.length<=sizeLine then(atI (cs t) 0).map _ else none)=_;rw[if_pos ht,e,show(0:Int)=((0:Nat):Int)from rfl,atI_nat (xs:=c::r) (j:=0) rfl];rfl
  rw[e];exact gy (sZ (x:=.str "a") (y:=.str ⟨#[c]⟩) (z:=.str "z") ⋯ (eF (x:=.str t) (y:=.int 0) ⋯ ⋯ e3) ⋯ (le_lo s_a) (yK s_z))
 refine bj _ (jA e1 e2) (λh=>lQ (.bl false) ⋯ ?_) λh=>?_
 .unfold nmB
  revert h
  cases(decide (1<=t.length)&&decide (t.length<=8))<;>cases isL ((cs t).headD 0)<;>simp
 .show wSs _ (.cons _ _) _ _;refine lQ (.bl ((cs t).all isG)) (gW (ds:=[.lst ((cs t).map λc=>.bl (isG c))]) (aL (vA (λc=>.str ⟨#[c]⟩) (λc=>.bl (isG c)) (cs t) (by rw[bT];exact ht) (nk (d:=.str t) ⋯ (if_pos ht)) rfl λc _=>Hf (oM (x:=.str "a") (y:=.str ⟨#[c]⟩) (z:=.str "z") ⋯ ⋯ ⋯ (le_lo s_a) (yK s_z)) λ_=>oM (x:=.str "0") (y:=.str ⟨#[c]⟩) (z:=.str "9") ⋯ ⋯ ⋯ (le_lo s_0) (yK s_9)) rfl) (Ek _ _)) ?_;unfold nmB
  revert h
  cases(decide (1<=t.length)&&decide (t.length<=8))<;>cases isL ((cs t).headD 0)<;>simp
def tW(t:Str)(ls:List Str):((ls.map D.str).any λy=>eqD y (.str t))=decide (t∈ls):=by
 induction ls with
 |nil=>rfl
 |cons l ls ih =>
  rw[aw,dH,ih];unfold eqD;by_cases h:l=t
  .simp[h]
  .simp[h,Ne.symm h]
def GZ(t:Str)(ls:List Str):((ls.map D.str).findIdx? λd=>eqD d (.str t))=ls.findIdx? λy=>y==t:=by
 rw[List.findIdx?_map];congr 1
def xx(t:Str)(ls:List Str):dep (.str t)<=150/\eS (ls.map D.str)<99999:=⟨by rw[tw];lia,by rw[mC];lia⟩
def GY(t:Str)(ls:List Str):gv .isin (.str t) (.lst (ls.map .str))=some (decide (t∈ls)):=by
 show(if _ then some _ else none)=_;rw[if_pos (xx t ls),tW]
def xk(t:Str)(ls:List Str):gv .isin (.str t) (.tup (ls.map .str))=some (decide (t∈ls)):=by
 show(if _ then some _ else none)=_;rw[if_pos (xx t ls),tW]
def Ha{ls:List Str}{t:Str}(h:t∈ls):∃i,ls.findIdx? (λy=>y==t)=some i/\i<ls.length:=by
 cases e:ls.findIdx? (λy=>y==t)with
 |some i=>exact⟨i,rfl,(gc.mp e).1⟩
 |none =>
  have:=uf.mp e t h;simp at this
def DC{ls:List Str}{t:Str}(h:t∉ls):ls.findIdx? (λy=>y==t)=none:=uf.mpr λy hy=>by
 rw[beq_eq_false_iff_ne];rintro rfl;exact h hy
def qM{i:Nat}(h:i<11):hZ .toStr [.int i]=some (.str (toString (i:Int))):=by
 have:∀i:Nat,i<11->(i:Int).natAbs.log2<1920:=by decide
 exact if_pos (this i h)
def LO(n:Nat)(t:Str)(ls:List Str)(hl:ls.length<=10)(ht:t.length<=sizeLine):Ans (n+2) 5 30 [.str t,.lst (ls.map .str)] ((trm ls t).map .str):=by
 refine gK d_read_term x_read_term r_read_term rfl rfl rfl rfl rfl rfl rfl rfl rfl ?_;show wRs _ r_read_term [.val (.str t),.val (.lst (ls.map .str))] _;refine rX (decide (t∈ls)) (bN (x:=.str t) (y:=.lst (ls.map .str)) ⋯ ⋯ (GY t ls)) (λhm=>?_) λhm=>?_
 .obtain⟨i,e,hi⟩:=Ha (of_decide_eq_true hm);unfold trm;rw[e]
  have e1:mtD .index (.lst (ls.map .str)) (.str t)=some (.int i):=by
   show(if _ then _ else _)=_;rw[if_pos (xx t ls),GZ,e];rfl
  exact uA (gW (ds:=[.int i]) (aL (jB (x:=.lst (ls.map .str)) (y:=.str t) ⋯ ⋯ e1) rfl) (qM ∅))
 .unfold trm;rw[DC (of_decide_eq_false hm)];refine dz.mpr (gm (!nmB t) (gy (kG [.str t] ⋯ (Cn n t ht))) (λh=>?_) λh=>?_)
  .show nB (fM D.str (if nmB t=true then some t else none)) _;rw[if_neg (by simpa using h)];exact⟨_,rfl⟩
  .show wRs _ _ _ (nB (fM D.str (if nmB t=true then some t else none)));rw[if_pos (by simpa using h)];exact js ⋯
def pU:cs " "=[32]:=by decide
def spl(c:Nat)(x:Str):List Str:=(cQ c (cs x)).map sO
def Fh{x y:Str}{c:Nat}(h:cs y=[c])(hc:c<256):iP x y=spl c x:=by
 rw[show y=⟨#[c]⟩from gJ h,zB _ _ hc];rfl
def xZ(c:Nat):∀l:List Nat,(cQ c l).length<=l.length+1
 |[]=>by simp[cQ]
 |a::l=>by
  have ih:=xZ c l;unfold cQ;split
  .simp only[ag];lia
  .split
   .rename_i e;rw[e]at ih;simp only[ag]at ih |-
    lia
   .simp
def m_split{x y:Str}{c:Nat}(h:cs y=[c])(hc:c<256)(hx:x.length<sizeLine):mtD .split (.str x) (.str y)=some (.lst ((spl c x).map .str)):=by
 show(if _ then _ else _)=_;rw[Fh h hc,if_pos ⟨by rw[<- bT,h];exact Nat.succ_pos _,cI hx,by unfold spl;rw[ak];have:=xZ c (cs x);rw[bT]at this;lia⟩]
def Em(n:Nat)(t:Str)(ht:t.length<sizeLine):Ans (n+1) 3 28 [.str t,.str " "] (some (.lst ((spl 32 t).map .str))):=by
 refine gK d_pieces x_pieces r_pieces rfl rfl rfl rfl rfl rfl rfl rfl rfl ?_;show wRs _ r_pieces [.val (.str t),.val (.str " ")] _;exact gm false ⋯ (λh=>by cases h) λ_=>js (jB (x:=.str t) (y:=.str " ") ⋯ ⋯ (m_split pU ⇑0 ht))
def HC(n:Nat)(t:Str)(ht:t.length<sizeLine):Ans (n+2) 4 29 [.str t] (if 100<(spl 32 t).length then none else some (.lst ((spl 32 t).map .str))):=by
 refine gK d_words_in x_words_in r_words_in rfl rfl rfl rfl rfl rfl rfl rfl rfl ?_;show wRs _ r_words_in [.val (.str t),.no] _;refine kx (as:=[.str t,.str " "]) ⋯ (Em n t ht) (λh=>by cases h) λd hd e=>?_;cases hd;refine gI.mpr ⟨_,_,cJ [.str t,.str " "] ⋯ e,_,rfl,?_⟩;refine gm (decide ((100:Int)<(((spl 32 t).map D.str).length:Int))) (bN (x:=.int ((spl 32 t).map D.str).length) (y:=.int 100) (eK ⋯) ⋯ rfl) (λh=>?_) λh=>?_
 .rw[decide_eq_true_eq,ak]at h;rw[if_pos ∅];exact⟨_,rfl⟩
 .rw[decide_eq_false_iff_not,ak]at h;rw[if_neg ∅];exact js ⋯
def Am(n:Nat)(d:D)(hd:fW [d]=some (.bl false)):Ans (n+2) 4 29 [d] none:=by
 refine gK d_words_in x_words_in r_words_in rfl rfl rfl rfl rfl rfl rfl rfl rfl ?_;show wRs _ r_words_in [.val d,.no] _
 have A:Ans (n+1) 3 28 [d,.str " "] none:=by
  refine gK d_pieces x_pieces r_pieces rfl rfl rfl rfl rfl rfl rfl rfl rfl ?_;show wRs _ r_pieces [.val d,.val (.str " ")] _;exact gm true (gy (DL (f:=.isStr) (ds:=[d]) ⋯ hd)) (λ_=>⟨_,rfl⟩) λh=>by cases h
 exact kx (as:=[d,.str " "]) ⋯ A (λ_=>⟨_,rfl⟩) λd h=>by cases h
def xA:cs "("=[40]:=by decide
def xy:cs ")"=[41]:=by decide
def tH:cs ","=[44]:=by decide
def yf{y:Str}{c:Nat}(h:cs y=[c]):y=⟨#[c]⟩:=gJ h
def KI(w:Str)(hw:w.length<=sizeLine):mtD .part (.str w) (.str "(")=some (.tup [.str (sO (fC (cs w)).1),.str (if(fC (cs w)).2.isNone=true then "" else "("),.str (sO ((fC (cs w)).2.getD []))]):=by
 show(if _ then _ else _)=_;rw[if_pos ⟨⇑0,hw⟩]
 cases e:(fC (cs w)).2 with
 |none =>
  obtain⟨h1,h2⟩:=je e;rw[yf xA,Gm h1,h2]
  rfl
 |some v =>
  obtain⟨h1,h2⟩:=jd e;have ew:w=⟨((fC (cs w)).1++40::v).toArray⟩:=gJ h1;rw[show jJ w "("=jJ ⟨((fC (cs w)).1++40::v).toArray⟩ ⟨#[40]⟩ by rw[<- ew,<- yf xA],Gn h2];rfl
def KJ(l:List Nat):mtD .ends (.str (sO l)) (.str ")")=some (.bl (decide (l.getLast?=some 41))):=by
 show some (D.bl (decide (_<=_)&&subAt (sO l) ")" _))=_;have e2:(")":Str).length=1:=by decide
 rw[e2,yf xy,sub_one,eQ,fE];show some (D.bl (decide _&&decide (l[l.length-1]?=some 41)))=_
 cases l with
 |nil=>rfl
 |cons a l=>rw[ag,decide_eq_true (show 1<=l.length+1 by lia),Bool.true_and]
def Mz(l:List Nat):lL (sO l) none (some (-1))=sO l.dropLast:=by
 cases l with
 |nil=>rfl
 |cons a l =>
  refine(StrLaws.sliceText_to_neg (x:=sO (a::l)) (j:=-1) ∅ (by rw[eQ,ag];lia)).trans (gJ ?_);show((a::l).drop 0).take ((-1:Int)+((sO (a::l)).length:Int)-0).toNat=(a::l).dropLast;rw[eQ,gi,gF];congr 1;rw[ag]
  lia
def WIt:List (Str×Int):=[("yes",0),("no",0),("not",1),("and",2),("or",2),("if",2)]
def mX{P:Str->Prop}{w:Str}(h:w∈res)(h1:P "yes")(h2:P "no")(h3:P "not")(h4:P "and")(h5:P "or")(h6:P "if")(h7:P "all")(h8:P "some"):P w:=by
 simp only[res,aA,bS,or_false]at h;rcases h with rfl|rfl|rfl|rfl|rfl|rfl|rfl|rfl<;>assumption
def sv{w:Str}(h:w∉res):∀r∈res,(w==r)=false:=λr hr=>by
 rw[beq_eq_false_iff_ne];rintro rfl;exact h hr
def bns:List Str:=["all","some"]
def kw(u:Str):(((WIt.lookup u).isSome != false)||decide (u∈bns))=decide (u∈res):=by
 by_cases h:u∈res
 .exact mX (P:=λu=>(((WIt.lookup u).isSome != false)||decide (u∈bns))=decide (u∈res)) h ⇑0 ⇑0 ⇑0 ⇑0 ⇑0 ⇑0 ⇑0 ⇑0
 .have e:WIt.lookup u=none:=by
   have n:=sv h;simp only[WIt,br,n "yes" ⇑0,n "no" ⇑0,n "not" ⇑0,n "and" ⇑0,n "or" ⇑0,n "if" ⇑0,kq]
  rw[e,decide_eq_false h,decide_eq_false (λm=>h (by
   simp only[bns,aA,bS,or_false]at m;rcases m with rfl|rfl<;>decide))]
  rfl
def ux{n:Nat}{f x i:Nat}{es:Es}{δ:PP.Loc}{L:D}{g:Str->Option Str}(hi:i=δ.length)(he:∀t:Str,cT ⟨PP.run Gs gls n,gls,hfs Gs⟩ es (δ++[.val (.str t)])=some ([.str t,L],δ++[.val (.str t)])) :
 ∀ts:List Str,(∀t∈ts,Ans n f x [.str t,L] ((g t).map .str))->xvC ⟨PP.run Gs gls n,gls,hfs Gs⟩ 1 (.nm i) f x es (ts.map .str) δ=if(ts.all λt=>(g t).isSome)=true then none else some (("NoText":Str),δ)
 |[],_=>rfl
 |t::ts,h=>by
  have es':dA (δ++aC 1 .no) (.nm i) (.str t)=some (δ++[.val (.str t)]):=by
   show(if i<(δ++aC 1 Sl.no).length then _ else _)=_;rw[if_pos (by rw[hi];simp),hi];simp[eO]
  have ih:=ux hi he ts λu hu=>h u (ao _ hu);have A:=h t ay;rw[aw];unfold xvC;rw[es',ah]
  cases e:g t with
  |none =>
   rw[e]at A
   have e1:xvF ⟨PP.run Gs gls n,gls,hfs Gs⟩ x es (δ++[.val (.str t)])=some (("NoText":Str),δ++[.val (.str t)]):=by
    unfold xvF;rw[he t];dsimp only;rw[show PP.run Gs gls n x [.str t,L]=_ from A]
   rw[e1,cj,e];dsimp only;rw[iM]
   rfl
  |some u =>
   rw[e]at A
   have e1:xvF ⟨PP.run Gs gls n,gls,hfs Gs⟩ x es (δ++[.val (.str t)])=none:=by
    unfold xvF;rw[he t];dsimp only;rw[A.2]
   have e2:nR ⟨PP.run Gs gls n,gls,hfs Gs⟩ 1 (.nm i) .no (.call f es) (.str t) δ=some (some (.str u),δ):=by
    unfold nR;simp only[es',ae,ah,evG,if_true,cJ _ (he t) A.1];show some (_,_)=_;rw[iM]
   rw[e1,e2,cj,e];exact ih
def oY(ls:List Str):∀ts:List Str,(ts.all λt=>(trm ls t).isSome)=(iO ls ts).isSome
 |[]=>rfl
 |t::ts=>by
  have ih:=oY ls ts;rw[cj,ih,show iO ls (t::ts)=(trm ls t).bind λu=>(iO ls ts).map (u::·)from rfl]
  cases trm ls t with
  |none=>rfl
  |some u=>cases iO ls ts<;>rfl
def uE{ls:List Str}:∀{ts us:List Str},iO ls ts=some us->us.map D.str=ts.map λt=>.str ((trm ls t).getD "")
 |[],us,h=>by cases h;rfl
 |t::ts,us,h=>by
  unfold iO at h;obtain⟨u,e1,h⟩:=af.mp h;obtain⟨vs,e2,rfl⟩:=aj.mp h;rw[aw,aw,uE e2,e1];rfl
def mU(c:Nat):∀l:List Nat,∀w∈cQ c l,w.length<=l.length
 |[],w,h=>by
  rw[bY.mp (show w∈[[]]from h)]
  exact aD _
 |a::l,w,h=>by
  have ih:=mU c l;unfold cQ at h;split at h
  .rcases aA.mp h with rfl|h
   .exact bP _
   .have:=ih w h;rw[ag];lia
  .split at h
   .rename_i v vs e;rw[e]at ih;rcases aA.mp h with rfl|h
    .have:=ih v ay;rw[ag,ag];lia
    .have:=ih w (ao _ h);rw[ag];lia
   .rw[bY.mp h];simp only[ag,aN];lia
def pT:∀l:List Nat,(fC l).1.length<=l.length/\∀v,(fC l).2=some v->v.length<l.length
 |[]=>⟨aD _,λv h=>by cases h⟩
 |a::l=>by
  obtain⟨h1,h2⟩:=pT l;unfold fC;split
  .exact⟨bP _,λv h=>by cases h;rw[ag];lia⟩
  .exact⟨by simp only[ag];lia,λv h=>by have:=h2 v h;rw[ag];lia⟩
def LN(n:Nat)(w:Str)(ls:List Str)(hl:ls.length<=10)(hw:w.length<sizeLine):Ans (n+3) 6 31 [.str w,.lst (ls.map .str)] ((wrd w ls).map enc):=by
 refine gK d_read_word x_read_word r_read_word rfl rfl rfl rfl rfl rfl rfl rfl rfl ?_;show wRs _ r_read_word [.val (.str w),.val (.lst (ls.map .str)),.no,.no,.no,.no] _;obtain⟨l1,l2⟩:=pT (cs w);rw[bT]at l1 l2;unfold wrd;have mp:=KI w (cI hw);generalize (fC (cs w)).1=u at *;generalize (fC (cs w)).2=o at *;refine oz _ (jB (x:=.str w) (y:=.str "(") ⋯ ⋯ mp) ⟨_,rfl,?_⟩;show wRs _ _ [.val (.str w),.val (.lst (ls.map .str)),.val (.str (sO u)),.val (.str (if o.isNone=true then "" else "(")),.val (.str (sO (o.getD []))),.no] _;refine gm (!(jN (sO u)&&!decide (sO u∈res))) ?_ (λh=>?_) λh=>?_
 .rw[Bool.not_and,Bool.not_not,<- kw];exact gq (gy (kG [.str (sO u)] ⋯ (FR (n+1) (sO u) (by rw[eQ];lia)))) (gq (yR (x:=sO u) ⋯) (bN (x:=.str (sO u)) (y:=.tup (bns.map .str)) ⋯ ⋯ (xk _ _)))
 .have h':¬(jN (sO u)&&!decide (sO u∈res))=true:=by
   rw[de]at h;rw[h];exact aq
  cases o with
  |none=>rw[show oa (sO u) ls none=none from if_neg h'];exact⟨_,rfl⟩
  |some v=>rw[show oa (sO u) ls (some v)=none from if_neg λz=>h' z.1];exact⟨_,rfl⟩
 have h':(jN (sO u)&&!decide (sO u∈res))=true:=by
  rw[dw]at h;exact h
 cases o with
 |none =>
  rw[show oa (sO u) ls none=some (.word (sO u) [])from if_pos h'];refine rX true ⋯ (λ_=>?_) λh=>by cases h
  exact uA ⋯
 |some v =>
  have lv:=l2 v rfl;refine rX false ⋯ (λh=>by cases h) λ_=>dz.mpr ?_;show wRs _ _ [.val (.str w),.val (.lst (ls.map .str)),.val (.str (sO u)),.val (.str "("),.val (.str (sO v)),.no] _;have le:=lb (xs:=v)
  have sp:evE ⟨PP.run Gs gls (n+2),gls,hfs Gs⟩ (.mt .split (.sl (.var 4) .no (.yes (.neg (.int 1)))) (.str ",")) [.val (.str w),.val (.lst (ls.map .str)),.val (.str (sO u)),.val (.str "("),.val (.str (sO v)),.no]=some (.lst ((spl 44 (sO v.dropLast)).map .str),[.val (.str w),.val (.lst (ls.map .str)),.val (.str (sO u)),.val (.str "("),.val (.str (sO v)),.no]):=by
   refine jB (x:=.str (sO v.dropLast)) (y:=.str ",") (eh (x:=.str (sO v)) (l:=none) (h:=some (-1)) ⋯ rfl ⋯ ?_) ⋯ (m_split tH ⇑0 (by rw[eQ];lia));rw[<- Mz];exact if_pos (by rw[eQ];lia)
  refine oz _ sp ⟨_,rfl,?_⟩;show wRs _ _ [.val (.str w),.val (.lst (ls.map .str)),.val (.str (sO u)),.val (.str "("),.val (.str (sO v)),.val (.lst ((spl 44 (sO v.dropLast)).map .str))] _;have et:(spl 44 (sO v.dropLast)).length=(cQ 44 v.dropLast).length:=ak _;refine gm (!decide (v.getLast?=some 41)||decide ((3:Int)<(((spl 44 (sO v.dropLast)).map D.str).length:Int))) (gq (gy (Lh (x:=.str (sO v)) (y:=.str ")") ⋯ ⋯ (KJ v))) (bN (x:=.int ((spl 44 (sO v.dropLast)).map D.str).length) (y:=.int 3) (eK ⋯) ⋯ rfl)) (λh=>?_) λh=>?_
  .rw[show oa (sO u) ls (some v)=none from if_neg λz=>?_]
   .exact⟨_,rfl⟩
   .rw[ak,et,decide_eq_true z.2.1]at h;simp at h
    lia
  .have hc:(jN (sO u)&&!decide (sO u∈res))=true/\v.getLast?=some 41/\(cQ 44 v.dropLast).length<=3:=by
    rw[ak,et]at h;simp at h;exact⟨h',h.1,∅⟩
   rw[show oa (sO u) ls (some v)=(iO ls (spl 44 (sO v.dropLast))).map (.word (sO u))from if_pos hc]
   have hts:∀t∈spl 44 (sO v.dropLast),t.length<=sizeLine:=λt ht=>by
    obtain⟨x,hx,rfl⟩:=cG.mp ht;have:=mU 44 _ x hx;rw[kX]at this;rw[eQ];lia
   have h3:(spl 44 (sO v.dropLast)).length<=3:=by rw[et];exact hc.2.2
   generalize spl 44 (sO v.dropLast)=ts at *;have A:∀t∈ts,Ans (n+2) 5 30 [.str t,.lst (ls.map .str)] ((trm ls t).map .str):=λt ht=>LO n t ls hl (hts t ht);have xc:=ux (n:=n+2) (f:=5) (x:=30) (i:=6) (es:=.cons (.var 6) (.cons (.var 1) .nil)) (δ:=[.val (.str w),.val (.lst (ls.map .str)),.val (.str (sO u)),.val (.str "("),.val (.str (sO v)),.val (.lst (ts.map .str))]) (L:=.lst (ls.map .str)) rfl (λt=>by kernel_rfl) ts A;rw[oY]at xc
   have ex:∀δ:PP.Loc,δ=[.val (.str w),.val (.lst (ls.map .str)),.val (.str (sO u)),.val (.str "("),.val (.str (sO v)),.val (.lst (ts.map .str))]->xvE ⟨PP.run Gs gls (n+2),gls,hfs Gs⟩ (.tup (.tl (.str "word") (.tl (.var 2) (.hd (.tot (.cmp 1 (.nm 6) (.sq (.var 5)) 5 30 (.cons (.var 6) (.cons (.var 1) .nil)))) .nil)))) δ=xvC ⟨PP.run Gs gls (n+2),gls,hfs Gs⟩ 1 (.nm 6) 5 30 (.cons (.var 6) (.cons (.var 1) .nil)) (ts.map .str) δ:=λδ hδ=>by
    subst hδ;show(if(ts.map D.str).length<=sizeLine then _ else _)=_;rw[if_pos (by rw[ak];exact big ∅)];rfl
   cases e:iO ls ts with
   |none =>
    rw[e,if_neg ↥0]at xc;refine cO.mpr (iA (p:=("NoText",_)) (by rw[aR,ex _ rfl,xc]) ?_)
    exact⟨_,rfl⟩
   |some us =>
    rw[e,if_pos (show(some us).isSome=true from rfl)]at xc;refine cO.mpr (lT (by rw[aR,ex _ rfl,xc];rfl) (jr.mpr ⟨enc (.word (sO u) us),_,gz (aL ⋯ (aL (d:=.str (sO u)) ⋯ (aL (d:=.tup (us.map .str)) (zZ ?_) rfl))) (by show 3<=sizeLine;decide),⟨_,rfl⟩⟩));rw[uE e];refine pR (λt:Str=>.str t) (λt=>.str ((trm ls t).getD "")) (λt=>[.str t,.lst (ls.map .str)]) ts (big ∅) ⋯ rfl (λt _=>by kernel_rfl) λt ht=>?_;have a:=A t ht;obtain⟨z,hz⟩:∃z,trm ls t=some z:=rM.mp (bO.mp (by rw[oY,e];rfl:(ts.all λt=>(trm ls t).isSome)=true) t ht);rw[hz]at a |-;exact a.1
end P1
end
section
namespace P1
open PySem L2 PP
section
variable{F:Type}(isB cap:Str->Bool)(ar:Str->Nat)(lf:Str->List Str->Option F)(nd:Str->List F->F)
def rd:Nat->List Str->List Str->Option (F×List Str)
 |0,_,_=>none
 |_+1,_,[]=>none
 |n+1,a,w::r=>if 10<a.length then none else if isB w=true then(match r with
   |[]=>none
   |l::r=>if cap l=true then(rd n (l::a) r).map λp=>(nd w [p.1],p.2)else none)
  else match ar w with
   |0=>(lf w a).map λA=>(A,r)
   |1=>(rd n a r).map λp=>(nd w [p.1],p.2)
   |_=>(rd n a r).bind λp=>(rd n a p.2).map λq=>(nd w [p.1,q.1],q.2)
def rs(n:Nat):List (List Str)->List Str->Option (List F×List Str)
 |[],ws=>some ([],ws)
 |a::st,ws=>(rd isB cap ar lf nd n a ws).bind λp=>(rs n st p.2).map λq=>(p.1::q.1,q.2)
def wk:List Str->List (List Str)->Option (List (Str×List Str))
 |[],[]=>some []
 |[],_::_=>none
 |_::_,[]=>none
 |[w],a::st=>if 10<a.length then none else if isB w=true then none else(wk [] (aC (ar w) a++st)).map λl=>(w,a)::l
 |w::l::r,a::st=>if 10<a.length then none else if isB w=true then(if cap l=true then(wk r ((l::a)::st)).map λl=>(w,a)::l else none)else(wk (l::r) (aC (ar w) a++st)).map λl=>(w,a)::l
def bd:List (Str×List Str)->Option (List F)
 |[]=>some []
 |(w,a)::l=>(bd l).bind λst=>if isB w=true then(match st with
    |A::st=>some (nd w [A]::st)
    |[]=>none)
  else match ar w,st with
   |0,st=>(lf w a).map λA=>A::st
   |1,A::st=>some (nd w [A]::st)
   |2,A::B::st=>some (nd w [A,B]::st)
   |_,_=>none
variable{isB cap ar lf nd}
theorem fR:∀{n:Nat}{a ws:List Str}{A:F}{r:List Str},rd isB cap ar lf nd n a ws=some (A,r)->r.length<ws.length
 |0,_,_,_,_,h=>by simp[rd]at h
 |n+1,a,[],_,_,h=>by simp[rd]at h
 |n+1,a,w::r,A,r',h=>by
  simp only[rd]at h;split at h
  .cases h
  split at h
  .split at h
   .cases h
   .split at h
    .obtain⟨⟨B,q⟩,e,h⟩:=aj.mp h;cases h;have:=fR e;simp only[ag]at this |-;omega
    .cases h
  split at h
  .obtain⟨B,e,h⟩:=aj.mp h;cases h;simp
  .obtain⟨⟨B,q⟩,e,h⟩:=aj.mp h;cases h;have:=fR e;simp only[ag]at this |-;omega
  .obtain⟨⟨B,q⟩,e,h⟩:=af.mp h;obtain⟨⟨C,q'⟩,e',h⟩:=aj.mp h;cases h;have:=fR e;have:=fR e';simp only[ag]at *;omega
theorem pB:∀{n:Nat}{a ws:List Str}{A:F}{r:List Str},rd isB cap ar lf nd n a ws=some (A,r)->∀v∈r,v∈ws
 |0,_,_,_,_,h,_,_=>by simp[rd]at h
 |n+1,a,[],_,_,h,_,_=>by simp[rd]at h
 |n+1,a,w::r,A,r',h,v,hv=>by
  simp only[rd]at h;split at h
  .cases h
  split at h
  .split at h
   .cases h
   .split at h
    .obtain⟨⟨B,q⟩,e,h⟩:=aj.mp h;cases h;exact ao _ (ao _ (pB e v hv))
    .cases h
  split at h
  .obtain⟨B,e,h⟩:=aj.mp h;cases h;exact ao _ hv
  .obtain⟨⟨B,q⟩,e,h⟩:=aj.mp h;cases h;exact ao _ (pB e v hv)
  .obtain⟨⟨B,q⟩,e,h⟩:=af.mp h;obtain⟨⟨C,q'⟩,e',h⟩:=aj.mp h;cases h;exact ao _ (pB e v (pB e' v hv))
theorem oE:∀{n m:Nat}{a ws:List Str},ws.length<n->ws.length<m->rd isB cap ar lf nd n a ws=rd isB cap ar lf nd m a ws
 |0,_,_,_,h,_=>by omega
 |_+1,0,_,_,_,h=>by omega
 |n+1,m+1,a,[],_,_=>rfl
 |n+1,m+1,a,w::r,h1,h2=>by
  simp only[ag]at h1 h2;have ih:∀a,rd isB cap ar lf nd n a r=rd isB cap ar lf nd m a r:=λa=>oE (by omega) (by omega);simp only[rd];split
  .rfl
  split
  .cases r with
   |nil=>rfl
   |cons l r =>
    simp only[ag]at h1 h2;dsimp only;rw[oE (n:=n) (m:=m) (by omega) (by omega)]
  split
  .rfl
  .rw[ih]
  .rw[ih]
   cases e:rd isB cap ar lf nd m a r with
   |none=>rfl
   |some p =>
    have:=fR (A:=p.1) (r:=p.2) e;show fM _ _=fM _ _;rw[oE (n:=n) (m:=m) (by omega) (by omega)]
def all(o:Option (List F×List Str)):Option (List F):=o.bind λq=>if q.2=[]then some q.1 else none
theorem fG{n:Nat}{a:List Str}{st:List (List Str)}{ws:List Str}:all (rs isB cap ar lf nd n (a::st) ws)=(rd isB cap ar lf nd n a ws).bind λp=>(all (rs isB cap ar lf nd n st p.2)).map λq=>p.1::q:=by
 unfold all;simp only[rs]
 cases rd isB cap ar lf nd n a ws with
 |none=>rfl
 |some p =>
  simp only[ah]
  cases rs isB cap ar lf nd n st p.2 with
  |none=>rfl
  |some q =>
   simp only[bo,ah];split<;>rfl
theorem AL:∀(n:Nat)(ws:List Str)(st:List (List Str)),(∀w,ar w<=2)->ws.length<n->(wk isB cap ar ws st).bind (bd isB ar lf nd)=all (rs isB cap ar lf nd n st ws)
 |0,_,_,_,h=>by omega
 |n+1,[],[],_,_=>rfl
 |n+1,[],a::st,_,_=>rfl
 |n+1,w::r,[],_,_=>by simp[wk,rs,all]
 |n+1,w::r,a::st,ha,h=>by
  simp only[ag]at h;have ih:=λst=>AL n r st ha (by omega)
  -- one level more of fuel
  have up:∀(st:List (List Str))(m:Nat)(ws:List Str),ws.length<n->all (rs isB cap ar lf nd n st ws)=all (rs isB cap ar lf nd (n+1) st ws):=λst=>by
   induction st with
   |nil=>intro m ws _;rfl
   |cons b st ih2 =>
    intro m ws hl;rw[fG,fG,oE (n:=n) (m:=n+1) hl (by omega)]
    cases e:rd isB cap ar lf nd (n+1) b ws with
    |none=>rfl
    |some p =>
     have:=fR (A:=p.1) (r:=p.2) e;simp only[ah];rw[ih2 0 p.2 (by omega)]
  by_cases h10:10<a.length
  .rw[fG];have e:rd isB cap ar lf nd (n+1) a (w::r)=none:=by simp only[rd,if_pos h10]
   rw[e];cases r<;>simp[wk,h10]
  by_cases hB:isB w=true
  .cases r with
   |nil =>
    rw[fG];have e:rd isB cap ar lf nd (n+1) a [w]=none:=by simp only[rd,if_neg h10,if_pos hB]
    rw[e]
    simp[wk,h10,hB]
   |cons l r =>
    by_cases hc:cap l=true
    .have ih:=AL n r ((l::a)::st) ha (by simp only[ag]at h;omega);rw[fG]at ih;rw[fG];have e:rd isB cap ar lf nd (n+1) a (w::l::r)=(rd isB cap ar lf nd n (l::a) r).map λp=>(nd w [p.1],p.2):=by simp only[rd,if_neg h10,if_pos hB,if_pos hc]
     have e2:wk isB cap ar (w::l::r) (a::st)=(wk isB cap ar r ((l::a)::st)).map λl=>(w,a)::l:=by simp only[wk,if_neg h10,if_pos hB,if_pos hc]
     rw[e,e2]
     have e3:((wk isB cap ar r ((l::a)::st)).map λl=>(w,a)::l).bind (bd isB ar lf nd)=((wk isB cap ar r ((l::a)::st)).bind (bd isB ar lf nd)).bind λst=>match st with
      |A::st=>some (nd w [A]::st)
      |[]=>none:=by
      cases wk isB cap ar r ((l::a)::st)with
      |none=>rfl
      |some x=>simp only[bo,ah,bd,if_pos hB]
     rw[e3,ih]
     cases er:rd isB cap ar lf nd n (l::a) r with
     |none=>rfl
     |some p =>
      have:=fR (A:=p.1) (r:=p.2) er;simp only[ah,bo];rw[up st 0 p.2 (by simp only[ag]at h;omega)];cases all (rs isB cap ar lf nd (n+1) st p.2)<;>rfl
    .rw[fG];have e:rd isB cap ar lf nd (n+1) a (w::l::r)=none:=by simp only[rd,if_neg h10,if_pos hB,if_neg hc]
     rw[e];simp[wk,h10,hB,hc]
  have ew:wk isB cap ar (w::r) (a::st)=(wk isB cap ar r (aC (ar w) a++st)).map λl=>(w,a)::l:=by
   cases r<;>simp only[wk,if_neg h10,if_neg hB]
  have er:rd isB cap ar lf nd (n+1) a (w::r)=match ar w with
   |0=>(lf w a).map λA=>(A,r)
   |1=>(rd isB cap ar lf nd n a r).map λp=>(nd w [p.1],p.2)
   |_=>(rd isB cap ar lf nd n a r).bind λp=>(rd isB cap ar lf nd n a p.2).map λq=>(nd w [p.1,q.1],q.2):=by simp only[rd,if_neg h10,if_neg hB]
  have eb:∀(o:Option (List (Str×List Str))),(o.map λl=>(w,a)::l).bind (bd isB ar lf nd)=(o.bind (bd isB ar lf nd)).bind λst=>match ar w,st with
   |0,st=>(lf w a).map λA=>A::st
   |1,A::st=>some (nd w [A]::st)
   |2,A::B::st=>some (nd w [A,B]::st)
   |_,_=>none:=λo=>by
   cases o with
   |none=>rfl
   |some x=>simp only[bo,ah,bd,if_neg hB]
  rw[ew,eb,ih,fG,er];have h2:=ha w
  match hw:ar w,h2 with
  |0,_ =>
   simp only[aC,ic];rw[up st 0 r (by omega)]
   cases lf w a with
   |none=>cases all (rs isB cap ar lf nd (n+1) st r)<;>rfl
   |some A =>
    show(all (rs isB cap ar lf nd (n+1) st r)).bind (λst=>some (A::st))=(all (rs isB cap ar lf nd (n+1) st r)).map λq=>A::q
    cases all (rs isB cap ar lf nd (n+1) st r)<;>rfl
  |1,_ =>
   simp only[aC,gH,ic];rw[fG]
   cases er:rd isB cap ar lf nd n a r with
   |none=>rfl
   |some p =>
    have:=fR (A:=p.1) (r:=p.2) er;simp only[ah,bo];rw[up st 0 p.2 (by omega)]
    cases all (rs isB cap ar lf nd (n+1) st p.2)<;>rfl
  |2,_ =>
   simp only[aC,gH,ic];rw[fG]
   cases er:rd isB cap ar lf nd n a r with
   |none=>rfl
   |some p =>
    have:=fR (A:=p.1) (r:=p.2) er;simp only[ah];rw[fG]
    cases er2:rd isB cap ar lf nd n a p.2 with
    |none=>rfl
    |some q =>
     have:=fR (A:=q.1) (r:=q.2) er2;simp only[ah,bo];rw[up st 0 q.2 (by omega)];cases all (rs isB cap ar lf nd (n+1) st q.2)<;>rfl
theorem yZ{pz:F->Nat}(hn1:∀w a,pz (nd w [a])=1+pz a)(hn2:∀w a b,pz (nd w [a,b])=1+pz a+pz b)(hl:∀w a A,lf w a=some A->pz A=1):∀{l:List (Str×List Str)}{fs:List F},bd isB ar lf nd l=some fs->(fs.map pz).sum=l.length
 |[],_,h=>by cases h;rfl
 |(w,a)::l,fs,h=>by
  simp only[bd]at h;obtain⟨st,e,h⟩:=af.mp h;have ih:=yZ hn1 hn2 hl e;rw[ag,<- ih];split at h
  .split at h
   .cases h;simp only[aw,aY,hn1];omega
   .cases h
  .split at h
   .obtain⟨A,eA,h⟩:=aj.mp h;cases h;simp only[aw,aY,hl _ _ _ eA];omega
   .cases h;simp only[aw,aY,hn1];omega
   .cases h;simp only[aw,aY,hn2];omega
   .cases h
theorem oP:∀{ws:List Str}{st:List (List Str)}{l:List (Str×List Str)},wk isB cap ar ws st=some l->ws.length<=2*l.length
 |[],[],l,h=>by cases h;simp
 |[],_::_,l,h=>by simp[wk]at h
 |_::_,[],l,h=>by simp[wk]at h
 |[w],a::st,l,h=>by
  simp only[wk]at h;split at h
  .cases h
  split at h
  .cases h
  obtain⟨l,_,rfl⟩:=aj.mp h;simp only[ag,aN]
  omega
 |w::x::r,a::st,l,h=>by
  simp only[wk]at h;split at h
  .cases h
  split at h
  .split at h
   .obtain⟨l,e,rfl⟩:=aj.mp h;have:=oP e;simp only[ag]at this |-;omega
   .cases h
  .obtain⟨l,e,rfl⟩:=aj.mp h;have:=oP e;simp only[ag]at this |-;omega
def wl(isB cap:Str->Bool)(ar:Str->Nat):List Str->List (List Str)->Option (List (Str×List Str)×List (List Str))
 |[],st=>some ([],st)
 |_::_,[]=>none
 |[w],a::st=>if isB w=true then none else(wl isB cap ar [] (aC (ar w) a++st)).map λp=>((w,a)::p.1,p.2)
 |w::l::r,a::st=>if isB w=true then(if cap l=true then(wl isB cap ar r ((l::a)::st)).map λp=>((w,a)::p.1,p.2)else none)else(wl isB cap ar (l::r) (aC (ar w) a++st)).map λp=>((w,a)::p.1,p.2)
def qi(l:List (Str×List Str)):Bool:=l.all λp=>decide (p.2.length<=10)
def ends(p:List (Str×List Str)×List (List Str)):Option (List (Str×List Str)):=if p.2=[]/\qi p.1=true then some p.1 else none
theorem Ac{w:Str}{a:List Str}(p:List (Str×List Str)×List (List Str))(h:¬10<a.length):ends ((w,a)::p.1,p.2)=(ends p).map λl=>(w,a)::l:=by
 have e:qi ((w,a)::p.1)=qi p.1:=by
  unfold qi;rw[cj,decide_eq_true (show a.length<=10 by omega),Bool.true_and]
 unfold ends;dsimp only;rw[e];split<;>rfl
theorem Ab{w:Str}{a:List Str}(p:List (Str×List Str)×List (List Str))(h:10<a.length):ends ((w,a)::p.1,p.2)=none:=by
 unfold ends qi;refine if_neg λz=>?_;have:=z.2;rw[cj,aa,decide_eq_true_eq]at this;have:=this.1;dsimp only at this;omega
theorem bm{o:Option (List (Str×List Str)×List (List Str))}{w:Str}{a:List Str}:(o.map λp=>((w,a)::p.1,p.2)).bind ends=if 10<a.length then none else(o.bind ends).map λl=>(w,a)::l:=by
 cases o with
 |none=>split<;>rfl
 |some p =>
  simp only[bo,ah];split
  .exact Ab p ‹_›
  .exact Ac p ‹_›
theorem uy:∀(n:Nat)(ws:List Str)(st:List (List Str)),ws.length<n->wk isB cap ar ws st=(wl isB cap ar ws st).bind ends
 |0,_,_,h=>by omega
 |n+1,[],[],_=>rfl
 |n+1,[],_::_,_=>by
  simp only[wk,wl,ah,ends]
  rw[if_neg ↥0]
 |n+1,_::_,[],_=>by simp only[wk,wl,fi]
 |n+1,[w],a::st,h=>by
  simp only[wk,wl];by_cases hB:isB w=true
  .simp only[if_pos hB,fi];split<;>rfl
  .simp only[if_neg hB];have:=uy n [] (aC (ar w) a++st) (by simp only[ag,aN]at h |-;omega);simp only[wl]at this
   rw[bm,this]
 |n+1,w::l::r,a::st,h=>by
  simp only[ag]at h;simp only[wk,wl];by_cases hB:isB w=true
  .simp only[if_pos hB];by_cases hc:cap l=true
   .simp only[if_pos hc];rw[bm,<- uy n r _ (by omega)]
   .simp only[if_neg hc,fi];split<;>rfl
  .simp only[if_neg hB];rw[bm,<- uy n (l::r) _ (by simp only[ag];omega)]
def Wn(isB:Str->Bool)(ar:Str->Nat):List (Str×List Str)->Nat->Prop
 |[],n=>n=0
 |(w,_)::l,n=>∃k,n=k+1/\Wn isB ar l ((if isB w=true then 1 else ar w)+k)
theorem xT:∀(n:Nat)(ws:List Str)(st:List (List Str))(l:List (Str×List Str)),ws.length<n->wl isB cap ar ws st=some (l,[])->Wn isB ar l st.length
 |0,_,_,_,h,_=>by omega
 |n+1,[],st,l,_,h=>by
  simp only[wl]at h;cases h
  rfl
 |n+1,_::_,[],l,_,h=>by simp only[wl]at h;cases h
 |n+1,[w],a::st,l,h,e=>by
  simp only[wl]at e;split at e
  .cases e
  .rename_i hB;obtain⟨⟨l',st'⟩,e1,e2⟩:=aj.mp e;cases e2;have:=xT n [] _ _ (by simp only[ag,aN]at h |-;omega) e1;rw[az,cS]at this
   exact⟨st.length,rfl,by rw[if_neg hB];exact this⟩
 |n+1,w::x::r,a::st,l,h,e=>by
  simp only[ag]at h;simp only[wl]at e;split at e
  .rename_i hB;split at e
   .obtain⟨⟨l',st'⟩,e1,e2⟩:=aj.mp e;cases e2;have:=xT n r _ _ (by omega) e1;rw[ag]at this;exact⟨st.length,rfl,by rw[if_pos hB,Nat.add_comm];exact this⟩
   .cases e
  .rename_i hB;obtain⟨⟨l',st'⟩,e1,e2⟩:=aj.mp e;cases e2;have:=xT n (x::r) _ _ (by simp only[ag];omega) e1;rw[az,cS]at this;exact⟨st.length,rfl,by rw[if_neg hB];exact this⟩
end
end P1
end
section
namespace P1
open PySem L2 PP Builtin.Str
def LS:Str:="ABCDEFGHIJKLMNOPQRSTUVWXYZ"
def cap(l:Str):Bool:=decide (l.length=1)&&vg LS l
def isB(w:Str):Bool:=decide (w∈bns)
def ar(w:Str):Nat:=match WIt.lookup w with
 |some i=>i.toNat
 |none=>0
def lf(w:Str)(a:List Str):Option F:=if w="yes" then some .yes else if w="no" then some .no else wrd w a
def nd(w:Str):List F->F
 |[a]=>if w="all" then .q true a else if w="some" then .q false a else .neg a
 |[a,b]=>if w="and" then .bi .and a b else if w="or" then .bi .or a b else .bi .imp a b
 |_=>.yes
def RD(n:Nat)(a ws:List Str):Option (F×List Str):=rd isB cap ar lf nd n a ws
def LR(n:Nat)(a:List Str):RD n a []=none:=by cases n<;>rfl
def HF{n:Nat}{a ws:List Str}(h:10<a.length):RD n a ws=none:=by
 cases n with
 |zero=>rfl
 |succ n=>cases ws with
  |nil=>rfl
  |cons w r=>exact if_pos h
def HX{a:D}{ds:List D}:slD (.lst (a::ds)) (some 1) none=some (.lst ds):=by
 show some (D.lst (cutD (a::ds) (some 1) none))=_
 have e1:HT.sIx (a::ds).length 0 (some 1)=1:=by
  rw[show(1:Int)=((1:Nat):Int)from rfl,HT.sIx_nat];simp
 have e2:HT.sIx (a::ds).length (a::ds).length none=(a::ds).length:=rfl;unfold cutD;rw[e1,e2];simp
def HW{a b:D}{ds:List D}:slD (.lst (a::b::ds)) (some 2) none=some (.lst ds):=by
 show some (D.lst (cutD (a::b::ds) (some 2) none))=_
 have e1:HT.sIx (a::b::ds).length 0 (some 2)=2:=by
  rw[show(2:Int)=((2:Nat):Int)from rfl,HT.sIx_nat];simp
 have e2:HT.sIx (a::b::ds).length (a::b::ds).length none=(a::b::ds).length:=rfl;unfold cutD;rw[e1,e2];simp
def at0{a:D}{ds:List D}:ixD (.lst (a::ds)) (.int 0)=some a:=atI_nat (j:=0) rfl
def at1{a b:D}{ds:List D}:ixD (.lst (a::b::ds)) (.int 1)=some b:=atI_nat (j:=1) rfl
def wth(a:List Str):List Str->Option (List Str)
 |_::l::_=>if a.length≠10/\cap l=true then some (l::a)else none
 |_=>none
def El(n:Nat)(w:Str)(ws a:List Str)(ha:a.length<=10)(hl:∀l∈ws,l.length<=sizeLine):Ans (n+1) 7 32 [.lst ((w::ws).map .str),.lst (a.map .str)] ((wth a (w::ws)).map λl=>.lst (l.map .str)):=by
 refine gK d_letters_within x_letters_within r_letters_within rfl rfl rfl rfl rfl rfl rfl rfl rfl ?_;show wRs _ r_letters_within [.val (.lst ((w::ws).map .str)),.val (.lst (a.map .str))] _;refine gm (((a.map D.str).length:Int)==10) (bN (x:=.int (a.map D.str).length) (y:=.int 10) (eK ⋯) ⋯ ⋯) (λh=>?_) λh=>?_
 .have h:=eq_of_beq h;rw[ak]at h
  have:wth a (w::ws)=none:=by
   cases ws with
   |nil=>rfl
   |cons l ws=>exact if_neg λz=>z.1 ∅
  rw[this];exact⟨_,rfl⟩
 have h10:a.length≠10:=λe=>by
  rw[ak,e]at h;cases h
 cases ws with
 |nil=>exact gm true (jA (p:=true) (q:=true) ⋯ λh=>by cases h) (λ_=>⟨_,rfl⟩) λh=>by cases h
 |cons l ws =>
  have ll:=hl l ay;have e9:evE ⟨PP.run Gs gls n,gls,hfs Gs⟩ (.ix (.var 0) (.int 1)) [.val (.lst ((w::l::ws).map .str)),.val (.lst (a.map .str))]=some (.str l,[.val (.lst ((w::l::ws).map .str)),.val (.lst (a.map .str))]):=eF (x:=.lst ((w::l::ws).map .str)) (y:=.int 1) ⋯ ⋯ at1
  have e1:wth a (w::l::ws)=if cap l=true then some (l::a)else none:=by
   show(if a.length≠10/\cap l=true then _ else _)=_;by_cases c:cap l=true
   .rw[if_pos ⟨h10,c⟩,if_pos c]
   .rw[if_neg λz=>c z.2,if_neg c]
  have e2:decide ((((w::l::ws).map D.str).length:Int)<2)=false:=by
   rw[decide_eq_false_iff_not,ak,ag,ag]
   lia
  rw[e1];refine gm (false||(!((l.length:Int)==1)||!vg LS l)) (jA (p:=false) (by rw[<- e2];exact bN (x:=.int ((w::l::ws).map D.str).length) (y:=.int 2) (eK ⋯) ⋯ rfl) λ_=>gq (bN (x:=.int l.length) (y:=.int 1) (gW (aL e9 rfl) (show(if l.length<=sizeLine then some (D.int l.length)else none)=_ from if_pos ll)) ⋯ ⋯) (bN (x:=.str l) (y:=.str LS) e9 ⋯ rfl)) (λh=>?_) λh=>?_
  .rw[if_neg (λc=>?_)]
   .exact⟨_,rfl⟩
   .unfold cap at c;rw[aa,decide_eq_true_eq]at c;rw[c.1,c.2]at h;cases h
  .rw[if_pos ?_]
   .refine js (aV (x:=.lst [.str l]) (y:=.lst (a.map .str)) ?_ ⋯ (if_pos ?_))
    .simp only[evE,aL e9 (show cT _ .nil _=some ([],_)from rfl),ae,ah];exact if_pos (by show 1<=sizeLine;decide)
    .rw[ak];exact big (by show 1+_<=_;lia)
   .rw[mL,fm,dw,dw]at h;have:=eq_of_beq h.1;unfold cap;rw[decide_eq_true ∅,h.2];rfl
def nJ(cx:Cl)(tg:Tg)(body:Rs)(ds:List D)(δ:PP.Loc)(Q:OR->Prop):Prop:=∃o,forR (λx δ0=>(dA δ0 tg x).bind λδ2=>fN cx body δ2) ds δ=some o/\Q o
def Mw(next:PP.Loc->Prop)(Q:OR->Prop):OR->Prop
 |.inl (.nx δ)=>next δ
 |.inr p=>Q (.inr p)
 |_=>False
section
variable{cx:Cl}{tg:Tg}{body rs:Rs}{δ δ2:PP.Loc}{x:D}{xs:List D}{Q:OR->Prop}
def ET(q:Q (.inl (.nx δ))):nJ cx tg body [] δ Q:=⟨_,rfl,q⟩
def Bg(ht:dA δ tg x=some δ2)(h:wRs cx body δ2 (Mw (λδ1=>nJ cx tg body xs δ1 Q) Q)):nJ cx tg body (x::xs) δ Q:=by
 obtain⟨o,e,q⟩:=h;unfold nJ forR;rw[ht,ah,e];rcases o with o|p
 .cases o<;>first|exact q|exact q.elim
 .exact⟨_,rfl,q⟩
def IY{src:PP.It}{ds:List D}(h:evI cx src δ=some (ds,δ))(q:nJ cx tg body ds δ (jI cx rs Q)):wRs cx (.cons (.fr tg src body) rs) δ Q:=cO.mpr (Md.mpr ⟨ds,δ,h,q⟩)
end
def Hj{cx:Cl}{δ:PP.Loc}{n:Str}{l:List (Str×Int)}{e:E}{x:Str}{i:Int}(h:evE cx e δ=some (.str x,δ))(hl:l.lookup x=some i):evE cx (.gix n l e) δ=some (.int i,δ):=by
 simp only[evE,h,hl,ae,ah];rfl
def qB{P:Str->Int->Prop}{w:Str}{i:Int}(h:WIt.lookup w=some i)(h1:P "yes" 0)(h2:P "no" 0)(h3:P "not" 1)(h4:P "and" 2)(h5:P "or" 2)(h6:P "if" 2):P w i:=by
 have hm:w∈res:=by
  have:=kw w;rw[h]at this;exact of_decide_eq_true this.symm
 refine mX (P:=λw=>WIt.lookup w=some i->P w i) hm (λe=>?_) (λe=>?_) (λe=>?_) (λe=>?_) (λe=>?_) (λe=>?_) (λe=>?_) (λe=>?_) h
 .rw[show WIt.lookup ("yes":Str)=some 0 by decide]at e;cases e;exact h1
 .rw[show WIt.lookup ("no":Str)=some 0 by decide]at e;cases e;exact h2
 .rw[show WIt.lookup ("not":Str)=some 1 by decide]at e;cases e;exact h3
 .rw[show WIt.lookup ("and":Str)=some 2 by decide]at e;cases e;exact h4
 .rw[show WIt.lookup ("or":Str)=some 2 by decide]at e;cases e;exact h5
 .rw[show WIt.lookup ("if":Str)=some 2 by decide]at e;cases e;exact h6
 .rw[show WIt.lookup ("all":Str)=none by decide]at e;cases e
 .rw[show WIt.lookup ("some":Str)=none by decide]at e;cases e
def outF(p:F×List Str):D:=.tup [enc p.1,.lst (p.2.map .str)]
def DS{w:Str}(h:isB w=true)(A:F):enc (nd w [A])=.tup [.str w,enc A]:=by
 have h:=of_decide_eq_true h;simp only[bns,aA,bS,or_false]at h;rcases h with rfl|rfl
 .exact congrArg enc (show nd "all" [A]=.q true A by kernel_rfl)
 .exact congrArg enc (show nd "some" [A]=.q false A by kernel_rfl)
noncomputable abbrev rB:Rs:=.cons (.cal (.asg (.tp [7,4]) (.call 8 (.cons (.var 4) (.cons (.var 1) .nil)))) [.cal 8 33 (.cons (.var 4) (.cons (.var 1) .nil))]) (.cons (.st (.aug 5 .add (.tup (.cons (.var 7) .nil)))) .nil)
abbrev s8(ws a:List Str)(w:Str)(d3 d4 d5 d6 d7:Sl):PP.Loc:=[.val (.lst (ws.map .str)),.val (.lst (a.map .str)),.val (.str w),d3,d4,d5,d6,d7]
def tY:∀(n N:Nat)(a ws:List Str),a.length<=10->ws.length<n->(∀w∈ws,w.length<sizeLine)->n+3<=N->Ans N 8 33 [.lst (ws.map .str),.lst (a.map .str)] ((RD n a ws).map outF)
 |0,_,_,_,_,h,_,_=>by lia
 |n+1,0,_,_,_,_,_,h=>by lia
 |n+1,N+1,a,[],ha,hn,hw,hN=>by
  refine gK d_read_first x_read_first r_read_first rfl rfl rfl rfl rfl rfl rfl rfl rfl ?_;show wRs _ r_read_first [.val (.lst []),.val (.lst (a.map .str)),.no,.no,.no,.no,.no,.no] _
  exact gm true ⋯ (λ_=>⟨_,rfl⟩) λh=>by cases h
 |n+1,N+1,a,w::r,ha,hn,hw,hN=>by
  refine gK d_read_first x_read_first r_read_first rfl rfl rfl rfl rfl rfl rfl rfl rfl ?_;show wRs _ r_read_first [.val (.lst ((w::r).map .str)),.val (.lst (a.map .str)),.no,.no,.no,.no,.no,.no] _;refine gm false ⋯ (λh=>by cases h) λ_=>?_;refine oz (.str w) (eF (x:=.lst ((w::r).map .str)) (y:=.int 0) ⋯ ⋯ at0) ⟨_,rfl,?_⟩;show wRs _ _ (s8 (w::r) a w .no .no .no .no .no) _;simp only[ag]at hn;have hr:∀v∈r,v.length<sizeLine:=λv hv=>hw v (ao _ hv);have h10:¬10<a.length:=by lia
  refine vY (isB w) (bN (x:=.str w) (y:=.tup (bns.map .str)) ⋯ ⋯ (xk w bns)) (λhB=>?_) λhB=>?_
  .obtain⟨N',rfl⟩:∃N',N=N'+1:=⟨N-1,∅⟩;have A7:=El N' w r a ha λl hl=>cI (hr l hl);have x7:=lq (n:=N'+1) (f:=7) (x:=32) (es:=.cons (.var 0) (.cons (.var 1) .nil)) (δ:=(s8 (w::r) a w .no .no .no .no .no)) ⋯ A7
   cases e:wth a (w::r)with
   |none =>
    rw[e]at x7
    have e0:RD (n+1) a (w::r)=none:=by
     show(if 10<a.length then none else if isB w=true then _ else _)=_;rw[if_neg h10,if_pos hB]
     cases r with
     |nil=>rfl
     |cons l r =>
      have e:(if a.length≠10/\cap l=true then some (l::a)else none)=none:=e;dsimp only;by_cases c:cap l=true
      .rw[if_pos c]
       have:a.length=10:=by
        by_cases z:a.length=10
        .exact z
        .rw[if_pos ⟨z,c⟩]at e;cases e
       rw[show rd isB cap ar lf nd n (l::a) r=none from HF (by rw[ag];lia)];rfl
      .rw[if_neg c]
    rw[e0];refine cO.mpr (iA (p:=("NoText",(s8 (w::r) a w .no .no .no .no .no))) ?_ ⟨_,rfl⟩);rw[aR];have:xvE ⟨PP.run Gs gls (N'+1),gls,hfs Gs⟩ (.fn 8 33 (.tl (.sl (.var 0) (.yes (.int 2)) .no) (.hd (.cal 7 32 (.cons (.var 0) (.cons (.var 1) .nil))) .nil))) (s8 (w::r) a w .no .no .no .no .no)=xo none (s8 (w::r) a w .no .no .no .no .no):=x7;rw[this]
    rfl
   |some l' =>
    cases r with
    |nil=>cases e
    |cons l r =>
     have e:(if a.length≠10/\cap l=true then some (l::a)else none)=some l':=e;by_cases c:a.length≠10/\cap l=true
     .rw[if_pos c]at e;cases e;rw[show wth a (w::l::r)=some (l::a)from if_pos c]at x7 A7;have A8:=tY n (N'+1) (l::a) r (by rw[ag];lia) (by simp only[ag]at hn;lia) (λv hv=>hr v (ao _ hv)) ∅
      have e0:RD (n+1) a (w::l::r)=(RD n (l::a) r).map λp=>(nd w [p.1],p.2):=by
       show(if 10<a.length then none else if isB w=true then(if cap l=true then _ else _)else _)=_;rw[if_neg h10,if_pos hB,if_pos c.2];rfl
      have e2:cT ⟨PP.run Gs gls (N'+1),gls,hfs Gs⟩ (.cons (.sl (.var 0) (.yes (.int 2)) .no) (.cons (.call 7 (.cons (.var 0) (.cons (.var 1) .nil))) .nil)) (s8 (w::l::r) a w .no .no .no .no .no)=some ([.lst (r.map .str),.lst ((l::a).map .str)],(s8 (w::l::r) a w .no .no .no .no .no)) :=
       aL (eh (x:=.lst ((w::l::r).map .str)) (l:=some 2) (h:=none) ⋯ ⋯ rfl HW) (aL (cJ _ ⋯ A7.1) rfl)
      have x8:=lq (n:=N'+1) (f:=8) (x:=33) e2 A8
      have x9:xvE ⟨PP.run Gs gls (N'+1),gls,hfs Gs⟩ (.fn 8 33 (.tl (.sl (.var 0) (.yes (.int 2)) .no) (.hd (.cal 7 32 (.cons (.var 0) (.cons (.var 1) .nil))) .nil))) (s8 (w::l::r) a w .no .no .no .no .no)=none:=by
       have es:evE ⟨PP.run Gs gls (N'+1),gls,hfs Gs⟩ (.sl (.var 0) (.yes (.int 2)) .no) (s8 (w::l::r) a w .no .no .no .no .no)=some (_,s8 (w::l::r) a w .no .no .no .no .no):=eh (x:=.lst ((w::l::r).map .str)) (l:=some 2) (h:=none) ⋯ ⋯ rfl HW;unfold xvE xvL;rw[es];exact x7
      rw[e0]
      cases e8:RD n (l::a) r with
      |none =>
       rw[e8]at x8
       exact cO.mpr (iA (p:=("NoText",(s8 (w::l::r) a w .no .no .no .no .no))) (by rw[aR,x9,aR,x8];try rfl) ⟨_,rfl⟩)
      |some p =>
       rw[e8]at x8 A8;refine cO.mpr (lT (by rw[aR,x9,aR,x8];try rfl) (gI.mpr ⟨_,_,cJ _ e2 A8.1,_,rfl,?_⟩));show wRs _ _ (s8 (w::l::r) a w (.val (enc p.1)) (.val (.lst (p.2.map .str))) .no .no .no) _;show wRs _ _ _ (jI _ _ (nB (some (.tup [enc (nd w [p.1]),.lst (p.2.map .str)]))));rw[DS hB];exact AV ⋯
     .rw[if_neg c]at e;cases e
  .refine lS.mpr ?_
   have e0:RD (n+1) a (w::r)=match ar w with
    |0=>(lf w a).map λA=>(A,r)
    |1=>(RD n a r).map λp=>(nd w [p.1],p.2)
    |_=>(RD n a r).bind λp=>(RD n a p.2).map λq=>(nd w [p.1,q.1],q.2):=by
    show(if 10<a.length then none else if isB w=true then _ else _)=_;rw[if_neg h10,if_neg (by rw[hB];exact aq)];rfl
   refine vY ((WIt.lookup w).isSome != true) (yR (x:=w) ⋯) (λhW=>?_) λhW=>?_
   .have eW:WIt.lookup w=none:=by
     cases e:WIt.lookup w with
     |none=>rfl
     |some i=>rw[e]at hW;cases hW
    obtain⟨N',rfl⟩:∃N',N=N'+3:=⟨N-3,∅⟩;have A6:=LN N' w a ha (hw w ay);have x6:=lq (n:=N'+3) (f:=6) (x:=31) (es:=.cons (.var 2) (.cons (.var 1) .nil)) (δ:=(s8 (w::r) a w .no .no .no .no .no)) ⋯ A6;have x7:xvE ⟨PP.run Gs gls (N'+3),gls,hfs Gs⟩ (.tup (.hd (.cal 6 31 (.cons (.var 2) (.cons (.var 1) .nil))) (.cons (.sl (.var 0) (.yes (.int 1)) .no) .nil))) (s8 (w::r) a w .no .no .no .no .no)=_:=x6
    have e1:RD (n+1) a (w::r)=(wrd w a).map λA=>(A,r):=by
     rw[e0,show ar w=0 by unfold ar;rw[eW]];show(lf w a).map _=_;have h1:¬w="yes":=by rintro rfl;rw[show WIt.lookup ("yes":Str)=some 0 by decide]at eW;cases eW
     have h2:¬w="no":=by rintro rfl;rw[show WIt.lookup ("no":Str)=some 0 by decide]at eW;cases eW
     unfold lf;rw[if_neg h1,if_neg h2]
    rw[e1]
    cases e:wrd w a with
    |none =>
     rw[e]at x7
     exact cO.mpr (iA (p:=("NoText",(s8 (w::r) a w .no .no .no .no .no))) (by rw[aR,x7];try rfl) ⟨_,rfl⟩)
    |some A =>
     rw[e]at x7 A6;refine cO.mpr (lT (by rw[aR,x7];try rfl) (jr.mpr ⟨.tup [enc A,.lst (r.map .str)],_,gz (aL (cJ _ ⋯ A6.1) (aL (eh (x:=.lst ((w::r).map .str)) (l:=some 1) (h:=none) ⋯ ⋯ rfl HX) rfl)) (by show 2<=sizeLine;decide),⟨_,rfl⟩⟩))
   .refine lS.mpr ?_
    obtain⟨i,eW⟩:∃i,WIt.lookup w=some i:=by
     cases e:WIt.lookup w with
     |none=>rw[e]at hW;cases hW
     |some i=>exact⟨i,rfl⟩
    refine oz (.tup [.tup [.str w],.lst (r.map .str)]) (gz (aL (d:=.tup [.str w]) ⋯ (aL (eh (x:=.lst ((w::r).map .str)) (l:=some 1) (h:=none) ⋯ ⋯ rfl HX) rfl)) (by show 2<=sizeLine;decide)) ⟨_,rfl,?_⟩;show wRs _ _ (s8 (w::r) a w .no (.val (.lst (r.map .str))) (.val (.tup [.str w])) .no .no) _
    have eI:evI ⟨PP.run Gs gls N,gls,hfs Gs⟩ (.rng (.gix "WITHIN" [("yes",0),("no",0),("not",1),("and",2),("or",2),("if",2)] (.var 2))) (s8 (w::r) a w .no (.val (.lst (r.map .str))) (.val (.tup [.str w])) .no .no)=some (lA 0 i.toNat,(s8 (w::r) a w .no (.val (.lst (r.map .str))) (.val (.tup [.str w])) .no .no)):=by
     have hi:0<=i/\i<=2:=qB (P:=λ_ i=>0<=i/\i<=2) eW ∅ ∅ ∅ ∅ ∅ ∅;exact mv (Hj (x:=w) ⋯ eW) ∅ ∅
    refine IY eI ?_
    -- one more is read
    have rd1:∀(x:D)(u:List Str)(d3 d6 d7:Sl)(t:List D)(ds:List D)(Q:OR->Prop),u.length<n->(∀v∈u,v.length<sizeLine)->t.length<10->(RD n a u=none->∀δ,Q (.inr ("NoText",δ))) ->
     (∀p,RD n a u=some p->∀d7',nJ ⟨PP.run Gs gls N,gls,hfs Gs⟩ (.nm 6) rB ds (s8 (w::r) a w d3 (.val (.lst (p.2.map .str))) (.val (.tup (.str w::t++[enc p.1]))) (.val x) d7') Q) ->
     nJ ⟨PP.run Gs gls N,gls,hfs Gs⟩ (.nm 6) rB (x::ds) (s8 (w::r) a w d3 (.val (.lst (u.map .str))) (.val (.tup (.str w::t))) d6 d7) Q:=λx u d3 d6 d7 t ds Q hu hv ht q0 q1=>by
     have A8:=tY n N a u ha hu hv ∅;refine Bg rfl ?_;show wRs _ _ (s8 (w::r) a w d3 (.val (.lst (u.map .str))) (.val (.tup (.str w::t))) (.val x) d7) _;refine kx (as:=[.lst (u.map .str),.lst (a.map .str)]) ⋯ A8 (λe=>q0 (uk.mp e) _) λd hd e=>?_;obtain⟨p,ep,rfl⟩:=aj.mp hd;refine gI.mpr ⟨_,_,cJ [.lst (u.map .str),.lst (a.map .str)] ⋯ e,_,rfl,?_⟩;show wRs _ _ (s8 (w::r) a w d3 (.val (.lst (p.2.map .str))) (.val (.tup (.str w::t))) (.val x) (.val (enc p.1))) _;refine rY ⟨.nx (s8 (w::r) a w d3 (.val (.lst (p.2.map .str))) (.val (.tup (.str w::t++[enc p.1]))) (.val x) (.val (enc p.1))),?_,?_⟩
     .have:Eh (.tup (.str w::t)) (.tup [enc p.1])=some (.tup (.str w::t++[enc p.1])):=if_pos (by
       show(t.length+1)+1<=sizeLine;exact big ∅)
      have ee:evE ⟨PP.run Gs gls N,gls,hfs Gs⟩ (.tup (.cons (.var 7) .nil)) (s8 (w::r) a w d3 (.val (.lst (p.2.map .str))) (.val (.tup (.str w::t))) (.val x) (.val (enc p.1)))=some (.tup [enc p.1],s8 (w::r) a w d3 (.val (.lst (p.2.map .str))) (.val (.tup (.str w::t))) (.val x) (.val (enc p.1))):=by kernel_rfl
      unfold s8 at ee |-;simp only[evS,List.getElem?_cons_succ,List.getElem?_cons_zero,ee,ae,ah,this,bo];rfl
     .exact lS.mpr (q1 p ep _)
    have fin:∀(p:F×List Str)(t:List D)(d3 d6 d7:Sl),enc p.1=.tup (.str w::t)->RD (n+1) a (w::r)=some p->nJ ⟨PP.run Gs gls N,gls,hfs Gs⟩ (.nm 6) rB [] (s8 (w::r) a w d3 (.val (.lst (p.2.map .str))) (.val (.tup (.str w::t))) d6 d7) (jI ⟨PP.run Gs gls N,gls,hfs Gs⟩ (.cons (.st (.ret (.tup (.cons (.var 5) (.cons (.var 4) .nil))))) .nil) (nB ((RD (n+1) a (w::r)).map outF))):=λp t d3 d6 d7 he hp=>by
     rw[hp];refine ET ?_;show wRs _ _ _ (nB (some (.tup [enc p.1,.lst (p.2.map .str)])));rw[he];exact js ⋯
    have hk:(i=0/\(w="yes"\/w="no"))\/(i=1/\w="not")\/(i=2/\(w="and"\/w="or"\/w="if")):=qB (P:=λw i=>(i=0/\(w="yes"\/w="no"))\/(i=1/\w="not")\/(i=2/\(w="and"\/w="or"\/w="if"))) eW (.inl ⟨rfl,.inl rfl⟩) (.inl ⟨rfl,.inr rfl⟩) (.inr (.inl ⟨rfl,rfl⟩)) (.inr (.inr ⟨rfl,.inl rfl⟩)) (.inr (.inr ⟨rfl,.inr (.inl rfl)⟩)) (.inr (.inr ⟨rfl,.inr (.inr rfl)⟩));rcases hk with⟨rfl,hk⟩|⟨rfl,hk⟩|⟨rfl,hk⟩
    .obtain⟨A,hA,hE⟩:∃A,lf w a=some A/\enc A=.tup [.str w]:=by
      rcases hk with rfl|rfl
      .exact⟨.yes,if_pos rfl,rfl⟩
      .exact⟨.no,(if_neg ⇑0).trans (if_pos rfl),rfl⟩
     refine fin (A,r) [] _ _ _ hE ?_;rw[e0,show ar w=0 by unfold ar;rw[eW];rfl];show(lf w a).map _=_;rw[hA];rfl
    .have e1:RD (n+1) a (w::r)=(RD n a r).map λp=>(nd w [p.1],p.2):=by
      rw[e0,show ar w=1 by unfold ar;rw[eW];rfl]
      try rfl
     refine rd1 (.int 0) r .no .no .no [] [] _ ∅ hr ⇑0 (λz δ=>?_) λp ep d7=>?_
     .show nB ((RD (n+1) a (w::r)).map outF) _;rw[e1,z];exact⟨_,rfl⟩
     .refine fin (nd w [p.1],p.2) [enc p.1] _ _ _ ?_ (by rw[e1,ep];rfl);subst hk;exact congrArg enc (show nd "not" [p.1]=.neg p.1 by kernel_rfl)
    .have e1:RD (n+1) a (w::r)=(RD n a r).bind λp=>(RD n a p.2).map λq=>(nd w [p.1,q.1],q.2):=by
      rw[e0,show ar w=2 by unfold ar;rw[eW];rfl]
      try rfl
     refine rd1 (.int 0) r .no .no .no [] [.int 1] _ ∅ hr ⇑0 (λz δ=>?_) λp ep d7=>?_
     .show nB ((RD (n+1) a (w::r)).map outF) _;rw[e1,z];exact⟨_,rfl⟩
     have hs:∀v∈p.2,v∈r:=pB (A:=p.1) ep;refine rd1 (.int 1) p.2 .no _ d7 [enc p.1] [] _ (by have:=fR (A:=p.1) (r:=p.2) ep;lia) (λv hv=>hr v (hs v hv)) (by show 1<10;decide) (λz δ=>?_) λq eq d7'=>?_
     .show nB ((RD (n+1) a (w::r)).map outF) _;rw[e1,ep,ah,z];exact⟨_,rfl⟩
     .refine fin (nd w [p.1,q.1],q.2) [enc p.1,enc q.1] _ _ _ ?_ (by rw[e1,ep,ah,eq];rfl);rcases hk with rfl|rfl|rfl
      .exact congrArg enc (show nd "and" [p.1,q.1]=.bi .and p.1 q.1 by kernel_rfl)
      .exact congrArg enc (show nd "or" [p.1,q.1]=.bi .or p.1 q.1 by kernel_rfl)
      .exact congrArg enc (show nd "if" [p.1,q.1]=.bi .imp p.1 q.1 by kernel_rfl)
def kids:F->List F
 |.neg a=>[a]
 |.q _ a=>[a]
 |.bi _ x y=>[x,y]
 |_=>[]
def slT{a:D}{ds:List D}:slD (.tup (a::ds)) (some 1) none=some (.tup ds):=by
 have e1:HT.sIx (a::ds).length 0 (some 1)=1:=by
  rw[show(1:Int)=((1:Nat):Int)from rfl,HT.sIx_nat];simp
 have e2:HT.sIx (a::ds).length (a::ds).length none=(a::ds).length:=rfl;unfold slD;dsimp only;rw[e1,e2,if_neg ↥0];unfold cutD;rw[e1,e2];simp
def Co(n:Nat)(A:F):PP.run Gs gls (n+1) 0 [enc A]=some (.tup ((kids A).map enc)):=by
 have sl:∀(s:Str)(ds:List D),gv .isin (.str s) (.tup [.str "yes",.str "no",.str "word"])=some false->PP.run Gs gls (n+1) 0 [.tup (.str s::ds)]=some (.tup ds):=λs ds h=>by
  apply dr;refine bV mE rfl rfl rfl ?_;simp only[mE,init,SI,Nat.reduceAdd,Nat.reduceSub];have e:=Hi (a:=.tup .nil) (x:=.tup []) (bN (cx:=⟨PP.run Gs gls n,gls,hfs Gs⟩) (δ:=[.val (.tup (.str s::ds))]) (a:=.ix (.var 0) (.int 0)) (b:=.glob 0) (x:=.str s) (y:=.tup [.str "yes",.str "no",.str "word"]) (eF (x:=.tup (.str s::ds)) (y:=.int 0) ⋯ ⋯ (atI_nat (j:=0) rfl)) ⋯ h) ⋯ (eh (a:=.var 0) (lo:=.yes (.int 1)) (hi:=.no) (x:=.tup (.str s::ds)) (l:=some 1) (h:=none) ⋯ ⋯ rfl slT);exact lQ _ e rfl
 cases A with
 |yes=>kernel_rfl
 |no=>kernel_rfl
 |word w ts=>kernel_rfl
 |neg a=>exact sl _ _ ⋯
 |q b a=>exact sl _ _ (by cases b<;>kernel_rfl)
 |bi b x y=>exact sl _ _ (by cases b<;>kernel_rfl)
def ints_map:∀{α:Type}(p:α->Int)(xs:List α),mq (xs.map λx=>D.int (p x))=some (xs.map p)
 |_,p,[]=>rfl
 |_,p,x::xs=>by rw[aw];unfold mq;rw[ints_map p xs];rfl
def xX(A:F):sz A=1+((kids A).map sz).sum:=by
 cases A<;>simp[kids,sz]<;>lia
def uJ:∀l:List F,(l.map λB=>(sz B:Int)).sum=(((l.map sz).sum:Nat):Int)
 |[]=>rfl
 |a::l=>by rw[aw,aY,aw,aY,uJ l];lia
def Dp(A:F):(kids A).length<=2:=by cases A<;>simp[kids]
def KN{A B:F}(h:B∈kids A):sz B<sz A:=by
 cases A<;>simp[kids]at h
 .subst h;simp[sz]
 .subst h;simp[sz]
 .rcases h with rfl|rfl<;>simp[sz]<;>lia
def ym:∀(n:Nat)(A:F),sz A<n->PP.run Gs gls n 9 [enc A]=some (.int (sz A))
 |0,A,h=>by lia
 |1,A,h=>by have:=xX A;lia
 |n+2,A,h=>by
  apply dr;refine bV gX rfl rfl rfl ?_;simp only[gX,init,SI,Nat.reduceAdd,Nat.reduceSub];have ck:=pR (G:=Gs) (gl:=gls) (n:=n+1) (f:=9) (es:=.cons (.var 1) .nil) (src:=.sq (.call 0 (.cons (.var 0) .nil))) (i:=1) (δ:=[.val (enc A)]) enc (λB=>.int (sz B)) (λB=>[enc B]) (kids A) (aZ (Dp A) ⇑0) (nk (cJ [enc A] ⋯ (Co n A)) rfl) rfl (λB _=>by kernel_rfl) λB hB=>ym (n+1) B (by have:=KN hB;lia)
  have e2:hZ .sum [.lst ((kids A).map λB=>.int (sz B))]=some (.int ((kids A).map λB=>(sz B:Int)).sum):=by
   show(mq _).map _=_;rw[ints_map];rfl
  refine lQ (.int (1+((kids A).map λB=>(sz B:Int)).sum)) (aV (x:=.int 1) (y:=.int ((kids A).map λB=>(sz B:Int)).sum) ⋯ (gW (aL ck rfl) e2) rfl) ?_;rw[uJ,xX A];congr 1
def MC:∀{n:Nat}{a ws:List Str}{A:F}{r:List Str},RD n a ws=some (A,r)->sz A+r.length<=ws.length:=by
 have lf1:∀{w:Str}{a:List Str}{A:F},lf w a=some A->sz A=1:=λ{w a A}h=>by
  unfold lf at h;split at h
  .cases h;rfl
  split at h
  .cases h;rfl
  unfold wrd oa at h;split at h
  .split at h
   .cases h;rfl
   .cases h
  .split at h
   .obtain⟨ts,_,rfl⟩:=aj.mp h;rfl
   .cases h
 have nd1:∀(w:Str)(A:F),sz (nd w [A])=1+sz A:=λw A=>by
  show sz (if w="all" then F.q true A else if w="some" then F.q false A else F.neg A)=_;split
  .simp only[sz];lia
  split<;>(simp only[sz];lia)
 have nd2:∀(w:Str)(A C:F),sz (nd w [A,C])=1+sz A+sz C:=λw A C=>by
  show sz (if w="and" then F.bi .and A C else if w="or" then F.bi .or A C else F.bi .imp A C)=_;split
  .simp only[sz];lia
  split<;>(simp only[sz];lia)
 intro n
 induction n with
 |zero=>intro a ws A r h;cases h
 |succ n ih =>
  intro a ws A r h
  cases ws with
  |nil=>rw[LR]at h;cases h
  |cons w ws =>
   unfold RD rd at h;split at h
   .cases h
   split at h
   .cases ws with
    |nil=>cases h
    |cons l ws =>
     dsimp only at h;split at h
     .obtain⟨⟨B,q⟩,e,h⟩:=aj.mp h;cases h;have:=ih e;rw[nd1];simp only[ag]at this |-
      lia
     .cases h
   split at h
   .obtain⟨B,e,h⟩:=aj.mp h;cases h;rw[lf1 e,ag]
    lia
   .obtain⟨⟨B,q⟩,e,h⟩:=aj.mp h;cases h;have:=ih e;rw[nd1,ag]
    lia
   .obtain⟨⟨B,q⟩,e,h⟩:=af.mp h;obtain⟨⟨C,q'⟩,e',h⟩:=aj.mp h;cases h;have:=ih e;have:=ih e';rw[nd2,ag];dsimp only at *
    lia
def bnd(ws:List Str):Option (F×List Str):=(RD (ws.length+1) [] ws).bind λp=>if 40<sz p.1 then none else some p
def An(n:Nat)(ws:List Str)(h:ws.length<=100)(hw:∀w∈ws,w.length<sizeLine)(hn:110<=n):Ans (n+1) 10 34 [.lst (ws.map .str)] ((bnd ws).map outF):=by
 refine gK d_read_bounded x_read_bounded r_read_bounded rfl rfl rfl rfl rfl rfl rfl rfl rfl ?_;show wRs _ r_read_bounded [.val (.lst (ws.map .str)),.no,.no] _;refine kx (as:=[.lst (ws.map .str),.lst []]) ⋯ (tY (ws.length+1) n [] ws ⇑0 ∅ hw ∅) (λe=>?_) λd hd e=>?_
 .unfold bnd;rw[uk.mp e];exact⟨_,rfl⟩
 obtain⟨p,ep,rfl⟩:=aj.mp hd;have hs:=MC (A:=p.1) (r:=p.2) ep;refine gI.mpr ⟨_,_,cJ [.lst (ws.map .str),.lst []] ⋯ e,_,rfl,?_⟩;show wRs _ _ [.val (.lst (ws.map .str)),.val (enc p.1),.val (.lst (p.2.map .str))] _;have eb:bnd ws=if 40<sz p.1 then none else some p:=by unfold bnd;rw[ep];rfl
 rw[eb];refine gm (decide ((40:Int)<(sz p.1:Int))) (bN (x:=.int (sz p.1)) (y:=.int 40) (cJ [enc p.1] ⋯ (ym n p.1 ∅)) ⋯ rfl) (λh=>?_) λh=>?_
 .rw[decide_eq_true_eq]at h;rw[if_pos ∅];exact⟨_,rfl⟩
 .rw[decide_eq_false_iff_not]at h;rw[if_neg ∅];exact js ⋯
def stm(t:Str):Option F:=if 100<(spl 32 t).length then none else(bnd (spl 32 t)).bind λp=>if p.2=[]then some p.1 else none
def wt{c:Nat}{t w:Str}(h:w∈spl c t):w.length<=t.length:=by
 obtain⟨x,hx,rfl⟩:=cG.mp h;have:=mU c _ x hx;rw[bT]at this;rw[eQ];exact this
def Nz(n:Nat)(t:Str)(ht:t.length<sizeLine)(hn:112<=n):Ans (n+1) 11 35 [.str t] ((stm t).map enc):=by
 obtain⟨n,rfl⟩:∃m,n=m+2:=⟨n-2,∅⟩;refine gK d_read_statement x_read_statement r_read_statement rfl rfl rfl rfl rfl rfl rfl rfl rfl ?_;show wRs _ r_read_statement [.val (.str t),.no,.no] _;have A4:=HC n t ht;have x4:=lq (n:=n+2) (f:=4) (x:=29) (es:=.cons (.var 0) .nil) (δ:=[.val (.str t),.no,.no]) ⋯ A4;unfold stm;by_cases h:100<(spl 32 t).length
 .rw[if_pos h]at x4 |-;have x5:xvE ⟨PP.run Gs gls (n+2),gls,hfs Gs⟩ (.fn 10 34 (.hd (.cal 4 29 (.cons (.var 0) .nil)) .nil)) [.val (.str t),.no,.no]=xo none [.val (.str t),.no,.no]:=x4;exact cO.mpr (iA (p:=("NoText",[.val (.str t),.no,.no])) (by rw[aR,x5];rfl) ⟨_,rfl⟩)
 .rw[if_neg h]at x4 A4 |-;have x5:xvE ⟨PP.run Gs gls (n+2),gls,hfs Gs⟩ (.fn 10 34 (.hd (.cal 4 29 (.cons (.var 0) .nil)) .nil)) [.val (.str t),.no,.no]=none:=x4;have AB:=An (n+1) (spl 32 t) ∅ (λw hw=>cL (wt hw) ht) ∅;have eE:cT ⟨PP.run Gs gls (n+2),gls,hfs Gs⟩ (.cons (.call 4 (.cons (.var 0) .nil)) .nil) [.val (.str t),.no,.no]=some ([.lst ((spl 32 t).map .str)],[.val (.str t),.no,.no]):=aL (cJ [.str t] ⋯ A4.1) rfl;have x6:=lq (n:=n+2) (f:=10) (x:=34) eE AB;generalize spl 32 t=ws at *
  cases e:bnd ws with
  |none =>
   rw[e]at x6
   exact cO.mpr (iA (p:=("NoText",[.val (.str t),.no,.no])) (by rw[aR,x5,aR,x6];rfl) ⟨_,rfl⟩)
  |some p =>
   rw[e]at x6 AB;refine cO.mpr (lT (by rw[aR,x5,aR,x6];rfl) (gI.mpr ⟨_,_,cJ _ eE AB.1,_,rfl,?_⟩));show wRs _ _ [.val (.str t),.val (enc p.1),.val (.lst (p.2.map .str))] (nB (fM enc (if p.2=[]then some p.1 else none)));refine gm (!(p.2.map D.str).isEmpty) ⋯ (λh=>?_) λh=>?_
   .rw[if_neg λz=>by rw[z]at h;cases h];exact⟨_,rfl⟩
   .rw[if_pos ?_]
    .exact js ⋯
    .cases e:p.2 with
     |nil=>rfl
     |cons a l=>rw[e]at h;cases h
def HD(n:Nat)(d:D)(hd:fW [d]=some (.bl false))(hn:112<=n):Ans (n+1) 11 35 [d] none:=by
 obtain⟨n,rfl⟩:∃m,n=m+2:=⟨n-2,∅⟩;refine gK d_read_statement x_read_statement r_read_statement rfl rfl rfl rfl rfl rfl rfl rfl rfl ?_;show wRs _ r_read_statement [.val d,.no,.no] _;have x4:=lq (n:=n+2) (f:=4) (x:=29) (es:=.cons (.var 0) .nil) (δ:=[.val d,.no,.no]) ⋯ (Am n d hd);have x5:xvE ⟨PP.run Gs gls (n+2),gls,hfs Gs⟩ (.fn 10 34 (.hd (.cal 4 29 (.cons (.var 0) .nil)) .nil)) [.val d,.no,.no]=xo none [.val d,.no,.no]:=x4;exact cO.mpr (iA (p:=("NoText",[.val d,.no,.no])) (by rw[aR,x5];rfl) ⟨_,rfl⟩)
def bC{cx:Cl}{e:E}{r:Ss}{δ:PP.Loc}{Q:Out->Prop}(d:D)(h:evE cx e δ=some (d,δ))(q:Q (.rt d δ)):wSs cx (.cons (.ret e) r) δ Q:=bL.mpr (jr.mpr ⟨d,δ,h,q⟩)
def yF(al:Str)(c:Nat):vg al ⟨#[c]⟩=decide (c∈cs al):=by
 rw[bM,decide_eq_true_eq];refine(PySem.StrLaws.found_iff al ⟨#[c]⟩).trans ⟨λ⟨i,h1,h2⟩=>?_,λh=>?_⟩
 .rw[sub_one,decide_eq_true_eq]at h2;exact cZ h2
 .obtain⟨i,hi⟩:=List.mem_iff_getElem?.mp h;refine⟨i,?_,by rw[sub_one,decide_eq_true_eq];exact hi⟩;have:=(aF.mp hi).1;rw[bT]at this;exact this
def SM:Str:="abcdefghijklmnopqrstuvwxyz"
def Dj(c:Nat):decide (c∈cs SM)=isL c:=by
 have e:cs SM=cY 97 26:=by decide
 rw[e];unfold isL;rw[bM,decide_eq_true_eq,aa,decide_eq_true_eq,decide_eq_true_eq,nX]
 lia
def KH(c:Nat):decide (c∈cs (SM++"0123456789"))=isG c:=by
 have e:cs (SM++"0123456789")=cY 97 26++cY 48 10:=by decide
 rw[e];unfold isG isL;rw[bM,decide_eq_true_eq,bH,aa,aa,decide_eq_true_eq,decide_eq_true_eq,decide_eq_true_eq,decide_eq_true_eq,cc,nX,nX]
 lia
def Cj(n:Nat)(t al:Str)(ht:t.length<=sizeLine):PP.run Gs gls (n+1) 18 [.str t,.str al]=some (.bl (decide (1<=t.length)&&decide (t.length<=8)&&(cs t).all λc=>decide (c∈cs al))):=by
 apply dr;refine bV fX rfl rfl rfl ?_;simp only[fX,init,SI,Nat.reduceAdd,Nat.reduceSub]
 have e0:(decide ((0:Int)<(t.length:Int))&&decide ((t.length:Int)<9))=(decide (1<=t.length)&&decide (t.length<=8)):=by
  congr 1
  .rw[decide_eq_decide];lia
  .rw[decide_eq_decide];lia
 refine bj (!(decide (1<=t.length)&&decide (t.length<=8))) (by rw[<- e0];exact gy (sZ (x:=.int 0) (y:=.int t.length) (z:=.int 9) ⋯ (len_str ⋯ ht) ⋯ rfl rfl)) (λh=>bC (.bl false) rfl ?_) λh=>?_
 .rw[de]at h;show D.bl false=_;rw[h];rfl
 .rw[dw]at h;rw[h];show wSs _ (.cons _ _) _ _;refine gT ((cs t).map λc=>.str ⟨#[c]⟩) (nk (d:=.str t) ⋯ (if_pos ht)) ?_;refine iV (λc=>.str ⟨#[c]⟩) (λxs δ=>∃s,δ=[.val (.str t),.val (.str al),s]/\(xs.all λc=>decide (c∈cs al))=((cs t).all λc=>decide (c∈cs al))) ?_ ?_ (cs t) _ ⟨_,rfl,rfl⟩
  .rintro c xs δ ⟨s,rfl,h⟩;refine⟨_,rfl,bj (!decide (c∈cs al)) (bN (x:=.str ⟨#[c]⟩) (y:=.str al) ⋯ ⋯ ?_) (λz=>bC (.bl false) rfl ?_) λz=>dz.mpr ⟨_,rfl,?_⟩⟩
   .rw[<- yF];rfl
   .show D.bl false=D.bl (true&&_);rw[de]at z;rw[<- h,cj,z];rfl
   .rw[dw]at z;rw[<- h,cj,z];rfl
  .rintro δ ⟨s,rfl,h⟩;show wSs _ (.cons _ _) _ _;refine bC (.bl true) rfl ?_;show D.bl true=D.bl (true&&_);rw[<- h];rfl
def FT(n:Nat)(t:Str)(ht:t.length<=sizeLine):PP.run Gs gls (n+1) 18 [.str t,.str SM]=some (.bl (jN t)):=by
 rw[Cj n t SM ht,show(λc=>decide (c∈cs SM))=isL from funext Dj];rfl
def oD:Option Str->D
 |some u=>.str u
 |none=>.non
def Hz{ar:List Str}{k:Nat}(hk:k<ar.length):ixD (.lst (ar.map D.str)) (.int (-1-(k:Int)))=some (.str (ar.reverse[k]'(by rw[bg];exact hk))):=by
 show atI _ _=_;unfold atI ixN;rw[ak,if_neg ∅,if_pos ∅,ah,show(-1-(k:Int)+(ar.length:Int)).toNat=ar.length-1-k by lia,bJ,List.getElem_reverse,aO ∅];rfl
def eq_str(a b:Str):gv .eq (.str a) (.str b)=some (a==b):=by kernel_rfl
def vy{cx:Cl}{ar:List Str}{t:Str}{Q:Out->Prop}{tl:List Sl}(hl:ar.length<=10)(q1:∀i s,ar.reverse.findIdx? (λy=>y==t)=some i->i<ar.length->Q (.rt (.str (toString (i:Int))) (.val (.str t)::.val (.lst (ar.map .str))::tl++[s])))
 (q2:∀s,t∉ar.reverse->Q (.nx (.val (.str t)::.val (.lst (ar.map .str))::tl++[s]))){k:Nat}(hk:k=tl.length+2)(s0:Sl) :
 qg cx (.nm k) (.cons (.ifs (.cmp .eq (.ix (.var 1) (.bin .sub (.neg (.int 1)) (.var k))) (.var 0)) (.cons (.ret (.blt .toStr (.cons (.var k) .nil))) .nil) .nil) .nil) (lA 0 ar.length) (.val (.str t)::.val (.lst (ar.map .str))::tl++[s0]) Q:=by
 subst hk;unfold lA;rw[List.range_eq_range'];refine iV (λi:Nat=>D.int (0+i)) (λxs δ=>∃(k:Nat)(s:Sl),xs=cY k (ar.length-k)/\k<=ar.length/\(∀j(hj:j<ar.reverse.length),j<k->(ar.reverse[j]==t)=false)/\δ=.val (.str t)::.val (.lst (ar.map .str))::tl++[s]) ?_ ?_ _ _ ⟨0,s0,↥0,bP _,λj hj h=>by lia,rfl⟩
 .rintro x xs δ ⟨k,s,e,hk,hj,rfl⟩
  have hk':k<ar.length:=by
   rcases ou k ar.length with h|h
   .exact h
   .rw[show ar.length-k=0 by lia]at e;cases e
  rw[show ar.length-k=(ar.length-(k+1))+1 by lia,EI]at e;cases e;have ab:=Hz hk';have hr:x<ar.reverse.length:=by rw[bg];exact hk'
  have es:dA (.val (.str t)::.val (.lst (ar.map .str))::tl++[s]) (.nm (tl.length+2)) (.int (0+x))=some (.val (.str t)::.val (.lst (ar.map .str))::tl++[.val (.int x)]):=by
   show(if _ then _ else none)=_;rw[if_pos ↥0,Int.zero_add];simp[eO]
  have ev:∀cx:Cl,evE cx (.var (tl.length+2)) (.val (.str t)::.val (.lst (ar.map .str))::tl++[.val (.int x)])=some (.int x,.val (.str t)::.val (.lst (ar.map .str))::tl++[.val (.int x)]):=λcx=>by
   simp[evE,zX,PP.get,demote]
  refine⟨_,es,bj (ar.reverse[x]==t) (bN (x:=.str ar.reverse[x]) (y:=.str t) (eF (x:=.lst (ar.map .str)) (y:=.int (-1-(x:Int))) rfl (aV (x:=.int (-1)) (y:=.int x) rfl (ev _) rfl) ab) rfl (eq_str _ _)) (λhb=>?_) λhb=>dz.mpr ?_⟩
  .refine bC _ (gW (aL (ev _) rfl) (qM ∅)) (q1 x _ (gc.mpr ⟨hr,hb,λj h=>by rw[hj j ∅ h];exact aq⟩) hk')
  .refine⟨x+1,_,rfl,hk',λj h1 h2=>?_,rfl⟩;rcases ou j x with h|h
   .exact hj j h1 h
   .have:j=x:=by lia
    subst this;exact hb
 .rintro δ ⟨k,s,e,hk,hj,rfl⟩
  have hk':k=ar.length:=by
   rcases ou k ar.length with h|h
   .rw[show ar.length-k=(ar.length-(k+1))+1 by lia,EI]at e;cases e
   .lia
  refine q2 s λhm=>?_;obtain⟨j,h1,h2⟩:=AA hm;have:=hj j h1 (by rw[bg]at h1;lia);rw[h2,beq_self_eq_true]at this;cases this
def FV(n:Nat)(t:Str)(ar:List Str)(hl:ar.length<=10)(ht:t.length<=sizeLine):PP.run Gs gls (n+2) 19 [.str t,.lst (ar.map .str)]=some (oD (trm ar.reverse t)):=by
 apply dr;refine bV iF rfl rfl rfl ?_;simp only[iF,init,SI,Nat.reduceAdd,Nat.reduceSub];refine jo 1 [.val (.str t),.val (.lst (ar.map .str)),.val (.str SM),.no] ⋯ ?_;show wSs _ (.cons _ _) _ _;refine gT (lA 0 ar.length) ?_ (vy (tl:=[.val (.str SM)]) hl (λi s e hi=>?_) (λs hm=>?_) rfl .no)
 .have:=mv (cx:=⟨PP.run Gs gls (n+1),gls,hfs Gs⟩) (e:=.blt .len (.cons (.var 1) .nil)) (δ:=[.val (.str t),.val (.lst (ar.map .str)),.val (.str SM),.no]) (eK (e:=.var 1) (ds:=ar.map .str) ⋯) ∅ (by rw[ak];lia);rw[ak,dg]at this;exact this
 .show D.str _=_;unfold trm;rw[e];rfl
 .show wSs _ (.cons _ _) [.val (.str t),.val (.lst (ar.map .str)),.val (.str SM),s] _
  have tn:trm ar.reverse t=if nmB t=true then some t else none:=by
   unfold trm;rw[DC hm]
  have eG:PP.run Gs gls (n+1) 18 [.str t,.str (SM++"0123456789")]=some (.bl (decide (1<=t.length)&&decide (t.length<=8)&&(cs t).all isG)):=by
   rw[Cj n t _ ht,show(λc=>decide (c∈cs (SM++"0123456789")))=isG from funext KH]
  refine bj ((decide (1<=t.length)&&decide (t.length<=8)&&(cs t).all isG)&&isL ((cs t).headD 0)) (DM (kG [.str t,.str (SM++"0123456789")] ⋯ eG) λh=>?_) (λh=>?_) λh=>?_
  .obtain⟨c,r,e⟩:∃c r,cs t=c::r:=by
    cases e:cs t with
    |nil =>
     have:=bT t;rw[e]at this;rw[<- this]at h
     cases h
    |cons c r=>exact⟨c,r,rfl⟩
   have e3:ixD (.str t) (.int 0)=some (.str ⟨#[c]⟩):=by
    show(if t.length<=sizeLine then(atI (cs t) 0).map _ else none)=_;rw[if_pos ht,e,show(0:Int)=((0:Nat):Int)from rfl,atI_nat (xs:=c::r) (j:=0) rfl];rfl
   rw[e];refine bN (x:=.str ⟨#[c]⟩) (y:=.str SM) (eF (x:=.str t) (y:=.int 0) ⋯ ⋯ e3) ⋯ ?_;show some (vg SM ⟨#[c]⟩)=_;rw[yF,Dj];rfl
  .refine bC (.str t) ⋯ ?_;show D.str t=_;rw[tn,if_pos ?_]
   .rfl
   .unfold nmB
    revert h
    cases(decide (1<=t.length)&&decide (t.length<=8))<;>cases isL ((cs t).headD 0)<;>simp
  .show wSs _ (.cons _ _) _ _;refine bC .non ⋯ ?_;show D.non=_;rw[tn,if_neg ?_]
   .rfl
   .unfold nmB
    revert h
    cases(decide (1<=t.length)&&decide (t.length<=8))<;>cases isL ((cs t).headD 0)<;>simp
def oF:Option F->D
 |some A=>enc A
 |none=>.non
def DX(ls:List Str):∀ts:List Str,eS (ts.map λt=>oD (trm ls t))=0
 |[]=>by unfold eS;rfl
 |t::ts=>by
  rw[aw];unfold eS;rw[DX ls ts,show dep (oD (trm ls t))=0 by cases trm ls t<;>(unfold oD dep;rfl)];rfl
def IF(ls:List Str):∀ts:List Str,((ts.map λt=>oD (trm ls t)).any λy=>eqD y .non)=!(iO ls ts).isSome
 |[]=>rfl
 |t::ts=>by
  rw[aw,dH,IF ls ts,show iO ls (t::ts)=(trm ls t).bind λu=>(iO ls ts).map (u::·)from rfl]
  cases trm ls t with
  |none=>rfl
  |some u =>
   rw[show eqD (oD (some u)) .non=false by unfold oD eqD;rfl];cases iO ls ts<;>rfl
def Bq{ls:List Str}:∀{ts us:List Str},iO ls ts=some us->(ts.map λt=>oD (trm ls t))=us.map D.str
 |[],us,h=>by cases h;rfl
 |t::ts,us,h=>by
  obtain⟨u,e1,h⟩:=af.mp (show(trm ls t).bind (λu=>(iO ls ts).map (u::·))=some us from h);obtain⟨vs,e2,rfl⟩:=aj.mp h;rw[aw,aw,Bq e2,e1];rfl
def uH(u:Str)(ts ls:List Str):Option F:=if(jN u&&!decide (u∈res))=true/\ts.length<=3 then(iO ls ts).map (.word u)else none
def AM(n:Nat)(w u:Str)(ts ar:List Str)(s4:Sl)(hl:ar.length<=10)(hu:u.length<=sizeLine)(ht:∀t∈ts,t.length<=sizeLine):wSs ⟨PP.run Gs gls (n+2),gls,hfs Gs⟩ (gP 3 eT.body) [.val (.str w),.val (.lst (ar.map .str)),.val (.str u),.val (.lst (ts.map .str)),s4] (retS λd=>d=oF (uH u ts ar.reverse)):=by
 show wSs _ (.cons _ _) _ _;unfold uH;refine bj (!jN u||decide ((3:Int)<((ts.map D.str).length:Int))) (gq (gy (kG [.str u,.str SM] ⋯ (FT (n+1) u hu))) (bN (x:=.int (ts.map D.str).length) (y:=.int 3) (eK ⋯) ⋯ rfl)) (λh=>bC .non rfl ?_) λh=>?_
 .show D.non=_;rw[if_neg ?_]
  .rfl
  .rintro⟨h1,h2⟩;rw[aa]at h1;rw[h1.1,ak]at h;simp at h
   lia
 rw[ak,fm,dw,decide_eq_false_iff_not]at h;obtain⟨h1,h2⟩:=h;have h3:ts.length<=3:=by lia
 show wSs _ (.cons _ _) _ _;refine bj (decide (u∈res)) (bN (x:=.str u) (y:=.tup (res.map .str)) ⋯ ⋯ (xk u res)) (λh=>bC .non rfl ?_) λh=>?_
 .show D.non=_;rw[if_neg ?_]
  .rfl
  .rintro⟨z,_⟩;rw[h,ur,Bool.and_false]at z;cases z
 rw[if_pos ⟨by rw[h1,h];rfl,h3⟩];show wSs _ (.cons _ _) _ _;refine AN (ts.map λt=>oD (trm ar.reverse t)) (pR (λt:Str=>.str t) (λt=>oD (trm ar.reverse t)) (λt=>[.str t,.lst (ar.map .str)]) ts (big ∅) ⋯ rfl (λt _=>by kernel_rfl) λt hm=>FV n t ar hl (ht t hm)) (by show 3<5;decide) ?_;show wSs _ (.cons _ _) [.val (.str w),.val (.lst (ar.map .str)),.val (.str u),.val (.lst (ts.map λt=>oD (trm ar.reverse t))),s4] _;refine bj (!(iO ar.reverse ts).isSome) (bN (x:=.non) (y:=.lst (ts.map λt=>oD (trm ar.reverse t))) ⋯ ⋯ ?_) (λh=>bC .non rfl ?_) λh=>?_
 .show(if _ then some _ else none)=_;rw[if_pos ⟨by unfold dep;decide,by rw[DX];decide⟩,IF]
 .show D.non=_
  cases e:iO ar.reverse ts with
  |none=>rfl
  |some us=>rw[e]at h;cases h
 .cases e:iO ar.reverse ts with
  |none=>rw[e]at h;cases h
  |some us =>
   rw[Bq e];show wSs _ (.cons _ _) _ _;exact bC (enc (.word u us)) ⋯ rfl
def m_find(w:Str):mtD .find (.str w) (.str "(")=some (.int (match(fC (cs w)).2 with
 |none=>-1
 |some _=>((fC (cs w)).1.length:Int))):=by
 show some (D.int _)=_;rw[yf xA,sP]
 show some (D.int (match(dW 40 0 (cs w)).take 1 with
  |i::_=>(i:Int)
  |[]=>-1))=_
 cases e:(fC (cs w)).2 with
 |none =>
  obtain⟨h1,h2⟩:=je e;rw[tD h1]
  rfl
 |some v =>
  obtain⟨h1,h2⟩:=jd e;generalize (fC (cs w)).1=u at *;rw[h1,tF h2,xM]
def FN(l:List Nat):lL (sO l) (some (-1)) none=sO (l.drop (l.length-1)):=by
 cases l with
 |nil=>rfl
 |cons a l =>
  refine(StrLaws.sliceText_from_neg (x:=sO (a::l)) (i:=-1) ∅ (by rw[eQ,ag];lia)).trans (gJ ?_);show((a::l).drop ((-1:Int)+((sO (a::l)).length:Int)).toNat).take (((a::l).length:Int)-((-1:Int)+((sO (a::l)).length:Int))).toNat=_;rw[eQ,kX,ag,show((-1:Int)+((l.length+1:Nat):Int)).toNat=l.length+1-1 by lia];exact cn (by rw[aS,ag];lia)
def Ae(l:List Nat):(sO (l.drop (l.length-1))==")")=decide (l.getLast?=some 41):=by
 rw[bM,beq_iff_eq,decide_eq_true_eq,fE];constructor
 .intro h;have:=congrArg cs h;rw[kX,xy]at this;have e:(l.drop (l.length-1))[0]?=some 41:=by rw[this];rfl
  rwa[mO,xO]at e
 .intro h;obtain⟨hk,e⟩:=aF.mp h;refine gJ ?_;rw[kX,xy,bQ hk,e];congr 1;exact dY ∅
def Cb{l:List Nat}{c:Nat}(h:c∈l)(hc:isL c=false):jN (sO l)=false:=by
 unfold jN;rw[show(cs (sO l)).all isL=false from List.all_eq_false.mpr ⟨c,h,by rw[hc];exact aq⟩,Bool.and_false]
def FU(n:Nat)(w:Str)(ar:List Str)(hl:ar.length<=10)(hw:w.length<sizeLine):PP.run Gs gls (n+3) 20 [.str w,.lst (ar.map .str)]=some (oF (wrd w ar.reverse)):=by
 apply dr;refine bV eT rfl rfl rfl ?_;simp only[eT,init,SI,Nat.reduceAdd,Nat.reduceSub];refine jo 2 [.val (.str w),.val (.lst (ar.map .str)),.val (.str w),.val (.lst []),.no] ⋯ ?_;have hw':=cI hw;show wSs _ (.cons _ _) _ _;have es:slD (.str w) (some (-1)) none=some (.str (sO ((cs w).drop ((cs w).length-1)))):=(if_pos hw').trans (by rw[<- FN];rfl);have whole:(jN w&&!decide (w∈res))=(jN w&&!decide (w∈res)):=rfl;obtain⟨l1,l2⟩:=pT (cs w);rw[bT]at l1 l2;have mf:=m_find w;refine bj (decide ((cs w).getLast?=some 41)) (by rw[<- Ae];exact bN (x:=.str (sO ((cs w).drop ((cs w).length-1)))) (y:=.str ")") (eh (x:=.str w) (l:=some (-1)) (h:=none) ⋯ ⋯ rfl es) ⋯ (eq_str _ _)) (λh=>?_) λh=>?_
 .have h:=of_decide_eq_true h;show wSs _ (.cons _ _) _ _;refine cy _ (jB (x:=.str w) (y:=.str "(") ⋯ ⋯ mf) ⟨_,rfl,?_⟩
  cases e:(fC (cs w)).2 with
  |none =>
   obtain⟨h1,h2⟩:=je e;show wSs _ (.cons _ _) [.val (.str w),.val (.lst (ar.map .str)),.val (.str w),.val (.lst []),.val (.int (-1))] _;refine bj true ⋯ (λ_=>bC .non rfl ?_) λz=>by cases z
   show D.non=_;unfold wrd;rw[e,h2,Ie];rw[show oa w ar.reverse none=none from if_neg ?_]
   .rfl
   .rw[show jN w=false from Cb (l:=cs w) (List.mem_of_getLast? h) ⇑0]
    exact aq
  |some v =>
   obtain⟨h1,h2⟩:=jd e;have lv:=l2 v e
   have el:(cs w).length=(fC (cs w)).1.length+1+v.length:=by
    conv=>lhs;rw[h1]
    rw[az,ag];lia
   rw[bT]at el;have ew:wrd w ar.reverse=oa (sO (fC (cs w)).1) ar.reverse (some v):=by unfold wrd;rw[e]
   rw[ew];generalize (fC (cs w)).1=u at *
   have hv:v≠[]:=by
    rintro rfl;rw[h1,lg,List.getLast?_singleton]at h;cases h
   have hg:v.getLast?=some 41:=by
    rw[h1,lg,AH]at h
    cases ev:v.getLast? with
    |none=>exact absurd (List.getLast?_eq_none_iff.mp ev) hv
    |some x=>rw[ev]at h;simpa using h
   have v1:1<=v.length:=lN.mpr hv;show wSs _ (.cons _ _) [.val (.str w),.val (.lst (ar.map .str)),.val (.str w),.val (.lst []),.val (.int u.length)] _;refine bj false ⋯ (λz=>by cases z) λ_=>?_;show wSs _ (.cons _ _) _ _
   have s1:slD (.str w) none (some (u.length:Int))=some (.str (sO u)):=by
    refine(if_pos hw').trans ?_;congr 2;refine(vO (x:=w) (j:=(u.length:Int)) ⟨∅,by show(u.length:Int)<=((cs w).length:Int);rw[bT];lia⟩).trans (gJ ?_);show((cs w).drop 0).take ((u.length:Int)-0).toNat=u;rw[gi,show((u.length:Int)-0).toNat=u.length by lia,h1,iM]
   refine cy _ (eh (x:=.str w) (l:=none) (h:=some (u.length:Int)) ⋯ rfl ⋯ s1) ⟨_,rfl,?_⟩;show wSs _ (.cons _ _) [.val (.str w),.val (.lst (ar.map .str)),.val (.str (sO u)),.val (.lst []),.val (.int u.length)] _
   have s2:slD (.str w) (some ((u.length:Int)+1)) (some (-1))=some (.str (sO v.dropLast)):=by
    refine(if_pos hw').trans ?_;congr 2;refine(StrLaws.sliceText_neg_hi w _ ∅ ∅).trans ((StrLaws.sliceText_plain (x:=w) (i:=(u.length:Int)+1) (j:=-1+(w.length:Int)) ⟨∅,∅,by show _<=((cs w).length:Int);rw[bT];lia⟩).trans (gJ ?_));show((cs w).drop ((u.length:Int)+1).toNat).take ((-1+(w.length:Int))-((u.length:Int)+1)).toNat=v.dropLast;rw[show((u.length:Int)+1).toNat=(u++[40]).length by rw[az,cR];lia,h1,show u++40::v=(u++[40])++v by simp,List.drop_left,gF];congr 1
    lia
   have le:=lb (xs:=v);refine cy _ (jB (x:=.str (sO v.dropLast)) (y:=.str ",") (eh (x:=.str w) (l:=some ((u.length:Int)+1)) (h:=some (-1)) ⋯ ⋯ ⋯ s2) ⋯ (m_split tH ⇑0 (by rw[eQ];lia))) ⟨_,rfl,?_⟩
   have et:oa (sO u) ar.reverse (some v)=uH (sO u) (spl 44 (sO v.dropLast)) ar.reverse:=by
    show(if _ then _ else _)=(if _ then _ else _);have:(spl 44 (sO v.dropLast)).length=(cQ 44 v.dropLast).length:=ak _;rw[this];by_cases c:(jN (sO u)&&!decide (sO u∈res))=true/\(cQ 44 v.dropLast).length<=3
    .rw[if_pos ⟨c.1,hg,c.2⟩,if_pos c];rfl
    .rw[if_neg λz=>c ⟨z.1,z.2.2⟩,if_neg c]
   rw[et];exact AM n w (sO u) _ ar _ hl (by rw[eQ];lia) λt ht=>by have:=wt ht;rw[eQ]at this;lia
 .have h:=of_decide_eq_false h
  have et:wrd w ar.reverse=uH w [] ar.reverse:=by
   unfold wrd;have t0:iO ar.reverse []=some []:=rfl
   cases e:(fC (cs w)).2 with
   |none =>
    obtain⟨h1,h2⟩:=je e;rw[h2,Ie];show(if _ then _ else _)=(if _ then _ else _);by_cases c:(jN w&&!decide (w∈res))=true
    .rw[if_pos c,if_pos ⟨c,⇑0⟩];rfl
    .rw[if_neg c,if_neg λz=>c z.1]
   |some v =>
    obtain⟨h1,h2⟩:=jd e;rw[show oa (sO (fC (cs w)).1) ar.reverse (some v)=none from if_neg λz=>h ?_]
    .unfold uH;rw[if_neg λz=>?_];rw[show jN w=false from Cb (l:=cs w) (c:=40) (by rw[h1];simp) ⇑0]at z;cases z.1
    .rw[h1,lg,AH,z.2.1];rfl
  rw[et];exact AM n w w [] ar .no hl hw' λt ht=>by cases ht
def eA(a:List Str):D:=.lst (a.reverse.map .str)
def eP(p:Str×List Str):D:=.tup [.str p.1,eA p.2]
def WL:List Str->List (List Str)->Option (List (Str×List Str)×List (List Str)):=wl isB cap ar
def Nt:∀xs:List (List Str),eS (xs.map eA)<=1
 |[]=>by unfold eS;decide
 |a::xs=>by
  have:=Nt xs;rw[aw];unfold eS eA dep;rw[mC];exact Nat.max_le.mpr ⟨aD _,this⟩
def DW(xs:List (List Str)):iD (.lst (xs.map eA)) (.lst [])=true:=by
 have h1:dep (.lst (xs.map eA))<=2:=by have:=Nt xs;unfold dep;lia
 have h2:dep (.lst ([]:List D))=1:=by unfold dep eS;rfl
 unfold iD;rw[h2,show kin (.lst (xs.map eA)) (.lst [])=true from rfl,decide_eq_true ∅,decide_eq_true ∅];rfl
def yT(xs:List (List Str)):eqD (.lst (xs.map eA)) (.lst [])=xs.isEmpty:=by
 cases xs<;>(simp[eqD,lE])
def eq_nil(xs:List (List Str)):gv .eq (.lst (xs.map eA)) (.lst [])=some xs.isEmpty:=by
 show(if iD _ _=true then some (eqD _ _)else _)=_;rw[if_pos (DW xs),yT]
def ne_nil(xs:List (List Str)):gv .ne (.lst (xs.map eA)) (.lst [])=some (!xs.isEmpty):=by
 show(if iD _ _=true then some (!eqD _ _)else _)=_;rw[if_pos (DW xs),yT]
section
variable{cx:Cl}{δ:PP.Loc}{r:Ss}{Q:Out->Prop}
def rR{e:E}{i:Nat}{x y z:D}(hx:δ[i]?=some (.val x))(he:evE cx e δ=some (y,δ))(hz:Eh x y=some z)(q:wSs cx r (δ.set i (.val z)) Q):wSs cx (.cons (.aug i .add e) r) δ Q :=
 bL.mpr ⟨.nx _,by simp only[evS,hx,he,hz,ae,ah,bo],q⟩
def EO{i j:Nat}{ds:List D}{d:D}(h:δ[i]?=some (.own (ds++[d])))(hj:j<δ.length)(q:wSs cx r ((δ.set i (.own ds)).set j (.val d)) Q):wSs cx (.cons (.asg (.nm j) (.pop i)) r) δ Q:=by
 refine bL.mpr (gI.mpr ⟨d,δ.set i (.own ds),?_,_,if_pos (by rw[bb];exact hj),q⟩);simp only[evE,h,List.getLast?_concat,List.dropLast_concat]
def DV:∀(l:List (Str×Int))(x:Str),kW (l.map iL) (l.map λp=>.int p.2) x=(l.lookup x).map .int
 |[],x=>rfl
 |p::l,x=>by
  rw[aw,aw,show p::l=(p.1,p.2)::l from rfl,br];unfold kW;by_cases h:p.1=x
  .rw[if_pos h,h,beq_self_eq_true];rfl
  .rw[if_neg h,DV l x,show(x==p.1)=false from beq_eq_false_iff_ne.mpr λe=>h e.symm]
def tj{l:List (Str×Int)}{a b:E}{x:Str}{z:D}(ha:evE cx a δ=some (.str x,δ))(hb:evE cx b δ=some (z,δ)):evE cx (.dgt (.dcc l) a b) δ=some (((l.lookup x).map .int).getD z,δ):=by
 simp only[evE,ha,hb,ae,ah,DV]
def vJ{x0 x2 x3 d:D}{A:List D}:∀(ds X:List D)(s5:Sl),X.length+ds.length<sizeLine->(∀s5',Q (.nx [.val x0,.own (X++aC ds.length d),.own A,.val x3,.val d,s5']))->qg cx (.nm 5) (.cons (.append 1 (.var 4)) .nil) ds [.val x0,.own X,.own A,.val x3,.val d,s5] Q
 |[],X,s5,_,q=>lU.mpr (by have:=q s5;rwa[aN,Ax,bt]at this)
 |y::ds,X,s5,h,q=>by
  rw[ag]at h;refine mS.mpr ⟨_,rfl,jq d rfl rfl ∅ (dz.mpr ?_)⟩;refine vJ (x2:=x2) ds (X++[d]) (.val y) (by rw[az,cR];lia) λs5'=>?_;have:=q s5';rw[ag,Ay]at this
  rwa[cB]
end
def D4:List (Str×Int):=[("not",1),("and",2),("or",2),("if",2)]
def qC{w:Str}(h:w∉res):WIt.lookup w=none:=by
 have n:=sv h;simp only[WIt,br,n "yes" ⇑0,n "no" ⇑0,n "not" ⇑0,n "and" ⇑0,n "or" ⇑0,n "if" ⇑0,kq]
def IC(w:Str):((D4.lookup w).map D.int).getD (.int 0)=.int (ar w):=by
 by_cases h:w∈res
 .exact mX (P:=λw=>((D4.lookup w).map D.int).getD (.int 0)=.int (ar w)) h ⋯ ⋯ ⋯ ⋯ ⋯ ⋯ ⋯ ⋯
 .have n:=sv h
  have e:D4.lookup w=none:=by
   simp only[D4,br,n "not" ⇑0,n "and" ⇑0,n "or" ⇑0,n "if" ⇑0,kq]
  unfold ar;rw[e,qC h];rfl
def Hx{l:Str}(h:cap l=true):l∉res:=λm=>by
 have:∀r∈res,r.length≠1:=by decide
 unfold cap at h;rw[aa,decide_eq_true_eq]at h;exact this l m h.1
def LL{l:Str}(h:cap l=true):ar l=0:=by
 unfold ar;rw[qC (Hx h)]
def zd(w:Str):ar w<=2:=by
 by_cases h:w∈res
 .exact mX (P:=λw=>ar w<=2) h ⇑0 ⇑0 ⇑0 ⇑0 ⇑0 ⇑0 ⇑0 ⇑0
 .unfold ar;rw[qC h];exact bP _
def Lc(w:Str):(w=="all"||w=="some")=isB w:=by
 unfold isB bns;rw[bM,bH,beq_iff_eq,beq_iff_eq,decide_eq_true_eq,aA,bY]
def tZ{w:Str}{a:List Str}{st:List (List Str)}(h:isB w=false):∀r:List Str,WL (w::r) (a::st)=(WL r (aC (ar w) a++st)).map λp=>((w,a)::p.1,p.2)
 |[]=>by unfold WL;simp only[wl,h,cK,if_false]
 |l::r=>by unfold WL;conv=>lhs;unfold wl;rw[if_neg (by rw[h];exact aq)]
def xI{w:Str}{a:List Str}{st:List (List Str)}(h:isB w=true):WL [w] (a::st)=none:=by
 unfold WL;simp only[wl,h,if_true]
def ua{w l:Str}{r a:List Str}{st:List (List Str)}(h:isB w=true):WL (w::l::r) (a::st)=if cap l=true then(WL r ((l::a)::st)).map λp=>((w,a)::p.1,p.2)else none:=by
 unfold WL
 conv=>lhs;unfold wl;rw[if_pos h]
def sW(W:List Str)(st:List (List Str))(acc:List (Str×List Str))(m:Nat)(s4 s5:Sl):PP.Loc:=[.val (.lst (W.map .str)),.own (st.reverse.map eA),.own (acc.map eP),.val (.int m),s4,s5]
def whC:Ss->E
 |.cons (.while_ c _) _=>c
 |_=>.non
def whB:Ss->Ss
 |.cons (.while_ _ b) _=>b
 |_=>.nil
def MB(a:List Str)(st:List (List Str)):(a::st).reverse.map eA=st.reverse.map eA++[eA a]:=by rw[cN,cg];rfl
def vW{cx:Cl}{W:List Str}{Q:Out->Prop}(hl:∀w∈W,w.length<=sizeLine):∀(f:Nat)(ws:List Str)(m:Nat)(st:List (List Str))(acc:List (Str×List Str))(s4 s5:Sl),ws.length<f->W.drop m=ws->st.length+ws.length<=3000->acc.length+ws.length<=3000->(∀a∈st,a.length+ws.length<=3000) ->
 (WL ws st=none->∀δ,Q (.rt .non δ))->(∀l st',WL ws st=some (l,st')->∀m' s4 s5,Q (.nx (sW W st' (acc++l) m' s4 s5)))->oQ cx (whC (gP 3 dX.body)) (whB (gP 3 dX.body)) f (sW W st acc m s4 s5) Q
 |0,_,_,_,_,_,_,h,_,_,_,_,_,_=>by lia
 |f+1,[],m,st,acc,s4,s5,_,hd,_,_,_,_,hS=>by
  have hm:=zh.mp hd;refine nI.mpr ⟨false,sW W st acc m s4 s5,?_,?_⟩
  .have:decide ((m:Int)<((W.map D.str).length:Int))=false:=by
    rw[decide_eq_false_iff_not,ak];lia
   rw[<- this];exact bN (x:=.int m) (y:=.int (W.map D.str).length) rfl (eK rfl) rfl
  .show if false=true then _ else _
   rw[if_neg aq];have:=hS [] st rfl m s4 s5
   rwa[bt]at this
 |f+1,w::r,m,st,acc,s4,s5,hf,hd,h1,h2,h3,hN,hS=>by
  simp only[ag]at hf h1 h2 h3
  have hg:W[m]?=some w:=by
   have:(W.drop m)[0]?=some w:=by rw[hd];rfl
   rwa[mO,xO]at this
  have hd':W.drop (m+1)=r:=by rw[<- kZ,hd];rfl
  have hm:=(aF.mp hg).1
  have ix:∀{k:Nat}{u:Str}{x y:Sl}{tl:List Sl},W[k]?=some u->evE cx (.ix (.var 0) (.var 3)) (.val (.lst (W.map .str))::x::y::.val (.int k)::tl)=some (.str u,.val (.lst (W.map .str))::x::y::.val (.int k)::tl):=λ{k u x y tl}hk =>
   eF (x:=.lst (W.map .str)) (y:=.int k) rfl rfl (atI_nat (by rw[bJ,hk];rfl))
  refine nI.mpr ⟨true,sW W st acc m s4 s5,?_,?_⟩
  .have:decide ((m:Int)<((W.map D.str).length:Int))=true:=by
    rw[decide_eq_true_eq,ak];lia
   rw[<- this];exact bN (x:=.int m) (y:=.int (W.map D.str).length) rfl (eK rfl) rfl
  show if true=true then _ else _
  rw[if_pos rfl];show wSs _ (.cons _ _) _ _;refine bj st.reverse.isEmpty (bN (x:=.lst (st.reverse.map eA)) (y:=.lst []) rfl rfl (eq_nil _)) (λh=>bC .non rfl (hN ?_ _)) λh=>?_
  .cases st with
   |nil=>rfl
   |cons a st=>simp at h
  cases st with
  |nil=>cases h
  |cons a st =>
   simp only[ag]at h1;have ha:=h3 a ay;show wSs _ (.cons _ _) _ _;refine EO (ds:=st.reverse.map eA) (d:=eA a) (by show some (Sl.own ((a::st).reverse.map eA))=_;rw[MB]) (by show 4<6;decide) ?_;show wSs _ (.cons _ _) [.val (.lst (W.map .str)),.own (st.reverse.map eA),.own (acc.map eP),.val (.int m),.val (eA a),s5] _;refine jq (ds:=acc.map eP) (eP (w,a)) (gz (aL (ix hg) (aL (d:=eA a) rfl rfl)) (by show 2<=sizeLine;decide)) rfl (by rw[ak];exact aK (show acc.length<3001 by lia) ⇑0) ?_;have eacc:acc.map eP++[eP (w,a)]=(acc++[(w,a)]).map eP:=by rw[cg];rfl
   rw[eacc];show wSs _ (.cons _ _) [.val (.lst (W.map .str)),.own (st.reverse.map eA),.own ((acc++[(w,a)]).map eP),.val (.int m),.val (eA a),s5] _;refine bj (isB w) (by rw[<- Lc];exact gq (bN (x:=.str w) (y:=.str "all") (ix hg) rfl (eq_str _ _)) (bN (x:=.str w) (y:=.str "some") (ix hg) rfl (eq_str _ _))) (λhB=>?_) λhB=>?_
   .show wSs _ (.cons _ _) _ _;refine rR (x:=.int m) (y:=.int 1) (z:=.int (m+1:Nat)) rfl rfl rfl ?_;show wSs _ (.cons _ _) [.val (.lst (W.map .str)),.own (st.reverse.map eA),.own ((acc++[(w,a)]).map eP),.val (.int (m+1:Nat)),.val (eA a),s5] _
    cases r with
    |nil =>
     have hl':W.length=m+1:=by have:=zh.mp hd';lia
     refine bj true (jA (p:=true) (q:=true) ?_ λz=>by cases z) (λ_=>bC .non rfl (hN (xI hB) _)) λz=>by cases z
     have e:(((m+1:Nat):Int)==((W.map D.str).length:Int))=true:=by rw[ak,hl',beq_self_eq_true]
     rw[<- e]
     exact bN (x:=.int (m+1:Nat)) (y:=.int (W.map D.str).length) rfl (eK rfl) ⋯
    |cons l r =>
     simp only[ag]at hf h1 h2 h3 ha
     have hg2:W[m+1]?=some l:=by
      have:(W.drop (m+1))[0]?=some l:=by rw[hd'];rfl
      rwa[mO,xO]at this
     have hm2:=(aF.mp hg2).1;have ll:=hl l (cZ hg2)
     have ec:((((m+1:Nat):Int)==((W.map D.str).length:Int))||(!((l.length:Int)==1)||!vg LS l))=!cap l:=by
      have:(((m+1:Nat):Int)==((W.map D.str).length:Int))=false:=by
       rw[beq_eq_false_iff_ne,ak];lia
      rw[this,mL,<- Bool.not_and];unfold cap;congr 2;rw[bM,beq_iff_eq,decide_eq_true_eq]
      lia
     have eb:=ua (r:=r) (a:=a) (st:=st) (l:=l) hB
     refine bj (!cap l) (by
      rw[<- ec];exact gq (bN (x:=.int (m+1:Nat)) (y:=.int (W.map D.str).length) rfl (eK rfl) ⋯) (gq (bN (x:=.int l.length) (y:=.int 1) (gW (aL (ix hg2) rfl) (show(if l.length<=sizeLine then some (D.int l.length)else none)=_ from if_pos ll)) rfl ⋯) (bN (x:=.str l) (y:=.str LS) (ix hg2) rfl rfl))) (λhc=>bC .non rfl (hN (by rw[eb,if_neg (by rw[de]at hc;rw[hc];exact aq)]) _)) λhc=>?_
     have hc:cap l=true:=by rwa[dw]at hc
     rw[if_pos hc]at eb;show wSs _ (.cons _ _) _ _
     have e1:evE cx (.bin .add (.var 4) (.lst (.cons (.ix (.var 0) (.var 3)) .nil))) [.val (.lst (W.map .str)),.own (st.reverse.map eA),.own ((acc++[(w,a)]).map eP),.val (.int (m+1:Nat)),.val (eA a),s5]=some (eA (l::a),[.val (.lst (W.map .str)),.own (st.reverse.map eA),.own ((acc++[(w,a)]).map eP),.val (.int (m+1:Nat)),.val (eA a),s5]):=by
      refine aV (x:=eA a) (y:=.lst [.str l]) rfl ?_ ?_
      .simp only[evE,aL (ix hg2) (show cT cx .nil _=some ([],_)from rfl),ae,ah];exact if_pos (by show 1<=sizeLine;decide)
      .show(if _ then some _ else none)=_;rw[if_pos (by rw[ak,bg];exact aZ (show a.length+1<=3001 by lia) ⇑0)];unfold eA;rw[cN,cg];rfl
     refine jq (ds:=st.reverse.map eA) (eA (l::a)) e1 rfl (by rw[ak,bg];exact aK (show st.length<3001 by lia) ⇑0) ?_;rw[<- MB];show wSs _ (.cons _ _) [.val (.lst (W.map .str)),.own (((l::a)::st).reverse.map eA),.own ((acc++[(w,a)]).map eP),.val (.int (m+1:Nat)),.val (eA a),s5] _;have eI:=mv (tj (cx:=cx) (δ:=[.val (.lst (W.map .str)),.own (((l::a)::st).reverse.map eA),.own ((acc++[(w,a)]).map eP),.val (.int (m+1:Nat)),.val (eA a),s5]) (l:=D4) (b:=.int 0) (z:=.int 0) (ix hg2) rfl |>.trans (by rw[IC,LL hc])) ⇑0 ⇑0;refine gT _ eI (lU.mpr ?_);show wSs _ (.cons _ _) _ _;refine rR (x:=.int (m+1:Nat)) (y:=.int 1) (z:=.int (m+2:Nat)) rfl rfl rfl (dz.mpr ?_);refine vW hl f r (m+2) ((l::a)::st) (acc++[(w,a)]) (.val (eA a)) s5 ∅ (by rw[<- kZ,hd'];rfl) (by rw[ag];lia) (by rw[az,cR];lia) (λb hb=>?_) (λz δ=>hN (by rw[eb,z];rfl) δ) λl' st' z m' s4 s5=>?_
     .rcases aA.mp hb with rfl|hb
      .rw[ag];lia
      .have:=h3 b (ao _ hb);lia
     .have:=hS ((w,a)::l') st' (by rw[eb,z];rfl) m' s4 s5
      rwa[cB]
   .have eb:=tZ (a:=a) (st:=st) hB r;show wSs _ (.cons _ _) _ _;have eI:=mv (tj (cx:=cx) (δ:=[.val (.lst (W.map .str)),.own (st.reverse.map eA),.own ((acc++[(w,a)]).map eP),.val (.int m),.val (eA a),s5]) (l:=D4) (b:=.int 0) (z:=.int 0) (ix hg) rfl |>.trans (by rw[IC])) (by have:=zd w;lia) (by have:=zd w;lia);have la:=zd w
    have rl:(lA 0 ((ar w:Nat):Int).toNat).length=ar w:=by
     unfold lA;rw[ak,gh]
     lia
    refine gT _ eI (vJ (x2:=.non) _ _ _ (by rw[rl,ak,bg];exact aK (show st.length+ar w<3005 by lia) ⇑0) λs5'=>?_);rw[rl]
    have er:st.reverse.map eA++aC (ar w) (eA a)=(aC (ar w) a++st).reverse.map eA:=by
     rw[List.reverse_append,cg,List.reverse_replicate,List.map_replicate]
    rw[er];show wSs _ (.cons _ _) _ _;refine rR (x:=.int m) (y:=.int 1) (z:=.int (m+1:Nat)) rfl rfl rfl (dz.mpr ?_);refine vW hl f r (m+1) (aC (ar w) a++st) (acc++[(w,a)]) (.val (eA a)) s5' ∅ hd' (by rw[az,cS];lia) (by rw[az,cR];lia) (λb hb=>?_) (λz δ=>hN (by rw[eb,z];rfl) δ) λl' st' z m' s4 s5=>?_
    .rcases cc.mp hb with hb|hb
     .rw[(List.mem_replicate.mp hb).2];lia
     .have:=h3 b (ao _ hb);lia
    .have:=hS ((w,a)::l') st' (by rw[eb,z];rfl) m' s4 s5
     rwa[cB]
section
variable{cx:Cl}{δ δ1 δ2 δ3:PP.Loc}{r:Ss}{Q:Out->Prop}
def Aa{α:Type}{src:PP.It}{elt:E}{i j:Nat}(g1 g2 h:α->D)(xs:List α)(hl:xs.length<=sizeLine)(hi:evI cx src δ=some (xs.map λx=>.tup [g1 x,g2 x],δ1))(hd:i=δ1.length)(hd2:j=δ1.length+1)(he:∀x∈xs,evE cx elt (δ1++[.val (g1 x),.val (g2 x)])=some (h x,δ1++[.val (g1 x),.val (g2 x)])):evE cx (.comp 2 (.tp [i,j]) src .no elt) δ=some (.lst (xs.map h),δ1):=by
 subst hd hd2
 have:wE cx (.comp 2 (.tp [δ1.length,δ1.length+1]) src .no elt) δ λd δ'=>d=.lst (xs.map h)/\δ'=δ1:=by
  refine lV.mpr ⟨_,_,hi,iW (λx=>D.tup [g1 x,g2 x]) (λ_=>true) h xs (λx hx=>?_) ?_⟩
  .refine⟨δ1++[.val (g1 x),.val (g2 x)],?_,true,_,rfl,rfl,?_⟩
   .show(if[δ1.length,δ1.length+1].length=[g1 x,g2 x].length/\[δ1.length,δ1.length+1].all (· < (δ1++aC 2 Sl.no).length)=true then some (([δ1.length,δ1.length+1].zip [g1 x,g2 x]).foldl (λδ p=>δ.set p.1 (.val p.2)) (δ1++aC 2 Sl.no))else none)=_;rw[if_pos ⟨rfl,↥0⟩];simp[eO,aC]
   .rw[if_pos rfl];exact⟨_,_,he x hx,rfl,↥0⟩
  .rw[lO.mpr λ_ _=>rfl,ak];exact⟨hl,rfl,rfl⟩
 obtain⟨_,_,e,rfl,rfl⟩:=this;exact e
def He{a:E}{h s:Eo}{ds:List D}{i:Int}(ha:evE cx a δ=some (.lst ds,δ1))(hh:evO cx h δ1=some (some i,δ2))(hs:evO cx s δ2=some (some (-1),δ3))(hi:i<0):evE cx (.rvl a h s) δ=some (.lst (ds.drop (ds.length-(-1-i).toNat)).reverse,δ3):=by
 simp only[evE,ha,hh,hs,ae,ah];exact if_pos ⟨hi,trivial⟩
def DP{op:Op}{a b:E}{x y z:D}(ha:evE cx a δ=some (x,δ1))(hb:evE cx b δ1=some (y,δ2))(h:opD op x y=some z):evE cx (.bin op a b) δ=some (z,δ2):=by
 simp only[evE,ha,hb,h,ae,ah];rfl
def DK{op:Cop}{a b:E}{x y:D}{p:Bool}(ha:evE cx a δ=some (x,δ1))(hb:evE cx b δ1=some (y,δ2))(h:gv op x y=some p):evT cx (.cmp op a b) δ=some (p,δ2):=by
 simp only[evT,ha,hb,h,ae,ah];rfl
def DO{f:Blt}{e:E}{x z:D}(h:evE cx e δ=some (x,δ1))(hb:hZ f [x]=some z):evE cx (.blt f (.cons e .nil)) δ=some (z,δ1):=by
 have:cT cx (.cons e .nil) δ=some ([x],δ1):=by simp only[cT,h,ae,ah];rfl
 simp only[evE,this,hb,ae,ah];rfl
def xu{e:E}{ds:List D}(h:evE cx e δ=some (.lst ds,δ1)):evE cx (.blt .toTup (.cons e .nil)) δ=some (.tup ds,δ1):=by
 simp only[evE,cT,h,ae,ah];rfl
def rP{i:Nat}{e:E}{ds:List D}(h:evE cx e δ=some (.lst ds,δ))(hi:i<δ.length)(q:wSs cx r (δ.set i (.own ds)) Q):wSs cx (.cons (.new i e) r) δ Q :=
 bL.mpr (AR.mpr ⟨_,_,h,ds,rfl,hi,q⟩)
end
def Br(k:Int):∀(ns:List Int)(n:Int),k<ns.foldl (λa b=>if b>a then b else a) n↔k<n\/∃x∈ns,k<x
 |[],n=>by simp
 |m::ns,n=>by
  rw[ie,Br k ns];constructor
  .rintro(h|⟨x,hx,h⟩)
   .split at h
    .exact .inr ⟨m,ay,h⟩
    .exact .inl h
   .exact .inr ⟨x,ao _ hx,h⟩
  .rintro(h|⟨x,hx,h⟩)
   .refine .inl ?_;split<;>lia
   .rcases aA.mp hx with rfl|hx
    .refine .inl ?_;split<;>lia
    .exact .inr ⟨x,hx,h⟩
def HE{w:Str}{r a:List Str}{st st':List (List Str)}{l:List (Str×List Str)}(h:WL (w::r) (a::st)=some (l,st')):l≠[]:=by
 rintro rfl
 cases hB:isB w with
 |false =>
  rw[tZ hB]at h;obtain⟨p,_,e⟩:=aj.mp h
  cases e
 |true =>
  cases r with
  |nil=>rw[xI hB]at h;cases h
  |cons x r =>
   rw[ua hB]at h;split at h
   .obtain⟨p,_,e⟩:=aj.mp h;cases e
   .cases h
def vK:∀(n:Nat)(ws:List Str)(st st':List (List Str))(l:List (Str×List Str)),ws.length<n->WL ws st=some (l,st')->l.length<=ws.length/\∀p∈l,p.1∈ws:=λn=>by
 induction n with
 |zero=>intro ws st st' l h;lia
 |succ n ih =>
  intro ws st st' l h e
  cases ws with
  |nil=>cases e;exact⟨aD _,λp hp=>by cases hp⟩
  |cons w r =>
   cases st with
   |nil=>unfold WL at e;simp only[wl]at e;cases e
   |cons a st =>
    simp only[ag]at h
    cases hB:isB w with
    |false =>
     rw[tZ hB]at e;obtain⟨p,e1,e2⟩:=aj.mp e;cases e2;obtain⟨h1,h2⟩:=ih r _ _ p.1 ∅ e1;refine⟨by simp only[ag];lia,λq hq=>?_⟩;rcases aA.mp hq with rfl|hq
     .exact ay
     .exact ao _ (h2 q hq)
    |true =>
     cases r with
     |nil=>rw[xI hB]at e;cases e
     |cons x r =>
      rw[ua hB]at e;split at e
      .obtain⟨p,e1,e2⟩:=aj.mp e;cases e2;obtain⟨h1,h2⟩:=ih r _ _ p.1 (by simp only[ag]at h;lia) e1;refine⟨by simp only[ag];lia,λq hq=>?_⟩;rcases aA.mp hq with rfl|hq
       .exact ay
       .exact ao _ (ao _ (h2 q hq))
      .cases e
def wlk(W:List Str):Option (List (Str×List Str)):=(wk isB cap ar W [[]]).bind λl=>if 40<l.length then none else some l
def oL:Option (List (Str×List Str))->D
 |some l=>.lst (l.map eP)
 |none=>.non
def Ce(n:Nat)(w:Str)(r:List Str)(hl:∀v∈w::r,v.length<=sizeLine)(hn:(w::r).length<999):PP.run Gs gls (n+1) 21 [.lst ((w::r).map .str)]=some (oL (wlk (w::r))):=by
 apply dr;refine bV dX rfl rfl rfl ?_;simp only[dX,init,SI,Nat.reduceAdd,Nat.reduceSub];refine jo 3 (sW (w::r) [[]] [] 0 .no .no) ⋯ ?_
 have ek:wlk (w::r)=((WL (w::r) [[]]).bind ends).bind λl=>if 40<l.length then none else some l:=by
  unfold wlk;rw[uy 1000 (w::r) [[]] ∅];rfl
 show wSs _ (.cons _ _) _ _;refine bL.mpr (uB.mpr (vW (f:=1000) hl (w::r) 0 [[]] [] .no .no ∅ rfl (by rw[cR];lia) (by rw[aN];lia) (λa ha=>by rw[bY.mp ha,aN];lia) (λe δ=>?_) λl st' e m' s4 s5=>?_))
 .show D.non=_;rw[ek,e];rfl
 rw[ek,e,ah,ic];have hne:=HE e
 have hlen:l.length<=3000:=by
  have:=(vK 1000 (w::r) _ _ _ ∅ e).1
  lia
 show wSs _ (.cons _ _) _ _;have p1:evT ⟨PP.run Gs gls n,gls,hfs Gs⟩ (.cmp .ne (.pk 1) (.lst .nil)) (sW (w::r) st' l m' s4 s5)=some (!st'.reverse.isEmpty,sW (w::r) st' l m' s4 s5):=bN (x:=.lst (st'.reverse.map eA)) (y:=.lst []) rfl rfl (ne_nil _);have p2:evT ⟨PP.run Gs gls n,gls,hfs Gs⟩ (.cmp .gt (.blt .len (.cons (.pk 2) .nil)) (.int 40)) (sW (w::r) st' l m' s4 s5)=some (decide ((40:Int)<((l.map eP).length:Int)),sW (w::r) st' l m' s4 s5):=bN (x:=.int (l.map eP).length) (y:=.int 40) (eK rfl) rfl rfl;rw[show ends (l,st')=if st'=[]/\qi l=true then some l else none from rfl]
 cases st' with
 |cons a st' =>
  rw[if_neg λz=>by cases z.1];refine bj true (jA (p:=true) (q:=true) ?_ λz=>by cases z) (λ_=>bC .non rfl rfl) λz=>by cases z
  rw[p1]
  simp
 |nil =>
  by_cases h40:40<l.length
  .have:(Option.bind (if([]:List (List Str))=[]/\qi l=true then some l else none) λl=>if 40<l.length then none else some l)=none:=by
    split
    .exact if_pos h40
    .rfl
   refine bj (false||(true||false)) (jA p1 λ_=>jA (p:=true) (q:=false) ?_ λz=>by cases z) (λ_=>bC .non rfl ?_) λz=>by cases z
   .rw[p2,decide_eq_true (by rw[ak];lia)]
   .show D.non=_;rw[this];rfl
  .have p2':=p2;rw[decide_eq_false (by rw[ak];lia)]at p2'
   have cmpE:evE ⟨PP.run Gs gls n,gls,hfs Gs⟩ (.comp 2 (.tp [6,7]) (.sq (.var 2)) .no (.blt .len (.cons (.var 7) .nil))) (sW (w::r) [] l m' s4 s5)=some (.lst (l.map λp=>.int (p.2.length:Nat)),[.val (.lst ((w::r).map .str)),.own [],.val (.lst (l.map eP)),.val (.int m'),s4,s5]) :=
    Aa (δ1:=[.val (.lst ((w::r).map .str)),.own [],.val (.lst (l.map eP)),.val (.int m'),s4,s5]) (λp:Str×List Str=>.str p.1) (λp=>eA p.2) (λp=>.int (p.2.length:Nat)) l (aZ hlen ⇑0) rfl rfl rfl λp _=>by
     have:=eK (cx:=⟨PP.run Gs gls n,gls,hfs Gs⟩) (e:=.var 7) (δ:=[.val (.lst ((w::r).map .str)),.own [],.val (.lst (l.map eP)),.val (.int m'),s4,s5]++[.val (.str p.1),.val (eA p.2)]) (ds:=p.2.reverse.map .str) rfl;rw[ak,bg]at this;exact this
   obtain⟨p,l',rfl⟩:=List.exists_cons_of_ne_nil hne
   have mx:hZ .max [.lst ((p::l').map λp=>.int (p.2.length:Nat))]=some (.int ((l'.map λp=>(p.2.length:Int)).foldl (λa b=>if b>a then b else a) (p.2.length:Int))):=by
    show(mq _).bind _=_;rw[ints_map (λp:Str×List Str=>(p.2.length:Int)),ah,aw,if_neg ↥0];rfl
   have sh:qi (p::l')=!decide ((10:Int)<(l'.map λp=>(p.2.length:Int)).foldl (λa b=>if b>a then b else a) (p.2.length:Int)):=by
    rw[bM,de,decide_eq_false_iff_not,Br,qi,bO];constructor
    .rintro h (h1|⟨x,hx,h1⟩)
     .have:=of_decide_eq_true (h p ay);lia
     .obtain⟨q,hq,rfl⟩:=cG.mp hx;have:=of_decide_eq_true (h q (ao _ hq));lia
    .intro h q hq;rw[decide_eq_true_eq];refine ue.mp λz=>h ?_;rcases aA.mp hq with rfl|hq
     .exact .inl ∅
     .exact .inr ⟨_,cG.mpr ⟨q,hq,rfl⟩,∅⟩
   generalize hb:decide ((10:Int)<(l'.map λp=>(p.2.length:Int)).foldl (λa b=>if b>a then b else a) (p.2.length:Int))=b at sh;refine bL.mpr (rV.mpr ⟨b,[.val (.lst ((w::r).map .str)),.own [],.val (.lst ((p::l').map eP)),.val (.int m'),s4,s5],?_,?_⟩)
   .have p3:evT ⟨PP.run Gs gls n,gls,hfs Gs⟩ (.cmp .gt (.blt .max (.cons (.comp 2 (.tp [6,7]) (.sq (.var 2)) .no (.blt .len (.cons (.var 7) .nil))) .nil)) (.int 10)) (sW (w::r) [] (p::l') m' s4 s5)=some (b,[.val (.lst ((w::r).map .str)),.own [],.val (.lst ((p::l').map eP)),.val (.int m'),s4,s5]):=by
     rw[<- hb];exact DK (DO cmpE mx) rfl rfl
    simp only[evT,ae]at p1 p2' p3 |-;rw[p1];simp only[ah,List.reverse_nil,List.isEmpty_nil,ur,cK,if_false];rw[p2'];simp only[ah,cK,if_false];exact p3
   .rw[sh]
    cases b with
    |true =>
     show if true=true then _ else _
     rw[if_pos rfl,if_neg ↥0]
     exact bC .non rfl rfl
    |false =>
     show if false=true then _ else _
     rw[if_neg aq,if_pos ⟨rfl,rfl⟩,ah,if_neg h40];exact dz.mpr (bC (.lst ((p::l').map eP)) rfl rfl)
def BD:List (Str×List Str)->Option (List F):=bd isB ar lf nd
def ary(w:Str):Nat:=if isB w=true then 1 else ar w
def WN:List (Str×List Str)->Nat->Prop:=Wn isB ar
def ub{l:List (Str×List Str)}(h:BD l=none):∀pre,BD (pre++l)=none
 |[]=>h
 |(w,a)::pre=>by
  show(BD (pre++l)).bind _=none;rw[ub h pre];rfl
def En{l:List (Str×List Str)}:∀(pre:List (Str×List Str))(n:Nat),WN (pre++l) n->∃k,WN l k
 |[],n,h=>⟨n,h⟩
 |_::pre,n,h=>by
  obtain⟨k,_,h⟩:=h;exact En pre _ h
def D6:List (Str×Int):=[("not",1),("all",1),("some",1),("and",2),("or",2),("if",2)]
def sU{w:Str}(h:w∉res):isB w=false:=decide_eq_false λm=>h (by
 simp only[bns,aA,bS,or_false]at m;rcases m with rfl|rfl<;>decide)
def Nu(w:Str):((D6.lookup w).map D.int).getD (.int 0)=.int (ary w):=by
 by_cases h:w∈res
 .exact mX (P:=λw=>((D6.lookup w).map D.int).getD (.int 0)=.int (ary w)) h ⋯ ⋯ ⋯ ⋯ ⋯ ⋯ ⋯ ⋯
 .have n:=sv h
  have e:D6.lookup w=none:=by
   simp only[D6,br,n "not" ⇑0,n "and" ⇑0,n "or" ⇑0,n "if" ⇑0,n "all" ⇑0,n "some" ⇑0,kq]
  unfold ary ar;rw[e,qC h,sU h];rfl
def kinds(w:Str):(ary w=0/\isB w=false/\ar w=0/\((w=="yes"||w=="no")=false->∀a,lf w a=wrd w a))\/(ary w=1/\(w=="yes"||w=="no")=false/\(∀A,enc (nd w [A])=.tup [.str w,enc A])/\((isB w=true)\/(isB w=false/\ar w=1)))\/(ary w=2/\(w=="yes"||w=="no")=false/\(∀A C,enc (nd w [A,C])=.tup [.str w,enc A,enc C])/\isB w=false/\ar w=2):=by
 have lw:(w=="yes"||w=="no")=false->∀a,lf w a=wrd w a:=λh a=>by
  rw[fm,beq_eq_false_iff_ne,beq_eq_false_iff_ne]at h;unfold lf;rw[if_neg h.1,if_neg h.2]
 by_cases h:w∈res
 .revert lw
  refine mX (P:=λw=>((w=="yes"||w=="no")=false->∀a,lf w a=wrd w a)->(ary w=0/\isB w=false/\ar w=0/\((w=="yes"||w=="no")=false->∀a,lf w a=wrd w a))\/(ary w=1/\(w=="yes"||w=="no")=false/\(∀A,enc (nd w [A])=.tup [.str w,enc A])/\((isB w=true)\/(isB w=false/\ar w=1)))\/(ary w=2/\(w=="yes"||w=="no")=false/\(∀A C,enc (nd w [A,C])=.tup [.str w,enc A,enc C])/\isB w=false/\ar w=2)) h (λlw=>.inl ⟨⋯,⋯,⋯,lw⟩) (λlw=>.inl ⟨⋯,⋯,⋯,lw⟩) (λ_=>.inr (.inl ⟨⋯,⋯,λA=>congrArg enc (show nd "not" [A]=.neg A by kernel_rfl),.inr ⟨⋯,⋯⟩⟩))
   (λ_=>.inr (.inr ⟨⋯,⋯,λA C=>congrArg enc (show nd "and" [A,C]=.bi .and A C by kernel_rfl),⋯,⋯⟩)) (λ_=>.inr (.inr ⟨⋯,⋯,λA C=>congrArg enc (show nd "or" [A,C]=.bi .or A C by kernel_rfl),⋯,⋯⟩)) (λ_=>.inr (.inr ⟨⋯,⋯,λA C=>congrArg enc (show nd "if" [A,C]=.bi .imp A C by kernel_rfl),⋯,⋯⟩))
   (λ_=>.inr (.inl ⟨⋯,⋯,λA=>DS ⋯ A,.inl ⋯⟩)) (λ_=>.inr (.inl ⟨⋯,⋯,λA=>DS ⋯ A,.inl ⋯⟩))
 .refine .inl ⟨?_,sU h,?_,lw⟩
  .unfold ary ar;rw[sU h,qC h];rfl
  .unfold ar;rw[qC h]
def oN{w:Str}{a:List Str}{l:List (Str×List Str)}{st:List F}(hB:isB w=false)(ha:ar w=0)(h:BD l=some st):BD ((w,a)::l)=(lf w a).map (·::st):=by
 show(BD l).bind _=_;rw[h,ah,if_neg (by rw[hB];exact aq)];simp only[ha]
def Et{w:Str}{a:List Str}{l:List (Str×List Str)}{A:F}{st:List F}(hB:isB w=true\/(isB w=false/\ar w=1))(h:BD l=some (A::st)):BD ((w,a)::l)=some (nd w [A]::st):=by
 show(BD l).bind _=_;rw[h,ah];rcases hB with hB|⟨hB,ha⟩
 .rw[if_pos hB]
 .rw[if_neg (by rw[hB];exact aq)];simp only[ha]
def Er{w:Str}{a:List Str}{l:List (Str×List Str)}{A C:F}{st:List F}(hB:isB w=false)(ha:ar w=2)(h:BD l=some (A::C::st)):BD ((w,a)::l)=some (nd w [A,C]::st):=by
 show(BD l).bind _=_;rw[h,ah,if_neg (by rw[hB];exact aq)];simp only[ha]
def Ep:∀{l:List (Str×List Str)}{k:Nat}{st:List F},WN l k->BD l=some st->st.length=k
 |[],k,st,h,e=>by
  cases e
  exact(show k=0 from h).symm
 |(w,a)::l,k,st,h,e=>by
  obtain⟨k,rfl,h⟩:=h
  cases e0:BD l with
  |none=>rw[show(w,a)::l=[(w,a)]++l from rfl,ub e0]at e;cases e
  |some s0 =>
   have ih:=Ep h e0;have hk:s0.length=ary w+k:=ih;rcases kinds w with⟨h1,h2,h3,_⟩|⟨h1,_,_,h3⟩|⟨h1,_,_,h3,h4⟩
   .rw[oN h2 h3 e0]at e;obtain⟨A,_,rfl⟩:=aj.mp e;rw[ag];lia
   .match s0,hk with
    |[],hk=>rw[aN]at hk;lia
    |A::s1,hk =>
     rw[Et h3 e0]at e;cases e;simp only[ag]at hk |-
     lia
   .match s0,hk with
    |[],hk=>rw[aN]at hk;lia
    |[_],hk=>simp only[ag,aN]at hk;lia
    |A::C::s1,hk =>
     rw[Er h3 h4 e0]at e;cases e;simp only[ag]at hk |-
     lia
def Hn{ds:List D}{s:Nat}(h:s<=ds.length)(h0:0<s):slD (.lst ds) none (some (-(s:Int)))=some (.lst (ds.take (ds.length-s))):=by
 show some (D.lst ((ds.drop (HT.sIx ds.length 0 none)).take (HT.sIx ds.length ds.length (some (-(s:Int)))-HT.sIx ds.length 0 none)))=_
 have e:HT.sIx ds.length ds.length (some (-(s:Int)))=ds.length-s:=by
  show(if(-(s:Int))<0 then(-(s:Int)+(ds.length:Int)).toNat else _)=_;rw[if_pos ∅]
  lia
 rw[e,HT.sIx_none,gi,xN]
def due(l:List (Str×List Str)):Option F:=(BD l).bind List.head?
noncomputable abbrev sB(tx:D)(l:List (Str×List Str))(w:Str)(a:List Str)(s2 s5 s6:Sl):PP.Loc:=[.val tx,.val (.lst (l.map eP)),s2,.val (.str w),.val (eA a),s5,s6]
def fB:Ss->Ss
 |.cons (.for_ _ _ b) _=>b
 |_=>.nil
def LJ{N:Nat}{tx:D}{l:List (Str×List Str)}{w:Str}{a:List Str}{st:List F}{s5 s6:Sl}{Q:Out->Prop}(ha:a.length<=10)(hw:w.length<sizeLine)(hs:ary w<=st.length)(hs2:st.length<=1000)
 (q0:isB w=false->ar w=0->lf w a=none->∀δ,Q (.rt .non δ))(q1:∀st' s5 s6,(∀l',BD l'=some st->BD ((w,a)::l')=some st')->Q (.nx (sB tx l w a (.own (st'.reverse.map enc)) s5 s6))) :
 wSs ⟨PP.run Gs gls (N+3),gls,hfs Gs⟩ (fB (gP 3 eU.body)) (sB tx l w a (.own (st.reverse.map enc)) s5 s6) Q:=by
 show wSs _ (.cons _ _) _ _;refine cy _ (tj (l:=D6) (x:=w) (z:=.int 0) ⋯ ⋯) ⟨_,rfl,?_⟩;rw[Nu];show wSs _ (.cons _ _) (sB tx l w a (.own (st.reverse.map enc)) (.val (.int (ary w))) s6) _
 -- the end: s is looked at,and put on
 have fin:∀(o:Option F)(s0:List F)(s5:Sl),s0.length<=1000->(o=none->∀δ,Q (.rt .non δ))->(∀A,o=some A->∀l',BD l'=some st->BD ((w,a)::l')=some (A::s0))->wSs ⟨PP.run Gs gls (N+3),gls,hfs Gs⟩ (gP 2 (fB (gP 3 eU.body))) (sB tx l w a (.own (s0.reverse.map enc)) s5 (.val (oF o))) Q:=λo s0 s5 hl h0 h1=>by
  show wSs _ (.cons _ _) _ _
  cases o with
  |none=>exact bj true ⋯ (λ_=>bC .non rfl (h0 rfl _)) λz=>by cases z
  |some A =>
   refine bj false (by cases A<;>kernel_rfl) (λz=>by cases z) λ_=>?_;show wSs _ (.cons _ _) _ _;refine jq (ds:=s0.reverse.map enc) (enc A) ⋯ rfl (by rw[ak,bg];exact cL hl ⇑0) (dz.mpr ?_);have e:s0.reverse.map enc++[enc A]=(A::s0).reverse.map enc:=by rw[cN,cg];rfl
   rw[e];exact q1 (A::s0) s5 (.val (enc A)) (h1 A rfl)
 refine bj (w=="yes"||w=="no") (gq (bN (x:=.str w) (y:=.str "yes") ⋯ ⋯ (eq_str _ _)) (bN (x:=.str w) (y:=.str "no") ⋯ ⋯ (eq_str _ _))) (λhy=>?_) λhy=>?_
 .show wSs _ (.cons _ _) _ _;refine cy (.tup [.str w]) ⋯ ⟨_,rfl,?_⟩
  obtain⟨A,hA,hE,hB,h0⟩:∃A,(∀a,lf w a=some A)/\enc A=.tup [.str w]/\isB w=false/\ar w=0:=by
   rw[bH]at hy;rcases hy with hy|hy
   .rw[eq_of_beq hy];exact⟨.yes,λa=>if_pos rfl,rfl,⋯,⋯⟩
   .rw[eq_of_beq hy];exact⟨.no,λa=>(if_neg ⇑0).trans (if_pos rfl),rfl,⋯,⋯⟩
  have:=fin (some A) st (.val (.int (ary w))) hs2 (λz=>by cases z) λA' e l' hl'=>by
   cases e;rw[oN hB h0 hl',hA];rfl
  rw[show oF (some A)=.tup [.str w]from hE]at this;exact this
 .show wSs _ (.cons _ _) _ _;rcases kinds w with⟨h1,hB,h3,h4⟩|⟨h1,_,h3,h4⟩|⟨h1,_,h3,h4,h5⟩
  .refine bj true (by rw[h1];kernel_rfl) (λ_=>?_) λz=>by cases z
   show wSs _ (.cons _ _) _ _;have rw1:=FU N w a.reverse (by rw[bg];exact ha) hw;rw[fj]at rw1;refine dI [.str w,eA a] ⋯ ((lR rw1).mpr ⟨_,rfl,?_⟩)
   exact fin (wrd w a) st (.val (.int (ary w))) hs2 (λz=>q0 hB h3 (by rw[h4 hy];exact z)) λA e l' hl'=>by
    rw[oN hB h3 hl',h4 hy,e];rfl
  all_goals
   have hp:∀s:Nat,s=ary w->0<s->wSs ⟨PP.run Gs gls (N+3),gls,hfs Gs⟩ (gP 2 (fB (gP 3 eU.body))) (sB tx l w a (.own ((st.drop s).reverse.map enc)) (.val (.int (ary w))) (.val (.tup (.str w::(st.take s).map enc)))) Q->wSs ⟨PP.run Gs gls (N+3),gls,hfs Gs⟩ (.cons (.asg (.nm 6) (.bin .add (.tup (.cons (.var 3) .nil)) (.blt .toTup (.cons (.rvl (.var 2) (.yes (.bin .sub (.neg (.int 1)) (.var 5))) (.yes (.neg (.int 1)))) .nil)))) (.cons (.new 2 (.sl (.pk 2) .no (.yes (.neg (.var 5))))) (gP 2 (fB (gP 3 eU.body))))) (sB tx l w a (.own (st.reverse.map enc)) (.val (.int (ary w))) s6) Q:=λs es h0 q=>by
    rw[<- es]at hs q |-
    have e1:evE ⟨PP.run Gs gls (N+3),gls,hfs Gs⟩ (.rvl (.var 2) (.yes (.bin .sub (.neg (.int 1)) (.var 5))) (.yes (.neg (.int 1)))) (sB tx l w a (.own (st.reverse.map enc)) (.val (.int s)) s6)=some (.lst ((st.take s).map enc),(sB tx l w a (.val (.lst (st.reverse.map enc))) (.val (.int s)) s6)):=by
     refine(He (ds:=st.reverse.map enc) (i:=-1-(s:Int)) (δ1:=(sB tx l w a (.val (.lst (st.reverse.map enc))) (.val (.int s)) s6)) (δ2:=(sB tx l w a (.val (.lst (st.reverse.map enc))) (.val (.int s)) s6)) (δ3:=(sB tx l w a (.val (.lst (st.reverse.map enc))) (.val (.int s)) s6)) ⋯ ⋯ ⋯ ∅).trans ?_;congr 3;rw[show(-1-(-1-(s:Int))).toNat=s by lia,ak,bg,<- gN,<- EJ,EB,fj,bg];congr 2
     lia
    refine bL.mpr (gI.mpr ⟨.tup (.str w::(st.take s).map enc),_,DP (x:=.tup [.str w]) (y:=.tup ((st.take s).map enc)) ⋯ (xu e1) ?_,_,rfl,?_⟩)
    .show(if _ then some _ else none)=_;rw[if_pos (by show 1+_<=_;rw[ak,bA];exact aZ (show 1+min s st.length<=1001 by lia) ⇑0)];rfl
    .have e2:(st.reverse.map enc).take ((st.reverse.map enc).length-s)=(st.drop s).reverse.map enc:=by
      rw[ak,bg,<- gM,EB]
     refine rP (ds:=(st.drop s).reverse.map enc) (eh (x:=.lst (st.reverse.map enc)) (l:=none) (h:=some (-(s:Int))) ⋯ rfl ⋯ ?_) (by show 2<7;decide) q;rw[<- e2];exact Hn (by rw[ak,bg];exact hs) h0
  .refine bj false (by rw[h1];kernel_rfl) (λz=>by cases z) λ_=>?_;rw[h1]at hs
   cases st with
   |nil=>rw[aN]at hs;lia
   |cons A s1 =>
    rw[ag]at hs2;refine hp 1 h1.symm ⇑0 ?_
    have:=fin (some (nd w [A])) s1 (.val (.int (ary w))) ∅ (λz=>by cases z) λA' e l' hl'=>by
     cases e;exact Et h4 hl'
    rw[show oF (some (nd w [A]))=.tup [.str w,enc A]from h3 A]at this;exact this
  .refine bj false (by rw[h1];kernel_rfl) (λz=>by cases z) λ_=>?_;rw[h1]at hs
   match st,hs,hs2 with
   |[],hs,_=>rw[aN]at hs;lia
   |[_],hs,_=>simp only[ag,aN]at hs;lia
   |A::C::s1,hs,hs2 =>
    simp only[ag]at hs2;refine hp 2 h1.symm ⇑0 ?_
    have:=fin (some (nd w [A,C])) s1 (.val (.int (ary w))) ∅ (λz=>by cases z) λA' e l' hl'=>by
     cases e;exact Er h4 h5 hl'
    rw[show oF (some (nd w [A,C]))=.tup [.str w,enc A,enc C]from h3 A C]at this;exact this
def IG:∀{l:List (Str×List Str)}{n:Nat},WN l n->n<=l.length
 |[],n,h=>kn (show n=0 from h)
 |(w,a)::l,n,h=>by
  obtain⟨k,rfl,h⟩:=h;have:=IG (show WN l _ from h);rw[ag]
  lia
def AK{W:List Str}{l:List (Str×List Str)}(hn:W.length<999)(h:wlk W=some l):l.length<=40/\qi l=true/\WN l 1/\∀p∈l,p.1∈W:=by
 unfold wlk at h;rw[uy 1000 W [[]] ∅]at h;obtain⟨l0,h1,h2⟩:=af.mp h;obtain⟨⟨l1,st⟩,h3,h4⟩:=af.mp h1;split at h2
 .cases h2
 cases h2;unfold ends at h4;split at h4
 .rename_i hc;cases h4;obtain⟨hs,hd⟩:=hc;have hs:st=[]:=hs;subst hs;exact⟨∅,hd,xT 1000 W [[]] _ ∅ h3,(vK 1000 W [[]] [] _ ∅ h3).2⟩
 .cases h4
def MF(n:Nat)(t:Str)(ht:t.length<sizeLine)(hb:(spl 32 t).length<999):PP.run Gs gls (n+5) 22 [.str t]=some (oF ((wlk (spl 32 t)).bind due)):=by
 apply dr;refine bV eU rfl rfl rfl ?_;simp only[eU,init,SI,Nat.reduceAdd,Nat.reduceSub];have hW:∀v∈spl 32 t,v.length<=t.length:=λv hv=>wt hv;have ms:=m_split (x:=t) pU ⇑0 ht
 obtain⟨w,r,es⟩:∃w r,spl 32 t=w::r:=by
  obtain⟨w,ws,e⟩:=ir 32 (cs t);exact⟨sO w,ws.map sO,by unfold spl;rw[e];rfl⟩
 rw[es]at ms hb hW |-;have rw1:=Ce (n+3) w r (λv hv=>cI (cL (hW v hv) ht)) hb;refine dI [.lst ((w::r).map .str)] (aL (jB (x:=.str t) (y:=.str " ") ⋯ ⋯ ms) rfl) ((lR rw1).mpr ⟨_,rfl,?_⟩);show wSs _ (.cons _ _) [.val (.str t),.val (oL (wlk (w::r))),.no,.no,.no,.no,.no] _
 cases e:wlk (w::r)with
 |none=>exact bj true ⋯ (λ_=>bC .non rfl rfl) λz=>by cases z
 |some l =>
  obtain⟨k1,k2,k3,k4⟩:=AK hb e;refine bj false ⋯ (λz=>by cases z) λ_=>?_;show wSs _ (.cons _ _) _ _;refine rP (ds:=[]) ⋯ (by show 2<7;decide) ?_;show wSs _ (.cons _ _) [.val (.str t),.val (.lst (l.map eP)),.own [],.no,.no,.no,.no] _;refine gT ((l.map eP).reverse) ⋯ ?_;rw[<- EJ];refine iV eP (λrest δ=>∃pre suf st s3 s4 s5 s6,rest=pre.reverse/\l=pre++suf/\BD suf=some st/\δ=[.val (.str t),.val (.lst (l.map eP)),.own (st.reverse.map enc),s3,s4,s5,s6]) ?_ ?_ l.reverse _ ⟨l,[],[],.no,.no,.no,.no,rfl,↥0,rfl,rfl⟩
  .rintro⟨v,a⟩ rest δ ⟨pre,suf,st,s3,s4,s5,s6,hr,hl,hd,rfl⟩
   have hp:pre=rest.reverse++[(v,a)]:=by
    have:=congrArg List.reverse hr;rw[fj,cN]at this;exact this.symm
   have hl':l=rest.reverse++(v,a)::suf:=by rw[hl,hp,cB];rfl
   have hm:(v,a)∈l:=by rw[hl'];simp
   obtain⟨k,hk⟩:=En rest.reverse 1 (by rw[<- hl'];exact k3);obtain⟨k',rfl,hk'⟩:=hk;have hs:st.length=ary v+k':=Ep (show WN suf _ from hk') hd;have hsl:=IG (show WN suf (ary v+k')from hk')
   have hsuf:suf.length<=40:=by
    rw[hl',az,ag]at k1;lia
   have ha:a.length<=10:=of_decide_eq_true (bO.mp k2 _ hm);refine⟨[.val (.str t),.val (.lst (l.map eP)),.own (st.reverse.map enc),.val (.str v),.val (eA a),s5,s6],⋯,LJ (N:=n+1) ha (cL (hW _ (k4 _ hm)) ht) ∅ ∅ (λhB h0 hf δ=>?_) λst' s5 s6 h=>?_⟩
   .show D.non=_
    have:BD l=none:=by
     rw[hl'];refine ub ?_ _;rw[oN hB h0 hd,hf];rfl
    rw[ah];unfold due;rw[this];rfl
   .exact⟨rest.reverse,(v,a)::suf,st',_,_,_,_,(fj _).symm,hl',h suf hd,rfl⟩
  .rintro δ ⟨pre,suf,st,s3,s4,s5,s6,hr,hl,hd,rfl⟩
   have hp:pre=[]:=by
    have:=congrArg List.reverse hr;rw[fj]at this;exact this.symm
   subst hp;have hl:l=suf:=hl;subst hl;have hs:=Ep k3 hd
   match st,hs,hd with
   |[A],_,hd =>
    show wSs _ (.cons _ _) _ _;refine bC (enc A) ⋯ ?_;show enc A=_;rw[ah];unfold due;rw[hd]
    rfl
   |_::_::_,hs,_=>simp only[ag]at hs;lia
def Fg(t:Str)(hb:(spl 32 t).length<999):stm t=(wlk (spl 32 t)).bind due:=by
 unfold stm bnd;generalize spl 32 t=ws at *;have key:=AL (lf:=lf) (nd:=nd) (isB:=isB) (cap:=cap) (ar:=ar) (ws.length+1) ws [[]] zd ∅;rw[fG]at key
 have nd1:∀(w:Str)(A:F),sz (nd w [A])=1+sz A:=λw A=>by
  show sz (if w="all" then F.q true A else if w="some" then F.q false A else F.neg A)=_;split
  .simp only[sz];lia
  split<;>(simp only[sz];lia)
 have nd2:∀(w:Str)(A C:F),sz (nd w [A,C])=1+sz A+sz C:=λw A C=>by
  show sz (if w="and" then F.bi .and A C else if w="or" then F.bi .or A C else F.bi .imp A C)=_;split
  .simp only[sz];lia
  split<;>(simp only[sz];lia)
 have lf1:∀(w:Str)(a:List Str)(A:F),lf w a=some A->sz A=1:=λw a A h=>by
  unfold lf at h;split at h
  .cases h;rfl
  split at h
  .cases h;rfl
  unfold wrd oa at h;split at h
  .split at h
   .cases h;rfl
   .cases h
  .split at h
   .obtain⟨ts,_,rfl⟩:=aj.mp h;rfl
   .cases h
 have key:(wk isB cap ar ws [[]]).bind BD=(RD (ws.length+1) [] ws).bind λp=>if p.2=[]then some [p.1]else none:=by
  refine key.trans ?_;show(RD (ws.length+1) [] ws).bind _=_;congr 1
  funext p
  show(fM _ (Option.bind (some ([],p.2)) _))=_;rw[ah];dsimp only;split<;>rfl
 unfold wlk
 cases eR:RD (ws.length+1) [] ws with
 |none =>
  rw[eR,fi]at key;rw[fi,fi,ite_self]
  cases eX:wk isB cap ar ws [[]]with
  |none=>rfl
  |some l =>
   rw[eX,ah]at key;rw[ah];split
   .rfl
   .rw[ah];unfold due;rw[key];rfl
 |some p =>
  rw[eR,ah]at key;rw[ah];by_cases hp:p.2=[]
  .rw[if_pos hp]at key;obtain⟨l,eX,eB⟩:=af.mp key;have hz:=yZ (pz:=sz) nd1 nd2 lf1 (show bd isB ar lf nd l=some [p.1]from eB);simp only[aw,dq,aY,List.sum_nil]at hz;have hw:=oP eX;rw[eX,ah];by_cases h40:40<l.length
   .rw[if_pos (by lia:40<sz p.1),if_pos h40];split<;>rfl
   .rw[if_neg (by lia:¬40<sz p.1),if_neg h40,if_neg ∅,ah,ah,if_pos hp];unfold due;rw[eB];rfl
  .rw[if_neg hp]at key
   have e1:(if 100<ws.length then none else(if 40<sz p.1 then none else some p).bind λp=>if p.2=[]then some p.1 else none)=(none:Option F):=by
    split
    .rfl
    split
    .rfl
    .rw[ah,if_neg hp]
   rw[e1]
   cases eX:wk isB cap ar ws [[]]with
   |none=>rfl
   |some l =>
    rw[eX,ah]at key;rw[ah];split
    .rfl
    .rw[ah];unfold due;rw[key];rfl
def rdD:Option D->D
 |some x=>.lst [x]
 |none=>.non
def Cf{n:Nat}{d:D}:∀{o:Option D},Ans n 11 35 [d] o->PP.run Gs gls (n+1) 25 [d]=some (rdD o)
 |none,A=>by
  apply dr;refine bV d__law_read rfl rfl rfl ?_;simp only[d__law_read,init,SI,Nat.reduceAdd,Nat.reduceSub];refine jo 2 [.val d,.val .non,.val .non,.no] ⋯ ?_;show wSs _ (.cons (.opq (kU ups kr__law_read 1 3 kp__law_read kk__law_read)) .nil) _ _;obtain⟨r,er,q⟩:wRs ⟨PP.run Gs gls n,gls,hfs Gs⟩ kr__law_read [.val d,.val .non,.val .non,.no] λr=>r=.inr ("NoText",[.val d,.val .non,.val .non,.no]):=kx (as:=[d]) ⋯ A (λ_=>rfl) λx hx _=>by cases hx
  refine bL.mpr ⟨.rt .non [.val d,.no,.val .non,.no],?_,rfl⟩;show kU _ _ _ _ _ _ _ _=_;unfold kU;rw[er,q]
  kernel_rfl
 |some x,A=>by
  apply dr;refine bV d__law_read rfl rfl rfl ?_;simp only[d__law_read,init,SI,Nat.reduceAdd,Nat.reduceSub];refine jo 2 [.val d,.val .non,.val .non,.no] ⋯ ?_;show wSs _ (.cons (.opq (kU ups kr__law_read 1 3 kp__law_read kk__law_read)) .nil) _ _
  obtain⟨r,er,q⟩:wRs ⟨PP.run Gs gls n,gls,hfs Gs⟩ kr__law_read [.val d,.val .non,.val .non,.no] λr=>r=.inl (.nx [.val d,.val .non,.val x,.no]):=kx (as:=[d]) ⋯ A (λh=>by cases h) λy hy e=>by
   cases hy;exact gI.mpr ⟨_,_,cJ [d] ⋯ e,_,rfl,lS.mpr rfl⟩
  refine bL.mpr ⟨.rt (.lst [x]) [.val d,.val .non,.val x,.no],?_,rfl⟩;show kU _ _ _ _ _ _ _ _=_;unfold kU;rw[er,q];kernel_rfl
def Jx{t:Str}{A:F}(h:stm t=some A):sz A<=40:=by
 unfold stm bnd at h;split at h
 .cases h
 obtain⟨p,h1,h2⟩:=af.mp h;obtain⟨q,_,h3⟩:=af.mp h1;split at h3
 .cases h3
 cases h3;split at h2
 .cases h2;lia
 .cases h2
def yk(n:Nat)(t:Str)(ht:t.length<sizeLine)(hb:(spl 32 t).length<999)(hn:113<=n):PP.run Gs gls (n+2) 26 [.str t]=some (.bl true):=by
 obtain⟨m,rfl⟩:∃m,n=m+4:=⟨n-4,∅⟩;have r1:=MF m t ht hb;rw[<- Fg t hb]at r1;have r2:=Cf (Nz (m+3) t ht ∅);apply dr;refine bV gY rfl rfl rfl ?_;simp only[gY,init,SI,Nat.reduceAdd,Nat.reduceSub];refine dI [.str t] ⋯ ((lR r1).mpr ⟨_,rfl,?_⟩);show wSs _ (.cons _ _) [.val (.str t),.val (oF (stm t))] _
 cases e:stm t with
 |none =>
  rw[e]at r2;refine bj true ⋯ (λ_=>?_) λz=>by cases z
  exact bC (.bl true) (tm (x:=.non) (y:=.non) (cJ [.str t] ⋯ r2) ⋯ rfl) rfl
 |some A =>
  rw[e]at r2;have hz:=Jx e;refine bj false (by cases A<;>kernel_rfl) (λz=>by cases z) λ_=>?_;show wSs _ (.cons _ _) _ _;refine bC (.bl true) (tm (x:=.lst [enc A]) (y:=.lst [enc A]) (cJ [.str t] ⋯ r2) ⋯ ?_) rfl
  have hd:dep (.lst [enc A])<=42:=by
   have:=mD A;unfold dep eS eS
   lia
  show(if iD (.lst [enc A]) (.lst [enc A])=true then some (eqD (.lst [enc A]) (.lst [enc A]))else _)=_;rw[if_pos ?_,mB _ ∅];unfold iD;rw[ot,Nat.max_self,decide_eq_true ∅,decide_eq_true ∅];rfl
def Cg(n:Nat)(d:D)(hd:fW [d]=some (.bl false))(hn:113<=n):PP.run Gs gls (n+1) 25 [d]=some .non:=by
 obtain⟨m,rfl⟩:∃m,n=m+1:=⟨n-1,∅⟩;exact Cf (HD m d hd ∅)
def bx(a b:Str):(a++b).length=a.length+b.length:=by rw[<- bT,tJ,az,bT,bT]
def bc(x:Str):Nat:=(cs x).count 32
def dF(a b:Str):bc (a++b)=bc a+bc b:=by unfold bc;rw[tJ,jk]
def pg(c:Nat):∀l:List Nat,(cQ c l).length=l.count c+1
 |[]=>rfl
 |a::l=>by
  have ih:=pg c l;unfold cQ;by_cases h:a=c
  .rw[if_pos h,ag,ih,h,zi]
  .rw[if_neg h,kK (by exact h),<- ih];split
   .rename_i e;rw[e];rfl
   .rename_i e;rw[e]at ih;cases ih
def lZ(x:Str):(spl 32 x).length=bc x+1:=by unfold spl;rw[ak,pg];rfl
def fw:List Nat->Nat
 |[]=>0
 |a::l=>if a=32 then 0 else fw l+1
def mw:List Nat->Nat
 |[]=>0
 |a::l=>if a=32 then mw l else max (fw l+1) (mw l)
def sY(a:Nat)(l:List Nat):fw (a::l)=if a=32 then 0 else fw l+1:=rfl
def sQ(a:Nat)(l:List Nat):mw (a::l)=if a=32 then mw l else max (fw l+1) (mw l):=rfl
def Iw:∀l,fw l<=l.length
 |[]=>aD _
 |a::l=>by have:=Iw l;rw[sY,ag];split<;>lia
def qY:∀l,mw l<=l.length
 |[]=>aD _
 |a::l=>by have:=Iw l;have:=qY l;rw[sQ,ag];split<;>lia
def Nn:∀l,fw l<=mw l
 |[]=>aD _
 |a::l=>by rw[sY,sQ];split<;>lia
def DH:∀x y,fw (x++y)<=fw x+fw y
 |[],y=>by show fw y<=0+fw y;lia
 |a::x,y=>by
  have:=DH x y;show fw (a::(x++y))<=_;rw[sY,sY];split<;>lia
def DG:∀x y,fw x<=fw (x++y)
 |[],y=>bP _
 |a::x,y=>by
  have:=DG x y;show _<=fw (a::(x++y));rw[sY,sY];split<;>lia
def xf:∀x y,mw (x++y)<=mw x+mw y
 |[],y=>by show mw y<=0+mw y;lia
 |a::x,y=>by
  have:=xf x y;have:=DH x y;have:=Nn y;show mw (a::(x++y))<=_;rw[sQ,sQ];split<;>lia
def Df:∀x y,mw x<=mw (x++y)
 |[],y=>bP _
 |a::x,y=>by
  have:=Df x y;have:=DG x y;show _<=mw (a::(x++y));rw[sQ,sQ];split<;>lia
def De:∀x y,mw y<=mw (x++y)
 |[],y=>aD _
 |a::x,y=>by
  have:=De x y;show _<=mw (a::(x++y));rw[sQ];split<;>lia
def GI(l:List Nat)(k:Nat):mw (l.take k)<=mw l:=by
 have:=Df (l.take k) (l.drop k)
 rwa[cD]at this
def GJ(l:List Nat)(k:Nat):mw (l.drop k)<=mw l:=by
 have:=De (l.take k) (l.drop k)
 rwa[cD]at this
def DF:∀x y,fw (x++32::y)=fw x
 |[],y=>rfl
 |a::x,y=>by
  have:=DF x y;show fw (a::(x++32::y))=_;rw[sY,sY,this]
def xa:∀{x y:List Nat}{M:Nat},mw x<=M->mw y<=M->mw (x++32::y)<=M
 |[],y,M,_,h=>h
 |a::x,y,M,h1,h2=>by
  show mw (a::(x++32::y))<=M;rw[sQ]at h1 |-;split at h1
  .rename_i h;rw[if_pos h];exact xa h1 h2
  .rename_i h;rw[if_neg h,DF];have:=xa (x:=x) (y:=y) (M:=M) ∅ h2
   lia
def uN:∀l:List Nat,(∀w∈cQ 32 l,w.length<=mw l/\32∉w)/\∀w ws,cQ 32 l=w::ws->w.length=fw l
 |[]=>⟨λw h=>by rw[bY.mp (show w∈[[]]from h)];exact⟨aD _,bS⟩,λw ws h=>by cases h;rfl⟩
 |a::l=>by
  obtain⟨ih1,ih2⟩:=uN l;unfold cQ;rw[sQ,sY];by_cases h:a=32
  .rw[if_pos h,if_pos h,if_pos h];refine⟨λw hw=>?_,λw ws e=>by cases e;rfl⟩;rcases aA.mp hw with rfl|hw
   .exact⟨bP _,bS⟩
   .exact ih1 w hw
  .rw[if_neg h,if_neg h,if_neg h];obtain⟨v,vs,e⟩:=ir 32 l;rw[e]at ih1 ih2 |-;have hv:=ih1 v ay;have hl:=ih2 v vs rfl;refine⟨λw hw=>?_,λw ws e=>by cases e;rw[ag,hl]⟩;rcases aA.mp hw with rfl|hw
   .refine⟨by rw[ag];lia,λm=>?_⟩;rcases aA.mp m with m|m
    .exact h m.symm
    .exact hv.2 m
   .have:=ih1 w (ao _ hw);exact⟨∅,this.2⟩
def tl(us:List Str):Nat:=(us.map λu=>u.length+1).sum
def pf(c:Nat):∀l:List Nat,((cQ c l).map λw=>w.length+1).sum=l.length+1
 |[]=>rfl
 |a::l=>by
  have ih:=pf c l;unfold cQ;split
  .rw[aw,aY,ih,ag,aN];lia
  .obtain⟨v,vs,e⟩:=ir c l;rw[e]at ih |-;rw[aw,aY]at ih |-;simp only[ag]at ih |-
   lia
def Jy(x:Str):tl (spl 32 x)=x.length+1:=by
 unfold tl spl;rw[jS,<- bT,<- pf 32];refine congrArg List.sum (Az λw _=>?_);show(sO w).length+1=_;rw[eQ]
def wq{x w:Str}(h:w∈spl 32 x):w.length<=mw (cs x)/\bc w=0:=by
 obtain⟨v,hv,rfl⟩:=cG.mp h;obtain⟨h1,h2⟩:=(uN (cs x)).1 v hv;exact⟨by rw[eQ];exact h1,List.count_eq_zero.mpr h2⟩
def jn(c:Nat)(acc:List Nat)(us:List Str):List Nat:=us.foldl (λacc u=>acc++c::cs u) acc
def kg{y:Str}{c:Nat}(h:cs y=[c])(u:Str)(us:List Str):cs (glued y (u::us))=jn c (cs u) us:=by
 have:∀(us:List Str)(acc:Array Nat),(us.foldl (λacc p=>acc++y.cps++p.cps) acc).toList=jn c acc.toList us:=λus=>by
  induction us with
  |nil=>intro acc;rfl
  |cons v us ih =>
   intro acc;rw[ie,ih];show jn c _ us=jn c (acc.toList++c::cs v) us;congr 1;rw[lI,lI,show y.cps.toList=[c]from h,cB];rfl
 exact this us u.cps
def xh(c:Nat):∀(us:List Str)(acc:List Nat),(jn c acc us).length=acc.length+tl us
 |[],acc=>rfl
 |u::us,acc=>by
  have:=xh c us (acc++c::cs u);rw[az,ag,bT]at this;show(jn c (acc++c::cs u) us).length=_;rw[this];unfold tl;rw[aw,aY]
  lia
def Ds:∀(us:List Str)(acc:List Nat),(jn 32 acc us).count 32=acc.count 32+(us.map λu=>bc u+1).sum
 |[],acc=>rfl
 |u::us,acc=>by
  have:=Ds us (acc++32::cs u);rw[jk,zi]at this;show(jn 32 (acc++32::cs u) us).count 32=_;rw[this,aw,aY];unfold bc
  lia
def Ip{M:Nat}:∀(us:List Str)(acc:List Nat),mw acc<=M->(∀u∈us,mw (cs u)<=M)->mw (jn 32 acc us)<=M
 |[],acc,h,_=>h
 |u::us,acc,h,h2=>Ip us (acc++32::cs u) (xa h (h2 u ay)) λv hv=>h2 v (ao _ hv)
def Io{c:Nat}(hc:c≠32):∀(us:List Str)(acc:List Nat),(jn c acc us).count 32=acc.count 32+(us.map bc).sum
 |[],acc=>rfl
 |u::us,acc=>by
  have:=Io hc us (acc++c::cs u);rw[jk,kK hc]at this;show(jn c (acc++c::cs u) us).count 32=_;rw[this,aw,aY];unfold bc
  lia
def strs_map(xs:List Str):pb (xs.map .str)=some xs:=by
 induction xs with
 |nil=>rfl
 |cons x xs ih=>rw[aw];unfold pb;rw[ih];rfl
def Dk{y:Str}{c:Nat}(h:cs y=[c]){us:List Str}(hl:tl us<=sizeLine):mtD .join (.str y) (.lst (us.map .str))=some (.str (glued y us))/\(glued y us).length<=tl us:=by
 have y1:y.length=1:=by rw[<- bT,h];rfl
 have e1:us.toArray.foldl (·+·.length+y.length) 0=tl us:=by
  rw[List.foldl_toArray']
  .have:∀(us:List Str)(k:Nat),us.foldl (·+·.length+y.length) k=k+tl us:=λus=>by
    induction us with
    |nil=>intro k;rfl
    |cons u us ih =>
     intro k;rw[ie,ih,y1];unfold tl;rw[aw,aY]
     lia
   rw[this,xM]
  .simp
 have e2:(glued y us).length<=tl us:=by
  cases us with
  |nil=>exact bP _
  |cons u us =>
   rw[<- bT,kg h,xh,bT];unfold tl;rw[aw,aY]
   lia
 refine⟨?_,e2⟩;show(pb (us.map .str)).bind _=_;rw[strs_map,ah,e1,if_pos ⟨by unfold tooLong;rw[decide_eq_false_iff_not];exact ue.mpr hl,aZ e2 hl⟩]
def My{x:Str}{k:Nat}(h:k<=x.length):lL x none (some (k:Int))=sO ((cs x).take k):=by
 refine(vO (x:=x) (j:=(k:Int)) ⟨∅,by show(k:Int)<=((cs x).length:Int);rw[bT];lia⟩).trans (gJ ?_);show((cs x).drop 0).take ((k:Int)-0).toNat=_;rw[gi,show((k:Int)-0).toNat=k by lia];rfl
def FO{x:Str}(k:Nat):lL x (some (k:Int)) none=sO ((cs x).drop k):=by
 rcases ou x.length k with h|h
 .have e:iK x (some (k:Int)) none=iK x (some (x.length:Int)) none:=by
   unfold iK;have a1:¬((k:Int)<0):=by lia
   have a2:¬((x.length:Int)<0):=by lia
   have a3:min (k:Int) (x.length:Int)=(x.length:Int):=by lia
   rw[show strSliceIndices (some (k:Int)) none 1 x.length=strSliceIndices (some (x.length:Int)) none 1 x.length by
    unfold strSliceIndices;simp only[if_neg a1,if_neg a2,a3,Int.min_self,show(1:Int)>0 from by decide,if_true]]
  show iK x (some (k:Int)) none=_;rw[e,ud ⟨∅,by show(x.length:Int)<=((cs x).length:Int);rw[bT];lia⟩];refine gJ ?_;show((cs x).drop (x.length:Int).toNat).take _=(cs x).drop k;rw[dY (by rw[bT];lia),dY (by rw[bT];lia),List.take_nil]
 .refine(ud (x:=x) (i:=(k:Int)) ⟨∅,by show(k:Int)<=((cs x).length:Int);rw[bT];lia⟩).trans (gJ ?_);show((cs x).drop (k:Int).toNat).take (((cs x).length:Int)-(k:Int)).toNat=(cs x).drop k;rw[dg,cn (by rw[aS];lia)]
def sy(n:Nat)(ns:List Int)(k:Int)(h0:0<=k)(h1:k<=1000):jM Gs gls (n+1) 12 [.lst (ns.map .int),.int k] λd=>∃c:Int,d=.int c:=by
 refine bV iI rfl rfl rfl ?_;simp only[iI,init,SI,Nat.reduceAdd,Nat.reduceSub];simp only[↓WS,↓rZs,↓rZz,↓rPz,↓rPs,↓rPo,↓rRc,↓rRn,↓rVs,↓rVv,↓rVo,↓rVd,↓rDs,↓rDd,↓rGs,↓rOs,↓rOo,↓rLs,↓rLv,↓rTn,↓rTr,↓rLn,↓rLr,WI,↓reduceIte];have hl:(ns.map D.int).length=ns.length:=ak _;rw[hl];split
 .rename_i h;obtain⟨d,hm,e⟩:=vI (ds:=ns.map D.int) h0 (by rw[hl];exact h);obtain⟨c,_,rfl⟩:=cG.mp hm;exact⟨_,e,c,rfl⟩
 .refine⟨mul_r ⇑0 ⇑0,?_⟩;split
  .rename_i h;obtain⟨d,hm,e⟩:=vI (ds:=ns.map D.int) (j:=k*7%(ns.length:Int)) (bB _ (by omega)) (by rw[hl];exact bf _ h);obtain⟨c,_,rfl⟩:=cG.mp hm;refine⟨mul_r ⇑0 ⇑0,h,_,e,?_⟩;simp only[↓WS,↓rZs,↓rZz,↓rPz,↓rPs,↓rPo,↓rRc,↓rRn,↓rVs,↓rVv,↓rVo,↓rVd,↓rDs,↓rDd,↓rGs,↓rOs,↓rOo,↓rLs,↓rLv,↓rTn,↓rTr,↓rLn,↓rLr,WI,↓reduceIte];have a1:=bB (c*48271) (show(2147483647:Int)≠0 by decide);have a2:=bf (c*48271) (show(0:Int)<2147483647 by decide);exact⟨mul_r ⇑0 ⇑0,⇑0,mul_r ⇑0 ⇑0,mul_r (by omega) (by omega),⇑0,_,rfl⟩
  .exact⟨mul_r (by omega) (by omega),⇑0,_,rfl⟩
def nz{x:Str}{p:Nat->Bool}(h:(cs x).all p=true){j:Int}(h0:0<=j)(h1:j<x.length):∃u,atI x.cps.toList j=some u/\p u=true:=by
 obtain⟨d,hm,e⟩:=vI (ds:=x.cps.toList) h0 (by rw[str_len];exact h1);exact⟨d,e,bO.mp h d hm⟩
def nbl(u:Nat):Bool:=!(u==32)
def nv{u:Nat}(h:nbl u=true):bc ⟨#[u]⟩=0:=by
 have:u≠32:=by unfold nbl at h;simpa using h
 show[u].count 32=0;rw[kK this];rfl
def tok(k:Nat)(t:Str):Prop:=t.length<=k/\bc t=0
def Ci(n:Nat)(c:Int):jM Gs gls (n+1) 13 [.int c] λd=>∃t:Str,d=.str t/\tok 8 t:=by
 refine bV iH rfl rfl rfl ?_;simp only[iH,init,SI,Nat.reduceAdd,Nat.reduceSub];simp only[↓WS,↓rZs,↓rZz,↓rPz,↓rPs,↓rPo,↓rRc,↓rRn,↓rVs,↓rVv,↓rVo,↓rVd,↓rDs,↓rDd,↓rGs,↓rOs,↓rOo,↓rLs,↓rLv,↓rTn,↓rTr,↓rLn,↓rLr,WI,↓reduceIte];have e36:("abcdefghijklmnopqrstuvwxyz0123456789":Str).length=36:=by decide
 have j0:=bB (c/8) (show(26:Int)≠0 by decide);have j1:=bf (c/8) (show(0:Int)<26 by decide);obtain⟨u,eu,hu⟩:=nz (x:="abcdefghijklmnopqrstuvwxyz0123456789") (p:=nbl) ⇑0 j0 (by rw[e36];omega);refine⟨⇑0,⇑0,by rw[e36];exact small ⇑0,u,eu,⇑0,⇑0,⟨by omega,by omega⟩,?_⟩;refine oR (λxs δ=>∃(c r:Int)(t:Str)(s:Sl),δ=[.val (.int c),.val (.str "abcdefghijklmnopqrstuvwxyz0123456789"),.val (.str t),.val (.int r),s]/\t.length+xs.length<=8/\bc t=0) ?_ ?_ _ _ ?_
 .rintro x xs δ ⟨c,r,t,s,rfl,hl,hb⟩;rw[ag]at hl;simp only[↓WS,↓rZs,↓rZz,↓rPz,↓rPs,↓rPo,↓rRc,↓rRn,↓rVs,↓rVv,↓rVo,↓rVd,↓rDs,↓rDd,↓rGs,↓rOs,↓rOo,↓rLs,↓rLv,↓rTn,↓rTr,↓rLn,↓rLr,WI,↓reduceIte];obtain⟨v,e,hv⟩:=nz (x:="abcdefghijklmnopqrstuvwxyz0123456789") (p:=nbl) ⇑0 (j:=r%36) (bB _ ⇑0) (by rw[e36];exact bf _ ⇑0);have e1:(⟨#[v]⟩:Str).length=1:=rfl;exact⟨⇑0,by rw[e36];exact small ⇑0,v,e,small (by omega),⇑0,_,_,_,_,rfl,by rw[bx,e1];omega,by rw[dF,hb,nv hv]⟩
 .rintro δ ⟨c,r,t,s,rfl,hl,hb⟩;simp only[↓WS,↓rZs,↓rZz,↓rPz,↓rPs,↓rPo,↓rRc,↓rRn,↓rVs,↓rVv,↓rVo,↓rVd,↓rDs,↓rDd,↓rGs,↓rOs,↓rOo,↓rLs,↓rLv,↓rTn,↓rTr,↓rLn,↓rLr,WI,↓reduceIte];exact⟨t,rfl,by rw[aN]at hl;omega,hb⟩
 .refine⟨_,_,_,_,rfl,?_,nv hu⟩;rw[su];have e1:(⟨#[u]⟩:Str).length=1:=rfl;omega
def ze(t:Str):([D.str "yes",.str "no",.str "not",.str "and",.str "or",.str "if",.str "all",.str "some"].any λy=>eqD y (.str t))=decide (t∈res):=tW t res
def yU:eS [D.str "yes",.str "no",.str "not",.str "and",.str "or",.str "if",.str "all",.str "some"]<99999:=by decide
def IA(s:Str):dep (D.str s)<=150:=by rw[tw];omega
def JO(n:Nat)(c:Int):jM Gs gls (n+1) 14 [.int c] λd=>∃t:Str,d=.str t/\tok 9 t:=by
 refine bV iE rfl rfl rfl ?_;simp only[iE,init,SI,Nat.reduceAdd,Nat.reduceSub];simp only[↓WS,↓rZs,↓rZz,↓rPz,↓rPs,↓rPo,↓rRc,↓rRn,↓rVs,↓rVv,↓rVo,↓rVd,↓rDs,↓rDd,↓rGs,↓rOs,↓rOo,↓rLs,↓rLv,↓rTn,↓rTr,↓rLn,↓rLr,WI,↓reduceIte];have e26:("etaoinshrdlcumwfgypbvkjxqz":Str).length=26:=by decide
 refine⟨⇑0,⇑0,⟨by omega,by omega⟩,?_⟩;refine oR (λxs δ=>∃(c r:Int)(t:Str)(s:Sl),δ=[.val (.int c),.val (.str t),.val (.int r),s]/\t.length+xs.length<=8/\bc t=0) ?_ ?_ _ _ ?_
 .rintro x xs δ ⟨c,r,t,s,rfl,ht,hb⟩;rw[ag]at ht;simp only[↓WS,↓rZs,↓rZz,↓rPz,↓rPs,↓rPo,↓rRc,↓rRn,↓rVs,↓rVv,↓rVo,↓rVd,↓rDs,↓rDd,↓rGs,↓rOs,↓rOo,↓rLs,↓rLv,↓rTn,↓rTr,↓rLn,↓rLr,WI,↓reduceIte];obtain⟨v,e,hv⟩:=nz (x:="etaoinshrdlcumwfgypbvkjxqz") (p:=nbl) ⇑0 (j:=r%26) (bB _ ⇑0) (by rw[e26];exact bf _ ⇑0);have e1:(⟨#[v]⟩:Str).length=1:=rfl;exact⟨⇑0,by rw[e26];exact small ⇑0,v,e,small (by omega),⇑0,_,_,_,_,rfl,by rw[bx,e1];omega,by rw[dF,hb,nv hv]⟩
 .rintro δ ⟨c,r,t,s,rfl,ht,hb⟩;rw[aN]at ht;have e1:("s":Str).length=1:=by decide
  by_cases hm:t∈res
  .simp only[↓WS,↓rZs,↓rZz,↓rPz,↓rPs,↓rPo,↓rRc,↓rRn,↓rVs,↓rVv,↓rVo,↓rVd,↓rDs,↓rDd,↓rGs,↓rOs,↓rOo,↓rLs,↓rLv,↓rTn,↓rTr,↓rLn,↓rLr,WI,↓reduceIte,ze,hm,IA,yU,true_and,and_self];exact⟨by show 8<=sizeLine;decide,small (by omega),_,rfl,by rw[bx];omega,by rw[dF,hb];decide⟩
  .simp only[↓WS,↓rZs,↓rZz,↓rPz,↓rPs,↓rPo,↓rRc,↓rRn,↓rVs,↓rVv,↓rVo,↓rVd,↓rDs,↓rDd,↓rGs,↓rOs,↓rOo,↓rLs,↓rLv,↓rTn,↓rTr,↓rLn,↓rLr,WI,↓reduceIte,ze,hm,IA,yU,true_and,and_self,decide_false];exact⟨by show 8<=sizeLine;decide,t,rfl,by omega,hb⟩
 .refine⟨_,_,_,_,rfl,?_⟩;rw[su];have e1:("":Str).length=0:=by decide
  exact⟨by omega,⇑0⟩
def Cm(n:Nat)(t:Str)(ar:List Str)(hl:ar.length<=10):jM Gs gls (n+1) 15 [.str t,.lst (ar.map .str)] λd=>∃u:Str,d=.str u:=by
 refine bV gZ rfl rfl rfl ?_;simp only[gZ,init,SI,Nat.reduceAdd,Nat.reduceSub];show wSs _ (.cons _ _) _ _;refine gT (lA 0 ar.length) ?_ (vy (tl:=[]) hl (λi s e hi=>⟨_,rfl⟩) (λs hm=>?_) rfl .no)
 .have:=mv (cx:=⟨PP.run Gs gls n,gls,hfs Gs⟩) (e:=.blt .len (.cons (.var 1) .nil)) (δ:=[.val (.str t),.val (.lst (ar.map .str)),.no]) (eK (e:=.var 1) (ds:=ar.map .str) ⋯) ∅ (by rw[ak];lia);rw[ak,dg]at this;exact this
 .show wSs _ (.cons _ _) _ _;exact bC (.str t) ⋯ ⟨t,rfl⟩
def Ho{ds:List D}{lo hi:Option Int}{x:D}(h:x∈cutD ds lo hi):x∈ds:=by
 unfold cutD at h;exact gR (gQ h)
def Hq{ds:List D}{lo hi:Option Int}:(cutD ds lo hi).length<=ds.length:=by
 unfold cutD;rw[bA,aS];omega
def yV{α:Type}(g:α->D)(xs:List α)(lo hi:Option Int):∃ys:List α,cutD (xs.map g) lo hi=ys.map g/\(∀y∈ys,y∈xs)/\ys.length<=xs.length:=by
 unfold cutD;refine⟨(xs.drop (HT.sIx (xs.map g).length 0 lo)).take (HT.sIx (xs.map g).length (xs.map g).length hi-HT.sIx (xs.map g).length 0 lo),?_,λy hy=>gR (gQ hy),?_⟩
 .rw[gM,gN]
 .rw[bA,aS];omega
def iJ{ts:List Str}{j:Int}(h0:0<=j)(h1:j<ts.length):∃t:Str,t∈ts/\atI (ts.map D.str) j=some (.str t):=by
 obtain⟨d,hm,e⟩:=vI (ds:=ts.map D.str) h0 (by rw[ak];exact h1);obtain⟨t,ht,rfl⟩:=cG.mp hm;exact⟨t,ht,e⟩
def uK{P:D->D->Prop}{R:Str->Prop}(hP:∀x y,P x y->∃t:Str,y=.str t/\R t):∀(ds ys:List D),Paired P ds ys->∃ts:List Str,ys=ts.map .str/\ts.length=ds.length/\∀t∈ts,R t:=by
 intro ds ys r
 induction r with
 |nil=>exact⟨[],rfl,rfl,↥0⟩
 |cons h t ih =>
  obtain⟨c,rfl,hc⟩:=hP _ _ h;obtain⟨cs,rfl,hl,ha⟩:=ih;exact⟨c::cs,rfl,by simp[hl],by simpa[hc]using ha⟩
def rp{us:List Str}(h:us.length<=5)(ht:∀t∈us,tok 8 t):mtD .join (.str ",") (.lst (us.map .str))=some (.str (glued "," us))/\(glued "," us).length<=9*us.length/\bc (glued "," us)=0:=by
 have h1:∀us:List Str,(∀t∈us,tok 8 t)->tl us<=9*us.length/\(us.map bc).sum=0:=λus=>by
  induction us with
  |nil=>intro _;exact⟨aD _,rfl⟩
  |cons u us ih =>
   intro hu;obtain⟨i1,i2⟩:=ih λt q=>hu t (ao _ q);obtain⟨a1,a2⟩:=hu u ay;unfold tl at i1 |-;rw[aw,aY,aw,aY,i2,a2,ag];exact⟨∅,rfl⟩
 obtain⟨t1,t2⟩:=h1 us ht;obtain⟨j1,j2⟩:=Dk tH (us:=us) (aZ t1 (big ∅));refine⟨j1,∅,?_⟩
 cases us with
 |nil=>rfl
 |cons u us =>
  unfold bc;rw[kg tH,Io ⇑0];have:=(h1 us λt q=>ht t (ao _ q)).2;rw[this];exact(ht u ay).2
def zl1{a:D}:[a].length<=sizeLine:=by show 1<=sizeLine;decide
def zl2{a b:D}:[a,b].length<=sizeLine:=by show 2<=sizeLine;decide
def zl3{a b c:D}:[a,b,c].length<=sizeLine:=by show 3<=sizeLine;decide
def ZL:=aG @zl1 (aG @zl2 @zl3)
def qE{cx:Cl}{δ:PP.Loc}{k:Nat}{tg:Tg}{elt:E}{Q:List D->PP.Loc->Prop}{P:D->D->Prop}(ds:List D)(h:∀x∈ds,wTg (δ++aC k .no) tg x λδ2=>wE cx elt δ2 λy δ4=>P x y/\δ4.take δ.length=δ)(q:∀ys,PySem.Paired P ds ys->Q ys δ):kQ cx k tg .no elt ds δ Q :=
 lu P ds (λx hx=>by
  obtain⟨δ2,e,r⟩:=h x hx;exact⟨δ2,e,true,δ2,rfl,rfl,r⟩) q
def kds:List Str:=["word","not","and","or","if","all","some","yes","no","word"]
def QW:Str:="QWERTYUIOPASDFGHJKLZXCVBNM"
def jc:(" ":Str).length=1/\bc " "=1:=by decide
def Ad:("not ":Str).length=4/\bc "not "=1:=by decide
def Lk:("(":Str).length=1/\bc "("=0/\(")":Str).length=1/\bc ")"=0:=by decide
def kd_len:∀k∈kds,k.length<=4/\bc k=0:=by decide
def jF{x y:Str}(h:x.length+y.length<=16777216):opD .add (.str x) (.str y)=some (.str (x++y)):=if_pos h
def Ny{a b:List Str}(h:a.length+b.length<=16777216):opD .add (.lst (a.map .str)) (.lst (b.map .str))=some (.lst ((a++b).map .str)):=(show opD .add (.lst (a.map .str)) (.lst (b.map .str))=some (.lst (a.map .str++b.map .str))from if_pos (big (by rw[ak,ak];exact h))).trans (by rw[cg])
def Hh{cx:Cl}{es:Es}{ds:List D}{δ:PP.Loc}(h:cT cx es δ=some (ds,δ))(hl:ds.length<=sizeLine):evE cx (.lst es) δ=some (.lst ds,δ):=by
 simp only[evE,h,ae,ah];rw[if_pos hl];rfl
def ml{cx:Cl}{i:Nat}{a k q:Int}{δ:PP.Loc}(h0:-(2^64)<k)(h1:k<2^64)(h:evE cx (.var i) δ=some (.int a,δ))(hq:opD .mod (.int (a*k)) (.int q)=some (.int (a*k%q)):=by rfl):evE cx (.bin .mod (.bin .mul (.var i) (.int k)) (.int q)) δ=some (.int (a*k%q),δ):=aV (aV (y:=.int k) h rfl (if_pos (mul_r h0 h1))) (y:=.int q) rfl hq
def drw(m:Nat)(d:D):Prop:=∃(t:Str)(s:D),d=.tup [.str t,s]/\t.length+6<=44*2^m/\bc t+2<=2^(m+1)
def kB(nms:List Str)(hn:nms.length=3)(hnm:∀t∈nms,tok 8 t):∀(m:Nat)(n:Nat)(c:Int)(ar:List Str),m+2<=n->m<=4->(∀t∈ar,tok 8 t)->ar.length+m<=4->jM Gs gls n 16 [.int c,.int m,.lst (ar.map .str),.lst (nms.map .str)] (drw m)
 |m,0,c,ar,h,hm,hc,hl=>by omega
 |m,n+1,c,ar,h,hm,hc,hl=>by
  have p1:1<=2^m:=Nat.one_le_two_pow;have p2:2^(m+1)=2*2^m:=by rw[Nat.pow_succ];omega
  have p3:2^m<=16:=aZ (Nat.pow_le_pow_right ⇑0 hm) ⇑0;refine bV hJ rfl rfl rfl ?_;simp only[hJ,init,SI,Nat.reduceAdd,Nat.reduceSub];obtain⟨kd,hk,e⟩:=iJ (ts:=kds) (j:=c%10) (bB _ ⇑0) (by have:=bf c (show(0:Int)<10 by decide);exact this);refine cy (.str kd) (eF (x:=.lst (kds.map .str)) (y:=.int (c%10)) ⋯ ⋯ e) ⟨_,rfl,?_⟩;refine cy (.int (c/10)) ⋯ ⟨[.val (.int c),.val (.int m),.val (.lst (ar.map .str)),.val (.lst (nms.map .str)),.val (.str kd),.val (.int (c/10)),.no,.no,.no,.no,.no,.no,.no],⋯,?_⟩;obtain⟨k1,k2⟩:=kd_len kd hk;refine bj (kd=="yes"||kd=="no") (gq ⋯ ⋯) (λ_=>?_) λ_=>bj (kd=="word"||decide ((m:Int)=0)) (gq ⋯ ⋯) (λ_=>?_) λw4=>bj (kd=="not") ⋯ (λ_=>?_) λ_=>bj (kd=="all"||kd=="some") (gq ⋯ ⋯) (λ_=>?_) λ_=>?_
  .exact bC (.tup [.str kd,.tup [.str kd]]) ⋯ ⟨kd,_,rfl,by omega,by omega⟩
  .obtain⟨zs,ez,hz,lz⟩:=yV D.str ar (some (-1)) none;refine cy (.lst ((nms++ar++zs).map .str)) (aV (x:=.lst ((nms++ar).map .str)) (y:=.lst (zs.map .str)) (aV (x:=.lst (nms.map .str)) (y:=.lst (ar.map .str)) ⋯ ⋯ (Ny (by omega))) (eh (x:=.lst (ar.map .str)) (l:=some (-1)) (h:=none) ⋯ ⋯ rfl (congrArg (λz=>some (D.lst z)) ez)) (Ny (by rw[az];omega))) ⟨[.val (.int c),.val (.int m),.val (.lst (ar.map .str)),.val (.lst (nms.map .str)),.val (.str kd),.val (.int (c/10)),.val (.lst ((nms++ar++zs).map .str)),.no,.no,.no,.no,.no,.no],rfl,?_⟩;refine bL.mpr (rW.mpr (lV.mpr ⟨_,_,nk (d:=.lst (cutD [.int (c/10*31%1009),.int (c/10*37%1013),.int (c/10*41%1019)] none (some (c/10%4)))) (eh (x:=.lst [.int (c/10*31%1009),.int (c/10*37%1013),.int (c/10*41%1019)]) (l:=none) (h:=some (c/10%4)) (Hh (aL (ml ⇑0 ⇑0 ⋯) (aL (ml ⇑0 ⇑0 ⋯) (aL (ml ⇑0 ⇑0 ⋯) rfl))) zl3) rfl ⋯ rfl) rfl,lu (λx y=>∃t:Str,y=.str t/\tok 8 t) _ ?_ ?_⟩))
   .intro x hx;have hx':=Ho hx
    have:∃v:Int,x=.int v:=by
     simp only[aA,bS,or_false]at hx';rcases hx' with rfl|rfl|rfl<;>exact⟨_,rfl⟩
    obtain⟨v,rfl⟩:=this;simp only[SI,az,ak,↓WS,↓rZs,↓rZz,↓rPz,↓rPs,↓rPo,↓rRc,↓rRn,↓rVs,↓rVv,↓rVo,↓rVd,↓rDs,↓rDd,↓rGs,↓rOs,↓rOo,↓rLs,↓rLv,↓rTn,↓rTr,↓rLn,↓rLr,WI,↓reduceIte];obtain⟨t,hm',e⟩:=iJ (ts:=nms++ar++zs) (j:=v%((nms.length+ar.length+zs.length:Nat):Int)) (bB _ (by omega)) (by rw[az,az];exact bf _ (by omega));refine⟨trivial,by omega,_,e,⟨t,rfl,?_⟩,rfl⟩;rcases cc.mp hm' with h1|h1
    .rcases cc.mp h1 with h2|h2
     .exact hnm t h2
     .exact hc t h2
    .exact hc t (hz t h1)
   .intro ys r;obtain⟨us,rfl,hl',hus⟩:=uK (λ_ _ h=>h) _ _ r;have hl2 := @Hq [D.int (c/10*31%1009),D.int (c/10*37%1013),D.int (c/10*41%1019)] none (some (c/10%4));simp only[ag,aN]at hl2;have hu3:us.length<=3:=by omega
    obtain⟨hj,j1,j2⟩:=rp (us:=us) (by omega) hus;obtain⟨n',rfl⟩:∃n',n=n'+1:=⟨n-1,by omega⟩;refine⟨big (by rw[ak];omega),_,rfl,by show 7<13;decide,lX.mpr (dI [.int (c/10/4)] ⋯ ?_)⟩;refine fb (JO n' _) ?_;rintro _ ⟨w,rfl,hw1,hw2⟩;refine⟨[.val (.int c),.val (.int m),.val (.lst (ar.map .str)),.val (.lst (nms.map .str)),.val (.str kd),.val (.int (c/10)),.val (.lst ((nms++ar++zs).map .str)),.val (.lst (us.map .str)),.val (.str w),.no,.no,.no,.no],⋯,?_⟩;dsimp only[tV];simp only[↓WS,↓rZs,↓rZz,↓rPz,↓rPs,↓rPo,↓rRc,↓rRn,↓rVs,↓rVv,↓rVo,↓rVd,↓rDs,↓rDd,↓rGs,↓rOs,↓rOo,↓rLs,↓rLv,↓rTn,↓rTr,↓rLn,↓rLr,WI,↓reduceIte];refine qE (P:=λ_ _=>True) (us.map D.str) (λx hx=>?_) λys hy=>?_
    .obtain⟨t,_,rfl⟩:=cG.mp hx;simp only[SI,↓WS,↓rZs,↓rZz,↓rPz,↓rPs,↓rPo,↓rRc,↓rRn,↓rVs,↓rVv,↓rVo,↓rVd,↓rDs,↓rDd,↓rGs,↓rOs,↓rOo,↓rLs,↓rLv,↓rTn,↓rTr,↓rLn,↓rLr,WI,↓reduceIte];refine fb (Cm n' t ar (by omega)) ?_;rintro _ ⟨u,rfl⟩;exact⟨trivial,rfl⟩
    .have ly:ys.length=us.length:=by
      have:∀{ds ys:List D},Paired (λ_ _:D=>True) ds ys->ys.length=ds.length:=λr=>by
       induction r with
       |nil=>rfl
       |cons _ _ ih=>rw[ag,ag,ih]
      rw[this hy,ak]
     refine⟨by rw[ly];exact big (by omega),?_⟩;obtain⟨a1,a2,a3,a4⟩:=Lk;by_cases h0:us=[]
     .subst h0;simp only[↓WS,↓rZs,↓rZz,↓rPz,↓rPs,↓rPo,↓rRc,↓rRn,↓rVs,↓rVv,↓rVo,↓rVd,↓rDs,↓rDd,↓rGs,↓rOs,↓rOo,↓rLs,↓rLv,↓rTn,↓rTr,↓rLn,↓rLr,WI,↓reduceIte,ZL,true_and,dq,aN,Int.ofNat_zero,show ¬((0:Nat):Int)>0 by decide,show ¬(0:Int)<0 by decide,show ¬(0:Int)<((0:Nat):Int) by decide];exact⟨w,_,rfl,by omega,by omega⟩
     .have h1:(0:Int)<(us.length:Nat):=by
       have:0<us.length:=lN.mpr h0;omega
      simp only[↓Bi,↓WS,↓rZs,↓rZz,↓rPz,↓rPs,↓rPo,↓rRc,↓rRn,↓rVs,↓rVv,↓rVo,↓rVd,↓rDs,↓rDd,↓rGs,↓rOs,↓rOo,↓rLs,↓rLv,↓rTn,↓rTr,↓rLn,↓rLr,WI,↓reduceIte,ZL,true_and,ak,h1,hj,yr];refine⟨big (by omega),big (by rw[bx];omega),big (by rw[bx,bx];omega),_,_,rfl,?_,?_⟩
      .rw[bx,bx,bx];omega
      .rw[dF,dF,dF];omega
  all_goals
   have hm0:1<=m:=by
    have:=of_decide_eq_false (fm.mp w4).2;omega
   obtain⟨m',rfl⟩:∃m',m=m'+1:=⟨m-1,by omega⟩;have em:((m'+1:Nat):Int)-1=(m':Int):=by omega
   have p4:2^(m'+1)=2*2^m':=by rw[Nat.pow_succ];omega
  .refine dI [.int (c/10),.int (((m'+1:Nat):Int)-1),.lst (ar.map .str),.lst (nms.map .str)] ⋯ ?_;rw[em];refine fb (kB nms hn hnm m' n (c/10) ar (by omega) (by omega) hc (by omega)) ?_;rintro _ ⟨t,s,rfl,l1,l2⟩;refine⟨_,rfl,bC (.tup [.str ("not "++t),.tup [.str "not",s]]) (gz (aL (aV (x:=.str "not ") (y:=.str t) ⋯ ⋯ (jF (by rw[Ad.1];omega))) ⋯) zl2) ⟨_,_,rfl,by rw[bx,Ad.1];omega,by rw[dF,Ad.2];omega⟩⟩
  .dsimp only[tV];refine rQ (R:=λδ=>∃l,tok 8 l/\δ=[.val (.int c),.val (.int (m'+1:Nat)),.val (.lst (ar.map .str)),.val (.lst (nms.map .str)),.val (.str kd),.val (.int (c/10)),.no,.no,.no,.no,.no,.val (.str l),.no]) 2 _ _ ?_ ?_
   .simp only[oZ,↓Kz,↓WS,↓rZs,↓rZz,↓rPz,↓rPs,↓rPo,↓rRc,↓rRn,↓rVs,↓rVv,↓rVo,↓rVd,↓rDs,↓rDd,↓rGs,↓rOs,↓rOo,↓rLs,↓rLv,↓rTn,↓rTr,↓rLn,↓rLr,WI,↓reduceIte,ak];have e26:QW.length=26:=by decide
    obtain⟨u,e,hu⟩:=nz (x:=QW) (p:=nbl) ⇑0 (j:=(c/10+5*(ar.length:Int))%26) (bB _ ⇑0) (by rw[e26];exact bf _ ⇑0);have tu:tok 8 ⟨#[u]⟩:=⟨by show 1<=8;decide,nv hu⟩;refine⟨MZ ⇑0 ⇑0,⇑0,⇑0,_,e,⇑0,⇑0,?_⟩;split
    .split
     .rename_i h9;obtain⟨t,ht,e2⟩:=iJ (ts:=ar) (j:=0) (by omega) h9;exact⟨_,e2,t,hc t ht,rfl⟩
     .exact⟨⟨#[u]⟩,tu,rfl⟩
    .exact⟨⟨#[u]⟩,tu,rfl⟩
   .rintro _ ⟨l,cl,rfl⟩;have ea:ar.map D.str++[.str l]=(ar++[l]).map .str:=by simp
    have hc2:∀t∈ar++[l],tok 8 t:=λx q=>by
     rcases cc.mp q with q|q
     .exact hc x q
     .rw[bY.mp q];exact cl
    have ad:opD .add (.lst (ar.map D.str)) (.lst [D.str l])=some (.lst (ar.map D.str++[D.str l])):=if_pos (big (by rw[ak];show ar.length+1<=_;omega));refine dI [.int (c/10/3),.int (((m'+1:Nat):Int)-1),.lst (ar.map .str++[.str l]),.lst (nms.map .str)] (aL ⋯ (aL ⋯ (aL (aV (x:=.lst (ar.map .str)) (y:=.lst [.str l]) ⋯ ⋯ ad) ⋯))) ?_;rw[em,ea];refine fb (kB nms hn hnm m' n (c/10/3) (ar++[l]) (by omega) (by omega) hc2 (by rw[az,cR];omega)) ?_;rintro _ ⟨t,s,rfl,l1,l2⟩;obtain⟨c1,c2⟩:=cl;refine⟨_,rfl,bC (.tup [.str (kd++" "++l++" "++t),.tup [.str kd,s]]) (gz (aL (aV (x:=.str (kd++" "++l++" ")) (y:=.str t) (aV (x:=.str (kd++" "++l)) (y:=.str " ") (aV (x:=.str (kd++" ")) (y:=.str l) (aV (x:=.str kd) (y:=.str " ") ⋯ ⋯ (jF (by rw[jc.1];omega))) ⋯ (jF (by rw[bx,jc.1];omega))) ⋯ (jF (by rw[bx,bx,jc.1];omega))) ⋯ (jF (by rw[bx,bx,bx,jc.1];omega))) ⋯) zl2) ⟨_,_,rfl,by simp only[bx,jc.1];omega,by simp only[dF,jc.2];omega⟩⟩
  .refine dI [.int (c/10*48271%2147483647),.int (((m'+1:Nat):Int)-1),.lst (ar.map .str),.lst (nms.map .str)] (aL (aV (x:=.int (c/10*48271)) (y:=.int 2147483647) (aV (x:=.int (c/10)) (y:=.int 48271) ⋯ ⋯ (if_pos (mul_r ⇑0 ⇑0))) ⋯ ⋯) ⋯) ?_;rw[em];refine fb (kB nms hn hnm m' n _ ar (by omega) (by omega) hc (by omega)) ?_;rintro _ ⟨t,s,rfl,l1,l2⟩;refine⟨_,rfl,?_⟩;refine dI [.int (c/10*69621%2147483629),.int (((m'+1:Nat):Int)-1),.lst (ar.map .str),.lst (nms.map .str)] (aL (aV (x:=.int (c/10*69621)) (y:=.int 2147483629) (aV (x:=.int (c/10)) (y:=.int 69621) ⋯ ⋯ (if_pos (mul_r ⇑0 ⇑0))) ⋯ ⋯) ⋯) ?_;rw[em];refine fb (kB nms hn hnm m' n _ ar (by omega) (by omega) hc (by omega)) ?_;rintro _ ⟨t',s',rfl,l1',l2'⟩;refine⟨_,rfl,bC (.tup [.str (kd++" "++t++" "++t'),.tup [.str kd,s,s']]) (gz (aL (aV (x:=.str (kd++" "++t++" ")) (y:=.str t') (aV (x:=.str (kd++" "++t)) (y:=.str " ") (aV (x:=.str (kd++" ")) (y:=.str t) (aV (x:=.str kd) (y:=.str " ") ⋯ ⋯ (jF (by rw[jc.1];omega))) ⋯ (jF (by rw[bx,jc.1];omega))) ⋯ (jF (by rw[bx,bx,jc.1];omega))) ⋯ (jF (by rw[bx,bx,bx,jc.1];omega))) ⋯) zl2) ⟨_,_,rfl,by simp only[bx,jc.1];omega,by simp only[dF,jc.2];omega⟩⟩
def gd(d:D):Prop:=∃(t:Str)(s:D),d=.tup [.str t,s]/\t.length<=700/\bc t<=60
def Lj:("and yes ":Str).length=8/\bc "and yes "=2/\("if ":Str).length=3/\bc "if "=1/\(" no":Str).length=3/\bc " no"=1/\("p(A,J,":Str).length=6/\bc "p(A,J,"=0:=by decide
def wA(n:Nat)(c:Int)(nms:List Str)(hn:nms.length=3)(hnm:∀t∈nms,tok 8 t):jM Gs gls (n+5) 17 [.int c,.lst (nms.map .str)] gd:=by
 obtain⟨e1,e2,e3,e4,e5,e6,e7,e8⟩:=Lj;refine bV iG rfl rfl rfl ?_;simp only[iG,init,SI,Nat.reduceAdd,Nat.reduceSub];refine dI [.int (c/4),.int ((0:Nat):Int),.lst (([]:List Str).map .str),.lst (nms.map .str)] ⋯ ?_;refine fb (kB nms hn hnm 0 (n+4) (c/4) [] (by omega) (by omega) (λt q=>by cases q) ⇑0) ?_;rintro _ ⟨t,s,rfl,l1,l2⟩;refine⟨[.val (.int c),.val (.lst (nms.map .str)),.val (.str t),.val s,.no,.no],⋯,?_⟩;have ec:∀(x:Nat)(t:Str)(s:D)(v:Sl),x<100->evE ⟨PP.run Gs gls (n+4),gls,hfs Gs⟩ (.bin .mod (.bin .fdiv (.var 0) (.bin .add (.var 4) (.int 3))) (.int 2)) [.val (.int c),.val (.lst (nms.map .str)),.val (.str t),.val s,.val (.int (0+(x:Int))),v]=some (.int (c/(0+(x:Int)+3)%2),[.val (.int c),.val (.lst (nms.map .str)),.val (.str t),.val s,.val (.int (0+(x:Int))),v]):=λx t s v hx=>aV (x:=.int (c/(0+(x:Int)+3))) (y:=.int 2) (aV (x:=.int c) (y:=.int (0+(x:Int)+3)) ⋯ ⋯ (if_pos (by omega))) ⋯ ⋯;refine bj (decide (c%2=1)) ⋯ (λ_=>?_) λ_=>?_
 .refine gT ((du 19).map λi:Nat=>D.int (0+(i:Int))) ⋯ ?_;refine iV (λi:Nat=>D.int (0+i)) (λxs δ=>∃(t:Str)(s:D)(u v:Sl),(∀k∈xs,k<19)/\t.length+8*xs.length<=200/\bc t+2*xs.length<=40/\δ=[.val (.int c),.val (.lst (nms.map .str)),.val (.str t),.val s,u,v]) ?_ ?_ (du 19) _ ⟨t,s,_,_,λk h=>gg.mp h,by simp only[gh];omega,by simp only[gh];omega,rfl⟩
  .rintro x xs δ ⟨t,s,u,v,hk,h1,h2,rfl⟩;rw[ag]at h1 h2;have hx:=hk x ay;refine⟨_,rfl,bj (decide (c/(0+(x:Int)+3)%2=1)) (bN (ec x t s v (by omega)) (y:=.int 1) ⋯ ⋯) (λ_=>?_) λ_=>?_⟩
   .refine cy (.str ("and yes "++t)) (aV (x:=.str "and yes ") (y:=.str t) ⋯ ⋯ (jF (by rw[e1];omega))) ⟨_,rfl,?_⟩;refine cy (.tup [.str "and",.tup [.str "yes"],s]) ⋯ ⟨_,rfl,dz.mpr ?_⟩;exact⟨_,_,.val (.int (0+x)),v,λk h=>hk k (ao _ h),by rw[bx];omega,by rw[dF];omega,rfl⟩
   .refine cy (.str ("if "++t++" no")) (aV (x:=.str ("if "++t)) (y:=.str " no") (aV (x:=.str "if ") (y:=.str t) ⋯ ⋯ (jF (by rw[e3];omega))) ⋯ (jF (by rw[bx,e3,e5];omega))) ⟨_,rfl,?_⟩;refine cy (.tup [.str "if",s,.tup [.str "no"]]) ⋯ ⟨_,rfl,dz.mpr ?_⟩;exact⟨_,_,.val (.int (0+x)),v,λk h=>hk k (ao _ h),by rw[bx,bx];omega,by rw[dF,dF];omega,rfl⟩
  .rintro δ ⟨t,s,u,v,hk,h1,h2,rfl⟩;rw[aN]at h1 h2;exact lX.mpr (bC (.tup [.str ("not "++t),.tup [.str "not",s]]) (gz (aL (aV (x:=.str "not ") (y:=.str t) ⋯ ⋯ (jF (by rw[Ad.1];omega))) ⋯) zl2) ⟨_,_,rfl,by rw[bx,Ad.1];omega,by rw[dF,Ad.2];omega⟩)
 .obtain⟨a1,a2,a3,a4⟩:=Lk;obtain⟨a,ha,ea⟩:=iJ (ts:=nms) (j:=0) (by omega) (by omega);obtain⟨b1,b2⟩:=hnm a ha;have ei:∀δ:PP.Loc,evE ⟨PP.run Gs gls (n+4),gls,hfs Gs⟩ (.ix (.var 1) (.int 0)) (.val (.int c)::.val (.lst (nms.map .str))::δ)=some (.str a,.val (.int c)::.val (.lst (nms.map .str))::δ):=λδ=>eF (x:=.lst (nms.map .str)) (y:=.int 0) ⋯ ⋯ ea;refine cy (.str ("p(A,J,"++a++")")) (aV (x:=.str ("p(A,J,"++a)) (y:=.str ")") (aV (x:=.str "p(A,J,") (y:=.str a) ⋯ (ei _) (jF (by rw[e7];omega))) ⋯ (jF (by rw[bx,e7,a3];omega))) ⟨_,rfl,?_⟩;refine cy (.tup [.str "word",.str "p",.tup [.str "9",.str "0",.str a]]) (gz (aL ⋯ (aL ⋯ (aL (gz (aL ⋯ (aL ⋯ (aL (ei _) rfl))) zl3) rfl))) zl3) ⟨_,rfl,?_⟩;refine gT ((du 10).map λi:Nat=>D.int (0+(i:Int))) ⋯ ?_;refine iV (λi:Nat=>D.int (0+i)) (λxs δ=>∃(t:Str)(s:D)(u v:Sl),(∀k∈xs,k<10)/\t.length+7*xs.length<=200/\bc t+2*xs.length<=40/\δ=[.val (.int c),.val (.lst (nms.map .str)),.val (.str t),.val s,u,v]) ?_ ?_ (du 10) _ ⟨_,_,_,_,λk h=>gg.mp h,by simp only[gh,bx];omega,by simp only[gh,dF];omega,rfl⟩
  .rintro x xs δ ⟨t,s,u,v,hk,h1,h2,rfl⟩;rw[ag]at h1 h2;have hx:=hk x ay;have lj:("JIHGFEDCBA":Str).length=10:=by decide
   obtain⟨z,ej,hz⟩:=nz (x:="JIHGFEDCBA") (p:=nbl) ⇑0 (j:=(0+x:Int)) (by omega) (by rw[lj];omega);obtain⟨q,hq,eq⟩:=iJ (ts:=["all","some"]) (j:=c/(0+(x:Int)+3)%2) (bB _ ⇑0) (by have:=bf (c/(0+(x:Int)+3)) (show(0:Int)<2 by decide);exact this)
   have hq4:q.length<=4/\bc q=0:=by
    have:∀q∈(["all","some"]:List Str),q.length<=4/\bc q=0:=by decide
    exact this q hq
   have ex:ixD (.str "JIHGFEDCBA") (.int (0+(x:Int)))=some (.str ⟨#[z]⟩):=by
    show(if("JIHGFEDCBA":Str).length<=sizeLine then(L2.atI ("JIHGFEDCBA":Str).cps.toList (0+(x:Int))).map λc=>D.str ⟨#[c]⟩else none)=_;rw[if_pos (by rw[lj];exact big ⇑0),ej];rfl
   have l1:(⟨#[z]⟩:Str).length=1:=rfl;have l2:=nv hz;refine⟨_,rfl,cy (.str q) (eF (x:=.lst [.str "all",.str "some"]) ⋯ (ec x t s v (by omega)) eq) ⟨_,rfl,?_⟩⟩;refine cy (.str (q++" "++⟨#[z]⟩++" "++t)) (aV (x:=.str (q++" "++⟨#[z]⟩++" ")) (y:=.str t) (aV (x:=.str (q++" "++⟨#[z]⟩)) (y:=.str " ") (aV (x:=.str (q++" ")) (y:=.str ⟨#[z]⟩) (aV (x:=.str q) (y:=.str " ") ⋯ ⋯ (jF (by rw[jc.1];omega))) (eF (x:=.str "JIHGFEDCBA") (y:=.int (0+x)) ⋯ ⋯ ex) (jF (by rw[bx,jc.1,l1];omega))) ⋯ (jF (by rw[bx,bx,jc.1,l1];omega))) ⋯ (jF (by rw[bx,bx,bx,jc.1,l1];omega))) ⟨_,rfl,?_⟩;refine cy (.tup [.str q,s]) ⋯ ⟨_,rfl,dz.mpr ?_⟩;exact⟨_,_,.val (.int (0+x)),.val (.str q),λk h=>hk k (ao _ h),by simp only[bx,jc.1,l1];omega,by simp only[dF,jc.2,l2];omega,rfl⟩
  .rintro δ ⟨t,s,u,v,hk,h1,h2,rfl⟩;rw[aN]at h1 h2;exact lX.mpr (bC (.tup [.str t,s]) ⋯ ⟨t,s,rfl,by omega,by omega⟩)
def CZ:List Str:=([""," ","p()","p(","p)","(a)","p(a","p(a,)","p(,a)","p(a, b)","p (a)","p(X)","X","P","not","p(A)","and p","all X","all p(X)","all XY p","all x p(x)","some X p(Y)","not  p"," p","p ","p q","if p","p(a)(b)","p(1)","p(1a)","p(0)","all X p(x)","yes no","yes(a)","not()","and","p1","abcdefghi","p(abcdefghi)","all X all X p(X,X)","p(not)","p(all)","all X X","-","p(a-b)"]:List String).map xK
def Ky:∀t∈CZ,t.length<=800/\bc t<=70:=by decide
def Nq:("p(":Str).length=2/\bc "p("=0/\("some ":Str).length=5/\bc "some "=1:=by decide
def ME(n:Nat)(c:Int)(nms:List Str)(hn:nms.length=3)(hnm:∀t∈nms,tok 8 t):jM Gs gls (n+6) 23 [.int c,.lst (nms.map .str)] λd=>∃t:Str,d=.str t/\t.length<=800/\bc t<=70:=by
 obtain⟨a1,a2,a3,a4⟩:=Lk;obtain⟨o1,o2,o3,o4⟩:=Nq;refine bV jE rfl rfl rfl ?_;simp only[jE,init,SI,Nat.reduceAdd,Nat.reduceSub];refine jo 5 [.val (.int c),.val (.lst (nms.map .str)),.val (.lst (CZ.map .str))] ⋯ ?_;have m4:=bB (c/4) (show(4:Int)≠0 by decide);have m5:=bf (c/4) (show(0:Int)<4 by decide);refine bj (decide (c%4=1)) ⋯ (λ_=>?_) λ_=>bj (decide (c%4=2)) ⋯ (λ_=>?_) λ_=>bj (decide (c%4=3)) ⋯ (λ_=>?_) λ_=>?_
 .dsimp only[tV];simp only[↓Bi,↓WS,↓rZs,↓rZz,↓rPz,↓rPs,↓rPo,↓rRc,↓rRn,↓rVs,↓rVv,↓rVo,↓rVd,↓rDs,↓rDd,↓rGs,↓rOs,↓rOo,↓rLs,↓rLv,↓rTn,↓rTr,↓rLn,↓rLr,WI,↓reduceIte];refine⟨⇑0,⇑0,⟨by omega,by omega⟩,?_⟩;refine qE (P:=λ_ y=>∃t:Str,y=.str t/\tok 8 t) _ (λx hx=>?_) λys r=>?_
  .unfold lA at hx;obtain⟨i,hi,rfl⟩:=cG.mp hx;have hi:=gg.mp hi;simp only[SI,↓WS,↓rZs,↓rZz,↓rPz,↓rPs,↓rPo,↓rRc,↓rRn,↓rVs,↓rVv,↓rVo,↓rVd,↓rDs,↓rDd,↓rGs,↓rOs,↓rOo,↓rLs,↓rLv,↓rTn,↓rTr,↓rLn,↓rLr,WI,↓reduceIte,ak,hn];obtain⟨t,ht,e⟩:=iJ (ts:=nms) (j:=c/4/(0+(i:Int)+1)%3) (bB _ ⇑0) (by rw[hn];exact bf _ ⇑0);exact⟨⇑0,⟨by omega,by omega⟩,⇑0,_,e,⟨t,rfl,hnm t ht⟩,rfl⟩
  .obtain⟨us,rfl,hl',hus⟩:=uK (λ_ _ h=>h) _ _ r;have hu5:us.length<=5:=by rw[hl',su];omega
   obtain⟨hj,j1,j2⟩:=rp (us:=us) hu5 hus;simp only[↓Bi,ak,hj,yr,↓WS,↓rZs,↓rZz,↓rPz,↓rPs,↓rPo,↓rRc,↓rRn,↓rVs,↓rVv,↓rVo,↓rVd,↓rDs,↓rDd,↓rGs,↓rOs,↓rOo,↓rLs,↓rLv,↓rTn,↓rTr,↓rLn,↓rLr,WI,↓reduceIte];exact⟨big (by omega),big (by omega),big (by rw[bx];omega),_,rfl,by rw[bx,bx];omega,by rw[dF,dF];omega⟩
 .obtain⟨q,hq,eq⟩:=iJ (ts:=["not ","and no "]) (j:=c/4%2) (bB _ ⇑0) (by have:=bf (c/4) (show(0:Int)<2 by decide);exact this);have eq':atI [D.str "not ",.str "and no "] (c/4%2)=some (.str q):=eq
  have hq4:q.length<=10/\bc q<=2:=by
   have:∀q∈(["not ","and no "]:List Str),q.length<=10/\bc q<=2:=by decide
   exact this q hq
  dsimp only[tV];simp only[↓WS,↓rZs,↓rZz,↓rPz,↓rPs,↓rPo,↓rRc,↓rRn,↓rVs,↓rVv,↓rVo,↓rVd,↓rDs,↓rDd,↓rGs,↓rOs,↓rOo,↓rLs,↓rLv,↓rTn,↓rTr,↓rLn,↓rLr,WI,↓reduceIte];refine⟨by show 2<=sizeLine;decide,⇑0,⇑0,_,eq',fb (wA n 1 nms hn hnm) ?_⟩;rintro _ ⟨t,s,rfl,l1,l2⟩;simp only[↓WS,↓rZs,↓rZz,↓rPz,↓rPs,↓rPo,↓rRc,↓rRn,↓rVs,↓rVv,↓rVo,↓rVd,↓rDs,↓rDd,↓rGs,↓rOs,↓rOo,↓rLs,↓rLv,↓rTn,↓rTr,↓rLn,↓rLr,WI,↓reduceIte];exact⟨big (by omega),_,rfl,by rw[bx];omega,by rw[dF];omega⟩
 .have lj:("XAJ":Str).length=3:=by decide
  obtain⟨z,ej,hz⟩:=nz (x:="XAJ") (p:=nbl) ⇑0 (j:=c/4%3) (bB _ ⇑0) (by rw[lj];exact bf _ ⇑0);have l1:(⟨#[z]⟩:Str).length=1:=rfl;have l2:=nv hz;dsimp only[tV];simp only[↓WS,↓rZs,↓rZz,↓rPz,↓rPs,↓rPo,↓rRc,↓rRn,↓rVs,↓rVv,↓rVo,↓rVd,↓rDs,↓rDd,↓rGs,↓rOs,↓rOo,↓rLs,↓rLv,↓rTn,↓rTr,↓rLn,↓rLr,WI,↓reduceIte];refine⟨⇑0,⇑0,⇑0,_,ej,big (by rw[o3,l1];omega),big (by rw[bx,o3,l1,jc.1];omega),fb (wA n 0 nms hn hnm) ?_⟩;rintro _ ⟨t,s,rfl,l3,l4⟩;have:=jc;simp only[↓WS,↓rZs,↓rZz,↓rPz,↓rPs,↓rPo,↓rRc,↓rRn,↓rVs,↓rVv,↓rVo,↓rVd,↓rDs,↓rDd,↓rGs,↓rOs,↓rOo,↓rLs,↓rLv,↓rTn,↓rTr,↓rLn,↓rLr,WI,↓reduceIte];exact⟨big (by simp only[bx];omega),_,rfl,by simp only[bx];omega,by simp only[dF];omega⟩
 .have ho:CZ.length=45:=by decide
  obtain⟨t,ht,e⟩:=iJ (ts:=CZ) (j:=c/4%45) (bB _ ⇑0) (by rw[ho];exact bf _ ⇑0);exact bC (.str t) (eF (x:=.lst (CZ.map .str)) (y:=.int (c/4%45)) ⋯ ⋯ e) ⟨t,rfl,Ky t ht⟩
def Ch(x:Str)(d:D):Prop:=∃t:Str,d=.str t/\2*(t.length+mw (cs t)+20)<=3*(x.length+mw (cs x)+20)/\bc t<=bc x+1
def xD{x:Str}{i j:Nat}{z:Str}(hi:i<=x.length)(hij:i<=j)(hz:z.length<=1):Ch x (.str (sO ((cs x).take i)++z++sO ((cs x).drop j)))/\(sO ((cs x).take i)).length+z.length+(sO ((cs x).drop j)).length<=x.length+1:=by
 have l1:(sO ((cs x).take i)).length=i:=by rw[eQ,bA,bT];lia
 have l2:(sO ((cs x).drop j)).length=x.length-j:=by rw[eQ,aS,bT]
 refine⟨⟨_,rfl,?_,?_⟩,∅⟩
 .have m1:=GI (cs x) i;have m2:=GJ (cs x) j;have m3:=qY (cs z);have m4:=xf (cs (sO ((cs x).take i)++z)) (cs (sO ((cs x).drop j)));have m5:=xf (cs (sO ((cs x).take i))) (cs z);have m6:=qY (cs (sO ((cs x).take i)++z++sO ((cs x).drop j)));rw[<- tJ]at m4 m5;rw[bT]at m3 m6;rw[kX]at m4 m5;rw[bx,bx]at m6 |-;have m7:mw (cs (sO ((cs x).drop j)))=mw ((cs x).drop j):=rfl
  lia
 .rw[dF,dF];have b1:bc z<=1:=aZ List.count_le_length (by rw[bT];exact hz)
  have b2:bc (sO ((cs x).take i))+bc (sO ((cs x).drop i))=bc x:=by
   unfold bc;rw[kX,kX,<- jk,cD]
  have b3:bc (sO ((cs x).drop j))<=bc (sO ((cs x).drop i)):=by
   unfold bc;rw[kX,kX,show j=i+(j-i) by lia,<- List.drop_drop];exact(List.drop_sublist _ _).count_le _
  lia
def Hv{x:Str}{us:List Str}{M:Nat}(h1:tl us<=16777000)(hM:∀u∈us,mw (cs u)<=M)(h2:2*(tl us-1+M+20)<=3*(x.length+mw (cs x)+20))(h3:(us.map λu=>bc u+1).sum<=bc x+2):mtD .join (.str " ") (.lst (us.map .str))=some (.str (glued " " us))/\Ch x (.str (glued " " us)):=by
 obtain⟨j1,_⟩:=Dk pU (us:=us) (big ∅);refine⟨j1,_,rfl,?_,?_⟩
 .cases us with
  |nil =>
   have e1:(glued " " []).length=0:=rfl;have e2:mw (cs (glued " " []))=0:=rfl
   lia
  |cons u us =>
   have hl:(glued " " (u::us)).length=tl (u::us)-1:=by
    rw[<- bT,kg pU,xh,bT];unfold tl;rw[aw,aY]
    lia
   have hm:mw (cs (glued " " (u::us)))<=M:=by
    rw[kg pU];exact Ip us (cs u) (hM u ay) λv hv=>hM v (ao _ hv)
   lia
 .cases us with
  |nil=>exact bP _
  |cons u us =>
   have hb:bc (glued " " (u::us))=bc u+(us.map λu=>bc u+1).sum:=by
    unfold bc;rw[kg pU,Ds];rfl
   rw[aw,aY]at h3
   lia
section
variable{g:Str->Nat}{l:List Str}{a b:Str}{k:Nat}
def kz(x y:List Str):((x++y).map g).sum=(x.map g).sum+(y.map g).sum:=by rw[cg,HQ]
def oA(k:Nat):((l.take k++a::l.drop k).map g).sum=(l.map g).sum+g a:=by
 conv=>rhs;rw[<- cD k l]
 rw[kz,kz,aw,aY]
 lia
def Bw(h:l[k]?=some a):((l.eraseIdx k).map g).sum+g a=(l.map g).sum:=by
 obtain⟨hk,e⟩:=aF.mp h
 conv=>rhs;rw[<- cD k l,bQ hk,e]
 rw[dN,kz,kz,aw,aY]
 lia
def sum_set(h:l[k]?=some a):((l.set k b).map g).sum+g a=(l.map g).sum+g b:=by
 obtain⟨hk,e⟩:=aF.mp h
 conv=>rhs;rw[<- cD k l,bQ hk,e]
 rw[List.set_eq_take_append_cons_drop,if_pos hk,kz,kz,aw,aY,aw,aY]
 lia
end
def Lo{ds:List D}{k:Nat}:cutD ds none (some (k:Int))=ds.take k:=by
 unfold cutD;rw[HT.sIx_none,HT.sIx_nat,gi,xN];rcases Nat.le_total k ds.length with h|h
 .rw[qz h]
 .rw[pZ h,cn h,gG]
def DY{ds:List D}{k:Nat}:cutD ds (some (k:Int)) none=ds.drop k:=by
 unfold cutD;rw[HT.sIx_none,HT.sIx_nat,cn]
 .rcases Nat.le_total k ds.length with h|h
  .rw[qz h]
  .rw[pZ h,fu,dY h]
 .rw[aS]
  lia
section
variable{cx:Cl}{δ δ1:PP.Loc}
def DN{i:Nat}{j:E}{ds:List D}{k:Nat}{w:D}(h0:δ[i]?=some (.own ds))(hj:evE cx j δ=some (.int (k:Int),δ))(hk:ds[k]?=some w)(h6:k<1000000):evE cx (.popi i j) δ=some (w,δ.set i (.own (ds.eraseIdx k))):=by
 simp only[evE,h0,hj,ae,ah];rw[if_pos ⟨∅,by have:=(aF.mp hk).1;lia,∅⟩,dg,hk];rfl
def my{e:E}{d:D}(h:evE cx e δ=some (d,δ1)):cT cx (.cons e .nil) δ=some ([d],δ1):=by
 simp only[cT,h,ae,ah];rfl
def zl{i:Nat}{j e:E}{r:Ss}{Q:Out->Prop}{ds:List D}{k:Nat}{d:D}(he:evE cx e δ=some (d,δ))(h0:δ[i]?=some (.own ds))(hj:evE cx j δ=some (.int (k:Int),δ))(hk:k<ds.length)(q:wSs cx r (δ.set i (.own (ds.set k d))) Q):wSs cx (.cons (.setix i j e) r) δ Q:=by
 refine bL.mpr ⟨.nx _,?_,q⟩
 have hi:ixN ds.length (k:Int)=some k:=by
  unfold ixN;rw[if_pos ∅,if_pos ∅,dg]
 simp only[evS,he,h0,hj,hi,ae,ah]
end
def SG:Str:=" ()ABXYZabcnotyesdif0123456789,;=>~-_'!?+*/<|&^.:#"
def CW:List Str:=(["not","and","if","all X","some","yes","p(X)","q(a)","X",""]:List String).map xK
def Nv:∀t∈CW,t.length<=5/\bc t<=1/\mw (cs t)<=4:=by decide
def Hg{cx:Cl}{δ δ1 δ2:PP.Loc}{m:Mt}{a b:E}{x y z:D}(ha:evE cx a δ=some (x,δ1))(hb:evE cx b δ1=some (y,δ2))(h:mtD m x y=some z):evE cx (.mt m a b) δ=some (z,δ2):=by
 simp only[evE,ha,hb,h,ae,ah];rfl
def IK(x:Str):((spl 32 x).map λu=>bc u+1).sum=bc x+1:=by
 rw[<- lZ]
 have:∀l:List Str,(∀u∈l,bc u=0)->(l.map λu=>bc u+1).sum=l.length:=λl=>by
  induction l with
  |nil=>intro _;rfl
  |cons u l ih =>
   intro h;rw[aw,aY,ih λv hv=>h v (ao _ hv),h u ay,ag]
   lia
 exact this _ λu hu=>(wq hu).2
def oJ{c:Int}{m:Nat}(h:0<m):∃k:Nat,c%(m:Int)=(k:Int)/\k<m:=by
 have h0:=bB c (show(m:Int)≠0 by lia);have h1:=bf c (show(0:Int)<m by lia);exact⟨(c%(m:Int)).toNat,∅,∅⟩
def Im(a:Int){m:Nat}(h:0<m):opD .mod (.int a) (.int (m:Int))=some (.int (a%(m:Int))):=if_pos ∅
noncomputable abbrev sC(x:Str)(c:Int)(i u:Nat)(s5 s6 s7:Sl):PP.Loc:=[.val (.str x),.val (.int c),.val (.str SG),.val (.int i),.val (.str ⟨#[u]⟩),s5,s6,s7]
def zH(n:Nat)(x:Str)(c:Int)(hx:3*(x.length+mw (cs x)+20)<=33554000)(hbx:bc x<=1000):jM Gs gls (n+1) 24 [.str x,.int c] (Ch x):=by
 have hm:=qY (cs x);rw[bT]at hm;have hl:x.length<16777000:=by lia
 have hlt:x.length<sizeLine:=aK hl ⇑0;have sgl:SG.length=50:=by decide
 refine bV fY rfl rfl rfl ?_;simp only[fY,init,SI,Nat.reduceAdd,Nat.reduceSub];refine jo 1 [.val (.str x),.val (.int c),.val (.str SG),.no,.no,.no,.no,.no] ⋯ ?_;obtain⟨i,ei,hi⟩:=oJ (c:=c/7) (m:=x.length+1) ∅;obtain⟨s,es,hs⟩:=oJ (c:=c/41) (m:=50) ∅;have wn:0<(spl 32 x).length:=by rw[lZ];lia
 obtain⟨k,ek,hk⟩:=oJ (c:=c/7) (m:=(spl 32 x).length) wn;obtain⟨w,ew⟩:∃w,(spl 32 x)[k]?=some w:=⟨_,aO hk⟩;obtain⟨u,eu⟩:∃u,SG.cps.toList[s]?=some u:=⟨_,aO (by rw[str_len,sgl];exact hs)⟩;have hw:=wq (cZ ew);have ht:=Jy x;have hsum:=IK x
 have hws:∀v∈spl 32 x,mw (cs v)<=mw (cs x):=λv hv=>by
  have:=qY (cs v);rw[bT]at this;have:=(wq hv).1
  lia
 have hn1:(spl 32 x).length<=1001:=by rw[lZ];lia
 have hn:(spl 32 x).length<=x.length+1:=by
  rw[<- ht];unfold tl
  have:∀l:List Str,l.length<=(l.map λu=>u.length+1).sum:=λl=>by
   induction l with
   |nil=>exact aD _
   |cons v l ih=>rw[aw,aY,ag];lia
  exact this _
 have ms:=m_split (x:=x) pU ⇑0 hlt;generalize spl 32 x=ws at *;show wSs _ (.cons _ _) _ _;refine cy (.int i) (aV (x:=.int (c/7)) (y:=.int ((x.length:Int)+1)) (aV (x:=.int c) (y:=.int 7) ⋯ ⋯ ⋯) (aV (x:=.int x.length) (y:=.int 1) (len_str ⋯ (cI hlt)) ⋯ ⋯) (by rw[<- ei];exact if_pos ∅)) ⟨_,rfl,?_⟩;show wSs _ (.cons _ _) [.val (.str x),.val (.int c),.val (.str SG),.val (.int i),.no,.no,.no,.no] _;refine cy (.str ⟨#[u]⟩) (eF (x:=.str SG) (y:=.int s) ⋯ (aV (x:=.int (c/41)) (y:=.int ((50:Nat):Int)) (aV (x:=.int c) (y:=.int 41) ⋯ ⋯ ⋯) ⋯ ((Im (c/41) ⇑0).trans (by rw[es]))) ?_) ⟨_,rfl,?_⟩
 .show(if SG.length<=sizeLine then(atI SG.cps.toList (s:Int)).map _ else none)=_;rw[if_pos (by rw[sgl];decide),atI_nat eu];rfl
 show wSs _ (.cons _ _) (sC x c i u .no .no .no) _;refine rP (ds:=ws.map .str) (jB (x:=.str x) (y:=.str " ") ⋯ ⋯ ms) (by show 5<8;decide) ?_;show wSs _ (.cons _ _) (sC x c i u (.own (ws.map .str)) .no .no) _;refine cy (.int k) (aV (x:=.int (c/7)) (y:=.int (ws.map D.str).length) (aV (x:=.int c) (y:=.int 7) ⋯ ⋯ ⋯) (eK ⋯) (by rw[<- ek,ak];exact if_pos ∅)) ⟨_,rfl,?_⟩;refine cy (.int (c%7)) ⋯ ⟨_,rfl,?_⟩;show wSs _ (.cons _ _) (sC x c i u (.own (ws.map .str)) (.val (.int k)) (.val (.int (c%7)))) _;generalize c%7=y;have s1:slD (.str x) none (some (i:Int))=some (.str (sO ((cs x).take i))):=(if_pos (cI hlt)).trans (by rw[<- My ∅]);have s2:∀j:Nat,slD (.str x) (some (j:Int)) none=some (.str (sO ((cs x).drop j))):=λj=>(if_pos (cI hlt)).trans (by rw[<- FO]);have add2:∀{a b:Str},a.length+b.length<=x.length+1->opD .add (.str a) (.str b)=some (.str (a++b)):=λh=>if_pos (big ∅);have u1:(⟨#[u]⟩:Str).length=1:=rfl;obtain⟨c0,d0⟩:=xD (x:=x) (i:=i) (j:=i) (z:=⟨#[u]⟩) ∅ (aD _) (kn u1);obtain⟨c2,d2⟩:=xD (x:=x) (i:=i) (j:=i+1) (z:=⟨#[u]⟩) ∅ ∅ (kn u1);obtain⟨c1,d1⟩:=xD (x:=x) (i:=i) (j:=i+1) (z:="") ∅ ∅ ⇑0;have i0:∀cx:Cl,evE cx (.sl (.var 0) .no (.yes (.var 3))) (sC x c i u (.own (ws.map .str)) (.val (.int k)) (.val (.int y)))=some (.str (sO ((cs x).take i)),(sC x c i u (.own (ws.map .str)) (.val (.int k)) (.val (.int y)))):=λcx=>eh (x:=.str x) (l:=none) (h:=some (i:Int)) ⋯ rfl ⋯ s1;have i1:∀cx:Cl,evE cx (.sl (.var 0) (.yes (.bin .add (.var 3) (.int 1))) .no) (sC x c i u (.own (ws.map .str)) (.val (.int k)) (.val (.int y)))=some (.str (sO ((cs x).drop (i+1))),(sC x c i u (.own (ws.map .str)) (.val (.int k)) (.val (.int y)))):=λcx=>eh (x:=.str x) (l:=some ((i+1:Nat):Int)) (h:=none) ⋯ ⋯ rfl (s2 _);refine bj (y==0) ⋯ (λ_=>?_) λ_=>?_
 .show wSs _ (.cons _ _) _ _;refine bC _ (aV (i0 _ |> λh=>aV h (y:=.str ⟨#[u]⟩) ⋯ (add2 ∅)) (eh (x:=.str x) (l:=some (i:Int)) (h:=none) ⋯ ⋯ rfl (s2 i)) (add2 (by rw[bx];lia))) c0
 show wSs _ (.cons _ _) _ _;refine bj (y==1) ⋯ (λ_=>?_) λ_=>?_
 .show wSs _ (.cons _ _) _ _;have e0:sO ((cs x).take i)++""=sO ((cs x).take i):=gJ (by rw[tJ];exact bt _);rw[e0]at c1;exact bC _ (aV (i0 _) (i1 _) (add2 ∅)) c1
 show wSs _ (.cons _ _) _ _;refine bj (y==2) ⋯ (λ_=>?_) λ_=>?_
 .show wSs _ (.cons _ _) _ _;exact bC _ (aV (aV (i0 _) (y:=.str ⟨#[u]⟩) ⋯ (add2 ∅)) (i1 _) (add2 (by rw[bx];lia))) c2
 -- the words,changed and joined
 have fin:∀(us:List Str)(M:Nat)(s5:Sl),(s5=.own (us.map .str)\/s5=.val (.lst (us.map .str)))->tl us<=16777000->(∀u∈us,mw (cs u)<=M)->2*(tl us-1+M+20)<=3*(x.length+mw (cs x)+20)->(us.map λu=>bc u+1).sum<=bc x+2->wSs ⟨PP.run Gs gls n,gls,hfs Gs⟩ (.cons (.ret (.mt .join (.str " ") (.var 5))) .nil) (sC x c i u s5 (.val (.int k)) (.val (.int y))) (retS (Ch x)):=λus M s5 h0 h1 h2 h3 h4=>by
  obtain⟨j1,j2⟩:=Hv h1 h2 h3 h4;rcases h0 with rfl|rfl
  .exact bL.mpr (jr.mpr ⟨_,_,Hg (x:=.str " ") (y:=.lst (us.map .str)) (δ1:=(sC x c i u (.own (us.map .str)) (.val (.int k)) (.val (.int y)))) (δ2:=(sC x c i u (.val (.lst (us.map .str))) (.val (.int k)) (.val (.int y)))) ⋯ ⋯ j1,j2⟩)
  .exact bC _ (jB (x:=.str " ") (y:=.lst (us.map .str)) ⋯ ⋯ j1) j2
 have gk:(ws.map D.str)[k]?=some (.str w):=by rw[bJ,ew];rfl
 have hl1:(ws.map D.str).length<sizeLine:=by rw[ak];exact aK (show ws.length<16777002 by lia) ⇑0
 have ik:∀cx:Cl,evE cx (.ix (.pk 5) (.var 6)) (sC x c i u (.own (ws.map .str)) (.val (.int k)) (.val (.int y)))=some (.str w,(sC x c i u (.own (ws.map .str)) (.val (.int k)) (.val (.int y)))):=λcx=>eF (x:=.lst (ws.map .str)) (y:=.int k) ⋯ ⋯ (atI_nat gk);show wSs _ (.cons _ _) _ _;refine bj (y==3) ⋯ (λ_=>?_) λ_=>?_
 .show wSs _ (.cons _ _) _ _;refine bL.mpr (AS (n:=(k:Int)) (d:=.str w) rfl (aL (d:=.int k) ⋯ (aL (ik _) rfl)) rfl ⟨∅,∅,hl1⟩ ?_)
  have e:(ws.map D.str).take (k:Int).toNat++D.str w::(ws.map D.str).drop (k:Int).toNat=(ws.take k++w::ws.drop k).map .str:=by
   rw[dg,cg,aw,gM,gN]
  rw[e];have t1:tl (ws.take k++w::ws.drop k)=tl ws+(w.length+1):=oA k;have t2:((ws.take k++w::ws.drop k).map λu=>bc u+1).sum=(ws.map λu=>bc u+1).sum+(bc w+1):=oA k;refine fin _ (mw (cs x)) _ (.inl rfl) ∅ (λv hv=>?_) ∅ ∅;rcases cc.mp hv with hv|hv
  .exact hws v (gQ hv)
  .rcases aA.mp hv with rfl|hv
   .exact hws _ (cZ ew)
   .exact hws v (gR hv)
 have er1:tl (ws.eraseIdx k)+(w.length+1)=tl ws:=Bw ew;have er2:((ws.eraseIdx k).map λu=>bc u+1).sum+(bc w+1)=(ws.map λu=>bc u+1).sum:=Bw ew;have er3:∀v∈ws.eraseIdx k,mw (cs v)<=mw (cs x):=λv hv=>hws v (List.mem_of_mem_eraseIdx hv);show wSs _ (.cons _ _) _ _;refine bj (y==4) ⋯ (λ_=>?_) λ_=>?_
 .show wSs _ (.cons _ _) _ _
  have e:(ws.map D.str).take k++(ws.map D.str).drop (k+1)=(ws.eraseIdx k).map .str:=by
   rw[dN,cg,gM,gN]
  have sl1:slD (.lst (ws.map .str)) none (some (k:Int))=some (.lst ((ws.map D.str).take k)):=by
   show some (D.lst (cutD _ _ _))=_;rw[Lo]
  have sl2:slD (.lst (ws.map .str)) (some ((k+1:Nat):Int)) none=some (.lst ((ws.map D.str).drop (k+1))):=by
   show some (D.lst (cutD _ _ _))=_;rw[DY]
  refine cy (.lst ((ws.eraseIdx k).map .str)) (aV (eh (x:=.lst (ws.map .str)) (l:=none) (h:=some (k:Int)) ⋯ rfl ⋯ sl1) (eh (x:=.lst (ws.map .str)) (l:=some ((k+1:Nat):Int)) (h:=none) ⋯ ⋯ rfl sl2) (by
   rw[<- e]
   exact if_pos (by
    rw[bA,aS];exact aZ (show _<=(ws.map D.str).length by lia) (cI hl1)))) ⟨_,rfl,?_⟩
  exact fin (ws.eraseIdx k) (mw (cs x)) _ (.inr rfl) ∅ er3 ∅ ∅
 show wSs _ (.cons _ _) _ _;refine bj (y==5) ⋯ (λ_=>?_) λ_=>?_
 .show wSs _ (.cons _ _) _ _
  have em:(ws.map D.str).eraseIdx k=(ws.eraseIdx k).map .str:=by
   rw[dN,dN,cg,gM,gN]
  have ep:=DN (cx:=⟨PP.run Gs gls n,gls,hfs Gs⟩) (δ:=(sC x c i u (.own (ws.map .str)) (.val (.int k)) (.val (.int y)))) (i:=5) (j:=.var 6) rfl rfl gk ∅;rw[em]at ep;refine bL.mpr (AS (n:=((k+1:Nat):Int)) (d:=.str w) (ds1:=(ws.eraseIdx k).map .str) rfl (xt (d:=.int ((k+1:Nat):Int)) ⋯ (my ep)) rfl ⟨∅,∅,?_⟩ ?_)
  .rw[<- em];exact cL (List.length_eraseIdx_le _ _) hl1
  have e:((ws.eraseIdx k).map D.str).take ((k+1:Nat):Int).toNat++D.str w::((ws.eraseIdx k).map D.str).drop ((k+1:Nat):Int).toNat=((ws.eraseIdx k).take (k+1)++w::(ws.eraseIdx k).drop (k+1)).map .str:=by
   rw[dg,cg,aw,gM,gN]
  rw[e];have t1:tl ((ws.eraseIdx k).take (k+1)++w::(ws.eraseIdx k).drop (k+1))=tl (ws.eraseIdx k)+(w.length+1):=oA (k+1);have t2:(((ws.eraseIdx k).take (k+1)++w::(ws.eraseIdx k).drop (k+1)).map λu=>bc u+1).sum=((ws.eraseIdx k).map λu=>bc u+1).sum+(bc w+1):=oA (k+1);refine fin _ (mw (cs x)) _ (.inl rfl) ∅ (λv hv=>?_) ∅ ∅;rcases cc.mp hv with hv|hv
  .exact er3 v (gQ hv)
  .rcases aA.mp hv with rfl|hv
   .exact hws _ (cZ ew)
   .exact er3 v (gR hv)
 .show wSs _ (.cons _ _) _ _;obtain⟨q,eq,hq⟩:=oJ (c:=c/41) (m:=10) ∅;have cl:CW.length=10:=by decide
  obtain⟨b,eb⟩:∃b,CW[q]?=some b:=⟨_,aO (by rw[cl];exact hq)⟩;obtain⟨b1,b2,b3⟩:=Nv b (cZ eb);refine zl (d:=.str b) (eF (x:=.lst (CW.map .str)) (y:=.int q) ⋯ (aV (x:=.int (c/41)) (y:=.int ((10:Nat):Int)) (aV (x:=.int c) (y:=.int 41) ⋯ ⋯ ⋯) ⋯ ((Im (c/41) ⇑0).trans (by rw[eq]))) (atI_nat (by rw[bJ,eb];rfl))) (ds:=ws.map .str) rfl (k:=k) rfl (by rw[ak];exact hk) ?_;rw[show(ws.map D.str).set k (.str b)=(ws.set k b).map .str from List.map_set.symm];have t1:tl (ws.set k b)+(w.length+1)=tl ws+(b.length+1):=sum_set ew;have t2:((ws.set k b).map λu=>bc u+1).sum+(bc w+1)=(ws.map λu=>bc u+1).sum+(bc b+1):=sum_set ew;refine fin (ws.set k b) (mw (cs x)+4) _ (.inl rfl) ∅ (λv hv=>?_) ∅ ∅;rcases List.mem_or_eq_of_mem_set hv with hv|rfl
  .have:=hws v hv;lia
  .lia
def pot:Nat->Nat
 |0=>3300
 |k+1=>3*pot k/2
def JW:∀k:Nat,k<22->3*pot k<=50331000:=by decide
def Ge:∀k:Nat,k<21->3*pot k<=33554000:=by decide
def Bd(k:Nat)(x:Str):Prop:=x.length+mw (cs x)+20<=pot k/\bc x<=60+k
def MD{k:Nat}{x:Str}(h:Bd k x)(hk:k<=21):PP.run Gs gls 199 26 [.str x]=some (.bl true):=by
 have:=JW k ∅;obtain⟨h1,h2⟩:=h;exact yk 197 x (aK (show x.length<16777000 by lia) ⇑0) (by rw[lZ];lia) ∅
def Jr:tok 8 "by":=⟨⇑0,⇑0⟩
noncomputable abbrev sM(ns:List Int)(a b:Str)(s2 s3 s4 s5:Sl):PP.Loc:=[.val (.lst (ns.map .int)),.val (.lst ([a,b,"by"].map .str)),s2,s3,s4,s5]
def main(ns:List Int)(hl63:ns.length<=63):PP.run Gs gls 200 27 [.lst (ns.map .int)]=some (.bl true):=by
 apply dr;refine bV d_law rfl rfl rfl ?_;simp only[d_law,init,SI,Nat.reduceAdd,Nat.reduceSub];obtain⟨_,ec0,c0,rfl⟩:=sy 198 ns 0 ⇑0 ⇑0;obtain⟨_,ea,a,rfl,ha⟩:=Ci 198 c0;obtain⟨_,ec1,c1,rfl⟩:=sy 198 ns 1 ⇑0 ⇑0;obtain⟨_,eb,b,rfl,hb⟩:=Ci 198 c1;obtain⟨_,ec2,c2,rfl⟩:=sy 198 ns 2 ⇑0 ⇑0;obtain⟨_,ec3,c3,rfl⟩:=sy 198 ns 3 ⇑0 ⇑0;have hn:([a,b,"by"]:List Str).length=3:=rfl
 have hnm:∀t∈([a,b,"by"]:List Str),tok 8 t:=λt q=>by
  simp only[aA,bS,or_false]at q;rcases q with rfl|rfl|rfl
  .exact ha
  .exact hb
  .exact Jr
 obtain⟨_,ed,t0,s0,rfl,l1,l2⟩:=kB [a,b,"by"] hn hnm 4 199 (c2/6) [] (by omega) (by omega) (λt q=>by cases q) ⇑0;obtain⟨_,et,t1,s1,rfl,l3,l4⟩:=wA 194 (c2/6) [a,b,"by"] hn hnm;refine cy (.lst ([a,b,"by"].map .str)) ?_ ⟨_,rfl,?_⟩
 .have e1:cT ⟨PP.run Gs gls 199,gls,hfs Gs⟩ (.cons (.call 13 (.cons (.call 12 (.cons (.var 0) (.cons (.int 0) .nil))) .nil)) (.cons (.call 13 (.cons (.call 12 (.cons (.var 0) (.cons (.int 1) .nil))) .nil)) (.cons (.str "by") .nil))) [.val (.lst (ns.map .int)),.no,.no,.no,.no,.no]=some ([.str a,.str b,.str "by"],[.val (.lst (ns.map .int)),.no,.no,.no,.no,.no]) :=
   aL (cJ [.int c0] (aL (cJ [.lst (ns.map .int),.int 0] ⋯ ec0) rfl) ea) (aL (cJ [.int c1] (aL (cJ [.lst (ns.map .int),.int 1] ⋯ ec1) rfl) eb) ⋯)
  simp only[evE,e1,ae,ah];exact if_pos (by show 3<=sizeLine;decide)
 show wSs _ (.cons _ _) (sM ns a b .no .no .no .no) _;refine dI [.lst (ns.map .int),.int 2] ⋯ ((lR ec2).mpr ⟨_,rfl,?_⟩);show wSs _ (.cons _ _) (sM ns a b (.val (.int c2)) .no .no .no) _;refine cy (.str t0) (eF (x:=.tup [.str t0,s0]) (y:=.int 0) (cJ [.int (c2/6),.int 4,.lst [],.lst ([a,b,"by"].map .str)] ⋯ ed) ⋯ (atI_nat (j:=0) rfl)) ⟨_,rfl,?_⟩;show wSs _ (.cons _ _) (sM ns a b (.val (.int c2)) (.val (.str t0)) .no .no) _
 have rest:∀t:Str,t.length<=700->bc t<=60->wSs ⟨PP.run Gs gls 199,gls,hfs Gs⟩ (gP 4 d_law.body) (sM ns a b (.val (.int c2)) (.val (.str t)) .no .no) (retS λd=>d=.bl true):=λt h1 h2=>by
  show wSs _ (.cons _ _) _ _;obtain⟨zs,ez,hz,lz⟩:=yV D.int ns (some 4) (some 24)
  have lz2:(zs.map D.int).length<=20:=by
   rw[<- ez];unfold cutD;rw[bA,show(24:Int)=((24:Nat):Int)from rfl,show(4:Int)=((4:Nat):Int)from rfl,HT.sIx_nat,HT.sIx_nat,ak];omega
  rw[ak]at lz2
  have eI:evI ⟨PP.run Gs gls 199,gls,hfs Gs⟩ (.sq (.bin .add (.lst (.cons (.call 12 (.cons (.var 0) (.cons (.int 3) .nil))) .nil)) (.sl (.var 0) (.yes (.int 4)) (.yes (.int 24))))) (sM ns a b (.val (.int c2)) (.val (.str t)) .no .no)=some ((c3::zs).map .int,(sM ns a b (.val (.int c2)) (.val (.str t)) .no .no)):=by
   refine nk (d:=.lst ((c3::zs).map .int)) (aV (x:=.lst [.int c3]) (y:=.lst (zs.map .int)) ?_ (eh (x:=.lst (ns.map .int)) (l:=some 4) (h:=some 24) ⋯ ⋯ ⋯ (by rw[<- ez];rfl)) (if_pos ?_)) rfl
   .have h9:cT ⟨PP.run Gs gls 199,gls,hfs Gs⟩ (.cons (.call 12 (.cons (.var 0) (.cons (.int 3) .nil))) .nil) (sM ns a b (.val (.int c2)) (.val (.str t)) .no .no)=some ([.int c3],(sM ns a b (.val (.int c2)) (.val (.str t)) .no .no)):=my (cJ [.lst (ns.map .int),.int 3] ⋯ ec3);simp only[evE,h9,ae,ah];exact if_pos (by show 1<=sizeLine;decide)
   .rw[ak];exact big (by show 1+zs.length<=_;omega)
  refine gT _ eI ?_;refine iV D.int (λxs δ=>∃(k:Nat)(x:Str)(s:Sl),k+xs.length<=21/\Bd k x/\δ=(sM ns a b (.val (.int c2)) (.val (.str x)) s .no)) ?_ ?_ (c3::zs) _ ⟨0,t,.no,by rw[ag];omega,⟨by have:=qY (cs t);rw[bT]at this;show _<=3300;omega,by omega⟩,rfl⟩
  .rintro y xs δ ⟨k,x,s,hk,hB,rfl⟩;rw[ag]at hk;have r1:=MD hB (by omega);obtain⟨_,eo,q,rfl,o1,o2⟩:=ME 193 y [a,b,"by"] hn hnm;have r2:PP.run Gs gls 199 26 [.str q]=some (.bl true):=yk 197 q (cL o1 ⇑0) (by rw[lZ];omega) (by omega);have hp:=Ge k (by omega);obtain⟨_,eC,z,rfl,z1,z2⟩:=zH 198 x y (by have:=hB.1;omega) (by have:=hB.2;omega);refine⟨(sM ns a b (.val (.int c2)) (.val (.str x)) (.val (.int y)) .no),⋯,?_⟩;show wSs _ (.cons _ _) _ _;refine bj (!true||!true) (gq (gy (kG [.str x] ⋯ r1)) (gy (kG [.str q] (my (cJ [.int y,.lst ([a,b,"by"].map .str)] ⋯ eo)) r2))) (λh=>by cases h) λ_=>?_;show wSs _ (.cons _ _) _ _;refine dI [.str x,.int y] ⋯ ((lR eC).mpr ⟨_,rfl,dz.mpr ?_⟩);refine⟨k+1,z,.val (.int y),by omega,⟨?_,by have:=hB.2;omega⟩,rfl⟩;have:=hB.1;show _<=3*pot k/2;omega
  .rintro δ ⟨k,x,s,hk,hB,rfl⟩;rw[aN]at hk;have r1:=MD hB (by omega);show wSs _ (.cons _ _) _ _;refine cy (.lst [.non,.int 0,.bl true,.int (c2%10^30),.lst [.str x],.tup [.str x],.dct [x] [.str x],.tup [.str "yes"],.lst [],.tup [.str "word",.str "p",.tup []]]) ⋯ ⟨_,rfl,?_⟩;show wSs _ (.cons _ _) _ _;obtain⟨d,hd,ed⟩:=vI (ds:=[D.non,.int 0,.bl true,.int (c2%10^30),.lst [.str x],.tup [.str x],.dct [x] [.str x],.tup [.str "yes"],.lst [],.tup [.str "word",.str "p",.tup []]]) (j:=c2%10) (bB _ ⇑0) (by have:=bf c2 (show(0:Int)<10 by decide);exact this)
   have hs:fW [d]=some (.bl false):=by
    simp only[aA,bS,or_false]at hd;rcases hd with rfl|rfl|rfl|rfl|rfl|rfl|rfl|rfl|rfl|rfl<;>rfl
   have r2:PP.run Gs gls 199 25 [d]=some .non:=Cg 198 d hs (by omega);refine bC (.bl (true&&true)) (vB (cJ [.str x] ⋯ r1) λ_=>tm (x:=.non) (y:=.non) (cJ [d] (my (eF (x:=.lst [.non,.int 0,.bl true,.int (c2%10^30),.lst [.str x],.tup [.str x],.dct [x] [.str x],.tup [.str "yes"],.lst [],.tup [.str "word",.str "p",.tup []]]) (y:=.int (c2%10)) ⋯ ⋯ ed)) r2) ⋯ rfl) rfl
 have l1:t0.length+6<=44*16:=l1;have l2:bc t0+2<=32:=l2;refine bj (c2%6==4) ⋯ (λ_=>?_) λ_=>rest t0 (by omega) (by omega);show wSs _ (.cons _ _) _ _;exact cy (.str t1) (eF (x:=.tup [.str t1,s1]) (y:=.int 0) (cJ [.int (c2/6),.lst ([a,b,"by"].map .str)] ⋯ et) ⋯ (atI_nat (j:=0) rfl)) ⟨_,rfl,rest t1 l3 l4⟩
end P1
end
section
namespace P1
open PySem L2 PP
end P1
end
section
namespace PySem.W.Fast
open Lean in
local macro_rules|`(#print $s:str)=>do
 let mut a:Array Syntax:=#[]
 let mut v:=0
 let mut k:=0
 for c in s.getString.toList do
  let n:=c.toNat
  v:=v*62+if n<58 then n-48 else if n<91 then n-55 else n-61
  k:=k+1
  if k=11 then
   let i:=mkIdent (.mkSimple s!"tw{v}")
   a:=a.push (<-`(def $i :=0)).raw
   v:=0
   k:=0
 return mkNullNode a
#print "9fSQ6kjUtNZ46kJWTQtri59lL9sT80jYg7k2dRWBiTwWEjJo0VlipiLBlnqVEq0rUODA4zZ8LCIUxA5xoNvclvOX4HDYvczzJPZG3DW1A1l5CmAPAoifQFDVH4V965TuUvz3AiU3khf0x9u74lMsisMpDqLUY04kUSNH9EpvG0t3bmWC5chx7iCrc6iEMQBi9zcvTV13Qwk6Etg3hCeEOUa1sFBj2rmhEKOnmiU4Zjr9hE84S98E5AXUVrfTOGABhkFxoAFPAtjpxprjI4dD64OTBM2pkTFz28GCzpw6kLcmAwIVVGh3LNWSoDzNnlM1jjjaisO4NeDcA00asYZ3oHQki2kAq1Y5AXpSFHSz82jBMasvxjbjfrGXBdSz6ER1E9uvtlFo8ZuDG7I3pCKEvba78vxbLRoW70CXpyAzlaNTZ5HJb9yFtOWs14krmJWbnsLBhbwbpj7NjE3UsClP6H3TqJXRzUPNSreKKI3fjtKkUln4UcnA3DHCP31Evsp29MmJP0cLkjLlmE6UI8PaFGcBMLwHC7sJWQaBQfHR84ZgxkQHx7P98TSJUJ5WGQiI9waatvPFauY8lLxn1YKqG1CdEJc1M1sRlWbPbTV7EsSjWVglTtHBKoYX3XwYdy6uKPasqTQpB2yso3NWDrOD7lUi7BkRSx2498Htuqy1jD4KC7w3YUpaNDKi2LXBT7cAAuwQgt6gPeE2fUWIbUL6uJ7fKBMUn1LAMJg6VycjdQMQ5R0k2kGFRSq8ROc0lp8fM33ajKv3HB3TgCrCK8ItHnLj36rfiImWt5GFHlZMR9fS4wBZgQo6ckKue01UdqnRTyPCHlmRx6ozVKfKHuWfc4hFjN3vpPSrfkY0IAGwCtQnvhRg9MzLmkG5vm35aT2AlbWB8vHQxlVtbrwVR0axm1LMXQa07mngsmQet29G5lM9vBCZNTIQWJP2UTBVsKHZDH7SbrDD71xdOoL0fr75epULC6uyVn1GxSl39LL8EKMa0pH0gra39usXCOKDOnACegF0WWiDRtJnLc6yzrxfy6U2sovgnWdbHcW464pqorgK2dzyWWeq1cF34aoYCwEuaJcG87bLoH7OA3IgTUmCvvlHdfPqWav6PaA6GCar2kadg4SwUY6jdT4eHHJBYBvhmIK5jMY92ZIZcr57wawtzjF1L21aiPeuPTZU485sShKTDNe7ZP7JfGfiXyLNHUmQ0ye6qLwCleTfHXIR8WELGzUMEU8BgBp1fx4IG9AMBwzG34JfdHz7kwcEuMF7CnEOzoFcfbDKIyiyg8xooR12P7E6ye2M0K9xsSXEGQtbCJoxDVrsB1zFE5T2wggOmjC68tNwBIKoj5o5iOClzmHQHaOLSEv7dtwIajYeNcYbS73CSC2Hz3QcrGwdxcz1ivOYImLMB1BPeDRFPiZvqhxaa5EkVrUvO8a3TEH7WCAMxTXg3G8ponhdYfQHtrmMCFAxRp0kMgIDwZFTL7AQbrxZpyl8Blu62kdOvtV3rldrO3ZTEDBkhqDcOkuCb9PXb4OvJx95Ip7KuBYYdhGIWBMW30bjmkLtxb1PbG8EzKdlRPpmn3o2G92D7Y6NhnBJEYizadFpnZLHr7EduDI0tJHO9GTDwVXe3MwZLkeYXGW2mB7OjmTkdS9BSW1K5ndLD2Th8Baqjsg5EFKvOIytb3kHDUH331LuD5GEZZaLq2lZx8TN1ErUSqXq7fLN6nFdxTiIBzPiCDW2vSKWzPopqARfZ7snI32hE1s86aMFnsEE2QT5AefuhpV1fa7ZeEtmfTukz8kyXLIPatcqHTEOrsYR46m6eL1JNhq8Nk185Y989Ch8D40L1ielHs1A5uilkOjUwGW7941JN3hdbOJXlNhvBqsAwLKOtNzzv55o5lk0xiPa5muIsoGD3gb9xyLH9cX7Yo7zkAvA3TSwgn2kDBRfIntmrUm7rKkGWyQPJeEucKePo765WCf1rZxIDOkm2wZNqro3giLDR4XwVz7Pye4SggOscjpe88ls9EuCnJGmEisPnpQDyEY4aZn6NEZHhV8sagENWc4w1HQrtruFRNgw1qxUgK6mhhI4frrkDmOADu3FNmW1AVPXD8KUQHarkg8U6ca5v8aym34Hx6mIQo1DTy7C1P8IfNqy1CoPTBMrHXc98jY0gmymX0hKBESXqKa4tqHIglUEYxDf49NG2bMVGigR9j1WGuSjpNj0Gx74ooCWUlHORVUtk6iB39YVdwnC6IQ71D85PYIxF5nCu067D6TfV68YoFTHfsaAGKza7pj35vmnKwstBQtZPuY2Bm7FG2bIMe8hBOYY7NQXqEMWeUFkf5bs437ngocvIpGJ7KX6ImFkGG7M86Z6NuQO29IbQJxYy13q2Ofpiark2m9AU8RQjkAwqSAfOciE9E40pK1gDEk2C7mn2vW5hgl8GBj24qZkIBQ75b8zPJ1ASp0w29wLM3uStBPOJIZ1NFYs35d2yeHfzExwXzJsukZ2p350t5GCbnjZ4we51e86VVdpAZUKEv56NC1uma7gJXJxczJfgIAl3ikdWlUH1aTyjKv8tldHJBmXxWMzXr9zwELWz8ZA11dl0ZgbuVj9HNEb6qj9wyA5DRICPSxrBj5vByCLqfb4QGf8pmn2XAzAH0KmB0Amhb09baxIZlkOXYIkeJgw55WEO3gP3S0Tm3GVGKFIcnrLuYa22mUZuF88J6Kvm10e3hnZ0InnBXejXinmJ0Je2CUDvMK1XRDhORToZ0BnLxK2TSd4F7xaqWoVRwfZJs7kTc6Iozb4PyLgffyIfYHu1269N6KepKbNM9JmiB6X5fSDlI5xh27LCX1mxfPb1b0H4DaXlLBFjIM1t9hiVPJmIYY9xkCEjZUJpi3BlRD0qrBGHPaPZAyibExQkinFLJds7CXR3u3OqqwGiBZj26cBwiAABVRpcLbz235DANsbdkWtG43BxAjl0QOHUD9t2pXcBvFh1wVGU6ibR8zy3wqc2A3hE9K46Q3iQ5t8lB4oSTVJ9I1PW7H1ls5EKL6B2mRTFmqi7ww0zoB5Nmv8qPD5uOuH2rE62LBa8Mv4V3thh7NynXmBIkUirDWA0BDBcJ53P1ziXY9LfnP1amAON0dQK8M39LbB31KjUUpnaslK6onXCwaSl65Yr3hfyycnb6zDZnioI1vpJjxBtHceeEv8hadWwW9i23JiLRLDaNvdc79uvlGkuPkp8fpXpPQA7p29FuIH3zBbhdEGbMVq59KnCDKKCqaNvnPq8t5QtBIFWT0DBrf2mxBnc242WPP4YxJ9OClOL9NDp1rhBVOkRzcjTPRF2E9fNoD1eTHmcOC1EpiA75wssKiru4iH9DHLk4OO7mZ0egy2Tl1rHdDh6do7Oz5v9EYOxDoevCBA4YtGvGxZRzZDVEAIVPLVpf"
end PySem.W.Fast
open PySem PySem.W PyProof.Rows
set_option maxRecDepth 100000 in
set_option maxHeartbeats 0 in
theorem PySem.Challenge.cw_cutless_k52_statements_refused_holds : PySem.Challenge.rw_cutless_k52_statements_refused.Holds := by
 w_on
 refine PySem.W.holds_law ⇑0 λsaid=>?_
 k_head;(case hw=>w_witness2)
 k_fill
 refine PP.walk_run (l:=PySem.Challenge.rw_cutless_k52_statements_refused) (G:=P1.Gs) (Gd:=P1.Gd) (gl:=P1.gls) (gn:=P1.gns) (i:=27) (fd:=P1.d_law) (x:="_law_script") P1.main rfl rfl rfl rfl (λw h Y=>⟨PySem.W.kIn_of Y,λt ht=>by cases ht⟩) rfl λw mg h KX G=>?_
 have mz:mg "ValueError"=none:=by
  refine PySem.W.mg_none_of KX G ?_
  k_is
 have hz:=PP.Clss.get KX G (l:=["CutlessError","NoCut","NoName","NoProof","NoRow","NoText","NotCleared","NotPlain","TooGreat"]) (by
  iterate 9 (apply PP.Clss.cons;k_is;kernel_rfl)
  exact .nil)
 have hu:=PP.Ups.get KX G (l:=P1.ups) (ps:=P1.pcs) (by
  iterate 1 (apply PP.Ups.cons;k_is;kernel_rfl;(iterate 9 (apply PP.Us.cons;k_is;kernel_rfl));exact .nil)
  exact .nil)
 have hT:=λn(h:n∈(["NoText"]:List Str))=>hz n (um ((by decide:∀n∈(["NoText"]:List Str),List.elem n (["CutlessError","NoCut","NoName","NoProof","NoRow","NoText","NotCleared","NotPlain","TooGreat"]:List Str)=true) n h));apply PP.xd_mk (d:=P1.d_pieces) (x:="pieces") (rs:=P1.r_pieces) (cls:=["NoText"]) (cf:=PP.cfOf P1.Gd) (gn:=P1.gns) (tp:=P1.top) (i:=24) KX G;k_is;k_is;k_is;k_is;decide;rfl;exact hT;intro o3;apply PP.xd_mk (d:=P1.d_words_in) (x:="words_in") (rs:=P1.r_words_in) (cls:=["NoText"]) (cf:=PP.cfOf P1.Gd) (gn:=P1.gns) (tp:=P1.top) (i:=25) KX G;k_is;k_is;k_is;k_is;decide;rfl;exact hT;intro o4;apply PP.xd_mk (d:=P1.d_read_term) (x:="read_term") (rs:=P1.r_read_term) (cls:=["NoText"]) (cf:=PP.cfOf P1.Gd) (gn:=P1.gns) (tp:=P1.top) (i:=26) KX G;k_is;k_is;k_is;k_is;decide;rfl;exact hT;intro o5;apply PP.xd_mk (d:=P1.d_read_word) (x:="read_word") (rs:=P1.r_read_word) (cls:=["NoText"]) (cf:=PP.cfOf P1.Gd) (gn:=P1.gns) (tp:=P1.top) (i:=27) KX G;k_is;k_is;k_is;k_is;decide;rfl;exact hT;intro o6;apply PP.xd_mk (d:=P1.d_letters_within) (x:="letters_within") (rs:=P1.r_letters_within) (cls:=["NoText"]) (cf:=PP.cfOf P1.Gd) (gn:=P1.gns) (tp:=P1.top) (i:=28) KX G;k_is;k_is;k_is;k_is;decide;rfl;exact hT;intro o7;apply PP.xd_mk (d:=P1.d_read_first) (x:="read_first") (rs:=P1.r_read_first) (cls:=["NoText"]) (cf:=PP.cfOf P1.Gd) (gn:=P1.gns) (tp:=P1.top) (i:=29) KX G;k_is;k_is;k_is;k_is;decide;rfl;exact hT;intro o8;apply PP.xd_mk (d:=P1.d_read_bounded) (x:="read_bounded") (rs:=P1.r_read_bounded) (cls:=["NoText"]) (cf:=PP.cfOf P1.Gd) (gn:=P1.gns) (tp:=P1.top) (i:=31) KX G;k_is;k_is;k_is;k_is;decide;rfl;exact hT;intro o10;apply PP.xd_mk (d:=P1.d_read_statement) (x:="read_statement") (rs:=P1.r_read_statement) (cls:=["NoText"]) (cf:=PP.cfOf P1.Gd) (gn:=P1.gns) (tp:=P1.top) (i:=32) KX G;k_is;k_is;k_is;k_is;decide;rfl;exact hT;intro o11;apply PP.kd_mk (d:=P1.d__law_read) (x:="_law_read") (rs:=P1.kr__law_read) (ij:=1) (jj:=3) (post:=P1.kp__law_read) (ks:=P1.kk__law_read) (ls:=P1.kl__law_read) (ups:=P1.ups) (ps:=P1.pcs) (cf:=PP.cfOf P1.Gd) (gn:=P1.gns) (tp:=P1.top) (i:=47) KX G;k_is;k_is;k_is;k_is;decide;rfl;exact mz;exact λn h=>hz n (um ((by decide:∀n∈P1.pcs,List.elem n (["CutlessError","NoCut","NoName","NoProof","NoRow","NoText","NotCleared","NotPlain","TooGreat"]:List Str)=true) n h));exact hu;intro o25;refine⟨PP.top_mk (tp:=P1.top) (is:=P1.pls) KX G ?H (PP.sub_app (b:=[P1.x_pieces,P1.x_words_in,P1.x_read_term,P1.x_read_word,P1.x_letters_within,P1.x_read_first,P1.x_read_bounded,P1.x_read_statement])) ?W ⇑0 ?B ?GL (?GD) (λf h=>by cases h),λt ht=>by cases ht⟩
 case W =>
  exact .cons o3 rfl rfl (.cons o4 rfl rfl (.cons o5 rfl rfl (.cons o6 rfl rfl (.cons o7 rfl rfl (.cons o8 rfl rfl (.cons o10 rfl rfl (.cons o11 rfl rfl (.nil))))))))
 case H =>
  iterate 3 (apply PP.Hds.cons;k_is;k_is;k_is;k_is;decide)
  refine .own o3.dn ?_;refine .own o4.dn ?_;refine .own o5.dn ?_;refine .own o6.dn ?_;refine .own o7.dn ?_;refine .own o8.dn ?_
  iterate 1 (apply PP.Hds.cons;k_is;k_is;k_is;k_is;decide)
  refine .own o10.dn ?_;refine .own o11.dn ?_
  iterate 13 (apply PP.Hds.cons;k_is;k_is;k_is;k_is;decide)
  refine .own o25 ?_
  iterate 2 (apply PP.Hds.cons;k_is;k_is;k_is;k_is;decide)
  exact .nil
 case B=>kernel_rfl
 case GL=>repeat' first|exact .nil|exact .str|exact .int|exact Nat.le_of_ble_eq_true rfl|(apply PP.InK.tup;k_is)|(apply PP.Gls.cons;k_is)|apply PP.InKs.cons
 case GD =>
  intro n l h;rw[show(PP.Tbs.gds:List (Str×List (Str×Int)))=(("WITHIN":Str),([("yes",0),("no",0),("not",1),("and",2),("or",2),("if",2)]:List (Str×Int)))::_ from rfl,br]at h;split at h
  .rename_i hn;cases h;rw[eq_of_beq hn];apply PP.gd_mk KX G;k_is;kernel_rfl;decide;kernel_rfl
  cases h
end
