import PyProof.Rows.All
import Wide.All
import OpenK.AllK
import Wide.FinOn
import Lean
import PyProof.EqAt
import PyProof.EqKinds
import PyProof.TupleCall
import KE.KSortAsk
import KE.KIntText
import PyProof.MinMaxWalk
import KE.KMinBuiltin
import PyProof.Rows.SortRuns
import PyProof.Rows.SortRunsK
import PyProof.MeetsStr2
import KE.KTabLook
import PySem.Challenge.RW_cutless_k14_said
local macro_rules|`(∅)=>`(by lia)
local macro_rules|`(⋯)=>`(by kernel_rfl)
local macro_rules|`(⇑$_)=>`(by decide)
local macro_rules|`(↥$_)=>`(by simp)
local macro_rules|`(command|def $n:declId $s:optDeclSig $v:declVal)=>`(command|noncomputable def $n:declId $s:optDeclSig $v:declVal)
local macro_rules|`(tactic|decide)=>`(tactic|decide +kernel)
open And renaming intro->aw
open Array renaming getElem?_toList->aP,length_toList->bt,mem_of_getElem?->bw,toList_append->bD,size_push->gf,size_append->gE,toList_setIfInBounds->iG,toList_push->jc,toList_reverse->kY,toList_eraseIdxIfInBounds->oC,perm_iff_toList_perm->qS,toList_extract->xF,mem_toList_iff->xG,toList_inj->EV,all_toList->EW
open Array.Perm renaming refl->fO
open Bool renaming and_eq_true->aa,false_ne_true->au,false_eq_true->bW,and_self->cC,or_eq_true->cE,not_eq_true'->gF,eq_iff_iff->iw,or_eq_false_iff->ly,and_true->mZ,true_and->uj,true_or->vP,or_eq_true_iff->AN,eq_false_iff->EU
open False renaming elim->cz
open ForInStep renaming yield->jo
open Iff renaming rfl->cY
open Int renaming emod_lt_of_pos->cI,emod_nonneg->dF,toNat_natCast->Fe
open List renaming length_append->ah,mem_cons_of_mem->aj,mem_cons_self->ak,length_cons->ay,getElem?_eq_some_iff->aA,length_map->aB,mem_cons->aC,getElem?_eq_getElem->aE,length_nil->aF,size_toArray->aI,mem_append->aJ,map_cons->aN,append_assoc->aO,getElem?_append_left->aR,replicate->aS,not_mem_nil->aU,mem_append_right->aW,mem_of_mem_take->ba,mem_of_mem_drop->bg,getElem?_append_right->bh,length_take->br,mem_of_getElem?->bu,take_append_drop->bx,append_nil->bA,mem_singleton->bC,map_append->bF,pairwise_append->bJ,pairwise_cons->bK,getElem?_set_ne->bO,zip_cons_cons->bS,getElem?_map->bV,length_set->cj,lookup_cons->cm,length_singleton->cn,mem_map->cq,nodup_cons->cD,length_drop->cJ,forall_mem_cons->cK,getElem?_set_self->cS,filterMap_cons->cT,drop_eq_getElem_cons->cV,all_eq_true->cX,mem_append_left->cZ,getElem?_replicate->dB,range->dJ,getD_eq_getElem?_getD->dK,mem_iff_getElem?->dO,length_replicate->dP,getElem?_eq_none->dQ,flatMap_cons->dZ,getElem?_take_of_lt->eC,take_of_length_le->eW,getElem?_drop->eX,of_mem_zip->fq,drop_drop->fG,mem_reverse->fQ,find?_cons->gi,length->gB,pairwise_reverse->gZ,any_cons->hV,all_cons->hZ,nil_append->iu,zip_nil_right->iV,pairwise_iff_getElem->jb,sum_cons->jn,pairwise_singleton->jO,length_eq_zero_iff->jP,getElem_mem->jQ,cons_append->jR,eq_nil_or_concat->kQ,concat_eq_append->kR,mem_iff_getElem->lx,eraseDups_cons->lZ,getElem?_take->ng,toArray->om,reverse_perm->oo,nodup_append->ot,map_nil->ox,length_range->oy,flatten_cons->oz,zipIdx_cons->oZ,mem_flatten->pb,forIn_cons->qB,foldl_cons->qC,extract_eq_drop_take->uf,dropLast->uh,getLast?_singleton->vM,all_nil->vO,dropLast_eq_take->xD,mem_of_getLast?->zi,getLast?_append->zj,dropLast_concat->zk,take_succ_cons->AJ,replicate_succ->AK,filter_eq_self->AL,drop_succ_cons->AM,mem_filterMap->AR,filterMap_nil->AS,take_sublist->EM,reverse_cons->EN,pairwise_map->EO,getElem_take->ER,drop_sublist->ES,reverse_nil->EX,mem_flatMap->EY,getElem_inj->EZ,filter_cons->Fb,drop_length->Fc,zipIdx_nil->Hz,take_left'->HA,mem_filter->HB,length_zip->HC
open MonadState renaming get->jN
open Nat renaming le_refl->az,lt_of_lt_of_le->bj,le_trans->bq,ne_of_lt->bH,zero_le->bP,pow_succ->cy,lt_irrefl->cR,lt_of_le_of_lt->dN,le_succ->eV,ne_of_gt->fh,pow_le_pow_right->fN,add_le_add_left->fZ,lt_of_le_of_ne->gA,zero_add->iF,lt_succ_of_lt->jl,le_succ_of_le->jm,le_max_right->jW,le_of_lt->kz,le_max_left->kP,pow_pos->lS,pos_of_ne_zero->nW,add_zero->oJ,min_le_right->qz,min_eq_left->qP,min_self->xC,log2_lt->AH,add_le_add_right->AI,lt_or_eq_of_le->EK,add_sub_cancel->EL,le_add_right->Hy,not_lt_zero->Ie,min_le_left->Ih
open Nat.succ renaming inj->lV
open Option renaming bind_eq_some_iff->ab,bind_eq_bind->ae,map_eq_some_iff->aQ,bind_some->bB,map_some->dn,isNone_iff_eq_none->fM,isSome_iff_exists->ja,getD_some->AO,getD_none->AQ
open Option.some renaming inj->bR
open PyProof.Rows renaming Keyed->ax,wpS_bind->aD,wpS_pure->aV,SortSt->aZ,SortKind->cH,wpS_forRange->cL,wpS_modify->dh,wpS_mono->fC,callWith_type1->gS,wpS_get->jj,listUpdate_at->kx,reverseSlice'_eq->kU,slot_tuple_getitem->kW,AllBare->lT,seqEpoch_at->nV,assignInOrder_cons->qy,wpS_lift->qN,subscriptTail_builtinR->EE,IntsAre->ET,bubble_perm->Hx,IsTup->HD,getElem?_mirror_all->Ic,assignInOrder_nil->Lh
open PyProof.Rows.IsTup renaming new->ui
open PyProof.Rows.SortSt renaming mk'->gR
open PySem renaming Value->af,wpAny_bind->ag,Shared->ai,Addr->aq,Expr->aG,wpAny_pure->aH,Around->bo,Program->bp,World->bQ,Heap->cg,wpAny_field->cQ,wpAny_newObj_type->cU,Stmt->dE,wpAny_holding->dR,Scope->eK,FuncData->eM,wpAny_seqItems->fe,wpAny_call_entry->ff,wpAny_callSpecial?_slot->fg,wpAny_mono->fx,Comprehension->fI,wpAny_rule->fX,sizeLine_eq->fY,wpAny_standAt->gD,wpAny_setField_rec->gK,wpAny_Call_Name_kw->gL,wpAny_truthy_bool->hU,wpAny_passesOwn->iZ,Keyword->jk,NameKind->jK,codeAny_mono->lQ,wpAny_loadPart'->lU,wpAny_updateSeq_pair->nS,wpAny_newFunctionEnv->nU,Model->nX,Builtin->oB,Arguments->oE,wpAny_onRaise->oX,wpAny_newList->oY,IsPart->qA,noFill_tuple_add->ue,IsPair->ug,wpAny_newTuple->xx,typeIs_str->xy,Operator->xB,wpAny_comprehension_free->AE,wpAny_attempt->AF,seq_tuple_add->AG,IsZip->AU,seqIndex_neg->EF,concat_meets->EG,codeAny_compStart_list->EH,Result->EI,wpAny_letGo->Hv,seqIndex_of->Hw,wpAny_pyIter_tuple->Lb,wpAny_call->Lc,wpAny_Name->Ld,wpAny_pyIter_list->Le,wpAny_assign_Name->Lf,wpAny_Return_some->Lg
open PySem.Around renaming frames_deeper->vQ
open PySem.Builtin.Int renaming intBits->rQ
open PySem.Builtin.List renaming listTooLong->oA
open PySem.Builtin.Slice renaming slicePlaces->ft,sliceAdjust->ic,sliceApplied->mW
open PySem.Builtin.SmallTypes renaming ownedTupleIsFree->cW,ownedTupleHandOut->iW
open PySem.Builtin.Str renaming occurrences->ph
open PySem.Builtin.Tuple renaming tupleExact->fy
open PySem.Calls renaming Name_function_global->qR,call_function_entry->rP,callWith_builtin->vN
open PySem.Heap renaming get?_push_of_some->ao,lt_size->aM,get?_push_size->bE,get?_update_other->dH,size_push->fH,SameBut->jX,get?_update_self->xE,get?_none_of_le->zo,ExtBut->zq,size_update->Ff
open PySem.Heap.SameBut renaming update->qQ
open PySem.NameKind renaming free->bX,cell->kX
open PySem.Obj renaming mapSeq->bL,data_mapFields->EJ
open PySem.SeqAt.EqAt renaming same->Fg
open PySem.Str renaming ofString->ky
open PySem.Unicode renaming isDigit->di
open PySem.Value renaming none->bT,ref->iD,bool->qO,notImplemented->xA
open PySem.W.Looks renaming of_pure->lW
open True renaming intro->iU
set_option Elab.async false
set_option linter.all false
set_option genInjectivity false
set_option genSizeOf false
set_option maxRecDepth 100000
set_option maxHeartbeats 4000000
section
-- CHANGE: your row's module here,as the last of these rows
namespace L2
open PySem PySem.Spec PyProof.Rows
abbrev Key:=Sum Int Str
end L2
namespace L2
open PySem PySem.Spec PyProof.Rows
set_option genInjectivity true in
inductive V where
 | non | bl (b:Bool) | int (i:Int) | str (x:Str) | ref (a:aq) | ty (n:String)
 deriving DecidableEq
def RelV:V->af->Prop
 | .non,u=>u = bT
 | .bl b,u=>u = qO b
 | .int i,u=>∃ t,u = Value.int i t
 | .str x,u=>∃ t,u = Value.str x t
 | .ref a,u=>u = iD a
 | .ty n,u=>u = Value.type n
abbrev Vals:List V->List af->Prop:=Paired RelV
def Vals.length {xs:List V} {us:List af} (r:Vals xs us):xs.length = us.length:=Paired.length r
def Vals.get:∀ {xs:List V} {us:List af} {i:Nat} {x:V},Vals xs us->xs[i]? = some x->∃ u,us[i]? = some u/\RelV x u
 | _,_,_,_,.nil,e=>by simp at e
 | _,_,0,_,.cons r _,e=>by simp at e;subst e;exact ⟨_,rfl,r⟩
 | _,_,i+1,x,.cons _ t,e=>by
   obtain ⟨u,h1,h2⟩:=Vals.get (i:=i) (x:=x) t (by simpa using e);exact ⟨u,by simpa using h1,h2⟩
def Vals.set {x:V} {u:af} (r:RelV x u):∀ {xs:List V} {us:List af} (i:Nat),Vals xs us->Vals (xs.set i x) (us.set i u)
 | _,_,_,.nil=>.nil
 | _,_,0,.cons _ t=>.cons r t
 | _,_,i+1,.cons q t=>.cons q (Vals.set r i t)
def Vals.append:∀ {xs ys:List V} {us ws:List af},Vals xs us->Vals ys ws->Vals (xs++ys) (us++ws)
 | _,_,_,_,.nil,s=>s
 | _,_,_,_,.cons r t,s=>.cons r (Vals.append t s)
def Vals.take:∀ {xs:List V} {us:List af} (n:Nat),Vals xs us->Vals (xs.take n) (us.take n)
 | _,_,0,_=>.nil
 | _,_,_+1,.nil=>.nil
 | _,_,n+1,.cons r t=>.cons r (Vals.take n t)
def Vals.drop:∀ {xs:List V} {us:List af} (n:Nat),Vals xs us->Vals (xs.drop n) (us.drop n)
 | _,_,0,r=>r
 | _,_,_+1,.nil=>.nil
 | _,_,n+1,.cons _ t=>Vals.drop n t
def gC:Option V->Option af->Prop
 | some v,some u=>RelV v u
 | none,none=>True
 | _,_=>False
def KV {κ:Type}:List (κ × V)->List (κ × af)->Prop:=Paired λ(p:κ × V) (q:κ × af)=>p.1 = q.1/\RelV p.2 q.2
def kV:Key->V
 | .inl i=>.int i
 | .inr x=>.str x
inductive HO where
 | lst (xs:List V)
 | tup (xs:List V)
 | own (x:aq)
 | frz (o:Obj) (u:HO)
 | tbl (ps:Array af)
 | ext (φ:cg->Prop)
abbrev Hp:=aq->Option HO
def upd (H:Hp) (a:aq) (o:HO):Hp:=λb=>if b = a then some o else H b
def bU {H:Hp} {a:aq} {o:HO}:upd H a o a = some o:=by unfold upd;rw [if_pos rfl]
def bI {H:Hp} {a b:aq} {o:HO} (h:b≠a):upd H a o b = H b:=by unfold upd;rw [if_neg h]
def gI {H:Hp} {a b:aq} {o:HO} (h:H a = some o) (h':H b = none):a≠b:=by
 intro e;subst e;rw [h] at h';cases h'
section
variable (P:bp) (w:bQ)
def fF (P:bp) (w:bQ) (H:Hp) (h:cg) (a:aq):HO->Prop
 | .lst xs=>xs.length<=sizeLine/\∃ (its:List af) (n:Nat),Vals xs its/\h.get? a = some { cls:=.type "list",data:=.seq its.toArray n }
 | .tup xs=>xs.length<=sizeLine/\∃ its:List af,Vals xs its/\HD h a its.toArray
 | .own _=>∃ o,h.get? a = some o
 | .frz o u=>h.get? a = some o/\fF P w H h a u
 | .tbl ps=>h.get? a = some { cls:=.none,data:=.fields ps }
 | .ext φ=>φ h/\(∃ o,h.get? a = some o)/\∀ h1 h2:cg,φ h1->(∀ o,h1.get? a = some o->h2.get? a = some o)->φ h2
def HOk (H:Hp) (h:cg):Prop:=∀ a o,H a = some o->fF P w H h a o
end
section
variable {P:bp} {w:bQ} {H H':Hp} {h h':cg} {a:aq} {o:HO}
def fF.lt (x:fF P w H h a o):a < h.objs.size:=by
 cases o with
 | lst xs=>obtain ⟨_,_,_,_,e⟩:=x;exact aM e
 | tup xs=>obtain ⟨_,_,_,p⟩:=x;exact p.lt
 | own y=>obtain ⟨_,e⟩:=x;exact aM e
 | frz ob u=>obtain ⟨e,_⟩:=x;exact aM e
 | tbl ps=>exact aM (show h.get? a = some _ from x)
 | ext φ=>obtain ⟨_,⟨_,e⟩,_⟩:=x;exact aM e
def Paired.mapP {α β:Type} {F G:α->β->Prop}:∀ {l₁:List α} {l₂:List β},Paired F l₁ l₂->(∀ a b,F a b->G a b)->Paired G l₁ l₂
 | _,_,.nil,_=>.nil
 | _,_,.cons r t,f=>.cons (f _ _ r) (Paired.mapP t f)
def fF.stay (x:fF P w H h a o) (k:∀ b u,(b = a\/H b = some (.own a))->h.get? b = some u->h'.get? b = some u)
 (ho:∀ b,H b = some (.own a)->H' b = some (.own a)) (ht:∀ b xs,H b = some (.tup xs)->H' b = some (.tup xs)):fF P w H' h' a o:=by
 induction o with
 | lst xs=>obtain ⟨z,its,n,r,e⟩:=x;exact ⟨z,its,n,r,k _ _ (.inl rfl) e⟩
 | tup xs=>obtain ⟨z,its,r,ob,e,c⟩:=x;exact ⟨z,its,r,ob,k _ _ (.inl rfl) e,c⟩
 | own y=>obtain ⟨ob,e⟩:=x;exact ⟨ob,k _ _ (.inl rfl) e⟩
 | frz ob u ih=>obtain ⟨e,q⟩:=x;exact ⟨k _ _ (.inl rfl) e,ih q⟩
 | tbl ps =>
   have e:h.get? a = some { cls:=.none,data:=.fields ps }:=x;show h'.get? a = some { cls:=.none,data:=.fields ps }
   exact k a _ (.inl rfl) e
 | ext φ=>obtain ⟨p,⟨o,e⟩,st⟩:=x;exact ⟨st _ _ p λo q=>k _ _ (.inl rfl) q,⟨o,k _ _ (.inl rfl) e⟩,st⟩
def HOk.lt (x:HOk P w H h) (e:H a = some o):a < h.objs.size:=(x a o e).lt
def HOk.fresh (x:HOk P w H h) (e:h.objs.size<=a):H a = none:=by
 cases q:H a with
 | none=>rfl
 | some u=>exact absurd (bj (x.lt q) e) (cR _)
def HOk.kept (x:HOk P w H h) (k:∀ b u,h.get? b = some u->h'.get? b = some u):HOk P w H h':=λa o e =>
 (x a o e).stay (λb u _ q=>k b u q) (λ_ q=>q) λ_ _ q=>q
def HOk.laid (x:HOk P w H h) (k:∀ b u,h.get? b = some u->h'.get? b = some u) (hp:h.objs.size<=a) (new:fF P w (upd H a o) h' a o):HOk P w (upd H a o) h':=λb u e=>by
 have hn:=x.fresh hp;by_cases hb:b = a
 . subst hb;rw [bU] at e;cases e;exact new
 . rw [bI hb] at e;exact (x b u e).stay (λc v _ q=>k c v q) (λc q=>by rw [bI (gI q hn)];exact q) λc xs q=>by rw [bI (gI q hn)];exact q
end
def Rd (H:Hp) (a:aq) (u:HO):Prop:=H a = some u\/∃ o,H a = some (.frz o u)
def Rd.ok {P:bp} {w:bQ} {H:Hp} {h:cg} {a:aq} {u:HO} (r:Rd H a u) (x:HOk P w H h):fF P w H h a u:=by
 rcases r with r | ⟨o,r⟩
 . exact x a u r
 . obtain ⟨_,q⟩:=x a _ r;exact q
def Mut:Option HO->Prop
 | some (.lst _)=>True
 | some (.ext _)=>True
 | _=>False
section
variable {P:bp} {w:bQ} {H:Hp} {h h':cg} {x e:aq} {o':HO}
def HOk.write (ok:HOk P w H h) (mu:Mut (H x)) (he:e = x\/H e = some (.own x)) (k:∀ b u,b≠e->h.get? b = some u->h'.get? b = some u) (heo:∃ u,h'.get? e = some u)
 (new:fF P w (upd H x o') h' x o'):HOk P w (upd H x o') h':=λb u q=>by
 have nown:∀ c y,H c = some (.own y)->c≠x:=λc y r z=>by subst z;rw [r] at mu;exact mu
 have ntup:∀ c xs,H c = some (.tup xs)->c≠x:=λc xs r z=>by subst z;rw [r] at mu;exact mu
 by_cases hb:b = x
 . subst hb;rw [bU] at q;cases q;exact new
 . rw [bI hb] at q;by_cases hbe:b = e
   . have q':H b = some (.own x):=by
      rcases he with z | z
      . exact absurd (hbe.trans z) hb
      . rw [hbe];exact z
     rw [q] at q';cases q';obtain ⟨v,hv⟩:=heo;exact ⟨v,by rw [hbe];exact hv⟩
   . refine (ok b u q).stay (λc v hc r=>k c v ?_ r) (λc r=>by rw [bI (nown c b r)];exact r) λc xs r=>by rw [bI (ntup c xs r)];exact r
     rcases hc with rfl | hc
     . exact hbe
     . rintro rfl;rcases he with z | z
       . exact nown c b hc z
       . rw [hc] at z;cases z;exact hb rfl
end
structure Un (fs ex:List aq) (H H':Hp) (h h':cg):Prop where
 keep:∀ b o,h.get? b = some o->H b = none->b∉fs->b∉ex->h'.get? b = some o
 slot:∀ b o,h.get? b = some o->H b = none->b∈fs->b∉ex->∃ sl,h'.get? b = some { o with slots:=sl }
 free:∀ b o,h.get? b = some o->H b = none->b∉ex->H' b = none
 there:∀ b o,h.get? b = some o->b∉ex->∃ o',h'.get? b = some o'
 tups:∀ b xs,H b = some (.tup xs)->H' b = some (.tup xs)
 frzs:∀ b o u,H b = some (.frz o u)->H' b = some (.frz o u)
 tbls:∀ b ps,H b = some (.tbl ps)->∃ more,H' b = some (.tbl (ps++more))
section
variable {fs fs' ex ex':List aq} {H H1 H2:Hp} {h h1 h2 h':cg} {a x e:aq} {o:HO}
def Un.any (u:Un fs ex H H1 h h1) (q:h.get? b = some ob) (n:H b = none) (hx:b∉ex):∃ sl,h1.get? b = some { ob with slots:=sl }:=by
 by_cases hb:b∈fs
 . exact u.slot b ob q n hb hx
 . exact ⟨ob.slots,u.keep b ob q n hb hx⟩
def Un.kept (k:∀ b u,h.get? b = some u->h'.get? b = some u):Un fs ex H H h h' :=
 ⟨λb ob q _ _ _=>k b ob q,λb ob q _ _ _=>⟨ob.slots,k b ob q⟩,λ_ _ _ n _=>n,λb ob q _=>⟨ob,k b ob q⟩,λ_ _ q=>q,λ_ _ _ q=>q,λ_ ps q=>⟨#[],by rw [q];simp⟩⟩
def Un.refl:Un fs ex H H h h:=Un.kept λ_ _ q=>q
def Un.laid (k:∀ b u,h.get? b = some u->h'.get? b = some u) (hp:h.objs.size<=a) (hn:H a = none):Un fs ex H (upd H a o) h h' where
 keep:=λb u q _ _ _=>k b u q
 slot:=λb u q _ _ _=>⟨u.slots,k b u q⟩
 free:=λb u q n _=>by rw [bI (bH (bj (aM q) hp))];exact n
 there:=λb u q _=>⟨u,k b u q⟩
 tups:=λb xs q=>by rw [bI (gI q hn)];exact q
 frzs:=λb u xs q=>by rw [bI (gI q hn)];exact q
 tbls:=λb ps q=>⟨#[],by rw [bI (gI q hn),q];simp⟩
def Un.write (mu:Mut (H x)) (he:e = x\/H e = some (.own x)) (k:∀ b u,b≠e->h.get? b = some u->h'.get? b = some u) (heo:∃ u,h'.get? e = some u):Un fs ex H (upd H x o) h h':=by
 have hx:∀ b,H b = none->b≠x:=λb n z=>by subst z;rw [n] at mu;exact mu
 have hb:∀ b,H b = none->b≠e:=λb n z=>by
  subst z;rcases he with r | r
  . exact hx b n r
  . rw [n] at r;cases r
 have hm:∀ b u,H b = some u->¬ Mut (some u)->b≠x:=λb u q nm z=>by subst z;rw [q] at mu;exact nm mu
 refine ⟨λb u q n _ _=>k b u (hb b n) q,λb u q n _ _=>⟨u.slots,k b u (hb b n) q⟩,λb u q n _=>by rw [bI (hx b n)];exact n,λb u q _=>?_,
  λb xs q=>by rw [bI (hm b _ q λz=>z)];exact q,λb u xs q=>by rw [bI (hm b _ q λz=>z)];exact q,λb ps q=>⟨#[],by rw [bI (hm b _ q λz=>z),q];simp⟩⟩
 by_cases hbe:b = e
 . subst hbe;exact heo
 . exact ⟨u,k b u hbe q⟩
end
def trk (h:cg) (H:Hp):List aq:=(dJ h.objs.size).filter λa=>(H a).isSome
def qI (h:cg) (H:Hp):cg:=PySem.W.hideAll h (trk h H)
def As (h:cg) (H:Hp):(qI h H).objs.size = h.objs.size:=PySem.W.hideAll_size _ _
def DO (e:h.get? b = some o) (n:H b = none):(qI h H).get? b = some o :=
 PySem.W.hideAll_get _ e λhm=>by
  have q:(H b).isSome = true:=(HB.mp hm).2;rw [n] at q;simp at q
def GO (e:(qI h H).get? b = some o):h.get? b = some o/\H b = none:=by
 have e':h.get? b = some o:=PySem.W.of_hideAll (trk h H) e;refine ⟨e',?_⟩
 cases q:H b with
 | none=>rfl
 | some x =>
   have hm:b∈trk h H:=HB.mpr ⟨List.mem_range.mpr (aM e'),by simp [q]⟩;have z:(qI h H).get? b = none:=PySem.W.hideAll_none (trk h H) hm;rw [z] at e;cases e
end L2
namespace L2
open PySem PySem.Spec PyProof.Rows
structure Mod (K:PySem.W.Frag) (mg:Str->Option af) (base:cg):Prop where
 kin:K.In base
 glob:base.Ns mainGlobals mg
 blt:∃ mb,base.Ns builtinsNs mb/\∀ x:Str,x≠"__name__"->mb x = bootBuiltins x
 nolimit:base.NoLimit
structure Cx where
 prog:bp
 w:bQ
 K:PySem.W.Frag
 mg:Str->Option af
 base:cg
 A:bo
 N:List Str
 s₀:ai
 H₀:Hp
 env:Env
 outer:List Env
 stack:List Env
 ex:List aq
 fn:Str->Bool
 calm:Bool
 pn:List (aq × Obj)
 xe:af->ai->Prop
def frs (l:List Env):List aq:=l.filterMap (·.frame)
noncomputable abbrev Cx.fs (X:Cx):List aq:=frs X.outer
def Vis (sc:eK) (x:Str):Prop:=sc.names.lookup x = some .local\/sc.names.lookup x = some .cell\/sc.names.lookup x = some .free
def Loc (sc:eK) (x:Str):Prop:=sc.names.lookup x = some .local\/sc.names.lookup x = some .cell
def Look (env:Env) (h:cg) (m:Str->Option af) (x:Str) (u:af):Prop :=
 (env.kindOf x = some .local/\m x = some u)\/((env.kindOf x = some .cell\/env.kindOf x = some .free)/\∃ c,env.cells.lookup x = some c/\h.IsCell c (some u))
structure Cx.Ok (X:Cx):Prop where
 mod:Mod X.K X.mg X.base
 kind:X.env.scope.kind = .function
 glob:X.env.globals = mainGlobals
 blt:X.env.builtins = builtinsNs
 above:X.s₀.heap.objs.size<=X.env.locals
 inj:∀ x y c,X.env.cells.lookup x = some c->X.env.cells.lookup y = some c->x = y
 has:∀ x,(X.env.kindOf x = some .cell\/X.env.kindOf x = some .free)->∃ c,X.env.cells.lookup x = some c
 cab:∀ x c,X.fn x = true->X.env.cells.lookup x = some c->X.s₀.heap.objs.size<=c
 hd:X.calm = true->X.A.handled = none
 frames:X.A.frames = some X.stack
 stk:X.stack = X.outer\/(X.stack = X.env::X.outer/\X.env.frame = some X.env.locals)
 exf:∀ b∈X.ex,b≠X.env.locals/\∀ x c,X.env.cells.lookup x = some c->c≠b
 bs:∀ b o,X.base.get? b = some o->X.s₀.heap.get? b = some o/\X.H₀ b = none
 bsz:X.base.objs.size<=X.s₀.heap.objs.size
 noex:∀ b o,X.base.get? b = some o->b∉X.ex
 exfs:∀ b∈X.ex,b∉X.fs
 funs:X.s₀.heap.FunFrames X.base X.outer
 frf:∀ b∈X.fs,X.H₀ b = none
structure Inv (X:Cx) (pins:List (aq × Obj)) (σ:List (Option V)) (H:Hp) (s:ai):Prop where
 ok:X.Ok
 os:s.os = X.s₀.os
 bare:lT s.gens
 base:Un X.fs X.ex X.H₀ H X.s₀.heap s.heap
 loc:∃ m,s.heap.Ns X.env.locals m/\∀ (i:Nat) (x:Str) (v:V),X.N[i]? = some x->σ[i]? = some (some v)->Vis X.env.scope x->∃ u,RelV v u/\Look X.env s.heap m x u
 cell:∀ x c,X.env.cells.lookup x = some c->∃ v,s.heap.IsCell c v
 free:H X.env.locals = none
 freeC:∀ x c,X.env.cells.lookup x = some c->H c = none
 pin:∀ p∈X.pn++pins,s.heap.get? p.1 = some p.2/\H p.1 = none/\p.1≠X.env.locals/\p.1∉X.fs/\∀ v,p.2.data≠.cell v
 hok:HOk X.prog X.w H s.heap
 len:σ.length = X.N.length
section
variable {X:Cx} {pins:List (aq × Obj)} {σ:List (Option V)} {H H':Hp} {s:ai} {h':cg}
def Cx.Ok.nofr (ok:X.Ok) (e:X.base.get? b = some o):b∉X.fs:=λhb=>by
 have:=(ok.funs.mem hb).1;rw [e] at this;cases this
def Inv.bs (I:Inv X pins σ H s):∀ b o,X.base.get? b = some o->s.heap.get? b = some o/\H b = none:=λb o e =>
 ⟨I.base.keep b o (I.ok.bs b o e).1 (I.ok.bs b o e).2 (I.ok.nofr e) (I.ok.noex b o e),I.base.free b o (I.ok.bs b o e).1 (I.ok.bs b o e).2 (I.ok.noex b o e)⟩
def Inv.bk (I:Inv X pins σ H s):∀ b o,X.base.get? b = some o->s.heap.get? b = some o:=λb o e=>(I.bs b o e).1
def Inv.mod (I:Inv X pins σ H s):Mod X.K X.mg X.base:=I.ok.mod
def Inv.kIn (I:Inv X pins σ H s):X.K.In s.heap:=I.ok.mod.kin.keeps I.bk
def Inv.lt (I:Inv X pins σ H s):X.env.locals < s.heap.objs.size:=let ⟨_,hn,_⟩:=I.loc;hn.lt
def Inv.sz (I:Inv X pins σ H s):X.s₀.heap.objs.size<=s.heap.objs.size:=bq I.ok.above (kz I.lt)
def Inv.nofs (I:Inv X pins σ H s) (h:s.heap.objs.size<=a):a∉X.fs:=λhb=>by
 obtain ⟨_,o,ho,_⟩:=I.ok.funs.mem hb;exact absurd (bj (aM ho) (bq I.sz h)) (cR _)
def Inv.cne (I:Inv X pins σ H s):∀ x c,X.env.cells.lookup x = some c->c≠X.env.locals:=λx c e z=>by
 obtain ⟨v,o,ho,hd⟩:=I.cell x c e;obtain ⟨m,⟨o',es,ep,ho',hd',_⟩,_⟩:=I.loc;rw [z,ho'] at ho;cases ho;rw [hd'] at hd;cases hd
def Inv.funs (I:Inv X pins σ H s):s.heap.FunFrames X.base X.outer:=by
 have all:∀ (l:List Env),(∀ b∈frs l,b∈X.fs)->X.s₀.heap.FunFrames X.base l->s.heap.FunFrames X.base l:=by
  intro l
  induction l with
  | nil=>intro _ _;trivial
  | cons env r ih =>
    intro hs hl;obtain ⟨hk,⟨L,o,hf,hn,ho,hd⟩,hr⟩:=hl;have hL:L∈X.fs:=hs L (by unfold frs;rw [cT,hf];exact ak);obtain ⟨sl,e⟩:=I.base.slot L o ho (I.ok.frf L hL) hL λz=>I.ok.exfs L z hL;exact ⟨hk,⟨L,_,hf,hn,e,hd⟩,ih (λb hb=>hs b (by unfold frs;rw [cT,hf];exact aj _ hb)) hr⟩
 exact all X.outer (λ_ hb=>hb) I.ok.funs
def Inv.stack (I:Inv X pins σ H s):s.heap.FunFrames X.base X.stack:=by
 rcases I.ok.stk with e | ⟨e,hf⟩
 . rw [e];exact I.funs
 . rw [e];obtain ⟨m,hn,_⟩:=I.loc;refine .cons (by rw [I.ok.kind];decide) hf hn ?_ I.funs;exact zo (bq I.ok.bsz I.ok.above)
def Inv.stkSub (I:Inv X pins σ H s):∀ b∈frs X.stack,b∈X.env.locals::X.fs:=λb hb=>by
 rcases I.ok.stk with e | ⟨e,hf⟩
 . rw [e] at hb;exact aj _ hb
 . rw [e] at hb;unfold frs at hb;rw [cT,hf] at hb;exact hb
def Inv.stkFree (I:Inv X pins σ H s):∀ b∈frs X.stack,H b = none:=λb hb=>by
 rcases aC.mp (I.stkSub b hb) with e | hb
 . rw [e];exact I.free
 . obtain ⟨_,o,ho,_⟩:=I.ok.funs.mem hb;exact I.base.free b o ho (I.ok.frf b hb) λz=>I.ok.exfs b z hb
def Inv.step {g':Array GenState} {t':Nat} {d':Drawn} {ch:List aq} (I:Inv X pins σ H s)
 (hch:∀ b∈ch,(b∈X.ex\/X.s₀.heap.objs.size<=b)/\b≠X.env.locals/\(∀ x c,X.env.cells.lookup x = some c->c≠b)/\∀ p∈X.pn++pins,p.1≠b)
 (keep:∀ b o,b≠X.env.locals->b∉X.fs->b∉ch->s.heap.get? b = some o->H b = none->h'.get? b = some o)
 (slot:∀ b o,b≠X.env.locals->b∈X.fs->b∉ch->s.heap.get? b = some o->H b = none->∃ sl,h'.get? b = some { o with slots:=sl }) (free:∀ b o,b∉ch->s.heap.get? b = some o->H b = none->H' b = none)
 (there:∀ b o,b∉ch->s.heap.get? b = some o->∃ o',h'.get? b = some o')
 (tups:∀ b xs,H b = some (.tup xs)->H' b = some (.tup xs)) (frzs:∀ b o u,H b = some (.frz o u)->H' b = some (.frz o u)) (tbls:∀ b ps,H b = some (.tbl ps)->∃ more,H' b = some (.tbl (ps++more)))
 (ns:∀ m,s.heap.Ns X.env.locals m->h'.Ns X.env.locals m) (hok:HOk X.prog X.w H' h') (hg:lT g') :
 Inv X pins σ H' { s with heap:=h',gens:=g',drawn:=d',toks:=t' }:=by
 have neL:∀ b o,X.s₀.heap.get? b = some o->b≠X.env.locals:=λb o e=>bH (bj (aM e) I.ok.above)
 have neC:∀ b o,X.s₀.heap.get? b = some o->b∉X.ex->b∉ch:=λb o e hx hb=>by
  rcases (hch b hb).1 with z | z
  . exact hx z
  . exact absurd (bj (aM e) z) (cR _)
 have cellK:∀ x c,X.env.cells.lookup x = some c->∀ v,s.heap.IsCell c v->h'.IsCell c v:=λx c e v zz=>by
  obtain ⟨o,ho,hd⟩:=zz;have nch:c∉ch:=λz=>(hch c z).2.2.1 x c e rfl;by_cases hc:c∈X.fs
  . obtain ⟨sl,q⟩:=slot c o (I.cne x c e) hc nch ho (I.freeC x c e);exact ⟨_,q,hd⟩
  . exact ⟨o,keep c o (I.cne x c e) hc nch ho (I.freeC x c e),hd⟩
 refine ⟨I.ok,I.os,hg,⟨λb o e n hb hx=>?_,λb o e n hb hx=>?_,λb o e n hx=>?_,λb o e hx=>?_,λb xs e=>tups b xs (I.base.tups b xs e),λb o xs e=>frzs b o xs (I.base.frzs b o xs e),λb ps e=>?_⟩,?_,λx c e=>?_,?_,λx c e=>?_,λp hp=>?_,hok,I.len⟩
 . exact keep b o (neL b o e) hb (neC b o e hx) (I.base.keep b o e n hb hx) (I.base.free b o e n hx)
 . obtain ⟨sl,e1⟩:=I.base.slot b o e n hb hx;obtain ⟨sl',e2⟩:=slot b _ (neL b o e) hb (neC b o e hx) e1 (I.base.free b o e n hx);exact ⟨sl',e2⟩
 . obtain ⟨o',e1⟩:=I.base.there b o e hx;exact free b o' (neC b o e hx) e1 (I.base.free b o e n hx)
 . obtain ⟨o',e1⟩:=I.base.there b o e hx;exact there b o' (neC b o e hx) e1
 . obtain ⟨m1,e1⟩:=I.base.tbls b ps e;obtain ⟨m2,e2⟩:=tbls b _ e1;exact ⟨m1++m2,by rw [e2,Array.append_assoc]⟩
 . obtain ⟨m,hn,hl⟩:=I.loc;refine ⟨m,ns m hn,λi x v e1 e2 e3=>?_⟩;obtain ⟨u,r,l⟩:=hl i x v e1 e2 e3;refine ⟨u,r,?_⟩;rcases l with l | ⟨k,c,e,z⟩
   . exact .inl l
   . exact .inr ⟨k,c,e,cellK x c e _ z⟩
 . obtain ⟨v,z⟩:=I.cell x c e;exact ⟨v,cellK x c e v z⟩
 . obtain ⟨m,⟨o,_,_,ho,_⟩,_⟩:=I.loc;exact free _ o (λz=>(hch _ z).2.1 rfl) ho I.free
 . obtain ⟨v,o,ho,hd⟩:=I.cell x c e;exact free c o (λz=>(hch c z).2.2.1 x c e rfl) ho (I.freeC x c e)
 . obtain ⟨e,n,ne,nf,d⟩:=I.pin p hp;have nch:p.1∉ch:=λz=>(hch p.1 z).2.2.2 p hp rfl;exact ⟨keep p.1 p.2 ne nf nch e n,free p.1 p.2 nch e n,ne,nf,d⟩
def Inv.un {t':Nat} (I:Inv X pins σ H s) (u:Un X.fs [] H H' s.heap h') (hok:HOk X.prog X.w H' h'):Inv X pins σ H' { s with heap:=h',toks:=t' }:=by
 obtain ⟨m,⟨o,es,ep,ho,r⟩,_⟩:=id I.loc;obtain ⟨sl,hL⟩:=u.any ho I.free ↥0
 exact I.step (g':=s.gens) (d':=s.drawn) (ch:=[]) (λ_ z=>nomatch z) (λb o _ hb _ e n=>u.keep b o e n hb ↥0) (λb o _ hb _ e n=>u.slot b o e n hb ↥0) (λb o _ e n=>u.free b o e n ↥0) (λb o _ e=>u.there b o e ↥0) u.tups u.frzs u.tbls (λm' hm=>by
  obtain ⟨o',es',ep',ho',r'⟩:=hm;rw [ho] at ho';cases ho';exact ⟨_,es',ep',hL,r'⟩) hok I.bare
def Inv.call {g':Array GenState} {t':Nat} {d':Drawn} {ch:List aq} (I:Inv X pins σ H s) (u:Un (frs X.stack) ch H H' s.heap h') (hok:HOk X.prog X.w H' h') (hg:lT g')
 (hch:∀ b∈ch,(b∈X.ex\/X.s₀.heap.objs.size<=b)/\b≠X.env.locals/\(∀ x c,X.env.cells.lookup x = some c->c≠b)/\∀ p∈X.pn++pins,p.1≠b) :
 Inv X pins σ H' { s with heap:=h',gens:=g',drawn:=d',toks:=t' }:=by
 obtain ⟨m,⟨o,es,ep,ho,r⟩,_⟩:=id I.loc;obtain ⟨sl,hL⟩:=u.any ho I.free λz=>(hch _ z).2.1 rfl
 exact I.step (ch:=ch) hch (λb o hL hb hc e n=>u.keep b o e n (λz=>(aC.mp (I.stkSub b z)).elim hL hb) hc) (λb o _ _ hc e n=>u.any e n hc) (λb o hc e n=>u.free b o e n hc) (λb o hc e=>u.there b o e hc) u.tups u.frzs u.tbls (λm' hm=>by
  obtain ⟨o',es',ep',ho',r'⟩:=hm;rw [ho] at ho';cases ho';exact ⟨_,es',ep',hL,r'⟩) hok hg
def Inv.turned {t':Nat} {it:aq} (I:Inv X pins σ H s) (k:∀ b o,b≠it->s.heap.get? b = some o->h'.get? b = some o) (hn:H it = none) (hL:it≠X.env.locals)
 (h1:it∈X.ex\/X.s₀.heap.objs.size<=it) (h2:∀ x c,X.env.cells.lookup x = some c->c≠it) (h3:∀ p∈X.pn++pins,p.1≠it):Inv X pins σ H { s with heap:=h',toks:=t' }:=by
 have nit:∀ b u,H b = some u->b≠it:=λb u e z=>by rw [z,hn] at e;cases e
 refine I.step (g':=s.gens) (d':=s.drawn) (ch:=[it]) (λb hb=>?_) (λb o _ _ hc e _=>k b o (λz=>hc (by simp [z])) e) (λb o _ _ hc e _=>⟨o.slots,k b o (λz=>hc (by simp [z])) e⟩) (λ_ _ _ _ n=>n)
  (λb o hc e=>⟨o,k b o (λz=>hc (by simp [z])) e⟩) (λ_ _ e=>e) (λ_ _ _ e=>e) (λb ps e=>⟨#[],by rw [e];simp⟩) (λm hm=>?_) (λb u e=>?_) I.bare
 . have e:b = it:=by simpa using hb
   subst e;exact ⟨h1,hL,h2,h3⟩
 . obtain ⟨o,es,ep,ho,r⟩:=hm;exact ⟨o,es,ep,k _ o (Ne.symm hL) ho,r⟩
 . refine (I.hok b u e).stay (λc v hc q=>k c v ?_ q) (λ_ q=>q) λ_ _ q=>q;rcases hc with z | z
   . rw [z];exact nit b u e
   . exact nit c _ z
def Inv.tok (I:Inv X pins σ H s) (t:Nat):Inv X pins σ H { s with toks:=t }:=I.un (h':=s.heap) (t':=t) Un.refl I.hok
def Inv.kept {t':Nat} (I:Inv X pins σ H s) (k:∀ b u,s.heap.get? b = some u->h'.get? b = some u):Inv X pins σ H { s with heap:=h',toks:=t' }:=I.un (Un.kept k) (I.hok.kept k)
def Inv.laid {a:aq} {o:HO} {t':Nat} (I:Inv X pins σ H s) (k:∀ b u,s.heap.get? b = some u->h'.get? b = some u) (hp:s.heap.objs.size<=a) (new:fF X.prog X.w (upd H a o) h' a o) :
 Inv X pins σ (upd H a o) { s with heap:=h',toks:=t' }:=I.un (Un.laid k hp (I.hok.fresh hp)) (I.hok.laid k hp new)
def Inv.write (I:Inv X pins σ H s) (mu:Mut (H x)) (he:e = x\/H e = some (.own x)) (k:∀ b u,b≠e->s.heap.get? b = some u->h'.get? b = some u) (heo:∃ u,h'.get? e = some u)
 (new:fF X.prog X.w (upd H x o) h' x o):Inv X pins σ (upd H x o) { s with heap:=h',toks:=t' }:=I.un (Un.write mu he k heo) (I.hok.write mu he k heo new)
def Inv.pins_of (I:Inv X pins σ H s) (h:∀ p∈pins',s.heap.get? p.1 = some p.2/\H p.1 = none/\p.1≠X.env.locals/\p.1∉X.fs/\∀ v,p.2.data≠.cell v):Inv X pins' σ H s :=
 ⟨I.ok,I.os,I.bare,I.base,I.loc,I.cell,I.free,I.freeC,λp hp=>(aJ.mp hp).elim (λz=>I.pin p (cZ _ z)) (h p),I.hok,I.len⟩
def va {N:List Str} (hN:N.Nodup) {i j:Nat} {x:Str} (a:N[i]? = some x) (b:N[j]? = some x):i = j:=by
 obtain ⟨h1,e1⟩:=aA.mp a;obtain ⟨h2,e2⟩:=aA.mp b;exact (EZ hN).mp (e1.trans e2.symm)
def zP {M:nX} {A:bo} {E:af->ai->Prop} {i:Nat} {x:Str} {v:V} {u:af} {Q:Unit->ai->Prop} (I:Inv X pins σ H s) (hN:X.N.Nodup) (hi:X.N[i]? = some x) (hx:Loc X.env.scope x) (r:RelV v u)
 (h:∀ s',Inv X pins (σ.set i (some v)) H s'->(∃ a,jX a s.heap s'.heap/\(a = X.env.locals\/X.env.cells.lookup x = some a))->Q () s') (hf:X.fn x = true\/X.env.scope.names.lookup x = some .local:=by first | exact .inl rfl | exact .inr rfl | assumption):wpAny M A (storeName X.env x u) Q E s:=by
 obtain ⟨m,hn,hl⟩:=id I.loc;have hcls:(X.env.scope.kind == .class || (X.env.scope.kind == .module && X.env.locals != X.env.globals)) = false:=by rw [I.ok.kind];rfl
 have hiσ:i < σ.length:=by rw [I.len];exact (aA.mp hi).1
 have cne:=I.cne
 have tracked:∀ {a:aq} {h':cg},(∃ o,s.heap.get? a = some o/\H a = none)->jX a s.heap h'->HOk X.prog X.w H h':=λ{a h'} ha hs b ob e=>by
  obtain ⟨_,_,hfree⟩:=ha;refine (I.hok b ob e).stay (λc w' hc q=>(hs.2 c ?_).trans q) (λ_ q=>q) λ_ _ q=>q;rintro rfl;rcases hc with rfl | hc
  . rw [hfree] at e;cases e
  . rw [hfree] at hc;cases hc
 rcases hx with hk | hk
 . refine wpAny_storeName_local hk hn (λh' hn' hs=>?_) hcls;obtain ⟨oL,_,_,hoL,_⟩:=id hn;refine h _ ⟨I.ok,I.os,I.bare,⟨λb o e n hb hx=>?_,λb o e n hb hx=>?_,I.base.free,λb o e hx=>?_,I.base.tups,I.base.frzs,I.base.tbls⟩,⟨_,hn',λj y v' e1 e2 e3=>?_⟩,λy c e=>?_,I.free,I.freeC,λp hp=>?_,tracked ⟨oL,hoL,I.free⟩ hs,by simpa using I.len⟩ ⟨_,hs,.inl rfl⟩
   . exact (hs.2 b (bH (bj (aM e) I.ok.above))).trans (I.base.keep b o e n hb hx)
   . obtain ⟨sl,e1⟩:=I.base.slot b o e n hb hx;exact ⟨sl,(hs.2 b (bH (bj (aM e) I.ok.above))).trans e1⟩
   . obtain ⟨o',e1⟩:=I.base.there b o e hx;exact ⟨o',(hs.2 b (bH (bj (aM e) I.ok.above))).trans e1⟩
   . by_cases hj:j = i
     . subst hj;rw [hi] at e1;cases e1;rw [cS hiσ] at e2;cases e2;exact ⟨u,r,.inl ⟨hk,↥0⟩⟩
     . rw [bO (Ne.symm hj)] at e2;obtain ⟨u',r',q⟩:=hl j y v' e1 e2 e3;refine ⟨u',r',?_⟩;rcases q with ⟨k,e⟩ | ⟨k,c,e,z⟩
       . refine .inl ⟨k,?_⟩;have:y≠x:=λe=>hj (va hN e1 (e▸hi));simp [this,e]
       . exact .inr ⟨k,c,e,z.sameBut hs (cne y c e)⟩
   . obtain ⟨w',z⟩:=I.cell y c e;exact ⟨w',z.sameBut hs (cne y c e)⟩
   . obtain ⟨e,n,ne,nf,d⟩:=I.pin p hp;exact ⟨(hs.2 p.1 ne).trans e,n,ne,nf,d⟩
 . have hfn:X.fn x = true:=by
    rcases hf with z | z
    . exact z
    . rw [z] at hk;cases hk
   obtain ⟨c,hc⟩:=I.ok.has x (.inl hk);obtain ⟨w',z⟩:=I.cell x c hc;refine wpAny_storeName_cell I.ok.kind hk hc z (λh' hc' hs=>?_);obtain ⟨oc,hoc,hocd⟩:=id z;refine h { s with heap:=h' } ⟨I.ok,I.os,I.bare,⟨λb o e n hb hx=>?_,λb o e n hb hx=>?_,I.base.free,λb o e hx=>?_,I.base.tups,I.base.frzs,I.base.tbls⟩,⟨m,hn.sameBut hs (Ne.symm (cne x c hc)),λj y v' e1 e2 e3=>?_⟩,λy c' e=>?_,I.free,I.freeC,λp hp=>?_,tracked ⟨oc,hoc,I.freeC x c hc⟩ hs,by simpa using I.len⟩ ⟨c,hs,.inr hc⟩
   . exact (hs.2 b (bH (bj (aM e) (I.ok.cab x c hfn hc)))).trans (I.base.keep b o e n hb hx)
   . obtain ⟨sl,e1⟩:=I.base.slot b o e n hb hx;exact ⟨sl,(hs.2 b (bH (bj (aM e) (I.ok.cab x c hfn hc)))).trans e1⟩
   . obtain ⟨o',e1⟩:=I.base.there b o e hx;exact ⟨o',(hs.2 b (bH (bj (aM e) (I.ok.cab x c hfn hc)))).trans e1⟩
   . by_cases hj:j = i
     . subst hj;rw [hi] at e1;cases e1;rw [cS hiσ] at e2;cases e2;exact ⟨u,r,.inr ⟨.inl hk,c,hc,hc'⟩⟩
     . rw [bO (Ne.symm hj)] at e2;obtain ⟨u',r',q⟩:=hl j y v' e1 e2 e3;refine ⟨u',r',?_⟩;rcases q with q | ⟨k,c',e,z'⟩
       . exact .inl q
       . refine .inr ⟨k,c',e,z'.sameBut hs ?_⟩;rintro rfl;exact hj (va hN e1 (I.ok.inj _ _ _ e hc▸hi))
   . by_cases hcc:c' = c
     . subst hcc;exact ⟨_,hc'⟩
     . obtain ⟨w2,z2⟩:=I.cell y c' e;exact ⟨w2,z2.sameBut hs hcc⟩
   . obtain ⟨e,n,ne,nf,d⟩:=I.pin p hp;refine ⟨(hs.2 p.1 ?_).trans e,n,ne,nf,d⟩;intro q;rw [q,hoc] at e;have q':oc = p.2:=bR e;exact d w' (by rw [<- q'];exact hocd)
def ka (I:Inv X pins σ H s) (hN:X.N.Nodup) (hi:X.N[i]? = some x) (hx:Loc X.env.scope x) (r:RelV v u)
 (h:∀ s',Inv X pins (σ.set i (some v)) H s'->Q () s') (hf:X.fn x = true\/X.env.scope.names.lookup x = some .local:=by first | exact .inl rfl | exact .inr rfl | assumption):wpAny M A (storeName X.env x u) Q E s :=
 zP I hN hi hx r (λs' I' _=>h s' I') hf
def Inv.call' (I:Inv X pins σ H s) (ho:s'.os = s.os) (u:Un (frs X.stack) ch H H' s.heap s'.heap) (hok:HOk X.prog X.w H' s'.heap) (hg:lT s'.gens)
 (hch:∀ b∈ch,(b∈X.ex\/X.s₀.heap.objs.size<=b)/\b≠X.env.locals/\(∀ x c,X.env.cells.lookup x = some c->c≠b)/\∀ p∈X.pn++pins,p.1≠b):Inv X pins σ H' s':=by
 obtain ⟨h',g',d',t',o'⟩:=s';have e:o' = s.os:=ho;subst e;exact I.call (g':=g') (t':=t') (d':=d') u hok hg hch
end
abbrev XK:=af->Option aq->Hp->Prop
abbrev St:=List (Option V)
abbrev VK:=V->Hp->Prop
abbrev TE:=St->Hp->VK->Prop
abbrev TT:=St->Hp->(Bool->Hp->Prop)->Prop
abbrev TA:=St->Hp->(List V->Hp->Prop)->Prop
structure Ends where
 nx:St->Hp->Prop
 rt:VK
 bk:St->Hp->Prop:=λ_ _=>False
 ct:St->Hp->Prop:=λ_ _=>False
abbrev TS:=Ends->St->Hp->Prop
def EP (X:Cx) (pins:List (aq × Obj)) (σ:St) (Q:VK) (u:af) (s':ai):Prop:=∃ v H',Inv X pins σ H' s'/\RelV v u/\Q v H'
def TP (X:Cx) (pins:List (aq × Obj)) (σ:St) (Q:Bool->Hp->Prop) (b:Bool) (s':ai):Prop:=∃ H',Inv X pins σ H' s'/\Q b H'
def AP (X:Cx) (pins:List (aq × Obj)) (σ:St) (Q:List V->Hp->Prop) (us:List af) (s':ai):Prop:=∃ vs H',Inv X pins σ H' s'/\Vals vs us/\Q vs H'
def SP (X:Cx) (pins:List (aq × Obj)) (D:Ends) (f:Flow) (s':ai):Prop :=
 match f with
 | .next=>∃ σ' H',Inv X pins σ' H' s'/\D.nx σ' H'
 | .brk=>∃ σ' H',Inv X pins σ' H' s'/\D.bk σ' H'
 | .cont=>∃ σ' H',Inv X pins σ' H' s'/\D.ct σ' H'
 | .ret u=>∃ v σ' H',Inv X pins σ' H' s'/\RelV v u/\D.rt v H'
def PE (X:Cx) (e:aG) (t:TE):Prop :=
 ∀ (pins:List (aq × Obj)) (s:ai) (σ:St) (H:Hp) (Q:VK),Inv X pins σ H s->t σ H Q->wpAny (model X.prog X.w) X.A (eval e X.env) (EP X pins σ Q) X.xe s
def PT (X:Cx) (e:aG) (t:TT):Prop :=
 ∀ (pins:List (aq × Obj)) (s:ai) (σ:St) (H:Hp) (Q:Bool->Hp->Prop),Inv X pins σ H s->t σ H Q->wpAny (model X.prog X.w) X.A (isTrue e X.env (eval e X.env)) (TP X pins σ Q) X.xe s
def PW (X:Cx) (e:aG) (t:TT):Prop :=
 ∀ (whole:Sem af) (pins:List (aq × Obj)) (s:ai) (σ:St) (H:Hp) (Q:Bool->Hp->Prop),Inv X pins σ H s->t σ H Q->wpAny (model X.prog X.w) X.A (isTrue e X.env whole) (TP X pins σ Q) X.xe s
def PW.pt {X:Cx} {e:aG} {t:TT} (h:PW X e t):PT X e t:=h _
def PA (X:Cx) (es:List aG) (t:TA):Prop :=
 ∀ (pos:Pos) (pins:List (aq × Obj)) (s:ai) (σ:St) (H:Hp) (Q:List V->Hp->Prop),Inv X pins σ H s->t σ H Q->wpAny (model X.prog X.w) X.A (spliced (backTo pos (starEach es X.env))) (AP X pins σ Q) X.xe s
def PS (X:Cx) (st:dE) (t:TS):Prop :=
 ∀ (pins:List (aq × Obj)) (s:ai) (σ:St) (H:Hp) (D:Ends),Inv X pins σ H s->t D σ H->wpAny (model X.prog X.w) X.A (exec st X.env) (SP X pins D) X.xe s
def PSs (X:Cx) (st:List dE) (t:TS):Prop :=
 ∀ (pins:List (aq × Obj)) (s:ai) (σ:St) (H:Hp) (D:Ends),Inv X pins σ H s->t D σ H->wpAny (model X.prog X.w) X.A (execs st X.env) (SP X pins D) X.xe s
def thn {α:Type} {t:Sem α} {Q Q':α->ai->Prop} {M:nX} {A:bo} {E:af->ai->Prop} {s:ai} (h:wpAny M A t Q E s) (hQ:∀ a s,Q a s->Q' a s):wpAny M A t Q' E s:=fx h hQ λ_ _ x=>x
end L2
namespace L2
open PySem PySem.Spec PyProof.Rows
section
variable {X:Cx}
def IV (i:Nat):TE:=λσ H Q=>∃ v,σ[i]? = some (some v)/\Q v H
def tC (v:V):TE:=λ_ H Q=>Q v H
def iX (hN:X.N[i]? = some x) (hv:Vis X.env.scope x) (hd:(x == ("__debug__":Str)) = false:=by decide) (hcd:(x == ("__classdict__":Str)) = false:=by decide):PE X (.Name x pos) (IV i):=by
 intro pins s σ H Q I h;obtain ⟨v,e,h⟩:=h;obtain ⟨m,hn,hl⟩:=I.loc;obtain ⟨u,r,l⟩:=hl i x v hN e hv;have fin:EP X pins σ Q u s:=⟨v,H,I,r,h⟩;rcases l with ⟨hk,hm⟩ | ⟨hk,c,hc,hcell⟩
 . exact Ld (wpAny_loadName_local I.ok.kind hk hn hm fin) hd
 . rcases hk with hk | hk
   . exact Ld (wpAny_loadName_cell I.ok.kind hk hc hcell fin) hd
   . exact Ld (wpAny_loadName_free I.ok.kind hk hc hcell fin hcd) hd
def JG:PE X (.Constant (.int i) j pos) (tC (.int i)):=λ_ _ _ H _ I h=>wpAny_Constant_int ⟨.int i,H,I.tok _,⟨_,rfl⟩,h⟩
def Mi:PE X (.Constant (.bool b) j pos) (tC (.bl b)):=λ_ _ _ H _ I h=>Constant_bool ⟨.bl b,H,I,rfl,h⟩
def JF:PE X (.Constant .none j pos) (tC .non):=λ_ _ _ H _ I h=>Constant_none ⟨.non,H,I,rfl,h⟩
def JD:PE X (.Constant (.str x) j pos) (tC (.str x)):=λ_ _ _ H _ I h=>Calls.Constant_str ⟨.str x,H,I.tok _,⟨_,rfl⟩,h⟩
def Gl (X:Cx) (x:Str):Prop:=X.env.kindOf x = some .globalImplicit
def sS (I:Inv X pins σ H s) (hg:Gl X x) (hm:X.mg x = some u) (h:Q u s)
 (hd:(x == ("__debug__":Str)) = false:=by decide):wpAny (model X.prog X.w) X.A (eval (.Name x pos) X.env) Q E s :=
 qR I.ok.kind hg (Calls.loadGlobal_global (by rw [I.ok.glob];exact I.mod.glob.keeps I.bk) hm h) hd
def qg {E:af->ai->Prop} {pins:List (aq × Obj)} {s:ai} {σ:St} {H:Hp} {x:Str} {u:af} {pos:Pos} {Q:af->ai->Prop} (I:Inv X pins σ H s) (hg:Gl X x) (hm:X.mg x = none) (hv:bootBuiltins x = some u) (h:Q u s)
 (hn:x≠"__name__":=by decide) (hd:(x == ("__debug__":Str)) = false:=by decide):wpAny (model X.prog X.w) X.A (eval (.Name x pos) X.env) Q E s:=by
 obtain ⟨mb,h1,h2⟩:=I.mod.blt;exact qR I.ok.kind hg (Calls.loadGlobal_builtin (by rw [I.ok.glob];exact I.mod.glob.keeps I.bk) hm (by rw [I.ok.blt];exact h1.keeps I.bk) ((h2 x hn).trans hv) h) hd
def Gx (hg:Gl X x) (hm:X.mg x = some u) (r:RelV v u) (hd:(x == ("__debug__":Str)) = false:=by decide):PE X (.Name x pos) (tC v) :=
 λ_ _ _ H _ I h=>sS I hg hm ⟨v,H,I,r,h⟩ hd
def Gz (hg:Gl X x) (hm:X.mg x = none) (hv:bootBuiltins x = some u) (r:RelV v u) (hn:x≠"__name__":=by decide) (hd:(x == ("__debug__":Str)) = false:=by decide):PE X (.Name x pos) (tC v) :=
 λ_ _ _ H _ I h=>qg I hg hm hv ⟨v,H,I,r,h⟩ hn hd
variable {a b:aG} {ta tb:TE} {pos:Pos}
variable {tA tB':TT} {rest:List aG}
def Nq (t u:TT):TT:=λσ H Q=>t σ H λc H1=>if c = true then u σ H1 Q else Q false H1
def tOr (t u:TT):TT:=λσ H Q=>t σ H λc H1=>if c = true then Q true H1 else u σ H1 Q
def Nk (t:TT):TT:=λσ H Q=>t σ H λc H1=>Q (!c) H1
def Gm (ha:PT X a tA):PW X (.BoolOp .And [a] pos) tA:=by
 intro wh pins s σ H Q I h;refine isTrue_and (thn (ha pins s σ H Q I h) λc s1 e=>?_)
 cases c with
 | true=>exact isTrue_and_nil e
 | false=>exact e
def Js (ha:PT X a tA):PW X (.BoolOp .Or [a] pos) tA:=by
 intro wh pins s σ H Q I h;refine isTrue_or (thn (ha pins s σ H Q I h) λc s1 e=>?_)
 cases c with
 | false=>exact isTrue_or_nil e
 | true=>exact e
def Jt (ha:PT X a tA) (hb:PW X (.BoolOp .And (b::rest) pos) tB'):PW X (.BoolOp .And (a::b::rest) pos) (Nq tA tB'):=by
 intro wh pins s σ H Q I h;refine isTrue_and (thn (ha pins s σ H _ I h) λc s1 ⟨H1,I1,q1⟩=>?_)
 cases c with
 | true=>exact hb wh pins s1 σ H1 Q I1 q1
 | false=>exact ⟨H1,I1,q1⟩
def LY (ha:PT X a tA) (hb:PW X (.BoolOp .Or (b::rest) pos) tB'):PW X (.BoolOp .Or (a::b::rest) pos) (tOr tA tB'):=by
 intro wh pins s σ H Q I h;refine isTrue_or (thn (ha pins s σ H _ I h) λc s1 ⟨H1,I1,q1⟩=>?_)
 cases c with
 | true=>exact ⟨H1,I1,q1⟩
 | false=>exact hb wh pins s1 σ H1 Q I1 q1
def Ju (ha:PT X a tA):PT X (.UnaryOp .Not a pos) (Nk tA):=by
 intro pins s σ H Q I h;exact isTrue_not (ha pins s σ H (λc H1=>Q (!c) H1) I h)
def LJ (ta tb:TE):TE:=λσ H Q=>ta σ H λx H1=>∃ c,x = .bl c/\if c = true then tb σ H1 Q else Q (.bl false) H1
def Nj (ta tb:TE):TE:=λσ H Q=>ta σ H λx H1=>∃ c,x = .bl c/\if c = true then Q (.bl true) H1 else tb σ H1 Q
def LD (ta:TE):TE:=λσ H Q=>ta σ H λx H1=>∃ c,x = .bl c/\Q (.bl (!c)) H1
def CN (h:PE X a t):PE X (.BoolOp op [a] pos) t:=λpins s σ H Q I hw=>BoolOp_one (h pins s σ H Q I hw)
def JI (ha:PE X a ta) (hb:PE X (.BoolOp .And (b::rest) pos) tb):PE X (.BoolOp .And (a::b::rest) pos) (LJ ta tb):=by
 intro pins s σ H Q I h;refine BoolOp_and (thn (ha pins s σ H _ I h) λv s1 ⟨x,H1,I1,r1,q1⟩=>?_);obtain ⟨c,rfl,q1⟩:=q1;cases r1;refine hU ?_
 cases c with
 | true=>exact hb pins s1 σ H1 Q I1 q1
 | false=>exact ⟨.bl false,H1,I1,rfl,q1⟩
def Me (ha:PE X a ta) (hb:PE X (.BoolOp .Or (b::rest) pos) tb):PE X (.BoolOp .Or (a::b::rest) pos) (Nj ta tb):=by
 intro pins s σ H Q I h;refine BoolOp_or (thn (ha pins s σ H _ I h) λv s1 ⟨x,H1,I1,r1,q1⟩=>?_);obtain ⟨c,rfl,q1⟩:=q1;cases r1;refine hU ?_
 cases c with
 | false=>exact hb pins s1 σ H1 Q I1 q1
 | true=>exact ⟨.bl true,H1,I1,rfl,q1⟩
def JE (ha:PE X a ta):PE X (.UnaryOp .Not a pos) (LD ta):=by
 intro pins s σ H Q I h;refine UnaryOp_ (thn (ha pins s σ H _ I h) λv s1 ⟨x,H1,I1,r1,q1⟩=>?_);obtain ⟨c,rfl,q1⟩:=q1;cases r1;exact not_of (hU ⟨.bl (!c),H1,I1,rfl,q1⟩)
def tIf (t:TT) (ta tb:TE):TE:=λσ H Q=>t σ H λc H1=>if c = true then ta σ H1 Q else tb σ H1 Q
def CQ {c:aG} (hc:PT X c tA) (ha:PE X a ta) (hb:PE X b tb):PE X (.IfExp c a b pos) (tIf tA ta tb):=by
 intro pins s σ H Q I h;refine wpAny_IfExp (thn (hc pins s σ H _ I h) λd s1 ⟨H1,I1,q1⟩=>?_)
 cases d with
 | true=>exact ha pins s1 σ H1 Q I1 q1
 | false=>exact hb pins s1 σ H1 Q I1 q1
end
end L2
namespace L2
open PySem PySem.Spec PyProof.Rows
def SqL (K:PySem.W.Frag) (H:Hp) (a:aq) (xs:List V):Prop :=
 Rd H a (.lst xs) \/
  ∃ (o:Obj) (its:Array af) (n:Nat),K.lookup a = some o/\o.cls = .type "list"/\o.dict = none/\o.data = .seq its n/\its.size<=sizeLine/\Vals xs its.toList
def SqT (K:PySem.W.Frag) (H:Hp) (a:aq) (xs:List V):Prop :=
 Rd H a (.tup xs) \/
  ∃ (o:Obj) (its:Array af) (n:Nat),K.lookup a = some o/\o.cls = .type "tuple"/\o.data = .seq its n/\its.size<=sizeLine/\Vals xs its.toList
def NQ:af->Option V
 | .none=>some .non
 | .bool b=>some (.bl b)
 | .int i _=>some (.int i)
 | .str x _=>some (.str x)
 | .ref a=>some (.ref a)
 | .type n=>some (.ty n)
 | _=>none
def RelV.abs (r:RelV x u):NQ u = some x:=by
 cases x with
 | non=>cases r;rfl
 | bl _=>cases r;rfl
 | int _=>obtain ⟨t,rfl⟩:=r;rfl
 | str _=>obtain ⟨t,rfl⟩:=r;rfl
 | ref _=>cases r;rfl
 | ty _=>cases r;rfl
def RelV.inj {x y:V} {u:af} (r:RelV x u) (q:RelV y u):x = y:=bR (r.abs.symm.trans q.abs)
def Vals.inj:∀ {xs ys:List V} {us:List af},Vals xs us->Vals ys us->xs = ys
 | _,_,_,.nil,.nil=>rfl
 | _,_,_,.cons r t,.cons r' t'=>by rw [r.inj r',Vals.inj t t']
section
variable {X:Cx} {pins:List (aq × Obj)} {σ:St} {H:Hp} {s:ai} {a:aq} {xs ys:List V}
def SqT.of {K:PySem.W.Frag} (h:H a = some (.tup xs)):SqT K H a xs:=.inl (.inl h)
def Inv.list (I:Inv X pins σ H s) (h:SqL X.K H a xs):∃ its:List af,Vals xs its/\PlainL s.heap a its.toArray/\xs.length<=sizeLine:=by
 rcases h with h | ⟨o,its,n,hk,hc,hd,hs,hz,r⟩
 . obtain ⟨z,its,n,r,e⟩:=h.ok I.hok;exact ⟨its,r,⟨_,n,e,rfl,rfl,rfl⟩,z⟩
 . refine ⟨its.toList,r,⟨o,n,I.kIn a o hk,hc,hd,by simpa using hs⟩,?_⟩;have e:=r.length;simp only [bt] at e
   lia
def Inv.tuple (I:Inv X pins σ H s) (h:SqT X.K H a xs):∃ its:List af,Vals xs its/\HD s.heap a its.toArray/\xs.length<=sizeLine:=by
 rcases h with h | ⟨o,its,n,hk,hc,hs,hz,r⟩
 . obtain ⟨z,its,r,p⟩:=h.ok I.hok;exact ⟨its,r,p,z⟩
 . refine ⟨its.toList,r,⟨o,I.kIn a o hk,hc,n,by simpa using hs⟩,?_⟩;have e:=r.length;simp only [bt] at e
   lia
def Inv.list_inj (I:Inv X pins σ H s) (h:SqL X.K H a xs) (h':SqL X.K H a ys):xs = ys:=by
 obtain ⟨its,r,⟨o,n,e,_,_,d⟩,_⟩:=I.list h;obtain ⟨its',r',⟨o',n',e',_,_,d'⟩,_⟩:=I.list h';rw [e] at e';cases e';rw [d] at d';injection d' with d1 _;have:its = its':=by simpa using congrArg Array.toList d1
 subst this;exact r.inj r'
def Inv.tuple_inj (I:Inv X pins σ H s) (h:SqT X.K H a xs) (h':SqT X.K H a ys):xs = ys:=by
 obtain ⟨its,r,⟨o,e,_,n,d⟩,_⟩:=I.tuple h;obtain ⟨its',r',⟨o',e',_,n',d'⟩,_⟩:=I.tuple h';rw [e] at e';cases e';rw [d] at d';injection d' with d1 _;have:its = its':=by simpa using congrArg Array.toList d1
 subst this;exact r.inj r'
end
abbrev Cx.wish (X:Cx) (E:af->ai->Prop):Cx:={ X with xe:=E }
abbrev Cx.nox (X:Cx):Cx:=X.wish λ_ _=>False
def Cx.Ok.wish {X:Cx} (ok:X.Ok) (E:af->ai->Prop):(X.wish E).Ok :=
 ⟨ok.mod,ok.kind,ok.glob,ok.blt,ok.above,ok.inj,ok.has,ok.cab,ok.hd,ok.frames,ok.stk,ok.exf,ok.bs,ok.bsz,ok.noex,ok.exfs,ok.funs,ok.frf⟩
def Cx.Ok.unwish {X:Cx} {E:af->ai->Prop} (ok:(X.wish E).Ok):X.Ok :=
 ⟨ok.mod,ok.kind,ok.glob,ok.blt,ok.above,ok.inj,ok.has,ok.cab,ok.hd,ok.frames,ok.stk,ok.exf,ok.bs,ok.bsz,ok.noex,ok.exfs,ok.funs,ok.frf⟩
section
variable {X:Cx} {pins:List (aq × Obj)} {σ:St} {H:Hp} {s:ai} {E:af->ai->Prop}
def Inv.wish (I:Inv X pins σ H s) (E:af->ai->Prop):Inv (X.wish E) pins σ H s:=⟨I.ok.wish E,I.os,I.bare,I.base,I.loc,I.cell,I.free,I.freeC,I.pin,I.hok,I.len⟩
def Inv.unwish (I:Inv (X.wish E) pins σ H s):Inv X pins σ H s:=⟨I.ok.unwish,I.os,I.bare,I.base,I.loc,I.cell,I.free,I.freeC,I.pin,I.hok,I.len⟩
def SP.unwish {D:Ends} {f:Flow} {s':ai} (h:SP (X.wish E) pins D f s'):SP X pins D f s':=by
 cases f with
 | next=>obtain ⟨σ',H',I,q⟩:=h;exact ⟨σ',H',I.unwish,q⟩
 | brk=>obtain ⟨σ',H',I,q⟩:=h;exact ⟨σ',H',I.unwish,q⟩
 | cont=>obtain ⟨σ',H',I,q⟩:=h;exact ⟨σ',H',I.unwish,q⟩
 | ret u=>obtain ⟨v,σ',H',I,r,q⟩:=h;exact ⟨v,σ',H',I.unwish,r,q⟩
def PSs.nox {st:List dE} {t:TS} (h:PSs X.nox st t):PSs X st t:=λpins s σ H D I hw =>
 fx (h pins s σ H D (I.wish _) hw) (λ_ _ q=>q.unwish) λ_ _ z=>cz z
end
section
variable {X:Cx} {st:dE} {rest:List dE} {t u:TS} {e:aG} {te:TE} {pos:Pos}
def LG:TS:=λD σ H=>D.nx σ H
def Ng (t u:TS):TS:=λD σ H=>t { D with nx:=u D } σ H
def Gq:PSs X [] LG:=λ_ _ σ H _ I h=>wpAny_execs_nil ⟨σ,H,I,h⟩
def CF (h1:PS X st t) (h2:PSs X rest u):PSs X (st::rest) (Ng t u):=by
 intro pins s σ H D I h;refine wpAny_execs_cons (thn (h1 pins s σ H { D with nx:=u D } I h) λf s1 q=>?_)
 cases f with
 | next =>
   obtain ⟨σ',H',I',q⟩:=q
   exact h2 pins s1 σ' H' D I' q
 | ret v=>exact q
 | brk=>exact q
 | cont=>exact q
def Inv.quiet {pins:List (aq × Obj)} {σ:St} {H:Hp} {s:ai} (I:Inv X pins σ H s):interactive X.env = false:=by simp [interactive,I.ok.kind]
def LH (te:TE):TS:=λD σ H=>te σ H λ_ H1=>D.nx σ H1
def ye (he:PE X e te) (hs:swapsWith e none pos.line X.env = pure false:=by rfl):PS X (.Expr e pos) (LH te):=by
 intro pins s σ H D I h;exact wpAny_Expr_any (thn (he pins s σ H _ I h) λv s1 ⟨x,H1,I1,r1,q1⟩=>⟨σ,H1,I1,q1⟩) I.quiet hs
def Nh (te:TE):TS:=λD σ H=>te σ H D.rt
def CG (he:PE X e te):PS X (.Return (some e) pos) (Nh te):=by
 intro pins s σ H D I h;exact Lg (thn (he pins s σ H _ I h) λv s1 ⟨x,H1,I1,r1,q1⟩=>⟨x,σ,H1,I1,r1,q1⟩)
def Nm (c:TT) (t u:TS):TS:=λD σ H=>c σ H λb H1=>if b = true then t D σ H1 else u D σ H1
def LZ {c:aG} {a b:List dE} {tc:TT} (hc:PT X c tc) (ha:PSs X a t) (hb:PSs X b u):PS X (.If c a b pos) (Nm tc t u):=by
 intro pins s σ H D I h;refine wpAny_If (thn (hc pins s σ H _ I h) λd s1 ⟨H1,I1,q1⟩=>?_)
 cases d with
 | true=>exact ha pins s1 σ H1 D I1 q1
 | false=>exact hb pins s1 σ H1 D I1 q1
end
abbrev TG:=V->St->Hp->(St->Hp->Prop)->Prop
abbrev TGs:=List V->St->Hp->(St->Hp->Prop)->Prop
def PG (X:Cx) (target:aG) (t:TG):Prop :=
 ∀ (pins:List (aq × Obj)) (s:ai) (σ:St) (H:Hp) (v:V) (u:af) (Q:St->Hp->Prop),Inv X pins σ H s->RelV v u->t v σ H Q ->
  wpAny (model X.prog X.w) X.A (assign target X.env u) (λ_ s'=>∃ σ' H',Inv X pins σ' H' s'/\Q σ' H') X.xe s
def PGs (X:Cx) (ts:List aG) (t:TGs):Prop :=
 ∀ (pins:List (aq × Obj)) (s:ai) (σ:St) (H:Hp) (vs:List V) (us:List af) (Q:St->Hp->Prop),Inv X pins σ H s->Vals vs us->t vs σ H Q ->
  wpAny (model X.prog X.w) X.A (assignInOrder ((assignEach ts X.env).map (·.2)) us) (λ_ s'=>∃ σ' H',Inv X pins σ' H' s'/\Q σ' H') X.xe s
abbrev La:=V->V->V->Hp->(Hp->Prop)->Prop
def MV (X:Cx) (t:La):Prop :=
 ∀ (pins:List (aq × Obj)) (s:ai) (σ:St) (H:Hp) (o i v:V) (ov iv u:af) (Q:Hp->Prop),Inv X pins σ H s->RelV o ov->RelV i iv->RelV v u->t o i v H Q ->
  wpAny (model X.prog X.w) X.A (setItem ov iv u) (λ_ s'=>∃ H',Inv X pins σ H' s'/\Q H') X.xe s
section
variable {X:Cx} {pos:Pos}
def vn (i:Nat):TG:=λv σ H Q=>Q (σ.set i (some v)) H
def yf (hN:X.N.Nodup) (hi:X.N[i]? = some x) (hx:Loc X.env.scope x) (hf:X.fn x = true\/X.env.scope.names.lookup x = some .local:=by first | exact .inl rfl | exact .inr rfl | assumption):PG X (.Name x pos) (vn i):=by
 intro pins s σ H v u Q I r h;exact Lf (ka I hN hi hx r (λs' I'=>⟨_,H,I',h⟩) hf)
def MF:TGs:=λvs σ H Q=>vs = []/\Q σ H
def HS (t:TG) (u:TGs):TGs:=λvs σ H Q=>∃ v r,vs = v::r/\t v σ H λσ' H'=>u r σ' H' Q
def Gw:PGs X [] MF:=by
 intro pins s σ H vs us Q I r h;obtain ⟨e,h⟩:=h;subst e;cases r;exact Lh ⟨σ,H,I,h⟩
def CK {e:aG} {es:List aG} {t:TG} {u:TGs} (h1:PG X e t) (h2:PGs X es u)
 (hs:(assignEach (e::es) X.env).map (·.2) = assign e X.env::(assignEach es X.env).map (·.2):=by rfl):PGs X (e::es) (HS t u):=by
 intro pins s σ H vs us Q I r h;obtain ⟨v,vr,e1,h⟩:=h;subst e1
 cases r with
 | cons r rr =>
   rw [hs];refine qy (thn (h1 pins s σ H _ _ _ I r h) λ_ s1 ⟨σ1,H1,I1,q1⟩=>?_);exact h2 pins s1 σ1 H1 _ _ Q I1 rr q1
def NJ (K:PySem.W.Frag) (n:Nat) (t:TGs):TG:=λv σ H Q=>∃ a xs,v = .ref a/\SqT K H a xs/\xs.length = n/\t xs σ H Q
def JB (hc:X.calm = true) (h:PGs X es t)
 (hn:(assignEach es X.env).length = n:=by rfl) (hst:(assignEach es X.env).findIdx? (·.1) = none:=by rfl):PG X (.Tuple es k pos) (NJ X.K n t):=by
 intro pins s σ H v u Q I r hw;obtain ⟨a,xs,e1,hq,hl,hw⟩:=hw;subst e1;cases r;obtain ⟨its,rv,ht,hz⟩:=I.tuple hq;refine assign_Tuple_tuple (I.ok.hd hc) ht (by simp [hn,<- hl,rv.length]) hst λh' hx=>?_;have I1:Inv X pins σ H { s with heap:=h' }:=I.kept (t':=s.toks) λb o e=>hx b o (bH (aM e)) e;exact h pins _ σ H xs _ Q I1 (by simpa using rv) hw
def NK (to ti:TE) (t:La):TG:=λv σ H Q=>to σ H λo H1=>ti σ H1 λi H2=>t o i v H2 λH3=>Q σ H3
def JC {o i:aG} {to ti:TE} {t:La} (ho:PE X o to) (hi:PE X i ti) (hs:MV X t)
 (ha:∀ v,assign (.Subscript o i pos) X.env v = (do
   let ov <- holding [v] (eval o X.env)
   let iv <- holding [v,ov] (eval i X.env)
   standAt pos
   holding [v,ov,iv] (setItem ov iv v)
   release [v,ov,iv] []):=by intro _;rfl):PG X (.Subscript o i pos) (NK to ti t):=by
 intro pins s σ H v u Q I r h;rw [ha];refine ag (dR (thn (ho pins s σ H _ I h) λov s1 ⟨x,H1,I1,r1,q1⟩=>?_));refine ag (dR (thn (hi pins s1 σ H1 _ I1 q1) λiv s2 ⟨y,H2,I2,r2,q2⟩=>?_));refine ag (gD (ag (dR (thn (hs pins s2 σ H2 x y v ov iv u _ I2 r1 r2 r q2) λ_ s3 ⟨H3,I3,q3⟩=>?_))));exact wpAny_release ⟨σ,H3,I3,q3⟩
def FA (te:TE) (g:TG):TS:=λD σ H=>te σ H λx H1=>g x σ H1 D.nx
def wF {tg e:aG} {te:TE} {g:TG} (he:PE X e te) (hg:PG X tg g) (hs:swapsWithSole [tg] e pos.line X.env = pure false:=by rfl) (hw:swappedStores [tg] e X.env = pure none:=by rfl)
 (h1:(assignEach [tg] X.env).map (·.2) = [assign tg X.env]:=by rfl):PS X (.Assign [tg] e pos) (FA te g):=by
 intro pins s σ H D I h;refine wpAny_Assign_stores (thn (he pins s σ H _ I h) λv s1 ⟨x,H1,I1,r1,q1⟩=>?_) hs hw;rw [h1];exact thn (hg pins s1 σ H1 x v _ I1 r1 q1) λ_ s2 q=>q
def Jv {i:Nat} {x:Str} {e:aG} {te:TE} {pos':Pos} (hN:X.N.Nodup) (hi:X.N[i]? = some x) (hx:Loc X.env.scope x) (he:PE X e te) (hs:swapsWith e (some (.Name x pos')) pos.line X.env = pure false:=by rfl) (hf:X.fn x = true\/X.env.scope.names.lookup x = some .local:=by first | exact .inl rfl | exact .inr rfl | assumption) :
 PS X (.Assign [.Name x pos'] e pos) (FA te (vn i)):=by
 intro pins s σ H D I h;refine wpAny_Assign_Name (thn (he pins s σ H _ I h) λv s1 ⟨y,H1,I1,r1,q1⟩=>?_) hs;exact ka I1 hN hi hx r1 (λs2 I2=>⟨_,H1,I2,q1⟩) hf
def Ni (i j:Nat) (ta:TA):TS:=λD σ H=>ta σ H λvs H1=>∃ v w,vs = [v,w]/\D.nx ((σ.set i (some v)).set j (some w)) H1
def Jw {i j:Nat} {x y:Str} {a b:aG} {ta:TA} {px py pt:Pos} {kt k2 pt2} (hc:X.calm = true) (hN:X.N.Nodup) (hi:X.N[i]? = some x) (hj:X.N[j]? = some y) (hij:i≠j)
 (hx:X.env.scope.names.lookup x = some .local) (hy:X.env.scope.names.lookup y = some .local) (ha:PA X [a,b] ta)
 (hw:swappedStores [.Tuple [.Name x px,.Name y py] kt pt] (.Tuple [a,b] k2 pt2) X.env = pure (some [x,y]))
 (hs:swapsWithSole [.Tuple [.Name x px,.Name y py] kt pt] (.Tuple [a,b] k2 pt2) pos.line X.env = pure false:=by rfl) :
 PS X (.Assign [.Tuple [.Name x px,.Name y py] kt pt] (.Tuple [a,b] k2 pt2) pos) (Ni i j ta):=by
 intro pins s σ H D I h;rw [exec_Assign_arm];refine ag (gD ?_);rw [hs];refine ag (aH ?_);rw [if_neg ⇑0];refine ag (Tuple_ (thn (ha _ pins s σ H _ I h) λus s1 ⟨vs,H1,I1,r1,q1⟩=>?_));obtain ⟨v,w,e1,q1⟩:=q1;subst e1
 obtain ⟨u1,u2,rfl,rv,rw'⟩:∃ u1 u2,us = [u1,u2]/\RelV v u1/\RelV w u2:=by
  cases r1 with
  | cons p q =>
    cases q with
    | cons p' q' =>
      cases q';exact ⟨_,_,rfl,p,p'⟩
 refine cU ?_ (by show 2<=sizeLine;decide);have I2:Inv X pins σ H1 { s1 with heap:=s1.heap.push { cls:=.type "tuple",data:=.seq [u1,u2].toArray } }:=I1.kept (t':=s1.toks) λb o e=>ao _ e;rw [hw];refine ag (aH ?_);show wpAny (model X.prog X.w) X.A (do rule "assign.swapped-stores";let items <- unpackItems (.ref s1.heap.objs.size) 2 none;assignInOrder [λv=>bindName X.env y v,λv=>bindName X.env x v] items.reverse;pure Flow.next) _ _ _;refine ag (fX (ag (unpackItems_tuple (items := #[u1,u2]) (I.ok.hd hc) (ui s1.heap _) λh' hx'=>?_)));have I3:=I2.kept (h':=h') (t':=s1.toks) λb o e=>hx' b o (bH (aM e)) e;show wpAny _ _ (assignInOrder [λv=>bindName X.env y v,λv=>bindName X.env x v] [u2,u1] >>= λ_=>pure Flow.next) _ _ _;refine ag (qy (wpAny_bindName (ka I3 hN hj (.inl hy) rw' (λs2 I4=>?_) (.inr hy))));refine qy (wpAny_bindName (ka I4 hN hi (.inl hx) rv (λs3 I5=>Lh (aH ?_)) (.inr hx)));rw [List.set_comm _ _ (Ne.symm hij)] at I5;exact ⟨_,H1,I5,q1⟩
end
section
variable {X:Cx} {pos:Pos}
end
structure It where
 go:Nat->Hp->Prop
 yld:Nat->Hp->V->Hp->Prop
 stop:Nat->Hp->Prop
def jV (X:Cx) (pins:List (aq × Obj)) (H:Hp) (b:aq):Prop :=
 H b = none/\b≠X.env.locals/\b∉X.fs/\(b∈X.ex\/X.s₀.heap.objs.size<=b)/\(∀ x c,X.env.cells.lookup x = some c->c≠b)/\∀ p∈X.pn++pins,p.1≠b
def Inv.fpOk (I:Inv X pins σ H s) (hb:s.heap.objs.size<=b) (hn:H' b = none):jV X pins H' b:=by
 refine ⟨hn,fh (bj I.lt hb),I.nofs hb,.inr (bq I.sz hb),λx c e z=>?_,λp hp z=>?_⟩
 . obtain ⟨v,q⟩:=I.cell x c e;exact absurd (bj q.lt (by rw [z];exact hb)) (cR _)
 . exact absurd (bj (aM (I.pin p hp).1) (by rw [z];exact hb)) (cR _)
structure Turn (P:bp) (w:bQ) (K:PySem.W.Frag) (tg:aG) (J:It) (fp:List aq) (it:aq) (tn:Nat->cg->Prop):Prop where
 mem:it∈fp
 obj:∀ i h,tn i h->∀ b∈fp,∃ o,h.get? b = some o/\∀ v,o.data≠.cell v
 keep:∀ i h h',tn i h->(∀ b∈fp,∀ o,h.get? b = some o->h'.get? b = some o)->tn i h'
 item:∀ (X:Cx),X.prog = P->X.w = w->X.K = K->X.calm = true->∀ (i:Nat) (pins:List (aq × Obj)) (s:ai) (σ:St) (H:Hp) (E:af->ai->Prop),Inv X pins σ H s->(∀ b∈fp,jV X pins H b)->tn i s.heap->J.go i H ->
  wpAny (model P w) X.A (pyNext (.ref it)) (λr s1=>∃ u,r = some u /\
   wpAny (model P w) X.A (letOwnedTupleGo tg (.ref it) u) (λ_ s2=>∃ x H',Inv X pins σ H' s2/\RelV x u/\J.yld i H x H'/\tn (i+1) s2.heap/\∀ b∈fp,H' b = none) E s1) E s
 done:∀ (X:Cx),X.prog = P->X.w = w->X.K = K->X.calm = true->∀ (i:Nat) (pins:List (aq × Obj)) (s:ai) (σ:St) (H:Hp) (E:af->ai->Prop),Inv X pins σ H s->(∀ b∈fp,jV X pins H b)->tn i s.heap->J.stop i H ->
  wpAny (model P w) X.A (pyNext (.ref it)) (λr s1=>r = none/\Inv X pins σ H s1) E s
 self:∀ (A:bo) (i:Nat) (s:ai) (Q:af->ai->Prop) (E:af->ai->Prop),tn i s.heap->Q (.ref it) s->wpAny (model P w) A (pyIter (.ref it)) Q E s
abbrev TI:=St->Hp->(It->Hp->Prop)->Prop
def PIE (X:Cx) (pins:List (aq × Obj)) (σ:St) (tg:aG) (R:It->Hp->Prop) (itv:af) (s2:ai):Prop :=
 ∃ (it:aq) (fp:List aq) (tn:Nat->cg->Prop) (J:It) (H':Hp),itv = .ref it/\Inv X pins σ H' s2/\Turn X.prog X.w X.K tg J fp it tn/\tn 0 s2.heap/\(∀ b∈fp,jV X pins H' b)/\R J H'
def PI (X:Cx) (tg iter:aG) (wi:TI):Prop :=
 ∀ (pins:List (aq × Obj)) (s:ai) (σ:St) (H:Hp) (R:It->Hp->Prop),Inv X pins σ H s->wi σ H R ->
  wpAny (model X.prog X.w) X.A (eval iter X.env) (λv s1=>wpAny (model X.prog X.w) X.A (pyIter v) (PIE X pins σ tg R) X.xe s1) X.xe s
def yH (ho:s.heap.get? it = some o) (hc:o.cls = .type n) (hd:o.data = .fields vs)
 (hn:["enumerate","zip","dict_itemiterator","dict_reverseitemiterator","odict_iterator","itertools.zip_longest","itertools.pairwise"].contains n = false) (hQ:Q () s):wpAny M A (letOwnedTupleGo tg (.ref it) u) Q E s:=by
 unfold letOwnedTupleGo
 cases tg<;>first
  | exact aH hQ
  | (cases u<;>first
      | exact aH hQ
      | (refine ag (wpAny_load ho ?_)
         rw [hc,hd];show wpAny M A (if (["enumerate","zip","dict_itemiterator","dict_reverseitemiterator","odict_iterator","itertools.zip_longest","itertools.pairwise"].contains n && vs[0]? == some (rawInt _)) = true then _ else _) Q E s;rw [if_neg (by intro h;rw [hn,Bool.false_and] at h;cases h)];exact aH hQ))
def Itl (K:PySem.W.Frag) (a:aq):It :=
 ⟨λi H=>∃ xs x,SqL K H a xs/\xs[i]? = some x,λi H x H'=>H' = H/\∀ xs,SqL K H a xs->xs[i]? = some x,λi H=>∃ xs,SqL K H a xs/\xs.length<=i⟩
def Itt (K:PySem.W.Frag) (a:aq):It :=
 ⟨λi H=>∃ xs x,SqT K H a xs/\xs[i]? = some x,λi H x H'=>H' = H/\∀ xs,SqT K H a xs->xs[i]? = some x,λi H=>∃ xs,SqT K H a xs/\xs.length<=i⟩
def Itr (lo:Int) (n:Nat):It:=⟨λi _=>i < n,λi H x H'=>H' = H/\x = .int (lo+i),λi _=>n<=i⟩
def zN {P:bp} {w:bQ} {K:PySem.W.Frag} {tg:aG} (a it:aq):Turn P w K tg (Itl K a) [it] it (λi h=>h.IsListIter it a i) where
 mem:=by simp
 obj:=λi h st b hb=>by
  have e:b = it:=by simpa using hb
  subst e;obtain ⟨o,e,c,d⟩:=st;exact ⟨o,e,λv z=>by rw [d] at z;cases z⟩
 keep:=λi h h' st k=>st.at λo e=>k it ↥0 o e
 item:=by
  intro X hP hw hK hc i pins s σ H E I hf st hg;subst hP hw hK;obtain ⟨xs,x,hq,hx⟩:=hg;obtain ⟨its,rv,p,hz⟩:=I.list hq;obtain ⟨u,hu,ru⟩:=rv.get hx;obtain ⟨f0,f1,f2,f3,f4,f5⟩:=hf it ↥0;refine wpAny_pyNext_list_item st p.isList (x:=u) (by simpa using hu) λh' st' sb=>?_;have I1:Inv X pins σ H { s with heap:=h' }:=I.turned (t':=s.toks) (λb o hb e=>(sb.2 b hb).trans e) f0 f1 f3 f4 f5;obtain ⟨o,e,c,d⟩:=id st';exact ⟨u,rfl,yH (s:={ s with heap:=h' }) e c d ⇑0 ⟨x,H,I1,ru,⟨rfl,λys hy=>by rw [I.list_inj hy hq];exact hx⟩,st',λb hb=>(hf b hb).1⟩⟩
 done:=by
  intro X hP hw hK hc i pins s σ H E I hf st hg;subst hP hw hK;obtain ⟨xs,hq,hx⟩:=hg;obtain ⟨its,rv,p,hz⟩:=I.list hq;obtain ⟨f0,f1,f2,f3,f4,f5⟩:=hf it ↥0;have hl:=rv.length;exact wpAny_pyNext_list_end (I.ok.hd hc) st p.isList (by simp;lia) λh' eb=>⟨rfl,I.turned (t':=s.toks) (λb o hb e=>eb b o hb e) f0 f1 f3 f4 f5⟩
 self:=λ_ _ _ _ _ st h=>wpAny_pyIter_listiter st h
def vZ {P:bp} {w:bQ} {K:PySem.W.Frag} {tg:aG} (a it:aq):Turn P w K tg (Itt K a) [it] it (λi h=>h.IsTupleIter it a i) where
 mem:=by simp
 obj:=λi h st b hb=>by
  have e:b = it:=by simpa using hb
  subst e;obtain ⟨o,e,c,d⟩:=st;exact ⟨o,e,λv z=>by rw [d] at z;cases z⟩
 keep:=λi h h' st k=>st.at λo e=>k it ↥0 o e
 item:=by
  intro X hP hw hK hc i pins s σ H E I hf st hg;subst hP hw hK;obtain ⟨xs,x,hq,hx⟩:=hg;obtain ⟨its,rv,p,hz⟩:=I.tuple hq;obtain ⟨u,hu,ru⟩:=rv.get hx;obtain ⟨f0,f1,f2,f3,f4,f5⟩:=hf it ↥0;refine wpAny_pyNext_tuple_item st (show s.heap.IsTuple a its.toArray from p) (x:=u) (by simpa using hu) λh' st' sb=>?_;have I1:Inv X pins σ H { s with heap:=h' }:=I.turned (t':=s.toks) (λb o hb e=>(sb.2 b hb).trans e) f0 f1 f3 f4 f5;obtain ⟨o,e,c,d⟩:=id st';exact ⟨u,rfl,yH (s:={ s with heap:=h' }) e c d ⇑0 ⟨x,H,I1,ru,⟨rfl,λys hy=>by rw [I.tuple_inj hy hq];exact hx⟩,st',λb hb=>(hf b hb).1⟩⟩
 done:=by
  intro X hP hw hK hc i pins s σ H E I hf st hg;subst hP hw hK;obtain ⟨xs,hq,hx⟩:=hg;obtain ⟨its,rv,p,hz⟩:=I.tuple hq;obtain ⟨f0,f1,f2,f3,f4,f5⟩:=hf it ↥0;have hl:=rv.length;exact wpAny_pyNext_tuple_end (I.ok.hd hc) st (show s.heap.IsTuple a its.toArray from p) (by simp;lia) λh' eb=>⟨rfl,I.turned (t':=s.toks) (λb o hb e=>eb b o hb e) f0 f1 f3 f4 f5⟩
 self:=λ_ _ _ _ _ st h=>wpAny_pyIter_tupleiter st h
def wc {P:bp} {w:bQ} {K:PySem.W.Frag} {tg:aG} (it:aq) (lo:Int) (n:Nat):Turn P w K tg (Itr lo n) [it] it (λi h=>IsRangeIter h it (lo+(i:Nat) * 1) ((n:Int) - (i:Nat)) 1) where
 mem:=by simp
 obj:=λi h st b hb=>by
  have e:b = it:=by simpa using hb
  subst e
  exact ⟨_,st,λv z=>by
   have z':Data.fields _ = Data.cell v:=z;cases z'⟩
 keep:=λi h h' st k=>k it ↥0 _ st
 item:=by
  intro X hP hw hK hc i pins s σ H E I hf st hg;subst hP hw hK;obtain ⟨f0,f1,f2,f3,f4,f5⟩:=hf it ↥0;have W:=Walks.range (prog:=X.prog) (w:=X.w) (I.ok.hd hc) it lo 1 n;refine W.item i s _ _ hg st λv h' tk hv st' kk=>?_;obtain ⟨t,rfl⟩:=hv;have I1:Inv X pins σ H { s with heap:=h',toks:=tk }:=I.turned (λb o hb e=>kk b o (by simpa using hb) e) f0 f1 f3 f4 f5;refine ⟨_,rfl,yH (s:={ s with heap:=h',toks:=tk }) (n:="range_iterator") st' rfl rfl ⇑0 ⟨.int (lo+i),H,I1,⟨t,?_⟩,⟨rfl,rfl⟩,st',λb hb=>(hf b hb).1⟩⟩;rw [Int.mul_one]
 done:=by
  intro X hP hw hK hc i pins s σ H E I hf st hg;subst hP hw hK;obtain ⟨f0,f1,f2,f3,f4,f5⟩:=hf it ↥0;exact wpAny_pyNext_range_end (I.ok.hd hc) st (by have:n<=i:=hg;lia) λh' eb=>⟨rfl,I.turned (t':=s.toks) (λb o hb e=>eb b o hb e) f0 f1 f3 f4 f5⟩
 self:=λ_ _ _ _ _ st h=>wpAny_pyIter_rangeiter st h
end L2
namespace L2
open PySem PySem.Spec PyProof.Rows
section
variable {X:Cx} {tg:aG}
def Ct {pins:List (aq × Obj)} {σ:St} {H:Hp} {s:ai} {R:It->Hp->Prop} {E:af->ai->Prop} {lo hi:Int} {t u v:Tok} {tk:Nat} (I:Inv X pins σ H s) (h1:-(2 ^ 62)<=lo) (h2:lo < 2 ^ 62) (h3:-(2 ^ 62)<=hi) (h4:hi < 2 ^ 62)
 (q:R (Itr lo (hi - lo).toNat) H):wpAny (model X.prog X.w) X.A (pyIter (.ref s.heap.objs.size)) (PIE X pins σ tg R) E { s with heap:=s.heap.push { cls:=.type "range",data:=.fields #[.int lo t,.int hi u,.int 1 v] },toks:=tk }:=by
 refine wpAny_pyIter_range (IsRange.new ..) (small_one h1 h2 h3 h4) ?_;have I1:Inv X pins σ H { s with heap:=s.heap.push { cls:=.type "range",data:=.fields #[.int lo t,.int hi u,.int 1 v] },toks:=tk }:=I.kept λb o e=>ao _ e
 refine ⟨(s.heap.push { cls:=.type "range",data:=.fields #[.int lo t,.int hi u,.int 1 v] }).objs.size,[(s.heap.push { cls:=.type "range",data:=.fields #[.int lo t,.int hi u,.int 1 v] }).objs.size],_,_,H,rfl,
  I1.kept (t':=tk) λb o e=>ao _ e,wc _ lo (hi - lo).toNat,?_,λb hb=>?_,q⟩
 . have e1:lo+((0:Nat):Int) * 1 = lo:=by simp
   have e2:(((hi - lo).toNat:Nat):Int) - ((0:Nat):Int) = Builtin.Range.rangeSize lo hi 1:=by rw [rangeSize_one];split<;>lia
   show IsRangeIter _ _ (lo+((0:Nat):Int) * 1) ((((hi - lo).toNat:Nat):Int) - ((0:Nat):Int)) 1;rw [e1,e2];exact bE _ rfl
 . have e:b = (s.heap.push { cls:=.type "range",data:=.fields #[.int lo t,.int hi u,.int 1 v] }).objs.size:=by simpa using hb
   subst e;exact I1.fpOk (az _) (I1.hok.fresh (az _))
def MC (ta:TA):TI:=λσ H R=>ta σ H λvs H1=>∃ j:Int,vs = [.int j]/\-(2 ^ 62)<=j/\j < 2 ^ 62/\R (Itr 0 j.toNat) H1
def Ah {a:aG} {ta:TA} {p pos:Pos} (hg:Gl X "range") (hm:X.mg "range" = none) (ha:PA X [a] ta) (hs:starEach [a] X.env = [(false,eval a X.env)]:=by rfl):PI X tg (.Call (.Name "range" p) [a] [] pos) (MC ta):=by
 intro pins s σ H R I h;refine Call_ (qg I hg hm boot_range (gS (thn (ha pos pins s σ H _ I h) λus s1 ⟨vs,H1,I1,r1,q1⟩=>?_) hs rfl));obtain ⟨j,e,q1,q2,q⟩:=q1;subst e
 cases r1 with
 | cons r rr =>
   cases rr;obtain ⟨t,rfl⟩:=r;exact call_range_1 (Ct I1 ∅ ∅ q1 q2 (by simpa using q))
def Nn (wi:TI) (g:TG) (tb:TS):TS:=λD σ H=>wi σ H λJ H1=>∃ W:Nat->Nat->St->Hp->Prop,(∃ m,W 0 m σ H1)/\∀ i m σ H,W i m σ H ->
 (J.stop i H/\D.nx σ H)\/(J.go i H/\∃ N:St->Hp->Prop,(∀ σ' H',N σ' H'->∃ m',m' < m/\W (i+1) m' σ' H')/\∀ x H',J.yld i H x H'->g x σ H' λσ2 H2=>tb { D with nx:=N,ct:=N,bk:=D.nx } σ2 H2)
def pS (fp:List aq) (h:cg):List (aq × Obj):=fp.filterMap λb=>(h.get? b).map λo=>(b,o)
def jz (hb:b∈fp) (e:h.get? b = some o):(b,o)∈pS fp h:=AR.mpr ⟨b,hb,by rw [e];rfl⟩
def Am (hp:p∈pS fp h):p.1∈fp/\h.get? p.1 = some p.2:=by
 obtain ⟨b,hb,e⟩:=AR.mp hp
 cases q:h.get? b with
 | none=>rw [q] at e;cases e
 | some o =>
   rw [q] at e;have e':(b,o) = p:=bR e;subst e';exact ⟨hb,q⟩
def Inv.pinned (I:Inv X pins σ H s) (hf:∀ b∈fp,jV X pins H b) (ho:∀ b∈fp,∃ o,s.heap.get? b = some o/\∀ v,o.data≠.cell v):Inv X (pins++pS fp s.heap) σ H s :=
 I.pins_of λp hp=>(aJ.mp hp).elim (λz=>I.pin p (aW _ z)) λz=>by
  obtain ⟨hb,e⟩:=Am z;obtain ⟨f0,f1,f2,_⟩:=hf p.1 hb;obtain ⟨o,e',d⟩:=ho p.1 hb;rw [e] at e';cases e';exact ⟨e,f0,f1,f2,d⟩
def Inv.unpinned (I:Inv X (pins++pl) σ H s):Inv X pins σ H s:=I.pins_of λp hp=>I.pin p (aW _ (cZ _ hp))
def Jx (hp:PassesOwn (model X.prog X.w) X.A X.env X.xe) (hc:X.calm = true) (hi:PI X tg iter wi) (hg:PG X tg g) (hb:PSs X body tb)
 (hs:∀ x,foldedSetIterable iter X.env x = pure x:=by intro _;rfl):PS X (.For tg iter body [] pos) (Nn wi g tb):=by
 intro pins s σ H D I h;refine wpAny_For (thn (hi pins s σ H _ I h) λv s1 h1=>thn h1 λitv s2 h2=>?_) hs;obtain ⟨it,fp,tn,J,H2,e,I2,T,st2,f2,W,⟨m0,w0⟩,turn⟩:=h2;subst e
 -- what stays true of the iterator's objects through the loop
 have stat:∀ {H':Hp},(∀ b∈fp,H' b = none)->∀ b∈fp,jV X pins H' b:=λhn b hb=>⟨hn b hb,(f2 b hb).2⟩;refine codeAny_forLoop_any (λn s'=>∃ i σ' H',Inv X pins σ' H' s'/\tn i s'.heap/\(∀ b∈fp,H' b = none)/\W i n σ' H') ?_ m0 ⟨0,σ,H2,I2,st2,λb hb=>(f2 b hb).1,w0⟩;rintro n s3 ⟨i,σ3,H3,I3,st3,fr3,w3⟩;rcases turn i n σ3 H3 w3 with ⟨stop,qn⟩ | ⟨go,N,hN,step⟩
 . refine iZ hp (thn (T.done X rfl rfl rfl hc i pins s3 σ3 H3 X.xe I3 (stat fr3) st3 stop) λr s4 ⟨hr,I4⟩=>?_);subst hr;exact wpAny_execs_nil ⟨σ3,H3,I4,qn⟩
 . refine iZ hp (thn (T.item X rfl rfl rfl hc i pins s3 σ3 H3 X.xe I3 (stat fr3) st3 go) λr s4 ⟨u,hr,h4⟩=>?_);subst hr;refine iZ hp (thn h4 λ_ s5 ⟨x,H5,I5,r5,y5,st5,fr5⟩=>?_);have I5':=I5.pinned (stat fr5) (T.obj _ _ st5);refine iZ hp (thn (hg _ s5 σ3 H5 x u _ I5' r5 (step x H5 y5)) λ_ s6 ⟨σ6,H6,I6,q6⟩=>?_);refine iZ hp (thn (hb _ s6 σ6 H6 _ I6 q6) λf s7 q7=>?_)
   have again:∀ {σ7:St} {H7:Hp},Inv X (pins++pS fp s5.heap) σ7 H7 s7->N σ7 H7->∃ m,m < n/\∃ i σ' H',Inv X pins σ' H' s7/\tn i s7.heap/\(∀ b∈fp,H' b = none)/\W i m σ' H':=λ{σ7 H7} I7 n7=>by
    obtain ⟨m',hm,w7⟩:=hN σ7 H7 n7;refine ⟨m',hm,i+1,σ7,H7,I7.unpinned,T.keep _ _ _ st5 λb hb o e=>(I7.pin (b,o) (aW _ (aW _ (jz hb e)))).1,λb hb=>?_,w7⟩;obtain ⟨o,e,d⟩:=T.obj _ _ st5 b hb;exact (I7.pin (b,o) (aW _ (aW _ (jz hb e)))).2.1
   cases f with
   | next=>obtain ⟨σ7,H7,I7,n7⟩:=q7;exact again I7 n7
   | cont=>obtain ⟨σ7,H7,I7,n7⟩:=q7;exact again I7 n7
   | brk=>obtain ⟨σ7,H7,I7,q7⟩:=q7;exact ⟨σ7,H7,I7.unpinned,q7⟩
   | ret v=>obtain ⟨x7,σ7,H7,I7,r7,q7⟩:=q7;exact ⟨x7,σ7,H7,I7.unpinned,r7,q7⟩
end
end L2
namespace L2
open PySem PySem.Spec PyProof.Rows
abbrev R2:=V->V->Hp->VK->Prop
def OpR (X:Cx) (f:af->af->Sem af) (r:R2):Prop :=
 ∀ (pins:List (aq × Obj)) (s:ai) (σ:St) (H:Hp) (x y:V) (v u:af) (Q:VK),Inv X pins σ H s->RelV x v->RelV y u->r x y H Q ->
  wpAny (model X.prog X.w) X.A (f v u) (EP X pins σ Q) X.xe s
def UnR (X:Cx) (f:af->Sem af) (r:V->Hp->VK->Prop):Prop :=
 ∀ (pins:List (aq × Obj)) (s:ai) (σ:St) (H:Hp) (x:V) (v:af) (Q:VK),Inv X pins σ H s->RelV x v->r x H Q ->
  wpAny (model X.prog X.w) X.A (f v) (EP X pins σ Q) X.xe s
def dG (X:Cx) (f:af) (r:List V->Hp->VK->Prop):Prop :=
 ∀ (pins:List (aq × Obj)) (s:ai) (σ:St) (H:Hp) (xs:List V) (us:List af) (Q:VK),Inv X pins σ H s->Vals xs us->r xs H Q ->
  wpAny (model X.prog X.w) X.A (call f us) (EP X pins σ Q) X.xe s
def NR (X:Cx) (r:V->Hp->(Bool->Hp->Prop)->Prop):Prop :=
 ∀ (pins:List (aq × Obj)) (s:ai) (σ:St) (H:Hp) (x:V) (v:af) (Q:Bool->Hp->Prop),Inv X pins σ H s->RelV x v->r x H Q ->
  wpAny (model X.prog X.w) X.A (truthy v) (TP X pins σ Q) X.xe s
def tOp (r:R2) (ta tb:TE):TE:=λσ H Q=>ta σ H λx H1=>tb σ H1 λy H2=>r x y H2 Q
def tUn (r:V->Hp->VK->Prop) (ta:TE):TE:=λσ H Q=>ta σ H λx H1=>r x H1 Q
def rI (C:Int->Int->Prop) (g:Int->Int->V):R2:=λx y H Q=>∃ i j,x = .int i/\y = .int j/\C i j/\Q (g i j) H
def rI0 (g:Int->Int->V):R2:=λx y H Q=>∃ i j,x = .int i/\y = .int j/\Q (g i j) H
def rU (g:Int->V):V->Hp->VK->Prop:=λx H Q=>∃ i,x = .int i/\Q (g i) H
section
variable {X:Cx} {a b c:aG} {ta tb tc:TE} {pos:Pos}
def KU (ha:PE X a ta) (hb:PE X b tb) {pins:List (aq × Obj)} {s:ai} {σ:St} {H:Hp} {R:V->V->Hp->Prop} (I:Inv X pins σ H s)
 (h:ta σ H λx H1=>tb σ H1 λy H2=>R x y H2) {Q:af->ai->Prop} {f:af->af->Sem af}
 (hf:∀ v u s2 x y H2,Inv X pins σ H2 s2->RelV x v->RelV y u->R x y H2->wpAny (model X.prog X.w) X.A (f v u) Q X.xe s2) :
 wpAny (model X.prog X.w) X.A (eval a X.env) (λv s₁=>wpAny (model X.prog X.w) X.A (eval b X.env) (λu s₂=>wpAny (model X.prog X.w) X.A (f v u) Q X.xe s₂) X.xe s₁) X.xe s:=by
 refine thn (ha pins s σ H _ I h) λv s1 zz=>?_;obtain ⟨x,H1,I1,r1,q1⟩:=zz;refine thn (hb pins s1 σ H1 _ I1 q1) λu s2 zz=>?_;obtain ⟨y,H2,I2,r2,q2⟩:=zz;exact hf v u s2 x y H2 I2 r1 r2 q2
def uV {op:xB} {r:R2} (ho:OpR X (binaryOp op) r) (ha:PE X a ta) (hb:PE X b tb):PE X (.BinOp a op b pos) (tOp r ta tb):=by
 intro pins s σ H Q I h;exact wpAny_BinOp (KU ha hb I h λv u s2 x y H2 I2 rx ry q=>ho pins s2 σ H2 x y v u Q I2 rx ry q)
def Mc (ho:UnR X (unaryOp op) r) (ha:PE X a ta):PE X (.UnaryOp op a pos) (tUn r ta):=by
 intro pins s σ H Q I h;exact UnaryOp_ (thn (ha pins s σ H _ I h) λv s1 ⟨x,H1,I1,r1,q1⟩=>ho pins s1 σ H1 x v Q I1 r1 q1)
def opI {f:af->af->Sem af} {C:Int->Int->Prop} {g:Int->Int->Int}
 (rule:∀ (i j:Int) (t u:Tok) (s:ai) (Q:af->ai->Prop) (E:af->ai->Prop),C i j->Q (.int (g i j) s.toks) { s with toks:=s.toks+1 }->wpAny (model X.prog X.w) X.A (f (.int i t) (.int j u)) Q E s) :
 OpR X f (rI C λi j=>.int (g i j)):=by
 intro pins s σ H x y v u Q I rx ry h;obtain ⟨i,j,rfl,rfl,hc,q⟩:=h;obtain ⟨t,rfl⟩:=rx;obtain ⟨t',rfl⟩:=ry;exact rule i j t t' s _ _ hc ⟨.int (g i j),H,I.tok _,⟨_,rfl⟩,q⟩
def Ms {f:af->af->Sem af} {g:Int->Int->Int}
 (rule:∀ (i j:Int) (t u:Tok) (s:ai) (Q:af->ai->Prop) (E:af->ai->Prop),Q (.int (g i j) s.toks) { s with toks:=s.toks+1 }->wpAny (model X.prog X.w) X.A (f (.int i t) (.int j u)) Q E s) :
 OpR X f (rI0 λi j=>.int (g i j)):=by
 intro pins s σ H x y v u Q I rx ry h;obtain ⟨i,j,rfl,rfl,q⟩:=h;obtain ⟨t,rfl⟩:=rx;obtain ⟨t',rfl⟩:=ry;exact rule i j t t' s _ _ ⟨.int (g i j),H,I.tok _,⟨_,rfl⟩,q⟩
def Ny {f:af->af->Sem af} {g:Int->Int->Bool}
 (rule:∀ (i j:Int) (t u:Tok) (s:ai) (Q:af->ai->Prop) (E:af->ai->Prop),Q (.bool (g i j)) s->wpAny (model X.prog X.w) X.A (f (.int i t) (.int j u)) Q E s) :
 OpR X f (rI0 λi j=>.bl (g i j)):=by
 intro pins s σ H x y v u Q I rx ry h;obtain ⟨i,j,rfl,rfl,q⟩:=h;obtain ⟨t,rfl⟩:=rx;obtain ⟨t',rfl⟩:=ry;exact rule i j t t' s _ _ ⟨.bl (g i j),H,I,rfl,q⟩
def JS:OpR X (binaryOp .Add) (rI0 λi j=>.int (i+j)):=Ms λ_ _ _ _ _ _ _ q=>add_int q
def JM:OpR X (binaryOp .Sub) (rI0 λi j=>.int (i - j)):=Ms λ_ _ _ _ _ _ _ q=>sub_int q
def JO:OpR X (binaryOp .Mod) (rI (λ_ j=>0 < j) λi j=>.int (i % j)):=opI λi j _ _ _ _ _ hc q=>by
 have h1:(0:Int) < j:=hc;exact mod_int' ∅ (by rw [Int.fmod_eq_emod_of_nonneg i ∅];exact q)
def unI {f:af->Sem af} {g:Int->Int}
 (rule:∀ (i:Int) (t:Tok) (s:ai) (Q:af->ai->Prop) (E:af->ai->Prop),Q (.int (g i) s.toks) { s with toks:=s.toks+1 }->wpAny (model X.prog X.w) X.A (f (.int i t)) Q E s) :
 UnR X f (rU λi=>.int (g i)):=by
 intro pins s σ H x v Q I rx h;obtain ⟨i,rfl,q⟩:=h;obtain ⟨t,rfl⟩:=rx;exact rule i t s _ _ ⟨.int (g i),H,I.tok _,⟨_,rfl⟩,q⟩
def IS:UnR X (unaryOp .USub) (rU λi=>.int (-i)):=unI λ_ _ _ _ _ q=>neg_int q
end
def Nu:V->V->Bool
 | .non,.non=>true | .non,.int _=>true | .int _,.non=>true | .non,.bl _=>true | .bl _,.non=>true | .non,.str _=>true | .str _,.non=>true
 | .int _,.int _=>true | .bl _,.bl _=>true | .str _,.str _=>true
 | .int _,.str _=>true | .str _,.int _=>true | .bl _,.str _=>true | .str _,.bl _=>true
 | _,_=>false
def rEq:R2:=λx y H Q=>Nu x y = true/\Q (.bl (decide (x = y))) H
def Hk:decide (V.int i = V.int j) = (i == j):=by
 rw [iw];simp
def KG:decide (V.bl i = V.bl j) = (i == j):=by
 rw [iw];simp
def Hj:decide (V.str i = V.str j) = (i == j):=by
 rw [iw];simp
section
variable {X:Cx} {a b c:aG} {ta tb tc:TE} {pos:Pos}
def fW (I:Inv X pins σ H s) (q:Q (.bl k) H) (e:k = k'):EP X pins σ Q (.bool k') s:=by
 subst e;exact ⟨.bl k,H,I,rfl,q⟩
def Mp:OpR X (compareOp .Eq) rEq:=by
 intro pins s σ H x y v u Q I rx ry h;obtain ⟨hs,q⟩:=h
 cases x with
 | non =>
   cases rx
   cases y with
   | non=>cases ry;exact PySem.EqNone.eq_none_none (fW I q ↥0)
   | bl j=>cases ry;exact PySem.EqNone.eq_none_bool (fW I q ↥0)
   | int j=>obtain ⟨t',rfl⟩:=ry;exact PySem.EqNone.eq_none_int (fW I q ↥0)
   | str j=>obtain ⟨t',rfl⟩:=ry;exact PySem.EqNone.eq_none_str (fW I q ↥0)
   | _=>exact absurd (show false = true from hs) au
 | bl i =>
   cases rx
   cases y with
   | non=>cases ry;exact PySem.EqNone.eq_bool_none (fW I q ↥0)
   | bl j=>cases ry;exact eq_bool (fW I q KG)
   | str j=>obtain ⟨t',rfl⟩:=ry;exact PySem.EqMixed.eq_bool_str (fW I q ↥0)
   | _=>exact absurd (show false = true from hs) au
 | int i =>
   obtain ⟨t,rfl⟩:=rx
   cases y with
   | non=>cases ry;exact PySem.EqNone.eq_int_none (fW I q ↥0)
   | int j=>obtain ⟨t',rfl⟩:=ry;exact eq_int (fW I q Hk)
   | str j=>obtain ⟨t',rfl⟩:=ry;exact PySem.EqMixed.eq_int_str (fW I q ↥0)
   | _=>exact absurd (show false = true from hs) au
 | str i =>
   obtain ⟨t,rfl⟩:=rx
   cases y with
   | non=>cases ry;exact PySem.EqNone.eq_str_none (fW I q ↥0)
   | bl j=>cases ry;exact PySem.EqMixed.eq_str_bool (fW I q ↥0)
   | int j=>obtain ⟨t',rfl⟩:=ry;exact PySem.EqMixed.eq_str_int (fW I q ↥0)
   | str j=>obtain ⟨t',rfl⟩:=ry;exact eq_str (fW I q Hj)
   | _=>exact absurd (show false = true from hs) au
 | _=>cases y<;>exact absurd (show false = true from hs) au
def Mn:OpR X (compareOp .Gt) (rI0 λi j=>.bl (decide (j < i))):=Ny λ_ _ _ _ _ _ _ q=>gt_int q
def Al:OpR X (compareOp .In) (λx y H Q=>∃ i j,x = .str i/\y = .str j/\Q (.bl (!(ph j i 0 j.length 1).isEmpty)) H):=by
 intro pins s σ H x y v u Q I rx ry h;obtain ⟨i,j,rfl,rfl,q⟩:=h;obtain ⟨t,rfl⟩:=rx;obtain ⟨t',rfl⟩:=ry;exact in_str (fW I q rfl)
def OpR.or {f:af->af->Sem af} {r r':R2} (h:OpR X f r) (h':OpR X f r'):OpR X f (λx y H Q=>r x y H Q\/r' x y H Q):=by
 intro pins s σ H x y v u Q I rx ry q;rcases q with q | q
 . exact h pins s σ H x y v u Q I rx ry q
 . exact h' pins s σ H x y v u Q I rx ry q
def Gy {op:CmpOp} {r:R2} (ho:OpR X (compareOp op) r) (ha:PE X a ta) (hb:PE X b tb) (hm:behindInMarks op b = false):PE X (.Compare a [op] [b] pos) (tOp r ta tb):=by
 intro pins s σ H Q I h;exact wpAny_Compare1 (KU ha hb I h λv u s2 x y H2 I2 rx ry q=>ho pins s2 σ H2 x y v u Q I2 rx ry q) hm
def LB (t:TE):TT:=λσ H Q=>t σ H λx H'=>∃ k,x = .bl k/\Q k H'
def Gp (ho:OpR X (compareOp op) r) (ha:PE X a ta) (hb:PE X b tb) (hm:behindInMarks op b = false):PT X (.Compare a [op] [b] pos) (LB (tOp r ta tb)):=by
 intro pins s σ H Q I h
 refine wpAny_isTrue_Compare1 (thn (ha pins s σ H _ I h) λv s1 ⟨x,H1,I1,r1,q1⟩=>thn (hb pins s1 σ H1 _ I1 q1) λu s2 ⟨y,H2,I2,r2,q2⟩ =>
  thn (ho pins s2 σ H2 x y v u _ I2 r1 r2 q2) λc s3 ⟨z,H3,I3,r3,k,e,q3⟩=>?_) hm
 subst e;cases r3;exact hU ⟨H3,I3,q3⟩
def KZ (K:PySem.W.Frag) (x:V) (H:Hp) (k:Bool):Prop :=
 match x with
 | .non=>k = false
 | .bl b=>k = b
 | .int i=>k = (i != 0)
 | .str y=>y.length<=sizeLine/\k = ((y.length:Int) != 0)
 | .ref p=>(∃ xs,SqL K H p xs/\k = !xs.isEmpty)\/(∃ xs,SqT K H p xs/\k = !xs.isEmpty)
 | _=>False
def qi {xs:List V} {its:List af} (r:Vals xs its):(!its.toArray.isEmpty) = !xs.isEmpty:=by
 cases r<;>simp
def lI:(sizeLine:Nat) < 2 ^ 63:=by rw [fY];decide
def IU:NR X (λx H Q=>∃ k,KZ X.K x H k/\Q k H):=by
 intro pins s σ H x v Q I rx h;obtain ⟨k,e,q⟩:=h;have hl:=lI;have hs:sizeLine = 16777216:=fY
 cases x with
 | non =>
   cases rx;have e':k = false:=e;subst e'
   exact truthy_none ⟨H,I,q⟩
 | bl b =>
   cases rx;have e':k = b:=e;subst e'
   exact hU ⟨H,I,q⟩
 | int i =>
   obtain ⟨t,rfl⟩:=rx;have e':k = (i != 0):=e;subst e'
   exact PySem.P.truthy_int ⟨H,I,q⟩
 | str y =>
   obtain ⟨t,rfl⟩:=rx;obtain ⟨hy,e'⟩:y.length<=sizeLine/\k = ((y.length:Int) != 0):=e;subst e'
   exact PySem.P.truthy_str ∅ ⟨H,I.tok _,q⟩
 | ref p =>
   cases rx;have e':(∃ xs,SqL X.K H p xs/\k = !xs.isEmpty)\/(∃ xs,SqT X.K H p xs/\k = !xs.isEmpty):=e;rcases e' with ⟨xs,hx,e'⟩ | ⟨xs,hx,e'⟩
   . subst e';obtain ⟨its,r,pl,hz⟩:=I.list hx;have hlen:=r.length;exact wpAny_truthy_list pl.isList (by simp only [aI];lia) ⟨H,I.tok _,by rw [qi r];exact q⟩
   . subst e';obtain ⟨its,r,pl,hz⟩:=I.tuple hx;have hlen:=r.length
     exact truthy_tuple pl (by simp only [aI];lia) ⟨H,I.tok _,by rw [qi r];exact q⟩
 | _=>exact (show False from e).elim
def pP (ha:PE X a ta) (he:∀ whole,isTrue a X.env whole = (do let v <- whole;standAt a.pos;holding [v] (truthy v))) :
 PT X a (λσ H Q=>ta σ H λx H'=>∃ k,KZ X.K x H' k/\Q k H'):=by
 intro pins s σ H Q I h;exact isTrue_plain (thn (ha pins s σ H _ I h) λv s1 ⟨x,H1,I1,r1,q1⟩=>IU pins s1 σ H1 x v Q I1 r1 q1) (he _)
def wK:OpR X (binaryOp .Add) (λx y H Q=>∃ i j,x = .str i/\y = .str j/\i.length+j.length<=sizeLine/\Q (.str (i++j)) H):=by
 intro pins s σ H x y v u Q I rx ry h;obtain ⟨i,j,rfl,rfl,hz,q⟩:=h;obtain ⟨t,rfl⟩:=rx;obtain ⟨t',rfl⟩:=ry;exact add_str (λt' tk=>⟨.str (i++j),H,I.tok _,⟨_,rfl⟩,q⟩) hz
def vals1 (r:Vals [x] us):∃ u,us = [u]/\RelV x u:=by
 cases r with
 | cons r1 r2=>cases r2;exact ⟨_,rfl,r1⟩
def vals2 (r:Vals [x,y] us):∃ u w',us = [u,w']/\RelV x u/\RelV y w':=by
 cases r with
 | cons r1 r2 =>
   cases r2 with
   | cons r3 r4=>cases r4;exact ⟨_,_,rfl,r1,r3⟩
def AB:dG X (.type "int") (λxs H Q=>(∃ i,xs = [.int i]/\Q (.int i) H)\/∃ k,xs = [.bl k]/\Q (.int (if k then 1 else 0)) H):=by
 intro pins s σ H xs us Q I r h;rcases h with ⟨i,rfl,q⟩ | ⟨k,rfl,q⟩
 . obtain ⟨u,rfl,t,rfl⟩:=vals1 r;exact call_int_int ⟨.int i,H,I,⟨_,rfl⟩,q⟩
 . obtain ⟨u,rfl,r1⟩:=vals1 r;cases r1;exact call_int_bool ⟨.int (if k then 1 else 0),H,I.tok _,⟨_,rfl⟩,q⟩
def tQ:dG X (.type "str") (λxs H Q=>∃ i,xs = [.int i]/\i.natAbs.log2 < 1920/\Q (.str (toString i)) H):=by
 intro pins s σ H xs us Q I r h;obtain ⟨i,rfl,hz,q⟩:=h;obtain ⟨u,rfl,t,rfl⟩:=vals1 r;exact PySem.P.str_of_int hz ⟨.str _,H,I.tok _,⟨_,rfl⟩,q⟩
end
end L2
namespace L2
open PySem PySem.Spec PyProof.Rows
structure NU (h:cg) (x dx C:aq) (mA:Str->Option af):Prop where
 obj:h.get? x = some (PySem.W.instObj C dx)
 ns:h.Ns1 dx mA
 ne:dx≠x
section
variable {prog:bp} {w:bQ} {A:bo} {E:af->ai->Prop} {s:ai} {K:PySem.W.Frag} {x dx C f:aq} {mA:Str->Option af} {name:Str} {v:af}
end
section
variable {P:bp} {w:bQ} {H H':Hp} {h h':cg} {a C dx:aq} {fs fs':List (Str × V)}
end
structure Cls (K:PySem.W.Frag) (C:aq):Prop where
 pg:PySem.W.plainGet K C Str.empty = true
 hd:PySem.W.hasDictIn K C = true
 po:PySem.W.plainOver K C = true
 sa:PySem.W.findIn K (.ref C) "__setattr__" = some (some (.builtin "object.__setattr__"))
structure Con (K:PySem.W.Frag) (C:aq) (f:Str) (v:V) (u:af):Prop where
 at_:PySem.W.findIn K (.ref C) f = some (some u)
 rel:RelV v u
 get:PySem.W.specialIn K u "__get__" = some none
 cp:PySem.W.copiedNames.contains f = false
structure Meth (K:PySem.W.Frag) (C:aq) (m:Str) (f:aq):Prop where
 at_:PySem.W.findIn K (.ref C) m = some (some (.ref f))
 fn:PySem.W.isFn K (.ref f) = true
 kp:PySem.W.keepIn K (.ref f) = true
section
variable {X:Cx} {pins:List (aq × Obj)} {σ:St} {H:Hp} {s:ai} {a C dx:aq} {fs:List (Str × V)} {f:Str} {v:V} {A:bo} {E:af->ai->Prop}
end
section
variable {X:Cx} {o e value:aG} {f:Str} {pos pos' tpos:Pos} {ta tv:TE}
end
section
variable {X:Cx} {pins:List (aq × Obj)} {σ:St} {H:Hp} {s:ai} {A:bo} {E:af->ai->Prop} {Q:af->ai->Prop} {c:af} {b:Bool}
inductive xw (K:PySem.W.Frag) (H:Hp):V->af->Prop where
 | non:xw K H .non (.type "NoneType")
 | bl (x:Bool):xw K H (.bl x) (.type "bool")
 | int (i:Int):xw K H (.int i) (.type "int")
 | str (x:Str):xw K H (.str x) (.type "str")
 | lst {a:aq} {xs:List V} (e:H a = some (.lst xs)):xw K H (.ref a) (.type "list")
 | frz {a:aq} {o:Obj} {xs:List V} (e:H a = some (.frz o (.lst xs))):xw K H (.ref a) (.type "list")
 | tup {a:aq} {xs:List V} (e:H a = some (.tup xs)):xw K H (.ref a) (.type "tuple")
end
end L2
namespace L2
open PySem PySem.Spec PyProof.Rows
structure jU (k:Nat) (A:bo):Prop where
 hd:A.handled = none
 dp:A.depth+3 * k+5 < recursionLimit
 un:A.units+16 * k+200 < cLine
def jU.deeper {k:Nat} {A:bo} (r:jU (k+1) A) (env:Env):jU k (A.deeper env) :=
 ⟨r.hd,by have:=r.dp;show A.depth+1+3 * k+5 < _;lia,by have:=r.un;show A.units+3+16 * k+200 < _;lia⟩
def jU.depth {k:Nat} {A:bo} (r:jU k A):A.depth < recursionLimit:=by have:=r.dp;lia
def LF:TA:=λ_ H Q=>Q [] H
def BP (ta:TE) (tr:TA):TA:=λσ H Q=>ta σ H λx H1=>tr σ H1 λxs H2=>Q (x::xs) H2
section
variable {X:Cx} {e:aG} {es:List aG} {te:TE} {t:TA} {pos:Pos}
def sG:PA X [] LF:=λ_ _ _ _ H Q I h=>Calls.spliced_nil ⟨[],H,I,.nil,h⟩
def jx (ha:PE X e te) (hr:PA X es t) (hs:starEach (e::es) X.env = (false,eval e X.env)::starEach es X.env:=by rfl):PA X (e::es) (BP te t):=by
 intro pos pins s σ H Q I h;rw [hs];show wpAny _ _ (spliced ((false,eval e X.env)::backTo pos (starEach es X.env))) _ _ s;refine Calls.spliced_cons (thn (ha pins s σ H _ I h) λu s1 ⟨x,H1,I1,r1,q1⟩=>?_);exact thn (hr pos pins s1 σ H1 _ I1 q1) λus s2 ⟨xs,H2,I2,r2,q2⟩=>⟨x::xs,H2,I2,.cons r1 r2,q2⟩
def Nf (t:TA):TE:=λσ H Q=>t σ H λxs H1=>xs.length<=sizeLine/\∀ p,H1 p = none->Q (.ref p) (upd H1 p (.tup xs))
def Nl (t:TA):TE:=λσ H Q=>t σ H λxs H1=>xs.length<=sizeLine/\∀ p,H1 p = none->Q (.ref p) (upd H1 p (.lst xs))
def CM (h:PA X es t):PE X (.Tuple es x1 pos) (Nf t):=by
 intro pins s σ H Q I hq;refine wpAny_Tuple_spliced (thn (h pos pins s σ H _ I hq) λus s1 ⟨xs,H1,I1,r,z,q⟩=>⟨by rw [<- r.length];exact z,?_⟩);have hf:H1 s1.heap.objs.size = none:=I1.hok.fresh (az _);refine ⟨.ref s1.heap.objs.size,upd H1 s1.heap.objs.size (.tup xs),I1.laid (t':=s1.toks) (λb u e=>ao _ e) (az _) ?_,rfl,q _ hf⟩;exact ⟨z,us,r,⟨_,bE _ rfl,rfl,_,rfl⟩⟩
def CO (h:PA X es t):PE X (.List es pos) (Nl t):=by
 intro pins s σ H Q I hq;refine wpAny_List_spliced (thn (h pos pins s σ H _ I hq) λus s1 ⟨xs,H1,I1,r,z,q⟩=>⟨by rw [<- r.length];exact z,?_⟩);have hf:H1 s1.heap.objs.size = none:=I1.hok.fresh (az _);refine ⟨.ref s1.heap.objs.size,upd H1 s1.heap.objs.size (.lst xs),I1.laid (t':=s1.toks) (λb u e=>ao _ e) (az _) ?_,rfl,q _ hf⟩;exact ⟨z,us,0,r,bE _ rfl⟩
end
abbrev Sp:=List V->Hp->VK->XK->Prop
abbrev CXT:=List Env->Hp->ai->XK->af->ai->Prop
structure uc (P:bp) (w:bQ) (K:PySem.W.Frag) (mg:Str->Option af) (base:cg) (A:bo) (outer:List Env) (s:ai) (H:Hp):Prop where
 frames:A.frames = some outer
 mod:Mod K mg base
 bs:∀ b o,base.get? b = some o->s.heap.get? b = some o/\H b = none
 bsz:base.objs.size<=s.heap.objs.size
 funs:s.heap.FunFrames base outer
 frf:∀ b∈frs outer,H b = none
 hok:HOk P w H s.heap
 bare:lT s.gens
def CE (outer:List Env) (P:bp) (w:bQ) (H:Hp) (s:ai) (Q:VK) (u:af) (s':ai):Prop :=
 ∃ v H',s'.os = s.os/\lT s'.gens/\Un (frs outer) [] H H' s.heap s'.heap/\HOk P w H' s'.heap/\RelV v u/\Q v H'
def CR (CX:CXT) (outer:List Env) (P:bp) (w:bQ) (H:Hp) (s:ai) (Q:VK) (E:XK) (r:EI) (s':ai):Prop :=
 match r with
 | .ok (.ret u)=>CE outer P w H s Q u s'
 | .ok _=>False
 | .error e=>CX outer H s E e s'
structure jJ (P:bp) (w:bQ) (K:PySem.W.Frag) (mg:Str->Option af) (base:cg) (CX:CXT) (k:Nat) (f:aq) (fd:eM) (ps:List Str) (sp:Sp):Prop where
 len:∀ vs H Q E,sp vs H Q E->vs.length = ps.length
 run:∀ (A:bo) (outer:List Env) (s:ai) (H:Hp) (args:Args) (us:List af) (vs:List V) (Q:VK) (E:XK),jU k A->uc P w K mg base A outer s H->BindsTo s fd args (ps.zip us)->Vals vs us->sp vs H Q E ->
  codeAny (model P w) A (.call (.ref f) args) (CR CX outer P w H s Q E) s
section
variable {X:Cx} {pins:List (aq × Obj)} {σ:St} {H:Hp} {s s':ai}
def Inv.env0 (I:Inv X pins σ H s):uc X.prog X.w X.K X.mg X.base X.A X.stack s H :=
 ⟨I.ok.frames,I.ok.mod,I.bs,bq I.ok.bsz I.sz,I.stack,I.stkFree,I.hok,I.bare⟩
def Inv.after (I:Inv X pins σ H s) (h:CE X.stack X.prog X.w H s Q u s'):EP X pins σ Q u s':=by
 obtain ⟨v,H',os,bare,un,hok,r,q⟩:=h;obtain ⟨hh,g,d,t,os'⟩:=s';obtain rfl:os' = s.os:=os;exact ⟨v,H',I.call (h':=hh) (g':=g) (d':=d) (t':=t) (ch:=[]) un hok bare (λb z=>absurd z ↥0),r,q⟩
end
def LI (sp:Sp) (dvs:List V) (E:XK) (t:TA):TE:=λσ H Q=>t σ H λvs H1=>sp (vs++dvs) H1 Q E
def Binds (K:PySem.W.Frag) (fd:eM) (ps:List Str) (ds:List af):Prop :=
 ∀ (s:ai) (us:List af),K.In s.heap->(us++ds).length = ps.length->BindsTo s fd ⟨us,[]⟩ (ps.zip (us++ds))
def Binds.all {K:PySem.W.Frag} {fd:eM} {ps:List Str} (h:∀ us:List af,us.length = ps.length->bindArgs fd ⟨us,[]⟩ = pure (ps.zip us)):Binds K fd ps []:=λs us _ hl=>by
 rw [bA] at hl |-;exact .of_eq (h us hl)
def Passes (CX:CXT) (X:Cx) (E:XK):Prop:=∀ (pins:List (aq × Obj)) (σ:St) (H:Hp) (s:ai) (e:af) (s':ai),Inv X pins σ H s->CX X.stack H s E e s'->X.xe e s'
section
variable {X:Cx} {CX:CXT} {k:Nat} {f C:aq} {fd:eM} {ps:List Str} {sp:Sp} {dvs:List V} {ds:List af} {E:XK} {x m:Str} {p pos apos:Pos} {e o:aG} {es:List aG} {ta:TE} {t:TA}
def Ji (F:jJ X.prog X.w X.K X.mg X.base CX k f fd ps sp) (hr:jU k X.A) (hb:Binds X.K fd ps ds) (hd:Vals dvs ds) (hx:Passes CX X E)
 (I:Inv X pins σ H s) (r:Vals vs us) (h:sp (vs++dvs) H Q E):wpAny (model X.prog X.w) X.A (call (.ref f) us) (EP X pins σ Q) X.xe s:=by
 have r2:Vals (vs++dvs) (us++ds):=r.append hd;have hl:(us++ds).length = ps.length:=by rw [<- r2.length];exact F.len _ _ _ _ h
 refine Lc (lQ (F.run X.A X.stack s H ⟨us,[]⟩ (us++ds) (vs++dvs) Q E hr I.env0 (hb s us I.kIn hl) r2 h) λr s' hq=>?_)
 cases r with
 | error e=>exact hx pins σ H s e s' I hq
 | ok fl =>
   cases fl with
   | ret u=>exact I.after hq
   | next=>exact cz hq
   | brk=>exact cz hq
   | cont=>exact cz hq
def sF (F:jJ X.prog X.w X.K X.mg X.base CX k f fd ps sp) (hr:jU k X.A) (hg:Gl X x) (hm:X.mg x = some (.ref f)) (hk:PySem.W.keepIn X.K (.ref f) = true) (hb:Binds X.K fd ps ds) (hd:Vals dvs ds) (hx:Passes CX X E)
 (ha:PA X (e::es) t) (hdb:(x == ("__debug__":Str)) = false:=by decide) (he:starEach (e::es) X.env = (false,eval e X.env)::starEach es X.env:=by rfl) (hpl:(backTo pos (starEach es X.env)).any (·.1) = false:=by rfl) :
 PE X (.Call (.Name x p) (e::es) [] pos) (LI sp dvs E t):=by
 intro pins s σ H Q I h;refine gL (sS I hg hm ?_ hdb);refine PySem.W.callWith_K (h₀:=X.base) I.ok.mod.kin hk (thn (ha pos pins s σ H _ I h) λus s1 ⟨vs,H1,I1,r,q⟩=>⟨I1.kIn,?_⟩) he hpl;exact Ji F hr hb hd hx I1 r q
structure Mk (K:PySem.W.Frag) (C f:aq):Prop where
 makes:PySem.W.makesIn K C = true
 init:PySem.W.findIn K (.ref C) "__init__" = some (some (.ref f))
 fn:PySem.W.isFn K (.ref f) = true
 kp:PySem.W.keepIn K (.ref C) = true
end
section
variable {X:Cx} {CX:CXT} {k:Nat} {f C:aq} {fd:eM} {ps ks:List Str} {sp:Sp} {E:XK} {x m:Str} {p pos apos kpos:Pos} {e o:aG} {es:List aG} {kws:List jk} {te ta:TE} {t tk:TA} {nm:Option Str}
structure NS (K:PySem.W.Frag) (fd:eM) (ps ks:List Str) (g:List af->List af->List af) (gV:List V->List V->List V):Prop where
 to:∀ (s:ai) (us ws:List af),K.In s.heap->(g us ws).length = ps.length->BindsTo s fd ⟨us,ks.zip ws⟩ (ps.zip (g us ws))
 rel:∀ {vs:List V} {us:List af} {zs:List V} {ws:List af},Vals vs us->Vals zs ws->Vals (gV vs zs) (g us ws)
variable {g:List af->List af->List af} {gV:List V->List V->List V}
end
structure mV (N P:List Str) (sc:eK):Prop where
 kind:sc.kind = .function
 co:sc.isCoroutine = false
 gen:sc.isGenerator = false
 nd:N.Nodup
 pre:N.take P.length = P
 par:∀ x∈P,sc.names.lookup x = some .local\/sc.names.lookup x = some .cell
 nofree:∀ y∈sc.names,y.2≠.free
def rL {kindOf:Str->Option jK} {x:Str}:∀ {binds:List (Str × af)} {m:Str->Option af},(∀ v,(x,v)∉binds)->bindL kindOf binds m x = m x
 | [],_,_=>rfl
 | (n,v)::r,m,h=>by
   unfold bindL;rw [rL λw hw=>h w (aj _ hw)];split
   . have:x≠n:=by rintro rfl;exact h v ak
     simp [this]
   . rfl
def rN {kindOf:Str->Option jK} {x:Str}:∀ {binds:List (Str × af)} {m:Str->Option af},(∀ v,(x,v)∉binds)->bindC kindOf binds m x = m x
 | [],_,_=>rfl
 | (n,v)::r,m,h=>by
   unfold bindC;rw [rN λw hw=>h w (aj _ hw)];split
   . rfl
   . have:x≠n:=by rintro rfl;exact h v ak
     simp [this]
def rM {kindOf:Str->Option jK} {x:Str} {v:af}:∀ {P:List Str} {vs:List af} {i:Nat} {m:Str->Option af},P.Nodup->P[i]? = some x->vs[i]? = some v->kindOf x = some .local ->
 bindL kindOf (P.zip vs) m x = some v
 | [],_,_,_,_,h,_,_=>by simp at h
 | _::_,[],_,_,_,_,h,_=>by simp at h
 | p::P,w::vs,0,m,nd,h1,h2,hk=>by
   simp at h1 h2;subst h1;subst h2;show bindL kindOf ((p,w)::P.zip vs) m p = _;unfold bindL;rw [rL λv hv=>(cD.mp nd).1 (fq hv).1,if_pos hk]
   simp
 | p::P,w::vs,i+1,m,nd,h1,h2,hk=>by
   show bindL kindOf ((p,w)::P.zip vs) m x = _;unfold bindL;exact rM (i:=i) (cD.mp nd).2 (by simpa using h1) (by simpa using h2) hk
def rO {kindOf:Str->Option jK} {x:Str} {v:af}:∀ {P:List Str} {vs:List af} {i:Nat} {m:Str->Option af},P.Nodup->P[i]? = some x->vs[i]? = some v->kindOf x≠some .local ->
 bindC kindOf (P.zip vs) m x = some v
 | [],_,_,_,_,h,_,_=>by simp at h
 | _::_,[],_,_,_,_,h,_=>by simp at h
 | p::P,w::vs,0,m,nd,h1,h2,hk=>by
   simp at h1 h2;subst h1;subst h2;show bindC kindOf ((p,w)::P.zip vs) m p = _;unfold bindC;rw [rN λv hv=>(cD.mp nd).1 (fq hv).1,if_neg hk]
   simp
 | p::P,w::vs,i+1,m,nd,h1,h2,hk=>by
   show bindC kindOf ((p,w)::P.zip vs) m x = _;unfold bindC;exact rO (i:=i) (cD.mp nd).2 (by simpa using h1) (by simpa using h2) hk
def start (N:List Str) (vs:List V):St:=vs.map some++aS (N.length - vs.length) none
def tL (CX:CXT) (P:bp) (w:bQ) (K:PySem.W.Frag) (mg:Str->Option af) (base:cg) (N:List Str) (qual:Str) (scope:eK) (f:aq) (cd:af) (A:bo) (outer:List Env) (s:ai) (H:Hp) (E:XK):Cx where
 prog:=P
 w:=w
 K:=K
 mg:=mg
 base:=base
 A:=A.deeper (envOfC qual scope s.heap.objs.size f cd)
 N:=N
 s₀:=s
 H₀:=H
 env:=envOfC qual scope s.heap.objs.size f cd
 outer:=outer
 stack:=envOfC qual scope s.heap.objs.size f cd::outer
 ex:=[]
 calm:=true
 fn:=λ_=>true
 pn:=[]
 xe:=λe s'=>wpAny (model P w) (A.deeper (envOfC qual scope s.heap.objs.size f cd)) (leaving (envOfC qual scope s.heap.objs.size f cd) e) (λ_ s''=>CX outer H s E e s'') (λe' s''=>CX outer H s E e' s'') s'
def vF {sc:eK} {n:Nat} {x:Str} (h:sc.names.lookup x = some .cell):∃ c,(cellsFrom n sc.names []).lookup x = some c:=by
 have q:=PySem.W.cellsFrom_some sc.names n [] (.inl h);exact ja.mp q
def Ar {CX:CXT} {P:bp} {w:bQ} {K:PySem.W.Frag} {mg:Str->Option af} {base:cg} {N ps:List Str} {qual:Str} {scope:eK} {f:aq} {cd:af} {A:bo} {outer:List Env} {s s1:ai} {H:Hp} {E:XK} {us:List af} {vs:List V}
 (S:mV N ps scope) (hd:A.handled = none) (e0:uc P w K mg base A outer s H) (hl:vs.length = ps.length) (r:Vals vs us)
 (x:InCallC s s.heap.objs.size (bindL (envOfC qual scope s.heap.objs.size f cd).kindOf (ps.zip us) λ_=>none) (cellsFrom (s.heap.objs.size+1) scope.names []) (bindC (envOfC qual scope s.heap.objs.size f cd).kindOf (ps.zip us) λ_=>none) s1) :
 Inv (tL CX P w K mg base N qual scope f cd A outer s H E) [] (start N vs) H s1:=by
 have hpl:ps.length<=N.length:=by have:=congrArg gB S.pre;rw [br] at this;lia
 obtain ⟨h1,tk,rfl,hk⟩:=x.done;have noA:∀ b:aq,b∉(tL CX P w K mg base N qual scope f cd A outer s H E).ex:=λb z=>absurd (show b∈([]:List aq) from z) ↥0
 refine ⟨⟨e0.mod,S.kind,rfl,rfl,az _,λy z c h1 h2=>?_,λy hy=>?_,λy c _ h=>?_,λ_=>hd,vQ e0.frames,.inr ⟨rfl,rfl⟩,λb z=>absurd z (noA b),e0.bs,e0.bsz,λb _ _=>noA b,λb z=>absurd z (noA b),e0.funs,e0.frf⟩,
  rfl,e0.bare,Un.kept hk,⟨_,x.toInCall.ns,λi y v h1 h2 h3=>?_⟩,λy c h=>⟨_,x.cell y c h⟩,e0.hok.fresh (az _),λy c h=>?_,λp hp=>absurd (show p∈([]:List (aq × Obj)) from hp) ↥0,e0.hok.kept hk,?_⟩
 . exact name_of_addr x.apart (PySem.mem_of_lookup h1) (PySem.mem_of_lookup h2)
 . have hy:scope.names.lookup y = some .cell\/scope.names.lookup y = some .free:=hy;rcases hy with hy | hy
   . exact vF hy
   . exact absurd rfl (S.nofree _ (PySem.mem_of_lookup hy))
 . exact kz (x.above y c (PySem.mem_of_lookup h))
 . have hi:i < vs.length:=by
    unfold start at h2;by_cases hi:i < vs.length
    . exact hi
    . rw [bh (by simpa using hi)] at h2;rw [dB] at h2;split at h2<;>cases h2
   have ha:vs[i]? = some v:=by
    unfold start at h2;rw [aR (by simpa using hi),bV] at h2
    cases e:vs[i]? with
    | none=>rw [e] at h2;cases h2
    | some a=>rw [e] at h2;cases h2;rfl
   obtain ⟨u,hu,rv⟩:=r.get ha
   have hp:ps[i]? = some y:=by
    rw [<- S.pre,eC ∅];exact h1
   have ndP:ps.Nodup:=by rw [<- S.pre];exact S.nd.sublist (EM _ _)
   refine ⟨u,rv,?_⟩;rcases S.par y (bu hp) with k | k
   . exact .inl ⟨k,rM ndP hp hu k⟩
   . obtain ⟨c,e⟩:=vF (n:=s.heap.objs.size+1) k;refine .inr ⟨.inl k,c,e,?_⟩;have q:=x.cell y c e;rw [rO ndP hp hu (by show scope.names.lookup y≠_;rw [k];decide)] at q;exact q
 . exact e0.hok.fresh (kz (x.above y c (PySem.mem_of_lookup h)))
 . unfold start;show _ = N.length;rw [ah,aB,dP]
   lia
def MH {CX:CXT} {P:bp} {w:bQ} {K:PySem.W.Frag} {mg:Str->Option af} {base:cg} {k:Nat} {f:aq} {name qual:Str} {params:oE} {body:List dE} {scope:eK} {dV kV doc pm cdv ct oc:af} {an od:Option aq}
 {osl:Array (Option af)} {N ps:List Str} {sp:Sp} (lk:K.lookup f = some ⟨oc,od,.func (PySem.W.fnOf name qual params body scope dV kV doc pm an cdv ct),osl⟩) (hcd:PySem.W.codeIn K cdv qual = true) (S:mV N ps scope)
 (len:∀ vs H Q E,sp vs H Q E->vs.length = ps.length)
 (hbody:∀ (A:bo) (outer:List Env) (s:ai) (H:Hp) (vs:List V) (Q:VK) (E:XK),jU k (A.deeper (envOfC qual scope s.heap.objs.size f cdv))->sp vs H Q E ->
   ∃ t,PSs (tL CX P w K mg base N qual scope f cdv A outer s H E) body t/\t { nx:=λ_ H'=>Q .non H',rt:=Q } (start N vs) H) :
 jJ P w K mg base CX (k+1) f (PySem.W.fnOf name qual params body scope dV kV doc pm an cdv ct) ps sp:=by
 refine ⟨len,λA outer s H args us vs Q E hr e0 hb r hsp=>?_⟩;have hl:=len _ _ _ _ hsp;have KX:K.In s.heap:=e0.mod.kin.keeps λb o e=>(e0.bs b o e).1;have lim:s.heap.NoLimit:=e0.mod.nolimit.keeps λb o e=>(e0.bs b o e).1
 have hkind:∀ y∈ps.zip us,scope.names.lookup y.1 = some .local\/(scope.names.lookup y.1 = some .cell/\((cellsFrom (s.heap.objs.size+1) scope.names []).lookup y.1).isSome = true):=λ⟨n,v⟩ hy=>by
  rcases S.par n (fq hy).1 with q | q
  . exact .inl q
  . exact .inr ⟨q,PySem.W.cellsFrom_some _ _ _ (.inl q)⟩
 refine codeAny_call_function hr.depth (KX _ _ lk) rfl S.co S.gen rfl (PySem.W.codeRec_of KX hcd) (hb _ _ _ _ ?_);refine wpAny_newFunctionEnv_cells S.kind hkind λenv he s1 x=>?_;subst he;refine ⟨lim.keeps x.toInCall.keep,codeAny_func ?_⟩;obtain ⟨t,ht,hq⟩:=hbody A outer s H vs Q E (hr.deeper _) hsp;have I:Inv (tL CX P w K mg base N qual scope f cdv A outer s H E) [] (start N vs) H s1:=Ar S hr.hd e0 hl r x;refine fx (ht [] s1 (start N vs) H _ I hq) (λfl s' hs=>?_) λe s' hs=>hs
 have fin:∀ {σ':St} {H':Hp} {v:V} {u:af},Inv (tL CX P w K mg base N qual scope f cdv A outer s H E) [] σ' H' s'->RelV v u->Q v H'->CE outer P w H s Q u s' :=
  λ{σ' H' v u} J rv q=>⟨v,H',J.os,J.bare,J.base,J.hok,rv,q⟩
 cases fl with
 | ret u =>
   obtain ⟨v,σ',H',J,rv,q⟩:=hs
   exact fin J rv q
 | next =>
   obtain ⟨σ',H',J,q⟩:=hs
   exact fin (v:=V.non) (u:=bT) J rfl q
 | brk =>
   obtain ⟨_,_,_,q⟩:=hs
   exact cz q
 | cont =>
   obtain ⟨_,_,_,q⟩:=hs;exact cz q
end L2
namespace L2
open PySem PySem.Spec PyProof.Rows
section
variable {X:Cx} {x:Str} {p pos:Pos} {e:aG} {es:List aG} {t:TA} {id T:String} {r:List V->Hp->VK->Prop}
def tCB (r:List V->Hp->VK->Prop) (t:TA):TE:=λσ H Q=>t σ H λvs H1=>r vs H1 Q
def pU (hc:dG X (.builtin id) r) (hg:Gl X x) (hm:X.mg x = none) (hv:bootBuiltins x = some (.builtin id)) (ha:PA X (e::es) t) (hn:x≠"__name__":=by decide) (hdb:(x == ("__debug__":Str)) = false:=by decide)
 (he:starEach (e::es) X.env = (false,eval e X.env)::starEach es X.env:=by rfl) (hpl:(backTo pos (starEach es X.env)).any (·.1) = false:=by rfl):PE X (.Call (.Name x p) (e::es) [] pos) (tCB r t):=by
 intro pins s σ H Q I h;refine gL (qg I hg hm hv ?_ hn hdb);exact PyProof.Rows.callWith_builtin1 (thn (ha pos pins s σ H _ I h) λus s1 ⟨vs,H1,I1,r1,q1⟩=>hc pins s1 σ H1 vs us Q I1 r1 q1) he hpl
def jd (hc:dG X (.type T) r) (hg:Gl X x) (hm:X.mg x = none) (hv:bootBuiltins x = some (.type T)) (ha:PA X (e::es) t) (hn:x≠"__name__":=by decide) (hdb:(x == ("__debug__":Str)) = false:=by decide)
 (he:starEach (e::es) X.env = (false,eval e X.env)::starEach es X.env:=by rfl) (hpl:(backTo pos (starEach es X.env)).any (·.1) = false:=by rfl):PE X (.Call (.Name x p) (e::es) [] pos) (tCB r t):=by
 intro pins s σ H Q I h;refine gL (qg I hg hm hv ?_ hn hdb);exact gS (thn (ha pos pins s σ H _ I h) λus s1 ⟨vs,H1,I1,r1,q1⟩=>hc pins s1 σ H1 vs us Q I1 r1 q1) he hpl
end
end L2
namespace HT
open PySem PyProof.Rows
section
open PySem.SeqAt
open PySem.AutoSeq1 (wpAny_loadPart')
open PySem.MeetsSeq PySem.MeetsSeq2 PySem.MeetsSeq3
end
section
variable {prog:bp} {w:bQ} {A:bo} {E:af->ai->Prop} {s:ai}
def cat_tup (ht:HD s.heap t vs.toArray) (hb:HD s.heap b ws.toArray) (hv:vs≠[])
 (h1:ws = []->Q (.ref t) s) (h2:ws≠[]->Q (.ref s.heap.objs.size) { s with heap:=s.heap.push { cls:=.type "tuple",data:=.seq (vs++ws).toArray } })
 (hsz:vs.length+ws.length<=sizeLine):wpAny (model prog w) A (binaryOp .Add (.ref t) (.ref b)) Q E s:=by
 obtain ⟨⟨cls,dd,data,sl⟩,ho,hc,n,hd⟩:=id ht;obtain ⟨⟨cls2,dd2,data2,sl2⟩,ho2,hc2,n2,hd2⟩:=id hb;simp only at hc hd hc2 hd2;subst hc hd hc2 hd2;have e:vs.toArray++ws.toArray = (vs++ws).toArray:=by simp
 by_cases hw:ws = []
 . exact EG ⟨_,ho,rfl⟩ ⟨_,ho2,rfl⟩ ue AG PySem.F.slot_tuple_add PySem.F.entry_tuple_add (PySem.F.args_tuple_add_2 _ _)
    (tuple_addW1 t b vs.toArray ws.toArray n n2 dd dd2 sl sl2 (by simpa using hv) (by simp [hw])) ⟨ho,ho2,h1 hw⟩
 . refine EG ⟨_,ho,rfl⟩ ⟨_,ho2,rfl⟩ ue AG PySem.F.slot_tuple_add PySem.F.entry_tuple_add (PySem.F.args_tuple_add_2 _ _)
    (tuple_addW2 t b vs.toArray ws.toArray n n2 dd dd2 sl sl2 (by simpa using hv) (by simpa using hw) (by rw [aI,aI];exact hsz)) ⟨ho,ho2,?_⟩
   rw [e];exact h2 hw
def sIx (n d:Nat):Option Int->Nat
 | none=>d
 | some v=>if v < 0 then (v+(n:Int)).toNat else min v.toNat n
def Jh (n d:Nat) (hd:d<=n) (o:Option Int):sIx n d o<=n:=by
 cases o with
 | none=>exact hd
 | some v =>
   show (if v < 0 then (v+(n:Int)).toNat else min v.toNat n)<=n;by_cases hv:v < 0
   . rw [if_pos hv];lia
   . rw [if_neg hv];exact qz _ _
def yX (v:Int) (n d:Nat):(if v < 0 then max (v+(n:Int)) 0 else min v (n:Int)) = ((sIx n d (some v):Nat):Int):=by
 show (if v < 0 then max (v+(n:Int)) 0 else min v (n:Int)) = (((if v < 0 then (v+(n:Int)).toNat else min v.toNat n):Nat):Int);by_cases hv:v < 0
 . simp only [if_pos hv];lia
 . simp only [if_neg hv];lia
def xv (lo hi:Option Int) (n:Nat):ic lo hi 1 (n:Int) = (((sIx n 0 lo:Nat):Int),((sIx n n hi:Nat):Int)):=by
 have h1:¬ ((1:Int) < 0):=by lia
 unfold ic;simp only [h1,if_false];refine Prod.ext ?_ ?_
 . cases lo with
   | none=>rfl
   | some v=>exact yX v n 0
 . cases hi with
   | none=>rfl
   | some v=>exact yX v n n
def wH (i j:Nat):ft (i:Int) (j:Int) 1 = j - i:=by
 unfold ft;have h1:(1:Int) > 0:=by lia
 simp only [h1,if_true,Int.ediv_one];split<;>lia
def pL {v:af} {o:Option Int} {Q:Option Int->ai->Prop} (p:qA v o) (h:Q o s):wpAny (model prog w) A (Builtin.Slice.slicePartIndex v) Q E s:=by
 cases p with
 | none=>exact slicePart_none h
 | int i t=>exact slicePart_int h
def ny {sl:aq} {vl vu:af} {lo hi:Option Int} {n:Nat} {Q:Int × Int × Nat->ai->Prop} (hs:s.heap.IsSliceOf sl vl vu .none) (pl:qA vl lo) (pu:qA vu hi)
 (h:Q (((sIx n 0 lo:Nat):Int),1,sIx n n hi - sIx n 0 lo) s):wpAny (model prog w) A (mW (.ref sl) (pure (n:Int))) Q E s:=by
 obtain ⟨os,hos,hcs,hds⟩:=id hs;unfold mW Builtin.Slice.sliceFields;refine ag (ag (cQ hos hds (x:=vl) rfl (ag (cQ hos hds (x:=vu) rfl (ag (cQ hos hds (x:=.none) rfl (aH ?_)))))));refine ag (slicePart_none ?_);show wpAny _ _ (if ((1:Int) == 0) = true then _ else _) _ _ s;rw [if_neg ⇑0];refine ag (pL pl (ag (pL pu (ag (aH ?_)))));show wpAny _ _ (match ic lo hi 1 (n:Int) with | (lo,hi)=>pure (lo,(1:Int),ft lo hi 1)) _ _ s;rw [xv lo hi n];show wpAny _ _ (pure (((sIx n 0 lo:Nat):Int),(1:Int),ft ((sIx n 0 lo:Nat):Int) ((sIx n n hi:Nat):Int) 1)) _ _ s;rw [wH];exact aH h
def CJ (xs:Array af) (i k:Nat):((dJ k).filterMap λ(m:Nat)=>xs[((i:Int)+(m:Int) * 1).toNat]?).toArray = ((xs.toList.drop i).take k).toArray:=by
 have e:(λ(m:Nat)=>xs[((i:Int)+(m:Int) * 1).toNat]?) = λm=>xs[i+m]? := by
  funext m
  have:((i:Int)+(m:Int) * 1).toNat = i+m:=by lia
  rw [this]
 rw [e];have:=pick_run xs i k;rw [List.filterMap_map] at this;have e2:((λx=>xs[x]?) ∘ λx=>i+x) = λm=>xs[i+m]? := rfl;rw [e2] at this;rw [this]
def getItem_tuple_cut {t sl:aq} {items:Array af} {vl vu:af} {lo hi:Option Int} {Q:af->ai->Prop} (ht:HD s.heap t items) (hs:s.heap.IsSliceOf sl vl vu .none) (pl:qA vl lo) (pu:qA vu hi)
 (hw:¬ (sIx items.size 0 lo = 0/\sIx items.size items.size hi = items.size))
 (h:Q (.ref s.heap.objs.size) { s with heap:=s.heap.push { cls:=.type "tuple",data:=.seq ((items.toList.drop (sIx items.size 0 lo)).take (sIx items.size items.size hi - sIx items.size 0 lo)).toArray } })
 (hsz:items.size<=sizeLine):wpAny (model prog w) A (getItem (.ref t) (.ref sl)) Q E s:=by
 have htake:sizeOk (.seq ((items.toList.drop (sIx items.size 0 lo)).take (sIx items.size items.size hi - sIx items.size 0 lo)).toArray):=by
  show ((items.toList.drop (sIx items.size 0 lo)).take (sIx items.size items.size hi - sIx items.size 0 lo)).toArray.size<=sizeLine;rw [aI,br,cJ,bt];omega
 have hj:sIx items.size items.size hi<=items.size:=Jh _ _ (az _) hi;obtain ⟨os,hos,hcs,hds⟩:=id hs;have hTs:s.TypeIs (.ref sl) "slice":=⟨os,hos,hcs⟩;unfold getItem
 try with_reducible refine dR ?_
 first | refine ag (aH ?_) | skip
 refine ag (wpAny_sequenceKey ht.typeIs ⇑0 ?_)
 refine ag (fg (name:=ky "__getitem__") ht.typeIs kW
  (ff kW ht.typeIs entry_tuple_getitem ?_ (args_tuple_getitem _ _)))
 show wpAny _ _ (Builtin.Tuple.tupleItemsOf (.ref t) >>= _) _ _ s;refine ag (tupleItemsOf_ ht ?_);refine ag (wpAny_typeOf hTs ?_);rw [if_pos ⇑0];refine ag (ny hs pl pu ?_)
 have hno:¬ ((((sIx items.size 0 lo:Nat):Int) == 0 && (1:Int) == 1 && (sIx items.size items.size hi - sIx items.size 0 lo) == items.size) = true):=by
  intro q;rw [aa,aa] at q;have q1:((sIx items.size 0 lo:Nat):Int) = 0:=eq_of_beq q.1.1;have q2:sIx items.size items.size hi - sIx items.size 0 lo = items.size:=eq_of_beq q.2;exact hw ⟨by omega,by omega⟩
 show wpAny _ _ (if (((sIx items.size 0 lo:Nat):Int) == 0 && (1:Int) == 1 && (sIx items.size items.size hi - sIx items.size 0 lo) == items.size) = true then _ else _) _ _ s;rw [if_neg hno,CJ]
 first
  | exact ag (m:=fy _) (cU (aH ⟨_,rfl,aH h⟩) htake)
  | exact ag (m:=fy _) (cU (ag (aH (aH ⟨_,rfl,aH h⟩))) htake)
  | exact ag (ag (m:=fy _) (cU (aH (aH ⟨_,rfl,aH h⟩)) htake))
  | exact ag (ag (m:=fy _) (cU (aH ⟨_,rfl,aH h⟩) htake))
end
end HT
namespace L2
open PySem PySem.Spec PyProof.Rows
abbrev TO:=St->Hp->(Option Int->Hp->Prop)->Prop
def PO (X:Cx) (e:Option aG) (t:TO):Prop :=
 ∀ (pins:List (aq × Obj)) (s:ai) (σ:St) (H:Hp) (Q:Option Int->Hp->Prop),Inv X pins σ H s->t σ H Q ->
  wpAny (model X.prog X.w) X.A (evalPart e X.env) (λu s'=>∃ o H',Inv X pins σ H' s'/\qA u o/\Q o H') X.xe s
def Fx:TO:=λ_ H Q=>Q none H
def LC (t:TE):TO:=λσ H Q=>t σ H λx H1=>∃ i,x = .int i/\Q (some i) H1
section
variable {X:Cx} {e:aG} {te:TE} {lo hi:Option aG} {tl th:TO} {pos p2:Pos}
def Gu:PO X none Fx:=by
 intro pins s σ H Q I h;rw [evalPart_none];exact aH ⟨none,H,I,.none,h⟩
def Gr (h:PE X e te):PO X (some e) (LC te):=by
 intro pins s σ H Q I hw;rw [evalPart_some];refine thn (h pins s σ H _ I hw) λu s1 zz=>?_;obtain ⟨x,H1,I1,r1,q1⟩:=zz;obtain ⟨i,rfl,q⟩:=q1;obtain ⟨t,rfl⟩:=r1;exact ⟨some i,H1,I1,.int i t,q⟩
def SlR (X:Cx) (r:V->Option Int->Option Int->Hp->VK->Prop):Prop :=
 ∀ (pins:List (aq × Obj)) (s:ai) (σ:St) (H:Hp) (x:V) (v vl vu:af) (lo hi:Option Int) (sl:aq) (Q:VK),Inv X pins σ H s->RelV x v->s.heap.IsSliceOf sl vl vu .none->qA vl lo->qA vu hi->r x lo hi H Q ->
  ∃ T id,typeLookup (.type T) "__getitem__" = pure (some (.builtin id))/\s.TypeIs v T/\wpAny (model X.prog X.w) X.A (getItem v (.ref sl)) (EP X pins σ Q) X.xe s
def SlR.or {r r':V->Option Int->Option Int->Hp->VK->Prop} (h:SlR X r) (h':SlR X r'):SlR X (λx lo hi H Q=>r x lo hi H Q\/r' x lo hi H Q):=by
 intro pins s σ H x v vl vu lo hi sl Q I rx hs pl pu q;rcases q with q | q
 . exact h pins s σ H x v vl vu lo hi sl Q I rx hs pl pu q
 . exact h' pins s σ H x v vl vu lo hi sl Q I rx hs pl pu q
def tSl (r:V->Option Int->Option Int->Hp->VK->Prop) (te:TE) (tl th:TO):TE:=λσ H Q=>te σ H λx H1=>tl σ H1 λl H2=>th σ H2 λu H3=>r x l u H3 Q
def uU (hr:SlR X r) (he:PE X e te) (hl:PO X lo tl) (hu:PO X hi th):PE X (.Subscript e (.Slice lo hi none p2) pos) (tSl r te tl th):=by
 intro pins s σ H Q I h;refine Subscript_ (thn (he pins s σ H _ I h) λv s1 ⟨x,H1,I1,r1,q1⟩=>?_);refine wpAny_Slice (thn (hl pins s1 σ H1 _ I1 q1) λvl s2 ⟨l,H2,I2,pl,q2⟩=>thn (hu pins s2 σ H2 _ I2 q2) λvu s3 ⟨u,H3,I3,pu,q3⟩=>?_);rw [evalPart_none];refine aH ?_;have I4:Inv X pins σ H3 { s3 with heap:=s3.heap.push { cls:=.type "slice",data:=.fields #[vl,vu,.none] } }:=I3.kept (t':=s3.toks) λb ob q=>ao _ q;obtain ⟨T,id,hT,ht,hg⟩:=hr pins { s3 with heap:=s3.heap.push { cls:=.type "slice",data:=.fields #[vl,vu,.none] } } σ H3 x v vl vu l u s3.heap.objs.size Q I4 r1 (Heap.IsSliceOf.new ..) pl pu q3;show wpAny (model X.prog X.w) X.A (subscriptTail e (.Slice lo hi none p2) v (.ref s3.heap.objs.size)) (EP X pins σ Q) X.xe { s3 with heap:=s3.heap.push { cls:=.type "slice",data:=.fields #[vl,vu,.none] } };exact tail_any (ops:=[.ref s3.heap.objs.size,v]) ht hT hg (by with_unfolding_all rfl)
def qJ (xs:List V) (lo hi:Option Int):List V:=(xs.drop (HT.sIx xs.length 0 lo)).take (HT.sIx xs.length xs.length hi - HT.sIx xs.length 0 lo)
def oj (xs:List V) (lo hi:Option Int):(qJ xs lo hi).length<=xs.length:=by
 unfold qJ;rw [br,cJ]
 lia
def Nv (K:PySem.W.Frag):V->Option Int->Option Int->Hp->VK->Prop:=λx lo hi H Q=>∃ a xs,x = .ref a/\SqT K H a xs /\
 ¬ (HT.sIx xs.length 0 lo = 0/\HT.sIx xs.length xs.length hi = xs.length)/\∀ p,H p = none->Q (.ref p) (upd H p (.tup (qJ xs lo hi)))
def Je:SlR X (Nv X.K):=by
 intro pins s σ H x v vl vu lo hi sl Q I rx hs pl pu h;obtain ⟨a,xs,rfl,hx,hw,q⟩:=h;cases rx;obtain ⟨its,r,ht,hz⟩:=I.tuple hx;have hlen:its.toArray.size = xs.length:=by rw [aI];exact r.length.symm
 refine ⟨"tuple",_,PyProof.Rows.slot_tuple_getitem.lookup,ht.typeIs,?_⟩;refine HT.getItem_tuple_cut ht hs pl pu (by rw [hlen];exact hw) ?_ (by rw [hlen];exact hz);rw [hlen];refine ⟨.ref s.heap.objs.size,_,I.laid (t':=s.toks) (o:=.tup (qJ xs lo hi)) (λb ob q=>ao _ q) (az _) ?_,rfl,q _ (I.hok.fresh (az _))⟩;exact ⟨bq (oj xs lo hi) hz,_,(r.drop (HT.sIx xs.length 0 lo)).take (HT.sIx xs.length xs.length hi - HT.sIx xs.length 0 lo),ui _ _⟩
def LX (K:PySem.W.Frag):R2:=λx y H Q=>∃ a b xs ys,x = .ref a/\y = .ref b/\SqT K H a xs/\SqT K H b ys/\xs≠[]/\xs.length+ys.length<=sizeLine /\
 (ys = []->Q (.ref a) H)/\(ys≠[]->∀ p,H p = none->Q (.ref p) (upd H p (.tup (xs++ys))))
def Vals.nil_iff (r:Vals xs us):us = []↔xs = []:=by
 cases r with
 | nil=>simp
 | cons _ _=>simp
def GG:OpR X (binaryOp .Add) (LX X.K):=by
 intro pins s σ H x y v u Q I rx ry h;obtain ⟨a,b,xs,ys,rfl,rfl,ha,hb,hx,hz,q1,q2⟩:=h;cases rx;cases ry;obtain ⟨its,r1,p1,_⟩:=I.tuple ha;obtain ⟨its2,r2,p2,_⟩:=I.tuple hb;refine HT.cat_tup p1 p2 (λz=>hx (r1.nil_iff.mp z)) (λz=>⟨.ref a,H,I,rfl,q1 (r2.nil_iff.mp z)⟩) (λz=>?_) (by rw [<- r1.length,<- r2.length];exact hz);refine ⟨.ref s.heap.objs.size,_,I.laid (t':=s.toks) (o:=.tup (xs++ys)) (λb ob q=>ao _ q) (az _) ?_,rfl,q2 (λw=>z (r2.nil_iff.mpr w)) _ (I.hok.fresh (az _))⟩;exact ⟨by rw [ah];exact hz,_,r1.append r2,ui _ _⟩
end
end L2
namespace L2
open PySem PySem.Spec PyProof.Rows
def ixN (n:Nat) (i:Int):Option Nat:=if 0<=i then (if i < n then some i.toNat else none) else if -(n:Int)<=i then some (i+n).toNat else none
def atI {α:Type} (xs:List α) (i:Int):Option α:=(ixN xs.length i).bind λj=>xs[j]?
def yz (h:ixN n i = some j):seqIndex? i n = some j/\j < n/\-(n:Int)<=i/\i < n:=by
 unfold ixN at h;by_cases h0:0<=i
 . rw [if_pos h0] at h;by_cases h1:i < n
   . rw [if_pos h1] at h;have e:i.toNat = j:=bR h;exact ⟨by rw [Hw h0 h1,e],∅,∅,h1⟩
   . rw [if_neg h1] at h;cases h
 . rw [if_neg h0] at h;by_cases h1:-(n:Int)<=i
   . rw [if_pos h1] at h;have e:(i+n).toNat = j:=bR h;exact ⟨by rw [EF ∅ h1,e],∅,h1,∅⟩
   . rw [if_neg h1] at h;cases h
def tY {α:Type} {xs:List α} {i:Int} {v:α} (h:atI xs i = some v):∃ j,seqIndex? i xs.length = some j/\xs[j]? = some v/\j < xs.length/\-(xs.length:Int)<=i/\i < xs.length:=by
 unfold atI at h
 cases e:ixN xs.length i with
 | none=>rw [e] at h;cases h
 | some j =>
   rw [e] at h;obtain ⟨h1,h2,h3,h4⟩:=yz e;exact ⟨j,h1,h,h2,h3,h4⟩
def atI_nat {α:Type} {xs:List α} {j:Nat} {v:α} (h:xs[j]? = some v):atI xs (j:Int) = some v:=by
 have hj:j < xs.length:=(aA.mp h).1
 have e:ixN xs.length (j:Int) = some j:=by
  unfold ixN;rw [if_pos ∅,if_pos ∅];simp
 unfold atI;rw [e];exact h
def PlainIx (b:aG):Prop:=∀ o i,subscripted b false o i = operate [o,i] (getItem o i)
def IxR (X:Cx) (r:R2):Prop :=
 ∀ (value slice:aG) (pins:List (aq × Obj)) (s:ai) (σ:St) (H:Hp) (x y:V) (v u:af) (Q:VK),Inv X pins σ H s->RelV x v->RelV y u->r x y H Q ->
  subscripted slice false v u = operate [v,u] (getItem v u)->wpAny (model X.prog X.w) X.A (subscriptTail value slice v u) (EP X pins σ Q) X.xe s
def MtR (X:Cx) (id:String) (r:V->List V->Hp->VK->Prop):Prop :=
 ∀ (pins:List (aq × Obj)) (s:ai) (σ:St) (H:Hp) (x:V) (xs:List V) (v:af) (us:List af) (Q:VK),Inv X pins σ H s->RelV x v->Vals xs us->r x xs H Q ->
  wpAny (model X.prog X.w) X.A (call (.builtin id) (v::us)) (EP X pins σ Q) X.xe s
section
variable {X:Cx} {a b:aG} {ta tb:TE} {pos:Pos}
def IxR.or {r r':R2} (h:IxR X r) (h':IxR X r'):IxR X (λx y H Q=>r x y H Q\/r' x y H Q):=by
 intro value slice pins s σ H x y v u Q I rx ry q hs;rcases q with q | q
 . exact h value slice pins s σ H x y v u Q I rx ry q hs
 . exact h' value slice pins s σ H x y v u Q I rx ry q hs
def Mg (hr:IxR X r) (ha:PE X a ta) (hb:PE X b tb) (hs:PlainIx b):PE X (.Subscript a b pos) (tOp r ta tb):=by
 intro pins s σ H Q I h;exact Subscript_ (KU ha hb I h λv u s2 x y H2 I2 rx ry q=>hr a b pins s2 σ H2 x y v u Q I2 rx ry q (hs _ _))
def LV (K:PySem.W.Frag):R2:=λx y H Q=>∃ p xs i v,x = .ref p/\y = .int i/\SqL K H p xs/\atI xs i = some v/\Q v H
def LS (K:PySem.W.Frag):R2:=λx y H Q=>∃ p xs i v,x = .ref p/\y = .int i/\SqT K H p xs/\atI xs i = some v/\Q v H
def LU:R2:=λx y H Q=>∃ z i c,x = .str z/\y = .int i/\z.length<=sizeLine/\atI z.cps.toList i = some c/\Q (.str ⟨#[c]⟩) H
def GX:IxR X (LV X.K):=by
 intro value slice pins s σ H x y v u Q I rx ry h hs;obtain ⟨p,xs,i,z,rfl,rfl,hq,he,q⟩:=h;cases rx;obtain ⟨t,rfl⟩:=ry;obtain ⟨its,r,pl,hz⟩:=I.list hq;obtain ⟨j,h1,h2,h3,h4,h5⟩:=tY he;obtain ⟨w,ew,rw'⟩:=r.get h2;have hl:=r.length;have hn:=lI;have fin:EP X pins σ Q w s:=⟨z,H,I,rw',q⟩;by_cases h0:0<=i
 . have hj:i.toNat = j:=by
    rw [Hw h0 h5] at h1;exact bR h1
   exact item_listR pl.isList h0 ∅ (by rw [hj];simpa using ew) fin hs
 . have hj:(i+(its.toArray.size:Int)).toNat = j:=by
    rw [EF ∅ h4] at h1;rw [aI,<- hl];exact bR h1
   exact EE (x:=w) pl.isList.typeIs slot_list_getitem.lookup
    (wpAny_getItem_list_neg (Q:=λr s'=>r = w/\EP X pins σ Q r s') pl.isList ∅ (by rw [aI]<;>lia) ∅ (by rw [hj];simpa using ew) ⟨rfl,fin⟩) hs
def Ks:IxR X (LS X.K):=by
 intro value slice pins s σ H x y v u Q I rx ry h hs;obtain ⟨p,xs,i,z,rfl,rfl,hq,he,q⟩:=h;cases rx;obtain ⟨t,rfl⟩:=ry;obtain ⟨its,r,pl,hz⟩:=I.tuple hq;obtain ⟨j,h1,h2,h3,h4,h5⟩:=tY he;obtain ⟨w,ew,rw'⟩:=r.get h2;have hl:=r.length;have hn:=lI;have fin:EP X pins σ Q w s:=⟨z,H,I,rw',q⟩
 exact EE (x:=w) pl.typeIs slot_tuple_getitem.lookup
  (getItem_tuple (j:=j) (Q:=λr s'=>r = w/\EP X pins σ Q r s') pl ∅ ∅ (by rw [aI,<- hl];exact h1) (by simpa using ew) ⟨rfl,fin⟩) hs
def Kt:IxR X LU:=by
 intro value slice pins s σ H x y v u Q I rx ry h hs;obtain ⟨z,i,c,rfl,rfl,hz,he,q⟩:=h;obtain ⟨t,rfl⟩:=rx;obtain ⟨t',rfl⟩:=ry;obtain ⟨j,h1,h2,h3,h4,h5⟩:=tY he;have hl:z.cps.toList.length = z.length:=by simp [Str.length]
 rw [hl] at h1 h4 h5;have hn:=lI
 exact tail_any (xy s z t) slot_str_getitem.lookup (getItem_str (c:=c) (by
  have e1:decide (i < -(2 ^ 63:Int)) = false:=decide_eq_false ∅;have e2:decide (i ≥ 2 ^ 63) = false:=decide_eq_false ∅;rw [e1,e2,Bool.or_false]) (by rw [h1];simpa using h2) ⟨.str ⟨#[c]⟩,H,I.tok _,⟨_,rfl⟩,q⟩) hs
def rIx (K:PySem.W.Frag):R2:=λx y H Q=>LV K x y H Q\/LS K x y H Q\/LU x y H Q
def Ku:IxR X (rIx X.K):=GX.or (Ks.or Kt)
def wZ (its:List af) (n j:Nat) (u:af):bL (·.setIfInBounds j u) { cls:=.type "list",data:=.seq its.toArray n } = { cls:=.type "list",data:=.seq (its.set j u).toArray n }:=by
 simp [bL]
def Inv.lst {pins:List (aq × Obj)} {σ:St} {H:Hp} {s:ai} {p:aq} {xs:List V} (I:Inv X pins σ H s) (h:H p = some (.lst xs)) :
 ∃ (its:List af) (n:Nat),Vals xs its/\s.heap.get? p = some { cls:=.type "list",data:=.seq its.toArray n }/\xs.length<=sizeLine:=by
 obtain ⟨z,its,n,r,e⟩:=I.hok p _ h;exact ⟨its,n,r,e,z⟩
def Inv.lstUpd {pins:List (aq × Obj)} {σ:St} {H:Hp} {s:ai} {p:aq} {xs ys:List V} {its its':List af} {n n':Nat} {f:Obj->Obj} (I:Inv X pins σ H s) (h:H p = some (.lst xs))
 (ho:s.heap.get? p = some { cls:=.type "list",data:=.seq its.toArray n }) (hf:f { cls:=.type "list",data:=.seq its.toArray n } = { cls:=.type "list",data:=.seq its'.toArray n' }) (r:Vals ys its') (hz:ys.length<=sizeLine) (t:Nat) :
 Inv X pins σ (upd H p (.lst ys)) { s with heap:=s.heap.update p f,toks:=t }:=by
 have e:(s.heap.update p f).get? p = some { cls:=.type "list",data:=.seq its'.toArray n' }:=by
  rw [xE f ho (by rw [hf]<;>rfl),hf]
 refine I.write (x:=p) (e:=p) (by rw [h];trivial) (.inl rfl) (λb u hb q=>(dH _ _ (Ne.symm hb)).trans q) ⟨_,e⟩ ?_;exact ⟨hz,its',n',r,e⟩
def LR:V->V->V->Hp->(Hp->Prop)->Prop:=λo i v H Q=>∃ p xs k j,o = .ref p/\i = .int k/\H p = some (.lst xs)/\ixN xs.length k = some j/\Q (upd H p (.lst (xs.set j v)))
def set_list:MV X LR:=by
 intro pins s σ H o i v ov iv u Q I ro ri rv h;obtain ⟨p,xs,k,j,rfl,rfl,hp,hj,q⟩:=h;cases ro;obtain ⟨t,rfl⟩:=ri;obtain ⟨its,n,r,ho,hz⟩:=I.lst hp;obtain ⟨h1,h2,h3,h4⟩:=yz hj;have hl:=r.length;have hn:=lI
 have I':Inv X pins σ (upd H p (.lst (xs.set j v))) { s with heap:=s.heap.update p (bL (·.setIfInBounds j u)) } :=
  I.lstUpd hp ho (wZ its n j u) (r.set rv j) (by rw [cj];exact hz) s.toks
 by_cases h0:0<=k
 . have hk:k.toNat = j:=by
    rw [Hw h0 h4] at h1;exact bR h1
   exact PySem.W.ki_setAt ho h0 ∅ (by rw [aI,<- hl];exact h4) (by rw [hk];exact ⟨_,I',q⟩)
 . have hk:(k+(its.toArray.size:Int)).toNat = j:=by
    rw [EF ∅ h3] at h1;rw [aI,<- hl];exact bR h1
   exact PySem.W.ki_setBack ho ∅ (by rw [aI,<- hl];exact h3) ∅ (by rw [hk];exact ⟨_,I',q⟩)
def sj (lo hi:Option Int) (n:Nat):(sliceBounds lo hi none n).1 = ((HT.sIx n 0 lo:Nat):Int)/\(sliceBounds lo hi none n).2.1 = ((HT.sIx n n hi:Nat):Int)/\(sliceBounds lo hi none n).2.2 = 1:=by
 refine ⟨?_,?_,rfl⟩
 . cases lo with
   | none=>simp [sliceBounds,HT.sIx]
   | some i =>
     simp only [sliceBounds,HT.sIx,AQ,show (1:Int) > 0 by decide,if_true];by_cases h:i < 0
     . simp only [h,if_true]<;>lia
     . simp only [h,if_false]<;>lia
 . cases hi with
   | none=>simp [sliceBounds,HT.sIx]
   | some i =>
     simp only [sliceBounds,HT.sIx,AQ,show (1:Int) > 0 by decide,if_true];by_cases h:i < 0
     . simp only [h,if_true]<;>lia
     . simp only [h,if_false]<;>lia
def qF (its:List af) (lo hi:Option Int):slicePick its.toArray lo hi none = ((its.drop (HT.sIx its.length 0 lo)).take (HT.sIx its.length its.length hi - HT.sIx its.length 0 lo)).toArray:=by
 obtain ⟨h1,h2,h3⟩:=sj lo hi its.toArray.size;unfold slicePick;rw [h1,h2,h3];simp only [sliceRange_one,pick_run,aI]<;>rfl
def Nx (K:PySem.W.Frag):V->Option Int->Option Int->Hp->VK->Prop:=λx lo hi H Q=>∃ a xs,x = .ref a/\SqL K H a xs/\∀ p,H p = none->Q (.ref p) (upd H p (.lst (qJ xs lo hi)))
def xR:SlR X (Nx X.K):=by
 intro pins s σ H x v vl vu lo hi sl Q I rx hs pl pu h;obtain ⟨a,xs,rfl,hx,q⟩:=h;cases rx;obtain ⟨its,r,ht,hz⟩:=I.list hx;have hlen:=r.length;refine ⟨"list",_,slot_list_getitem.lookup,ht.isList.typeIs,?_⟩;refine wpAny_getItem_list_slice ht.isList hs pl pu .none ↥0 ?_ (by rw [aI]<;>lia);rw [qF,<- hlen];refine ⟨.ref s.heap.objs.size,_,I.laid (t':=s.toks) (o:=.lst (qJ xs lo hi)) (λb ob q=>ao _ q) (az _) ?_,rfl,q _ (I.hok.fresh (az _))⟩;exact ⟨bq (oj xs lo hi) hz,_,0,(r.drop (HT.sIx xs.length 0 lo)).take (HT.sIx xs.length xs.length hi - HT.sIx xs.length 0 lo),bE _ rfl⟩
def tX:dG X (.builtin "len") (λxs H Q=>∃ p ys,xs = [.ref p]/\(SqL X.K H p ys\/SqT X.K H p ys)/\Q (.int ys.length) H):=by
 intro pins s σ H xs us Q I r h;obtain ⟨p,ys,rfl,hq,q⟩:=h;obtain ⟨u,rfl,rx⟩:=vals1 r;cases rx;have hn:=lI;rcases hq with hq | hq
 . obtain ⟨its,r',pl,hz⟩:=I.list hq;have hlen:=r'.length;exact Calls.call_len_list pl.isList (by simp only [aI]<;>lia) ⟨.int ys.length,H,I.tok _,⟨s.toks+1,by rw [aI,hlen]⟩,q⟩
 . obtain ⟨its,r',pl,hz⟩:=I.tuple hq;have hlen:=r'.length;exact len_tuple pl (by simp only [aI]<;>lia) ⟨.int ys.length,H,I.tok _,⟨s.toks+1,by rw [aI,hlen]⟩,q⟩
def tW:dG X (.builtin "len") (λxs H Q=>∃ z,xs = [.str z]/\z.length<=sizeLine/\Q (.int z.length) H):=by
 intro pins s σ H xs us Q I r h;obtain ⟨z,rfl,hz,q⟩:=h;obtain ⟨u,rfl,t,rfl⟩:=vals1 r;have hn:=lI;exact len_str ∅ ⟨.int z.length,H,I.tok _,⟨_,rfl⟩,q⟩
def dG.or {f:af} {r r':List V->Hp->VK->Prop} (h:dG X f r) (h':dG X f r'):dG X f (λxs H Q=>r xs H Q\/r' xs H Q):=by
 intro pins s σ H xs us Q I rs q;rcases q with q | q
 . exact h pins s σ H xs us Q I rs q
 . exact h' pins s σ H xs us Q I rs q
def mR:dG X (.type "list") (λxs H Q=>∃ p ys,xs = [.ref p]/\(SqL X.K H p ys\/SqT X.K H p ys)/\∀ l,H l = none->Q (.ref l) (upd H l (.lst ys))):=by
 intro pins s σ H xs us Q I r h;obtain ⟨p,ys,rfl,hq,q⟩:=h;obtain ⟨u,rfl,rx⟩:=vals1 r;cases rx
 have fin:∀ (its:List af),Vals ys its->ys.length<=sizeLine->∀ (h':cg) (c':Nat),(∀ b o',s.heap.get? b = some o'->h'.get? b = some o') ->
  h'.get? s.heap.objs.size = some { cls:=.type "list",dict:=none,data:=.seq its.toArray c',slots := #[] }->EP X pins σ Q (.ref s.heap.objs.size) { s with heap:=h' }:=λits r' hz h' c' kp e =>
  ⟨.ref s.heap.objs.size,_,I.laid (t':=s.toks) kp (az _) (show fF X.prog X.w _ h' _ (.lst ys) from ⟨hz,its,c',r',e⟩),rfl,q _ (I.hok.fresh (az _))⟩
 rcases hq with hq | hq
 . obtain ⟨its,r',pl,hz⟩:=I.list hq;have hlen:=r'.length;obtain ⟨o,ho,hc,n,hd⟩:=pl.isList;exact call_list_seq p (.inl rfl) ho hc hd (λh' c' kp e=>fin its r' hz h' c' kp e) (by simp only [aI]<;>lia)
 . obtain ⟨its,r',pl,hz⟩:=I.tuple hq;have hlen:=r'.length;obtain ⟨o,ho,hc,n,hd⟩:=pl;exact call_list_seq p (.inr rfl) ho hc hd (λh' c' kp e=>fin its r' hz h' c' kp e) (by simp only [aI]<;>lia)
def qL:dG X (.type "tuple") (λxs H Q=>∃ p ys,xs = [.ref p]/\((SqL X.K H p ys/\∀ l,H l = none->Q (.ref l) (upd H l (.tup ys)))\/(SqT X.K H p ys/\Q (.ref p) H))):=by
 intro pins s σ H xs us Q I r h;obtain ⟨p,ys,rfl,h⟩:=h;obtain ⟨u,rfl,rx⟩:=vals1 r;cases rx;rcases h with ⟨hq,q⟩ | ⟨hq,q⟩
 . obtain ⟨its,r',pl,hz⟩:=I.list hq;have hlen:=r'.length;refine call_tuple_list pl.isList (λh' kp=>?_) (by simp only [aI]<;>lia);have I1:Inv X pins σ H { s with heap:=h' }:=I.kept (t':=s.toks) kp
   have I2:Inv X pins σ (upd H h'.objs.size (.tup ys)) { s with heap:=h'.push { cls:=.type "tuple",data:=.seq its.toArray } } :=
    I1.laid (t':=s.toks) (λb o e=>ao _ e) (az _) (show fF X.prog X.w _ _ _ (.tup ys) from ⟨hz,its,r',ui _ _⟩)
   exact ⟨.ref h'.objs.size,_,I2,rfl,q _ (I1.hok.fresh (az _))⟩
 . obtain ⟨its,r',pl,hz⟩:=I.tuple hq;exact call_tuple_same pl ⟨.ref p,H,I,rfl,q⟩
def tyV (K:PySem.W.Frag) (T:String) (x:V) (H:Hp):Prop:=match x with
 | .str _=>T = "str"
 | .int _=>T = "int"
 | .ref p=>(T = "list"/\∃ xs,SqL K H p xs)\/(T = "tuple"/\∃ o,K.lookup p = some o/\o.cls = .type "tuple"/\o.dict = none)
 | _=>False
def BH (I:Inv X pins σ H s) (r:RelV x v) (ty:tyV X.K T x H) :
 s.TypeIs v T/\∀ a,v = .ref a->∃ ob,s.heap.get? a = some ob/\ob.dict = none:=by
 cases x with
 | str z =>
   obtain ⟨t,rfl⟩:=r;cases (show T = "str" from ty)
   exact ⟨xy s z t,λ_ e=>nomatch e⟩
 | int i =>
   obtain ⟨t,rfl⟩:=r;cases (show T = "int" from ty)
   exact ⟨typeIs_int s i t,λ_ e=>nomatch e⟩
 | ref p =>
   cases r;rcases ty with ⟨rfl,xs,hq⟩ | ⟨rfl,o,hk,hc,hd⟩
   . obtain ⟨its,_,pl,_⟩:=I.list hq;refine ⟨pl.isList.typeIs,λa e=>?_⟩;cases e;obtain ⟨o,n,e,c,hd,_⟩:=pl;exact ⟨o,e,hd⟩
   . refine ⟨⟨o,I.kIn p o hk,hc⟩,λa e=>?_⟩;cases e
     exact ⟨o,I.kIn _ o hk,hd⟩
 | _=>exact cz ty
def Np (K:PySem.W.Frag) (T:String) (r:V->List V->Hp->VK->Prop) (to:TE):TE:=λσ H Q=>to σ H λx H1=>tyV K T x H1/\r x [] H1 Q
def tBM (K:PySem.W.Frag) (T:String) (r:V->List V->Hp->VK->Prop) (to:TE) (t:TA):TE:=λσ H Q=>to σ H λx H1=>tyV K T x H1/\t σ H1 λxs H2=>r x xs H2 Q
variable {o e:aG} {es:List aG} {to:TE} {t:TA} {name:Str} {apos cpos:Pos} {T id:String} {r:V->List V->Hp->VK->Prop}
def JH (pa:PlainAttrs T) (slot:Slot T name id) (hty:typeOf (.builtin id) = pure (.type "method_descriptor")) (hm:MtR X id r) (ho:PE X o to)
 (hbase:attributeBase o name X.env (eval o X.env) = eval o X.env:=by rfl) (hline:(apos.endLine == cpos.line) = true:=by rfl):PE X (.Call (.Attribute o name apos) [] [] cpos) (Np X.K T r to):=by
 intro pins s σ H Q I h;refine wpAny_Call_method0_late hbase hline (thn (ho pins s σ H _ I h) λv s1 ⟨x,H1,I1,r1,ty,q1⟩=>?_);obtain ⟨h1,h2⟩:=BH I1 r1 ty;exact ⟨T,id,pa,slot,hty,h1,h2,vN rfl (PySem.evalArgs_none (hm pins s1 σ H1 x [] v [] Q I1 r1 .nil q1))⟩
def HL (pa:PlainAttrs T) (slot:Slot T name id) (hty:typeOf (.builtin id) = pure (.type "method_descriptor")) (hm:MtR X id r) (ho:PE X o to) (ha:PA X (e::es) t)
 (hbase:attributeBase o name X.env (eval o X.env) = eval o X.env:=by rfl)
 (hfew:((backTo cpos (starEach (e::es) X.env)).all (λx=>!x.1) && (backToKw cpos (keywordEach [] X.env)).all (λx=>x.1.isSome)
   && decide ((e::es).length+([]:List jk).length+(if ([]:List jk).isEmpty then 0 else 1) < 30)) = true:=by rfl)
 (hline:(apos.endLine == cpos.line) = true:=by rfl) (hs:starEach (e::es) X.env = (false,eval e X.env)::starEach es X.env:=by rfl) (hplain:(backTo cpos (starEach es X.env)).any (·.1) = false:=by rfl) :
 PE X (.Call (.Attribute o name apos) (e::es) [] cpos) (tBM X.K T r to t):=by
 intro pins s σ H Q I h;refine wpAny_Call_method_late hbase hfew hline rfl (thn (ho pins s σ H _ I h) λv s1 ⟨x,H1,I1,r1,ty,q1⟩=>?_);obtain ⟨h1,h2⟩:=BH I1 r1 ty;refine ⟨T,id,pa,slot,hty,h1,h2,?_⟩;have hA:=ha cpos pins s1 σ H1 _ I1 q1;rw [hs] at hA |-;refine vN (by show (false || (backTo cpos (starEach es X.env)).any (·.1)) = false;rw [hplain]<;>rfl) (Calls.evalArgs_plain ?_);exact thn hA λus s2 ⟨vs,H2,I2,r2,q2⟩=>hm pins s2 σ H2 x vs v us Q I2 r1 r2 q2
end
end L2
namespace L2
open PySem PySem.Spec PyProof.Rows
def MtM (X:Cx) (id:String) (r:V->List V->Hp->VK->Prop):Prop :=
 ∀ (pins:List (aq × Obj)) (s:ai) (σ:St) (H:Hp) (x:V) (xs:List V) (v:af) (us:List af) (Q:VK),Inv X pins σ H s->RelV x v->Vals xs us->r x xs H Q ->
  wpAny (model X.prog X.w) X.A (call (.builtin id) (v::us)) (EP X pins σ Q) X.xe s
def Vals.one:∀ {x:V} {us:List af},Vals [x] us->∃ u,us = [u]/\RelV x u
 | _,_,.cons r .nil=>⟨_,rfl,r⟩
def Vals.zero:∀ {us:List af},Vals [] us->us = []
 | _,.nil=>rfl
def Vals.dropLast (h:Vals xs us):Vals xs.dropLast us.dropLast:=by
 induction h with
 | nil=>exact .nil
 | cons r t ih =>
   cases t with
   | nil=>exact .nil
   | cons q t'=>exact .cons r ih
def Vals.eraseIdx:∀ {xs:List V} {us:List af} (i:Nat),Vals xs us->Vals (xs.eraseIdx i) (us.eraseIdx i)
 | _,_,_,.nil=>.nil
 | _,_,0,.cons _ t=>t
 | _,_,i+1,.cons r t=>.cons r (Vals.eraseIdx i t)
def Vals.reverse {xs:List V} {us:List af} (h:Vals xs us):Vals xs.reverse us.reverse:=by
 induction h with
 | nil=>exact .nil
 | cons r t ih=>rw [EN,EN];exact Vals.append ih (.cons r .nil)
section
variable {X:Cx} {pins:List (aq × Obj)} {σ:St} {H:Hp} {s:ai} {l b:aq} {xs ys zs:List V}
def Inv.lset {its its':List af} {n:Nat} {f:Array af->Array af} {t':Nat} (I:Inv X pins σ H s) (hH:H l = some (.lst xs))
 (e:s.heap.get? l = some { cls:=.type "list",data:=.seq its.toArray n }) (hf:f its.toArray = its'.toArray) (hv:Vals ys its') (hz:ys.length<=sizeLine) :
 Inv X pins σ (upd H l (.lst ys)) { s with heap:=s.heap.update l (bL f),toks:=t' }:=by
 have q:=PySem.IsL.update e f;rw [hf] at q;refine I.write (x:=l) (e:=l) (by rw [hH];exact trivial) (.inl rfl) (λb' u hb hu=>(dH s.heap (bL f) (Ne.symm hb)).trans hu) ⟨_,q⟩ ?_;exact ⟨hz,its',_,hv,q⟩
def Inv.lnew (I:Inv X pins σ H s) (hv:Vals ys its) (hz:ys.length<=sizeLine) :
 Inv X pins σ (upd H s.heap.objs.size (.lst ys)) { s with heap:=s.heap.push { cls:=.type "list",data:=.seq its.toArray },toks:=t' } :=
 I.laid (λ_ _ q=>ao _ q) (az _) ⟨hz,its,0,hv,bE _ rfl⟩
def Inv.fresh (I:Inv X pins σ H s):H s.heap.objs.size = none:=I.hok.fresh (az _)
def Inv.lstM (I:Inv X pins σ H s) (hH:H l = some (.lst xs)):xs.length<=sizeLine/\∃ (its:List af) (n:Nat),Vals xs its/\xs.length = its.length/\s.heap.get? l = some { cls:=.type "list",data:=.seq its.toArray n }:=by
 obtain ⟨z,its,n,r,e⟩:=I.hok l _ hH;exact ⟨z,its,n,r,r.length,e⟩
def Dl {n:Nat} (h:n<=sizeLine):oA n = false:=by
 unfold oA;exact decide_eq_false ∅
end
section
variable {X:Cx}
def Gj:V->List V->Hp->VK->Prop:=λx vs H Q=>∃ l xs y,x = .ref l/\vs = [y]/\H l = some (.lst xs)/\xs.length < sizeLine/\Q .non (upd H l (.lst (xs++[y])))
def rE:MtM X "list.append" Gj:=by
 intro pins s σ H x vs v us Q I rx rv h;obtain ⟨l,xs,y,rfl,rfl,hH,hz,q⟩:=h;cases rx;obtain ⟨u,rfl,ru⟩:=rv.one;obtain ⟨z,its,n,r,hl,e⟩:=I.lstM hH;refine call_meets F.slot_list_append ⟨_,e,rfl⟩ F.entry_list_append (F.args_list_append_2 _ _) (PySem.list_append l its.toArray n u (by rw [aI];lia)) ⟨e,?_⟩;refine ⟨.non,_,I.lset (its':=its++[u]) hH e ↥0 (r.append (.cons ru .nil)) ?_,rfl,q⟩;rw [ah,cn]
 lia
end
section
variable {prog:bp} {w:bQ} {A:bo} {E:af->ai->Prop} {s:ai}
end
section
variable {X:Cx}
end
end L2
namespace Att
open PySem PySem.W PySem.Calls PyProof.Rows
def oH:∀ (ns:List Int) (vs:List af),WellAll P h vs (ns.map WData.int)->ET vs ns:=by
 intro ns
 induction ns with
 | nil =>
   intro vs w;rw [ox] at w;cases w
   exact .nil
 | cons n ns ih =>
   intro vs w;rw [aN] at w
   cases w with
   | cons a b =>
     cases a;exact .cons _ _ (ih _ b)
def Ae {l:OpenLaw} {n:Nat} (hn:l.most = some n) {P:Params} {h:cg} {args:List WData} {vals:List af}
 (hpre:l.row.toRowW.claim.pre args = true) (hwl:WellAll P h vals args) :
 ∃ a vs ns,vals = [iD a]/\args = [WData.list (ns.map WData.int)]/\h.get? a = some { cls:=.type "list",data:=.seq vs.toArray }/\ET vs ns/\ns.length<=n:=by
 have hsh:WShape.hasAll [] args [.list .int] = true:=(pre_splitW hpre).1;have hc:l.pre.holds [] { args:=args } = true:=(pre_splitW hpre).2;obtain ⟨d,r,rfl,h1,h2⟩:=hasAllW_cons hsh;obtain rfl:=hasAllW_nil h2;obtain ⟨xs,rfl,h3⟩:=hasW_list h1;obtain ⟨ns,rfl⟩:=items_int h3
 have hlen:ns.length<=n:=by
  unfold OpenLaw.pre at hc
  have h4:(WTm.not (.lt (.lit (.int (n:Int))) (.len (.arg 0)))).holds [] { args:=[.list (ns.map .int)] } = true:=by
   have h4:=(holds_andW hc).1;rw [hn] at h4;exact h4
  have h5:=condW_of h4 (w_not (w_lt w_lit (w_len_list (w_arg rfl))));rw [aB] at h5;refine Nat.le_of_not_lt λq=>?_;have q':(n:Int) < ((ns.length:Nat):Int):=by lia
  first
   | (rw [decide_eq_true q'] at h5;exact absurd h5 ⇑0)
   | (simp at h5;lia)
 cases hwl with
 | cons w1 w2 =>
   cases w2
   cases w1 with
   | list ho hall=>exact ⟨_,_,ns,rfl,rfl,ho,oH ns _ hall,hlen⟩
def Af (l:OpenLaw) (args:List WData):l.row.toRowW.claim.post args (.bool true) args = true :=
 postW_of (r:=l.row.toRowW) (X:=(true == true))
  (show WShape.has [] (.bool true) .bool = true by first | rfl | decide | simp [WShape.has,WShape.arms,WShape.armsAll])
  (show (WTm.eq .res (.lit (.bool true))).value [] { args:=args,res:=some (.bool true),after:=args } = some (.bool (true == true)) from w_eq_bool (w_res rfl) w_lit) rfl
def attach_call {l:OpenLaw} {n:Nat} {q:bp} {loose:List Str} {XP:(Str->Option af)->cg->Prop} {YP:bQ->cg->Prop} {d:DefRec}
 (hn:l.most = some n) (hdf:d.params.defaults = [])
 (call:∀ (w:bQ) (s₀ s₁:ai) (mg mb:Str->Option af) (fa:aq) (o:Obj) (pm cd doc:af) (a:aq) (vs:List af) (ns:List Int),
   Ground q loose [] XP w s₀ mg mb s₁.heap->YP w s₁.heap ->
   s₁.heap.get? fa = some o->o.data = .func (docDef d.name d.params d.body d.scope pm cd doc)->s₁.heap.CodeRec cd d.name->mg d.name = some (.ref fa) ->
   s₁.heap.get? a = some { cls:=.type "list",data:=.seq vs.toArray }->ET vs ns->ns.length<=n->s₁.gens = #[] ->
   codeAny (model l.prog w) callerA (.call (.ref fa) ⟨[.ref a],[]⟩) (λr s'=>r = .ok (.ret (.bool true))/\OldK s₁.heap s'.heap/\s'.os = s₁.os/\lT s'.gens) s₁) :
 WalkO q loose XP YP l.row.toRowW d [] (λf vs=>PySem.call f vs):=by
 intro w s₀ s₁ mg mb G Y fa o pm cd doc dV kV ho hd hcd hD hmg hg args vals as hpre hlay hrd hwl hlo;obtain rfl:dV = .none:=Dflts.none hD hdf;obtain rfl:kV = .none:=Dflts.noKw hD;obtain ⟨a,vs,ns,rfl,rfl,hobj,hints,hlen⟩:=Ae hn hpre hwl;refine enter_call (lQ (call w s₀ s₁ mg mb fa o pm cd doc a vs ns G Y ho (fd_plain hd) hcd hmg hobj hints hlen hg) λr s' hq=>?_);obtain ⟨rfl,h2,h3,h4⟩:=hq;exact ⟨.inl ⟨.bool true,.bool true,[],rfl,λ_=>rfl,.bool true,Af l _,λ_=>⟨List.Pairwise.nil,λ_ hm=>(nomatch hm)⟩⟩,h2,h3,h4⟩
section
variable {prog:bp} {w:bQ} {A:bo} {E:af->ai->Prop} {s:ai} {K:Frag}
end
end Att
namespace L2
open PySem PySem.Spec PyProof.Rows
def qW:∀ {vs:List af} {ns:List Int},ET vs ns->Vals (ns.map V.int) vs
 | _,_,.nil=>.nil
 | _,_,.cons n t h=>.cons ⟨t,rfl⟩ (qW h)
end L2
namespace L2
open PySem PySem.Spec PyProof.Rows
end L2
namespace L2
open PySem PySem.Spec PyProof.Rows
def gM (s:dE):oE:=match s with
 | .FunctionDef _ a _ _ _ _ _ _ _ _=>a
 | _=>{ posonlyargs:=[],args:=[],vararg:=none,kwonlyargs:=[],kw_defaults:=[],kwarg:=none,defaults:=[] }
def fk (s:dE):List dE:=match s with
 | .FunctionDef _ _ b _ _ _ _ _ _ _=>b
 | _=>[]
def bM (s:dE):eK:=match s with
 | .FunctionDef _ _ _ _ _ _ sc _ _ _=>sc
 | _=>{ kind:=.function,names:=[],isGenerator:=false,isCoroutine:=false }
abbrev CX0:CXT:=λ_ _ _ _ _ _=>False
abbrev E0:XK:=λ_ _ _=>False
def yg:Passes CX0 X E0:=λ_ _ _ _ _ _ _ h=>h.elim
structure Fun (K:PySem.W.Frag) (x qual:Str) (st:dE) (f:aq) (fd:eM):Prop where
 ex:∃ (oc:af) (od:Option aq) (dV kV doc pm:af) (an:Option aq) (cdv ct:af) (osl:Array (Option af)),
  fd = PySem.W.fnOf x qual (gM st) (fk st) (bM st) dV kV doc pm an cdv ct/\K.lookup f = some ⟨oc,od,.func fd,osl⟩/\PySem.W.codeIn K cdv qual = true
 kp:PySem.W.keepIn K (.ref f) = true
section
variable {P:bp} {w:bQ} {K:PySem.W.Frag} {mg:Str->Option af} {base:cg}
def DS {x qual:Str} {st:dE} {f:aq} {oc:af} {od an:Option aq} {osl:Array (Option af)} {dV kV doc pm cdv ct:af} (l:K.lookup f = some ⟨oc,od,.func (PySem.W.fnOf x qual (gM st) (fk st) (bM st) dV kV doc pm an cdv ct),osl⟩)
 (c:PySem.W.codeIn K cdv qual = true) (k:PySem.W.keepIn K (.ref f) = true):Fun K x qual st f (PySem.W.fnOf x qual (gM st) (fk st) (bM st) dV kV doc pm an cdv ct):=⟨⟨oc,od,dV,kV,doc,pm,an,cdv,ct,osl,rfl,l,c⟩,k⟩
end
section
variable {X:Cx}
end
def Kv {A B:Prop} (h:B):if false = true then A else B:=by
 rw [if_neg au];exact h
def DH {A B:Prop} (h:A):if true = true then A else B:=by
 rw [if_pos rfl];exact h
def iC (H H':Hp):Prop:=∀ b o,H b = some o->H' b = some o
def iC.refl (H:Hp):iC H H:=λ_ _ h=>h
end L2
end
section
namespace L2
open PySem PySem.Spec PyProof.Rows
section
variable {κ:Type} [DecidableEq κ]
def uA (kvs:List (κ × V)) (k:κ):Option V:=(kvs.find? λkv=>decide (kv.1 = k)).map (·.2)
def putK (kvs:List (κ × V)) (k:κ) (v:V):List (κ × V) :=
 if (kvs.any λkv=>decide (kv.1 = k)) = true then kvs.map (λkv=>if kv.1 = k then (kv.1,v) else kv) else kvs++[(k,v)]
def HY (kvs:List (κ × V)) (k:κ):List (κ × V):=kvs.filter λkv=>decide (kv.1≠k)
def pD {p:κ × V} {r:List (κ × V)} {k:κ} (e:p.1 = k):uA (p::r) k = some p.2:=by simp [uA,gi,e]
def pE {p:κ × V} {r:List (κ × V)} {k:κ} (e:¬ p.1 = k):uA (p::r) k = uA r k:=by simp [uA,gi,e]
def uz (k:κ):∀ kvs:List (κ × V),(kvs.any λkv=>decide (kv.1 = k)) = (uA kvs k).isSome
 | []=>rfl
 | p::r=>by
   rw [hV];by_cases e:p.1 = k
   . simp only [pD e,decide_eq_true e,vP,Option.isSome_some]
   . rw [pE e,decide_eq_false e,Bool.false_or];exact uz k r
def gC.isSome_eq {o:Option V} {u:Option af} (r:gC o u):o.isSome = u.isSome:=by
 cases o with
 | none=>cases u with
   | none=>rfl
   | some _=>exact (show False from r).elim
 | some _=>cases u with
   | none=>exact (show False from r).elim
   | some _=>rfl
def gC.getD {o:Option V} {u:Option af} {d:V} {d':af} (r:gC o u) (rd:RelV d d'):RelV (o.getD d) (u.getD d'):=by
 cases o with
 | none=>cases u with
   | none=>exact rd
   | some _=>exact (show False from r).elim
 | some _=>cases u with
   | none=>exact (show False from r).elim
   | some _=>exact r
def KV.val {kvs:List (κ × V)} {vs:List (κ × af)} (r:KV kvs vs) (k:κ):gC (uA kvs k) (valueAt vs k):=by
 unfold KV at r
 induction r with
 | nil=>exact iU
 | @cons p q ps qs h t ih =>
   obtain ⟨h1,h2⟩:=h;by_cases e:p.1 = k
   . have e':q.1 = k:=h1.symm.trans e;have b:valueAt (q::qs) k = some q.2:=by simp [valueAt,gi,e']
     rw [pD e,b];exact h2
   . have e':¬ q.1 = k:=λz=>e (h1.trans z);have b:valueAt (q::qs) k = valueAt qs k:=by simp [valueAt,gi,e']
     rw [pE e,b];exact ih
def KV.any {kvs:List (κ × V)} {vs:List (κ × af)} (r:KV kvs vs) (k:κ):(kvs.any λkv=>decide (kv.1 = k)) = vs.any λkv=>decide (kv.1 = k):=by
 unfold KV at r
 induction r with
 | nil=>rfl
 | cons h t ih=>rw [hV,hV,ih,h.1]
def KV.repl {kvs:List (κ × V)} {vs:List (κ × af)} (r:KV kvs vs) (k:κ) {y:V} {u:af} (ry:RelV y u) :
 KV (kvs.map λkv=>if kv.1 = k then (kv.1,y) else kv) (vs.map λkv=>if kv.1 = k then (kv.1,u) else kv):=by
 unfold KV at r |-
 induction r with
 | nil=>exact .nil
 | @cons p q ps qs h t ih =>
   rw [aN,aN];refine .cons ?_ ih;obtain ⟨h1,h2⟩:=h;by_cases e:p.1 = k
   . rw [if_pos e,if_pos (h1.symm.trans e)];exact ⟨h1,ry⟩
   . rw [if_neg e,if_neg (λz=>e (h1.trans z))];exact ⟨h1,h2⟩
def KV.put {kvs:List (κ × V)} {vs:List (κ × af)} (r:KV kvs vs) (k:κ) {y:V} {u:af} (ry:RelV y u):KV (putK kvs k y) (stored vs k u):=by
 unfold putK stored;rw [r.any k];by_cases e:(vs.any λkv=>decide (kv.1 = k)) = true
 . rw [if_pos e,if_pos e];exact r.repl k ry
 . rw [if_neg e,if_neg e];exact Paired.snoc r ⟨rfl,ry⟩
def KV.drop {kvs:List (κ × V)} {vs:List (κ × af)} (r:KV kvs vs) (k:κ):KV (HY kvs k) (without vs k):=by
 unfold KV at r |-;unfold HY without
 induction r with
 | nil=>exact .nil
 | @cons p q ps qs h t ih =>
   obtain ⟨h1,h2⟩:=h;rw [Fb,Fb];by_cases e:p.1 = k
   . have a:¬ decide (p.1≠k) = true:=by simp [e]
     have b:¬ decide (q.1≠k) = true:=by simp [h1.symm.trans e]
     rw [if_neg a,if_neg b];exact ih
   . have e':¬ q.1 = k:=λz=>e (h1.trans z);have a:decide (p.1≠k) = true:=by simp [e]
     have b:decide (q.1≠k) = true:=by simp [e']
     rw [if_pos a,if_pos b];exact .cons ⟨h1,h2⟩ ih
def KV.length {kvs:List (κ × V)} {vs:List (κ × af)} (r:KV kvs vs):kvs.length = vs.length:=Paired.length r
end
abbrev KT (H:Hp):List (List Key × V)->List (List Key × aq × af)->Prop:=Paired λp q=>p.1 = q.1/\H q.2.1 = some (.tup (p.1.map kV))/\RelV p.2 q.2.2
def KT.val {H:Hp} {kvs:List (List Key × V)} {xs:List (List Key × aq × af)} (r:KT H kvs xs) (k:List Key):gC (uA kvs k) ((atKey xs k).map (·.2)):=by
 induction r with
 | nil=>exact iU
 | @cons p q ps qs h t ih =>
   obtain ⟨h1,_,h2⟩:=h;by_cases e:p.1 = k
   . have e':q.1 = k:=h1.symm.trans e;have b:atKey (q::qs) k = some q.2:=by simp [atKey,gi,e']
     rw [pD e,b];exact h2
   . have e':¬ q.1 = k:=λz=>e (h1.trans z);have b:atKey (q::qs) k = atKey qs k:=by simp [atKey,gi,e']
     rw [pE e,b];exact ih
def KT.repl {H:Hp} {kvs:List (List Key × V)} {xs:List (List Key × aq × af)} (r:KT H kvs xs) (k:List Key) {y:V} {u:af} (ry:RelV y u) :
 KT H (kvs.map λkv=>if kv.1 = k then (kv.1,y) else kv) (xs.map (putAt k u)):=by
 induction r with
 | nil=>exact .nil
 | @cons p q ps qs h t ih =>
   rw [aN,aN];refine .cons ?_ ih;obtain ⟨h1,h2,h3⟩:=h;unfold putAt;by_cases e:p.1 = k
   . rw [if_pos e,if_pos (h1.symm.trans e)];exact ⟨h1,h2,ry⟩
   . rw [if_neg e,if_neg (λz=>e (h1.trans z))];exact ⟨h1,h2,h3⟩
def KT.put {H:Hp} {kvs:List (List Key × V)} {xs:List (List Key × aq × af)} (r:KT H kvs xs) (k:List Key) {b:aq} {y:V} {u:af} (hb:H b = some (.tup (k.map kV))) (ry:RelV y u) :
 KT H (putK kvs k y) (storedH xs k b u):=by
 have e:(kvs.any λkv=>decide (kv.1 = k)) = (atKey xs k).isSome:=by
  rw [uz,(r.val k).isSome_eq,Option.isSome_map]
 unfold putK storedH;rw [e];by_cases q:(atKey xs k).isSome = true
 . rw [if_pos q,if_pos q];exact r.repl k ry
 . rw [if_neg q,if_neg q];exact Paired.snoc r ⟨rfl,hb,ry⟩
def KT.keeps {H H':Hp} {kvs:List (List Key × V)} {xs:List (List Key × aq × af)} (r:KT H kvs xs) (ht:∀ b ys,H b = some (.tup ys)->H' b = some (.tup ys)):KT H' kvs xs :=
 Paired.mapP r λ_ _ z=>⟨z.1,ht _ _ z.2.1,z.2.2⟩
section
variable {P:bp} {w:bQ} {H:Hp} {h:cg} {a:aq}
end
section
variable {X:Cx} {pins:List (aq × Obj)} {σ:St} {H:Hp} {s:ai} {a:aq} {y v:V} {u r:af} {o:Option V} {A:bo} {E:af->ai->Prop}
def Inv.big (I:Inv X pins σ H s):sysModules < s.heap.objs.size:=by
 have h:mainGlobals < s.heap.objs.size:=(I.mod.glob.keeps I.bk).lt;exact Nat.lt_trans ⇑0 h
end
section
variable {X:Cx} {pins:List (aq × Obj)} {σ:St} {H:Hp} {s:ai} {a:aq} {kvs:List (Key × V)} {k:Key} {u:af} {A:bo} {E:af->ai->Prop}
end
section
variable {X:Cx} {o i e value:aG} {pos pos' tpos:Pos} {td ty tv:TE}
end
section
variable {X:Cx} {pos:Pos}
end
structure M1 (X:Cx) (o:aG) (m:Str) (apos:Pos) (e:aG) (cpos:Pos):Prop where
 base:attributeBase o m X.env (eval o X.env) = eval o X.env
 few:((backTo cpos (starEach [e] X.env)).all (λx=>!x.1) && (backToKw cpos (keywordEach [] X.env)).all (λx=>x.1.isSome)
  && decide (([e]:List aG).length+([]:List jk).length+(if ([]:List jk).isEmpty then 0 else 1) < 30)) = true
 line:(apos.endLine == cpos.line) = true
 trees:backTo cpos (starEach [e] X.env) = [(false,eval e X.env)]
structure M2 (X:Cx) (o:aG) (m:Str) (apos:Pos) (e f:aG) (cpos:Pos):Prop where
 base:attributeBase o m X.env (eval o X.env) = eval o X.env
 few:((backTo cpos (starEach [e,f] X.env)).all (λx=>!x.1) && (backToKw cpos (keywordEach [] X.env)).all (λx=>x.1.isSome)
  && decide (([e,f]:List aG).length+([]:List jk).length+(if ([]:List jk).isEmpty then 0 else 1) < 30)) = true
 line:(apos.endLine == cpos.line) = true
 trees:backTo cpos (starEach [e,f] X.env) = [(false,eval e X.env),(false,eval f X.env)]
section
variable {X:Cx} {pins:List (aq × Obj)} {σ:St} {H:Hp} {s:ai} {a:aq} {y d:V} {u r:af} {o:Option V} {A:bo} {E:af->ai->Prop}
end
section
variable {X:Cx} {o e f:aG} {apos cpos:Pos} {td ty tx:TE}
end
section
variable {X:Cx} {pins:List (aq × Obj)} {σ:St} {H:Hp} {s:ai} {a:aq} {kvs:List (Key × V)} {A:bo} {E:af->ai->Prop}
end
section
variable {X:Cx} {pins:List (aq × Obj)} {σ:St} {H:Hp} {s:ai} {a:aq} {y:V} {u:af} {A:bo} {E:af->ai->Prop}
end
abbrev TU:=St->Hp->(St->Hp->Prop)->Prop
def PU (X:Cx) (m:Sem Unit) (t:TU):Prop :=
 ∀ (pins:List (aq × Obj)) (s:ai) (σ:St) (H:Hp) (Q:St->Hp->Prop),Inv X pins σ H s->t σ H Q ->
  wpAny (model X.prog X.w) X.A m (λ_ s'=>∃ σ' H',Inv X pins σ' H' s'/\Q σ' H') X.xe s
def PTs (X:Cx) (ifs:List aG) (t:TT):Prop :=
 ∀ (pins:List (aq × Obj)) (s:ai) (σ:St) (H:Hp) (Q:Bool->Hp->Prop),Inv X pins σ H s->t σ H Q ->
  wpAny (model X.prog X.w) X.A (forIn ifs true λc r=>if r = true then do let ok <- isTrue c X.env (eval c X.env);pure (jo ok) else pure (jo r)) (TP X pins σ Q) X.xe s
section
variable {X:Cx}
def sD:PTs X [] (λ_ H Q=>Q true H):=λpins s σ H Q I h=>wpAny_tests_nil ⟨H,I,h⟩
def Gn (hc:PT X c t):PTs X [c] t:=λpins s σ H Q I h=>wpAny_tests_one (hc pins s σ H Q I h)
def tLp (J:It) (g:TG) (tt:TT) (tb:TU):TU:=λσ H Q=>∃ W:Nat->Nat->St->Hp->Prop,(∃ m,W 0 m σ H)/\∀ i m σ H,W i m σ H ->
 (J.stop i H/\Q σ H)\/(J.go i H/\∀ x H',J.yld i H x H'->g x σ H' λσ2 H2=>tt σ2 H2 λb H3 =>
   if b = true then tb σ2 H3 λσ4 H4=>∃ m',m' < m/\W (i+1) m' σ4 H4 else ∃ m',m' < m/\W (i+1) m' σ2 H3)
def Ej
 (hx:X.xe = λ_ _=>False) (hc:X.calm = true)
 (hq:(Code.compLoop e d (.ref it) acc X.env).quiet = true)
 (hden:(model X.prog X.w).den (.compLoop e d (.ref it) acc X.env) = (compTurn e d (.ref it) acc X.env).onRaise (λx=>do noteFrame x X.env;theTreesLotGoes x))
 (hund:X.A.under (.compLoop e d (.ref it) acc X.env) = X.A)
 (hturn:compTurn e d (.ref it) acc X.env = (do
   standAt ip
   match <- pyNext (.ref it) with
   | none=>pure (.done .next)
   | some v =>
     letOwnedTupleGo tg (.ref it) v
     assign tg X.env v
     let mut ok:=true
     for c in ifs do
      if ok then ok <- isTrue c X.env (eval c X.env)
     if ok then body
     again (.compLoop e d (.ref it) acc X.env)))
 (T:Turn X.prog X.w X.K tg J fp it tn) (hg:PG X tg g) (ht:PTs X ifs tt) (hb:PU X body tb) {R:EI->ai->Prop}
 {pins:List (aq × Obj)} {s:ai} {σ:St} {H:Hp} {Q:St->Hp->Prop} (I:Inv X pins σ H s) (st:tn 0 s.heap) (f:∀ b∈fp,jV X pins H b) (h:tLp J g tt tb σ H Q)
 (hR:∀ s' σ' H',Inv X pins σ' H' s'->Q σ' H'->R (.ok .next) s'):codeAny (model X.prog X.w) X.A (.compLoop e d (.ref it) acc X.env) R s:=by
 obtain ⟨W,⟨m0,w0⟩,turn⟩:=h;have stat:∀ {H':Hp},(∀ b∈fp,H' b = none)->∀ b∈fp,jV X pins H' b:=λhn b hb=>⟨hn b hb,(f b hb).2⟩;refine codeAny_loop hq (λn s'=>∃ i σ' H',Inv X pins σ' H' s'/\tn i s'.heap/\(∀ b∈fp,H' b = none)/\W i n σ' H') ?_ m0 ⟨0,σ,H,I,st,λb hb=>(f b hb).1,w0⟩;rintro n s3 ⟨i,σ3,H3,I3,st3,fr3,w3⟩;rw [hden,hund,hturn];refine wpAny_noted ?_
 have cut:∀ {α:Type} {m:Sem α} {Q:α->ai->Prop} {s:ai} {E':af->ai->Prop},wpAny (model X.prog X.w) X.A m Q X.xe s->wpAny (model X.prog X.w) X.A m Q E' s:=λz=>by
  rw [hx] at z;exact wpAny_noRaise z
 refine ag (gD (ag ?_));rcases turn i n σ3 H3 w3 with ⟨stop,qn⟩ | ⟨go,step⟩
 . refine cut (thn (T.done X rfl rfl rfl hc i pins s3 σ3 H3 X.xe I3 (stat fr3) st3 stop) λr s4 ⟨hr,I4⟩=>?_);subst hr;exact aH (hR s4 σ3 H3 I4 qn)
 . refine cut (thn (T.item X rfl rfl rfl hc i pins s3 σ3 H3 X.xe I3 (stat fr3) st3 go) λr s4 ⟨u,hr,h4⟩=>?_);subst hr;refine ag (cut (thn h4 λ_ s5 ⟨x,H5,I5,r5,y5,st5,fr5⟩=>?_));have I5':=I5.pinned (stat fr5) (T.obj _ _ st5);refine ag (cut (thn (hg _ s5 σ3 H5 x u _ I5' r5 (step x H5 y5)) λ_ s6 ⟨σ6,H6,I6,q6⟩=>?_))
   have again:∀ {σ7:St} {H7:Hp} {s7:ai},Inv X (pins++pS fp s5.heap) σ7 H7 s7->(∃ m',m' < n/\W (i+1) m' σ7 H7)->∃ m,m < n/\∃ i σ' H',Inv X pins σ' H' s7/\tn i s7.heap/\(∀ b∈fp,H' b = none)/\W i m σ' H':=λ{σ7 H7 s7} I7 n7=>by
    obtain ⟨m',hm,w7⟩:=n7;refine ⟨m',hm,i+1,σ7,H7,I7.unpinned,T.keep _ _ _ st5 λb hb o e=>(I7.pin (b,o) (aW _ (aW _ (jz hb e)))).1,λb hb=>?_,w7⟩;obtain ⟨o,e,d⟩:=T.obj _ _ st5 b hb;exact (I7.pin (b,o) (aW _ (aW _ (jz hb e)))).2.1
   refine ag (cut (thn (ht _ s6 σ6 H6 _ I6 q6) λok s7 ⟨H7,I7,q7⟩=>?_))
   cases ok with
   | false =>
     rw [if_neg au] at q7
     exact aH ⟨rfl,again I7 q7⟩
   | true =>
     rw [if_pos rfl] at q7;refine ag (cut (thn (hb _ s7 σ6 H7 _ I7 q7) λ_ s8 ⟨σ8,H8,I8,q8⟩=>?_));exact aH ⟨rfl,again I8 q8⟩
end
def iE (env:Env):List (Str × jK)->List (Str × aq)->List (Str × aq)
 | [],cs=>cs
 | (n,k)::r,cs=>iE env r (if k == .free then (n,(env.cells.lookup n).getD 0)::cs else cs)
def yW:∀ (names:List (Str × jK)) (cs:List (Str × aq)),(∀ x,(x,bX)∈names->∃ c,env.cells.lookup x = some c) ->
 (forIn names cs λx r=>match x with | (name,kind)=>(do
   if (kind == bX) = true then do
    let y <- cellOf env name
    pure (jo ((name,y)::r))
   else pure (jo r):Sem (ForInStep (List (Str × aq))))) = (pure (iE env names cs):Sem (List (Str × aq)))
 | [],cs,_=>rfl
 | (n,k)::r,cs,h=>by
   have ih:=λcs=>yW (env:=env) r cs λx hx=>h x (aj _ hx);rw [qB];by_cases hk:k = .free
   . subst hk;obtain ⟨c,e⟩:=h n ak;have e2:cellOf env n = pure c:=by unfold cellOf;rw [e]
     simp only [beq_self_eq_true,if_true,e2,pure_bind,iE,e,AO];exact ih _
   . have hb:(k == bX) = false:=by simpa using hk
     simp only [hb,bW,if_false,pure_bind,iE];exact ih _
def Ek (h:∀ x,(x,bX)∈scope.names->∃ c,env.cells.lookup x = some c):closureFor scope env = pure (iE env scope.names []):=by
 have q:=yW (env:=env) scope.names [] h;unfold closureFor;rw [<- bind_pure (pure (iE env scope.names []):Sem _),<- q]
def tM:∀ (names:List (Str × jK)) (cs:List (Str × aq)),(∀ x,(x,bX)∈names->∃ c,env.cells.lookup x = some c)->∀ p∈iE env names cs,p∈cs\/env.cells.lookup p.1 = some p.2
 | [],cs,_,p,hp=>.inl hp
 | (n,k)::r,cs,h,p,hp=>by
   unfold iE at hp;have ih:=tM (env:=env) r _ (λx hx=>h x (aj _ hx)) p hp;rcases ih with ih | ih
   . by_cases hk:k = .free
     . subst hk;rw [if_pos ↥0] at ih;rcases aC.mp ih with rfl | ih
       . obtain ⟨c,e⟩:=h n ak;right;rw [e];rfl
       . exact .inl ih
     . rw [if_neg (by simpa using hk)] at ih;exact .inl ih
   . exact .inr ih
def tP:∀ (names:List (Str × jK)) (cs:List (Str × aq)) (x:Str),((x,bX)∈names\/∃ c,(x,c)∈cs)->∃ c,(x,c)∈iE env names cs
 | [],cs,x,h=>by
   rcases h with h | h
   . cases h
   . exact h
 | (n,k)::r,cs,x,h=>by
   unfold iE;refine tP (env:=env) r _ x ?_;rcases h with h | ⟨c,h⟩
   . rcases aC.mp h with e | h
     . cases e;right;rw [if_pos ↥0];exact ⟨_,ak⟩
     . exact .inl h
   . right;split
     . exact ⟨c,aj _ h⟩
     . exact ⟨c,h⟩
def iY {α:Type}:∀ {l:List (Str × α)} {x:Str} {c:α},(x,c)∈l->∃ d,l.lookup x = some d
 | [],_,_,h=>by cases h
 | (y,d)::r,x,c,h=>by
   rw [cm]
   cases e:x == y with
   | true=>exact ⟨d,rfl⟩
   | false =>
     rcases aC.mp h with q | q
     . cases q;simp at e
     . exact iY q
structure lP (X:Cx) (scope:eK):Prop where
 kind:scope.kind = .function
 nocell:∀ y∈scope.names,y.2≠.cell
 names:∀ y∈scope.names,y.2 = .local->scope.names.lookup y.1 = some .local
 free:∀ x,(x,bX)∈scope.names->X.env.kindOf x = some .cell\/X.env.kindOf x = some .free
def cxC (X:Cx) (scope:eK) (cl:List (Str × aq)) (C:aq) (Nc:List Str) (s:ai) (H:Hp) (fp:List aq):Cx :=
 { X with N:=Nc,s₀:=s,H₀:=H,env:=compEnvC scope cl C X.env,outer:=X.stack,ex:=fp,fn:=λ_=>false,pn:=[],xe:=λ_ _=>False }
def iz {scope:eK} {env:Env}:∀ (names:List (Str × jK)) (x:Str),
 (names.map λ(n,k)=>if (k == bX && env.scope.kind == .function && env.kindOf n == some .cell) then (n,kX) else (n,k)).lookup x =
   (names.lookup x).map λk=>if (k == bX && env.scope.kind == .function && env.kindOf x == some .cell) then kX else k
 | [],x=>rfl
 | (n,k)::r,x=>by
   have ih:=iz (scope:=scope) (env:=env) r x;rw [aN]
   cases hx:x == n with
   | true =>
     have e:x = n:=by simpa using hx
     subst e;by_cases hc:(k == bX && env.scope.kind == .function && env.kindOf x == some .cell) = true
     . simp only [hc,if_true,cm,beq_self_eq_true,dn]
     . simp only [hc,if_false,cm,beq_self_eq_true,dn,bW]
   | false =>
     by_cases hc:(k == bX && env.scope.kind == .function && env.kindOf n == some .cell) = true
     . simp only [hc,if_true,cm,hx];exact ih
     . simp only [hc,if_false,cm,hx,bW];exact ih
def nO {scope:eK} {env:Env} {cl:List (Str × aq)} {C:aq} (x:Str):(compEnvC scope cl C env).kindOf x =
 (scope.names.lookup x).map λk=>if (k == bX && env.scope.kind == .function && env.kindOf x == some .cell) then kX else k:=iz (scope:=scope) (env:=env) scope.names x
def qK (nc:∀ y∈scope.names,y.2≠.cell) (h:(compEnvC scope cl C env).kindOf x = some .cell\/(compEnvC scope cl C env).kindOf x = some .free) :
 scope.names.lookup x = some .free:=by
 rw [nO] at h
 cases e:scope.names.lookup x with
 | none=>rw [e] at h;simp at h
 | some k =>
   rw [e] at h;have hm:=PySem.mem_of_lookup e;have:=nc _ hm;simp only [dn] at h;cases k<;>simp_all
def rF {X:Cx} {scope:eK} {C:aq} {Nc:List Str} {s:ai} {h1:cg} {t1:Nat} {H:Hp} {fp:List aq} {pins:List (aq × Obj)} {σ:St}
 (S:lP X scope) (I:Inv X pins σ H s) (hf:∀ b∈fp,jV X pins H b) (hfl:∀ b∈fp,b < s.heap.objs.size) (hC:C = s.heap.objs.size) (hns:h1.Ns C λ_=>none) (hk:∀ b o,s.heap.get? b = some o->h1.get? b = some o)
 (hN:∀ i x,i < X.N.length->Nc[i]? = some x->Vis scope x->X.N[i]? = some x/\scope.names.lookup x = some .free) (hl:X.N.length<=Nc.length) :
 Inv (cxC X scope (iE X.env scope.names []) C Nc s H fp) [] (σ++aS (Nc.length - X.N.length) none) H { s with heap:=h1,toks:=t1 }:=by
 have hcl:∀ x,(x,bX)∈scope.names->∃ c,X.env.cells.lookup x = some c:=λx hx=>I.ok.has x (S.free x hx)
 have hlk:∀ x c,(iE X.env scope.names []).lookup x = some c->X.env.cells.lookup x = some c:=λx c e=>by
  have:=tM scope.names [] hcl _ (PySem.mem_of_lookup e);rcases this with z | z
  . cases z
  . exact z
 subst hC
 have neC:∀ x c,(iE X.env scope.names []).lookup x = some c->c < s.heap.objs.size:=λx c e=>by
  obtain ⟨v,z⟩:=I.cell x c (hlk x c e);exact z.lt
 refine ⟨⟨I.ok.mod,S.kind,I.ok.glob,I.ok.blt,az _,λx y c e1 e2=>I.ok.inj x y c (hlk x c e1) (hlk y c e2),λx hx=>?_,λx c z _=>absurd z au,I.ok.hd,I.ok.frames,.inl rfl,λb hb=>⟨bH (hfl b hb),λx c e=>(hf b hb).2.2.2.2.1 x c (hlk x c e)⟩,
  I.bs,bq I.ok.bsz I.sz,λb o e hb=>?_,λb hb hz=>?_,I.stack,I.stkFree⟩,rfl,I.bare,Un.kept hk,⟨_,hns,λi x v e1 e2 e3=>?_⟩,λx c e=>?_,I.hok.fresh (az _),λx c e=>I.freeC x c (hlk x c e),λp hp=>absurd (show p∈([]:List (aq × Obj)) from hp) ↥0,I.hok.kept hk,?_⟩
 . have q:=qK (cl:=iE X.env scope.names []) (C:=s.heap.objs.size) S.nocell hx;obtain ⟨c,hm⟩:=tP (env:=X.env) scope.names [] x (.inl (PySem.mem_of_lookup q));exact iY hm
 . obtain ⟨_,_,_,f3,_⟩:=hf b hb;rcases f3 with z | z
   . exact I.ok.noex b o e z
   . exact absurd (bj (aM e) (bq I.ok.bsz z)) (cR _)
 . obtain ⟨_,f1,f2,_⟩:=hf b hb;rcases aC.mp (I.stkSub b hz) with q | q
   . exact f1 q
   . exact f2 q
 . have e1:Nc[i]? = some x:=e1
   have hi:i < X.N.length:=by
    by_cases hi:i < X.N.length
    . exact hi
    . rw [bh (by rw [I.len];omega),dB] at e2;split at e2<;>cases e2
   rw [aR (by rw [I.len];exact hi)] at e2
   have vis:Vis scope x:=by
    have e3:Vis (relabel scope X.env) x:=e3;unfold Vis relabel at e3;rw [iz (scope:=scope)] at e3;unfold Vis
    cases q:scope.names.lookup x with
    | none=>rw [q] at e3;simp at e3
    | some k =>
      rw [q] at e3;simp only [dn] at e3;have:=S.nocell _ (PySem.mem_of_lookup q);cases k<;>simp_all
   obtain ⟨n1,n2⟩:=hN i x hi e1 vis;obtain ⟨m,hn,hl'⟩:=I.loc;have kd:=S.free x (PySem.mem_of_lookup n2)
   have visX:Vis X.env.scope x:=by
    rcases kd with z | z
    . exact .inr (.inl z)
    . exact .inr (.inr z)
   obtain ⟨u,r,l⟩:=hl' i x v n1 e2 visX;refine ⟨u,r,.inr ?_⟩;rcases l with ⟨k,_⟩ | ⟨k,c,ec,z⟩
   . rcases kd with z | z
     . rw [z] at k;cases k
     . rw [z] at k;cases k
   . obtain ⟨c',hm⟩:=tP (env:=X.env) scope.names [] x (.inl (PySem.mem_of_lookup n2));obtain ⟨c2,hc2⟩:=iY hm;have:=hlk x c2 hc2;rw [ec] at this;cases this;refine ⟨?_,c,hc2,?_⟩
     . show (compEnvC scope (iE X.env scope.names []) s.heap.objs.size X.env).kindOf x = some .cell\/(compEnvC scope (iE X.env scope.names []) s.heap.objs.size X.env).kindOf x = some .free;rw [nO,n2];simp only [dn];split
       . exact .inl rfl
       . exact .inr rfl
     . obtain ⟨o,ho,hd⟩:=z;exact ⟨o,hk _ _ ho,hd⟩
 . obtain ⟨v,o,ho,hd⟩:=I.cell x c (hlk x c e);exact ⟨v,o,hk _ _ ho,hd⟩
 . show _ = Nc.length;rw [ah,dP,I.len];omega
def uE (D:aq) (te:TE):TU:=λσ H Q=>te σ H λy H'=>∃ xs,H' D = some (.lst xs)/\xs.length < sizeLine/\Q σ (upd H' D (.lst (xs++[y])))
def sC (he:PE X elt te):PU X (do let _ <- call (.builtin "list.append") [.ref D,<- eval elt X.env]) (uE D te):=by
 intro pins s σ H Q I h;refine ag (thn (he pins s σ H _ I h) λu s1 ⟨y,H1,I1,r1,xs,hD,hz,q⟩=>?_);refine ag (thn (rE pins s1 σ H1 (.ref D) [y] (.ref D) [u] (λ_ H'=>Q σ H') I1 rfl (.cons r1 .nil) ⟨D,xs,y,rfl,rfl,hD,hz,q⟩) λ_ s2 ⟨_,H2,I2,_,q2⟩=>?_);exact aH ⟨σ,H2,I2,q2⟩
def tLC (k:Nat) (wi:TI) (g:TG) (tt:TT) (te:TE):TE:=λσ H Q=>wi σ H λJ H1=>∀ D,H1 D = none ->
 tLp J g tt (uE D te) (σ++aS k none) (upd H1 D (.lst [])) λ_ H2=>Q (.ref D) H2
def qj
 (I:Inv X pins σ H s) (hf:∀ b∈fp,jV X pins H b) (hC:C = s.heap.objs.size) (J:Inv (cxC X scope cl C Nc s H fp) [] σ' H' s') (hs:jX C s'.heap h2):Inv X pins σ H' { s' with heap:=h2 }:=by
 have hok:HOk X.prog X.w H' h2:=λb ob e=>by
  refine (J.hok b ob e).stay (λc w' hc q=>(hs.2 c ?_).trans q) (λ_ q=>q) λ_ _ q=>q;rintro rfl;have fr:H' c = none:=J.free;rcases hc with rfl | hc
  . rw [fr] at e;cases e
  . rw [fr] at hc;cases hc
 have neC:∀ b o,s.heap.get? b = some o->b≠C:=λb o e=>by rw [hC];exact bH (aM e)
 refine I.call' (s':={ s' with heap:=h2 }) (ch:=fp) J.os ⟨λb o e n hb hx=>?_,λb o e n hb hx=>?_,λb o e n hx=>J.base.free b o e n hx,λb o e hx=>?_,J.base.tups,J.base.frzs,J.base.tbls⟩ hok J.bare λb hb=>?_
 . exact (hs.2 b (neC b o e)).trans (J.base.keep b o e n hb hx)
 . obtain ⟨sl,z⟩:=J.base.slot b o e n hb hx;exact ⟨sl,(hs.2 b (neC b o e)).trans z⟩
 . obtain ⟨o',z⟩:=J.base.there b o e hx;exact ⟨o',(hs.2 b (neC b o e)).trans z⟩
 . obtain ⟨f0,f1,f2,f3,f4,f5⟩:=hf b hb;exact ⟨f3,f1,f4,f5⟩
def qm
 (S:lP X scope) (I:Inv X pins σ H s) (hf:∀ b∈fp,jV X pins H b) (hfl:∀ b∈fp,b < s.heap.objs.size) (hC:C = s.heap.objs.size) (hn:∀ b∈fp,H' b = none) :
 ∀ b∈fp,jV (cxC X scope (iE X.env scope.names []) C Nc s H fp) [] H' b:=λb hb=>by
 have hcl:∀ x,(x,bX)∈scope.names->∃ c,X.env.cells.lookup x = some c:=λx hx=>I.ok.has x (S.free x hx);obtain ⟨f0,f1,f2,f3,f4,f5⟩:=hf b hb;refine ⟨hn b hb,?_,λz=>?_,.inl hb,λx c e=>?_,λp hp=>absurd (show p∈([]:List (aq × Obj)) from hp) ↥0⟩
 . show b≠C;rw [hC];exact bH (hfl b hb)
 . rcases aC.mp (I.stkSub b z) with q | q
   . exact f1 q
   . exact f2 q
 . have:=tM scope.names [] hcl _ (PySem.mem_of_lookup e);rcases this with z | z
   . cases z
   . exact f4 x c z
def rh {rest:List fI} {body:af->Env->Sem Unit} {tb:aq->TU}
 (hx:X.xe = λ_ _=>False) (hc:X.calm = true) (S:lP X scope) (hN:∀ i x,i < X.N.length->Nc[i]? = some x->Vis scope x->X.N[i]? = some x/\scope.names.lookup x = some .free) (hl:X.N.length<=Nc.length)
 (hi:PI X tg iter wi) (hg:∀ cl C s H fp,PG (cxC X scope cl C Nc s H fp) tg g) (ht:∀ cl C s H fp,PTs (cxC X scope cl C Nc s H fp) ifs tt) (hb:∀ cl C s H fp D,PU (cxC X scope cl C Nc s H fp) (body (.ref D) (compEnvC scope cl C X.env)) (tb D))
 (hturn:∀ it acc env,compTurn (.ListComp elt (⟨tg,iter,ifs,0⟩::rest) scope pos) 0 it acc env = (do
   standAt iter.pos
   match <- pyNext it with
   | none=>pure (.done .next)
   | some v =>
     letOwnedTupleGo tg it v
     assign tg env v
     let mut ok:=true
     for c in ifs do
      if ok then ok <- isTrue c env (eval c env)
     if ok then body acc env
     again (.compLoop (.ListComp elt (⟨tg,iter,ifs,0⟩::rest) scope pos) 0 it acc env)))
 (hs:∀ x,foldedSetIterable iter X.env x = pure x):PE X (.ListComp elt (⟨tg,iter,ifs,0⟩::rest) scope pos) (λσ H Q=>wi σ H λJ H1=>∀ D,H1 D = none->tLp J g tt (tb D) (σ++aS (Nc.length - X.N.length) none) (upd H1 D (.lst [])) λ_ H2=>Q (.ref D) H2):=by
 intro pins s σ H Q I h;rw [eval_ListComp]
 have cutE:∀ {α:Type} {m:Sem α} {Q:α->ai->Prop} {s:ai} {E':af->ai->Prop},wpAny (model X.prog X.w) X.A m Q X.xe s->wpAny (model X.prog X.w) X.A m Q E' s:=λz=>by
  rw [hx] at z;exact wpAny_noRaise z
 refine AE (use:=none) rfl hs (Ek λx hz=>I.ok.has x (S.free x hz)) S.kind S.names (thn (hi pins s σ H _ I h) λv s1 h1=>thn h1 λitv s2 h2=>?_);obtain ⟨it,fp,tn,J,H2,e,I2,T,st2,f2,q⟩:=h2;subst e;refine cU (hd:=by size_fits) ?_;have hfr:=I2.fresh;have I3:Inv X pins σ (upd H2 s2.heap.objs.size (.lst [])) { s2 with heap:=s2.heap.push { cls:=.type "list",data:=.seq ([]:List af).toArray } }:=I2.lnew (t':=s2.toks) (its:=[]) .nil (bP _);have st3:tn 0 (s2.heap.push { cls:=.type "list",data:=.seq ([]:List af).toArray }):=T.keep _ _ _ st2 λb _ o e=>ao _ e
 have fl3:∀ b∈fp,b < s2.heap.objs.size:=λb hb=>by
  obtain ⟨o,e,_⟩:=T.obj _ _ st2 b hb;exact aM e
 have ne3:∀ b∈fp,upd H2 s2.heap.objs.size (.lst []) b = none:=λb hb=>by rw [bI (bH (fl3 b hb))];exact (f2 b hb).1
 have f3:∀ b∈fp,jV X pins (upd H2 s2.heap.objs.size (.lst [])) b:=λb hb=>⟨ne3 b hb,(f2 b hb).2⟩;have q3:=q s2.heap.objs.size hfr;generalize hH3:upd H2 s2.heap.objs.size (.lst []) = H3 at I3 ne3 f3 q3;generalize hs3:({ s2 with heap:=s2.heap.push { cls:=.type "list",data:=.seq ([]:List af).toArray } }:ai) = s3 at I3;have hs3h:s3.heap = s2.heap.push { cls:=.type "list",data:=.seq ([]:List af).toArray }:=by rw [<- hs3]
 rw [<- hs3h] at st3;have fl4:∀ b∈fp,b < s3.heap.objs.size:=λb hb=>by rw [hs3h,fH];exact jl (fl3 b hb)
 refine nU S.nocell (by intro y hy;simp at hy) (λh1 hns hsb=>?_) S.kind;have keep1:∀ b o,s3.heap.get? b = some o->h1.get? b = some o:=λb o e=>hsb.extBut b o (bH (aM e)) (ao _ e);have J0:=rF (h1:=h1) (t1:=s3.toks+([]:List (Str × af)).length) S I3 f3 fl4 rfl (by simpa using hns) keep1 hN hl;have st4:tn 0 h1:=T.keep _ _ _ st3 λb _ o e=>keep1 b o e
 have loop:∀ s4:ai,s4 = { s3 with heap:=h1,toks:=s3.toks+([]:List (Str × af)).length } ->
  codeAny (model X.prog X.w) X.A (.compLoop (.ListComp elt (⟨tg,iter,ifs,0⟩::rest) scope pos) 0 (.ref it) (.ref s2.heap.objs.size) (compEnvC scope (iE X.env scope.names []) s3.heap.objs.size X.env))
   (compPost (model X.prog X.w) X.A X.xe none (EP X pins σ Q) (.ref s2.heap.objs.size) s3.heap.objs.size) s4:=by
  rintro s4 rfl;refine Ej (X:=cxC X scope (iE X.env scope.names []) s3.heap.objs.size Nc s3 H3 fp) (ip:=iter.pos) rfl hc rfl rfl rfl (hturn _ _ _) T (hg _ _ _ _ _) (ht _ _ _ _ _) (hb _ _ _ _ _ _) J0 st4 (qm S I3 f3 fl4 rfl ne3) q3 ?_;intro s' σ' H' J' q';obtain ⟨m,hn,_⟩:=J'.loc;exact ⟨m,hn,λh2 hs2=>⟨.ref s2.heap.objs.size,H',qj I3 f3 rfl J' hs2,rfl,q'⟩⟩
 exact EH (loop _ rfl) (T.self _ _ _ _ _ st4 (loop _ rfl))
def CP
 (hx:X.xe = λ_ _=>False) (hc:X.calm = true) (S:lP X scope) (hN:∀ i x,i < X.N.length->Nc[i]? = some x->Vis scope x->X.N[i]? = some x/\scope.names.lookup x = some .free) (hl:X.N.length<=Nc.length)
 (hi:PI X tg iter wi) (hg:∀ cl C s H fp,PG (cxC X scope cl C Nc s H fp) tg g) (ht:∀ cl C s H fp,PTs (cxC X scope cl C Nc s H fp) ifs tt) (he:∀ cl C s H fp,PE (cxC X scope cl C Nc s H fp) elt te)
 (hs:∀ x,foldedSetIterable iter X.env x = pure x):PE X (.ListComp elt [⟨tg,iter,ifs,0⟩] scope pos) (tLC (Nc.length - X.N.length) wi g tt te) :=
 rh hx hc S hN hl hi hg ht (λ_ _ _ _ _ _=>sC (he _ _ _ _ _)) (λit acc env=>by rw [compTurn_list]<;>rfl) hs
section
variable {e elt t i t2 i2:aG} {gs:List fI} {f2:List aG} {scope:eK} {pos:Pos} {d:Nat}
def Fy (wi:TI) (g:TG) (tb:TU):TU:=λσ H Q=>wi σ H λJ H'=>tLp J g (λ_ H Q=>Q true H) tb σ H' Q
def clB (e:aG) (d:Nat) (t i:aG) (f:List aG) (b:af->Env->Sem Unit):Prop:=∀ it acc env,compTurn e d it acc env = (do
 standAt i.pos
 match <- pyNext it with
 | none=>pure (.done .next)
 | some v =>
   letOwnedTupleGo t it v
   assign t env v
   let mut ok:=true
   for c in f do
    if ok then ok <- isTrue c env (eval c env)
   if ok then b acc env
   again (.compLoop e d it acc env))
def subB (e:aG) (d:Nat) (i:aG) (acc:af) (env:Env):Sem Unit:=do
 let x <- eval i env
 standAt i.pos
 let x <- foldedSetIterable i env x
 let _ <- runOwn (.compStart e d (<- holding [x] (pyIter x)) acc env) env
def El (h:gs[d]? = some ⟨t,i,[],0⟩) (h2:gs[d+1]? = none):clB (.ListComp elt gs scope pos) d t i [] (λacc env=>do let _ <- call (.builtin "list.append") [acc,<- eval elt env]):=λit acc env=>by
 unfold compTurn;simp only [h,h2];rfl
def vE (h:gs[d]? = some ⟨t,i,[],0⟩) (h2:gs[d+1]? = some ⟨t2,i2,f2,0⟩):clB (.ListComp elt gs scope pos) d t i [] (subB (.ListComp elt gs scope pos) (d+1) i2):=λit acc env=>by
 unfold compTurn subB;simp only [h,h2,bne_self_eq_false,bW,if_false,bind_assoc,pure_bind];rfl
end
section
variable {prog:bp} {w:bQ} {A:bo} {R:EI->ai->Prop} {s:ai}
def wm {gs:List fI} {d:Nat} {g:fI} {elt:aG} {scope:eK} {pos:Pos} {it acc:af} {env:Env} (hg:gs[d]? = some g) (ha:g.is_async = 0)
 (h0:codeAny (model prog w) A (.compLoop (.ListComp elt gs scope pos) d it acc env) R s)
 (h:wpAny (model prog w) A (pyIter it) (λit' s'=>codeAny (model prog w) A (.compLoop (.ListComp elt gs scope pos) d it' acc env) R s') (notedBy (model prog w) A env λx s'=>R (.error x) s') s) :
 codeAny (model prog w) A (.compStart (.ListComp elt gs scope pos) d it acc env) R s:=by
 apply codeAny_of_tree;show wpAny _ _ ((compStart (.ListComp elt gs scope pos) d it acc env).onRaise (λx=>do noteFrame x env;standAt theWindowsPlace)) _ _ s;apply wpAny_notedAt;unfold compStart;have hc:(clausesOf (.ListComp elt gs scope pos))[d]? = some g:=hg;rw [hc];have hn:(Option.elim (some g) false λx=>x.is_async != 0) = false:=by show (g.is_async != 0) = false;rw [ha];rfl
 rw [hn];show wpAny _ _ (ask >>= λ_=>_) _ _ s;refine ag (wpAny_askSetting (wpAny_ite ?_));split
 . exact aH ⟨rfl,h0⟩
 . exact ag (fX (ag (gD (ag (fx h (λit' s' h'=>aH ⟨rfl,h'⟩) λ_ _ x=>x)))))
end
def CD {X:Cx} {elt t i:aG} {gs:List fI} {scope:eK} {pos:Pos} {d:Nat} {D:aq} {wi:TI} {g:TG} {tb:TU} {b:af->Env->Sem Unit} (hx:X.xe = λ_ _=>False) (hc:X.calm = true) (hgs:gs[d]? = some ⟨t,i,[],0⟩)
 (hi:PI X t i wi) (hg:PG X t g) (hb:PU X (b (.ref D) X.env) tb) (ht:clB (.ListComp elt gs scope pos) d t i [] b) (hs:∀ x,foldedSetIterable i X.env x = pure x):PU X (subB (.ListComp elt gs scope pos) d i (.ref D) X.env) (Fy wi g tb):=by
 intro pins s σ H Q I h;refine ag (thn (hi pins s σ H _ I h) λv s1 h1=>ag (gD (ag (wpAny_of_eq (hs v) (ag (dR (thn h1 λitv s2 h2=>?_)))))));obtain ⟨it,fp,tn,J,H2,e,I2,T,st2,f2',q⟩:=h2;subst e;refine ag (wpAny_runOwn (h:=none) ?_);rw [show X.A.mark none = X.A from rfl]
 have loop:∀ (R:EI->ai->Prop),(∀ s' σ' H',Inv X pins σ' H' s'->Q σ' H'->R (.ok .next) s')->codeAny (model X.prog X.w) X.A (.compLoop (.ListComp elt gs scope pos) d (.ref it) (.ref D) X.env) R s2:=λR hR =>
  Ej (ip:=i.pos) hx hc rfl rfl rfl (ht _ _ _) T hg sD hb I2 st2 f2' q hR
 refine wm hgs rfl (loop _ ?_) (T.self _ _ _ _ _ st2 (loop _ ?_))
 . exact λs' σ' H' J' q'=>aH ⟨σ',H',J',q'⟩
 . exact λs' σ' H' J' q'=>aH ⟨σ',H',J',q'⟩
def Aj {X:Cx} {scope:eK} {Nc:List Str} {t1 i1 t2 i2 t3 i3 elt:aG} {w1 w2 w3:TI} {g1 g2 g3:TG} {te:TE} {pos:Pos}
 (hx:X.xe = λ_ _=>False) (hc:X.calm = true) (S:lP X scope) (hN:∀ i x,i < X.N.length->Nc[i]? = some x->Vis scope x->X.N[i]? = some x/\scope.names.lookup x = some .free) (hl:X.N.length<=Nc.length)
 (h1:PI X t1 i1 w1) (hg1:∀ cl C s H fp,PG (cxC X scope cl C Nc s H fp) t1 g1) (h2:∀ cl C s H fp,PI (cxC X scope cl C Nc s H fp) t2 i2 w2) (hg2:∀ cl C s H fp,PG (cxC X scope cl C Nc s H fp) t2 g2) (h3:∀ cl C s H fp,PI (cxC X scope cl C Nc s H fp) t3 i3 w3) (hg3:∀ cl C s H fp,PG (cxC X scope cl C Nc s H fp) t3 g3) (he:∀ cl C s H fp,PE (cxC X scope cl C Nc s H fp) elt te)
 (hs1:∀ x,foldedSetIterable i1 X.env x = pure x) (hs2:∀ env x,foldedSetIterable i2 env x = pure x) (hs3:∀ env x,foldedSetIterable i3 env x = pure x):PE X (.ListComp elt [⟨t1,i1,[],0⟩,⟨t2,i2,[],0⟩,⟨t3,i3,[],0⟩] scope pos)
   (λσ H Q=>w1 σ H λJ H1=>∀ D,H1 D = none->tLp J g1 (λ_ H Q=>Q true H) (Fy w2 g2 (Fy w3 g3 (uE D te))) (σ++aS (Nc.length - X.N.length) none) (upd H1 D (.lst [])) λ_ H2=>Q (.ref D) H2) :=
 rh hx hc S hN hl h1 hg1 (λ_ _ _ _ _=>sD) (λ_ _ _ _ _ _=>CD rfl hc rfl (h2 _ _ _ _ _) (hg2 _ _ _ _ _) (CD rfl hc rfl (h3 _ _ _ _ _) (hg3 _ _ _ _ _) (sC (he _ _ _ _ _)) (El rfl rfl) (hs3 _)) (vE rfl rfl) (hs2 _)) (vE rfl rfl) hs1
def CI
 (hx:X.xe = λ_ _=>False) (hc:X.calm = true) (S:lP X scope) (hN:∀ i x,i < X.N.length->Nc[i]? = some x->Vis scope x->X.N[i]? = some x/\scope.names.lookup x = some .free) (hl:X.N.length<=Nc.length)
 (hi:PI X tg iter wi) (hg:∀ cl C s H fp,PG (cxC X scope cl C Nc s H fp) tg g) (ht:∀ cl C s H fp,PTs (cxC X scope cl C Nc s H fp) ifs tt) (he:∀ cl C s H fp,PE (cxC X scope cl C Nc s H fp) elt te)
 (hs:∀ x,foldedSetIterable iter X.env x = pure x)
 (hNd:X.N.Nodup) (hy:X.N[i]? = some y) (hv:Loc X.env.scope y) (hf:X.fn y = true\/X.env.scope.names.lookup y = some .local)
 (hsw:swapsWith (.ListComp elt [⟨tg,iter,ifs,0⟩] scope pos) (some (.Name y py)) spos.line X.env = pure true) :
 PS X (.Assign [.Name y py] (.ListComp elt [⟨tg,iter,ifs,0⟩] scope pos) spos) (FA (tLC (Nc.length - X.N.length) wi g tt te) (vn i)):=by
 intro pins s σ H Q I h;rw [exec_Assign_Name_used _ _ _ _ hsw];refine ag (gD (ag ?_));show wpAny _ X.A (do let _ <- comprehension (.ListComp elt [⟨tg,iter,ifs,0⟩] scope pos) scope X.env _ (newList []) false (eval iter X.env) (some (assign (.Name y py) X.env))) _ _ s
 refine ag (fx (AE (use:=some (assign (.Name y py) X.env)) (Q:=λ_ s'=>SP X pins Q .next s') rfl hs (Ek λx hz=>I.ok.has x (S.free x hz)) S.kind S.names
  (thn (hi pins s σ H _ I h) λv s1 h1=>thn h1 λitv s2 h2=>?_)) (λ_ s' hq=>aH (aH hq)) λ_ _ e=>e)
 obtain ⟨it,fp,tn,J,H2,e,I2,T,st2,f2,q⟩:=h2;subst e;refine cU (hd:=by size_fits) ?_;have hfr:=I2.fresh;have I3:Inv X pins σ (upd H2 s2.heap.objs.size (.lst [])) { s2 with heap:=s2.heap.push { cls:=.type "list",data:=.seq ([]:List af).toArray } }:=I2.lnew (t':=s2.toks) (its:=[]) .nil (bP _);have st3:tn 0 (s2.heap.push { cls:=.type "list",data:=.seq ([]:List af).toArray }):=T.keep _ _ _ st2 λb _ o e=>ao _ e
 have fl3:∀ b∈fp,b < s2.heap.objs.size:=λb hb=>by
  obtain ⟨o,e,_⟩:=T.obj _ _ st2 b hb;exact aM e
 have ne3:∀ b∈fp,upd H2 s2.heap.objs.size (.lst []) b = none:=λb hb=>by rw [bI (bH (fl3 b hb))];exact (f2 b hb).1
 have f3:∀ b∈fp,jV X pins (upd H2 s2.heap.objs.size (.lst [])) b:=λb hb=>⟨ne3 b hb,(f2 b hb).2⟩;have q3:=q s2.heap.objs.size hfr;generalize hH3:upd H2 s2.heap.objs.size (.lst []) = H3 at I3 ne3 f3 q3;generalize hs3:({ s2 with heap:=s2.heap.push { cls:=.type "list",data:=.seq ([]:List af).toArray } }:ai) = s3 at I3;have hs3h:s3.heap = s2.heap.push { cls:=.type "list",data:=.seq ([]:List af).toArray }:=by rw [<- hs3]
 rw [<- hs3h] at st3;have fl4:∀ b∈fp,b < s3.heap.objs.size:=λb hb=>by rw [hs3h,fH];exact jl (fl3 b hb)
 refine nU S.nocell (by intro y hy;simp at hy) (λh1 hns hsb=>?_) S.kind;have keep1:∀ b o,s3.heap.get? b = some o->h1.get? b = some o:=λb o e=>hsb.extBut b o (bH (aM e)) (ao _ e);have J0:=rF (h1:=h1) (t1:=s3.toks+([]:List (Str × af)).length) S I3 f3 fl4 rfl (by simpa using hns) keep1 hN hl;have st4:tn 0 h1:=T.keep _ _ _ st3 λb _ o e=>keep1 b o e
 have loop:∀ s4:ai,s4 = { s3 with heap:=h1,toks:=s3.toks+([]:List (Str × af)).length } ->
  codeAny (model X.prog X.w) X.A (.compLoop (.ListComp elt [⟨tg,iter,ifs,0⟩] scope pos) 0 (.ref it) (.ref s2.heap.objs.size) (compEnvC scope (iE X.env scope.names []) s3.heap.objs.size X.env))
   (compPost (model X.prog X.w) X.A X.xe (some (assign (.Name y py) X.env)) (λ_ s'=>SP X pins Q .next s') (.ref s2.heap.objs.size) s3.heap.objs.size) s4:=by
  rintro s4 rfl
  refine Ej (X:=cxC X scope (iE X.env scope.names []) s3.heap.objs.size Nc s3 H3 fp) (ip:=iter.pos) (body:=(do let _ <- call (.builtin "list.append") [.ref s2.heap.objs.size,<- eval elt (compEnvC scope (iE X.env scope.names []) s3.heap.objs.size X.env)]))
   rfl hc rfl rfl rfl (by rw [compTurn_list]<;>rfl) T (hg _ _ _ _ _) (ht _ _ _ _ _) (sC (he _ _ _ _ _)) J0 st4 (qm S I3 f3 fl4 rfl ne3) q3 ?_
  intro s' σ' H' J' q';have hC:H' s3.heap.objs.size = none:=J'.free;obtain ⟨m,hn,_⟩:=J'.loc;have hn:s'.heap.Ns s3.heap.objs.size m:=hn
  -- the frame's state,the block's own names still there
  have I4:Inv X pins σ H' s':=qj I3 f3 rfl J' (Heap.SameBut.refl _ _);obtain ⟨oc,es,ep,ho,hd,hr⟩:=id hn;have above:X.s₀.heap.objs.size<=s3.heap.objs.size:=I3.sz;have hL:s3.heap.objs.size≠X.env.locals:=fh I3.lt;have hfs:s3.heap.objs.size∉X.fs:=I3.nofs (az _)
  have I5:Inv X (pins++[(s3.heap.objs.size,oc)]) σ H' s':=I4.pins_of λp hp=>by
   rcases aJ.mp hp with hp | hp
   . exact I4.pin p (aW _ hp)
   . have:p = (s3.heap.objs.size,oc):=by simpa using hp
     subst this;exact ⟨ho,hC,hL,hfs,λv z=>by rw [hd] at z;cases z⟩
  show wpAny _ _ (assign (.Name y py) X.env (.ref s2.heap.objs.size)) _ _ _;refine Lf (ka (v:=.ref s2.heap.objs.size) I5 hNd hy hv rfl (λs5 I6=>?_) hf);have hp6:=I6.pin (s3.heap.objs.size,oc) (aW _ (aW _ ↥0));refine ⟨m,⟨oc,es,ep,hp6.1,hd,hr⟩,λh' hsb'=>?_⟩;have I7:Inv X pins (σ.set i (some (.ref s2.heap.objs.size))) H' s5:=I6.unpinned;refine ⟨_,H',I7.turned (h':=h') (t':=s5.toks) (it:=s3.heap.objs.size) (λb o hb e=>(hsb'.2 b hb).trans e) hC hL (.inr above) (λx c e z=>?_) (λp hp z=>?_),q'⟩
  . obtain ⟨v,o,hoc,hdc⟩:=I3.cell x c e;have:=aM hoc;rw [z] at this;exact absurd this (cR _)
  . have hq:=(I3.pin p hp).1;have:=aM hq;rw [z] at this;exact absurd this (cR _)
 exact EH (loop _ rfl) (T.self _ _ _ _ _ st4 (loop _ rfl))
section
variable {X:Cx}
def Nw:V->Option Int->Option Int->Hp->VK->Prop:=λx lo hi H Q=>∃ t,x = .str t/\t.length<=sizeLine/\Q (.str (Txt.slice t lo hi)) H
def part_of {v:af} {lo:Option Int} (h:qA v lo):∃ l:Option (Int × Tok),v = partValue l/\l.map (·.1) = lo:=by
 cases h with
 | none=>exact ⟨none,rfl,rfl⟩
 | int i t=>exact ⟨some (i,t),rfl,rfl⟩
def Jf:SlR X Nw:=by
 intro pins s σ H x v vl vu lo hi sl Q I rx hs pl pu h;obtain ⟨t,rfl,hz,q⟩:=h;obtain ⟨k,rfl⟩:=rx;obtain ⟨l,rfl,rfl⟩:=part_of pl;obtain ⟨u,rfl,rfl⟩:=part_of pu;refine ⟨"str",_,PySem.F.slot_str_getitem.lookup,xy _ _ _,wpAny_getItem_str_slice (l:=l) (u:=u) (st:=none) hs rfl ?_⟩;exact post_val_or_str ⟨bq (Txt.slice_le t _ _) hz,λt' k=>⟨.str _,H,I.tok _,⟨_,rfl⟩,q⟩⟩
end
end L2
end
section
namespace PP
open PySem PySem.W PyProof.Rows
def ans {α:Type} (lt:Nat->Nat->Bool):KasT α->α
 | .ret a=>a
 | .ask i j k=>ans lt (k (lt i j))
def gz {α β:Type} (lt:Nat->Nat->Bool) (f:α->KasT β):∀ t:KasT α,ans lt (t.bind f) = ans lt (f (ans lt t))
 | .ret a=>rfl
 | .ask i j k=>by
   show ans lt ((k (lt i j)).bind f) = _;rw [gz lt f (k (lt i j))];rfl
def kO {α:Type} (lt:Nat->Nat->Bool) (i j:Nat) (k:Bool->KasT α):ans lt (.ask i j k) = ans lt (k (lt i j)):=rfl
def zd {α:Type} (lt:Nat->Nat->Bool) (a:α):ans lt (.ret a) = a:=rfl
structure Ord (lt:Nat->Nat->Bool):Prop where
 as:∀ a b,lt a b = true->lt b a = false
 tr:∀ a b c,lt b a = false->lt c b = false->lt c a = false
section
variable {lt:Nat->Nat->Bool} (O:Ord lt)
def Up (lt:Nat->Nat->Bool) (p:Array Nat) (m:Nat):Prop:=∀ i j,i<=j->j < m->lt (p.getD j 0) (p.getD i 0) = false
def Dn' (lt:Nat->Nat->Bool) (p:Array Nat) (m:Nat):Prop:=∀ i j,i<=j->j < m->lt (p.getD i 0) (p.getD j 0) = false
include O
theorem Ord.refl (a:Nat):lt a a = false:=by
 cases h:lt a a with
 | false=>rfl
 | true=>have:=O.as a a h;rw [h] at this;cases this
theorem Up.one (p:Array Nat):Up lt p 1:=λi j h1 h2=>by
 have e1:j = 0:=by lia
 have e2:i = 0:=by lia
 subst e1;subst e2;exact O.refl _
theorem Up.more {p:Array Nat} {n:Nat} (h:Up lt p n) (hn:1<=n) (h2:lt (p.getD n 0) (p.getD (n - 1) 0) = false):Up lt p (n+1):=λi j h3 h4=>by
 by_cases e:j = n
 . subst e;by_cases e':i = j
   . subst e';exact O.refl _
   . exact O.tr _ _ _ (h i (j - 1) ∅ ∅) h2
 . exact h i j h3 ∅
theorem Dn'.more {p:Array Nat} {n:Nat} (h:Dn' lt p n) (hn:1<=n) (h2:lt (p.getD (n - 1) 0) (p.getD n 0) = false):Dn' lt p (n+1):=λi j h3 h4=>by
 by_cases e:j = n
 . subst e;by_cases e':i = j
   . subst e';exact O.refl _
   . exact O.tr _ _ _ h2 (h i (j - 1) ∅ ∅)
 . exact h i j h3 ∅
omit O in
theorem getD_eq (p:Array Nat) (k:Nat):p.getD k 0 = (p[k]?).getD 0:=by
 simp [Array.getD_eq_getD_getElem?]
omit O in
theorem oP (hj:j<=p.size) (k:Nat):(kas_rev p i j).getD k 0 = if i<=k/\k < j then p.getD (i+j - 1 - k) 0 else p.getD k 0:=by
 rw [getD_eq,kas_rev,getElem?_mirror hj ((j - i) / 2) ∅ k];by_cases h:i<=k/\k < j
 . rw [if_pos h];by_cases h2:(i<=k/\k < i+(j - i) / 2)\/(j - (j - i) / 2<=k/\k < j)
   . rw [if_pos h2,getD_eq]
   . rw [if_neg h2,getD_eq];have:i+j - 1 - k = k:=by lia
     rw [this]
 . rw [if_neg h];by_cases h2:(i<=k/\k < i+(j - i) / 2)\/(j - (j - i) / 2<=k/\k < j)
   . exfalso;lia
   . rw [if_neg h2,getD_eq]
omit O in
theorem gX (p:Array Nat) (i j:Nat):(kas_rev p i j).Perm p:=mirror_perm _ _ _ _
theorem Dn'.rev (h:Dn' lt p n) (hn:n<=p.size):Up lt (kas_rev p 0 n) n:=λi j h1 h2=>by
 rw [oP hn,oP hn,if_pos ⟨∅,h2⟩,if_pos ⟨∅,∅⟩];exact h _ _ ∅ ∅
def Eqv (lt:Nat->Nat->Bool) (p:Array Nat) (a b:Nat):Prop:=∀ i j,a<=i->i < b->a<=j->j < b->lt (p.getD i 0) (p.getD j 0) = false
theorem Dn'.turn (h:Dn' lt p n) (hn:n<=p.size) (e:Eqv lt p a n):Dn' lt (kas_rev p a n) n:=λi j h1 h2=>by
 rw [oP hn,oP hn];by_cases hi:a<=i
 . rw [if_pos ⟨hi,∅⟩,if_pos ⟨∅,h2⟩];exact e _ _ ∅ ∅ ∅ ∅
 . rw [if_neg ∅];by_cases hj:a<=j
   . rw [if_pos ⟨hj,h2⟩];exact h _ _ ∅ ∅
   . rw [if_neg ∅];exact h _ _ h1 h2
end
end PP
end
section
namespace PP
open PySem
set_option genInjectivity true in
inductive D where
 | non | bl (b:Bool) | int (i:Int) | str (x:Str) | lst (ds:List D) | tup (ds:List D) | fn (k:Nat) (ds:List D)
 deriving Inhabited
mutual
noncomputable def eqD:D->D->Bool
 | .non,.non=>true
 | .bl a,.bl b=>a == b
 | .bl a,.int b=>(if a then 1 else 0) == b
 | .int a,.bl b=>a == (if b then 1 else 0)
 | .int a,.int b=>a == b
 | .str a,.str b=>a == b
 | .lst a,.lst b=>gw a b
 | .tup a,.tup b=>gw a b
 | _,_=>false
noncomputable def gw:List D->List D->Bool
 | [],[]=>true
 | x::xs,y::ys=>eqD x y && gw xs ys
 | _,_=>false
end
mutual
noncomputable def ltD:D->D->Option Bool
 | .int a,.int b=>some (decide (a < b))
 | .str a,.str b=>some (decide (a.cps.toList < b.cps.toList))
 | .tup a,.tup b=>eH a b
 | _,_=>none
noncomputable def eH:List D->List D->Option Bool
 | [],[]=>some false
 | [],_::_=>some true
 | _::_,[]=>some false
 | x::xs,y::ys=>if eqD x y = true then eH xs ys else ltD x y
end
mutual
noncomputable def dep:D->Nat
 | .lst ds | .tup ds=>cO ds+1
 | .fn _ _=>100000
 | _=>0
noncomputable def cO:List D->Nat
 | []=>0
 | x::xs=>max (dep x) (cO xs)
end
mutual
noncomputable def lf:D->Bool
 | .lst _=>false
 | .fn _ _=>false
 | .tup ds=>lfL ds
 | _=>true
noncomputable def lfL:List D->Bool
 | []=>true
 | x::xs=>lf x && lfL xs
end
def flat:D->Bool
 | .non | .bl _ | .int _ | .str _=>true
 | _=>false
def tv:D->Option Bool
 | .non=>some false
 | .bl b=>some b
 | .int i=>some (i != 0)
 | .str x=>if x.length<=sizeLine then some ((x.length:Int) != 0) else none
 | .lst ds | .tup ds=>some (!ds.isEmpty)
 | .fn _ _=>none
inductive Op where
 | add | sub | mul | mod | fdiv
 deriving DecidableEq
inductive Cop where
 | lt | gt | eq | ne | isin | notin
 deriving DecidableEq
inductive Blt where
 | len | toInt | toStr | toTup | toLst | sortb | isTup
 deriving DecidableEq
def rD (i j:Int):Bool:=(decide (-(2 ^ 64) < i) && decide (i < 2 ^ 64)) || (decide (-(2 ^ 64) < j) && decide (j < 2 ^ 64)) || (decide (i.natAbs < 2 ^ 200) && decide (j.natAbs < 2 ^ 200))
def wB (x:Str) (n:Nat):Str:=⟨(aS n x.cps.toList).flatten.toArray⟩
def KY:D->D->Option D
 | .int a,.int b=>some (.int (a+b))
 | .str a,.str b=>if a.length+b.length<=sizeLine then some (.str (a++b)) else none
 | .tup [],.tup b=>some (.tup b)
 | .tup (x::a),.tup b=>if (x::a).length+b.length<=sizeLine then some (.tup (x::a++b)) else none
 | .lst a,.lst b=>if a.length+b.length<=sizeLine then some (.lst (a++b)) else none
 | _,_=>none
def IW:D->D->Option D
 | .int a,.int b=>some (.int (a - b))
 | _,_=>none
def Kd:D->D->Option D
 | .int a,.int b=>if rD a b then some (.int (a * b)) else none
 | .str a,.int b=>if 0<=b/\b<=1000/\a.length<=1000 then some (.str (wB a b.toNat)) else none
 | _,_=>none
def Ke:D->D->Option D
 | .int a,.int b=>if 0 < b then some (.int (a % b)) else none
 | _,_=>none
def DV:D->D->Option D
 | .int a,.int b=>if 0 < b/\b < 1000000000000000000000000000000000000000000000000000000000000 then some (.int (a / b)) else none
 | _,_=>none
def opD:Op->D->D->Option D
 | .add=>KY | .sub=>IW | .mul=>Kd | .mod=>Ke | .fdiv=>DV
def kin:D->D->Bool
 | .bl _,.bl _ | .int _,.int _ | .str _,.str _ | .lst _,.lst _ | .tup _,.tup _=>true
 | _,_=>false
def iB (a b:D):Bool:=kin a b && decide (min (dep a) (dep b)<=150) && decide (max (dep a) (dep b) < 100000)
def Mw:D->D->Bool
 | .int _,.str _=>true
 | .str _,.int _=>true
 | _,_=>false
def JL (p:Int->Int->Bool):D->D->Option Bool
 | .int a,.int b=>some (p a b)
 | _,_=>none
def JZ (y x:Str):Bool:=!(ph y x 0 y.length 1).isEmpty
def inD (a:D):D->Option Bool
 | .lst ds=>if dep a<=150/\cO ds < 99999 then some (ds.any λy=>eqD y a) else none
 | .tup ds=>if dep a<=150/\cO ds < 99999 then some (ds.any λy=>eqD y a) else none
 | .str y=>match a with
   | .str x=>some (JZ y x)
   | _=>none
 | _=>none
def kS (a b:D):Option Bool:=if min (dep a) (dep b)<=150/\max (dep a) (dep b) < 100000 then ltD a b else none
def mF (ds:List D) (i j:Nat):Bool:=(kS (ds.getD i .non) (ds.getD j .non)).getD false
def pJ (ds:List D):List D:=if ds.length < 2 then ds else (ans (mF ds) (PySem.W.kas_sort ds.length)).toList.map λi=>ds.getD i .non
def bG:D->Nat
 | .str _=>1
 | .int _=>2
 | .tup (.str _::_)=>3
 | .tup (.int _::_)=>4
 | _=>0
def sortable (ds:List D):Bool:=decide (ds.length < 64) && (ds.all λx=>bG x != 0 && bG x == bG (ds.getD 0 .non)) && ds.all λx=>ds.all λy=>(kS x y).isSome
def ltO (a b:D):Bool:=(kS a b).getD false
def vm (x:D):List D->List D
 | []=>[x]
 | y::ys=>if ltO y x = true then y::vm x ys else x::y::ys
def kb:List D->List D
 | []=>[]
 | x::xs=>vm x (kb xs)
mutual
noncomputable def gU:D->D->Bool
 | .bl a,.bl b=>decide (a = b)
 | .int a,.int b=>decide (a = b)
 | .str a,.str b=>decide (a = b)
 | .tup a,.tup b=>gH a b
 | _,_=>false
noncomputable def gH:List D->List D->Bool
 | [],[]=>true
 | x::xs,y::ys=>gU x y && gH xs ys
 | _,_=>false
end
def AD (ds:List D):Bool:=decide (ds.length<=sizeLine) && (ds.all λx=>bG x != 0 && bG x == bG (ds.getD 0 .non)) && (ds.all λx=>ds.all λy=>(kS x y).isSome && (!ltO x y || !ltO y x) && (ltO x y || ltO y x || gU x y)) && ds.all λx=>ds.all λy=>ltO y x || ds.all λz=>ltO z y || !ltO z x
mutual
noncomputable def hb:D->Bool
 | .str _ | .int _=>true
 | .tup ds=>hbL ds
 | _=>false
noncomputable def hbL:List D->Bool
 | []=>true
 | d::ds=>hb d && hbL ds
end
def hok:D->Bool
 | .tup (.str x::ds)=>hbL ds && decide (cO ds<=7)
 | _=>false
def vD:Cop->D->D->Option Bool
 | .lt,x,y=>kS x y
 | .gt,x,y=>JL (λa b=>decide (b < a)) x y
 | .eq,a,b=>if iB a b then some (eqD a b) else if Mw a b = true then some false else none
 | .ne,a,b=>if iB a b then some (!eqD a b) else none
 | .isin,a,y=>inD a y
 | .notin,a,y=>(inD a y).map (!·)
def ixD:D->D->Option D
 | .lst ds,.int i=>L2.atI ds i
 | .tup ds,.int i=>L2.atI ds i
 | .str x,.int i=>if x.length<=sizeLine then (L2.atI x.cps.toList i).map λc=>.str ⟨#[c]⟩ else none
 | _,_=>none
def cutD (ds:List D) (lo hi:Option Int):List D:=(ds.drop (HT.sIx ds.length 0 lo)).take (HT.sIx ds.length ds.length hi - HT.sIx ds.length 0 lo)
def slD:D->Option Int->Option Int->Option D
 | .lst ds,lo,hi=>some (.lst (cutD ds lo hi))
 | .tup ds,lo,hi=>if HT.sIx ds.length 0 lo = 0/\HT.sIx ds.length ds.length hi = ds.length then none else some (.tup (cutD ds lo hi))
 | .str x,lo,hi=>if x.length<=sizeLine then some (.str (Txt.slice x lo hi)) else none
 | _,_,_=>none
def GS:List D->Option D
 | [.str x]=>if x.length<=sizeLine then some (.int x.length) else none
 | [.lst ds]=>some (.int ds.length)
 | [.tup ds]=>some (.int ds.length)
 | _=>none
def pG:List D->Option D
 | [.int i]=>some (.int i)
 | [.bl b]=>some (.int (if b then 1 else 0))
 | [.str x]=>if x.length<=640 then (PySem.intText? x).map .int else none
 | _=>none
def rZ:List D->Option D
 | [.int i]=>if i.natAbs.log2 < 1920 then some (.str (toString i)) else none
 | _=>none
def rY:List D->Option D
 | [.lst ds]=>some (.tup ds)
 | [.tup ds]=>some (.tup ds)
 | _=>none
def nr:List D->Option D
 | [.lst ds]=>some (.lst ds)
 | [.tup ds]=>some (.lst ds)
 | _=>none
def sf:List D->Option D
 | [.lst ds]=>if AD ds = true then some (.lst (kb ds)) else none
 | _=>none
def jC:List D->Option D
 | [.tup _]=>some (.bl true)
 | [.fn _ _]=>none
 | [_]=>some (.bl false)
 | _=>none
def jS:Blt->List D->Option D
 | .len=>GS | .toInt=>pG | .toStr=>rZ | .toTup=>rY | .toLst=>nr | .sortb=>sf
 | .isTup=>jC
inductive Sl where
 | no | val (d:D) | own (ds:List D) | fnc (k:Nat) (cs:List D)
 deriving Inhabited
abbrev Loc:=List Sl
inductive Tg where
 | nm (i:Nat)
 | tp (is:List Nat)
mutual
inductive E where
 | var (i:Nat)
 | pk (i:Nat)
 | glob (g:Nat)
 | int (i:Int) | bl (b:Bool) | non | str (x:Str)
 | bin (op:Op) (a b:E)
 | cmp (op:Cop) (a b:E)
 | and (a b:E) | or (a b:E) | not (a:E) | neg (a:E)
 | ite (c a b:E)
 | tup (es:Es) | lst (es:Es)
 | ix (a b:E)
 | sl (a:E) (lo hi:Eo)
 | call (f:Nat) (es:Es)
 | blt (f:Blt) (es:Es)
 | bad
 | callv (i:Nat) (es:Es)
 | callF (f:Nat) (es:Es) (i:Nat)
 | isdig (i:Nat)
 | comp (k:Nat) (tg:Tg) (src:It) (ifs:Eo) (elt:E)
 | lc3 (k:Nat) (tg1:Tg) (src1:It) (tg2:Tg) (src2:It) (tg3:Tg) (src3:It) (elt:E)
inductive Es where
 | nil | cons (e:E) (es:Es)
inductive Eo where
 | no | yes (e:E)
inductive It where
 | rng (e:E) | sq (e:E) | zp (es:Es)
end
def get (δ:Loc) (i:Nat):Option D:=match δ[i]? with
 | some (.val d)=>some d
 | some (.own ds)=>some (.lst ds)
 | _=>none
def DQ (δ:Loc) (i:Nat):Option D:=match δ[i]? with
 | _=>get δ i
def demote (δ:Loc) (i:Nat):Loc:=match δ[i]? with
 | some (.own ds)=>δ.set i (.val (.lst ds))
 | _=>δ
def dq (δ:Loc):Tg->D->Option Loc
 | .nm i,d=>if i < δ.length then some (δ.set i (.val d)) else none
 | .tp is,.tup ds=>if is.length = ds.length/\is.all (· < δ.length) = true then some ((is.zip ds).foldl (λδ p=>δ.set p.1 (.val p.2)) δ) else none
 | .tp is,.lst ds=>if is.length = ds.length/\is.all (· < δ.length) = true then some ((is.zip ds).foldl (λδ p=>δ.set p.1 (.val p.2)) δ) else none
 | _,_=>none
def Cq:D->Option (List D)
 | .lst ds=>some ds
 | .tup ds=>some ds
 | _=>none
def rR (xs ys:List D):List D:=(xs.zip ys).map λp=>.tup [p.1,p.2]
def zpD:List D->Option (List D)
 | [x,y]=>(Cq x).bind λxs=>(Cq y).map λys=>rR xs ys
 | _=>none
def items:D->Option (List D)
 | .lst ds=>some ds
 | .tup ds=>some ds
 | .str x=>if x.length<=sizeLine then some (x.cps.toList.map λc=>.str ⟨#[c]⟩) else none
 | _=>none
def su (lo:Int) (n:Nat):List D:=(dJ n).map λ(i:Nat)=>D.int (lo+i)
def mQ (f:D->Loc->Option (Option D × Loc)):List D->Loc->Option (List D × Loc)
 | [],δ=>some ([],δ)
 | x::xs,δ=>do
   let (o,δ1) <- f x δ
   let (ys,δ2) <- mQ f xs δ1
   return (match o with | some y=>y::ys | none=>ys,δ2)
def ie (f:D->Loc->Option (List D × Loc)):List D->Loc->Option (List D × Loc)
 | [],δ=>some ([],δ)
 | x::xs,δ=>do
   let (o,δ1) <- f x δ
   let (ys,δ2) <- ie f xs δ1
   return (o++ys,δ2)
def lfO:Option D->Option D
 | some r=>if lf r = true then some r else none
 | none=>none
def lr (δ:Loc):List Nat->Option (List D)
 | []=>some []
 | i::r=>match get δ i with
   | some d=>if flat d = true then (lr δ r).map (d::·) else none
   | none=>none
structure Cl where
 call:Nat->List D->Option D
 gl:List D
 hf:Nat->Bool
section
variable (cx:Cl)
mutual
noncomputable def evE:E->Loc->Option (D × Loc)
 | .var i,δ=>do return (<- DQ δ i,demote δ i)
 | .pk i,δ=>do return (<- get δ i,δ)
 | .glob g,δ=>do return (<- cx.gl[g]?,δ)
 | .int i,δ=>some (.int i,δ)
 | .bl b,δ=>some (.bl b,δ)
 | .non,δ=>some (.non,δ)
 | .str x,δ=>some (.str x,δ)
 | .bin op a b,δ=>do
   let (x,δ1) <- evE a δ
   let (y,δ2) <- evE b δ1
   return (<- opD op x y,δ2)
 | .cmp op a b,δ=>do
   let (x,δ1) <- evE a δ
   let (y,δ2) <- evE b δ1
   return (.bl (<- vD op x y),δ2)
 | .and a b,δ=>do
   match <- evE a δ with
   | (.bl true,δ1)=>evE b δ1
   | (.bl false,δ1)=>some (.bl false,δ1)
   | _=>none
 | .or a b,δ=>do
   match <- evE a δ with
   | (.bl true,δ1)=>some (.bl true,δ1)
   | (.bl false,δ1)=>evE b δ1
   | _=>none
 | .not a,δ=>do
   match <- evE a δ with
   | (.bl b,δ1)=>some (.bl (!b),δ1)
   | _=>none
 | .neg a,δ=>do
   match <- evE a δ with
   | (.int i,δ1)=>some (.int (-i),δ1)
   | _=>none
 | .ite c a b,δ=>do
   let (k,δ1) <- evT c δ
   if k then evE a δ1 else evE b δ1
 | .tup es,δ=>do
   let (ds,δ1) <- dU es δ
   if ds.length<=sizeLine then return (.tup ds,δ1) else none
 | .lst es,δ=>do
   let (ds,δ1) <- dU es δ
   if ds.length<=sizeLine then return (.lst ds,δ1) else none
 | .ix a b,δ=>do
   let (x,δ1) <- evE a δ
   let (y,δ2) <- evE b δ1
   return (<- ixD x y,δ2)
 | .sl a lo hi,δ=>do
   let (x,δ1) <- evE a δ
   let (l,δ2) <- evO lo δ1
   let (h,δ3) <- evO hi δ2
   return (<- slD x l h,δ3)
 | .call f es,δ=>do
   let (ds,δ1) <- dU es δ
   return (<- cx.call f ds,δ1)
 | .blt f es,δ=>do
   let (ds,δ1) <- dU es δ
   return (<- jS f ds,δ1)
 | .callv i es,δ=>do
   let (ds,δ1) <- dU es δ
   match δ[i]? with
   | some (.fnc k cs)=>if lfL ds = true then (lfO (cx.call k (ds++cs))).map λr=>(r,δ1) else none
   | _=>none
 | .callF f es i,δ=>do
   let (ds,δ1) <- dU es δ
   match δ1[i]? with
   | some (.fnc k cs)=>if cx.hf f = true then (cx.call f (ds++[.fn k cs])).map λr=>(r,δ1) else none
   | _=>none
 | .bad,_=>none
 | .isdig i,δ=>do
   match <- get δ i with
   | .str x=>some (.bl (decide (x.length > 0) && x.cps.all di),δ)
   | _=>none
 | .comp k tg src ifs elt,δ=>do
   let (ds,δ1) <- evI src δ
   let (ys,δ2) <- mQ (λx δ0=>do
    let δ2 <- dq (δ0++aS k .no) tg x
    let (b,δ3) <- evG ifs δ2
    if b then do
     let (y,δ4) <- evE elt δ3
     return (some y,δ4.take δ0.length)
    else return (none,δ3.take δ0.length)) ds δ1
   if ys.length<=sizeLine then return (.lst ys,δ2) else none
 | .lc3 k tg1 src1 tg2 src2 tg3 src3 elt,δ=>do
   let (ds,δ1) <- evI src1 δ
   let (ys,δ2) <- ie (λx δ0=>do
    let δa <- dq (δ0++aS k .no) tg1 x
    let (zs,δc) <- (do
     let (es,δb) <- evI src2 δa
     ie (λy δi=>do
      let δd <- dq δi tg2 y
      (do
        let (fs,δe) <- evI src3 δd
        ie (λz δj=>do
         let δf <- dq δj tg3 z
         (do
           let (u,δg) <- evE elt δf
           return ([u],δg))) fs δe)) es δb)
    return (zs,δc.take δ0.length)) ds δ1
   if ys.length<=sizeLine then return (.lst ys,δ2) else none
noncomputable def evT:E->Loc->Option (Bool × Loc)
 | .and a b,δ=>do
   let (k,δ1) <- evT a δ
   if k then evT b δ1 else some (false,δ1)
 | .or a b,δ=>do
   let (k,δ1) <- evT a δ
   if k then some (true,δ1) else evT b δ1
 | .not a,δ=>do
   let (k,δ1) <- evT a δ
   return (!k,δ1)
 | .cmp op a b,δ=>do
   let (x,δ1) <- evE a δ
   let (y,δ2) <- evE b δ1
   return (<- vD op x y,δ2)
 | .ix a b,δ=>do
   let (x,δ1) <- evE a δ
   let (y,δ2) <- evE b δ1
   let d <- ixD x y
   return (<- tv d,δ2)
 | .var i,δ=>do
   let d <- get δ i
   return (<- tv d,δ)
 | .pk i,δ=>do
   let d <- get δ i
   return (<- tv d,δ)
 | .call f es,δ=>do
   let (ds,δ1) <- dU es δ
   let d <- cx.call f ds
   return (<- tv d,δ1)
 | .blt f es,δ=>do
   let (ds,δ1) <- dU es δ
   let d <- jS f ds
   return (<- tv d,δ1)
 | _,_=>none
noncomputable def dU:Es->Loc->Option (List D × Loc)
 | .nil,δ=>some ([],δ)
 | .cons e es,δ=>do
   let (d,δ1) <- evE e δ
   let (ds,δ2) <- dU es δ1
   return (d::ds,δ2)
noncomputable def evO:Eo->Loc->Option (Option Int × Loc)
 | .no,δ=>some (none,δ)
 | .yes e,δ=>do
   match <- evE e δ with
   | (.int i,δ1)=>some (some i,δ1)
   | _=>none
noncomputable def evG:Eo->Loc->Option (Bool × Loc)
 | .no,δ=>some (true,δ)
 | .yes e,δ=>evT e δ
noncomputable def evI:It->Loc->Option (List D × Loc)
 | .rng e,δ=>do
   match <- evE e δ with
   | (.int j,δ1)=>if -(2 ^ 62)<=j/\j < 2 ^ 62 then some (su 0 j.toNat,δ1) else none
   | _=>none
 | .sq e,δ=>do
   let (d,δ1) <- evE e δ
   return (<- items d,δ1)
 | .zp es,δ=>do
   let (ds,δ1) <- dU es δ
   return (<- zpD ds,δ1)
end
end
inductive Out where
 | nx (δ:Loc) | rt (d:D) (δ:Loc) | ro (d:D) (δ:Loc)
mutual
inductive S where
 | asg (tg:Tg) (e:E)
 | new (i:Nat) (e:E)
 | cmp (own:Bool) (i:Nat) (e:E)
 | ret (e:E)
 | rett (i:Nat) (es:Es)
 | newt (i:Nat) (js:List Nat) (f:Nat) (es:Es)
 | retL (f:Nat) (es:Es) (k:Nat) (caps:List Nat)
 | ifs (c:E) (a b:Ss)
 | for_ (tg:Tg) (src:It) (body:Ss)
 | append (i:Nat) (e:E)
 | extend (i:Nat) (e:E)
 | setix (i:Nat) (j e:E)
 | bad
inductive Ss where
 | nil | cons (s:S) (ss:Ss)
end
def forL (f:D->Loc->Option Out):List D->Loc->Option Out
 | [],δ=>some (.nx δ)
 | x::xs,δ=>match f x δ with
   | some (.nx δ1)=>forL f xs δ1
   | some (.rt d δ1)=>some (.rt d δ1)
   | some (.ro ds δ1)=>some (.ro ds δ1)
   | none=>none
def lF:Nat:=1000000
section
variable (cx:Cl)
mutual
noncomputable def evS:S->Loc->Option Out
 | .asg tg e,δ=>do
   let (d,δ1) <- evE cx e δ
   return .nx (<- dq δ1 tg d)
 | .new i e,δ=>do
   match <- evE cx e δ with
   | (.lst ds,δ1)=>if i < δ1.length then some (.nx (δ1.set i (.own ds))) else none
   | _=>none
 | .cmp own i e,δ=>do
   match <- evE cx e δ with
   | (.lst ds,δ1)=>if i < δ1.length then some (.nx (δ1.set i (if own then .own ds else .val (.lst ds)))) else none
   | _=>none
 | .ret e,δ=>do
   let (d,δ1) <- evE cx e δ
   return .rt d δ1
 | .rett i es,δ=>match δ[i]? with
   | some (.own _)=>do
     let (ds,δ1) <- dU cx es δ
     match δ1[i]? with
     | some (.own l)=>if ds.length < sizeLine then some (.ro (.tup (.lst l::ds)) δ1) else none
     | _=>none
   | _=>none
 | .newt i js f es,δ=>do
   let (ds,δ1) <- dU cx es δ
   match cx.call (f+lF) ds with
   | some (.tup (.lst l::zs))=>if i < δ1.length then (dq (δ1.set i (.own l)) (.tp js) (.tup zs)).map .nx else none
   | _=>none
 | .retL f es k caps,δ=>do
   let (ds,δ1) <- dU cx es δ
   let cs <- lr δ1 caps
   if cx.hf f = true then (lfO (cx.call f (ds++[.fn k cs]))).map λr=>.rt r δ1 else none
 | .ifs c a b,δ=>do
   let (k,δ1) <- evT cx c δ
   if k then en a δ1 else en b δ1
 | .for_ tg src body,δ=>do
   let (ds,δ1) <- evI cx src δ
   forL (λx δ0=>match dq δ0 tg x with
    | some δ2=>en body δ2
    | none=>none) ds δ1
 | .append i e,δ=>match δ[i]? with
   | some (.own _)=>do
     let (d,δ1) <- evE cx e δ
     match δ1[i]? with
     | some (.own ds)=>if ds.length < sizeLine then some (.nx (δ1.set i (.own (ds++[d])))) else none
     | _=>none
   | _=>none
 | .extend i e,δ=>match δ[i]? with
   | some (.own _)=>do
     match <- evE cx e δ with
     | (.lst ys,δ1)=>match δ1[i]? with
       | some (.own ds)=>if ds.length+ys.length<=sizeLine then some (.nx (δ1.set i (.own (ds++ys)))) else none
       | _=>none
     | _=>none
   | _=>none
 | .setix i j e,δ=>do
   let (d,δ1) <- evE cx e δ
   match δ1[i]? with
   | some (.own _)=>do
     match <- evE cx j δ1 with
     | (.int k,δ2)=>match δ2[i]? with
       | some (.own ds)=>match L2.ixN ds.length k with
         | some m=>some (.nx (δ2.set i (.own (ds.set m d))))
         | none=>none
       | _=>none
     | _=>none
   | _=>none
 | .bad,_=>none
noncomputable def en:Ss->Loc->Option Out
 | .nil,δ=>some (.nx δ)
 | .cons s ss,δ=>match evS s δ with
   | some (.nx δ1)=>en ss δ1
   | o=>o
end
end
structure Fd where
 name:Str
 ps:List Str
 loc:List Str
 body:Ss
 hf:Bool:=false
def outD:Option Out->Option D
 | some (.rt d _)=>some d
 | some (.ro d _)=>some d
 | some (.nx _)=>some .non
 | _=>none
def GB:Option Out->Option D
 | some (.ro d _)=>some d
 | _=>none
def init (n:Nat) (ds:List D):Loc:=ds.map .val++aS (n - ds.length) .no
def hfs (G:List Fd) (f:Nat):Bool:=match G[f]? with
 | some fd=>fd.hf
 | none=>false
def og (n:Nat) (ds:List D) (k:Nat) (cs:List D):Loc:=ds.map .val++Sl.fnc k cs::aS (n - (ds.length+1)) .no
def entry (hf:Bool) (n:Nat) (ds:List D):Option Loc:=match hf with
 | false=>some (init n ds)
 | true=>match ds.getLast? with
   | some (.fn k cs)=>some (og n ds.dropLast k cs)
   | _=>none
def run (G:List Fd) (gl:List D):Nat->Nat->List D->Option D
 | 0,_,_=>none
 | n+1,f,ds=>match G[f]? with
   | some fd=>if ds.length = fd.ps.length then (match entry fd.hf (fd.ps++fd.loc).length ds with
     | some δ=>outD (en ⟨run G gl n,gl,hfs G⟩ fd.body δ)
     | none=>none) else none
   | none=>match G[f - lF]? with
     | some fd=>if lF<=f/\ds.length = fd.ps.length then (match entry fd.hf (fd.ps++fd.loc).length ds with
       | some δ=>GB (en ⟨run G gl n,gl,hfs G⟩ fd.body δ)
       | none=>none) else none
     | none=>none
def bZ:E->Bool
 | .pk _=>true
 | _=>false
mutual
noncomputable def np:E->Bool
 | .bin _ a b | .cmp _ a b | .and a b | .or a b | .ix a b=>np a && np b
 | .not a=>np a
 | .neg a=>np a
 | .ite c a b=>np c && np a && np b
 | .tup es | .lst es | .call _ es | .blt _ es | .callv _ es | .callF _ es _=>npS es
 | .sl a lo hi=>np a && npO lo && npO hi
 | .comp _ _ src ifs elt=>npI src && npO ifs && np elt
 | .lc3 _ _ src1 _ src2 _ src3 elt=>npI src1 && (npI src2 && (npI src3 && np elt))
 | _=>true
noncomputable def npS:Es->Bool
 | .nil=>true
 | .cons e es=>np e && npS es
noncomputable def npO:Eo->Bool
 | .no=>true
 | .yes e=>np e
noncomputable def npI:It->Bool
 | .rng e=>np e
 | .sq e=>np e
 | .zp es=>npS es
end
end PP
example:PP.evE ⟨λ_ _=>none,[],λ_=>false⟩ (.bin .add (.int 1) (.int 2)) [] = some (.int 3,[]):=rfl
end
section
namespace PP
open PySem L2
def KLs (K:PySem.W.Frag) (a:aq) (xs:List V):Prop:=∃ (its:Array af) (n:Nat),K.lookup a = some ⟨.type "list",none,.seq its n,#[]⟩/\its.size<=sizeLine/\Vals xs its.toList
def Ls (K:PySem.W.Frag) (H:Hp) (F:aq->Prop) (a:aq) (xs:List V):Prop:=(Rd H a (.lst xs)/\¬ F a)\/KLs K a xs
def LsB (K:PySem.W.Frag) (H:Hp) (a:aq) (xs:List V):Prop:=Rd H a (.lst xs)\/KLs K a xs
def Ls.b {K:PySem.W.Frag} {H:Hp} {F:aq->Prop} {a:aq} {xs:List V} (h:Ls K H F a xs):LsB K H a xs:=h.imp (·.1) id
def LsB.sq (h:LsB K H a xs):SqL K H a xs:=by
 rcases h with h | ⟨its,n,h1,h2,h3⟩
 . exact .inl h
 . exact .inr ⟨_,its,n,h1,rfl,rfl,rfl,h2,h3⟩
def Ls.sq (h:Ls K H F a xs):SqL K H a xs:=h.b.sq
def LsB.obj (I:Inv X pins σ H s) (h:LsB X.K H a xs) :
 ∃ (its:List af) (n:Nat),Vals xs its/\s.heap.get? a = some { cls:=.type "list",data:=.seq its.toArray n }/\xs.length<=sizeLine:=by
 rcases h with h | ⟨its,n,h1,h2,h3⟩
 . obtain ⟨z,its,n,r,e⟩:=h.ok I.hok;exact ⟨its,n,r,e,z⟩
 . refine ⟨its.toList,n,h3,?_,?_⟩
   . have:=I.kIn a _ h1;simpa using this
   . have:=h3.length;rw [this];simpa using h2
mutual
noncomputable def Rel (K:PySem.W.Frag) (H:Hp) (F:aq->Prop):D->V->Prop
 | .non,v=>v = .non
 | .bl b,v=>v = .bl b
 | .int i,v=>v = .int i
 | .str x,v=>v = .str x
 | .lst ds,v=>∃ a xs,v = .ref a/\Ls K H F a xs/\aK K H F ds xs
 | .tup ds,v=>∃ a xs,v = .ref a/\SqT K H a xs/\aK K H F ds xs
 | .fn _ _,_=>False
noncomputable def aK (K:PySem.W.Frag) (H:Hp) (F:aq->Prop):List D->List V->Prop
 | [],xs=>xs = []
 | d::ds,xs=>∃ y ys,xs = y::ys/\Rel K H F d y/\aK K H F ds ys
end
def NT:HO->Prop
 | .tbl _=>False
 | _=>True
structure Sim (H H':Hp):Prop where
 nt:∀ b o,NT o->H b = some o->H' b = some o
 tb:∀ b ps,H b = some (.tbl ps)->∃ qs,H' b = some (.tbl qs)
def Sim.of (h:iC H H'):Sim H H':=⟨λb o _ e=>h b o e,λb ps e=>⟨ps,h b _ e⟩⟩
def Sim.refl (H:Hp):Sim H H:=⟨λb o _ e=>e,λb ps e=>⟨ps,e⟩⟩
def Sim.trans (a:Sim H H1) (b:Sim H1 H2):Sim H H2:=⟨λx o n e=>b.nt x o n (a.nt x o n e),λx ps e=>by
 obtain ⟨qs,e⟩:=a.tb x ps e;exact b.tb x qs e⟩
def Fz (H:Hp) (a:aq) (o:Obj):Prop:=H a = some (.frz o (.ext λh=>h.get? a = some o))
structure Lam where
 qual:Str
 params:oE
 body:aG
 scope:eK
 ps:List Str
 caps:List Str
class Tbs where
 ts:List (aq × Str)
 lams:List (Nat × Lam)
 gds:List (Str × List (Str × Int))
 dfs:List Nat
variable [Tbs]
def Mo:HO->Prop
 | .lst _=>True
 | .ext _=>True
 | _=>False
def flV:D->V
 | .bl b=>.bl b
 | .int i=>.int i
 | .str x=>.str x
 | _=>.non
def ku (H:Hp):List aq->List D->Prop
 | [],ds=>ds = []
 | c::r,ds=>∃ d ds' o u,ds = d::ds'/\flat d = true/\Fz H c o/\o.data = .cell (some u)/\RelV (flV d) u/\ku H r ds'
def FnV (H:Hp) (k:Nat) (cs:List D) (a:aq):Prop:=∃ (L:Lam) (pm ctv:af) (c':aq) (oc:Obj) (vs:Array af) (tk:Tok) (cells:List aq),
 Tbs.lams.lookup k = some L/\Fz H a (PySem.W.kla_obj "<lambda>" L.qual L.params L.body L.scope (L.caps.zip cells) pm c' ctv)/\Fz H c' oc/\oc.data = .fields vs/\vs[1]? = some (.str L.qual tk)/\cells.Nodup/\cells.length = L.caps.length/\ku H cells cs
def ku.keep {H H':Hp} (k:∀ a o,Fz H a o->Fz H' a o):∀ {cells:List aq} {cs:List D},ku H cells cs->ku H' cells cs
 | [],_,h=>h
 | c::r,cs,h=>by
   obtain ⟨d,ds',o,u,e,h1,h2,h3,h4,h5⟩:=h;exact ⟨d,ds',o,u,e,h1,k _ _ h2,h3,h4,ku.keep k h5⟩
def FnV.keep {H H':Hp} (k:∀ a o,Fz H a o->Fz H' a o) {n:Nat} {cs:List D} {a:aq} (h:FnV H n cs a):FnV H' n cs a:=by
 obtain ⟨L,pm,ctv,c',oc,vs,tk,cells,h1,h2,h3,h4,h5,h6,h7,h8⟩:=h;exact ⟨L,pm,ctv,c',oc,vs,tk,cells,h1,k _ _ h2,k _ _ h3,h4,h5,h6,h7,h8.keep k⟩
def gY (H:Hp):Prop:=∀ t∈Tbs.ts,∃ ps,H t.1 = some (.tbl ps)/\TriplesOk ps.toList/\∀ pos cv,codeAmong pos ps.toList = some cv->∃ c o vs tk,cv = .ref c/\Fz H c o/\o.data = .fields vs/\vs[1]? = some (.str t.2 tk)
def gY.keep {H H':Hp} (h:gY H) (k:∀ b o,¬ Mo o->H b = some o->H' b = some o):gY H':=λt ht=>by
 obtain ⟨ps,h1,h2,h3⟩:=h t ht;refine ⟨ps,k _ _ (λz=>z) h1,h2,λpos cv e=>?_⟩;obtain ⟨c,o,vs,tk,e1,e2,e3⟩:=h3 pos cv e;exact ⟨c,o,vs,tk,e1,k _ _ (λz=>z) e2,e3⟩
def FD (F:aq->Prop) (H:Hp):Prop:=∀ b,F b->∃ o,H b = some o/\(Mo o\/(∃ ps,o = .tbl ps)/\∃ t∈Tbs.ts,t.1 = b)
def FD.not (fd:FD F H) (e:H a = some o) (n:¬ Mo o) (t:NT o):¬ F a:=λz=>by
 obtain ⟨u,e2,h⟩:=fd a z;rw [e] at e2;cases e2;rcases h with h | ⟨⟨ps,rfl⟩,_⟩
 . exact n h
 . exact t
def FD.none (fd:FD F H) (e:H a = Option.none):¬ F a:=λz=>by
 obtain ⟨u,e2,_⟩:=fd a z;rw [e] at e2;cases e2
def TF (F:aq->Prop):Prop:=∀ t∈Tbs.ts,F t.1
structure Gh where
 h:Hp
 R:aq->Prop
def Gh.free (G:Gh) (a:aq):Prop:=G.h a = none/\¬ G.R a
def g0:Gh:=⟨λ_=>none,λ_=>False⟩
structure Step (G:Gh) (F:aq->Prop) (H:Hp) (F':aq->Prop) (H':Hp):Prop where
 keep:∀ b o,NT o->H b = some o->¬ F b->H' b = some o
 grow:∀ b,F' b->F b\/H b = none
 res:∀ b o,G.R b->F b->H b = some o->F' b/\H' b = some o
 tb:∀ b ps,H b = some (.tbl ps)->∃ qs,H' b = some (.tbl qs)
def Step.refl:Step G F H F H:=⟨λ_ _ _ h _=>h,λ_ h=>.inl h,λ_ _ _ h e=>⟨h,e⟩,λ_ ps e=>⟨ps,e⟩⟩
def Step.trans (a:Step G F H F1 H1) (b:Step G F1 H1 F2 H2):Step G F H F2 H2 where
 keep:=λx o t h n=>b.keep x o t (a.keep x o t h n) λz=>by
  rcases a.grow x z with q | q
  . exact n q
  . rw [h] at q;cases q
 grow:=λx h=>by
  rcases b.grow x h with q | q
  . exact a.grow x q
  . by_cases f:F x
    . exact .inl f
    . right
      cases e:H x with
      | none=>rfl
      | some o =>
        by_cases t:NT o
        . rw [a.keep x o t e f] at q;cases q
        . cases o<;>first | (exact absurd trivial t) | skip
          obtain ⟨qs,z⟩:=a.tb x _ e;rw [z] at q;cases q
 res:=λx o r h e=>by
  obtain ⟨h1,e1⟩:=a.res x o r h e;exact b.res x o r h1 e1
 tb:=λx ps e=>by
  obtain ⟨qs,e⟩:=a.tb x ps e;exact b.tb x qs e
def Step.of_same (h:iC H H'):Step G F H F H':=⟨λb o _ e _=>h b o e,λ_ h=>.inl h,λb o _ f e=>⟨f,h b o e⟩,λb ps e=>⟨ps,h b _ e⟩⟩
section
variable {K:PySem.W.Frag} {G:Gh} {H H':Hp} {F F':aq->Prop}
def xW (t:NT u) (k:∀ b o,NT o->H b = some o->¬ F b->H' b = some o) (n:¬ F a) (h:Rd H a u):Rd H' a u:=by
 rcases h with h | ⟨o,h⟩
 . exact .inl (k a _ t h n)
 . exact .inr ⟨o,k a _ trivial h n⟩
def uF (fd:FD F H) (k:∀ b o,NT o->H b = some o->¬ F b->H' b = some o) (h:SqT K H a xs):SqT K H' a xs:=by
 rcases h with h | h
 . refine .inl (xW trivial k (λz=>?_) h);rcases h with h | ⟨o,h⟩
   . exact fd.not h (λz=>z) trivial z
   . exact fd.not h (λz=>z) trivial z
 . exact .inr h
def Ls.step {a:aq} {xs:List V} (s:Step G F H F' H') (h:Ls K H F a xs):Ls K H' F' a xs:=by
 rcases h with ⟨h1,h2⟩ | h
 . refine .inl ⟨xW trivial s.keep h2 h1,λz=>?_⟩;rcases s.grow a z with q | q
   . exact h2 q
   . rcases h1 with h | ⟨o,h⟩
     . rw [h] at q;cases q
     . rw [h] at q;cases q
 . exact .inr h
def mK (fd:FD F H) (k:∀ b o,NT o->H b = some o->¬ F b->H' b = some o):∀ a o,Fz H a o->Fz H' a o:=λa o h=>by
 exact k a _ trivial h (fd.not h (λz=>z) trivial)
mutual
theorem Rel.step (fd:FD F H) (s:Step G F H F' H'):∀ (d:D) (v:V),Rel K H F d v->Rel K H' F' d v
 | .non,v,h=>by unfold Rel at h |-;exact h
 | .bl b,v,h=>by unfold Rel at h |-;exact h
 | .int i,v,h=>by unfold Rel at h |-;exact h
 | .str x,v,h=>by unfold Rel at h |-;exact h
 | .lst ds,v,h=>by
   unfold Rel at h |-;obtain ⟨a,xs,e,h1,h3⟩:=h
   exact ⟨a,xs,e,h1.step s,aK.step fd s ds xs h3⟩
 | .tup ds,v,h=>by
   unfold Rel at h |-;obtain ⟨a,xs,e,h1,h3⟩:=h
   exact ⟨a,xs,e,uF fd s.keep h1,aK.step fd s ds xs h3⟩
 | .fn _ _,v,h=>by unfold Rel at h;exact h.elim
theorem aK.step (fd:FD F H) (s:Step G F H F' H'):∀ (ds:List D) (xs:List V),aK K H F ds xs->aK K H' F' ds xs
 | [],xs,h=>by unfold aK at h |-;exact h
 | d::ds,xs,h=>by
   unfold aK at h |-;obtain ⟨y,ys,e,h1,h2⟩:=h;exact ⟨y,ys,e,Rel.step fd s d y h1,aK.step fd s ds ys h2⟩
end
def Rel.less (fd:FD F H) (hs:∀ b,F' b->F b) {d:D} {v:V} (h:Rel K H F d v):Rel K H F' d v :=
 Rel.step (G:=g0) fd ⟨λ_ _ _ h _=>h,λb z=>.inl (hs b z),λ_ _ r _ _=>r.elim,λ_ ps e=>⟨ps,e⟩⟩ d v h
def aK.less (fd:FD F H) (hs:∀ b,F' b->F b) {ds:List D} {xs:List V} (h:aK K H F ds xs):aK K H F' ds xs :=
 aK.step (G:=g0) fd ⟨λ_ _ _ h _=>h,λb z=>.inl (hs b z),λ_ _ r _ _=>r.elim,λ_ ps e=>⟨ps,e⟩⟩ ds xs h
mutual
theorem Rel.free (fd:FD F' H):∀ (d:D) (v:V),lf d = true->Rel K H F d v->Rel K H F' d v
 | .non,v,_,h=>by unfold Rel at h |-;exact h
 | .bl b,v,_,h=>by unfold Rel at h |-;exact h
 | .int i,v,_,h=>by unfold Rel at h |-;exact h
 | .str x,v,_,h=>by unfold Rel at h |-;exact h
 | .lst ds,v,l,h=>by unfold lf at l;cases l
 | .tup ds,v,l,h=>by
   unfold lf at l;unfold Rel at h |-;obtain ⟨a,xs,e,h1,h3⟩:=h
   exact ⟨a,xs,e,h1,aK.free fd ds xs l h3⟩
 | .fn _ _,v,l,h=>by unfold lf at l;cases l
theorem aK.free (fd:FD F' H):∀ (ds:List D) (xs:List V),lfL ds = true->aK K H F ds xs->aK K H F' ds xs
 | [],xs,_,h=>by unfold aK at h |-;exact h
 | d::ds,xs,l,h=>by
   unfold lfL at l;rw [aa] at l;unfold aK at h |-;obtain ⟨y,ys,e,h1,h2⟩:=h;exact ⟨y,ys,e,Rel.free fd d y l.1 h1,aK.free fd ds ys l.2 h2⟩
end
def aK.length:∀ {ds:List D} {xs:List V},aK K H F ds xs->xs.length = ds.length
 | [],xs,h=>by unfold aK at h;subst h;rfl
 | d::ds,xs,h=>by
   unfold aK at h;obtain ⟨y,ys,e,_,h2⟩:=h;subst e;rw [ay,ay,aK.length h2]
def aK.get:∀ {ds:List D} {xs:List V} {i:Nat} {d:D},aK K H F ds xs->ds[i]? = some d->∃ v,xs[i]? = some v/\Rel K H F d v
 | [],_,_,_,_,e=>by simp at e
 | d::ds,xs,i,d',h,e=>by
   unfold aK at h;obtain ⟨y,ys,q,h1,h2⟩:=h;subst q
   cases i with
   | zero=>simp at e;subst e;exact ⟨y,rfl,h1⟩
   | succ i =>
     obtain ⟨v,h3,h4⟩:=aK.get (i:=i) h2 (by simpa using e);exact ⟨v,by simpa using h3,h4⟩
def aK.append:∀ {ds es:List D} {xs ys:List V},aK K H F ds xs->aK K H F es ys->aK K H F (ds++es) (xs++ys)
 | [],es,xs,ys,h,h'=>by unfold aK at h;subst h;exact h'
 | d::ds,es,xs,ys,h,h'=>by
   unfold aK at h;obtain ⟨y,zs,q,h1,h2⟩:=h;subst q;show aK K H F (d::(ds++es)) (y::(zs++ys));unfold aK;exact ⟨y,zs++ys,rfl,h1,aK.append h2 h'⟩
def aK.one (h:Rel K H F d v):aK K H F [d] [v]:=by
 unfold aK;exact ⟨v,[],rfl,h,by unfold aK;rfl⟩
def aK.nil:aK K H F [] []:=by unfold aK;rfl
def aK.cons {d:D} {v:V} {ds:List D} {xs:List V} (h:Rel K H F d v) (t:aK K H F ds xs):aK K H F (d::ds) (v::xs):=by
 unfold aK;exact ⟨v,xs,rfl,h,t⟩
def aK.take:∀ {ds:List D} {xs:List V} (n:Nat),aK K H F ds xs->aK K H F (ds.take n) (xs.take n)
 | [],xs,n,h=>by unfold aK at h;subst h;simp;exact aK.nil
 | d::ds,xs,0,h=>by simp;exact aK.nil
 | d::ds,xs,n+1,h=>by
   unfold aK at h;obtain ⟨y,ys,q,h1,h2⟩:=h;subst q;rw [AJ,AJ];exact aK.cons h1 (aK.take n h2)
def aK.drop:∀ {ds:List D} {xs:List V} (n:Nat),aK K H F ds xs->aK K H F (ds.drop n) (xs.drop n)
 | [],xs,n,h=>by unfold aK at h;subst h;simp;exact aK.nil
 | d::ds,xs,0,h=>h
 | d::ds,xs,n+1,h=>by
   unfold aK at h;obtain ⟨y,ys,q,h1,h2⟩:=h;subst q;rw [AM,AM];exact aK.drop n h2
def aK.set {d:D} {v:V} (r:Rel K H F d v):∀ {ds:List D} {xs:List V} (n:Nat),aK K H F ds xs->aK K H F (ds.set n d) (xs.set n v)
 | [],xs,n,h=>by unfold aK at h;subst h;simp;exact aK.nil
 | e::ds,xs,0,h=>by
   unfold aK at h;obtain ⟨y,ys,q,h1,h2⟩:=h;subst q
   exact aK.cons r h2
 | e::ds,xs,n+1,h=>by
   unfold aK at h;obtain ⟨y,ys,q,h1,h2⟩:=h;subst q;exact aK.cons h1 (aK.set r n h2)
def aK.dropLast (h:aK K H F ds xs):aK K H F ds.dropLast xs.dropLast:=by
 rw [xD,xD,h.length];exact h.take _
def aK.cut (lo hi:Option Int) (h:aK K H F ds xs):aK K H F (cutD ds lo hi) (qJ xs lo hi):=by
 unfold cutD qJ;rw [h.length];exact (h.drop _).take _
end
def dI (K:PySem.W.Frag) (H:Hp) (F:aq->Prop) (d:D) (v:V):Prop:=Rel K H F d v\/∃ a xs ds,d = .lst ds/\v = .ref a/\H a = some (.lst xs)/\aK K H F ds xs
def RelM (m:Bool) (K:PySem.W.Frag) (H:Hp) (F:aq->Prop) (d:D) (v:V):Prop:=if m = true then dI K H F d v else Rel K H F d v
def RelM.b {m:Bool} {K:PySem.W.Frag} {H:Hp} {F:aq->Prop} {d:D} {v:V} (h:RelM m K H F d v):dI K H F d v:=by
 unfold RelM at h;split at h
 . exact h
 . exact .inl h
def dI.same {K:PySem.W.Frag} {G:Gh} {H H':Hp} {F F':aq->Prop} {d:D} {v:V} (fd:FD F H) (s:Step G F H F' H') (k:Sim H H') (h:dI K H F d v):dI K H' F' d v:=by
 rcases h with h | ⟨a,xs,ds,e1,e2,h1,h2⟩
 . exact .inl (Rel.step fd s d v h)
 . exact .inr ⟨a,xs,ds,e1,e2,k.nt _ _ trivial h1,aK.step fd s ds xs h2⟩
def RelM.step {m:Bool} {K:PySem.W.Frag} {G:Gh} {H H':Hp} {F F':aq->Prop} {d:D} {v:V} (fd:FD F H) (s:Step G F H F' H') (k:m = true->Sim H H') (h:RelM m K H F d v):RelM m K H' F' d v:=by
 cases m with
 | true=>exact dI.same fd s (k rfl) h
 | false=>exact Rel.step fd s d v h
def fb (K:PySem.W.Frag) (G:Gh) (F:aq->Prop) (H:Hp) (o:Option (Option V)):Sl->Prop
 | .no=>True
 | .val d=>∃ v,o = some (some v)/\Rel K H F d v
 | .own ds=>∃ a xs,o = some (some (.ref a))/\F a/\G.free a/\H a = some (.lst xs)/\aK K H F ds xs
 | .fnc k cs=>∃ a,o = some (some (.ref a))/\FnV H k cs a
def ow:Sl->Bool
 | .own _=>true
 | _=>false
structure Ok (K:PySem.W.Frag) (G:Gh) (F:aq->Prop) (σ:St) (H:Hp) (δ:Loc):Prop where
 same:Sim G.h H
 fd:FD F H
 rf:∀ b,G.R b->F b
 rl:∀ b,G.R b->∃ o,H b = some o/\Mo o
 tf:TF F
 tabs:gY H
 len:δ.length = σ.length
 sl:∀ (i:Nat) (s:Sl),δ[i]? = some s->fb K G F H σ[i]? s
 apart:∀ (i j:Nat) (s t:Sl) (a:aq),δ[i]? = some s->δ[j]? = some t->ow s = true->ow t = true->σ[i]? = some (some (.ref a))->σ[j]? = some (some (.ref a))->i = j
section
variable {K:PySem.W.Frag} {G:Gh} {H H':Hp} {F F':aq->Prop} {σ:St} {δ:Loc}
def fb.same {o:Option (Option V)} (fd:FD F H) (k:iC H H'):∀ {s:Sl},fb K G F H o s->fb K G F H' o s
 | .no,_=>trivial
 | .val d,h=>by
   obtain ⟨v,e,h⟩:=h
   exact ⟨v,e,Rel.step (G:=G) fd (Step.of_same k) d v h⟩
 | .own ds,h=>by
   obtain ⟨a,xs,e,h1,h2,h3,h4⟩:=h
   exact ⟨a,xs,e,h1,h2,k _ _ h3,aK.step (G:=G) fd (Step.of_same k) ds xs h4⟩
 | .fnc n cs,h=>by
   obtain ⟨a,e,h⟩:=h;exact ⟨a,e,h.keep λa o z=>k _ _ z⟩
def FD.same (fd:FD F H) (k:iC H H'):FD F H':=λb h=>by
 obtain ⟨o,e,q⟩:=fd b h;exact ⟨o,k _ _ e,q⟩
def xT {P:aq->Prop} (h:∀ b,P b->∃ o,H b = some o/\Mo o) (k:iC H H'):∀ b,P b->∃ o,H' b = some o/\Mo o:=λb z=>by
 obtain ⟨o,e,q⟩:=h b z;exact ⟨o,k _ _ e,q⟩
def Ok.same' (h:Ok K G F σ H δ) (k:iC H H'):Ok K G F σ H' δ :=
 ⟨h.same.trans (.of k),h.fd.same k,h.rf,xT h.rl k,h.tf,h.tabs.keep λb o _ e=>k b o e,h.len,λi s e=>(h.sl i s e).same h.fd k,h.apart⟩
def cF (h:H p = none) (o:HO):iC H (upd H p o):=λb u q=>by rw [bI (gI q h)];exact q
def fb.less {o:Option (Option V)} (fd:FD F H) (hs:∀ b,F' b->F b):∀ {s:Sl},(∀ a,ow s = true->o = some (some (.ref a))->F' a)->fb K G F H o s->fb K G F' H o s
 | .no,_,_=>trivial
 | .val d,_,h=>by
   obtain ⟨v,e,h⟩:=h
   exact ⟨v,e,Rel.less fd hs h⟩
 | .own ds,q,h=>by
   obtain ⟨a,xs,e,h1,h2,h3,h4⟩:=h
   exact ⟨a,xs,e,q a rfl e,h2,h3,aK.less fd hs h4⟩
 | .fnc n cs,_,h=>h
inductive gC (K:PySem.W.Frag) (H:Hp) (F:aq->Prop):D->HO->Prop
 | lst {ds:List D} {xs:List V}:aK K H F ds xs->gC K H F (.lst ds) (.lst xs)
def owS:D->Sl
 | .lst ds=>.own ds
 | _=>.no
def GC {d d':D} (h:ow (owS d) = true) (e:owS d = owS d'):d = d':=by
 cases d<;>first | (cases h;done) | skip
 . cases d'<;>first | (cases e;rfl) | cases e
def gC.mo {d:D} {o:HO} (h:gC K H F d o):Mo o/\ow (owS d) = true:=by
 cases h<;>exact ⟨trivial,rfl⟩
def gC.step (fd:FD F H) (s:Step G F H F' H') {d:D} {o:HO} (h:gC K H F d o):gC K H' F' d o:=by
 cases h with
 | lst h=>exact .lst (aK.step fd s _ _ h)
def gC.sl {o:Option (Option V)} {a:aq} {d:D} {u:HO} (e:o = some (some (.ref a))) (hF:F a) (hg:G.free a) (h:H a = some u) (r:gC K H F d u):fb K G F H o (owS d):=by
 cases r with
 | lst r=>exact ⟨a,_,e,hF,hg,h,r⟩
def fb.ow {o:Option (Option V)} {s:Sl} (h:fb K G F H o s) (q:ow s = true):∃ a u d,o = some (some (.ref a))/\F a/\G.free a/\H a = some u/\gC K H F d u/\s = owS d:=by
 cases s with
 | own ds =>
   obtain ⟨a,xs,e,h1,h2,h3,h4⟩:=h
   exact ⟨a,_,.lst ds,e,h1,h2,h3,.lst h4,rfl⟩
 | _=>cases q
def fb.stay0 (fd:FD F H) (st:Step G' F H F' H') (k:∀ a u,o = some (some (.ref a))->F a->G.free a->H a = some u->F' a/\H' a = some u):∀ {s:Sl},fb K G F H o s->fb K G F' H' o s
 | .no,_=>trivial
 | .fnc n cs,h=>by
   obtain ⟨v,e,z⟩:=h
   exact ⟨v,e,z.keep (mK fd st.keep)⟩
 | .val d,h=>by
   obtain ⟨v,e,z⟩:=h
   exact ⟨v,e,Rel.step fd st d v z⟩
 | .own ds,h=>by
   obtain ⟨a,u,d,e,h1,h2,h3,h4,e5⟩:=fb.ow h rfl;rw [e5];obtain ⟨k1,k2⟩:=k a u e h1 h2 h3;exact gC.sl e k1 h2 k2 (h4.step fd st)
def fb.stay {o:Option (Option V)} (fd:FD F H) (st:Step G F H F' H') (k:∀ a u,o = some (some (.ref a))->F a->G.free a->H a = some u->F' a/\H' a = some u) {s:Sl} (h:fb K G F H o s):fb K G F' H' o s:=fb.stay0 fd st k h
def fb.free {G':Gh} {o:Option (Option V)} (k:∀ a,F a->G.free a->G'.free a):∀ {s:Sl},fb K G F H o s->fb K G' F H o s
 | .no,_=>trivial
 | .fnc n cs,h=>h
 | .val d,h=>h
 | .own ds,h=>by
   obtain ⟨a,xs,e,h1,h2,h3⟩:=h;exact ⟨a,xs,e,h1,k a h1 h2,h3⟩
def gC.rel (fd:FD F H) (hs:∀ b,F' b->F b) {a:aq} (n:¬ F' a) {d:D} {u:HO} (h:H a = some u) (r:gC K H F d u):Rel K H F' d (.ref a):=by
 cases r with
 | lst r =>
   unfold Rel;exact ⟨a,_,rfl,.inl ⟨.inl h,n⟩,aK.less fd hs r⟩
inductive Hand (K:PySem.W.Frag) (H:Hp) (F:aq->Prop) (a:aq):D->V->Prop
 | one {d:D} {u:HO}:H a = some u->gC K H F d u->Hand K H F a d (.ref a)
 | tup {l zs:List D} {xs vs:List V} {t:aq}:H a = some (.lst xs)->aK K H F l xs->SqT K H t (.ref a::vs)->aK K H F zs vs->Hand K H F a (.tup (.lst l::zs)) (.ref t)
def Hand.less (fd:FD F H) (hs:∀ b,F' b->F b) {a:aq} {d:D} {v:V} (h:Hand K H F a d v):Hand K H F' a d v:=by
 cases h with
 | one h r =>
   refine .one h ?_
   cases r with
   | lst r=>exact .lst (aK.less fd hs r)
 | tup h r t z=>exact .tup h (aK.less fd hs r) t (aK.less fd hs z)
def Hand.rel (fd:FD F H) (hs:∀ b,F' b->F b) {a:aq} (n:¬ F' a) {d:D} {v:V} (h:Hand K H F a d v):Rel K H F' d v:=by
 cases h with
 | one h r=>exact gC.rel fd hs n h r
 | tup h r t z =>
   have e:=gC.rel fd hs n h (.lst r);unfold Rel;refine ⟨_,_,rfl,t,?_⟩;unfold aK;exact ⟨_,_,rfl,e,aK.less fd hs z⟩
def fS {α:Type} {l:List α} {i j:Nat} {x y:α} (hi:i < l.length) (q:(l.set i x)[j]? = some y):(j = i/\y = x)\/(j≠i/\l[j]? = some y):=by
 by_cases hj:j = i
 . subst hj;rw [cS hi] at q;cases q;exact .inl ⟨rfl,rfl⟩
 . rw [bO (Ne.symm hj)] at q;exact .inr ⟨hj,q⟩
def Ok.demote (h:Ok K G F σ H δ) {i:Nat} {d:D} {a:aq} (e:δ[i]? = some (owS d)) (eo:ow (owS d) = true) (ea:σ[i]? = some (some (.ref a))) :
 Ok K G (λb=>F b/\b≠a) σ H (δ.set i (.val d))/\Rel K H (λb=>F b/\b≠a) d (.ref a):=by
 have hi:i < δ.length:=(aA.mp e).1;obtain ⟨a',u,d',e1,h1,h2,h3,h4,ed⟩:=fb.ow (h.sl i _ e) eo;rw [ea] at e1;cases e1;have ed:=GC eo ed;subst ed;have hs:∀ b,(F b/\b≠a)->F b:=λb z=>z.1;have r:Rel K H (λb=>F b/\b≠a) d (.ref a):=gC.rel h.fd hs (λz=>z.2 rfl) h3 h4
 have tf':TF λb=>F b/\b≠a:=λt ht=>⟨h.tf t ht,λw=>by
  obtain ⟨ps,e2,_⟩:=h.tabs t ht;rw [w,h3] at e2;cases e2;exact h4.mo.1⟩
 refine ⟨⟨h.same,λb z=>h.fd b z.1,λb z=>⟨h.rf b z,λw=>h2.2 (by rw [<- w];exact z)⟩,h.rl,tf',h.tabs,by rw [cj];exact h.len,λj s q=>?_,λj k s t b q1 q2 o1 o2 p1 p2=>?_⟩,r⟩
 . rcases fS hi q with ⟨rfl,rfl⟩ | ⟨hj,q⟩
   . exact ⟨.ref a,ea,r⟩
   . refine (h.sl j s q).less h.fd hs λb z zb=>?_;obtain ⟨b',u',d',e1,f1,_⟩:=fb.ow (h.sl j _ q) z;rw [zb] at e1;cases e1;exact ⟨f1,λw=>hj (h.apart j i _ _ a q e z eo (by rw [zb,w]) ea)⟩
 . rcases fS hi q1 with ⟨rfl,rfl⟩ | ⟨hj,q1⟩
   . cases o1
   . rcases fS hi q2 with ⟨rfl,rfl⟩ | ⟨hk,q2⟩
     . cases o2
     . exact h.apart j k s t b q1 q2 o1 o2 p1 p2
def Ok.set (h:Ok K G F σ H δ) {i:Nat} {d:D} {v:V} (hi:i < δ.length) (r:Rel K H F d v):Ok K G F (σ.set i (some v)) H (δ.set i (.val d)):=by
 have hi':i < σ.length:=by rw [<- h.len];exact hi
 refine ⟨h.same,h.fd,h.rf,h.rl,h.tf,h.tabs,by rw [cj,cj];exact h.len,λj s q=>?_,λj k s t b q1 q2 o1 o2 p1 p2=>?_⟩
 . rcases fS hi q with ⟨rfl,rfl⟩ | ⟨hj,q⟩
   . exact ⟨v,by rw [cS hi'],r⟩
   . rw [bO (Ne.symm hj)];exact h.sl j s q
 . rcases fS hi q1 with ⟨rfl,rfl⟩ | ⟨hj,q1⟩
   . cases o1
   . rcases fS hi q2 with ⟨rfl,rfl⟩ | ⟨hk,q2⟩
     . cases o2
     . rw [bO (Ne.symm hj)] at p1;rw [bO (Ne.symm hk)] at p2;exact h.apart j k s t b q1 q2 o1 o2 p1 p2
def Ok.ownO (h:Ok K G F σ H δ) {i:Nat} {d:D} {u:HO} {p:aq} (hi:i < δ.length) (hp:F p) (hg:G.free p) (e:H p = some u) (r:gC K H F d u)
 (hn:∀ (j:Nat) s,δ[j]? = some s->ow s = true->σ[j]?≠some (some (.ref p))):Ok K G F (σ.set i (some (.ref p))) H (δ.set i (owS d)):=by
 have hi':i < σ.length:=by rw [<- h.len];exact hi
 refine ⟨h.same,h.fd,h.rf,h.rl,h.tf,h.tabs,by rw [cj,cj];exact h.len,λj s q=>?_,λj k s t b q1 q2 o1 o2 p1 p2=>?_⟩
 . rcases fS hi q with ⟨rfl,rfl⟩ | ⟨hj,q⟩
   . exact gC.sl (by rw [cS hi']) hp hg e r
   . rw [bO (Ne.symm hj)];exact h.sl j s q
 . rcases fS hi q1 with ⟨rfl,rfl⟩ | ⟨hj,q3⟩
   . rcases fS hi q2 with ⟨rfl,rfl⟩ | ⟨hk,q2⟩
     . rfl
     . rw [cS hi'] at p1;rw [bO (Ne.symm hk)] at p2;cases p1;exact (hn k t q2 o2 p2).elim
   . rw [bO (Ne.symm hj)] at p1;rcases fS hi q2 with ⟨rfl,rfl⟩ | ⟨hk,q2⟩
     . rw [cS hi'] at p2;cases p2;exact (hn j s q3 o1 p1).elim
     . rw [bO (Ne.symm hk)] at p2;exact h.apart j k s t b q3 q2 o1 o2 p1 p2
def Ok.own (h:Ok K G F σ H δ) {i:Nat} {ds:List D} {xs:List V} {p:aq} (hi:i < δ.length) (hp:F p) (hg:G.free p) (e:H p = some (.lst xs)) (r:aK K H F ds xs)
 (hn:∀ (j:Nat) s,δ[j]? = some s->ow s = true->σ[j]?≠some (some (.ref p))):Ok K G F (σ.set i (some (.ref p))) H (δ.set i (.own ds)):=h.ownO (d:=.lst ds) hi hp hg e (.lst r) hn
def Ok.writeO (h:Ok K G F σ H δ) {i:Nat} {d d':D} {a:aq} {u:HO} (e:δ[i]? = some (owS d)) (eo:ow (owS d) = true) (ea:σ[i]? = some (some (.ref a))) (r:gC K H F d' u) :
 Ok K G F σ (upd H a u) (δ.set i (owS d'))/\Step G F H F (upd H a u):=by
 have hi:i < δ.length:=(aA.mp e).1;have e':=e;obtain ⟨a',x,d0,e1,h1,h2,h3,h4,_⟩:=fb.ow (h.sl i _ e) eo;rw [ea] at e1;cases e1
 have nt:NT x:=by
  have m:=h4.mo.1;cases x<;>first | trivial | exact m
 have st:Step G F H F (upd H a u):=⟨λb o _ q n=>by
  rw [bI (λz:b = a=>n (by rw [z];exact h1))];exact q,λb z=>.inl z,λb o r z e=>⟨z,by rw [bI (λw:b = a=>h2.2 (by rw [<- w];exact r))];exact e⟩,λb ps e=>⟨ps,by rw [bI (λw:b = a=>by rw [w,h3] at e;cases e;exact nt)];exact e⟩⟩
 have tb':gY (upd H a u):=h.tabs.keep λb o n e=>by rw [bI (λw:b = a=>by rw [w,h3] at e;cases e;exact n h4.mo.1)];exact e
 refine ⟨⟨⟨λb o t q=>?_,λb ps q=>?_⟩,λb z=>?_,h.rf,λb z=>?_,h.tf,tb',by rw [cj];exact h.len,λj s q=>?_,λj k s t b q1 q2 o1 o2 p1 p2=>?_⟩,st⟩
 . have:=h.same.nt b o t q;rw [bI (λz:b = a=>by rw [z,h2.1] at q;cases q)];exact this
 . rw [bI (λz:b = a=>by rw [z,h2.1] at q;cases q)];exact h.same.tb b ps q
 . by_cases hb:b = a
   . subst hb;exact ⟨u,bU,.inl r.mo.1⟩
   . rw [bI hb];exact h.fd b z
 . by_cases hb:b = a
   . subst hb;exact ⟨u,bU,r.mo.1⟩
   . rw [bI hb];exact h.rl b z
 . rcases fS hi q with ⟨rfl,rfl⟩ | ⟨hj,q⟩
   . exact gC.sl ea h1 h2 bU (r.step h.fd st)
   . cases eq:ow s with
     | true =>
       refine fb.stay h.fd st (λb v e f1 f2 f3=>⟨f1,?_⟩) (h.sl j s q);rw [bI (λw:b = a=>hj (h.apart j i _ _ a q e' eq eo (by rw [e,w]) ea))]
       exact f3
     | false =>
       have z:=h.sl j s q
       cases s with
       | no=>trivial
       | fnc n cs =>
         obtain ⟨v,e,z⟩:=z
         exact ⟨v,e,z.keep (mK h.fd st.keep)⟩
       | val d =>
         obtain ⟨v,e,z⟩:=z
         exact ⟨v,e,Rel.step h.fd st d v z⟩
       | own _=>cases eq
 . have un:∀ (m:Nat) (g:Sl),(δ.set i (owS d'))[m]? = some g->ow g = true->∃ g',δ[m]? = some g'/\ow g' = true:=λm g q o=>by
    rcases fS hi q with ⟨rfl,rfl⟩ | ⟨hj,q⟩
    . exact ⟨_,e,eo⟩
    . exact ⟨g,q,o⟩
   obtain ⟨g1,q1,o1⟩:=un j _ q1 o1;obtain ⟨g2,q2,o2⟩:=un k _ q2 o2;exact h.apart j k g1 g2 b q1 q2 o1 o2 p1 p2
def Ok.write (h:Ok K G F σ H δ) (e:δ[i]? = some (.own ds)) (ea:σ[i]? = some (some (.ref a))) (r:aK K H F es ys) :
 Ok K G F σ (upd H a (.lst ys)) (δ.set i (.own es))/\Step G F H F (upd H a (.lst ys)):=h.writeO (d:=.lst ds) (d':=.lst es) e rfl ea (.lst r)
def Mo.nt {o:HO} (m:Mo o):NT o:=by
 cases o<;>first | trivial | exact m
def Step.of_sim (rl:∀ b,G.R b->∃ o,H b = some o/\Mo o) (k:Sim H H'):Step G F H F H':=⟨λb o t e _=>k.nt b o t e,λb z=>.inl z,λb o r f e=>⟨f,by
 obtain ⟨u,e2,m⟩:=rl b r;rw [e] at e2;cases e2;exact k.nt b _ m.nt e⟩,k.tb⟩
def Ok.call (h:Ok K G F σ H δ) (k:Sim H H') (t:gY H'):Ok K G F σ H' δ/\Step G F H F H':=by
 have st:Step G F H F H':=Step.of_sim h.rl k;refine ⟨⟨h.same.trans k,λb z=>?_,h.rf,λb z=>?_,h.tf,t,h.len,λi s e=>?_,h.apart⟩,st⟩
 . obtain ⟨o,e,m⟩:=h.fd b z;rcases m with m | ⟨⟨ps,rfl⟩,t⟩
   . exact ⟨o,k.nt _ _ m.nt e,.inl m⟩
   . obtain ⟨qs,e⟩:=k.tb b ps e;exact ⟨_,e,.inr ⟨⟨qs,rfl⟩,t⟩⟩
 . obtain ⟨o,e,m⟩:=h.rl b z;exact ⟨o,k.nt _ _ m.nt e,m⟩
 . cases eq:ow s with
   | true =>
     obtain ⟨_,_,_,_,_,_,h3,h4,_⟩:=fb.ow (h.sl i s e) eq;refine fb.stay h.fd st (λb v e2 f1 f2 f3=>⟨f1,?_⟩) (h.sl i s e);obtain ⟨o,e3,m⟩:=h.fd b f1;rw [f3] at e3;cases e3;rcases m with m | ⟨⟨ps,rfl⟩,t,ht,eb⟩
     . exact k.nt _ _ m.nt f3
     . exfalso;obtain ⟨c,w,d,e5,_,_,e7,r7,_⟩:=fb.ow (h.sl i s e) eq;rw [e2] at e5;cases e5;rw [f3] at e7;cases e7
       exact r7.mo.1
   | false =>
     have q:=h.sl i s e
     cases s with
     | no=>trivial
     | fnc n cs =>
       obtain ⟨v,e,r⟩:=q
       exact ⟨v,e,r.keep (mK h.fd st.keep)⟩
     | val d =>
       obtain ⟨v,e,r⟩:=q
       exact ⟨v,e,Rel.step h.fd st d v r⟩
     | own _=>cases eq
end
end PP
end
section
namespace PP
open PySem L2 PyProof.Rows PySem.SeqAt
variable [Tbs]
def Av (xs:List (Array Nat)):∀ a:Array Nat,(xs.foldl (·++·) a).toList = a.toList++(xs.map (·.toList)).flatten:=by
 induction xs with
 | nil=>intro a;simp
 | cons x r ih=>intro a;rw [qC,ih];simp
def GP (x:Str) (n:Int) (h:0<=n):Txt.mul x n = wB x n.toNat:=by
 unfold Txt.mul wB;by_cases h1:n < 1
 . have:n = 0:=by lia
   subst this;rfl
 . rw [if_neg h1];by_cases h2:(n == 1 || x.length == 0) = true
   . rw [if_pos h2];rw [cE] at h2;rcases h2 with h2 | h2
     . have:n = 1:=by simpa using h2
       subst this;simp
     . have e:x.cps = #[]:=by
        have:x.cps.size = 0:=by simpa [Str.length] using h2
        exact Array.eq_empty_of_size_eq_zero this
       cases x;simp at e;subst e;simp
   . rw [if_neg h2];congr 1;apply Array.ext';rw [Av];simp
def GD:OpR X (binaryOp .Mult) (λx y H Q=>∃ i n,x = .str i/\y = .int n/\(0<=n/\n<=1000/\i.length<=1000)/\Q (.str (wB i n.toNat)) H):=by
 intro pins s σ H x y v u Q I rx ry h;obtain ⟨i,n,rfl,rfl,⟨h1,h2,h3⟩,q⟩:=h;obtain ⟨t,rfl⟩:=rx;obtain ⟨t',rfl⟩:=ry;refine SB.mul ⟨?_,λa _ b=>?_,λa _=>?_⟩ λt' k=>?_
 . simp;lia
 . have:(1000:Int)<=(2 ^ 63 - 1) / n:=by rw [Int.le_ediv_iff_mul_le ∅];lia
   lia
 . have:i.length * n.toNat<=1000 * 1000:=Nat.mul_le_mul h3 ∅;have z:=fY;unfold Builtin.Str.tooLong;simp
   lia
 . rw [GP i n h1];exact ⟨.str _,H,I.tok _,⟨_,rfl⟩,q⟩
mutual
noncomputable def RdV (h:cg):D->af->Prop
 | .non,u=>u = .none
 | .bl b,u=>u = .bool b
 | .int i,u=>∃ t,u = .int i t
 | .str x,u=>∃ t,u = .str x t
 | .lst ds,u=>∃ a its,u = .ref a/\h.IsList a its/\RdL h ds its.toList
 | .tup ds,u=>∃ a its,u = .ref a/\h.IsTuple a its/\RdL h ds its.toList
 | .fn _ _,_=>False
noncomputable def RdL (h:cg):List D->List af->Prop
 | [],us=>us = []
 | d::ds,us=>∃ w ws,us = w::ws/\RdV h d w/\RdL h ds ws
end
mutual
theorem Cs (I:Inv X pins σ H s):∀ (d:D) (v:V) (u:af),Rel X.K H F d v->RelV v u->dep d < 100000->RdV s.heap d u
 | .non,v,u,h,r,_=>by unfold Rel at h;subst h;unfold RdV;exact r
 | .bl b,v,u,h,r,_=>by unfold Rel at h;subst h;unfold RdV;exact r
 | .int b,v,u,h,r,_=>by unfold Rel at h;subst h;unfold RdV;exact r
 | .str b,v,u,h,r,_=>by unfold Rel at h;subst h;unfold RdV;exact r
 | .lst ds,v,u,h,r,hd=>by
   unfold dep at hd;unfold Rel at h;obtain ⟨a,xs,e,h1,h3⟩:=h;subst e;cases (show u = iD a from r);obtain ⟨its,rv,p,hz⟩:=I.list h1.sq;unfold RdV
   exact ⟨a,its.toArray,rfl,p.isList,nB I ds xs its h3 rv ∅⟩
 | .tup ds,v,u,h,r,hd=>by
   unfold dep at hd;unfold Rel at h;obtain ⟨a,xs,e,h1,h3⟩:=h;subst e;cases (show u = iD a from r);obtain ⟨its,rv,p,hz⟩:=I.tuple h1;unfold RdV
   exact ⟨a,its.toArray,rfl,p,nB I ds xs its h3 rv ∅⟩
 | .fn _ _,v,u,h,r,_=>by unfold Rel at h;exact h.elim
theorem nB (I:Inv X pins σ H s):∀ (ds:List D) (xs:List V) (us:List af),aK X.K H F ds xs->Vals xs us->cO ds < 100000->RdL s.heap ds us
 | [],xs,us,h,r,_=>by unfold aK at h;subst h;cases r;unfold RdL;rfl
 | d::ds,xs,us,h,r,hd=>by
   unfold cO at hd;unfold aK at h;obtain ⟨y,ys,e,h1,h2⟩:=h;subst e
   cases r with
   | cons r1 r2 =>
     unfold RdL;exact ⟨_,_,rfl,Cs I d y _ h1 r1 ∅,nB I ds ys _ h2 r2 ∅⟩
end
def fJ (I:Inv X pins σ H s) (h:dI X.K H F d v) (r:RelV v u) (hd:dep d < 100000):RdV s.heap d u:=by
 rcases h with h | ⟨a,xs,ds,rfl,rfl,h1,h2⟩
 . exact Cs I d v u h r hd
 . cases (show u = iD a from r);obtain ⟨its,rv,p,hz⟩:=I.list (.inl (.inl h1));unfold RdV;unfold dep at hd;exact ⟨a,its.toArray,rfl,p.isList,nB I ds xs its h2 rv ∅⟩
mutual
theorem RdV.inj:∀ (d e:D) (u:af),RdV h d u->RdV h e u->d = e
 | .non,e,u,a,b=>by
   unfold RdV at a;subst a
   cases e<;>unfold RdV at b<;>first | rfl | (obtain ⟨_,_,b,_⟩:=b;cases b;done) | (obtain ⟨_,b⟩:=b;cases b;done) | (cases b;done)
 | .bl x,e,u,a,b=>by
   unfold RdV at a;subst a
   cases e<;>unfold RdV at b<;>first | (cases b;rfl) | (obtain ⟨_,_,b,_⟩:=b;cases b;done) | (obtain ⟨_,b⟩:=b;cases b;done) | (cases b;done)
 | .int x,e,u,a,b=>by
   unfold RdV at a;obtain ⟨t,a⟩:=a;subst a
   cases e<;>unfold RdV at b<;>first | (obtain ⟨_,_,b,_⟩:=b;cases b;done) | (obtain ⟨_,b⟩:=b;cases b;rfl) | (obtain ⟨_,b⟩:=b;cases b;done) | (cases b;done)
 | .str x,e,u,a,b=>by
   unfold RdV at a;obtain ⟨t,a⟩:=a;subst a
   cases e<;>unfold RdV at b<;>first | (obtain ⟨_,_,b,_⟩:=b;cases b;done) | (obtain ⟨_,b⟩:=b;cases b;rfl) | (obtain ⟨_,b⟩:=b;cases b;done) | (cases b;done)
 | .lst ds,e,u,a,b=>by
   unfold RdV at a;obtain ⟨l,its,a,h1,h2⟩:=a;subst a
   cases e with
   | lst es =>
     unfold RdV at b;obtain ⟨l',its',b,k1,k2⟩:=b;cases b;obtain ⟨o,g1,g2,n,g3⟩:=h1;obtain ⟨o',f1,f2,n',f3⟩:=k1;rw [g1] at f1;cases f1;rw [g3] at f3;cases f3
     rw [RdL.inj ds es _ h2 k2]
   | tup es =>
     unfold RdV at b;obtain ⟨l',its',b,k1,k2⟩:=b;cases b;obtain ⟨o,g1,g2,_⟩:=h1;obtain ⟨o',f1,f2,_⟩:=k1;rw [g1] at f1;cases f1
     rw [g2] at f2;injection f2 with f2;exact absurd f2 ⇑0
   | _=>unfold RdV at b;first | (obtain ⟨_,b⟩:=b;cases b) | cases b
 | .tup ds,e,u,a,b=>by
   unfold RdV at a;obtain ⟨l,its,a,h1,h2⟩:=a;subst a
   cases e with
   | tup es =>
     unfold RdV at b;obtain ⟨l',its',b,k1,k2⟩:=b;cases b;obtain ⟨o,g1,g2,n,g3⟩:=h1;obtain ⟨o',f1,f2,n',f3⟩:=k1;rw [g1] at f1;cases f1;rw [g3] at f3;cases f3
     rw [RdL.inj ds es _ h2 k2]
   | lst es =>
     unfold RdV at b;obtain ⟨l',its',b,k1,k2⟩:=b;cases b;obtain ⟨o,g1,g2,_⟩:=h1;obtain ⟨o',f1,f2,_⟩:=k1;rw [g1] at f1;cases f1
     rw [g2] at f2;injection f2 with f2;exact absurd f2 ⇑0
   | _=>unfold RdV at b;first | (obtain ⟨_,b⟩:=b;cases b) | cases b
 | .fn _ _,e,u,a,b=>by unfold RdV at a;exact a.elim
theorem RdL.inj:∀ (ds es:List D) (us:List af),RdL h ds us->RdL h es us->ds = es
 | [],es,us,a,b=>by
   unfold RdL at a;subst a
   cases es with
   | nil=>rfl
   | cons e es=>unfold RdL at b;obtain ⟨_,_,b,_⟩:=b;cases b
 | d::ds,es,us,a,b=>by
   unfold RdL at a;obtain ⟨w,ws,a,h1,h2⟩:=a;subst a
   cases es with
   | nil=>unfold RdL at b;cases b
   | cons e es =>
     unfold RdL at b;obtain ⟨_,_,b,k1,k2⟩:=b;cases b;rw [RdV.inj d e w h1 k1,RdL.inj ds es ws h2 k2]
end
mutual
theorem kq:∀ d:D,dep d < 100000->eqD d d = true
 | .non,_=>by unfold eqD;rfl
 | .bl b,_=>by unfold eqD;simp
 | .int b,_=>by unfold eqD;simp
 | .str b,_=>by unfold eqD;simp
 | .lst ds,h=>by unfold eqD;exact nL ds (by unfold dep at h;lia)
 | .tup ds,h=>by unfold eqD;exact nL ds (by unfold dep at h;lia)
 | .fn _ _,h=>by unfold dep at h;lia
theorem nL:∀ ds:List D,cO ds < 100000->gw ds ds = true
 | [],_=>by unfold gw;rfl
 | d::ds,h=>by
   unfold cO at h;unfold gw;rw [kq d ∅,nL ds ∅];rfl
end
def pairD (ds es:List D) (j:Nat):Bool:=match ds[j]?,es[j]? with
 | some x,some y=>eqD x y
 | _,_=>false
def kE:∀ (ds es:List D),(dJ (min ds.length es.length)).all (pairD ds es) = true/\ds.length = es.length↔gw ds es = true
 | [],[]=>by unfold gw;simp
 | [],_::_=>by unfold gw;simp
 | _::_,[]=>by unfold gw;simp
 | d::ds,e::es=>by
   have ih:=kE ds es;have e1:min (d::ds).length (e::es).length = min ds.length es.length+1:=by simp only [ay];lia
   rw [e1,List.range_succ_eq_map,hZ,List.all_map];have e2:(pairD (d::ds) (e::es) ∘ Nat.succ) = pairD ds es:=by funext j;simp [pairD]
   rw [e2];unfold gw;rw [aa,aa,<- ih];have e3:pairD (d::ds) (e::es) 0 = eqD d e:=rfl;rw [e3];simp only [ay];constructor
   . rintro ⟨⟨a,b⟩,c⟩;exact ⟨a,b,∅⟩
   . rintro ⟨a,b,c⟩;exact ⟨⟨a,b⟩,∅⟩
def qp (h:ds.length = es.length):(dJ ds.length).all (pairD ds es) = gw ds es:=by
 have q:=kE ds es;rw [<- h,xC] at q;rw [iw];rw [<- q];simp
def tB (h:ds.length≠es.length):gw ds es = false:=by
 have q:=kE ds es;rw [EU];intro z;exact h (q.mpr z).2
def nM (ds es:List D):((dJ (min ds.length es.length)).all (pairD ds es) && ds.length == es.length) = gw ds es:=by
 have q:=kE ds es;rw [iw,aa,<- q];simp
def RdL.length:∀ {ds:List D} {us:List af},RdL h ds us->us.length = ds.length
 | [],us,a=>by unfold RdL at a;subst a;rfl
 | d::ds,us,a=>by
   unfold RdL at a;obtain ⟨w,ws,a,_,h2⟩:=a;subst a;rw [ay,ay,RdL.length h2]
def mm1 (a b c d:Nat):min a c<=min (max a b) (max c d):=Nat.le_min.mpr ⟨bq (Ih _ _) (kP _ _),bq (qz _ _) (kP _ _)⟩
def mm2 (a b c d:Nat):min b d<=min (max a b) (max c d):=Nat.le_min.mpr ⟨bq (Ih _ _) (jW _ _),bq (qz _ _) (jW _ _)⟩
mutual
theorem tD:∀ (a b:D) (A:bo) (s:ai) (u v:af),RdV s.heap a u->RdV s.heap b v->A.units+min (dep a) (dep b) < cLine->EqAt A s u v (eqD a b)
 | .non,b,A,s,u,v,ra,rb,hu=>by
   unfold RdV at ra;subst ra
   cases b with
   | non=>unfold RdV at rb;subst rb;unfold eqD;exact Fg _
   | bl b=>unfold RdV at rb;subst rb;unfold eqD;exact EqAt.none_bool b
   | int b=>unfold RdV at rb;obtain ⟨t,rfl⟩:=rb;unfold eqD;exact EqAt.none_int b t
   | str b=>unfold RdV at rb;obtain ⟨t,rfl⟩:=rb;unfold eqD;exact EqAt.none_str b t
   | lst ds=>unfold RdV at rb;obtain ⟨l,its,rfl,h1,h2⟩:=rb;unfold eqD;exact EqAt.none_list h1 ∅
   | tup ds=>unfold RdV at rb;obtain ⟨l,its,rfl,h1,h2⟩:=rb;unfold eqD;exact EqAt.none_tuple h1 ∅
   | fn _ _=>unfold RdV at rb;exact rb.elim
 | .bl a,b,A,s,u,v,ra,rb,hu=>by
   unfold RdV at ra;subst ra
   cases b with
   | non=>unfold RdV at rb;subst rb;unfold eqD;exact EqAt.bool_none a
   | bl b=>unfold RdV at rb;subst rb;unfold eqD;exact EqAt.bool_bool a b
   | int b=>unfold RdV at rb;obtain ⟨t,rfl⟩:=rb;unfold eqD;exact EqAt.bool_int a b t
   | str b=>unfold RdV at rb;obtain ⟨t,rfl⟩:=rb;unfold eqD;exact EqAt.bool_str a b t
   | lst ds=>unfold RdV at rb;obtain ⟨l,its,rfl,h1,h2⟩:=rb;unfold eqD;exact EqAt.bool_list a h1 ∅
   | tup ds=>unfold RdV at rb;obtain ⟨l,its,rfl,h1,h2⟩:=rb;unfold eqD;exact EqAt.bool_tuple a h1 ∅
   | fn _ _=>unfold RdV at rb;exact rb.elim
 | .int a,b,A,s,u,v,ra,rb,hu=>by
   unfold RdV at ra;obtain ⟨t',rfl⟩:=ra
   cases b with
   | non=>unfold RdV at rb;subst rb;unfold eqD;exact EqAt.int_none a t'
   | bl b=>unfold RdV at rb;subst rb;unfold eqD;exact EqAt.int_bool a t' b
   | int b=>unfold RdV at rb;obtain ⟨t,rfl⟩:=rb;unfold eqD;exact EqAt.int_int a t' b t
   | str b=>unfold RdV at rb;obtain ⟨t,rfl⟩:=rb;unfold eqD;exact EqAt.int_str a t' b t
   | lst ds=>unfold RdV at rb;obtain ⟨l,its,rfl,h1,h2⟩:=rb;unfold eqD;exact EqAt.int_list a t' h1 ∅
   | tup ds=>unfold RdV at rb;obtain ⟨l,its,rfl,h1,h2⟩:=rb;unfold eqD;exact EqAt.int_tuple a t' h1 ∅
   | fn _ _=>unfold RdV at rb;exact rb.elim
 | .str a,b,A,s,u,v,ra,rb,hu=>by
   unfold RdV at ra;obtain ⟨t',rfl⟩:=ra
   cases b with
   | non=>unfold RdV at rb;subst rb;unfold eqD;exact EqAt.str_none a t'
   | bl b=>unfold RdV at rb;subst rb;unfold eqD;exact EqAt.str_bool a t' b
   | int b=>unfold RdV at rb;obtain ⟨t,rfl⟩:=rb;unfold eqD;exact EqAt.str_int a t' b t
   | str b=>unfold RdV at rb;obtain ⟨t,rfl⟩:=rb;unfold eqD;exact EqAt.str_str a t' b t
   | lst ds=>unfold RdV at rb;obtain ⟨l,its,rfl,h1,h2⟩:=rb;unfold eqD;exact EqAt.str_list a t' h1 ∅
   | tup ds=>unfold RdV at rb;obtain ⟨l,its,rfl,h1,h2⟩:=rb;unfold eqD;exact EqAt.str_tuple a t' h1 ∅
   | fn _ _=>unfold RdV at rb;exact rb.elim
 | .lst ds,b,A,s,u,v,ra,rb,hu=>by
   have ra':=ra;unfold RdV at ra;obtain ⟨l,its,rfl,h1,h2⟩:=ra
   cases b with
   | non=>unfold RdV at rb;subst rb;unfold eqD;exact EqAt.list_none h1 ∅
   | bl b=>unfold RdV at rb;subst rb;unfold eqD;exact EqAt.list_bool b h1 ∅
   | int b=>unfold RdV at rb;obtain ⟨t,rfl⟩:=rb;unfold eqD;exact EqAt.list_int b t h1 ∅
   | str b=>unfold RdV at rb;obtain ⟨t,rfl⟩:=rb;unfold eqD;exact EqAt.list_str b t h1 ∅
   | tup es=>unfold RdV at rb;obtain ⟨l',its',rfl,k1,k2⟩:=rb;unfold eqD;exact EqAt.list_tuple h1 k1 ∅
   | lst es =>
     have rb':=rb;unfold RdV at rb;obtain ⟨l',its',rfl,k1,k2⟩:=rb;by_cases hl:l = l'
     . subst hl;have e:=RdV.inj _ _ _ ra' rb';cases e;have hd:dep (.lst ds) < 100000:=by rw [xC] at hu;have:cLine = 9900:=rfl;lia
       rw [kq _ hd];exact Fg _
     . unfold eqD;have n1:its.size = ds.length:=by simpa using h2.length
       have n2:its'.size = es.length:=by simpa using k2.length
       have he:∀ j (j1:j < its.size) (j2:j < its'.size),EqAt A.in1 s its[j] its'[j] (pairD ds es j):=λj j1 j2=>by
        have q:=jF ds es A.in1 s its.toList its'.toList h2 k2 (by show A.units+1+_ < _;unfold dep at hu;lia) j (by simpa using j1) (by simpa using j2);simpa using q
       refine EqAt.of_refs hl ?_;by_cases hsz:its.size = its'.size
       . rw [<- qp (by lia:ds.length = es.length),<- n1];exact RcAt.lists h1 k1 hsz ∅ he
       . rw [tB (by lia:ds.length≠es.length)]
         exact RcAt.lists_lengths h1 k1 (by simpa using hsz) ∅
   | fn _ _=>unfold RdV at rb;exact rb.elim
 | .tup ds,b,A,s,u,v,ra,rb,hu=>by
   have ra':=ra;unfold RdV at ra;obtain ⟨l,its,rfl,h1,h2⟩:=ra
   cases b with
   | non=>unfold RdV at rb;subst rb;unfold eqD;exact EqAt.tuple_none h1 ∅
   | bl b=>unfold RdV at rb;subst rb;unfold eqD;exact EqAt.tuple_bool b h1 ∅
   | int b=>unfold RdV at rb;obtain ⟨t,rfl⟩:=rb;unfold eqD;exact EqAt.tuple_int b t h1 ∅
   | str b=>unfold RdV at rb;obtain ⟨t,rfl⟩:=rb;unfold eqD;exact EqAt.tuple_str b t h1 ∅
   | lst es=>unfold RdV at rb;obtain ⟨l',its',rfl,k1,k2⟩:=rb;unfold eqD;exact EqAt.tuple_list h1 k1 ∅
   | tup es =>
     have rb':=rb;unfold RdV at rb;obtain ⟨l',its',rfl,k1,k2⟩:=rb;by_cases hl:l = l'
     . subst hl;have e:=RdV.inj _ _ _ ra' rb';cases e;have hd:dep (.tup ds) < 100000:=by rw [xC] at hu;have:cLine = 9900:=rfl;lia
       rw [kq _ hd];exact Fg _
     . unfold eqD;have n1:its.size = ds.length:=by simpa using h2.length
       have n2:its'.size = es.length:=by simpa using k2.length
       have he:∀ j (j1:j < its.size) (j2:j < its'.size),EqAt A.in1 s its[j] its'[j] (pairD ds es j):=λj j1 j2=>by
        have q:=jF ds es A.in1 s its.toList its'.toList h2 k2 (by show A.units+1+_ < _;unfold dep at hu;lia) j (by simpa using j1) (by simpa using j2);simpa using q
       refine EqAt.of_refs hl ?_;rw [<- nM,<- n1,<- n2]
       exact RcAt.tuples h1 k1 ∅ he
   | fn _ _=>unfold RdV at rb;exact rb.elim
 | .fn _ _,b,A,s,u,v,ra,rb,hu=>by unfold RdV at ra;exact ra.elim
theorem jF:∀ (ds es:List D) (A:bo) (s:ai) (us vs:List af),RdL s.heap ds us->RdL s.heap es vs->A.units+min (cO ds) (cO es) < cLine->∀ j (h1:j < us.length) (h2:j < vs.length),EqAt A s us[j] vs[j] (pairD ds es j)
 | [],_,_,_,us,_,ra,_,_,j,h1,_=>by unfold RdL at ra;subst ra;exact absurd h1 (Ie _)
 | _::_,[],_,_,_,vs,_,rb,_,j,_,h2=>by unfold RdL at rb;subst rb;exact absurd h2 (Ie _)
 | d::ds,e::es,A,s,us,vs,ra,rb,hu,j,h1,h2=>by
   unfold RdL at ra rb;obtain ⟨w,ws,rfl,a1,a2⟩:=ra;obtain ⟨w',ws',rfl,b1,b2⟩:=rb;unfold cO at hu
   cases j with
   | zero=>exact tD d e A s w w' a1 b1 (dN (fZ (mm1 _ _ _ _) _) hu)
   | succ j =>
     have q:=jF ds es A s ws ws' a2 b2 (dN (fZ (mm2 _ _ _ _) _) hu) j (by simpa using h1) (by simpa using h2);simpa [pairD] using q
end
def yZ (h:i.natAbs < 2 ^ 200):rQ i<=2 ^ 20:=by
 unfold rQ;split
 . exact bP _
 . rename_i h0;have:i.natAbs.log2 < 200:=(AH (by simpa using h0)).mpr h;have:(200:Nat)<=2 ^ 20:=by decide
   lia
def GQ (h:rD i j = true):IntMulOk i j:=by
 unfold rD at h;simp only [cE,aa,decide_eq_true_eq] at h;rcases h with (h | h) | h
 . exact .of_left (intBits_le_64 h.1 h.2)
 . exact .of_right (intBits_le_64 h.1 h.2)
 . exact .of_bits (yZ h.1) (yZ h.2)
def GF:OpR X (binaryOp .Mult) (rI IntMulOk λi j=>.int (i * j)):=opI λ_ _ _ _ _ _ _ hc q=>PyProof.Rows.mul_int q hc
def CS:OpR X (binaryOp .FloorDiv) (rI (λ_ j=>0 < j/\j < 1000000000000000000000000000000000000000000000000000000000000) λi j=>.int (i / j)):=opI λi j _ _ _ _ _ hc q=>by
 have h1:(0:Int) < j:=hc.1;have h2:j < 1000000000000000000000000000000000000000000000000000000000000:=hc.2;refine PyProof.Rows.floordiv_int ∅ (by rw [Int.fdiv_eq_ediv_of_nonneg i ∅];exact q) (.inl (PyProof.noPylong_of_log2 ?_));exact Nat.lt_trans ((AH (k:=200) ∅).mpr (bj (show j.natAbs < 1000000000000000000000000000000000000000000000000000000000000 by lia) ⇑0)) ⇑0
section
variable {X:Cx}
def JR (hu:X.A.units+200 < cLine):OpR X (compareOp .Eq) (λx y H Q=>∃ F a b,dI X.K H F a x/\dI X.K H F b y/\iB a b = true/\Q (.bl (eqD a b)) H):=by
 intro pins s σ H x y v u Q I rx ry h;obtain ⟨F,a,b,ha,hb,hk,q⟩:=h;unfold iB at hk;rw [aa,aa] at hk;obtain ⟨⟨hk,hd⟩,hm⟩:=hk;replace hd:=of_decide_eq_true hd;replace hm:=of_decide_eq_true hm;have ra:=fJ I ha rx ∅;have rb:=fJ I hb ry ∅;have fin:∀ k:Bool,k = eqD a b->EP X pins σ Q (.bool k) s:=λk e=>⟨.bl k,H,I,rfl,by rw [e];exact q⟩
 cases a<;>cases b<;>first
  | (exact absurd (show false = true from hk) au)
  | skip
 . unfold RdV at ra rb;subst ra;subst rb;exact RcAt.bool_bool _ _ _ _ _ _ (fin _ (by unfold eqD;rfl))
 . unfold RdV at ra rb;obtain ⟨t,rfl⟩:=ra;obtain ⟨t',rfl⟩:=rb;exact RcAt.int_int _ _ _ _ _ _ _ _ (fin _ (by unfold eqD;rfl))
 . unfold RdV at ra rb;obtain ⟨t,rfl⟩:=ra;obtain ⟨t',rfl⟩:=rb;exact RcAt.str_str _ _ _ _ _ _ _ _ (fin _ (by unfold eqD;rfl))
 . rename_i ds es;unfold RdV at ra rb;obtain ⟨l,its,rfl,h1,h2⟩:=ra;obtain ⟨l',its',rfl,k1,k2⟩:=rb;have n1:its.size = ds.length:=by simpa using h2.length
   have n2:its'.size = es.length:=by simpa using k2.length
   have he:∀ j (j1:j < its.size) (j2:j < its'.size),EqAt X.A.in1 s its[j] its'[j] (pairD ds es j):=λj j1 j2=>by
    have q:=jF ds es X.A.in1 s its.toList its'.toList h2 k2 (by show X.A.units+1+_ < _;unfold dep at hd;lia) j (by simpa using j1) (by simpa using j2);simpa using q
   by_cases hsz:its.size = its'.size
   . refine eq_listAt h1 k1 hsz ∅ he (fin _ ?_);unfold eqD;rw [n1];exact qp ∅
   . refine eq_list_lengthsAt h1 k1 (by simpa using hsz) ∅ (fin _ ?_);unfold eqD;exact (tB ∅).symm
 . rename_i ds es;unfold RdV at ra rb;obtain ⟨l,its,rfl,h1,h2⟩:=ra;obtain ⟨l',its',rfl,k1,k2⟩:=rb;have n1:its.size = ds.length:=by simpa using h2.length
   have n2:its'.size = es.length:=by simpa using k2.length
   have he:∀ j (j1:j < its.size) (j2:j < its'.size),EqAt X.A.in1 s its[j] its'[j] (pairD ds es j):=λj j1 j2=>by
    have q:=jF ds es X.A.in1 s its.toList its'.toList h2 k2 (by show X.A.units+1+_ < _;unfold dep at hd;lia) j (by simpa using j1) (by simpa using j2);simpa using q
   refine eq_tupleAt h1 k1 ∅ he (fin _ ?_);unfold eqD;rw [n1,n2];exact nM ds es
def JN (hu:X.A.units+200 < cLine):OpR X (compareOp .NotEq) (λx y H Q=>∃ F a b,dI X.K H F a x/\dI X.K H F b y/\iB a b = true/\Q (.bl (!eqD a b)) H):=by
 intro pins s σ H x y v u Q I rx ry h;obtain ⟨F,a,b,ha,hb,hk,q⟩:=h;unfold iB at hk;rw [aa,aa] at hk;obtain ⟨⟨hk,hd⟩,hm⟩:=hk;replace hd:=of_decide_eq_true hd;replace hm:=of_decide_eq_true hm;have ra:=fJ I ha rx ∅;have rb:=fJ I hb ry ∅;have fin:∀ k:Bool,k = (!eqD a b)->EP X pins σ Q (.bool k) s:=λk e=>⟨.bl k,H,I,rfl,by rw [e];exact q⟩
 cases a<;>cases b<;>first
  | (exact absurd (show false = true from hk) au)
  | skip
 . unfold RdV at ra rb;subst ra;subst rb;exact RcNeAt.bool_bool _ _ _ _ _ _ (fin _ (by unfold eqD;rfl))
 . unfold RdV at ra rb;obtain ⟨t,rfl⟩:=ra;obtain ⟨t',rfl⟩:=rb;exact RcNeAt.int_int _ _ _ _ _ _ _ _ (fin _ (by unfold eqD;rfl))
 . unfold RdV at ra rb;obtain ⟨t,rfl⟩:=ra;obtain ⟨t',rfl⟩:=rb;exact RcNeAt.str_str _ _ _ _ _ _ _ _ (fin _ (by unfold eqD;rfl))
 . rename_i ds es;unfold RdV at ra rb;obtain ⟨l,its,rfl,h1,h2⟩:=ra;obtain ⟨l',its',rfl,k1,k2⟩:=rb;have n1:its.size = ds.length:=by simpa using h2.length
   have n2:its'.size = es.length:=by simpa using k2.length
   have he:∀ j (j1:j < its.size) (j2:j < its'.size),EqAt X.A.in1 s its[j] its'[j] (pairD ds es j):=λj j1 j2=>by
    have q:=jF ds es X.A.in1 s its.toList its'.toList h2 k2 (by show X.A.units+1+_ < _;unfold dep at hd;lia) j (by simpa using j1) (by simpa using j2);simpa using q
   by_cases hsz:its.size = its'.size
   . refine RcNeAt.lists h1 k1 hsz ∅ he _ _ _ _ (fin _ ?_);unfold eqD;rw [n1,qp ∅]
   . refine RcNeAt.lists_lengths h1 k1 (by simpa using hsz) ∅ _ _ _ _ (fin _ ?_);unfold eqD;rw [tB ∅];rfl
 . rename_i ds es;unfold RdV at ra rb;obtain ⟨l,its,rfl,h1,h2⟩:=ra;obtain ⟨l',its',rfl,k1,k2⟩:=rb;have n1:its.size = ds.length:=by simpa using h2.length
   have n2:its'.size = es.length:=by simpa using k2.length
   have he:∀ j (j1:j < its.size) (j2:j < its'.size),EqAt X.A.in1 s its[j] its'[j] (pairD ds es j):=λj j1 j2=>by
    have q:=jF ds es X.A.in1 s its.toList its'.toList h2 k2 (by show X.A.units+1+_ < _;unfold dep at hd;lia) j (by simpa using j1) (by simpa using j2);simpa using q
   refine RcNeAt.tuples h1 k1 ∅ he _ _ _ _ (fin _ ?_);unfold eqD;rw [n1,n2,nM ds es]
open Classical in
def isEq (h:cg) (a:D) (u:af):Bool:=if ∃ d,RdV h d u/\eqD d a = true then true else false
def yB (r:RdV h d u):isEq h a u = eqD d a:=by
 unfold isEq
 cases e:eqD d a with
 | true=>rw [if_pos ⟨d,r,e⟩]
 | false =>
   rw [if_neg];rintro ⟨d',r',e'⟩;rw [RdV.inj d d' u r r',e'] at e;cases e
def kr:∀ {ds:List D} {us:List af},RdL h ds us->us.any (isEq h a) = ds.any λd=>eqD d a
 | [],us,r=>by unfold RdL at r;subst r;rfl
 | d::ds,us,r=>by
   unfold RdL at r;obtain ⟨w,ws,rfl,h1,h2⟩:=r;rw [hV,hV,yB h1,kr h2]
def kg (rv:RdV s.heap a v) (hu:A.units+dep a < cLine):∀ {ds:List D} {us:List af},RdL s.heap ds us->∀ u∈us,EqAt A s u v (isEq s.heap a u)
 | [],us,r=>λu hm=>by unfold RdL at r;subst r;cases hm
 | d::ds,us,r=>λu hm=>by
   unfold RdL at r;obtain ⟨w,ws,rfl,h1,h2⟩:=r;rcases aC.mp hm with rfl | hm
   . rw [yB h1];exact tD d a A s u v h1 rv ∅
   . exact kg rv hu h2 u hm
def JQ (hu:X.A.units+200 < cLine):OpR X (compareOp .In) (λx y H Q=>∃ F a ds,dI X.K H F a x/\(dI X.K H F (.lst ds) y\/dI X.K H F (.tup ds) y)/\(dep a<=150/\cO ds < 99999)/\Q (.bl (ds.any λd=>eqD d a)) H):=by
 intro pins s σ H x y v u Q I rx ry h;obtain ⟨F,a,ds,ha,hb,⟨hd,hm⟩,q⟩:=h;have ra:=fJ I ha rx ∅;have fin:∀ k:Bool,k = (ds.any λd=>eqD d a)->EP X pins σ Q (.bool k) s:=λk e=>⟨.bl k,H,I,rfl,by rw [e];exact q⟩;rcases hb with hb | hb
 . have rb:=fJ I hb ry (by unfold dep;lia);unfold RdV at rb;obtain ⟨l',its',rfl,k1,k2⟩:=rb;refine in_listAt (isEq s.heap a) k1 (λw hw=>kg ra (by show X.A.units+1+_ < _;lia) k2 w (by simpa using hw)) (fin _ ?_);rw [show its'.any (isEq s.heap a) = its'.toList.any (isEq s.heap a) by simp,kr k2]
 . have rb:=fJ I hb ry (by unfold dep;lia);unfold RdV at rb;obtain ⟨l',its',rfl,k1,k2⟩:=rb;refine in_tupleAt (isEq s.heap a) k1 (λw hw=>kg ra (by show X.A.units+1+_ < _;lia) k2 w (by simpa using hw)) (fin _ ?_);rw [show its'.any (isEq s.heap a) = its'.toList.any (isEq s.heap a) by simp,kr k2]
def Ak (hu:X.A.units+200 < cLine):OpR X (compareOp .NotIn) (λx y H Q=>∃ F a ds,dI X.K H F a x/\(dI X.K H F (.lst ds) y\/dI X.K H F (.tup ds) y)/\(dep a<=150/\cO ds < 99999)/\Q (.bl (!ds.any λd=>eqD d a)) H):=by
 intro pins s σ H x y v u Q I rx ry h;obtain ⟨F,a,ds,ha,hb,⟨hd,hm⟩,q⟩:=h;have ra:=fJ I ha rx ∅;have fin:∀ k:Bool,k = (!ds.any λd=>eqD d a)->EP X pins σ Q (.bool k) s:=λk e=>⟨.bl k,H,I,rfl,by rw [e];exact q⟩;rcases hb with hb | hb
 . have rb:=fJ I hb ry (by unfold dep;lia);unfold RdV at rb;obtain ⟨l',its',rfl,k1,k2⟩:=rb;refine notIn_listAt (isEq s.heap a) k1 (λw hw=>kg ra (by show X.A.units+1+_ < _;lia) k2 w (by simpa using hw)) (fin _ ?_);rw [show its'.any (isEq s.heap a) = its'.toList.any (isEq s.heap a) by simp,kr k2]
 . have rb:=fJ I hb ry (by unfold dep;lia);unfold RdV at rb;obtain ⟨l',its',rfl,k1,k2⟩:=rb;refine notIn_tupleAt (isEq s.heap a) k1 (λw hw=>kg ra (by show X.A.units+1+_ < _;lia) k2 w (by simpa using hw)) (fin _ ?_);rw [show its'.any (isEq s.heap a) = its'.toList.any (isEq s.heap a) by simp,kr k2]
def Ep {prog:bp} {w:bQ} {A:bo} {E:af->ai->Prop} {s:ai} {t b:aq} {ws:List af} {Q:af->ai->Prop} (ht:HD s.heap t ([]:List af).toArray) (hb:HD s.heap b ws.toArray) (h:Q (.ref b) s):wpAny (model prog w) A (binaryOp .Add (.ref t) (.ref b)) Q E s:=by
 obtain ⟨⟨cls,dd,data,sl⟩,ho,hc,n,hd⟩:=id ht;obtain ⟨⟨cls2,dd2,data2,sl2⟩,ho2,hc2,n2,hd2⟩:=id hb;simp only at hc hd hc2 hd2;subst hc hd hc2 hd2;exact EG ⟨_,ho,rfl⟩ ⟨_,ho2,rfl⟩ ue AG PySem.F.slot_tuple_add PySem.F.entry_tuple_add (PySem.F.args_tuple_add_2 _ _) (tuple_addW0 t b _ ws.toArray n n2 dd dd2 sl sl2 rfl) ⟨ho,ho2,h⟩
def GI:OpR X (binaryOp .Add) (λx y H Q=>∃ a b ys,x = .ref a/\y = .ref b/\SqT X.K H a []/\SqT X.K H b ys/\Q (.ref b) H):=by
 intro pins s σ H x y v u Q I rx ry h;obtain ⟨a,b,ys,rfl,rfl,ha,hb,q⟩:=h;cases rx;cases ry;obtain ⟨its,r1,p1,_⟩:=I.tuple ha;obtain ⟨its2,r2,p2,_⟩:=I.tuple hb;cases r1;exact Ep p1 p2 ⟨.ref b,H,I,rfl,q⟩
def tyName:Blt->Option String
 | .isTup=>some "tuple"
 | _=>none
def Ky (I:Inv X pins σ H s) (h:dI X.K H F (.lst ds) v) (r:RelV v u):∃ l its,u = .ref l/\s.heap.IsList l its:=by
 rcases h with h | ⟨a,xs,_,_,rfl,h1,_⟩
 . unfold Rel at h;obtain ⟨a,xs,rfl,h1,_⟩:=h;obtain ⟨its,_,p,_⟩:=I.list h1.sq;exact ⟨a,_,r,p.isList⟩
 . obtain ⟨its,_,p,_⟩:=I.list (.inl (.inl h1));exact ⟨a,_,r,p.isList⟩
def Kx (I:Inv X pins σ H s) (h:dI X.K H F (.tup ds) v) (r:RelV v u):∃ l its,u = .ref l/\s.heap.IsTuple l its:=by
 rcases h with h | ⟨a,xs,_,e,_⟩
 . unfold Rel at h;obtain ⟨a,xs,rfl,h1,_⟩:=h;obtain ⟨its,_,p,_⟩:=I.tuple h1;exact ⟨a,_,r,p⟩
 . cases e
def Et (hT:tyName f = some T):dG X (.builtin "isinstance") (λxs H Q=>∃ F d x b,dI X.K H F d x/\xs = [x,.ty T]/\jS f [d] = some (.bl b)/\Q (.bl b) H):=by
 intro pins s σ H xs us Q I r h;obtain ⟨F,d,x,b,hr,rfl,hb,q⟩:=h;obtain ⟨u,w',rfl,ru,rw'⟩:=vals2 r;cases (show w' = Value.type T from rw');have fin:∀ tk,EP X pins σ Q (.bool b) { s with toks:=tk }:=λtk=>⟨.bl b,H,I.tok tk,rfl,q⟩
 cases d with
 | non=>have rd:=fJ I hr ru (by unfold dep;lia);unfold RdV at rd;subst rd;cases f<;>simp [tyName] at hT<;>subst hT<;>simp [jS,jC] at hb<;>subst hb<;>exact PySem.W.kia_one PySem.W.kitx_none I.kIn iU rfl (λz=>nomatch z) fin
 | bl y=>have rd:=fJ I hr ru (by unfold dep;lia);unfold RdV at rd;subst rd;cases f<;>simp [tyName] at hT<;>subst hT<;>simp [jS,jC] at hb<;>subst hb<;>exact PySem.W.kia_one PySem.W.kitx_bool I.kIn iU rfl (λz=>nomatch z) fin
 | int y=>have rd:=fJ I hr ru (by unfold dep;lia);unfold RdV at rd;obtain ⟨t,rfl⟩:=rd;cases f<;>simp [tyName] at hT<;>subst hT<;>simp [jS,jC] at hb<;>subst hb<;>exact PySem.W.kia_one PySem.W.kitx_int I.kIn iU rfl (λz=>nomatch z) fin
 | str y=>have rd:=fJ I hr ru (by unfold dep;lia);unfold RdV at rd;obtain ⟨t,rfl⟩:=rd;cases f<;>simp [tyName] at hT<;>subst hT<;>simp [jS,jC] at hb<;>subst hb<;>exact PySem.W.kia_one PySem.W.kitx_str I.kIn iU rfl (λz=>nomatch z) fin
 | lst y =>
   obtain ⟨l,its,rfl,⟨o,h1,h2,_⟩⟩:=Ky I hr ru
   cases f<;>simp [tyName] at hT<;>subst hT<;>simp [jS,jC] at hb<;>subst hb<;>exact PySem.W.kia_one PySem.W.kitx_list I.kIn ⟨o,h1,h2⟩ rfl (λz=>nomatch z) fin
 | tup y =>
   obtain ⟨l,its,rfl,⟨o,h1,h2,_⟩⟩:=Kx I hr ru
   cases f<;>simp [tyName] at hT<;>subst hT<;>simp [jS,jC] at hb<;>subst hb<;>exact PySem.W.kia_one PySem.W.kitx_tuple I.kIn ⟨o,h1,h2⟩ rfl (λz=>nomatch z) fin
 | fn _ _=>cases f<;>simp [tyName] at hT<;>simp [jS,jC] at hb
def Its (x:Str):L2.It:=⟨λi _=>i < x.cps.size,λi H v H'=>H' = H/\∃ c,x.cps[i]? = some c/\v = .str ⟨#[c]⟩,λi _=>i = x.cps.size⟩
def pF {P:bp} {w:bQ} {K:PySem.W.Frag} {tg:aG} {it:aq} {n:Nat} {PV:Nat->af->Prop} {St:Nat->cg->Prop} {J:L2.It} {ty:String}
 (W:∀ A:bo,A.handled = none->Walks P w A it [it] [it] n PV St) (hst:∀ i h,St i h->∃ (o:Obj) (vs:Array af),h.get? it = some o/\o.cls = .type ty/\o.data = .fields vs)
 (hn:["enumerate","zip","dict_itemiterator","dict_reverseitemiterator","odict_iterator","itertools.zip_longest","itertools.pairwise"].contains ty = false)
 (go:∀ i H,J.go i H->i < n) (stop:∀ i H,J.stop i H->i = n) (yld:∀ i v H,PV i v->∃ x,RelV x v/\J.yld i H x H)
 (self:∀ (A:bo) (i:Nat) (s:ai) (Q:af->ai->Prop) (E:af->ai->Prop),St i s.heap->Q (.ref it) s->wpAny (model P w) A (pyIter (.ref it)) Q E s) :
 Turn P w K tg J [it] it St where
 mem:=by simp
 obj:=λi h st b hb=>by
  have e:b = it:=by simpa using hb
  subst e;obtain ⟨o,vs,e,c,d⟩:=hst i h st;exact ⟨o,e,λv z=>by rw [d] at z;cases z⟩
 keep:=λi h h' st k=>(W { } rfl).frame i h h' st k
 item:=by
  intro X hP hw hK hc i pins s σ H E I hf st hg;subst hP hw hK;obtain ⟨f0,f1,f2,f3,f4,f5⟩:=hf it ↥0;refine (W X.A (I.ok.hd hc)).item i s _ _ (go i H hg) st λv h' tk hv st' kk=>?_;have I1:Inv X pins σ H { s with heap:=h',toks:=tk }:=I.turned (λb o hb e=>kk b o (by simpa using hb) e) f0 f1 f3 f4 f5;obtain ⟨o,vs,e,c,d⟩:=hst _ _ st';obtain ⟨x,r,y⟩:=yld i v H hv;exact ⟨v,rfl,yH (s:={ s with heap:=h',toks:=tk }) e c d hn ⟨x,H,I1,r,y,st',λb hb=>(hf b hb).1⟩⟩
 done:=by
  intro X hP hw hK hc i pins s σ H E I hf st hg;subst hP hw hK;obtain ⟨f0,f1,f2,f3,f4,f5⟩:=hf it ↥0;have e:=stop i H hg;subst e;exact (W X.A (I.ok.hd hc)).done s _ _ st λh' tk kk=>⟨rfl,I.turned (λb o hb e=>kk b o (by simpa using hb) e) f0 f1 f3 f4 f5⟩
 self:=self
def BJ {P:bp} {w:bQ} {K:PySem.W.Frag} {tg:aG} (it:aq) (x:Str) (t:Tok):Turn P w K tg (Its x) [it] it (λi h=>h.IsStrIter it (strIterType x) x t i):=by
 unfold strIterType;split
 . exact pF (ty:="str_ascii_iterator") (λA hA=>Walks.strAscii hA it x t) (λi h ⟨o,e,c,d⟩=>⟨o,_,e,c,d⟩) ⇑0 (λi H z=>z) (λi H z=>z) (λi v H ⟨c,u,h1,h2⟩=>⟨.str ⟨#[c]⟩,⟨u,h2⟩,rfl,c,h1,rfl⟩) λ_ _ _ _ _ st h=>wpAny_pyIter_striter_ascii st h
 . exact pF (ty:="str_iterator") (λA hA=>Walks.strWide hA it x t) (λi h ⟨o,e,c,d⟩=>⟨o,_,e,c,d⟩) ⇑0 (λi H z=>z) (λi H z=>z) (λi v H ⟨c,u,h1,h2⟩=>⟨.str ⟨#[c]⟩,⟨u,h2⟩,rfl,c,h1,rfl⟩) λ_ _ _ _ _ st h=>wpAny_pyIter_striter_wide st h
end
end PP
end
section
namespace PP
open PySem L2 PyProof.Rows PySem.SeqAt PySem.Calls
section
variable {prog:bp} {w:bQ} {A:bo} {R:EI->ai->Prop} {I:aq} {fp wr:List aq} {n:Nat} {P:Nat->af->Prop} {St:Nat->cg->Prop}
end
variable {X:Cx} [Tbs]
end PP
end
section
namespace PP
open PySem L2 PySem.SeqAt PyProof.Rows PySem.W
open AutoSeq1 (wpAny_loadPart')
open MeetsSeq MeetsSeq2 MeetsSeq3 SeqRoads2
variable [Tbs]
def EC (A:bo) (s:ai) (u v:af) (b:Bool):Prop:=∀ (prog:bp) (w:bQ) (E:af->ai->Prop) (Q:af->ai->Prop),Q (.bool b) s->wpAny (model prog w) A (richCompare .Lt u v) Q E s
def vL (A:bo) (s:ai) (last:Bool):List (af × af)->Bool->Prop
 | [],b=>b = last
 | (p,q)::r,b=>∃ e,EqAt A s p q e/\if e = true then vL A s last r b else EC A s p q b
def wd (l m:aq) (xs ys:Array af) (n n2:Nat) (dd dd2:Option aq) (sl sl2:Array (Option af)) (b:Bool) :
 Meets (oB.«tuple.__lt__» ⟨[.ref l,.ref m],[]⟩)
  (λA R s=>s.heap.get? l = some ⟨.type "tuple",dd,.seq xs n,sl⟩/\s.heap.get? m = some ⟨.type "tuple",dd2,.seq ys n2,sl2⟩ /\
    vL A.in1 s (decide (xs.size < ys.size)) (xs.toList.zip ys.toList) b/\R (.ok (.ret (.bool b))) s) :=
 .of_wp λprog w A R s h=>by
  obtain ⟨h0,g0,d0,t0,o0⟩:=s;obtain ⟨hx,hy,hlex,hR⟩:=h;have sub:=AutoSeq1.sub_tuple_tuple
  wp_walk using lU hx,lU hy,wpAny_forIn_list _ (λrest st s'=>st.1 = none/\s' = ⟨h0,g0,d0,t0,o0⟩/\vL A.in1 ⟨h0,g0,d0,t0,o0⟩ (decide (xs.size < ys.size)) rest b) _
  case turn =>
   rintro ⟨y,x⟩ rest st s' ⟨hst,rfl,e,he,hr⟩;refine ag (he prog w _ _ ?_)
   cases e with
   | true =>
     rw [if_pos rfl] at hr
     wp_walk
     exact ⟨rfl,rfl,hr⟩
   | false =>
     rw [if_neg au] at hr;have hr':∀ {Q:af->ai->Prop} {E:af->ai->Prop},Q (.bool b) ⟨h0,g0,d0,t0,o0⟩->wpAny (model prog w) A.in1 (richCompare .Lt y x) Q E ⟨h0,g0,d0,t0,o0⟩:=λ{Q E} h=>hr prog w E Q h
     wp_walk using hr'
     exact ⟨_,rfl,hR⟩
  case fin =>
   rintro ⟨b1,b2⟩ s' ⟨hst,rfl,hl⟩;simp only at hst;subst hst;have hl:b = decide (xs.size < ys.size):=hl
   wp_walk
   refine ⟨_,rfl,?_⟩;have:Builtin.Tuple.tupleCompareSizes .Lt xs.size ys.size = .bool b:=by rw [hl];rfl
   rw [this];exact hR
  case h=>exact ⟨rfl,rfl,hlex⟩
def EC.tuples (hx:s.heap.IsTuple l xs) (hy:s.heap.IsTuple m ys) (hu:A.units < cLine) (h:vL A.in1 s (decide (xs.size < ys.size)) (xs.toList.zip ys.toList) b):EC A s (.ref l) (.ref m) b:=by
 intro prog w E Q q;obtain ⟨⟨c1,d1,t1,s1⟩,e1,k1,n1,f1⟩:=hx;obtain ⟨⟨c2,d2,t2,s2⟩,e2,k2,n2,f2⟩:=hy;have k1:c1 = _:=k1;have f1:t1 = _:=f1;have k2:c2 = _:=k2;have f2:t2 = _:=f2;subst k1 f1 k2 f2;have nn:qO b≠xA:=λz=>nomatch z;exact richCompare_meets_room (op:=.Lt) ⟨_,e1,rfl⟩ ⟨_,e2,rfl⟩ F.slot_tuple_lt F.entry_tuple_lt (F.args_tuple_lt_2 _ _) (wd l m xs ys n1 n2 d1 d2 s1 s2 b) ⟨e1,e2,h,(show qO b≠xA/\Q (.bool b) s from ⟨nn,q⟩)⟩ hu
mutual
theorem xa:∀ (a b:D) (A:bo) (s:ai) (u v:af) (k:Bool),RdV s.heap a u->RdV s.heap b v->A.units+min (dep a) (dep b)+1 < cLine->ltD a b = some k->EC A s u v k
 | .int a,b,A,s,u,v,k,ra,rb,hu,h=>by
   cases b with
   | int b =>
     unfold ltD at h;cases h;unfold RdV at ra rb;obtain ⟨t,rfl⟩:=ra;obtain ⟨t',rfl⟩:=rb;intro prog w E Q q
     exact lt_int q
   | _=>unfold ltD at h;cases h
 | .str a,b,A,s,u,v,k,ra,rb,hu,h=>by
   cases b with
   | str b =>
     unfold ltD at h;cases h;unfold RdV at ra rb;obtain ⟨t,rfl⟩:=ra;obtain ⟨t',rfl⟩:=rb;intro prog w E Q q
     exact lt_str q
   | _=>unfold ltD at h;cases h
 | .tup a,b,A,s,u,v,k,ra,rb,hu,h=>by
   cases b with
   | tup b =>
     unfold ltD at h;unfold RdV at ra rb;obtain ⟨l,xs,rfl,h1,h2⟩:=ra;obtain ⟨m,ys,rfl,k1,k2⟩:=rb;have n1:xs.size = a.length:=by simpa using h2.length
     have n2:ys.size = b.length:=by simpa using k2.length
     refine EC.tuples h1 k1 (by omega) ?_;rw [n1,n2];unfold dep at hu
     exact vh a b A.in1 s xs.toList ys.toList k h2 k2 (by show A.units+1+_+1 < _;omega) h
   | _=>unfold ltD at h;cases h
 | .non,b,A,s,u,v,k,ra,rb,hu,h=>by cases b<;>(unfold ltD at h;cases h)
 | .bl x,b,A,s,u,v,k,ra,rb,hu,h=>by cases b<;>(unfold ltD at h;cases h)
 | .lst x,b,A,s,u,v,k,ra,rb,hu,h=>by cases b<;>(unfold ltD at h;cases h)
 | .fn x y,b,A,s,u,v,k,ra,rb,hu,h=>by cases b<;>(unfold ltD at h;cases h)
theorem vh:∀ (as bs:List D) (A:bo) (s:ai) (us vs:List af) (k:Bool),RdL s.heap as us->RdL s.heap bs vs->A.units+min (cO as) (cO bs)+1 < cLine->eH as bs = some k->vL A s (decide (as.length < bs.length)) (us.zip vs) k
 | [],[],A,s,us,vs,k,ra,rb,hu,h=>by
   unfold RdL at ra rb;subst ra;subst rb;unfold eH at h;cases h
   rfl
 | [],y::ys,A,s,us,vs,k,ra,rb,hu,h=>by
   unfold RdL at ra;subst ra;unfold eH at h;cases h;show true = decide _
   simp
 | x::xs,[],A,s,us,vs,k,ra,rb,hu,h=>by
   unfold RdL at rb;subst rb;unfold eH at h;cases h;rw [iV];show false = decide _
   simp
 | x::xs,y::ys,A,s,us,vs,k,ra,rb,hu,h=>by
   unfold RdL at ra rb;obtain ⟨u,us',rfl,ra1,ra2⟩:=ra;obtain ⟨v,vs',rfl,rb1,rb2⟩:=rb;unfold eH at h;unfold cO at hu;refine ⟨eqD x y,tD x y A s u v ra1 rb1 (dN (bq (fZ (mm1 _ _ _ _) _) (Hy _ 1)) hu),?_⟩
   cases e:eqD x y with
   | true =>
     rw [e,if_pos rfl] at h;rw [if_pos rfl];have:=vh xs ys A s us' vs' k ra2 rb2 (dN (AI (fZ (mm2 _ _ _ _) _) 1) hu) h;have e1:decide ((x::xs).length < (y::ys).length) = decide (xs.length < ys.length):=by simp
     rw [e1]
     exact this
   | false =>
     rw [e,if_neg au] at h;rw [if_neg au];exact xa x y A s u v k ra1 rb1 (dN (AI (fZ (mm1 _ _ _ _) _) 1) hu) h
end
def JP (hu:X.A.units+200 < cLine):OpR X (compareOp .Lt) (λx y H Q=>∃ F a b k,dI X.K H F a x/\dI X.K H F b y/\kS a b = some k/\Q (.bl k) H):=by
 intro pins s σ H x y v u Q I rx ry h;obtain ⟨F,a,b,k,ha,hb,e,q⟩:=h;unfold kS at e;split at e
 . exact xa a b X.A s v u k (fJ I ha rx (by omega)) (fJ I hb ry (by omega)) (by omega) e X.prog X.w X.xe _ ⟨.bl k,H,I,rfl,q⟩
 . cases e
def GH:OpR X (binaryOp .Add) (λx y H Q=>∃ l b xs zs,x = .ref l/\y = .ref b/\LsB X.K H l xs/\LsB X.K H b zs/\xs.length+zs.length<=sizeLine/\∀ p,H p = none->Q (.ref p) (upd H p (.lst (xs++zs)))):=by
 intro pins s σ H x y v u Q I rx ry h;obtain ⟨l,b,xs,zs,rfl,rfl,h1,h2,hz,q⟩:=h;cases rx;cases ry;obtain ⟨i1,n1,r1,e1,z1⟩:=h1.obj I;obtain ⟨i2,n2,r2,e2,z2⟩:=h2.obj I;have l1:=r1.length;have l2:=r2.length;refine PySem.P.add_list e1 e2 ?_ (by simp only [aI];omega);rw [show i1.toArray++i2.toArray = (i1++i2).toArray by simp];exact ⟨.ref _,_,I.lnew (t':=s.toks) (r1.append r2) (by rw [ah];omega),rfl,q _ I.fresh⟩
end PP
end
section
namespace PP
open PySem PySem.W PyProof.Rows
def inR {α:Type} (lt:Nat->Nat->Bool) (n:Nat):KasT α->Prop
 | .ret _=>True
 | .ask i j k=>i < n/\j < n/\inR lt n (k (lt i j))
def jf {α β:Type} {lt:Nat->Nat->Bool} {n:Nat} {f:α->KasT β}:∀ {t:KasT α},inR lt n t->inR lt n (f (ans lt t))->inR lt n (t.bind f)
 | .ret a,_,h=>h
 | .ask i j k,⟨h1,h2,h3⟩,h=>⟨h1,h2,jf h3 h⟩
def iA {α:Type} {lt:Nat->Nat->Bool} {n:Nat} {c:Prop} [Decidable c] {a b:KasT α} (h1:inR lt n a) (h2:inR lt n b):inR lt n (if c then a else b):=by
 by_cases h:c
 . rw [if_pos h];exact h1
 . rw [if_neg h];exact h2
def All (p:Array Nat) (n:Nat):Prop:=0 < n/\∀ x∈p,x < n
def All.at {p:Array Nat} {n:Nat} (h:All p n) (k:Nat):p.getD k 0 < n:=by
 rw [getD_eq]
 cases e:p[k]? with
 | none=>exact h.1
 | some x=>exact h.2 x (bw e)
def All.perm {p q:Array Nat} {n:Nat} (h:All p n) (e:q.Perm p):All q n:=⟨h.1,λx hx=>h.2 x (e.mem_iff.mp hx)⟩
section
variable {lt:Nat->Nat->Bool} {n:Nat}
def xt {p:Array Nat} (h:All p n):∀ f k,inR lt n (kas_asc p f k)
 | 0,k=>trivial
 | f+1,k=>⟨h.at _,h.at _,iA trivial (xt h f (k+1))⟩
def oV:∀ (f:Nat) (p:Array Nat) (k q:Nat),All p n->inR lt n (kas_desc f p k q)/\All (ans lt (kas_desc f p k q)).1 n
 | 0,p,k,q,h=>⟨trivial,h⟩
 | f+1,p,k,q,h=>by
   unfold kas_desc;have r1:=oV f (kas_rev p (k - (q+1)) k) (k+1) 0 (h.perm (gX _ _ _));have r2:=oV f p (k+1) 0 h;have r3:=oV f p (k+1) (q+1) h;refine ⟨⟨h.at _,h.at _,iA (iA r1.1 r2.1) ⟨h.at _,h.at _,iA trivial r3.1⟩⟩,?_⟩;rw [kO]
   cases lt (p.getD k 0) (p.getD (k - 1) 0) with
   | true =>
     rw [if_pos rfl];by_cases hq:q > 0
     . rw [if_pos hq];exact r1.2
     . rw [if_neg hq];exact r2.2
   | false =>
     rw [if_neg au,kO]
     cases lt (p.getD (k - 1) 0) (p.getD k 0) with
     | true=>rw [if_pos rfl];exact h
     | false=>rw [if_neg au];exact r3.2
def uC {p:Array Nat} (h:All p n) (a m:Nat):inR lt n (kas_tail3 a m p)/\All (ans lt (kas_tail3 a m p)).2 n:=by
 unfold kas_tail3;have h':=h.perm (gX p 0 a);refine ⟨jf (xt h' _ _) trivial,?_⟩;rw [gz,zd];exact h'
def oi {p:Array Nat} (h:All p n) (a m:Nat):inR lt n (kas_descPart a m p)/\All (ans lt (kas_descPart a m p)).2 n:=by
 unfold kas_descPart;obtain ⟨d1,d2⟩:=oV (lt:=lt) (m - (a+1)) p (a+1) 0 h;rw [gz];generalize hr:ans lt (kas_desc (m - (a+1)) p (a+1) 0) = r at d2;have t1:=uC (lt:=lt) (d2.perm (gX r.1 (r.2.1 - (r.2.2+1)) r.2.1)) r.2.1 m;have t2:=uC (lt:=lt) d2 r.2.1 m;refine ⟨jf d1 (by rw [hr];exact iA t1.1 t2.1),?_⟩;by_cases hq:r.2.2 > 0
 . rw [if_pos hq];exact t1.2
 . rw [if_neg hq];exact t2.2
def Eh {p:Array Nat} (h:All p n) (m:Nat):inR lt n (kas_count m p)/\All (ans lt (kas_count m p)).2 n:=by
 unfold kas_count;rw [gz];have a1:=xt (lt:=lt) h (m - 1) 1;generalize hk:ans lt (kas_asc p (m - 1) 1) = k;have t1:=oi (lt:=lt) (h.perm (gX p 0 k)) k m;have t2:=oi (lt:=lt) h k m;refine ⟨jf a1 (by rw [hk];exact iA trivial (iA ⟨h.at _,h.at _,iA trivial t1.1⟩ t2.1)),?_⟩;by_cases e:(k == m) = true
 . rw [if_pos e];exact h
 . rw [if_neg e];by_cases h1:k > 1
   . rw [if_pos h1,kO]
     cases lt (p.getD 0 0) (p.getD (k - 1) 0) with
     | true=>rw [if_pos rfl];exact h
     | false=>rw [if_neg au];exact t1.2
   . rw [if_neg h1];exact t2.2
def pQ {p:Array Nat} (h:All p n) (k:Nat):∀ f l r,inR lt n (kas_place p k f l r)
 | 0,l,r=>trivial
 | f+1,l,r=>by
   unfold kas_place;exact iA trivial ⟨h.at _,h.at _,iA (pQ h k f _ _) (pQ h k f _ _)⟩
def Ex:∀ (f:Nat) (p:Array Nat) (k:Nat),All p n->inR lt n (kas_bin f p k)
 | 0,p,k,h=>trivial
 | f+1,p,k,h=>by
   unfold kas_bin;exact jf (pQ h k _ _ _) (Ex f _ _ (h.perm (Hx _ _ _)))
def FF (hn:0 < n):inR lt n (kas_sort n):=by
 unfold kas_sort;have h:All (om (dJ n)) n:=⟨hn,λx hx=>by simpa using hx⟩;obtain ⟨c1,c2⟩:=Eh (lt:=lt) h n;exact jf c1 (iA (Ex _ _ _ c2) trivial)
end
def yy {α:Type} {prog:bp} {w:bQ} {A:bo} {κ:cH} {vs:List af} {lt:Nat->Nat->Bool} {n:Nat} {s:ai} {Q:α->ai->Prop}
 (ha:∀ i j,i < n->j < n->∀ C:Bool->ai->Prop,C (lt i j) s->kas_ask prog w A κ vs i j C s):∀ t:KasT α,inR lt n t->Q (ans lt t) s->t.kasWp (kas_ask prog w A κ vs) Q s
 | .ret a,_,q=>q
 | .ask i j k,⟨h1,h2,h3⟩,q=>ha i j h1 h2 _ (yy ha (k (lt i j)) h3 q)
def iJ (lt:Nat->Nat->Bool) (vs:List af):List af:=if vs.length < 2 then vs else (ans lt (kas_sort vs.length)).toList.map λi=>vs.getD i bT
section
variable {prog:bp} {w:bQ} {A:bo} {E:af->ai->Prop} {s:ai}
def sQ {a:aq} {vs:List af} {n:Nat} {lt:Nat->Nat->Bool} {κ:cH} {P:PySem.Fin->ai->Prop} (ho:s.heap.get? a = some (seqObj "list" vs.toArray n)) (h64:vs.length < 64)
 (hlen:(iJ lt vs).length = vs.length)
 (hk:2<=vs.length->∀ h':cg,(∀ b o,b≠a->s.heap.get? b = some o->h'.get? b = some o)->∀ C:cH->ai->Prop,C κ { s with heap:=h' }->wpAny (model prog w) A (keyKind' vs.toArray) C (λ_ _=>False) { s with heap:=h' })
 (ha:∀ h':cg,(∀ b o,b≠a->s.heap.get? b = some o->h'.get? b = some o)->∀ i j,i < vs.length->j < vs.length->∀ C:Bool->ai->Prop,C (lt i j) { s with heap:=h' }->kas_ask prog w A κ vs i j C { s with heap:=h' })
 (q:P (.done (.ret .none)) { s with heap:=sortedHeap s.heap a vs (iJ lt vs).toArray }):wpAny (model prog w) A (oB.«list.sort» ⟨[.ref a],[]⟩) P E s:=by
 have la:a < s.heap.objs.size:=aM ho;obtain ⟨e1,o1⟩:∃ e1,(s.heap.update a (bL λ_=>(#[]:Array af))).get? a = some (seqObj "list" #[] e1):=⟨_,get?_update_seq ho λ_ => #[]⟩;have o3:(((s.heap.update a (bL λ_=>(#[]:Array af))).push (seqObj "tuple" vs.toArray 0)).push (seqObj "list" #[] 0)).get? a = some (seqObj "list" #[] e1):=ao _ (ao _ o1)
 have keep:∀ b o,b≠a->s.heap.get? b = some o->(((s.heap.update a (bL λ_=>(#[]:Array af))).push (seqObj "tuple" vs.toArray 0)).push (seqObj "list" #[] 0)).get? b = some o:=λb o hb e =>
  ao _ (ao _ ((dH _ _ (Ne.symm hb)).trans e))
 have sz:(iJ lt vs).toArray.size<=sizeLine:=by rw [aI,hlen,fY];lia
 rw [list_sort_plain];refine ag (listItems_at ho rfl (ag (kx ho rfl ?_ (by rw [aI,fY];lia) (bP _))));refine ag (nV o1 rfl (ag (xx ?_ (by show vs.length<=_;rw [fY];lia))));refine ag (oY (dR ?_) (bP _));show wpAny (model prog w) A _ P E { s with heap:=((s.heap.update a (bL λ_=>(#[]:Array af))).push (seqObj "tuple" vs.toArray 0)).push (seqObj "list" #[] 0) };dsimp only;by_cases h2:vs.toArray.size < 2
 . have hv:vs.length < 2:=by simpa using h2
   have eo:iJ lt vs = vs:=by unfold iJ;rw [if_pos hv]
   rw [if_pos h2,if_pos h2];refine ag (aH ?_);rw [StateT.run_pure];refine ag (aH ?_);dsimp only;refine ag (nV o3 rfl ?_)
   have em:(arrOf (gR general' (vs.toArray.zip vs.toArray) #[] 7 none)).map (·.2) = (iJ lt vs).toArray:=by
    rw [eo];show (vs.toArray.zip vs.toArray).map (·.2) = vs.toArray;apply Array.ext
    . simp
    . intro i h1 h2;simp
   rw [em];refine ag (kx o3 rfl ?_ (bP _) (jm sz));simp only [bne_self_eq_false,bW,if_false];exact aH q
 . have hv:¬ vs.length < 2:=by simpa using h2
   have eo:iJ lt vs = (ans lt (kas_sort vs.length)).toList.map λi=>vs.getD i bT:=by unfold iJ;rw [if_neg hv]
   rw [if_neg h2,if_neg h2];refine ag (fx (hk ∅ _ keep (λκ' s'=>κ' = κ/\s' = { s with heap:=((s.heap.update a (bL λ_=>(#[]:Array af))).push (seqObj "tuple" vs.toArray 0)).push (seqObj "list" #[] 0) }) ⟨rfl,rfl⟩) (λκ' s0 hk=>?_) λ_ _ x=>x.elim);obtain ⟨rfl,rfl⟩:=hk
   refine ag (fx (kat_run (Q:=λst' s'=>s' = { s with heap:=((s.heap.update a (bL λ_=>(#[]:Array af))).push (seqObj "tuple" vs.toArray 0)).push (seqObj "list" #[] 0) }/\∃ p:Array Nat,arrOf st' = p.map (kas_item (vs.toArray.zip vs.toArray))/\failedOf st' = none/\p = ans lt (kas_sort vs.length))
    (G:=λp s'=>s' = { s with heap:=((s.heap.update a (bL λ_=>(#[]:Array af))).push (seqObj "tuple" vs.toArray 0)).push (seqObj "list" #[] 0) }/\p = ans lt (kas_sort vs.length)) rfl ∅ h64 (λp st' s' a1 a2 a3 a4=>⟨a4.1,p,a2,a3,a4.2⟩)
    (yy (lt:=lt) (n:=vs.length) (λi j h1 h2 C hc=>ha _ keep i j h1 h2 C hc) _ (FF ∅) ⟨rfl,rfl⟩)) ?_ λ_ _ e=>e)
   rintro ⟨⟨⟩,st'⟩ s' ⟨rfl,p,har,hf,rfl⟩;dsimp only;rw [kat_snds rfl har,<- eo];refine ag (nV o3 rfl (ag (kx o3 rfl ?_ (bP _) (jm sz))));rw [hf];simp only [bne_self_eq_false,bW,if_false];exact aH q
def zS {κ:cH} (hl:s.heap.IsList l vs.toArray) (h64:vs.length < 64) (hlen:(iJ lt vs).length = vs.length)
 (hk:2<=vs.length->∀ (A':bo) (h':cg),A'.units<=A.units+2->(∀ b o,s.heap.get? b = some o->h'.get? b = some o)->∀ C:cH->ai->Prop,C κ { s with heap:=h' }->wpAny (model prog w) A' (keyKind' vs.toArray) C (λ_ _=>False) { s with heap:=h' })
 (ha:∀ (A':bo) (h':cg),A'.units<=A.units+2->(∀ b o,s.heap.get? b = some o->h'.get? b = some o)->∀ i j,i < vs.length->j < vs.length->∀ C:Bool->ai->Prop,C (lt i j) { s with heap:=h' }->kas_ask prog w A' κ vs i j C { s with heap:=h' })
 (q:Q (.ref (s.heap.objs.size+1)) { s with heap:=sortedAll s.heap vs (iJ lt vs).toArray }):wpAny (model prog w) A (call (.builtin "sorted") [.ref l]) Q E s:=by
 refine rP kind_sorted plain_sorted entry_sorted (args_sorted1 _) ?_;unfold oB.«sorted»;refine ag (m:=checkCount "sorted" 1 1 _) (aH ?_);refine ag (collect_list hl (ag (oY ?_ (by rw [fY];lia))) (by rw [fY];lia));have hs:((s.heap.push (seqObj "list" #[] 0)).update s.heap.objs.size (bL (·++vs.toArray))).objs.size = s.heap.objs.size+1:=by rw [Ff,size_push']
 have hL:(((s.heap.push (seqObj "list" #[] 0)).update s.heap.objs.size (bL (·++vs.toArray))).push (seqObj "list" vs.toArray 0)).get? (s.heap.objs.size+1) = some (seqObj "list" vs.toArray 0):=by
  rw [<- hs];exact bE _ rfl
 have keep:∀ b o,s.heap.get? b = some o->b≠s.heap.objs.size+1/\(((s.heap.push (seqObj "list" #[] 0)).update s.heap.objs.size (bL (·++vs.toArray))).push (seqObj "list" vs.toArray 0)).get? b = some o:=λb o e=>by
  have hlt:b < s.heap.objs.size:=aM e;exact ⟨bH (jl hlt),ao _ ((dH _ _ (fh hlt)).trans (ao _ e))⟩
 show wpAny _ _ _ _ _ { s with heap:=((s.heap.push (seqObj "list" #[] 0)).update s.heap.objs.size (bL (·++vs.toArray))).push (seqObj "list" vs.toArray 0) };rw [hs];refine ag (dR (ff slot_list_sort ⟨_,hL,rfl⟩ entry_list_sort ?body (args_list_sort _)))
 case body =>
  refine sQ (lt:=lt) (κ:=κ) hL h64 hlen (λh2 h' kp=>hk h2 _ h' ?_ λb o e=>kp b o (keep b o e).1 (keep b o e).2) (λh' kp=>ha _ h' ?_ λb o e=>kp b o (keep b o e).1 (keep b o e).2) ?_
  . exact az _
  . exact az _
  . exact ⟨_,rfl,aH ⟨_,rfl,q⟩⟩
end
end PP
end
section
namespace PP
open PySem L2 PySem.SeqAt PyProof.Rows PySem.W
variable [Tbs]
section
variable {lt:Nat->Nat->Bool}
def kG:∀ (f:Nat) (p:Array Nat) (k q:Nat),(ans lt (kas_desc f p k q)).1.Perm p
 | 0,p,k,q=>fO _
 | f+1,p,k,q=>by
   unfold kas_desc;rw [kO]
   cases lt (p.getD k 0) (p.getD (k - 1) 0) with
   | true =>
     rw [if_pos rfl];by_cases hq:q > 0
     . rw [if_pos hq];exact (kG f _ _ _).trans (gX _ _ _)
     . rw [if_neg hq];exact kG f _ _ _
   | false =>
     rw [if_neg au,kO]
     cases lt (p.getD (k - 1) 0) (p.getD k 0) with
     | true=>rw [if_pos rfl];exact fO _
     | false=>rw [if_neg au];exact kG f _ _ _
def pH (a m:Nat) (p:Array Nat):(ans lt (kas_tail3 a m p)).2.Perm p:=by
 unfold kas_tail3;rw [gz,zd];exact gX _ _ _
def lq (a m:Nat) (p:Array Nat):(ans lt (kas_descPart a m p)).2.Perm p:=by
 unfold kas_descPart;rw [gz];have d:=kG (lt:=lt) (m - (a+1)) p (a+1) 0;generalize ans lt (kas_desc (m - (a+1)) p (a+1) 0) = r at d;by_cases hq:r.2.2 > 0
 . rw [if_pos hq];exact ((pH _ _ _).trans (gX _ _ _)).trans d
 . rw [if_neg hq];exact (pH _ _ _).trans d
def xl (m:Nat) (p:Array Nat):(ans lt (kas_count m p)).2.Perm p:=by
 unfold kas_count;rw [gz];generalize ans lt (kas_asc p (m - 1) 1) = k;by_cases e:(k == m) = true
 . rw [if_pos e];exact fO _
 . rw [if_neg e];by_cases h1:k > 1
   . rw [if_pos h1,kO]
     cases lt (p.getD 0 0) (p.getD (k - 1) 0) with
     | true=>rw [if_pos rfl];exact fO _
     | false=>rw [if_neg au];exact (lq _ _ _).trans (gX _ _ _)
   . rw [if_neg h1];exact lq _ _ _
def vH:∀ (f:Nat) (p:Array Nat) (k:Nat),(ans lt (kas_bin f p k)).Perm p
 | 0,p,k=>fO _
 | f+1,p,k=>by
   unfold kas_bin;rw [gz];exact (vH f _ _).trans (Hx _ _ _)
def zT (n:Nat):(ans lt (kas_sort n)).Perm (om (dJ n)):=by
 unfold kas_sort;rw [gz];have c:=xl (lt:=lt) n (om (dJ n));generalize ans lt (kas_count n (om (dJ n))) = r at c;by_cases h:r.1 < n
 . rw [if_pos h];exact (vH _ _ _).trans c
 . rw [if_neg h];exact c
def nv (n:Nat):(ans lt (kas_sort n)).toList.Perm (dJ n):=by
 have:=(zT (lt:=lt) n).toList;simpa using this
end
mutual
theorem RdV.keep (k:∀ b o,h.get? b = some o->h'.get? b = some o):∀ (d:D) (u:af),RdV h d u->RdV h' d u
 | .non,u,r=>by unfold RdV at r |-;exact r
 | .bl _,u,r=>by unfold RdV at r |-;exact r
 | .int _,u,r=>by unfold RdV at r |-;exact r
 | .str _,u,r=>by unfold RdV at r |-;exact r
 | .lst ds,u,r=>by
   unfold RdV at r |-;obtain ⟨a,its,e,⟨o,h1,h2⟩,h3⟩:=r
   exact ⟨a,its,e,⟨o,k _ _ h1,h2⟩,RdL.keep k ds _ h3⟩
 | .tup ds,u,r=>by
   unfold RdV at r |-;obtain ⟨a,its,e,⟨o,h1,h2⟩,h3⟩:=r
   exact ⟨a,its,e,⟨o,k _ _ h1,h2⟩,RdL.keep k ds _ h3⟩
 | .fn _ _,u,r=>by unfold RdV at r;exact r.elim
theorem RdL.keep (k:∀ b o,h.get? b = some o->h'.get? b = some o):∀ (ds:List D) (us:List af),RdL h ds us->RdL h' ds us
 | [],us,r=>by unfold RdL at r |-;exact r
 | d::ds,us,r=>by
   unfold RdL at r |-;obtain ⟨w,ws,e,r1,r2⟩:=r;exact ⟨w,ws,e,RdV.keep k d w r1,RdL.keep k ds ws r2⟩
end
def RdL.nth:∀ {ds:List D} {us:List af} (i:Nat),RdL h ds us->i < ds.length->RdV h (ds.getD i .non) (us.getD i bT)
 | [],us,i,r,hi=>by simp at hi
 | d::ds,us,i,r,hi=>by
   unfold RdL at r;obtain ⟨w,ws,rfl,r1,r2⟩:=r
   cases i with
   | zero=>exact r1
   | succ i=>exact RdL.nth i r2 (by simpa using hi)
section
variable {prog:bp} {w:bQ} {s:ai}
def CT {A:bo} {E:af->ai->Prop} {a b:D} {u v:af} {k:Bool} {Q:Bool->ai->Prop} (ra:RdV s.heap a u) (rb:RdV s.heap b v) (hk:(bG a = 1/\bG b = 1)\/(bG a = 2/\bG b = 2)) (h:ltD a b = some k) (q:Q k s):wpAny (model prog w) A (oneLt' true u v) Q E s:=by
 rcases hk with ⟨h1,h2⟩ | ⟨h1,h2⟩
 . cases a<;>first | (simp [bG] at h1;done) | skip
   . cases b<;>first | (simp [bG] at h2;done) | skip
     . unfold RdV at ra rb;obtain ⟨t,rfl⟩:=ra;obtain ⟨t',rfl⟩:=rb;unfold ltD at h;cases h;exact oneLt_str q
     . rename_i l;cases l with
       | nil=>simp [bG] at h2
       | cons x r=>cases x<;>simp [bG] at h2
   . rename_i l;cases l with
     | nil=>simp [bG] at h1
     | cons x r=>cases x<;>simp [bG] at h1
 . cases a<;>first | (simp [bG] at h1;done) | skip
   . cases b<;>first | (simp [bG] at h2;done) | skip
     . unfold RdV at ra rb;obtain ⟨t,rfl⟩:=ra;obtain ⟨t',rfl⟩:=rb;unfold ltD at h;cases h;exact oneLt_int q
     . rename_i l;cases l with
       | nil=>simp [bG] at h2
       | cons x r=>cases x<;>simp [bG] at h2
   . rename_i l;cases l with
     | nil=>simp [bG] at h1
     | cons x r=>cases x<;>simp [bG] at h1
def qh:∀ (as bs:List D) (us vs:List af) (i:Nat),RdL s.heap as us->RdL s.heap bs vs->A.units+min (cO as) (cO bs)+1 < cLine->eH as bs = some k->fin = decide (as.length < bs.length) ->
 (i = 0->∀ x y,as.head? = some x->bs.head? = some y->(bG x = 1/\bG y = 1)\/(bG x = 2/\bG y = 2))->Q k s->KatLex prog w A true fin Q (us.zip vs) i s
 | [],[],us,vs,i,ra,rb,hu,h,hf,hh,q=>by
   unfold RdL at ra rb;subst ra;subst rb;unfold eH at h;cases h;subst hf
   exact kat_nil q
 | [],y::ys,us,vs,i,ra,rb,hu,h,hf,hh,q=>by
   unfold RdL at ra;subst ra;unfold eH at h;cases h;have:fin = true:=by rw [hf];simp
   subst this
   exact kat_nil q
 | x::xs,[],us,vs,i,ra,rb,hu,h,hf,hh,q=>by
   unfold RdL at rb;subst rb;unfold eH at h;cases h;have:fin = false:=by rw [hf];simp
   subst this;rw [iV]
   exact kat_nil q
 | x::xs,y::ys,us,vs,i,ra,rb,hu,h,hf,hh,q=>by
   unfold RdL at ra rb;obtain ⟨u,us',rfl,ra1,ra2⟩:=ra;obtain ⟨v,vs',rfl,rb1,rb2⟩:=rb;unfold eH at h;unfold cO at hu;rw [bS];refine kat_cons (tD x y A s u v ra1 rb1 ∅ prog w _ _ ?_)
   cases e:eqD x y with
   | true =>
     rw [e,if_pos rfl] at h
     exact kat_yes (qh xs ys us' vs' (i+1) ra2 rb2 ∅ h (by rw [hf];simp) (λz=>by lia) q)
   | false =>
     rw [e,if_neg au] at h;refine kat_no ?_;by_cases hi:i = 0
     . subst hi;exact CT ra1 rb1 (hh rfl x y rfl rfl) h q
     . have e0:(true && i == 0) = false:=by simp [hi]
       rw [e0];exact kat_one u v (xa x y A s u v k ra1 rb1 ∅ h prog w _ _ q)
end
end PP
end
section
namespace PP
open PySem
structure Ck where
 N:List Str
 sc:eK
 fns:List (Str × List Str)
 gn:List Str
def zM (sc:eK) (x:Str):Bool:=match sc.names.lookup x with
 | some .local=>true | some .cell=>true | some .free=>true | _=>false
def Ko (sc:eK) (x:Str):Bool:=match sc.names.lookup x with
 | some .local=>true | some .cell=>true | _=>false
def glB (sc:eK) (x:Str):Bool:=match sc.names.lookup x with
 | some .globalImplicit=>true | _=>false
def Dm (x:Str):Bool:=!(x == ("__debug__":Str)) && !(x == ("__classdict__":Str)) && !(x == ("__name__":Str))
def eO (c:Ck) (i:Nat) (x:Str):Bool:=decide (c.N[i]? = some x) && zM c.sc x && Dm x
def jy (c:Ck) (i:Nat) (x:Str):Bool:=decide (c.N[i]? = some x) && Ko c.sc x && Dm x
def fL (c:Ck) (x:Str):Bool:=glB c.sc x && Dm x
def Mq:Op->xB->Bool
 | .add,.Add=>true | .sub,.Sub=>true | .mul,.Mult=>true | .mod,.Mod=>true | .fdiv,.FloorDiv=>true
 | _,_=>false
def yV:Cop->CmpOp->Bool
 | .lt,.Lt=>true | .gt,.Gt=>true | .eq,.Eq=>true | .ne,.NotEq=>true | .isin,.In=>true | .notin,.NotIn=>true
 | _,_=>false
def rK:Blt->Str
 | .len=>"len" | .toInt=>"int" | .toStr=>"str" | .toTup=>"tuple" | .toLst=>"list" | .sortb=>"sorted"
 | .isTup=>"isinstance"
def ji:List Str:=["len","min","max","int","str","tuple","list","dict","sum","isinstance","bool","range","sorted","set","zip","any","divmod","reversed","all"]
def gu:Es->Bool
 | .nil=>true
 | .cons e es=>!bZ e && gu es
def nG:Es->Bool
 | .nil=>true
 | .cons e es=>(!bZ e || npS es) && nG es
def rH:Es->Nat
 | .nil=>0
 | .cons _ es=>rH es+1
def st (x:aG):Str:=match x with
 | .Name y _=>y
 | .Attribute _ m _=>m
 | _=>""
def cst (x:aG):Const:=match x with
 | .Constant v _ _=>v
 | _=>.none
def e1 (x:aG):aG:=match x with
 | .BinOp y _ _ _=>y
 | .Compare y _ _ _=>y
 | .UnaryOp _ y _=>y
 | .IfExp t _ _ _=>t
 | .Subscript y _ _=>y
 | .Call f _ _ _=>f
 | .Attribute y _ _=>y
 | .ListComp e _ _ _=>e
 | .SetComp e _ _ _=>e
 | _=>x
def bop (x:aG):xB:=match x with
 | .BinOp _ o _ _=>o
 | _=>.Add
def e2 (x:aG):aG:=match x with
 | .BinOp _ _ z _=>z
 | .IfExp _ y _ _=>y
 | .Subscript _ z _=>z
 | _=>x
def NO (x:aG):List CmpOp:=match x with
 | .Compare _ os _ _=>os
 | _=>[]
def ls (x:aG):List aG:=match x with
 | .Compare _ _ zs _=>zs
 | .BoolOp _ vs _=>vs
 | .Tuple es _ _=>es
 | .List es _=>es
 | .Call _ as _ _=>as
 | _=>[]
def NP (x:aG):PySem.BoolOp:=match x with
 | .BoolOp o _ _=>o
 | _=>.And
def po (x:aG):Pos:=match x with
 | .Name _ p=>p
 | .BoolOp _ _ p=>p
 | .Call _ _ _ p=>p
 | .Attribute _ _ p=>p
 | .ListComp _ _ _ p=>p
 | _=>⟨0,0,0,0⟩
def uop (x:aG):PySem.UnaryOp:=match x with
 | .UnaryOp o _ _=>o
 | _=>.Not
def e3 (x:aG):aG:=match x with
 | .IfExp _ _ z _=>z
 | _=>x
def o1 (x:aG):Option aG:=match x with
 | .Slice l _ _ _=>l
 | _=>none
def o2 (x:aG):Option aG:=match x with
 | .Slice _ h _ _=>h
 | _=>none
def o3 (x:aG):Option aG:=match x with
 | .Slice _ _ s _=>s
 | _=>none
def kws (x:aG):List jk:=match x with
 | .Call _ _ ks _=>ks
 | _=>[]
def gns (x:aG):List fI:=match x with
 | .ListComp _ gs _ _=>gs
 | .SetComp _ gs _ _=>gs
 | _=>[]
def scp (x:aG) (d:eK):eK:=match x with
 | .ListComp _ _ sc _=>sc
 | .SetComp _ _ sc _=>sc
 | _=>d
def ju:aG->Nat
 | .Name .. => 0
 | .Constant .. => 1
 | .BinOp .. => 2
 | .Compare .. => 3
 | .BoolOp .. => 4
 | .UnaryOp .. => 5
 | .IfExp .. => 6
 | .Tuple .. => 7
 | .List .. => 8
 | .Subscript .. => 9
 | .Slice .. => 10
 | .Call .. => 11
 | .Attribute .. => 12
 | .ListComp .. => 13
 | .SetComp .. => 14
 | .JoinedStr .. => 15
 | .FormattedValue .. => 16
 | _=>99
def MA (x:aG):Nat->Prop
 | 0=>∃ y p,x = .Name y p
 | 1=>∃ v n p,x = .Constant v n p
 | 2=>∃ y o z p,x = .BinOp y o z p
 | 3=>∃ y os zs p,x = .Compare y os zs p
 | 4=>∃ o vs p,x = .BoolOp o vs p
 | 5=>∃ o y p,x = .UnaryOp o y p
 | 6=>∃ t y z p,x = .IfExp t y z p
 | 7=>∃ es n p,x = .Tuple es n p
 | 8=>∃ es p,x = .List es p
 | 9=>∃ y z p,x = .Subscript y z p
 | 10=>∃ l u s p,x = .Slice l u s p
 | 11=>∃ f as ks p,x = .Call f as ks p
 | 12=>∃ y m p,x = .Attribute y m p
 | 13=>∃ e gs sc p,x = .ListComp e gs sc p
 | 14=>∃ e gs sc p,x = .SetComp e gs sc p
 | 15=>∃ vs p,x = .JoinedStr vs p
 | 16=>∃ y cv sp p,x = .FormattedValue y cv sp p
 | _=>True
def DN (x:aG):MA x (ju x):=by
 cases x<;>first | trivial | exact ⟨_,_,rfl⟩ | exact ⟨_,_,_,rfl⟩ | exact ⟨_,_,_,_,rfl⟩ | exact ⟨_,_,_,_,_,rfl⟩
def eQ (h:((ju x == n) && b) = true):MA x n/\b = true:=by
 rw [aa] at h;exact ⟨eq_of_beq h.1▸DN x,h.2⟩
@[irreducible] noncomputable def eN (x:aG) (k:Str->Bool):Bool:=(ju x == 0) && k (st x)
def cA (h:eN x k = true):∃ y p,x = .Name y p/\k y = true:=by
 unfold eN at h;obtain ⟨⟨y,p,rfl⟩,h⟩:=eQ h;exact ⟨y,p,rfl,h⟩
@[irreducible] noncomputable def onC (x:aG) (k:Const->Bool):Bool:=(ju x == 1) && k (cst x)
def pY (h:onC x k = true):∃ v n p,x = .Constant v n p/\k v = true:=by
 unfold onC at h;obtain ⟨⟨v,n,p,rfl⟩,h⟩:=eQ h;exact ⟨v,n,p,rfl,h⟩
@[irreducible] noncomputable def Di (x:aG) (k:aG->xB->aG->Bool):Bool:=(ju x == 2) && k (e1 x) (bop x) (e2 x)
def uZ (h:Di x k = true):∃ y o z p,x = .BinOp y o z p/\k y o z = true:=by
 unfold Di at h;obtain ⟨⟨y,o,z,p,rfl⟩,h⟩:=eQ h;exact ⟨y,o,z,p,rfl,h⟩
@[irreducible] noncomputable def Df (x:aG) (k:aG->List CmpOp->List aG->Bool):Bool:=(ju x == 3) && k (e1 x) (NO x) (ls x)
def pX (h:Df x k = true):∃ y os zs p,x = .Compare y os zs p/\k y os zs = true:=by
 unfold Df at h;obtain ⟨⟨y,os,zs,p,rfl⟩,h⟩:=eQ h;exact ⟨y,os,zs,p,rfl,h⟩
@[irreducible] noncomputable def Dh (x:aG) (k:PySem.BoolOp->List aG->Pos->Bool):Bool:=(ju x == 4) && k (NP x) (ls x) (po x)
def mx (h:Dh x k = true):∃ o vs p,x = .BoolOp o vs p/\k o vs p = true:=by
 unfold Dh at h;obtain ⟨⟨o,vs,p,rfl⟩,h⟩:=eQ h;exact ⟨o,vs,p,rfl,h⟩
@[irreducible] noncomputable def CU (x:aG) (k:PySem.UnaryOp->aG->Bool):Bool:=(ju x == 5) && k (uop x) (e1 x)
def oQ (h:CU x k = true):∃ o y p,x = .UnaryOp o y p/\k o y = true:=by
 unfold CU at h;obtain ⟨⟨o,y,p,rfl⟩,h⟩:=eQ h;exact ⟨o,y,p,rfl,h⟩
@[irreducible] noncomputable def JV (x:aG) (k:aG->aG->aG->Bool):Bool:=(ju x == 6) && k (e1 x) (e2 x) (e3 x)
def ym (h:JV x k = true):∃ t y z p,x = .IfExp t y z p/\k t y z = true:=by
 unfold JV at h;obtain ⟨⟨t,y,z,p,rfl⟩,h⟩:=eQ h;exact ⟨t,y,z,p,rfl,h⟩
@[irreducible] noncomputable def lj (x:aG) (k:List aG->Bool):Bool:=(ju x == 7) && k (ls x)
def fR (h:lj x k = true):∃ es n p,x = .Tuple es n p/\k es = true:=by
 unfold lj at h;obtain ⟨⟨es,n,p,rfl⟩,h⟩:=eQ h;exact ⟨es,n,p,rfl,h⟩
@[irreducible] noncomputable def CV (x:aG) (k:List aG->Bool):Bool:=(ju x == 8) && k (ls x)
def pV (h:CV x k = true):∃ es p,x = .List es p/\k es = true:=by
 unfold CV at h;obtain ⟨⟨es,p,rfl⟩,h⟩:=eQ h;exact ⟨es,p,rfl,h⟩
@[irreducible] noncomputable def rk (x:aG) (k:aG->aG->Bool):Bool:=(ju x == 9) && k (e1 x) (e2 x)
def ke (h:rk x k = true):∃ y z p,x = .Subscript y z p/\k y z = true:=by
 unfold rk at h;obtain ⟨⟨y,z,p,rfl⟩,h⟩:=eQ h;exact ⟨y,z,p,rfl,h⟩
@[irreducible] noncomputable def JU (x:aG) (k:Option aG->Option aG->Option aG->Bool):Bool:=(ju x == 10) && k (o1 x) (o2 x) (o3 x)
def yj (h:JU x k = true):∃ l u s p,x = .Slice l u s p/\k l u s = true:=by
 unfold JU at h;obtain ⟨⟨l,u,s,p,rfl⟩,h⟩:=eQ h;exact ⟨l,u,s,p,rfl,h⟩
@[irreducible] noncomputable def sJ (x:aG) (k:aG->List aG->List jk->Pos->Bool):Bool:=(ju x == 11) && k (e1 x) (ls x) (kws x) (po x)
def rm (h:sJ x k = true):∃ f as ks p,x = .Call f as ks p/\k f as ks p = true:=by
 unfold sJ at h;obtain ⟨⟨f,as,ks,p,rfl⟩,h⟩:=eQ h;exact ⟨f,as,ks,p,rfl,h⟩
@[irreducible] noncomputable def JY (x:aG) (k:aG->Str->Pos->Bool):Bool:=(ju x == 12) && k (e1 x) (st x) (po x)
def GK (h:JY x k = true):∃ y m p,x = .Attribute y m p/\k y m p = true:=by
 unfold JY at h;obtain ⟨⟨y,m,p,rfl⟩,h⟩:=eQ h;exact ⟨y,m,p,rfl,h⟩
@[irreducible] noncomputable def CW (x:aG) (k:aG->List fI->eK->Pos->Bool):Bool:=(ju x == 13) && k (e1 x) (gns x) (scp x default) (po x)
def kF (h:CW x k = true):∃ e gs sc p,x = .ListComp e gs sc p/\k e gs sc p = true:=by
 unfold CW at h;obtain ⟨⟨e,gs,sc,p,rfl⟩,h⟩:=eQ h;exact ⟨e,gs,sc,p,rfl,h⟩
def sls (x:dE):List aG:=match x with
 | .Assign ts _ _=>ts
 | _=>[]
def s1 (x:dE):aG:=match x with
 | .Assign _ y _=>y
 | .AugAssign t _ _ _=>t
 | .If t _ _ _=>t
 | .For t _ _ _ _=>t
 | .While t _ _ _=>t
 | .Expr y _=>y
 | _=>.Constant .none 0 ⟨0,0,0,0⟩
def s2 (x:dE):aG:=match x with
 | .AugAssign _ _ y _=>y
 | .For _ it _ _ _=>it
 | _=>.Constant .none 0 ⟨0,0,0,0⟩
def so (x:dE):Option aG:=match x with
 | .Return y _=>y
 | _=>none
def sb (x:dE):List dE:=match x with
 | .If _ y _ _=>y
 | .For _ _ y _ _=>y
 | .While _ y _ _=>y
 | _=>[]
def sc2 (x:dE):List dE:=match x with
 | .If _ _ z _=>z
 | .For _ _ _ z _=>z
 | .While _ _ z _=>z
 | _=>[]
def wg:dE->Nat
 | .Assign .. => 0
 | .AugAssign .. => 1
 | .Return .. => 2
 | .If .. => 3
 | .For .. => 4
 | .While .. => 5
 | .Expr .. => 6
 | _=>99
def Mz (x:dE):Nat->Prop
 | 0=>∃ ts y p,x = .Assign ts y p
 | 1=>∃ t o y p,x = .AugAssign t o y p
 | 2=>∃ y p,x = .Return y p
 | 3=>∃ t y z p,x = .If t y z p
 | 4=>∃ t it y z p,x = .For t it y z p
 | 5=>∃ t y z p,x = .While t y z p
 | 6=>∃ y p,x = .Expr y p
 | _=>True
def DM (x:dE):Mz x (wg x):=by
 cases x<;>first | trivial | exact ⟨_,_,rfl⟩ | exact ⟨_,_,_,rfl⟩ | exact ⟨_,_,_,_,rfl⟩ | exact ⟨_,_,_,_,_,rfl⟩
def mJ (h:((wg x == n) && b) = true):Mz x n/\b = true:=by
 rw [aa] at h;exact ⟨eq_of_beq h.1▸DM x,h.2⟩
@[irreducible] noncomputable def pZ (x:dE) (k:List aG->aG->Bool):Bool:=(wg x == 0) && k (sls x) (s1 x)
def kf (h:pZ x k = true):∃ ts y p,x = .Assign ts y p/\k ts y = true:=by
 unfold pZ at h;obtain ⟨⟨ts,y,p,rfl⟩,h⟩:=mJ h;exact ⟨ts,y,p,rfl,h⟩
@[irreducible] noncomputable def yk (x:dE) (k:Option aG->Bool):Bool:=(wg x == 2) && k (so x)
def uW (h:yk x k = true):∃ y p,x = .Return y p/\k y = true:=by
 unfold yk at h;obtain ⟨⟨y,p,rfl⟩,h⟩:=mJ h;exact ⟨y,p,rfl,h⟩
@[irreducible] noncomputable def CZ (x:dE) (k:aG->List dE->List dE->Bool):Bool:=(wg x == 3) && k (s1 x) (sb x) (sc2 x)
def CY (h:CZ x k = true):∃ t y z p,x = .If t y z p/\k t y z = true:=by
 unfold CZ at h;obtain ⟨⟨t,y,z,p,rfl⟩,h⟩:=mJ h;exact ⟨t,y,z,p,rfl,h⟩
@[irreducible] noncomputable def De (x:dE) (k:aG->aG->List dE->List dE->Bool):Bool:=(wg x == 4) && k (s1 x) (s2 x) (sb x) (sc2 x)
def Dc (h:De x k = true):∃ t it y z p,x = .For t it y z p/\k t it y z = true:=by
 unfold De at h;obtain ⟨⟨t,it,y,z,p,rfl⟩,h⟩:=mJ h;exact ⟨t,it,y,z,p,rfl,h⟩
@[irreducible] noncomputable def GJ (x:dE) (k:aG->Bool):Bool:=(wg x == 6) && k (s1 x)
def yo (h:GJ x k = true):∃ y p,x = .Expr y p/\k y = true:=by
 unfold GJ at h;obtain ⟨⟨y,p,rfl⟩,h⟩:=mJ h;exact ⟨y,p,rfl,h⟩
section
variable {α:Type} {xs:List α}
@[irreducible] noncomputable def on0 (xs:List α) (k:Bool):Bool:=match xs with
 | []=>k
 | _=>false
def fu (h:on0 xs k = true):xs = []/\k = true:=by
 unfold on0 at h;cases xs<;>first | exact ⟨rfl,h⟩ | cases h
@[irreducible] noncomputable def onS (xs:List α) (k:α->List α->Bool):Bool:=match xs with
 | y::ys=>k y ys
 | _=>false
def dT (h:onS xs k = true):∃ y ys,xs = y::ys/\k y ys = true:=by
 unfold onS at h;cases xs<;>first | exact ⟨_,_,rfl,h⟩ | cases h
@[irreducible] noncomputable def on1 (xs:List α) (k:α->Bool):Bool:=onS xs λy ys=>on0 ys (k y)
def fK (h:on1 xs k = true):∃ y,xs = [y]/\k y = true:=by
 unfold on1 at h;obtain ⟨y,ys,rfl,h1⟩:=dT h;obtain ⟨rfl,h2⟩:=fu h1;exact ⟨y,rfl,h2⟩
@[irreducible] noncomputable def on2 (xs:List α) (k:α->α->Bool):Bool:=onS xs λy ys=>on1 ys (k y)
def nD (h:on2 xs k = true):∃ y z,xs = [y,z]/\k y z = true:=by
 unfold on2 at h;obtain ⟨y,ys,rfl,h1⟩:=dT h;obtain ⟨z,rfl,h2⟩:=fK h1;exact ⟨y,z,rfl,h2⟩
end
@[irreducible] noncomputable def onI (v:Const) (k:Int->Bool):Bool:=match v with
 | .int i=>k i
 | _=>false
def JW (h:onI v k = true):∃ i,v = .int i/\k i = true:=by
 unfold onI at h;cases v<;>first | exact ⟨_,rfl,h⟩ | cases h
@[irreducible] noncomputable def onB (v:Const) (k:Bool->Bool):Bool:=match v with
 | .bool i=>k i
 | _=>false
def JX (h:onB v k = true):∃ i,v = .bool i/\k i = true:=by
 unfold onB at h;cases v<;>first | exact ⟨_,rfl,h⟩ | cases h
@[irreducible] noncomputable def onT (v:Const) (k:Str->Bool):Bool:=match v with
 | .str i=>k i
 | _=>false
def JT (h:onT v k = true):∃ i,v = .str i/\k i = true:=by
 unfold onT at h;cases v<;>first | exact ⟨_,rfl,h⟩ | cases h
def HQ:Const->Bool
 | .none=>true
 | _=>false
def DJ (h:HQ v = true):v = .none:=by
 cases v<;>first | rfl | cases h
@[irreducible] noncomputable def qG (x:aG) (k:Str->List aG->Bool):Bool:=sJ x λf as ks _=>eN f λn=>on0 ks (k n as)
def gq (h:qG x k = true):∃ n np as p,x = .Call (.Name n np) as [] p/\k n as = true:=by
 unfold qG at h;obtain ⟨f,as,ks,p,rfl,h1⟩:=rm h;obtain ⟨n,np,rfl,h2⟩:=cA h1;obtain ⟨rfl,h3⟩:=fu h2;exact ⟨n,np,as,p,rfl,h3⟩
@[irreducible] noncomputable def onM (x:aG) (k:aG->Str->List aG->Bool):Bool:=sJ x λf as ks cp=>JY f λy m ap=>on0 ks (decide (ap.endLine = cp.line) && k y m as)
def sI (h:onM x k = true):∃ y m ap as cp,x = .Call (.Attribute y m ap) as [] cp/\ap.endLine = cp.line/\k y m as = true:=by
 unfold onM at h;obtain ⟨f,as,ks,cp,rfl,h1⟩:=rm h;obtain ⟨y,m,ap,rfl,h2⟩:=GK h1;obtain ⟨rfl,h3⟩:=fu h2;rw [aa] at h3;exact ⟨y,m,ap,as,cp,rfl,of_decide_eq_true h3.1,h3.2⟩
@[irreducible] noncomputable def onG (g:fI) (k:aG->aG->List aG->Bool):Bool:=decide (g.is_async = 0) && k g.target g.iter g.ifs
def pW (h:onG g k = true):∃ t it il,g = ⟨t,it,il,0⟩/\k t it il = true:=by
 obtain ⟨t,it,il,a⟩:=g;unfold onG at h;rw [aa] at h;have e:a = 0:=of_decide_eq_true h.1;subst e;exact ⟨t,it,il,rfl,h.2⟩
def oM:aG->Option (List Str)
 | .Name x _=>some [x]
 | .Tuple es _ _=>es.mapM fun | .Name x _=>some x | _=>none
 | _=>none
def Em (c:Ck):List Nat->List aG->Bool
 | [],es=>on0 es true
 | i::is,es=>onS es λe r=>eN e (λx=>jy c i x) && Em c is r
def oI (c:Ck):Tg->aG->Bool
 | .nm i,x=>eN x λy=>jy c i y
 | .tp is,x=>lj x λes=>Em c is es
def mi (n:Nat):Tg->Bool
 | .nm i=>decide (n<=i)
 | .tp is=>is.all λi=>decide (n<=i)
def iK (ts:List Str) (N:List Str):List Str:=N.map λy=>if ts.contains y then y++(" ":Str) else y
def jw (c:Ck) (sc:eK):Bool :=
 decide (sc.kind = .function) && sc.names.all λp=>decide (p.2≠.cell) && (!decide (p.2 = .local) || decide (sc.names.lookup p.1 = some .local)) &&
  (!decide (p.2 = .free) || (match c.sc.names.lookup p.1 with | some .cell=>true | some .free=>true | _=>false))
def namesOk (c:Ck) (sc:eK) (Nc:List Str):Bool :=
 decide Nc.Nodup && (dJ c.N.length).all λi=>match Nc[i]? with
  | some x=>!zM sc x || (decide (c.N[i]? = some x) && decide (sc.names.lookup x = some .free))
  | none=>false
def HP:PySem.UnaryOp->Bool
 | .Not=>true
 | _=>false
def isNeg:PySem.UnaryOp->Bool
 | .USub=>true
 | _=>false
def vj (h:HP o = true):o = .Not:=by cases o<;>first | rfl | cases h
def DK (h:isNeg o = true):o = .USub:=by cases o<;>first | rfl | cases h
@[irreducible] noncomputable def onO (x:Option aG) (k:aG->Bool):Bool:=match x with
 | some y=>k y
 | none=>false
def wL (h:onO x k = true):∃ y,x = some y/\k y = true:=by
 unfold onO at h
 cases x with
 | none=>cases h
 | some y=>exact ⟨y,rfl,h⟩
def fw:aG->Bool
 | .Name .. | .Constant .. | .BinOp .. | .Compare .. | .BoolOp .. | .UnaryOp .. | .IfExp .. | .Tuple .. | .List .. | .Subscript .. | .Call .. | .ListComp .. => true
 | .JoinedStr .. => true
 | _=>false
variable [Tbs]
def GZ (x:aG):Bool:=ju x == 7
mutual
noncomputable def ckE (c:Ck):E->aG->Bool
 | .var i,x=>eN x λy=>eO c i y
 | .pk i,x=>eN x λy=>eO c i y
 | .glob g,x=>eN x λy=>decide (c.gn[g]? = some y) && fL c y
 | .int i,x=>onC x λv=>onI v λj=>decide (i = j)
 | .bl b,x=>onC x λv=>onB v λj=>decide (b = j)
 | .non,x=>onC x HQ
 | .str t,x=>onC x λv=>onT v λu=>decide (t = u)
 | .bin op a b,x=>Di x λy o z=>Mq op o && ckE c a y && ckE c b z && (!bZ a || np b)
 | .cmp op a b,x=>Df x λy os zs=>on1 os λo=>on1 zs λz=>yV op o && ckE c a y && ckE c b z && (!bZ a || np b)
 | .and a b,x=>Dh x λo vs p=>onS vs λy r=>onS r λz r2=>(match o with
   | .And=>true
   | .Or=>false) && ckE c a y && ckE c b (match r2 with
   | []=>z
   | _::_=>.BoolOp .And (z::r2) p) && !bZ a && !bZ b
 | .or a b,x=>Dh x λo vs p=>onS vs λy r=>onS r λz r2=>(match o with
   | .And=>false
   | .Or=>true) && ckE c a y && ckE c b (match r2 with
   | []=>z
   | _::_=>.BoolOp .Or (z::r2) p) && !bZ a && !bZ b
 | .not a,x=>CU x λo y=>HP o && ckE c a y && !bZ a
 | .neg a,x=>CU x λo y=>isNeg o && ckE c a y && !bZ a
 | .ite k a b,x=>JV x λt y z=>ckE c k t && ckE c a y && ckE c b z && !bZ a && !bZ b
 | .tup es,x=>lj x λxs=>gh c es xs && gu es
 | .lst es,x=>CV x λxs=>gh c es xs && gu es
 | .ix a b,x=>rk x λy z=>ckE c a y && ckE c b z && (!bZ a || np b) && !bZ b
 | .sl a lo hi,x=>rk x λy z=>JU z λl h s=>s.isNone && (ckE c a y && ckO c lo l && ckO c hi h && (!bZ a || (npO lo && npO hi)))
 | .call f es,x=>qG x λn xs=>(match c.fns[f]? with
    | some (m,ps)=>decide (m = n) && fL c n && decide (ps.length = rH es) && gh c es xs && gu es && !xs.isEmpty
    | none=>false)
 | .blt f es,x=>qG x λn xs=>decide (rK f = n) && fL c n && (match tyName f with
    | some T=>on2 xs λy w=>eN w λt=>decide (t = (T:Str)) && fL c t && gh c es [y] && nG es
    | none=>!xs.isEmpty && gh c es xs && nG es)
 | .callv i es,x=>qG x λn xs=>eO c i n && gh c es xs && gu es && !xs.isEmpty
 | .callF f es i,x=>qG x λn xs=>(match c.fns[f]?,xs.getLast? with
    | some (m,ps),some y=>eN y λy=>decide (m = n) && fL c n && decide (ps.length = rH es+1) && gh c es xs.dropLast && gu es && eO c i y && !xs.dropLast.isEmpty
    | _,_=>false)
 | .bad,x=>fw x
 | .isdig i,x=>onM x λy m as=>eN y λy=>on0 as (decide (m = ("isdigit":Str)) && eO c i y)
 | .comp k tg src ifs elt,x=>CW x λex gs sc _=>on1 gs λg=>onG g λt it il=>(match oM t with
    | some ts=>decide (ts.length = k) && mi c.N.length tg && jw c sc && namesOk c sc (iK ts c.N++ts) && oI ⟨iK ts c.N++ts,sc,c.fns,c.gn⟩ tg t && ckI c src t it &&
       ckG ⟨iK ts c.N++ts,sc,c.fns,c.gn⟩ ifs il && ckE ⟨iK ts c.N++ts,sc,c.fns,c.gn⟩ elt ex && !bZ elt
    | none=>false)
 | .lc3 k tg1 src1 tg2 src2 tg3 src3 elt,x=>CW x λex gs sc _=>onS gs λg1 gs=>on2 gs λg2 g3=>onG g1 λt1 it1 il1=>onG g2 λt2 it2 il2=>onG g3 λt3 it3 il3=>on0 il1 (on0 il2 (on0 il3 (match oM t1,oM t2,oM t3 with
    | some n1,some n2,some n3=>decide ((n1++(n2++n3)).length = k) && mi c.N.length tg1 && mi c.N.length tg2 && mi c.N.length tg3 && jw c sc && namesOk c sc (iK (n1++(n2++n3)) c.N++(n1++(n2++n3))) && oI ⟨iK (n1++(n2++n3)) c.N++(n1++(n2++n3)),sc,c.fns,c.gn⟩ tg1 t1 && oI ⟨iK (n1++(n2++n3)) c.N++(n1++(n2++n3)),sc,c.fns,c.gn⟩ tg2 t2 && oI ⟨iK (n1++(n2++n3)) c.N++(n1++(n2++n3)),sc,c.fns,c.gn⟩ tg3 t3 &&
       ckI c src1 t1 it1 && ckI ⟨iK (n1++(n2++n3)) c.N++(n1++(n2++n3)),sc,c.fns,c.gn⟩ src2 t2 it2 && ckI ⟨iK (n1++(n2++n3)) c.N++(n1++(n2++n3)),sc,c.fns,c.gn⟩ src3 t3 it3 && ckE ⟨iK (n1++(n2++n3)) c.N++(n1++(n2++n3)),sc,c.fns,c.gn⟩ elt ex && !bZ elt
    | _,_,_=>false)))
noncomputable def gh (c:Ck):Es->List aG->Bool
 | .nil,xs=>on0 xs true
 | .cons e es,xs=>onS xs λy ys=>ckE c e y && gh c es ys
noncomputable def ckO (c:Ck):Eo->Option aG->Bool
 | .no,x=>x.isNone
 | .yes e,x=>onO x λy=>ckE c e y && !bZ e
noncomputable def ckG (c:Ck):Eo->List aG->Bool
 | .no,x=>on0 x true
 | .yes e,x=>on1 x λy=>ckE c e y
noncomputable def ckI (c:Ck):It->aG->aG->Bool
 | .rng e,_,x=>qG x λn xs=>on1 xs λy=>decide (n = ("range":Str)) && fL c n && ckE c e y && !bZ e
 | .sq e,_,x=>ckE c e x && !bZ e
 | .zp es,t,x=>qG x λn xs=>on2 xs λu v=>GZ t && decide (n = ("zip":Str)) && fL c n && gh c es [u,v] && gu es
end
def eJ (h:gh c es (y::ys) = true):∃ e es',es = .cons e es'/\ckE c e y = true/\gh c es' ys = true:=by
 cases es with
 | nil=>cases (fu h).1
 | cons e es =>
   obtain ⟨_,_,q,h'⟩:=dT h;cases q;rw [aa] at h';exact ⟨e,es,rfl,h'⟩
def uB (h:oI c tg t = true):(∃ x p,t = .Name x p)\/∃ es n p,t = .Tuple es n p:=by
 cases tg with
 | nm i=>obtain ⟨x,p,rfl,_⟩:=cA h;exact .inl ⟨x,p,rfl⟩
 | tp is=>obtain ⟨es,n,p,rfl,_⟩:=fR h;exact .inr ⟨es,n,p,rfl⟩
def hdN (h:eN x k = true):fw x = true:=by obtain ⟨_,_,rfl,_⟩:=cA h;rfl
def hdC (h:onC x k = true):fw x = true:=by obtain ⟨_,_,_,rfl,_⟩:=pY h;rfl
def hdF (h:qG x k = true):fw x = true:=by obtain ⟨_,_,_,_,rfl,_⟩:=gq h;rfl
def hdM (h:onM x k = true):fw x = true:=by obtain ⟨_,_,_,_,_,rfl,_⟩:=sI h;rfl
def hdB (h:Dh x k = true):fw x = true:=by obtain ⟨_,_,_,rfl,_⟩:=mx h;rfl
def hdU (h:CU x k = true):fw x = true:=by obtain ⟨_,_,_,rfl,_⟩:=oQ h;rfl
def hdS (h:rk x k = true):fw x = true:=by obtain ⟨_,_,_,rfl,_⟩:=ke h;rfl
def cw (h:ckE c e x = true):fw x = true:=by
 cases e with
 | var i=>exact hdN h
 | pk i=>exact hdN h
 | glob g=>exact hdN h
 | int i=>exact hdC h
 | bl b=>exact hdC h
 | non=>exact hdC h
 | str t=>exact hdC h
 | bin op a b=>obtain ⟨_,_,_,_,rfl,_⟩:=uZ h;rfl
 | cmp op a b=>obtain ⟨_,_,_,_,rfl,_⟩:=pX h;rfl
 | and a b=>exact hdB h
 | or a b=>exact hdB h
 | not a=>exact hdU h
 | neg a=>exact hdU h
 | ite k a b=>obtain ⟨_,_,_,_,rfl,_⟩:=ym h;rfl
 | tup es=>obtain ⟨_,_,_,rfl,_⟩:=fR h;rfl
 | lst es=>obtain ⟨_,_,rfl,_⟩:=pV h;rfl
 | ix a b=>exact hdS h
 | sl a lo hi=>exact hdS h
 | call f es=>exact hdF h
 | blt f es=>exact hdF h
 | callv i es=>exact hdF h
 | callF f es i=>exact hdF h
 | bad=>exact h
 | isdig i=>exact hdM h
 | comp k tg src ifs elt=>obtain ⟨_,_,_,_,rfl,_⟩:=kF h;rfl
 | lc3 k tg1 src1 tg2 src2 tg3 src3 elt=>obtain ⟨_,_,_,_,rfl,_⟩:=kF h;rfl
def cG (h:fw x = true) (xs:List aG) (env:Env):starEach (x::xs) env = (false,eval x env)::starEach xs env:=by
 cases x<;>first | rfl | (exact absurd h au)
def DP (h:fw x = true) (env:Env) (v:af):foldedSetIterable x env v = pure v:=by
 cases x<;>first | rfl | (exact absurd h au)
def rG (h:fw x = true) (op:CmpOp):behindInMarks op x = false:=by
 cases x<;>first | rfl | (exact absurd h au)
def Hb (h:fw x = true):L2.PlainIx x:=by
 intro o i;cases x<;>first | rfl | (exact absurd h au)
def km:aG->Bool
 | .ListComp .. => true
 | _=>false
def qk (h:fw x = true) (hc:km x = false) (t:Option aG) (n:Nat) (env:Env):swapsWith x t n env = pure false:=by
 cases x<;>first | rfl | (exact absurd h au) | (exact absurd hc.symm au)
def DL:E->Bool
 | .comp .. => true
 | _=>false
@[irreducible] noncomputable def wM (x:aG) (k:Str->Pos->Bool):Bool:=(ju x == 0) && k (st x) (po x)
def mw (h:wM x k = true):∃ y p,x = .Name y p/\k y p = true:=by
 unfold wM at h;obtain ⟨⟨y,p,rfl⟩,h⟩:=eQ h;exact ⟨y,p,rfl,h⟩
def newOk:E->Bool
 | .lst _=>true
 | .blt .toLst _=>true
 | .sl _ _ _=>true
 | _=>false
def isNm (x:aG):Bool:=ju x == 0
def Mm (c:Ck) (i j:Nat) (es:Es) (t y:aG):Bool:=lj t λus=>on2 us λu v=>wM u λx px=>wM v λz pz=>lj y λvs=>on2 vs λa b =>
 decide (c.N[i]? = some x) && decide (c.N[j]? = some z) && decide (c.sc.names.lookup x = some .local) && decide (c.sc.names.lookup z = some .local) && decide (x≠z) && decide (px.line = pz.line) && gh c es [a,b] && gu es && !(foldedForSure 8 a && foldedForSure 8 b) && !(constantsAlone 8 a && constantsAlone 8 b)
def HM (c:Ck) (tg:Tg) (e:E) (t y:aG):Bool:=match tg,e with
 | .tp [i,j],.tup es=>Mm c i j es t y
 | _,_=>false
def Mj (c:Ck) (t:aG):Bool:=lj t λus=>on2 us λu v=>wM u λx _=>wM v λ_ _=>decide (c.sc.names.lookup x≠some .local)
mutual
noncomputable def ckS (c:Ck):S->dE->Bool
 | .asg tg e,x=>pZ x λts y=>on1 ts λt=>oI c tg t && ckE c e y && !bZ e && !km y && (isNm t || !GZ y || Mj c t || HM c tg e t y)
 | .new i e,x=>pZ x λts y=>on1 ts λt=>eN t λt=>jy c i t && ckE c e y && !km y && newOk e
 | .cmp own i e,x=>DL e && pZ x λts y=>on1 ts λt=>wM t λt tp=>CW y λex gs sc p=>jy c i t && ckE c e (.ListComp ex gs sc p) && ((decide (c.sc.names.lookup t = some .local) && decide (tp.line = p.line) && !(sc.names.any λ(n,k)=>n == t && (k == .local || k == .cell))) || (!own && decide (c.sc.names.lookup t = some .cell)))
 | .ret e,x=>yk x λy=>onO y λy=>ckE c e y && !bZ e
 | .retL _ _ _ _,_=>false
 | .rett i es,x=>yk x λy=>onO y λy=>lj y λys=>onS ys λy zs=>eN y λy=>eO c i y && gh c es zs && gu es
 | .newt i js f es,x=>pZ x λts y=>on1 ts λt=>lj t λus=>Em c (i::js) us && qG y λn xs=>(match c.fns[f]? with
    | some (m,ps)=>decide (m = n) && fL c n && decide (ps.length = rH es) && gh c es xs && gu es && !xs.isEmpty
    | none=>false)
 | .ifs k a b,x=>CZ x λt y z=>ckE c k t && xp c a y && xp c b z
 | .for_ tg src body,x=>De x λt it y z=>on0 z (oI c tg t && ckI c src t it && xp c body y)
 | .append i e,x=>GJ x λw=>onM w λy m as=>eN y λy=>on1 as λz=>decide (m = ("append":Str)) && eO c i y && ckE c e z && !bZ e
 | .extend i e,x=>GJ x λw=>onM w λy m as=>eN y λy=>on1 as λz=>decide (m = ("extend":Str)) && eO c i y && ckE c e z && !bZ e
 | .setix i j e,x=>pZ x λts y=>on1 ts λt=>rk t λw z=>eN w λt=>eO c i t && ckE c e y && !bZ e && !km y && ckE c j z && !bZ j
 | .bad,_=>true
noncomputable def xp (c:Ck):Ss->List dE->Bool
 | .nil,xs=>on0 xs true
 | .cons s ss,xs=>onS xs λy ys=>ckS c s y && xp c ss ys
end
end PP
end
section
namespace PP
open PySem L2 PyProof.Rows
variable [Tbs]
def MU (K:PySem.W.Frag) (G:Gh) (F:aq->Prop) (σ:L2.St) (H:Hp) (m nP:Bool) (d:D) (δ':Loc) (Q:VK):Prop :=
 ∀ v H' F',Step G F H F' H'->(nP = true->Sim H H')->Ok K G F' σ H' δ'->RelM m K H' F' d v->Q v H'
def tE (K:PySem.W.Frag) (cx:Cl) (e:E):TE:=λσ H Q=>∃ G F δ d δ',Ok K G F σ H δ/\evE cx e δ = some (d,δ')/\MU K G F σ H (bZ e) (np e) d δ' Q
def tT (K:PySem.W.Frag) (cx:Cl) (e:E):TT:=λσ H Q=>∃ G F δ b δ',Ok K G F σ H δ/\evT cx e δ = some (b,δ') /\
 ∀ H' F',Step G F H F' H'->(np e = true->Sim H H')->Ok K G F' σ H' δ'->Q b H'
def mU (K:PySem.W.Frag) (H:Hp) (F:aq->Prop):Es->List D->List V->Prop
 | .nil,ds,vs=>ds = []/\vs = []
 | .cons e es,ds,vs=>∃ d ds' v vs',ds = d::ds'/\vs = v::vs'/\RelM (bZ e) K H F d v/\mU K H F es ds' vs'
def tEs (K:PySem.W.Frag) (cx:Cl) (es:Es):TA:=λσ H Q=>∃ G F δ ds δ',Ok K G F σ H δ/\dU cx es δ = some (ds,δ') /\
 ∀ vs H' F',Step G F H F' H'->(npS es = true->Sim H H')->Ok K G F' σ H' δ'->mU K H' F' es ds vs->Q vs H'
def tO (K:PySem.W.Frag) (cx:Cl) (o:Eo):TO:=λσ H Q=>∃ G F δ d δ',Ok K G F σ H δ/\evO cx o δ = some (d,δ') /\
 ∀ H' F',Step G F H F' H'->(npO o = true->Sim H H')->Ok K G F' σ H' δ'->Q d H'
def tG (K:PySem.W.Frag) (cx:Cl) (o:Eo):TT:=λσ H Q=>∃ G F δ b δ',Ok K G F σ H δ/\evG cx o δ = some (b,δ') /\
 ∀ H' F',Step G F H F' H'->(npO o = true->Sim H H')->Ok K G F' σ H' δ'->Q b H'
def Wk (K:PySem.W.Frag) (G:Gh) (F:aq->Prop) (H:Hp) (J:L2.It) (ds:List D):Prop:=∀ F2 H2,Step G F H F2 H2->FD F2 H2->∀ i:Nat,
 (∀ d,ds[i]? = some d->J.go i H2/\∀ x H3,J.yld i H2 x H3->iC H2 H3/\Rel K H3 F2 d x)/\(i = ds.length->J.stop i H2)
def tI (K:PySem.W.Frag) (cx:Cl) (t:It):TI:=λσ H R=>∃ G F δ ds δ',Ok K G F σ H δ/\evI cx t δ = some (ds,δ') /\
 ∀ J H' F',Step G F H F' H'->(npI t = true->Sim H H')->Ok K G F' σ H' δ'->(∀ G',Wk K G' F' H' J ds)->R J H'
section
variable {K:PySem.W.Frag} {cx:Cl} {X:Cx}
def PE.imp (h:PE X e t) (w:∀ σ H Q,t' σ H Q->t σ H Q):PE X e t':=λpins s σ H Q I q=>h pins s σ H Q I (w σ H Q q)
def PT.imp (h:PT X e t) (w:∀ σ H Q,t' σ H Q->t σ H Q):PT X e t':=λpins s σ H Q I q=>h pins s σ H Q I (w σ H Q q)
def two {a b:E} {σ:L2.St} {G:Gh} {H:Hp} {F:aq->Prop} {δ δ1 δ2:Loc} {x y:D} (ok:Ok K G F σ H δ) (ea:evE cx a δ = some (x,δ1)) (eb:evE cx b δ1 = some (y,δ2)) (pc:(!bZ a || np b) = true) {R:V->V->Hp->Prop}
 (k:∀ v u H2 F2,Step G F H F2 H2->((np a && np b) = true->Sim H H2)->Ok K G F2 σ H2 δ2->RelM (bZ a) K H2 F2 x v->RelM (bZ b) K H2 F2 y u->R v u H2) :
 tE K cx a σ H λv H1=>tE K cx b σ H1 λu H2=>R v u H2:=by
 refine ⟨G,F,δ,x,δ1,ok,ea,λv H1 F1 st1 sm1 ok1 r1=>⟨G,F1,δ1,y,δ2,ok1,eb,λu H2 F2 st2 sm2 ok2 r2=>?_⟩⟩;refine k v u H2 F2 (st1.trans st2) (λz=>?_) ok2 (RelM.step ok1.fd st2 (λz=>sm2 (by rw [z] at pc;simpa using pc)) r1) r2;rw [aa] at z;exact (sm1 z.1).trans (sm2 z.2)
def dI.int {H:Hp} {F:aq->Prop} {i:Int} {v:V} (h:dI K H F (.int i) v):v = .int i:=by
 rcases h with h | ⟨_,_,_,e,_⟩
 . unfold Rel at h;exact h
 . cases e
def dI.bl (h:dI K H F (.bl i) v):v = .bl i:=by
 rcases h with h | ⟨_,_,_,e,_⟩
 . unfold Rel at h;exact h
 . cases e
def dI.str {H:Hp} {F:aq->Prop} {i:Str} {v:V} (h:dI K H F (.str i) v):v = .str i:=by
 rcases h with h | ⟨_,_,_,e,_⟩
 . unfold Rel at h;exact h
 . cases e
def dI.tup {H:Hp} {F:aq->Prop} {ds:List D} {v:V} (h:dI K H F (.tup ds) v):∃ a xs,v = .ref a/\SqT K H a xs/\aK K H F ds xs:=by
 rcases h with h | ⟨_,_,_,e,_⟩
 . unfold Rel at h;exact h
 . cases e
def dI.lst {H:Hp} {F:aq->Prop} {ds:List D} {v:V} (h:dI K H F (.lst ds) v):∃ a xs,v = .ref a/\LsB K H a xs/\aK K H F ds xs:=by
 rcases h with h | ⟨a,xs,_,e,e2,h1,h2⟩
 . unfold Rel at h;obtain ⟨a,xs,e,h1,h2⟩:=h;exact ⟨a,xs,e,h1.b,h2⟩
 . cases e;exact ⟨a,xs,e2,.inl (.inl h1),h2⟩
def eA {H:Hp} {F:aq->Prop} (i:Int):Rel K H F (.int i) (.int i):=by unfold Rel;rfl
def lE (i:Bool):Rel K H F (.bl i) (.bl i):=by unfold Rel;rfl
def iI {H:Hp} {F:aq->Prop} (i:Str):Rel K H F (.str i) (.str i):=by unfold Rel;rfl
def xU:Rel K H F .non .non:=by unfold Rel;rfl
def Ok.laid {σ:L2.St} {G:Gh} {H:Hp} {F:aq->Prop} {δ:Loc} {p:aq} (ok:Ok K G F σ H δ) (hp:H p = none) (o:HO):Ok K G F σ (upd H p o) δ/\Step G F H F (upd H p o)/\Sim H (upd H p o)/\¬ F p :=
 ⟨ok.same' (cF hp o),Step.of_same (cF hp o),.of (cF hp o),ok.fd.none hp⟩
def lC {σ:L2.St} {G:Gh} {H:Hp} {F:aq->Prop} {δ:Loc} {p:aq} {ds:List D} {xs:List V} (ok:Ok K G F σ H δ) (hp:H p = none) (r:aK K H F ds xs):Rel K (upd H p (.tup xs)) F (.tup ds) (.ref p):=by
 unfold Rel;exact ⟨p,xs,rfl,SqT.of bU,aK.step (G:=G) ok.fd (Step.of_same (cF hp _)) ds xs r⟩
def lD {σ:L2.St} {G:Gh} {H:Hp} {F:aq->Prop} {δ:Loc} {p:aq} {ds:List D} {xs:List V} (ok:Ok K G F σ H δ) (hp:H p = none) (r:aK K H F ds xs):Rel K (upd H p (.lst xs)) F (.lst ds) (.ref p):=by
 unfold Rel;exact ⟨p,xs,rfl,.inl ⟨.inl bU,(ok.laid hp (.lst xs)).2.2.2⟩,aK.step (G:=G) ok.fd (Step.of_same (cF hp _)) ds xs r⟩
def FU {a b:E} {y z:aG} {op:Op} {o:xB} {pos:Pos} (ho:Mq op o = true) (pc:(!bZ a || np b) = true) (ha:PE X y (tE X.K cx a)) (hb:PE X z (tE X.K cx b)):PE X (.BinOp y o z pos) (tE X.K cx (.bin op a b)):=by
 intro pins s σ H Q I h;obtain ⟨G,F,δ,d,δ',ok,ev,post⟩:=h;simp only [evE,ae,ab] at ev;obtain ⟨⟨x,δ1⟩,ea,⟨y',δ2⟩,eb,d',hd,e⟩:=ev;cases e;dsimp only at eb hd post;have fin:∀ v H2 F2,Step G F H F2 H2->((np a && np b) = true->Sim H H2)->Ok X.K G F2 σ H2 δ2->Rel X.K H2 F2 d v->Q v H2:=λv H2 F2 st sm ok2 r=>post v H2 F2 st sm ok2 r;cases op<;>cases o<;>first | (exact absurd ho au) | skip
 . refine uV (JS.or (wK.or (GG.or (GI.or GH)))) ha hb pins s σ H Q I (two ok ea eb pc λv u H2 F2 st sm ok2 r1 r2=>?_);change KY x y' = some d at hd;unfold KY at hd;split at hd
   . cases hd;have e1:=r1.b.int;have e2:=r2.b.int;subst e1;subst e2;exact .inl ⟨_,_,rfl,rfl,fin _ _ _ st sm ok2 (eA _)⟩
   . split at hd
     . cases hd;have e1:=r1.b.str;have e2:=r2.b.str;subst e1;subst e2;exact .inr (.inl ⟨_,_,rfl,rfl,‹_›,fin _ _ _ st sm ok2 (iI _)⟩)
     . cases hd
   . cases hd;obtain ⟨p1,xs1,e1,s1,l1⟩:=r1.b.tup;obtain ⟨p2,xs2,e2,s2,l2⟩:=r2.b.tup;subst e1;subst e2;unfold aK at l1;subst l1;refine .inr (.inr (.inr (.inl ⟨p1,p2,xs2,rfl,rfl,s1,s2,fin _ _ _ st sm ok2 ?_⟩)));unfold Rel;exact ⟨p2,xs2,rfl,s2,l2⟩
   . split at hd
     . rename_i q;cases hd;obtain ⟨p1,xs1,e1,s1,l1⟩:=r1.b.tup;obtain ⟨p2,xs2,e2,s2,l2⟩:=r2.b.tup;subst e1;subst e2;refine .inr (.inr (.inl ⟨p1,p2,xs1,xs2,rfl,rfl,s1,s2,λz=>?_,by rw [l1.length,l2.length];exact q,λz=>?_,λ_ p hp=>?_⟩))
       . have:=l1.length;rw [z] at this;cases this
       . refine fin _ _ _ st sm ok2 ?_;have e:∀ {ys:List D},aK X.K H2 F2 ys xs2->ys = []:=λ{ys} r=>by have:=r.length;rw [z] at this;exact jP.mp this.symm
         have:=e l2;subst this;rw [bA];unfold Rel;exact ⟨p1,xs1,rfl,s1,l1⟩
       . obtain ⟨o1,o2,o3,o4⟩:=ok2.laid hp (.tup (xs1++xs2));exact fin _ _ _ (st.trans o2) (λz=>(sm z).trans o3) o1 (lC ok2 hp (l1.append l2))
     . cases hd
   . split at hd
     . rename_i q;cases hd;obtain ⟨p1,xs1,e1,s1,l1⟩:=r1.b.lst;obtain ⟨p2,xs2,e2,s2,l2⟩:=r2.b.lst;subst e1;subst e2;refine .inr (.inr (.inr (.inr ⟨p1,p2,xs1,xs2,rfl,rfl,s1,s2,by rw [l1.length,l2.length];exact q,λp hp=>?_⟩)));obtain ⟨o1,o2,o3,o4⟩:=ok2.laid hp (.lst (xs1++xs2));exact fin _ _ _ (st.trans o2) (λz=>(sm z).trans o3) o1 (lD ok2 hp (l1.append l2))
     . cases hd
   . cases hd
 . refine uV JM ha hb pins s σ H Q I (two ok ea eb pc λv u H2 F2 st sm ok2 r1 r2=>?_);change IW x y' = some d at hd;unfold IW at hd;split at hd<;>first | (cases hd;done) | skip
   cases hd;have e1:=r1.b.int;have e2:=r2.b.int;subst e1;subst e2;exact ⟨_,_,rfl,rfl,fin _ _ _ st sm ok2 (eA _)⟩
 . refine uV (GF.or GD) ha hb pins s σ H Q I (two ok ea eb pc λv u H2 F2 st sm ok2 r1 r2=>?_);change Kd x y' = some d at hd;unfold Kd at hd;split at hd<;>first | (cases hd;done) | skip
   . split at hd
     . rename_i q;cases hd;have e1:=r1.b.int;have e2:=r2.b.int;subst e1;subst e2;refine .inl ⟨_,_,rfl,rfl,?_,fin _ _ _ st sm ok2 (eA _)⟩;exact GQ q
     . cases hd
   . split at hd
     . rename_i q;cases hd;have e1:=r1.b.str;have e2:=r2.b.int;subst e1;subst e2;exact .inr ⟨_,_,rfl,rfl,q,fin _ _ _ st sm ok2 (iI _)⟩
     . cases hd
 . refine uV JO ha hb pins s σ H Q I (two ok ea eb pc λv u H2 F2 st sm ok2 r1 r2=>?_);change Ke x y' = some d at hd;unfold Ke at hd;split at hd<;>first | (cases hd;done) | skip
   split at hd
   . rename_i q;cases hd;have e1:=r1.b.int;have e2:=r2.b.int;subst e1;subst e2;exact ⟨_,_,rfl,rfl,q,fin _ _ _ st sm ok2 (eA _)⟩
   . cases hd
 . refine uV CS ha hb pins s σ H Q I (two ok ea eb pc λv u H2 F2 st sm ok2 r1 r2=>?_);change DV x y' = some d at hd;unfold DV at hd;split at hd<;>first | (cases hd;done) | skip
   split at hd
   . rename_i q;cases hd;have e1:=r1.b.int;have e2:=r2.b.int;subst e1;subst e2;exact ⟨_,_,rfl,rfl,q,fin _ _ _ st sm ok2 (eA _)⟩
   . cases hd
end
end PP
end
section
namespace PP
open PySem L2 PySem.SeqAt PyProof.Rows PySem.W
variable [Tbs]
def jv (h:sortable ds = true):ds.length < 64/\(∀ x∈ds,bG x≠0/\bG x = bG (ds.getD 0 .non))/\∀ x∈ds,∀ y∈ds,∃ k,kS x y = some k:=by
 unfold sortable at h;simp only [aa,cX,decide_eq_true_eq] at h;obtain ⟨⟨h1,h2⟩,h3⟩:=h;refine ⟨h1,λx hx=>?_,λx hx y hy=>ja.mp (h3 x hx y hy)⟩;have:=h2 x hx;exact ⟨by simpa using this.1,by simpa using this.2⟩
def zU (ds:List D):(pJ ds).length = ds.length:=by
 unfold pJ;by_cases h:ds.length < 2
 . rw [if_pos h]
 . rw [if_neg h,aB,(nv ds.length).length_eq,oy]
def qx {K:PySem.W.Frag} {H:Hp} {F:aq->Prop} {ds:List D} {xs:List V} (r:aK K H F ds xs):∀ (is:List Nat),(∀ i∈is,i < ds.length)->aK K H F (is.map λi=>ds.getD i .non) (is.map λi=>xs.getD i .non)
 | [],_=>aK.nil
 | i::is,h=>by
   have hi:=h i ak;obtain ⟨v,hv,rv⟩:=r.get (i:=i) (d:=ds.getD i .non) (by simp [hi]);have e:xs.getD i .non = v:=by simp [hv]
   rw [aN,aN,e];exact aK.cons rv (qx r is λj hj=>h j (aj _ hj))
def qw (r:Vals xs us):∀ (is:List Nat),(∀ i∈is,i < xs.length)->Vals (is.map λi=>xs.getD i .non) (is.map λi=>us.getD i bT)
 | [],_=>.nil
 | i::is,h=>by
   have hi:=h i ak;obtain ⟨u,hu,ru⟩:=r.get (i:=i) (x:=xs.getD i .non) (by simp [hi]);have e:us.getD i bT = u:=by simp [hu]
   rw [aN,aN,e];exact .cons ru (qw r is λj hj=>h j (aj _ hj))
def DE {M:nX} {A:bo} {E:af->ai->Prop} {s:ai} {ds:List D} {us:List af} (r:RdL s.heap ds us) (hk:∀ x∈ds,bG x≠0/\bG x = bG (ds.getD 0 .non)) (h2:2<=us.length) {Q:cH->ai->Prop}
 (q:Q (if bG (ds.getD 0 .non) < 3 then oneType' else tuples' true) s):wpAny M A (keyKind' us.toArray) Q E s:=by
 have hl:=r.length
 have all:∀ v∈us,∃ d∈ds,RdV s.heap d v:=by
  have:∀ (ds:List D) (us:List af),RdL s.heap ds us->∀ v∈us,∃ d∈ds,RdV s.heap d v:=by
   intro ds
   induction ds with
   | nil=>intro us r v hv;unfold RdL at r;subst r;cases hv
   | cons d ds ih =>
     intro us r v hv;unfold RdL at r;obtain ⟨w,ws,rfl,r1,r2⟩:=r;rcases aC.mp hv with rfl | hv
     . exact ⟨d,ak,r1⟩
     . obtain ⟨d',h1,h2⟩:=ih ws r2 v hv;exact ⟨d',aj _ h1,h2⟩
  exact this ds us r
 generalize hn:bG (ds.getD 0 .non) = n at hk q
 have tups:∀ (T:af) (P:D->Prop),(∀ d,P d->∀ u,RdV s.heap d u->Looks M s.heap (typeOf u) T)->(∀ x∈ds,∃ y r,x = .tup (y::r)/\P y)->∃ fs,KatTups s.heap us fs/\fs.length = us.length/\∀ v∈fs,Looks M s.heap (typeOf v) T:=by
  intro T P hP hx
  have:∀ (ds:List D) (us:List af),RdL s.heap ds us->(∀ x∈ds,∃ y r,x = .tup (y::r)/\P y)->∃ fs,KatTups s.heap us fs/\fs.length = us.length/\∀ v∈fs,Looks M s.heap (typeOf v) T:=by
   intro ds
   induction ds with
   | nil=>intro us r _;unfold RdL at r;subst r;exact ⟨[],KatTups.nil,rfl,λv hv=>by cases hv⟩
   | cons d ds ih =>
     intro us r hx;unfold RdL at r;obtain ⟨w,ws,rfl,r1,r2⟩:=r;obtain ⟨fs,f1,f2,f3⟩:=ih ws r2 λx h=>hx x (aj _ h);obtain ⟨y,rr,rfl,py⟩:=hx d ak;unfold RdV at r1;obtain ⟨a,its,rfl,⟨o,h1,hc,m,hd⟩,h3⟩:=r1;unfold RdL at h3;obtain ⟨f,fr,e,g1,g2⟩:=h3;refine ⟨f::fs,KatTups.cons h1 hc hd ?_ f1,by simp [f2],λv hv=>?_⟩
     . have:its.toList[0]? = some f:=by rw [e];rfl
       simpa using this
     . rcases aC.mp hv with rfl | hv
       . exact hP y py _ g1
       . exact f3 v hv
  exact this ds us r hx
 match n,hk,q with
 | 0,hk,q =>
   obtain ⟨x,hx⟩:∃ x,x∈ds:=by
    cases ds with
    | nil=>rw [hl] at h2;simp at h2
    | cons x r=>exact ⟨x,ak⟩
   exact absurd (hk x hx).2 (hk x hx).1
 | 1,hk,q =>
   refine kas_kind (T:=.type "str") h2 (λv hv=>?_) ⇑0 ⇑0 q;obtain ⟨d,hd,rd⟩:=all v hv;have:=(hk d hd).2;cases d<;>first | (simp [bG] at this;done) | skip
   . unfold RdV at rd;obtain ⟨t,rfl⟩:=rd;exact lW rfl
   . rename_i l;cases l with
     | nil=>simp [bG] at this
     | cons x r=>cases x<;>simp [bG] at this
 | 2,hk,q =>
   refine kas_kind (T:=.type "int") h2 (λv hv=>?_) ⇑0 ⇑0 q;obtain ⟨d,hd,rd⟩:=all v hv;have:=(hk d hd).2;cases d<;>first | (simp [bG] at this;done) | skip
   . unfold RdV at rd;obtain ⟨t,rfl⟩:=rd;exact lW rfl
   . rename_i l;cases l with
     | nil=>simp [bG] at this
     | cons x r=>cases x<;>simp [bG] at this
 | 3,hk,q =>
   obtain ⟨fs,f1,f2,f3⟩:=tups (.type "str") (λy=>∃ x,y = .str x) (λd ⟨x,e⟩ u rd=>by subst e;unfold RdV at rd;obtain ⟨t,rfl⟩:=rd;exact lW rfl) λx hx=>by
    have:=(hk x hx).2;cases x<;>first | (simp [bG] at this;done) | skip
    rename_i l;cases l with
    | nil=>simp [bG] at this
    | cons x r=>cases x<;>first | (simp [bG] at this;done) | exact ⟨_,_,rfl,_,rfl⟩
   exact kat_kind f1 ∅ f3 ⇑0 q
 | 4,hk,q =>
   obtain ⟨fs,f1,f2,f3⟩:=tups (.type "int") (λy=>∃ x,y = .int x) (λd ⟨x,e⟩ u rd=>by subst e;unfold RdV at rd;obtain ⟨t,rfl⟩:=rd;exact lW rfl) λx hx=>by
    have:=(hk x hx).2;cases x<;>first | (simp [bG] at this;done) | skip
    rename_i l;cases l with
    | nil=>simp [bG] at this
    | cons x r=>cases x<;>first | (simp [bG] at this;done) | exact ⟨_,_,rfl,_,rfl⟩
   exact kat_kind f1 ∅ f3 ⇑0 q
 | m+5,hk,q =>
   obtain ⟨x,hx⟩:∃ x,x∈ds:=by
    cases ds with
    | nil=>rw [hl] at h2;simp at h2
    | cons x r=>exact ⟨x,ak⟩
   have:=(hk x hx).2;exfalso;cases x<;>first | (simp [bG] at this;done) | skip
   rename_i l;cases l with
   | nil=>simp [bG] at this
   | cons x r=>cases x<;>simp [bG] at this
def tH:∀ {ds:List D},(∀ x∈ds,dep x < 100000)->cO ds < 100000
 | [],_=>by unfold cO;lia
 | d::ds,h=>by
   have h1:=h d ak;have h2:=tH λx hx=>h x (aj _ hx);unfold cO
   lia
def sh (hs:sortable ds = true):cO ds < 100000:=by
 obtain ⟨_,_,hlt⟩:=jv hs;refine tH λx hx=>?_;obtain ⟨b,hb⟩:=hlt x hx x hx;unfold kS at hb;split at hb
 . lia
 . cases hb
def MS {prog:bp} {w:bQ} {A A':bo} {s:ai} {h':cg} {ds:List D} {its:List af} (hu:A.units+200 < cLine) (hA:A'.units<=A.units+2) (rd:RdL s.heap ds its) (l3:its.length = ds.length) (hs:sortable ds = true)
 (k:∀ b o,s.heap.get? b = some o->h'.get? b = some o) (i j:Nat) (hi:i < its.length) (hj:j < its.length) (C:Bool->ai->Prop) (c:C (mF ds i j) { s with heap:=h' }) :
 kas_ask prog w A' (if bG (ds.getD 0 .non) < 3 then oneType' else tuples' true) its i j C { s with heap:=h' }:=by
 obtain ⟨h64,hk,hlt⟩:=jv hs
 have mem:∀ i,i < its.length->ds.getD i .non∈ds:=λi hi=>by
  have:i < ds.length:=by lia
  rw [dK,aE this];exact jQ this
 obtain ⟨b,hb⟩:=hlt _ (mem i hi) _ (mem j hj);have eb:mF ds i j = b:=by unfold mF;rw [hb];rfl
 rw [eb] at c;have ri:=RdV.keep k _ _ (RdL.nth i rd ∅);have rj:=RdV.keep k _ _ (RdL.nth j rd ∅);have ki:=hk _ (mem i hi);have kj:=hk _ (mem j hj);unfold kS at hb;split at hb
 . rename_i hd;unfold kas_ask;generalize ds.getD i .non = x at ri hb hd ki;generalize ds.getD j .non = y at rj hb hd kj;generalize its.getD i bT = u at ri;generalize its.getD j bT = v at rj;generalize bG (ds.getD 0 .non) = n0 at ki kj;by_cases h3:n0 < 3
   . rw [if_pos h3,keyLt'_oneType];refine CT (s:={ s with heap:=h' }) ri rj ?_ hb c;have:=ki.1;have k1:n0 = 1\/n0 = 2:=by lia
     rcases k1 with k1 | k1
     . exact .inl ⟨∅,∅⟩
     . exact .inr ⟨∅,∅⟩
   . rw [if_neg h3]
     have tx:∀ z:D,bG z = n0->∃ p r,z = .tup (p::r)/\((n0 = 3/\bG p = 1)\/(n0 = 4/\bG p = 2)):=λz hz=>by
      cases z<;>first | (simp [bG] at hz;lia) | skip
      rename_i l
      cases l with
      | nil=>simp [bG] at hz;lia
      | cons p r=>cases p<;>first | (simp [bG] at hz;lia) | exact ⟨_,_,rfl,by simp [bG] at hz |-;lia⟩
     obtain ⟨p1,r1,rfl,w1⟩:=tx x ki.2;obtain ⟨p2,r2,rfl,w2⟩:=tx y kj.2;unfold RdV at ri rj;obtain ⟨a1,i1,rfl,⟨o1,g1,c1,m1,d1⟩,t1⟩:=ri;obtain ⟨a2,i2,rfl,⟨o2,g2,c2,m2,d2⟩,t2⟩:=rj;have z1:i1.size = (p1::r1).length:=by simpa using t1.length
     have z2:i2.size = (p2::r2).length:=by simpa using t2.length
     unfold ltD at hb;unfold dep at hd;refine kat_lt (s:={ s with heap:=h' }) g1 d1 g2 d2 (qh (s:={ s with heap:=h' }) (p1::r1) (p2::r2) i1.toList i2.toList 0 t1 t2 ∅ hb (by rw [z1,z2]) (λ_ x y hx hy=>?_) c);cases hx;cases hy;rcases w1 with ⟨e,w1⟩ | ⟨e,w1⟩<;>rcases w2 with ⟨e',w2⟩ | ⟨e',w2⟩<;>first | (exact .inl ⟨w1,w2⟩) | (exact .inr ⟨w1,w2⟩) | lia
 . cases hb
def tR {X:Cx} (hu:X.A.units+200 < cLine):dG X (.builtin "sorted") (λxs H Q=>∃ F ds v,xs = [v]/\dI X.K H F (.lst ds) v/\sortable ds = true/\∀ p ys,H p = none->aK X.K H F (pJ ds) ys->Q (.ref p) (upd H p (.lst ys))):=by
 intro pins s σ H xs us Q I r h;obtain ⟨F,ds,v,rfl,rb,hs,q⟩:=h;obtain ⟨a,ws,rfl,hl,rl⟩:=rb.lst;obtain ⟨u,rfl,rx⟩:=vals1 r;cases rx;obtain ⟨its,n,rv,ho,hz⟩:=hl.obj I;obtain ⟨h64,hk,hlt⟩:=jv hs;have rd:=nB I ds ws its rl rv (sh hs);have l1:=rl.length;have l2:=rv.length;have l3:its.length = ds.length:=by lia
 have isl:s.heap.IsList a its.toArray:=⟨_,ho,rfl,n,rfl⟩;have out:iJ (mF ds) its = (if its.length < 2 then its else (ans (mF ds) (kas_sort its.length)).toList.map λi=>its.getD i bT):=rfl
 have hlen:(iJ (mF ds) its).length = its.length:=by
  rw [out];by_cases h:its.length < 2
  . rw [if_pos h]
  . rw [if_neg h,aB,(nv its.length).length_eq,oy]
 have small:∀ i∈(ans (mF ds) (kas_sort its.length)).toList,i < its.length:=λi hi=>by simpa using (nv its.length).mem_iff.mp hi
 -- the values in their new places
 have hv:∃ ys,Vals ys (iJ (mF ds) its)/\aK X.K H F (pJ ds) ys:=by
  rw [out];unfold pJ;by_cases h:its.length < 2
  . rw [if_pos h,if_pos ∅];exact ⟨ws,rv,rl⟩
  . rw [if_neg h,if_neg ∅,<- l3];exact ⟨_,qw rv _ λi hi=>by rw [l2];exact small i hi,qx rl _ λi hi=>by rw [<- l3];exact small i hi⟩
 obtain ⟨ys,vy,ry⟩:=hv;refine zS (lt:=mF ds) (κ:=if bG (ds.getD 0 .non) < 3 then oneType' else tuples' true) isl ∅ hlen (λh2 A' h' hA k C c=>?_) (λA' h' hA k i j hi hj C c=>?_) ?_
 . exact DE (s:={ s with heap:=h' }) (RdL.keep k ds its rd) hk h2 c
 . exact MS hu hA rd l3 hs k i j hi hj C c
 . obtain ⟨e,he⟩:=sortedAll_at s.heap its (iJ (mF ds) its).toArray;refine ⟨.ref (s.heap.objs.size+1),upd H (s.heap.objs.size+1) (.lst ys),I.laid (t':=s.toks) (λb u hb=>sortedAll_old hb) (eV _) ⟨?_,_,e,vy,he⟩,rfl,q _ _ (I.hok.fresh (eV _)) ry⟩;rw [ry.length,zU,fY]
   lia
end PP
end
section
namespace PP
open PySem PySem.W PyProof.Rows
section
variable {prog:bp} {w:bQ} {A:bo} {E:af->ai->Prop} {s:ai}
end
end PP
end
section
namespace PP
open PySem L2 PySem.SeqAt PyProof.Rows PySem.W
variable [Tbs]
end PP
end
section
namespace PP
open PySem L2 PyProof.Rows PySem.SeqAt PySem.Calls
section
variable {prog:bp} {w:bQ} {A:bo} {R:EI->ai->Prop} {I:aq} {fp wr:List aq} {n:Nat} {P:Nat->af->Prop} {St:Nat->cg->Prop}
end
end PP
end
section
namespace PP
open PySem L2 PyProof.Rows
variable [Tbs]
section
variable {K:PySem.W.Frag} {cx:Cl} {X:Cx}
def gk (r:Rel K H F d v):RelM false K H F d v:=r
def rC (K:PySem.W.Frag) (op:Cop):R2:=λx y H Q=>∃ F a b k,dI K H F a x/\dI K H F b y/\vD op a b = some k/\Q (.bl k) H
def JK (h:JL p a b = some k):∃ i j,a = .int i/\b = .int j/\k = p i j:=by
 unfold JL at h;split at h
 . cases h;exact ⟨_,_,rfl,rfl,rfl⟩
 . cases h
def HR (h:inD a b = some k):(∃ ds,(b = .lst ds\/b = .tup ds)/\(dep a<=150/\cO ds < 99999)/\k = ds.any λy=>eqD y a)\/∃ x y,a = .str x/\b = .str y/\k = JZ y x:=by
 unfold inD at h;split at h
 . split at h
   . cases h;exact .inl ⟨_,.inl rfl,‹_›,rfl⟩
   . cases h
 . split at h
   . cases h;exact .inl ⟨_,.inr rfl,‹_›,rfl⟩
   . cases h
 . split at h
   . cases h;exact .inr ⟨_,_,rfl,rfl,rfl⟩
   . cases h
 . cases h
def sH:OpR X (compareOp .NotIn) (λx y H Q=>∃ i j,x = .str i/\y = .str j/\Q (.bl (!JZ j i)) H):=by
 intro pins s σ H x y v u Q I rx ry h;obtain ⟨i,j,rfl,rfl,q⟩:=h;obtain ⟨t,rfl⟩:=rx;obtain ⟨t',rfl⟩:=ry;exact PySem.P.notIn_str ⟨.bl _,H,I,rfl,q⟩
def OpR.imp (h:OpR X f r) (w:∀ x y H Q,r' x y H Q->r x y H Q):OpR X f r':=λpins s σ H x y v u Q I rx ry q=>h pins s σ H x y v u Q I rx ry (w _ _ _ _ q)
def opC (hu:X.A.units+200 < cLine) (ho:yV op o = true):OpR X (compareOp o) (rC X.K op):=by
 cases op<;>cases o<;>first | (exact absurd ho au) | skip
 . exact OpR.imp (JP hu) λx y H Q ⟨F,a,b,k,ra,rb,e,q⟩=>⟨F,a,b,k,ra,rb,e,q⟩
 . refine OpR.imp Mn λx y H Q zz=>?_;obtain ⟨F,a,b,k,ra,rb,e,q⟩:=zz;obtain ⟨i,j,rfl,rfl,rfl⟩:=JK e;exact ⟨i,j,ra.int,rb.int,q⟩
 . refine OpR.imp ((JR hu).or Mp) λx y H Q zz=>?_;obtain ⟨F,a,b,k,ra,rb,e,q⟩:=zz;change (if iB a b = true then some (eqD a b) else if Mw a b = true then some false else none) = some k at e;split at e
   . cases e;exact .inl ⟨F,a,b,ra,rb,‹_›,q⟩
   . split at e
     . rename_i hm;cases e;cases a<;>cases b<;>first | (cases hm;done) | skip
       . rw [ra.int,rb.str];exact .inr ⟨rfl,q⟩
       . rw [ra.str,rb.int];exact .inr ⟨rfl,q⟩
     . cases e
 . refine OpR.imp (JN hu) λx y H Q zz=>?_;obtain ⟨F,a,b,k,ra,rb,e,q⟩:=zz;change (if iB a b = true then some (!eqD a b) else none) = some k at e;split at e
   . cases e;exact ⟨F,a,b,ra,rb,‹_›,q⟩
   . cases e
 . intro pins s σ H x y v u Q I rx ry h;obtain ⟨F,a,b,k,ra,rb,e,q⟩:=h;rcases HR e with ⟨ds,hb,hd,rfl⟩ | ⟨x',y',rfl,rfl,rfl⟩
   . refine JQ hu pins s σ H x y v u Q I rx ry ⟨F,a,ds,ra,?_,hd,q⟩;rcases hb with rfl | rfl
     . exact .inl rb
     . exact .inr rb
   . exact Al pins s σ H x y v u Q I rx ry ⟨x',y',ra.str,rb.str,q⟩
 . intro pins s σ H x y v u Q I rx ry h;obtain ⟨F,a,b,k,ra,rb,e,q⟩:=h;change (inD a b).map (!·) = some k at e;rw [aQ] at e;obtain ⟨k',e,rfl⟩:=e;rcases HR e with ⟨ds,hb,hd,rfl⟩ | ⟨x',y',rfl,rfl,rfl⟩
   . refine Ak hu pins s σ H x y v u Q I rx ry ⟨F,a,ds,ra,?_,hd,q⟩;rcases hb with rfl | rfl
     . exact .inl rb
     . exact .inr rb
   . exact sH pins s σ H x y v u Q I rx ry ⟨x',y',ra.str,rb.str,q⟩
def KH (ev:evE cx (.cmp op a b) δ = some (d,δ')):∃ x δ1 y k,evE cx a δ = some (x,δ1)/\evE cx b δ1 = some (y,δ')/\vD op x y = some k/\d = .bl k:=by
 simp only [evE,ae,ab] at ev;obtain ⟨⟨x,δ1⟩,ea,⟨y',δ2⟩,eb,k,hd,e⟩:=ev;cases e;exact ⟨x,δ1,y',k,ea,eb,hd,rfl⟩
def Hn (ev:evT cx (.cmp op a b) δ = some (k,δ')):∃ x δ1 y,evE cx a δ = some (x,δ1)/\evE cx b δ1 = some (y,δ')/\vD op x y = some k:=by
 simp only [evT,ae,ab] at ev;obtain ⟨⟨x,δ1⟩,ea,⟨y',δ2⟩,eb,k,hd,e⟩:=ev;cases e;exact ⟨x,δ1,y',ea,eb,hd⟩
def FT (hu:X.A.units+200 < cLine) (ho:yV op o = true) (pc:(!bZ a || np b) = true) (ha:PE X y (tE X.K cx a)) (hb:PE X z (tE X.K cx b)) (hm:behindInMarks o z = false) :
 PE X (.Compare y [o] [z] pos) (tE X.K cx (.cmp op a b)):=by
 refine PE.imp (Gy (opC hu ho) ha hb hm) λσ H Q h=>?_;obtain ⟨G,F,δ,d,δ',ok,ev,post⟩:=h;obtain ⟨x,δ1,y',k,ea,eb,hd,rfl⟩:=KH ev;exact two ok ea eb pc λv u H2 F2 st sm ok2 r1 r2=>⟨F2,x,y',k,r1.b,r2.b,hd,post _ H2 F2 st sm ok2 (gk (lE k))⟩
def Cb (hu:X.A.units+200 < cLine) (ho:yV op o = true) (pc:(!bZ a || np b) = true) (ha:PE X y (tE X.K cx a)) (hb:PE X z (tE X.K cx b)) (hm:behindInMarks o z = false) :
 PT X (.Compare y [o] [z] pos) (tT X.K cx (.cmp op a b)):=by
 refine PT.imp (Gp (opC hu ho) ha hb hm) λσ H Q h=>?_;obtain ⟨G,F,δ,k,δ',ok,ev,post⟩:=h;obtain ⟨x,δ1,y',ea,eb,hd⟩:=Hn ev;exact two ok ea eb pc λv u H2 F2 st sm ok2 r1 r2=>⟨F2,x,y',k,r1.b,r2.b,hd,k,rfl,post H2 F2 st sm ok2⟩
def eY (n:(!bZ e) = true) (h:RelM (bZ e) K H F d v):Rel K H F d v:=by
 have e1:bZ e = false:=by simpa using n
 rw [e1] at h;exact h
def snd_and (na:(!bZ a) = true) (nb:(!bZ b) = true) (ha:PE X y (tE X.K cx a)) (hb:PE X (.BoolOp .And (z::r) pos) (tE X.K cx b)):PE X (.BoolOp .And (y::z::r) pos) (tE X.K cx (.and a b)):=by
 refine PE.imp (JI ha hb) λσ H Q h=>?_;obtain ⟨G,F,δ,d,δ',ok,ev,post⟩:=h;simp only [evE,ae,ab] at ev;obtain ⟨⟨x,δ1⟩,ea,ev⟩:=ev;refine ⟨G,F,δ,x,δ1,ok,ea,λv H1 F1 st1 sm1 ok1 r1=>?_⟩;replace r1:=eY na r1;have np1:np (.and a b) = (np a && np b):=rfl
 cases x with
 | bl k =>
   unfold Rel at r1;refine ⟨k,r1,?_⟩
   cases k with
   | true =>
     rw [if_pos rfl];refine ⟨G,F1,δ1,d,δ',ok1,ev,λu H2 F2 st2 sm2 ok2 r2=>post u H2 F2 (st1.trans st2) (λn=>?_) ok2 (gk (eY nb r2))⟩;rw [np1,aa] at n
     exact (sm1 n.1).trans (sm2 n.2)
   | false =>
     rw [if_neg au];cases ev
     exact post _ H1 F1 st1 (λn=>by rw [np1,aa] at n;exact sm1 n.1) ok1 (gk (lE false))
 | _=>cases ev
def BS (na:(!bZ a) = true) (nb:(!bZ b) = true) (ha:PE X y (tE X.K cx a)) (hb:PE X (.BoolOp .Or (z::r) pos) (tE X.K cx b)):PE X (.BoolOp .Or (y::z::r) pos) (tE X.K cx (.or a b)):=by
 refine PE.imp (Me ha hb) λσ H Q h=>?_;obtain ⟨G,F,δ,d,δ',ok,ev,post⟩:=h;simp only [evE,ae,ab] at ev;obtain ⟨⟨x,δ1⟩,ea,ev⟩:=ev;refine ⟨G,F,δ,x,δ1,ok,ea,λv H1 F1 st1 sm1 ok1 r1=>?_⟩;replace r1:=eY na r1;have np1:np (.or a b) = (np a && np b):=rfl
 cases x with
 | bl k =>
   unfold Rel at r1;refine ⟨k,r1,?_⟩
   cases k with
   | false =>
     rw [if_neg au];refine ⟨G,F1,δ1,d,δ',ok1,ev,λu H2 F2 st2 sm2 ok2 r2=>post u H2 F2 (st1.trans st2) (λn=>?_) ok2 (gk (eY nb r2))⟩;rw [np1,aa] at n
     exact (sm1 n.1).trans (sm2 n.2)
   | true =>
     rw [if_pos rfl];cases ev
     exact post _ H1 F1 st1 (λn=>by rw [np1,aa] at n;exact sm1 n.1) ok1 (gk (lE true))
 | _=>cases ev
def FK (na:(!bZ a) = true) (ha:PE X y (tE X.K cx a)):PE X (.UnaryOp .Not y pos) (tE X.K cx (.not a)):=by
 refine PE.imp (JE ha) λσ H Q h=>?_;obtain ⟨G,F,δ,d,δ',ok,ev,post⟩:=h;simp only [evE,ae,ab] at ev;obtain ⟨⟨x,δ1⟩,ea,ev⟩:=ev;refine ⟨G,F,δ,x,δ1,ok,ea,λv H1 F1 st1 sm1 ok1 r1=>?_⟩;replace r1:=eY na r1
 cases x with
 | bl k =>
   unfold Rel at r1;cases ev
   exact ⟨k,r1,post _ H1 F1 st1 sm1 ok1 (gk (lE _))⟩
 | _=>cases ev
def PT.pw (h:PT X (.BoolOp op vs pos) t):PW X (.BoolOp op vs pos) t:=λ_ pins s σ H Q I q=>h pins s σ H Q I q
def uJ (ha:PT X y (tT X.K cx a)) (hb:PW X (.BoolOp .And (z::r) pos) (tT X.K cx b)):PT X (.BoolOp .And (y::z::r) pos) (tT X.K cx (.and a b)):=by
 refine PT.imp (Jt ha hb).pt λσ H Q h=>?_;obtain ⟨G,F,δ,d,δ',ok,ev,post⟩:=h;simp only [evT,ae,ab] at ev;obtain ⟨⟨k,δ1⟩,ea,ev⟩:=ev;have np1:np (.and a b) = (np a && np b):=rfl;refine ⟨G,F,δ,k,δ1,ok,ea,λH1 F1 st1 sm1 ok1=>?_⟩
 cases k with
 | true =>
   rw [if_pos rfl];refine ⟨G,F1,δ1,d,δ',ok1,ev,λH2 F2 st2 sm2 ok2=>post H2 F2 (st1.trans st2) (λn=>?_) ok2⟩;rw [np1,aa] at n
   exact (sm1 n.1).trans (sm2 n.2)
 | false =>
   rw [if_neg au];cases ev;exact post H1 F1 st1 (λn=>by rw [np1,aa] at n;exact sm1 n.1) ok1
def xQ (ha:PT X y (tT X.K cx a)) (hb:PW X (.BoolOp .Or (z::r) pos) (tT X.K cx b)):PT X (.BoolOp .Or (y::z::r) pos) (tT X.K cx (.or a b)):=by
 refine PT.imp (LY ha hb).pt λσ H Q h=>?_;obtain ⟨G,F,δ,d,δ',ok,ev,post⟩:=h;simp only [evT,ae,ab] at ev;obtain ⟨⟨k,δ1⟩,ea,ev⟩:=ev;have np1:np (.or a b) = (np a && np b):=rfl;refine ⟨G,F,δ,k,δ1,ok,ea,λH1 F1 st1 sm1 ok1=>?_⟩
 cases k with
 | false =>
   rw [if_neg au];refine ⟨G,F1,δ1,d,δ',ok1,ev,λH2 F2 st2 sm2 ok2=>post H2 F2 (st1.trans st2) (λn=>?_) ok2⟩;rw [np1,aa] at n
   exact (sm1 n.1).trans (sm2 n.2)
 | true =>
   rw [if_pos rfl];cases ev;exact post H1 F1 st1 (λn=>by rw [np1,aa] at n;exact sm1 n.1) ok1
def BZ (ha:PT X y (tT X.K cx a)):PT X (.UnaryOp .Not y pos) (tT X.K cx (.not a)):=by
 refine PT.imp (Ju ha) λσ H Q h=>?_;obtain ⟨G,F,δ,d,δ',ok,ev,post⟩:=h;simp only [evT,ae,ab] at ev;obtain ⟨⟨k,δ1⟩,ea,ev⟩:=ev;cases ev;exact ⟨G,F,δ,k,δ1,ok,ea,λH1 F1 st1 sm1 ok1=>post H1 F1 st1 sm1 ok1⟩
def FQ (na:(!bZ a) = true) (nb:(!bZ b) = true) (hc:PT X t (tT X.K cx c)) (ha:PE X y (tE X.K cx a)) (hb:PE X z (tE X.K cx b)):PE X (.IfExp t y z pos) (tE X.K cx (.ite c a b)):=by
 refine PE.imp (CQ hc ha hb) λσ H Q h=>?_;obtain ⟨G,F,δ,d,δ',ok,ev,post⟩:=h;simp only [evE,ae,ab] at ev;obtain ⟨⟨k,δ1⟩,ea,ev⟩:=ev;have np1:np (.ite c a b) = (np c && np a && np b):=rfl;refine ⟨G,F,δ,k,δ1,ok,ea,λH1 F1 st1 sm1 ok1=>?_⟩
 cases k with
 | true =>
   rw [if_pos rfl];refine ⟨G,F1,δ1,d,δ',ok1,ev,λu H2 F2 st2 sm2 ok2 r2=>post u H2 F2 (st1.trans st2) (λn=>?_) ok2 (gk (eY na r2))⟩;rw [np1,aa,aa] at n
   exact (sm1 n.1.1).trans (sm2 n.1.2)
 | false =>
   rw [if_neg au];refine ⟨G,F1,δ1,d,δ',ok1,ev,λu H2 F2 st2 sm2 ok2 r2=>post u H2 F2 (st1.trans st2) (λn=>?_) ok2 (gk (eY nb r2))⟩;rw [np1,aa,aa] at n;exact (sm1 n.1.1).trans (sm2 n.2)
def Ok.look (ok:Ok K G F σ H δ) (e:get δ i = some d):∃ v,σ[i]? = some (some v)/\dI K H F d v/\∃ F',Step G F H F' H/\Ok K G F' σ H (PP.demote δ i)/\Rel K H F' d v:=by
 unfold get at e
 cases q:δ[i]? with
 | none=>rw [q] at e;cases e
 | some s =>
   rw [q] at e
   cases s with
   | no=>cases e
   | fnc _ _=>cases e
   | val d' =>
     cases e;obtain ⟨v,e1,r⟩:=ok.sl i _ q;refine ⟨v,e1,.inl r,F,Step.refl,?_,r⟩
     unfold PP.demote;rw [q];exact ok
   | own ds =>
     cases e;obtain ⟨a,xs,e1,h1,h2,h3,h4⟩:=ok.sl i _ q;obtain ⟨o1,o2⟩:=ok.demote (d:=.lst ds) q rfl e1;refine ⟨.ref a,e1,.inr ⟨a,xs,ds,rfl,rfl,h3,h4⟩,λb=>F b/\b≠a,⟨λ_ _ _ z _=>z,λb z=>.inl z.1,λb o r z e=>⟨⟨z,λw=>h2.2 (by rw [<- w];exact r)⟩,e⟩,λ_ ps e=>⟨ps,e⟩⟩,?_,o2⟩;unfold PP.demote;rw [q];exact o1
def Ok.lookV (ok:Ok K G F σ H δ) (e:DQ δ i = some d):∃ v,σ[i]? = some (some v)/\∃ F',Step G F H F' H/\Ok K G F' σ H (PP.demote δ i)/\Rel K H F' d v:=by
 obtain ⟨v,e1,_,h⟩:=ok.look (by unfold DQ at e;exact e);exact ⟨v,e1,h⟩
def FG (hN:X.N[i]? = some x) (hv:Vis X.env.scope x) (hd:(x == ("__debug__":Str)) = false) (hcd:(x == ("__classdict__":Str)) = false):PE X (.Name x pos) (tE X.K cx (.var i)):=by
 refine PE.imp (iX hN hv hd hcd) λσ H Q h=>?_;obtain ⟨G,F,δ,d,δ',ok,ev,post⟩:=h;simp only [evE,ae,ab] at ev;obtain ⟨d',e1,e⟩:=ev;cases e;obtain ⟨v,ev,F',st,ok',r⟩:=ok.lookV e1;exact ⟨v,ev,post v H F' st (λ_=>Sim.refl H) ok' (gk r)⟩
def Ja (hN:X.N[i]? = some x) (hv:Vis X.env.scope x) (hd:(x == ("__debug__":Str)) = false) (hcd:(x == ("__classdict__":Str)) = false):PE X (.Name x pos) (tE X.K cx (.pk i)):=by
 refine PE.imp (iX hN hv hd hcd) λσ H Q h=>?_;obtain ⟨G,F,δ,d,δ',ok,ev,post⟩:=h;simp only [evE,ae,ab] at ev;obtain ⟨d',e1,e⟩:=ev;cases e;obtain ⟨v,ev,rb,_⟩:=ok.look e1;exact ⟨v,ev,post v H F Step.refl (λ_=>Sim.refl H) ok rb⟩
def we (r:dI K H F d v) (e:tv d = some k):KZ K v H k:=by
 cases d with
 | non=>cases e;rcases r with r | ⟨_,_,_,z,_⟩;(unfold Rel at r;subst r;rfl);cases z
 | bl b=>cases e;have:=r.bl;subst this;rfl
 | int i=>cases e;have:=r.int;subst this;rfl
 | str x =>
   change (if x.length<=sizeLine then some ((x.length:Int) != 0) else none) = some k at e;split at e
   . cases e;have:=r.str;subst this;exact ⟨‹_›,rfl⟩
   . cases e
 | lst ds =>
   cases e;obtain ⟨a,xs,rfl,h1,h2⟩:=r.lst;refine .inl ⟨xs,h1.sq,?_⟩;have:=h2.length
   cases ds<;>cases xs<;>first | rfl | (simp at this)
 | tup ds =>
   cases e;obtain ⟨a,xs,rfl,h1,h2⟩:=r.tup;refine .inr ⟨xs,h1,?_⟩;have:=h2.length
   cases ds<;>cases xs<;>first | rfl | (simp at this)
 | fn _ _=>cases e
def uI (he:e = .var i\/e = .pk i) (hN:X.N[i]? = some x) (hv:Vis X.env.scope x) (hd:(x == ("__debug__":Str)) = false) (hcd:(x == ("__classdict__":Str)) = false):PT X (.Name x pos) (tT X.K cx e):=by
 refine PT.imp (pP (iX hN hv hd hcd) λ_=>rfl) λσ H Q h=>?_;obtain ⟨G,F,δ,k,δ',ok,ev,post⟩:=h
 have ev':∃ d,get δ i = some d/\tv d = some k/\δ = δ':=by
  rcases he with rfl | rfl
  . simp only [evT,ae,ab] at ev;obtain ⟨d,e1,k',e2,e⟩:=ev;cases e;exact ⟨d,e1,e2,rfl⟩
  . simp only [evT,ae,ab] at ev;obtain ⟨d,e1,k',e2,e⟩:=ev;cases e;exact ⟨d,e1,e2,rfl⟩
 obtain ⟨d,e1,e2,rfl⟩:=ev';obtain ⟨v,ev,rb,_⟩:=ok.look e1;exact ⟨v,ev,k,we rb e2,post H F Step.refl (λ_=>Sim.refl H) ok⟩
def FR:PE X (.Constant (.int i) j pos) (tE X.K cx (.int i)) :=
 PE.imp JG λσ H Q ⟨G,F,δ,d,δ',ok,ev,post⟩=>by cases ev;exact post _ H F Step.refl (λ_=>Sim.refl H) ok (gk (eA i))
def Jd:PE X (.Constant (.bool i) j pos) (tE X.K cx (.bl i)) :=
 PE.imp Mi λσ H Q ⟨G,F,δ,d,δ',ok,ev,post⟩=>by cases ev;exact post _ H F Step.refl (λ_=>Sim.refl H) ok (gk (lE i))
def FI:PE X (.Constant (.str i) j pos) (tE X.K cx (.str i)) :=
 PE.imp JD λσ H Q ⟨G,F,δ,d,δ',ok,ev,post⟩=>by cases ev;exact post _ H F Step.refl (λ_=>Sim.refl H) ok (gk (iI i))
def FL:PE X (.Constant .none j pos) (tE X.K cx .non) :=
 PE.imp JF λσ H Q ⟨G,F,δ,d,δ',ok,ev,post⟩=>by cases ev;exact post _ H F Step.refl (λ_=>Sim.refl H) ok (gk xU)
def BV (hg:Gl X x) (hm:X.mg x = some u) (r:RelV v u) (hr:∀ d,cx.gl[g]? = some d->∀ H F,Rel X.K H F d v) (hd:(x == ("__debug__":Str)) = false):PE X (.Name x pos) (tE X.K cx (.glob g)):=by
 refine PE.imp (Gx hg hm r hd) λσ H Q h=>?_;obtain ⟨G,F,δ,d,δ',ok,ev,post⟩:=h;simp only [evE,ae,ab] at ev;obtain ⟨d',e1,e⟩:=ev;cases e;exact post v H F Step.refl (λ_=>Sim.refl H) ok (gk (hr d e1 H F))
def FN (n:(!bZ a) = true) (ha:PE X y (tE X.K cx a)):PE X (.UnaryOp .USub y pos) (tE X.K cx (.neg a)):=by
 refine PE.imp (Mc IS ha) λσ H Q h=>?_;obtain ⟨G,F,δ,d,δ',ok,ev,post⟩:=h;simp only [evE,ae,ab] at ev;obtain ⟨⟨x,δ1⟩,ea,ev⟩:=ev
 cases x with
 | int i =>
   cases ev;refine ⟨G,F,δ,_,_,ok,ea,λv H1 F1 st sm ok1 r=>?_⟩;have:=r.b.int;subst this
   exact ⟨i,rfl,post _ H1 F1 st sm ok1 (gk (eA _))⟩
 | _=>cases ev
end
end PP
end
section
namespace PP
open PySem PyProof.Rows
def ij:Bool->ax->Array ax->Nat->Nat->Nat->StateT aZ Sem (Option Nat):=sortPriv% PySem.Builtin.gallop
def qc:Array ax->Array ax->StateT aZ Sem (Array ax):=sortPriv% PySem.Builtin.mergeLo
def qd:Array ax->Array ax->StateT aZ Sem (Array ax):=sortPriv% PySem.Builtin.mergeHi
def beyond (left:Bool) (key:ax) (arr:Array ax) (base i:Nat):StateT aZ Sem (Option Bool):=do
 let x <- elem' arr (base+i)
 if left then lt' x key else return (<- lt' key x).map (!·)
def xj (left:Bool) (key:ax) (arr:Array ax) (base n hint:Nat):ij left key arr base n hint = (do
 let mut lastofs:=0
 let mut ofs:=1
 let mut lo:=0
 let mut hi:=0
 let some right <- beyond left key arr base hint | return none
 if right then
  let maxofs:=n - hint
  for _ in [0:n] do
   if ofs ≥ maxofs then break
   let some more <- beyond left key arr base (hint+ofs) | return none
   if !more then break
   lastofs:=ofs
   ofs:=2 * ofs+1
  lo:=hint+lastofs+1
  hi:=hint+min ofs maxofs
 else
  let maxofs:=hint+1
  for _ in [0:n] do
   if ofs ≥ maxofs then break
   let some found <- beyond left key arr base (hint - ofs) | return none
   if found then break
   lastofs:=ofs
   ofs:=2 * ofs+1
  lo:=hint+1 - min ofs maxofs
  hi:=hint - lastofs
 for _ in [0:n] do
  if lo ≥ hi then break
  let m:=lo+(hi - lo) / 2
  let some more <- beyond left key arr base m | return none
  if more then lo:=m+1 else hi:=m
 return some hi):=rfl
def MD (left:Bool) (key:ax) (arr:Array ax) (base n lo hi:Nat):StateT aZ Sem (Option Nat):=do
 let mut lo:=lo
 let mut hi:=hi
 for _ in [0:n] do
  if lo ≥ hi then break
  let m:=lo+(hi - lo) / 2
  let some more <- beyond left key arr base m | return none
  if more then lo:=m+1 else hi:=m
 return some hi
section
variable {M:nX} {A:bo} {E:af->ai->Prop} {s:ai} {st:aZ}
section
variable {left:Bool} {key:ax} {arr:Array ax} {base n hint:Nat} {B:Nat->Bool} {Q:Option Nat->aZ->Prop}
 (hB:∀ (i:Nat) (Q:Option Bool->aZ->Prop),i < n->Q (some (B i)) st->wpS M A E s (beyond left key arr base i) Q st)
 (mono:∀ i j,i<=j->j < n->B j = true->B i = true)
 (h:∀ k,k<=n->(∀ i,i < k->B i = true)->(∀ i,k<=i->i < n->B i = false)->Q (some k) st)
include hB mono h
theorem yJ {lo hi:Nat} (h1:lo<=hi) (h2:hi<=n) (ht:∀ i,i < lo->B i = true) (hf:∀ i,hi<=i->i < n->B i = false):wpS M A E s (MD left key arr base n lo hi) Q st:=by
 unfold MD
 refine aD (fC (cL (I:=λx c st'=>st' = st/\∃ lo hi,c = (none,lo,hi)/\lo<=hi/\hi<=n/\hi - lo<=n - x/\(∀ i,i < lo->B i = true)/\∀ i,hi<=i->i < n->B i = false)
  (Q:=λc st'=>st' = st/\∃ k,c = (none,k,k)/\k<=n/\(∀ i,i < k->B i = true)/\∀ i,k<=i->i < n->B i = false) ?step ?fin ⟨rfl,lo,hi,rfl,h1,h2,∅,ht,hf⟩) ?post)
 case post =>
  rintro c st' ⟨rfl,k,rfl,a,b,d⟩;exact aV (h k a b d)
 case fin =>
  rintro c st' ⟨rfl,lo,hi,rfl,a1,a2,a3,a4,a5⟩;obtain rfl:lo = hi:=by lia
  exact ⟨rfl,lo,rfl,a2,a4,a5⟩
 case step =>
  rintro x c st' _ hx ⟨rfl,lo,hi,rfl,a1,a2,a3,a4,a5⟩;dsimp only;by_cases hge:lo ≥ hi
  . rw [if_pos hge];obtain rfl:lo = hi:=by lia
    exact aV ⟨rfl,lo,rfl,a2,a4,a5⟩
  . rw [if_neg hge];have hm:lo+(hi - lo) / 2 < hi:=by lia
    refine aD (hB _ _ ∅ ?_)
    cases hb:B (lo+(hi - lo) / 2) with
    | true=>exact aV ⟨rfl,_,hi,rfl,∅,a2,∅,λi hi'=>mono i _ ∅ ∅ hb,a5⟩
    | false =>
      refine aV ⟨rfl,lo,_,rfl,∅,∅,∅,a4,λi h3 h4=>?_⟩
      cases hc:B i with
      | false=>rfl
      | true=>rw [mono _ i h3 h4 hc] at hb;cases hb
theorem Au (hh:hint < n):wpS M A E s (ij left key arr base n hint) Q st:=by
 rw [xj];refine aD (hB hint _ hh ?_);dsimp only
 have nb:∀ {i j:Nat},i<=j->j < n->B i = false->B j = false:=λ{i j} h1 h2 h3=>by
  cases hc:B j with
  | false=>rfl
  | true=>rw [mono i j h1 h2 hc] at h3;cases h3
 cases hq:B hint with
 | true =>
   rw [if_pos rfl]
   refine aD (fC (cL (I:=λx c st'=>st' = st/\∃ l o:Nat,c = (none,l,o)/\hint+l < n/\l < o/\x+1<=o/\B (hint+l) = true)
    (Q:=λc st'=>st' = st/\∃ l o:Nat,c = (none,l,o)/\hint+l < n/\l < o/\B (hint+l) = true/\(o < n - hint->B (hint+o) = false)) ?step ?fin ⟨rfl,0,1,rfl,hh,⇑0,⇑0,hq⟩) ?post)
   case post =>
    rintro c st' ⟨rfl,l,o,rfl,a1,a2,a3,a4⟩;refine yJ hB mono h ∅ ∅ (λi hi=>mono i _ ∅ a1 a3) λi h1 h2=>nb h1 h2 ?_;by_cases ho:o < n - hint
    . rw [show hint+min o (n - hint) = hint+o by lia];exact a4 ho
    . exfalso;lia
   case fin =>
    rintro c st' ⟨rfl,l,o,rfl,a1,a2,a3,a4⟩;exact ⟨rfl,l,o,rfl,a1,a2,a4,λz=>by lia⟩
   case step =>
    rintro x c st' _ hx ⟨rfl,l,o,rfl,a1,a2,a3,a4⟩;dsimp only;by_cases hge:o ≥ n - hint
    . rw [if_pos hge];exact aV ⟨rfl,l,o,rfl,a1,a2,a4,λz=>by lia⟩
    . rw [if_neg hge];refine aD (hB _ _ ∅ ?_)
      cases hb:B (hint+o) with
      | true=>exact aV ⟨rfl,o,_,rfl,∅,∅,∅,hb⟩
      | false=>exact aV ⟨rfl,l,o,rfl,a1,a2,a4,λ_=>hb⟩
 | false =>
   rw [if_neg ⇑0]
   refine aD (fC (cL (I:=λx c st'=>st' = st/\∃ l o:Nat,c = (none,l,o)/\l<=hint/\l < o/\x+1<=o/\B (hint - l) = false)
    (Q:=λc st'=>st' = st/\∃ l o:Nat,c = (none,l,o)/\l<=hint/\l < o/\B (hint - l) = false/\(o < hint+1->B (hint - o) = true)) ?step ?fin ⟨rfl,0,1,rfl,∅,⇑0,⇑0,hq⟩) ?post)
   case post =>
    rintro c st' ⟨rfl,l,o,rfl,a1,a2,a3,a4⟩;refine yJ hB mono h ∅ ∅ (λi hi=>?_) λi h1 h2=>nb h1 h2 a3;by_cases ho:o < hint+1
    . exact mono i (hint - o) ∅ ∅ (a4 ho)
    . exfalso;lia
   case fin =>
    rintro c st' ⟨rfl,l,o,rfl,a1,a2,a3,a4⟩;exact ⟨rfl,l,o,rfl,a1,a2,a4,λz=>by lia⟩
   case step =>
    rintro x c st' _ hx ⟨rfl,l,o,rfl,a1,a2,a3,a4⟩;dsimp only;by_cases hge:o ≥ hint+1
    . rw [if_pos hge];exact aV ⟨rfl,l,o,rfl,a1,a2,a4,λz=>by lia⟩
    . rw [if_neg hge];refine aD (hB _ _ ∅ ?_)
      cases hb:B (hint - o) with
      | true=>exact aV ⟨rfl,l,o,rfl,a1,a2,a4,λ_=>hb⟩
      | false=>exact aV ⟨rfl,o,_,rfl,∅,∅,∅,hb⟩
end
end
abbrev S7:=Option (Array ax) × Array ax × Nat × Nat × Nat × Nat × Nat
abbrev dnL (a b out:Array ax) (ia ib:Nat):Array ax:=out++a.extract ia a.size++b.extract ib b.size
abbrev lsA (a b out:Array ax) (ia ib:Nat):Array ax:=out++b.extract ib b.size++a.extract ia a.size
def ml3 (a b:Array ax) (mg ac ia bc:Nat) (out:Array ax) (ib:Nat):StateT aZ Sem (ForInStep S7):=do
 let p <- elem' a ia
 if (ia+1+1 == a.size) = true then pure (.done (some (lsA a b (out.push p) (ia+1) ib),out.push p,ia+1,ib,mg,ac,bc)) else
 if (decide (ac < 7) && decide (bc < 7)) = true then pure (.done (none,out.push p,ia+1,ib,mg,ac,bc)) else pure (.yield (none,out.push p,ia+1,ib,mg,ac,bc))
def ml2 (a b:Array ax) (mg ac bc ib:Nat) (out:Array ax) (ia:Nat):StateT aZ Sem (ForInStep S7):=do
 let p <- elem' b ib
 if (ib+1 == b.size) = true then pure (.done (some (dnL a b (out.push p) ia (ib+1)),out.push p,ia,ib+1,mg,ac,bc)) else do
  let r <- elem' a ia
  let some k <- ij true r b (ib+1) (b.size - (ib+1)) 0 | pure (.done (some (dnL a b (out.push p) ia (ib+1)),out.push p,ia,ib+1,mg,ac,bc))
  if k > 0 then (if (ib+1+k == b.size) = true then pure (.done (some (dnL a b (out.push p++b.extract (ib+1) (ib+1+k)) ia (ib+1+k)),out.push p++b.extract (ib+1) (ib+1+k),ia,ib+1+k,mg,ac,k)) else ml3 a b mg ac ia k (out.push p++b.extract (ib+1) (ib+1+k)) (ib+1+k)) else ml3 a b mg ac ia k (out.push p) (ib+1)
def ml1 (a b out:Array ax) (ia ib ac bc mg:Nat):StateT aZ Sem (ForInStep S7):=do
 modify λs=>gR (kindOf s) (arrOf s) (pendingOf s) mg (failedOf s)
 let p <- elem' b ib
 let some k <- ij false p a ia (a.size - ia) 0 | pure (.done (some (dnL a b out ia ib),out,ia,ib,mg,ac,bc))
 if k > 0 then (if (ia+k+1 == a.size) = true then pure (.done (some (lsA a b (out++a.extract ia (ia+k)) (ia+k) ib),out++a.extract ia (ia+k),ia+k,ib,mg,k,bc)) else if (ia+k == a.size) = true then pure (.done (some (dnL a b (out++a.extract ia (ia+k)) (ia+k) ib),out++a.extract ia (ia+k),ia+k,ib,mg,k,bc)) else ml2 a b mg k bc ib (out++a.extract ia (ia+k)) (ia+k)) else ml2 a b mg k bc ib out ia
section
variable {α:Type} {le:α->α->Prop}
structure Ml (le:α->α->Prop) (T out la lb:List α):Prop where
 pm:(out++(la++lb)).Perm T
 up:out.Pairwise le
 ua:la.Pairwise le
 ub:lb.Pairwise le
 oa:∀ x∈out,∀ y∈la,le x y
 ob:∀ x∈out,∀ y∈lb,le x y
variable {T out la lb:List α}
def Ml.moveA (m:Ml le T out la lb) (k:Nat) (h:∀ x∈la.take k,∀ y∈lb,le x y):Ml le T (out++la.take k) (la.drop k) lb:=by
 have e:=bx k la;have p:=m.ua;rw [<- e,bJ] at p;have oa:=m.oa;rw [<- e] at oa;refine ⟨?_,bJ.mpr ⟨m.up,p.1,λx hx y hy=>oa x hx y (cZ _ hy)⟩,p.2.1,m.ub,λx hx y hy=>?_,λx hx y hy=>?_⟩
 . rw [aO,<- aO (la.take k),e];exact m.pm
 . exact (aJ.mp hx).elim (λz=>oa x z y (aW _ hy)) λz=>p.2.2 x z y hy
 . exact (aJ.mp hx).elim (λz=>m.ob x z y hy) λz=>h x z y hy
def Ml.swap (m:Ml le T out la lb):Ml le T out lb la:=⟨(List.perm_append_comm.append_left out).trans m.pm,m.up,m.ub,m.ua,m.ob,m.oa⟩
def Ml.moveB (m:Ml le T out la lb) (k:Nat) (h:∀ x∈lb.take k,∀ y∈la,le x y):Ml le T (out++lb.take k) la (lb.drop k):=(m.swap.moveA k h).swap
def Mr (le:α->α->Prop) (T r:List α):Prop:=r.Perm T/\r.Pairwise le
def Ml.endB (m:Ml le T out la []):Mr le T (out++la):=⟨by simpa using m.pm,bJ.mpr ⟨m.up,m.ua,m.oa⟩⟩
def Ml.endA (m:Ml le T out [] lb):Mr le T (out++lb):=⟨by simpa using m.pm,bJ.mpr ⟨m.up,m.ub,m.ob⟩⟩
def Ml.last (m:Ml le T out la lb) (h:∀ y∈lb,∀ x∈la,le y x):Mr le T (out++lb++la) :=
 ⟨by have:=m.swap.pm;simpa [aO] using this,bJ.mpr ⟨bJ.mpr ⟨m.up,m.ub,m.ob⟩,m.ua,λx hx y hy=>(aJ.mp hx).elim (λz=>m.oa x z y hy) λz=>h x z y hy⟩⟩
def take1 {l:List α} {i:Nat} {x:α} (h:l[i]? = some x):(l.drop i).take 1 = [x]/\x∈l.drop i:=by
 obtain ⟨hi,e⟩:=aA.mp h;rw [cV hi,e];exact ⟨rfl,ak⟩
def qe {l:List α} {i k:Nat} {x:α} (h:x∈(l.drop i).take k):∃ j,j < k/\l[i+j]? = some x:=by
 obtain ⟨j,hj⟩:=dO.mp h;rw [ng] at hj;split at hj
 . rename_i hk;rw [eX] at hj;exact ⟨j,hk,hj⟩
 . cases hj
def mC {l:List α} {i:Nat} {x:α} (h:x∈l.drop i):∃ j,l[i+j]? = some x:=by
 obtain ⟨j,hj⟩:=dO.mp h;rw [eX] at hj;exact ⟨j,hj⟩
end
structure Cp (M:nX) (A:bo) (E:af->ai->Prop) (s:ai) (κ:cH) (D:ax->Prop) (bl:ax->ax->Bool):Prop where
 lt:∀ (x y:ax) (st:aZ) (Q:Option Bool->aZ->Prop),D x->D y->kindOf st = κ->Q (some (bl x y)) st->wpS M A E s (lt' x y) Q st
 as:∀ x y,D x->D y->bl x y = true->bl y x = false
 tr:∀ x y z,D x->D y->D z->bl y x = false->bl z y = false->bl z x = false
def SB (st st':aZ):Prop:=st' = gR (kindOf st) (arrOf st) (pendingOf st) (gallopOf st') (failedOf st)
section
variable {M:nX} {A:bo} {E:af->ai->Prop} {s:ai} {st:aZ} {κ:cH} {D:ax->Prop} {bl:ax->ax->Bool}
abbrev leB (bl:ax->ax->Bool) (x y:ax):Prop:=bl y x = false
def el {arr:Array ax} {i:Nat} {x:ax} {Q:ax->aZ->Prop} (h:arr[i]? = some x) (q:Q x st):wpS M A E s (elem' arr i) Q st:=by
 rw [elem'_eq,h];exact aV q
def tst (bl:ax->ax->Bool) (left:Bool) (key x:ax):Bool:=if left then bl x key else !(bl key x)
def gal (C:Cp M A E s κ D bl) {left:Bool} {key:ax} {arr:Array ax} {base n hint:Nat} {Q:Option Nat->aZ->Prop} (hk:kindOf st = κ) (dk:D key) (hn:base+n<=arr.size) (hh:hint < n) (dm:∀ i x,i < n->arr[base+i]? = some x->D x)
 (u:∀ i j x y,i<=j->j < n->arr[base+i]? = some x->arr[base+j]? = some y->leB bl x y)
 (h:∀ k,k<=n->(∀ i x,i < k->arr[base+i]? = some x->tst bl left key x = true)->(∀ i x,k<=i->i < n->arr[base+i]? = some x->tst bl left key x = false)->Q (some k) st):wpS M A E s (ij left key arr base n hint) Q st:=by
 have g:∀ i,i < n->∃ x,arr[base+i]? = some x:=λi hi=>⟨_,getElem?_pos arr (base+i) ∅⟩
 refine Au (B:=λi=>match arr[base+i]? with
  | some x=>tst bl left key x
  | none=>false) (λi Q hi q=>?_) (λi j hij hj hb=>?_) (λk h1 h2 h3=>h k h1 (λi x hi e=>?_) λi x h4 h5 e=>?_) hh
 . obtain ⟨x,e⟩:=g i hi;rw [e] at q;have dx:=dm i x hi e;unfold beyond;refine aD (el e ?_)
   cases left with
   | true=>exact C.lt x key st _ dx dk hk q
   | false=>exact aD (C.lt key x st _ dk dx hk (aV q))
 . obtain ⟨x,e⟩:=g i ∅;obtain ⟨y,e'⟩:=g j hj;simp only [e,e'] at hb |-;have l:=u i j x y hij hj e e';have dx:=dm i x ∅ e;have dy:=dm j y hj e';unfold tst at *
   cases left with
   | true =>
     simp only [if_true] at hb |-
     cases hc:bl x key with
     | true=>rfl
     | false=>rw [C.tr key x y dk dx dy hc l] at hb;cases hb
   | false =>
     simp only [bW,if_false,gF] at hb |-;exact C.tr x y key dx dy dk l hb
 . have:=h2 i hi
   rwa [e] at this
 . have:=h3 i h4 h5
   rwa [e] at this
def SB.refl:SB st st:=rfl
def SB.kind {st':aZ} (h:SB st st'):kindOf st' = kindOf st:=by rw [h]
def SB.mg {st':aZ} (h:SB st st') (g:Nat):SB st (gR (kindOf st') (arrOf st') (pendingOf st') g (failedOf st')):=by
 unfold SB at *;rw [h]
variable {a b:Array ax} {Q:Array ax->aZ->Prop}
def vp (a:Array ax) (i k:Nat):(a.extract i (i+k)).toList = (a.toList.drop i).take k:=by
 rw [xF,uf];congr 1
 lia
def yK (a:Array ax) (i:Nat):(a.extract i a.size).toList = a.toList.drop i:=by
 rw [xF,uf,eW ↥0]
def eB (a:Array ax) {i:Nat} (h:i < a.size):∃ x,a[i]? = some x/\a.toList[i]? = some x/\x∈a.toList:=by
 refine ⟨a[i],getElem?_pos a i h,?_,↥0⟩;rw [aP];exact getElem?_pos a i h
def Wl (bl:ax->ax->Bool) (a b out:Array ax) (ia ib:Nat):Prop:=Ml (leB bl) (a.toList++b.toList) out.toList (a.toList.drop ia) (b.toList.drop ib)/\ia+1 < a.size/\ib < b.size
def Wl.len {out:Array ax} {ia ib:Nat} (h:Wl bl a b out ia ib):out.size+3<=a.size+b.size:=by
 have:=h.1.pm.length_eq;simp only [ah,cJ,bt] at this;have:=h.2
 lia
def Re (bl:ax->ax->Bool) (a b r:Array ax):Prop:=Mr (leB bl) (a.toList++b.toList) r.toList
def Wl.pushB {out:Array ax} {ia ib:Nat} {y:ax} (w:Ml (leB bl) (a.toList++b.toList) out.toList (a.toList.drop ia) (b.toList.drop ib)) (e:b.toList[ib]? = some y) (h:∀ x∈a.toList.drop ia,leB bl y x):Ml (leB bl) (a.toList++b.toList) (out.push y).toList (a.toList.drop ia) (b.toList.drop (ib+1)):=by
 have m:=w.moveB 1 (by rw [(take1 e).1];intro x hx;rw [bC.mp hx];exact h);rw [(take1 e).1,fG] at m
 rwa [jc]
def Wl.pushA {out:Array ax} {ia ib:Nat} {x:ax} (w:Ml (leB bl) (a.toList++b.toList) out.toList (a.toList.drop ia) (b.toList.drop ib)) (e:a.toList[ia]? = some x) (h:∀ y∈b.toList.drop ib,leB bl x y):Ml (leB bl) (a.toList++b.toList) (out.push x).toList (a.toList.drop (ia+1)) (b.toList.drop ib):=by
 have m:=w.moveA 1 (by rw [(take1 e).1];intro x hx;rw [bC.mp hx];exact h);rw [(take1 e).1,fG] at m
 rwa [jc]
def Wl.done {out:Array ax} {ia ib:Nat} (m:Ml (leB bl) (a.toList++b.toList) out.toList (a.toList.drop ia) (b.toList.drop ib)) (h:ib = b.size\/ia = a.size):Re bl a b (dnL a b out ia ib):=by
 unfold Re dnL;rw [bD,bD,yK,yK];rcases h with rfl | rfl
 . rw [show b.toList.drop b.size = [] by simp] at m |-;rw [bA];exact m.endB
 . rw [show a.toList.drop a.size = [] by simp] at m |-;rw [bA];exact m.endA
def IL {σ:Type} (W:Nat->σ->Prop) (st:aZ) (n:Nat) (c:Option (Array ax) × σ) (st':aZ):Prop:=c.1 = none/\SB st st'/\W n c.2
def QL {σ:Type} (R:Array ax->Prop) (W:Nat->σ->Prop) (st:aZ) (n:Nat) (c:Option (Array ax) × σ) (st':aZ):Prop:=(∃ r,c.1 = some r/\R r/\SB st st')\/IL W st n c st'
def PL {σ:Type} (R:Array ax->Prop) (W:Nat->σ->Prop) (st:aZ) (n:Nat) (r:ForInStep (Option (Array ax) × σ)) (st':aZ):Prop:=match r with
 | .done c=>QL R W st n c st'
 | .yield c=>IL W st n c st'
section
variable {σ:Type} {R:Array ax->Prop} {W:Nat->σ->Prop} {n:Nat} {x:σ} {st':aZ}
def Gv {r:Array ax} (h:R r) (g:SB st st'):wpS M A E s (pure (.done (some r,x))) (PL R W st n) st':=aV (.inl ⟨_,rfl,h,g⟩)
def rg {c:Prop} [Decidable c] (h:W n x) (g:SB st st'):wpS M A E s (if c then pure (.done (none,x)) else pure (.yield (none,x))) (PL R W st n) st':=by
 split
 . exact aV (.inr ⟨rfl,g,h⟩)
 . exact aV ⟨rfl,g,h⟩
def gm {c:Prop} [Decidable c] {r:Array ax} {p:StateT aZ Sem (ForInStep (Option (Array ax) × σ))} (h:c->R r) (g:SB st st') (k:¬c->wpS M A E s p (PL R W st n) st'):wpS M A E s (if c then pure (.done (some r,x)) else p) (PL R W st n) st':=by
 split
 . rename_i hc;exact Gv (h hc) g
 . rename_i hc;exact k hc
end
def Lz {x y:ax} (h:tst bl false x y = false):bl x y = true:=by
 unfold tst at h;cases e:bl x y<;>simp_all
def LA {x y:ax} (h:tst bl false x y = true):bl x y = false:=by
 unfold tst at h;cases e:bl x y<;>simp_all
def eZ {i j:Nat} (h:¬(i == j) = true):i≠j:=λz=>h (by rw [z];exact beq_self_eq_true j)
def WL (bl:ax->ax->Bool) (a b:Array ax) (n:Nat) (x:Array ax) (i j:Nat):Prop:=Wl bl a b x i j/\n<=x.size
abbrev S6:=Option (Array ax) × Array ax × Nat × Nat × Nat × Nat
def mlB (a b:Array ax) (mg:Nat) (out:Array ax) (ia ib bc:Nat):StateT aZ Sem (ForInStep S6):=do
 let p <- elem' b ib
 if (ib+1 == b.size) = true then pure (.done (some (dnL a b (out.push p) ia (ib+1)),out.push p,ia,ib+1,0,bc+1)) else
 if bc+1 ≥ mg then pure (.done (none,out.push p,ia,ib+1,0,bc+1)) else pure (.yield (none,out.push p,ia,ib+1,0,bc+1))
def mlA (a b:Array ax) (mg:Nat) (out:Array ax) (ia ib ac:Nat):StateT aZ Sem (ForInStep S6):=do
 let p <- elem' a ia
 if (ia+1+1 == a.size) = true then pure (.done (some (lsA a b (out.push p) (ia+1) ib),out.push p,ia+1,ib,ac+1,0)) else
 if ac+1 ≥ mg then pure (.done (none,out.push p,ia+1,ib,ac+1,0)) else pure (.yield (none,out.push p,ia+1,ib,ac+1,0))
def mlI (a b:Array ax) (mg:Nat) (out:Array ax) (ia ib ac bc:Nat):StateT aZ Sem (ForInStep S6):=do
 let p <- elem' b ib
 let r <- elem' a ia
 let some w <- lt' p r | pure (.done (some (dnL a b out ia ib),out,ia,ib,ac,bc))
 if w = true then mlB a b mg out ia ib bc else mlA a b mg out ia ib ac
def ma {β:Type} {c:Prop} [Decidable c] {p r:StateT aZ Sem β} {Q:β->aZ->Prop} (h:c->wpS M A E s p Q st) (k:¬c->wpS M A E s r Q st):wpS M A E s (if c then p else r) Q st:=by
 split
 . rename_i hc;exact h hc
 . rename_i hc;exact k hc
section
variable {α β γ:Type}
def mgO (N:Nat) (I:Nat->α->β->γ->Nat->Nat->StateT aZ Sem (ForInStep (Option (Array ax) × α × β × γ × Nat × Nat))) (G:Nat->α->β->γ->Nat->Nat->StateT aZ Sem (ForInStep (Option (Array ax) × α × β × γ × Nat × Nat × Nat))) (s:Option (Array ax) × α × β × γ × Nat):StateT aZ Sem (ForInStep (Option (Array ax) × α × β × γ × Nat)):=do
 let c <- forIn [0:N] ((none,s.2.1,s.2.2.1,s.2.2.2.1,0,0):Option (Array ax) × α × β × γ × Nat × Nat) λ_ c=>I s.2.2.2.2 c.2.1 c.2.2.1 c.2.2.2.1 c.2.2.2.2.1 c.2.2.2.2.2
 match c.1 with
 | some r=>pure (.done (some r,c.2.1,c.2.2.1,c.2.2.2.1,s.2.2.2.2))
 | none=>do
   rule "list.sort.gallop"
   let d <- forIn [0:N] ((none,c.2.1,c.2.2.1,c.2.2.2.1,s.2.2.2.2+1,c.2.2.2.2.1,c.2.2.2.2.2):Option (Array ax) × α × β × γ × Nat × Nat × Nat) λ_ d=>if d.2.2.2.2.1 > 1 then G (d.2.2.2.2.1 - 1) d.2.1 d.2.2.1 d.2.2.2.1 d.2.2.2.2.2.1 d.2.2.2.2.2.2 else G d.2.2.2.2.1 d.2.1 d.2.2.1 d.2.2.2.1 d.2.2.2.2.2.1 d.2.2.2.2.2.2
   match d.1 with
   | some r=>pure (.done (some r,d.2.1,d.2.2.1,d.2.2.2.1,d.2.2.2.2.1))
   | none=>do
     (sortPriv% PySem.Builtin.setMinGallop) (d.2.2.2.2.1+1)
     pure (.yield (none,d.2.1,d.2.2.1,d.2.2.2.1,d.2.2.2.2.1+1))
def mgL (N:Nat) (I:Nat->α->β->γ->Nat->Nat->StateT aZ Sem (ForInStep (Option (Array ax) × α × β × γ × Nat × Nat))) (G:Nat->α->β->γ->Nat->Nat->StateT aZ Sem (ForInStep (Option (Array ax) × α × β × γ × Nat × Nat × Nat))) (x:α) (y:β) (z:γ):StateT aZ Sem (Array ax):=do
 let st <- jN
 let c <- forIn [0:N] ((none,x,y,z,gallopOf st):Option (Array ax) × α × β × γ × Nat) λ_ c=>mgO N I G c
 match c.1 with
 | some r=>pure r
 | none=>unsupported "internal:list.sort.merge-bound"
variable {N:Nat} {I:Nat->α->β->γ->Nat->Nat->StateT aZ Sem (ForInStep (Option (Array ax) × α × β × γ × Nat × Nat))} {G:Nat->α->β->γ->Nat->Nat->StateT aZ Sem (ForInStep (Option (Array ax) × α × β × γ × Nat × Nat × Nat))} {R:Array ax->Prop} {W:Nat->α->β->γ->Prop}
abbrev W3 (W:Nat->α->β->γ->Prop) {ρ:Type} (n:Nat) (x:α × β × γ × ρ):Prop:=W n x.1 x.2.1 x.2.2.1
def Dv {x:α} {y:β} {z:γ} {Q:Array ax->aZ->Prop} (lt:∀ n a b c,W n a b c->n < N+1) (up:∀ n m a b c,m<=n->W n a b c->W m a b c)
 (hI:∀ n mg a b c p r st',SB st st'->W n a b c->wpS M A E s (I mg a b c p r) (PL R (W3 W) st (n+1)) st') (hG:∀ n mg a b c p r st',SB st st'->W n a b c->wpS M A E s (G mg a b c p r) (PL R (W3 W) st n) st') (h:W 1 x y z) (q:∀ r st',R r->SB st st'->Q r st'):wpS M A E s (mgL N I G x y z) Q st:=by
 refine aD (jj (aD (fC (cL (I:=λx=>IL (W3 W) st (x+1)) (Q:=λc st'=>∃ r,c.1 = some r/\R r/\SB st st') ?step ?fin ⟨rfl,.refl,h⟩) ?post)))
 case post =>
  rintro ⟨o,rest⟩ st' ⟨r,rfl,h1,h2⟩;exact aV (q r st' h1 h2)
 case fin =>
  rintro ⟨o,a,b,c,mg⟩ st' ⟨h0,h1,h2⟩;have:=lt _ _ _ _ h2
  lia
 case step =>
  rintro x ⟨o,a,b,c,mg⟩ st' _ hx ⟨h0,h1,h2⟩;obtain rfl:o = none:=h0;refine aD (fC (cL (I:=λy=>IL (W3 W) st (x+1+min y 1)) (Q:=QL R (W3 W) st (x+2)) ?step1 ?fin1 ⟨rfl,h1,h2⟩) ?post1)
  case fin1=>exact λc st'' h=>.inr ⟨h.1,h.2.1,up _ _ _ _ _ ∅ h.2.2⟩
  case step1 =>
   rintro y ⟨o,a,b,c,p,r⟩ st'' _ hy ⟨g0,g1,g2⟩;obtain rfl:o = none:=g0;refine fC (hI (x+1) mg a b c p r _ g1 (up _ _ _ _ _ ∅ g2)) λr st' h=>?_
   cases r with
   | done c=>exact h
   | yield c=>exact ⟨h.1,h.2.1,up _ _ _ _ _ ∅ h.2.2⟩
  case post1 =>
   rintro ⟨o,a,b,c,p,r⟩ st1 (⟨r,g0,g1,g2⟩ | ⟨g0,g1,g2⟩)
   . obtain rfl:o = some r:=g0;exact aV ⟨r,rfl,g1,g2⟩
   obtain rfl:o = none:=g0;refine aD (qN (fX ⟨rfl,aD (fC (cL (I:=λy=>IL (W3 W) st (x+2)) (Q:=QL R (W3 W) st (x+2)) ?step2 (λc st'' h=>.inr h) ⟨rfl,g1,g2⟩) ?post2)⟩))
   case post2 =>
    rintro ⟨o,a,b,c,mg,p,r⟩ st2 (⟨r,g0,g1,g2⟩ | ⟨g0,g1,g2⟩)
    . obtain rfl:o = some r:=g0;exact aV ⟨r,rfl,g1,g2⟩
    obtain rfl:o = none:=g0;exact aD (dh (aV ⟨rfl,g1.mg _,g2⟩))
   case step2 =>
    rintro y ⟨o,a,b,c,mg,p,r⟩ st'' _ hy ⟨g0,g1,g2⟩;obtain rfl:o = none:=g0;refine fC (Q:=PL R (W3 W) st (x+2)) (ma (λ_=>hG _ _ a b c p r _ g1 g2) λ_=>hG _ _ a b c p r _ g1 g2) λr st' h=>by cases r<;>exact h
end
def wV (a b:Array ax):qc a b = (do
 rule "list.sort.merge-lo"
 let p <- elem' b 0
 if (1 == b.size) = true then pure (dnL a b #[p] 0 1) else
 if (0+1 == a.size) = true then pure (lsA a b #[p] 0 1) else
 mgL (a.size+b.size) (λmg out ia ib ac bc=>mlI a b mg out ia ib ac bc) (λmg out ia ib ac bc=>ml1 a b out ia ib ac bc mg) #[p] 0 1):=by kernel_rfl
section
variable (C:Cp M A E s κ D bl) (ha:∀ x∈a.toList,D x) (hb:∀ x∈b.toList,D x) (ua:a.toList.Pairwise (leB bl)) (ub:b.toList.Pairwise (leB bl)) (hl:∀ y∈b.toList,∀ x∈a.toList.drop (a.size - 1),leB bl y x)
include C ha hb ua ub
theorem mI {l:List ax} (hl:∀ x∈l,D x) (u:l.Pairwise (leB bl)) {i:Nat} {x:ax} (h:l[i]? = some x):∀ y∈l.drop i,leB bl x y:=λy hy=>by
 obtain ⟨hi,e⟩:=aA.mp h;rw [cV hi,e] at hy;rcases aC.mp hy with e2 | hy
 . rw [e2];have dx:=hl x (bu h);show bl x x = false
   cases hc:bl x x with
   | false=>rfl
   | true=>have:=C.as x x dx dx hc;rw [hc] at this;cases this
 . have:=u.sublist (ES i l);rw [cV hi,e,bK] at this;exact this.1 y hy
theorem HE {ar:Array ax} {base:Nat} (u:ar.toList.Pairwise (leB bl)) (d:∀ z∈ar.toList,D z) (i j:Nat) (x y:ax) (hij:i<=j) (_:j < ar.size - base) (e1:ar[base+i]? = some x) (e2:ar[base+j]? = some y):leB bl x y:=by
 rw [<- aP] at e1 e2;refine mI C ha hb ua ub d u e1 y ?_;rw [dO];exact ⟨j - i,by rw [eX,show base+i+(j - i) = base+j by lia];exact e2⟩
include hl
theorem Wl.lastA {out:Array ax} {ia ib:Nat} (m:Ml (leB bl) (a.toList++b.toList) out.toList (a.toList.drop ia) (b.toList.drop ib)) (h:ia+1 = a.size):Re bl a b (lsA a b out ia ib):=by
 unfold Re lsA;rw [bD,bD,yK,yK];exact m.last λy hy x hx=>hl y (bg hy) x (by rw [show a.size - 1 = ia by lia];exact hx)
variable {n ia ib ac bc mg:Nat} {out:Array ax} {st3:aZ}
theorem Kh (hk:kindOf st = κ) (g1:SB st st3) (w:Wl bl a b out ia ib) (g3:n<=out.size):wpS M A E s (mlI a b mg out ia ib ac bc) (PL (Re bl a b) (W3 (WL bl a b)) st (n+1)) st3:=by
 obtain ⟨g2,ga,gb⟩:=w;obtain ⟨p,ep,ep',mp⟩:=eB b gb;obtain ⟨r,er,er',mr⟩:=eB a (i:=ia) ∅;have hp:=hb p mp;have hr:=ha r mr;have gs:∀ z,n+1<=(out.push z).size:=λz=>by rw [gf];lia
 refine aD (el ep (aD (el er (aD (C.lt p r _ _ hp hr (g1.kind.trans hk) ?_)))))
 cases hc:bl p r with
 | true =>
   have m:=Wl.pushB g2 ep' λz hz=>C.tr p r z hp hr (ha z (bg hz)) (C.as _ _ hp hr hc) (mI C ha hb ua ub ha ua er' z hz)
   refine aD (el ep (gm (λd=>Wl.done m (.inl (eq_of_beq d))) g1 λd=>rg ⟨⟨m,ga,gA gb (eZ d)⟩,gs p⟩ g1))
 | false =>
   have m:=Wl.pushA g2 er' λz hz=>C.tr r p z hr hp (hb z (bg hz)) hc (mI C ha hb ua ub hb ub ep' z hz);refine aD (el er (gm (λd=>Wl.lastA C ha hb ua ub hl m (eq_of_beq d)) g1 λd=>rg ⟨⟨m,gA ga (eZ d),gb⟩,gs r⟩ g1))
theorem Dr (g1:SB st st3) (w:Wl bl a b out ia ib) (g3:n<=out.size) (g4:∀ r,a.toList[ia]? = some r->∀ z∈b.toList.drop ib,leB bl r z):wpS M A E s (ml3 a b mg ac ia bc out ib) (PL (Re bl a b) (W3 (WL bl a b)) st n) st3:=by
 obtain ⟨g2,ga,gb⟩:=w;obtain ⟨r,er,er',mr⟩:=eB a (i:=ia) ∅;have m:=Wl.pushA g2 er' (g4 r er');exact aD (el er (gm (λd=>Wl.lastA C ha hb ua ub hl m (eq_of_beq d)) g1 λd=>rg ⟨⟨m,gA ga (eZ d),gb⟩,by rw [gf];lia⟩ g1))
theorem Ds (hk:kindOf st = κ) (g1:SB st st3) (w:Wl bl a b out ia ib) (g3:n<=out.size) (g4:∀ p,b.toList[ib]? = some p->∀ z∈a.toList.drop ia,leB bl p z):wpS M A E s (ml2 a b mg ac bc ib out ia) (PL (Re bl a b) (W3 (WL bl a b)) st n) st3:=by
 obtain ⟨g2,ga,gb⟩:=w;obtain ⟨p,ep,ep',mp⟩:=eB b gb;obtain ⟨r,er,er',mr⟩:=eB a (i:=ia) ∅;have hr:=ha r mr;have m:=Wl.pushB g2 ep' (g4 p ep');have gs:n<=(out.push p).size:=by rw [gf];lia
 refine aD (el ep (gm (λd=>Wl.done m (.inl (eq_of_beq d))) g1 λd=>?_));have hb1:ib+1 < b.size:=gA gb (eZ d);refine aD (el er (aD (gal C (g1.kind.trans hk) hr ∅ ∅ (λi z _ e=>hb z (by rw [<- aP] at e;exact bu e)) (HE C ha hb ua ub ub hb) λk k1 k2 k3=>?_)))
 have cond:ib+1+k < b.size->∀ r',a.toList[ia]? = some r'->∀ z∈b.toList.drop (ib+1+k),leB bl r' z:=λhlt r' e z hz=>by
  rw [er'] at e;cases e;obtain ⟨y,ey,ey',my⟩:=eB b hlt;exact C.tr r y z hr (hb y my) (hb z (bg hz)) (k3 k y (az _) ∅ ey) (mI C ha hb ua ub hb ub ey' z hz)
 have m2:Ml (leB bl) (a.toList++b.toList) (out.push p++b.extract (ib+1) (ib+1+k)).toList (a.toList.drop ia) (b.toList.drop (ib+1+k)):=by
  rw [bD,vp,<- fG (i:=k)]
  exact m.moveB k λy hy z hz=>by
   obtain ⟨j,hj,e⟩:=qe hy;rw [aP] at e;have my:y∈b.toList:=bg (ba hy);exact C.tr y r z (hb y my) hr (ha z (bg hz)) (C.as _ _ (hb y my) hr (k2 j y hj e)) (mI C ha hb ua ub ha ua er' z hz)
 show wpS M A E s (if k > 0 then _ else _) _ _;by_cases hk0:k > 0
 . rw [if_pos hk0];exact gm (λd=>Wl.done m2 (.inl (eq_of_beq d))) g1 λd=>have hlt:=gA ∅ (eZ d);Dr C ha hb ua ub hl g1 ⟨m2,ga,hlt⟩ (by rw [gE];lia) (cond hlt)
 . rw [if_neg hk0];obtain rfl:k = 0:=by lia
   exact Dr C ha hb ua ub hl g1 ⟨m,ga,hb1⟩ gs (cond hb1)
theorem Ki (hk:kindOf st = κ) (g1:SB st st3) (w:Wl bl a b out ia ib) (g3:n<=out.size):wpS M A E s (ml1 a b out ia ib ac bc mg) (PL (Re bl a b) (W3 (WL bl a b)) st n) st3:=by
 have g2:=w;obtain ⟨g2,ga,gb⟩:=g2;obtain ⟨p,ep,ep',mp⟩:=eB b gb;have hp:=hb p mp;refine aD (dh ?_);have g1:=g1.mg mg;refine aD (el ep (aD (gal C (g1.kind.trans hk) hp ∅ ∅ (λi z _ e=>ha z (by rw [<- aP] at e;exact bu e)) (HE C ha hb ua ub ua ha) λk k1 k2 k3=>?_)))
 have cond:ia+k < a.size->∀ p',b.toList[ib]? = some p'->∀ z∈a.toList.drop (ia+k),leB bl p' z:=λhlt p' e z hz=>by
  rw [ep'] at e;cases e;obtain ⟨y,ey,ey',my⟩:=eB a hlt;exact C.tr p y z hp (ha y my) (ha z (bg hz)) (C.as _ _ hp (ha y my) (Lz (k3 k y (az _) ∅ ey))) (mI C ha hb ua ub ha ua ey' z hz)
 have m2:Ml (leB bl) (a.toList++b.toList) (out++a.extract ia (ia+k)).toList (a.toList.drop (ia+k)) (b.toList.drop ib):=by
  rw [bD,vp,<- fG]
  exact g2.moveA k λy hy z hz=>by
   obtain ⟨j,hj,e⟩:=qe hy;rw [aP] at e;have my:y∈a.toList:=bg (ba hy);exact C.tr y p z (ha y my) hp (hb z (bg hz)) (LA (k2 j y hj e)) (mI C ha hb ua ub hb ub ep' z hz)
 show wpS M A E s (if k > 0 then _ else _) _ _;by_cases hk0:k > 0
 . rw [if_pos hk0];refine gm (λd=>Wl.lastA C ha hb ua ub hl m2 (eq_of_beq d)) g1 λd1=>gm (λd=>Wl.done m2 (.inr (eq_of_beq d))) g1 λd2=>?_;have h1:=eZ d1;have h2:=eZ d2;exact Ds C ha hb ua ub hl hk g1 ⟨m2,∅,gb⟩ (by rw [gE];lia) (cond ∅)
 . rw [if_neg hk0];obtain rfl:k = 0:=by lia
   exact Ds C ha hb ua ub hl hk g1 w g3 (cond ∅)
theorem wU (hk:kindOf st = κ) (na:1<=a.size) (nb:1<=b.size) (h0:∀ y,b[0]? = some y->∀ x∈a.toList,leB bl y x) (q:∀ r st',Re bl a b r->SB st st'->Q r st'):wpS M A E s (qc a b) Q st:=by
 obtain ⟨b0,eb,eb',mb⟩:=eB b (i:=0) ∅
 have m0:Ml (leB bl) (a.toList++b.toList) (#[b0]:Array ax).toList (a.toList.drop 0) (b.toList.drop 1):=by
  have m:Ml (leB bl) (a.toList++b.toList) [] a.toList b.toList:=⟨↥0,.nil,ua,ub,(λ_ h=>by cases h),λ_ h=>by cases h⟩;have:=m.moveB 1 (by rw [show b.toList.take 1 = [b0] from (take1 (i:=0) eb').1];intro x hx;rw [bC.mp hx];exact h0 b0 eb);rw [show b.toList.take 1 = [b0] from (take1 (i:=0) eb').1] at this;exact this
 rw [wV];refine aD (qN (fX ⟨rfl,aD (el eb ?_)⟩));refine ma (λd=>aV (q _ _ (Wl.done m0 (.inl (eq_of_beq d))) .refl)) λd1=>ma (λd=>aV (q _ _ (Wl.lastA C ha hb ua ub hl m0 (eq_of_beq d)) .refl)) λd2=>?_;have c1:=eZ d1;have c2:=eZ d2;exact Dv (R:=Re bl a b) (W:=WL bl a b) (λn x i j h=>by have:=h.1.len;have:=h.2;lia) (λn m x i j hm h=>⟨h.1,bq hm h.2⟩) (λn mg x i j p r st' g h=>Kh C ha hb ua ub hl hk g h.1 h.2) (λn mg x i j p r st' g h=>Ki C ha hb ua ub hl hk g h.1 h.2) ⟨⟨m0,∅,∅⟩,az _⟩ q
end
end
abbrev H7:=Option (Array ax) × Nat × Nat × Array ax × Nat × Nat × Nat
abbrev dnH (a b out:Array ax) (na nb:Nat):Array ax:=a.extract 0 na++b.extract 0 nb++out.reverse
abbrev fsB (a b out:Array ax) (na nb:Nat):Array ax:=b.extract 0 nb++a.extract 0 na++out.reverse
def mh3 (a b:Array ax) (mg ac na bc:Nat) (out:Array ax) (nb:Nat):StateT aZ Sem (ForInStep H7):=do
 let p <- elem' a (na - 1)
 if (na - 1 == 0) = true then pure (.done (some (dnH a b (out.push p) (na - 1) nb),na - 1,nb,out.push p,mg,ac,bc)) else
 if (decide (ac < 7) && decide (bc < 7)) = true then pure (.done (none,na - 1,nb,out.push p,mg,ac,bc)) else pure (.yield (none,na - 1,nb,out.push p,mg,ac,bc))
def mh2 (a b:Array ax) (mg ac bc nb:Nat) (out:Array ax) (na:Nat):StateT aZ Sem (ForInStep H7):=do
 let p <- elem' b (nb - 1)
 if (nb - 1 == 1) = true then pure (.done (some (fsB a b (out.push p) na (nb - 1)),na,nb - 1,out.push p,mg,ac,bc)) else do
  let r <- elem' a (na - 1)
  let some k <- ij true r b 0 (nb - 1) (nb - 1 - 1) | pure (.done (some (dnH a b (out.push p) na (nb - 1)),na,nb - 1,out.push p,mg,ac,bc))
  if nb - 1 - k > 0 then (if (k == 1) = true then pure (.done (some (fsB a b (out.push p++(b.extract k (nb - 1)).reverse) na k),na,k,out.push p++(b.extract k (nb - 1)).reverse,mg,ac,nb - 1 - k)) else if (k == 0) = true then pure (.done (some (dnH a b (out.push p++(b.extract k (nb - 1)).reverse) na k),na,k,out.push p++(b.extract k (nb - 1)).reverse,mg,ac,nb - 1 - k)) else mh3 a b mg ac na (nb - 1 - k) (out.push p++(b.extract k (nb - 1)).reverse) k) else mh3 a b mg ac na (nb - 1 - k) (out.push p) (nb - 1)
def mh1 (a b out:Array ax) (na nb ac bc mg:Nat):StateT aZ Sem (ForInStep H7):=do
 modify λs=>gR (kindOf s) (arrOf s) (pendingOf s) mg (failedOf s)
 let p <- elem' b (nb - 1)
 let some k <- ij false p a 0 na (na - 1) | pure (.done (some (dnH a b out na nb),na,nb,out,mg,ac,bc))
 if na - k > 0 then (if (k == 0) = true then pure (.done (some (dnH a b (out++(a.extract k na).reverse) k nb),k,nb,out++(a.extract k na).reverse,mg,na - k,bc)) else mh2 a b mg (na - k) bc nb (out++(a.extract k na).reverse) k) else mh2 a b mg (na - k) bc nb out na
section
variable {α:Type} {l:List α} {n k:Nat}
def Cr (h:n<=l.length):(l.take n).reverse.take k = ((l.take n).drop (n - k)).reverse:=by
 rw [List.take_reverse,br,qP h]
def HG (h:n<=l.length):(l.take n).reverse.drop k = (l.take (n - k)).reverse:=by
 rw [List.drop_reverse,br,qP h,List.take_take,qP (Nat.sub_le _ _)]
def Dw {x:α} (h:n<=l.length) (hx:x∈(l.take n).reverse.take k):∃ j,n - k<=j/\j < n/\l[j]? = some x:=by
 rw [Cr h,fQ] at hx;obtain ⟨j,e⟩:=mC hx;rw [ng] at e;split at e
 . exact ⟨n - k+j,∅,by assumption,e⟩
 . cases e
def rt1 {x:α} (h:1<=n) (e:l[n - 1]? = some x):(l.take n).reverse.take 1 = [x]:=by
 obtain ⟨hi,e'⟩:=aA.mp e;rw [Cr ∅,show (l.take n).drop (n - 1) = [x] from ?_]
 . rfl
 . rw [List.drop_take,show n - (n - 1) = 1 by lia,cV hi,e'];rfl
def nH {x:α} (h:x∈l.take n):∃ j,j < n/\l[j]? = some x:=by
 obtain ⟨j,hj,e⟩:=qe (i:=0) (k:=n) (by simpa using h);exact ⟨j,hj,by simpa using e⟩
end
section
variable {M:nX} {A:bo} {E:af->ai->Prop} {s:ai} {st:aZ} {κ:cH} {D:ax->Prop} {bl:ax->ax->Bool} {a b:Array ax} {Q:Array ax->aZ->Prop}
def Mh (bl:ax->ax->Bool) (a b out:Array ax) (na nb:Nat):Prop:=Ml (λx y=>leB bl y x) (a.toList++b.toList) out.toList (a.toList.take na).reverse (b.toList.take nb).reverse/\na<=a.size/\nb<=b.size
def Mh.len {out:Array ax} {na nb:Nat} (h:Mh bl a b out na nb):out.size+na+nb = a.size+b.size:=by
 have e:=h.1.pm.length_eq;have:=h.2;simp only [ah,List.length_reverse,br,bt] at e
 lia
def yL (a:Array ax) (n:Nat):(a.extract 0 n).toList = a.toList.take n:=by
 have:=vp a 0 n;simpa using this
def DW (a:Array ax) {i n:Nat} (h:i<=n) (hn:n<=a.size):(a.extract i n).reverse.toList = (a.toList.take n).reverse.take (n - i):=by
 rw [Cr (by simpa using hn),kY,show n - (n - i) = i by lia,List.drop_take];have:=vp a i (n - i);rw [show i+(n - i) = n by lia] at this;rw [this]
def Mh.of {r:Array ax} {t:List ax} (e:r.toList.reverse = t) (h:Mr (λx y=>leB bl y x) (a.toList++b.toList) t):Re bl a b r:=by
 subst e;exact ⟨(oo _).symm.trans h.1,gZ.mp h.2⟩
def Mh.done {out:Array ax} {na nb:Nat} (m:Mh bl a b out na nb) (h:na = 0\/nb = 0):Re bl a b (dnH a b out na nb):=by
 refine Mh.of (t:=out.toList++(b.toList.take nb).reverse++(a.toList.take na).reverse) ?_ ?_
 . rw [bD,bD,yL,yL,kY];simp
 . have m:=m.1;rcases h with rfl | rfl
   . simp only [List.take_zero,EX,bA] at m |-;exact m.endA
   . simp only [List.take_zero,EX,bA] at m |-;exact m.endB
def Mh.moveA {out:Array ax} {na nb:Nat} (m:Mh bl a b out na nb) {i:Nat} (hi:i<=na) (h:∀ j x,i<=j->j < na->a.toList[j]? = some x->∀ y∈b.toList.take nb,leB bl y x):Mh bl a b (out++(a.extract i na).reverse) i nb:=by
 have:=m.1.moveA (na - i) λx hx y hy=>by
  obtain ⟨j,h1,h2,e⟩:=Dw (by simpa using m.2.1) hx;exact h j x ∅ h2 e y (fQ.mp hy)
 rw [HG (by simpa using m.2.1),show na - (na - i) = i by lia,<- DW a hi m.2.1] at this;refine ⟨?_,bq hi m.2.1,m.2.2⟩;rw [bD];exact this
def Mh.moveB {out:Array ax} {na nb:Nat} (m:Mh bl a b out na nb) {i:Nat} (hi:i<=nb) (h:∀ j x,i<=j->j < nb->b.toList[j]? = some x->∀ y∈a.toList.take na,leB bl y x):Mh bl a b (out++(b.extract i nb).reverse) na i:=by
 have:=m.1.moveB (nb - i) λx hx y hy=>by
  obtain ⟨j,h1,h2,e⟩:=Dw (by simpa using m.2.2) hx;exact h j x ∅ h2 e y (fQ.mp hy)
 rw [HG (by simpa using m.2.2),show nb - (nb - i) = i by lia,<- DW b hi m.2.2] at this;refine ⟨?_,m.2.1,bq hi m.2.2⟩;rw [bD];exact this
def HV (a:Array ax) {n:Nat} {x:ax} (h:1<=n) (e:a.toList[n - 1]? = some x) (out:Array ax):out++(a.extract (n - 1) n).reverse = out.push x:=by
 have hn:n<=a.size:=by
  obtain ⟨hi,_⟩:=aA.mp e;have:n - 1 < a.size:=by simpa using hi
  lia
 apply EV.mp;rw [bD,DW a ∅ hn,show n - (n - 1) = 1 by lia,rt1 h e,jc]
def Mh.pushA {out:Array ax} {na nb:Nat} {x:ax} (m:Mh bl a b out na nb) (h1:1<=na) (e:a.toList[na - 1]? = some x) (h:∀ y∈b.toList.take nb,leB bl y x):Mh bl a b (out.push x) (na - 1) nb:=by
 rw [<- HV a h1 e];refine m.moveA ∅ λj z h2 h3 e2=>?_;obtain rfl:j = na - 1:=by lia
 rw [e] at e2;cases e2;exact h
def Mh.pushB {out:Array ax} {na nb:Nat} {x:ax} (m:Mh bl a b out na nb) (h1:1<=nb) (e:b.toList[nb - 1]? = some x) (h:∀ y∈a.toList.take na,leB bl y x):Mh bl a b (out.push x) na (nb - 1):=by
 rw [<- HV b h1 e];refine m.moveB ∅ λj z h2 h3 e2=>?_;obtain rfl:j = nb - 1:=by lia
 rw [e] at e2;cases e2;exact h
def Mh.first {out:Array ax} {na:Nat} (m:Mh bl a b out na 1) (h0:∀ y,b[0]? = some y->∀ x∈a.toList,leB bl y x):Re bl a b (fsB a b out na 1):=by
 refine Mh.of (t:=out.toList++(a.toList.take na).reverse++(b.toList.take 1).reverse) ?_ ?_
 . rw [bD,bD,yL,yL,kY];simp
 . refine m.1.swap.last λx hx y hy=>?_;obtain ⟨j,hj,e⟩:=nH (fQ.mp hy);obtain rfl:j = 0:=by lia
   rw [aP] at e;exact h0 y e x (ba (fQ.mp hx))
def Mh.firstE {out:Array ax} {na nb:Nat} (m:Mh bl a b out na nb) (e:nb = 1) (h0:∀ y,b[0]? = some y->∀ x∈a.toList,leB bl y x):Re bl a b (fsB a b out na nb):=by
 subst e;exact m.first h0
def WH (bl:ax->ax->Bool) (a b:Array ax) (n na nb:Nat) (x:Array ax):Prop:=Mh bl a b x na nb/\1<=na/\2<=nb/\n<=x.size
abbrev H6:=Option (Array ax) × Nat × Nat × Array ax × Nat × Nat
def mhA (a b:Array ax) (mg:Nat) (out:Array ax) (na nb ac:Nat):StateT aZ Sem (ForInStep H6):=do
 let p <- elem' a (na - 1)
 if (na - 1 == 0) = true then pure (.done (some (dnH a b (out.push p) (na - 1) nb),na - 1,nb,out.push p,ac+1,0)) else
 if ac+1 ≥ mg then pure (.done (none,na - 1,nb,out.push p,ac+1,0)) else pure (.yield (none,na - 1,nb,out.push p,ac+1,0))
def mhB (a b:Array ax) (mg:Nat) (out:Array ax) (na nb bc:Nat):StateT aZ Sem (ForInStep H6):=do
 let p <- elem' b (nb - 1)
 if (nb - 1 == 1) = true then pure (.done (some (fsB a b (out.push p) na (nb - 1)),na,nb - 1,out.push p,0,bc+1)) else
 if bc+1 ≥ mg then pure (.done (none,na,nb - 1,out.push p,0,bc+1)) else pure (.yield (none,na,nb - 1,out.push p,0,bc+1))
def mhI (a b:Array ax) (mg:Nat) (out:Array ax) (na nb ac bc:Nat):StateT aZ Sem (ForInStep H6):=do
 let p <- elem' b (nb - 1)
 let r <- elem' a (na - 1)
 let some w <- lt' p r | pure (.done (some (dnH a b out na nb),na,nb,out,ac,bc))
 if w = true then mhA a b mg out na nb ac else mhB a b mg out na nb bc
def MB {ar:Array ax} {i:Nat} {z:ax} (e:ar[0+i]? = some z):z∈ar.toList:=by
 rw [<- aP] at e;exact bu e
section
variable (C:Cp M A E s κ D bl) (ha:∀ x∈a.toList,D x) (hb:∀ x∈b.toList,D x) (ua:a.toList.Pairwise (leB bl)) (ub:b.toList.Pairwise (leB bl)) (h0:∀ y,b[0]? = some y->∀ x∈a.toList,leB bl y x)
include C ha hb ua ub
theorem dnT {l:List ax} (hl:∀ x∈l,D x) (u:l.Pairwise (leB bl)) {i:Nat} {x:ax} (e:l[i]? = some x) {n:Nat} (hn:n<=i+1):∀ y∈l.take n,leB bl y x:=λy hy=>by
 obtain ⟨j,hj,e2⟩:=nH hy;refine mI C ha hb ua ub hl u e2 x ?_;rw [dO];exact ⟨i - j,by rw [eX,show j+(i - j) = i by lia];exact e⟩
theorem Lx {ar:Array ax} {n:Nat} (u:ar.toList.Pairwise (leB bl)) (d:∀ z∈ar.toList,D z) (i j:Nat) (x y:ax) (hij:i<=j) (_:j < n) (e1:ar[0+i]? = some x) (e2:ar[0+j]? = some y):leB bl x y:=by
 rw [iF,<- aP] at e1 e2;refine mI C ha hb ua ub d u e1 y ?_;rw [dO];exact ⟨j - i,by rw [eX,show i+(j - i) = j by lia];exact e2⟩
variable {n na nb ac bc mg:Nat} {out:Array ax} {st3:aZ}
theorem Dt (g1:SB st st3) (w:Mh bl a b out na nb) (wa:1<=na) (wb:2<=nb) (g3:n<=out.size) (g4:∀ r,a.toList[na - 1]? = some r->∀ z∈b.toList.take nb,leB bl z r):wpS M A E s (mh3 a b mg ac na bc out nb) (PL (Re bl a b) (W3 (WH bl a b)) st n) st3:=by
 have hA:=w.2.1;obtain ⟨r,er,er',mr⟩:=eB a (i:=na - 1) ∅;have m:=w.pushA wa er' (g4 r er');exact aD (el er (gm (λd=>m.done (.inl (eq_of_beq d))) g1 λd=>rg ⟨m,nW (eZ d),wb,by rw [gf];lia⟩ g1))
include h0
theorem Kj (hk:kindOf st = κ) (g1:SB st st3) (w:Mh bl a b out na nb) (wa:1<=na) (wb:2<=nb) (g3:n<=out.size):wpS M A E s (mhI a b mg out na nb ac bc) (PL (Re bl a b) (W3 (WH bl a b)) st (n+1)) st3:=by
 have hA:=w.2.1;have hB:=w.2.2;obtain ⟨p,ep,ep',mp⟩:=eB b (i:=nb - 1) ∅;obtain ⟨r,er,er',mr⟩:=eB a (i:=na - 1) ∅;have hp:=hb p mp;have hr:=ha r mr;have gs:∀ z,n+1<=(out.push z).size:=λz=>by rw [gf];lia
 refine aD (el ep (aD (el er (aD (C.lt p r _ _ hp hr (g1.kind.trans hk) ?_)))))
 cases hc:bl p r with
 | true =>
   have m:=w.pushA wa er' λz hz=>C.tr z p r (hb z (ba hz)) hp hr (dnT C ha hb ua ub hb ub ep' ∅ z hz) (C.as _ _ hp hr hc)
   exact aD (el er (gm (λd=>m.done (.inl (eq_of_beq d))) g1 λd=>rg ⟨m,nW (eZ d),wb,gs r⟩ g1))
 | false =>
   have m:=w.pushB ∅ ep' λz hz=>C.tr z r p (ha z (ba hz)) hr hp (dnT C ha hb ua ub ha ua er' ∅ z hz) hc;refine aD (el ep (gm (λd=>m.firstE (eq_of_beq d) h0) g1 λd=>?_));have:=eZ d;exact rg ⟨m,wa,by show 2<=nb - 1;lia,gs p⟩ g1
theorem Du (hk:kindOf st = κ) (g1:SB st st3) (w:Mh bl a b out na nb) (wa:1<=na) (wb:2<=nb) (g3:n<=out.size) (g4:∀ p,b.toList[nb - 1]? = some p->∀ z∈a.toList.take na,leB bl z p):wpS M A E s (mh2 a b mg ac bc nb out na) (PL (Re bl a b) (W3 (WH bl a b)) st n) st3:=by
 have hA:=w.2.1;have hB:=w.2.2;obtain ⟨p,ep,ep',mp⟩:=eB b (i:=nb - 1) ∅;obtain ⟨r,er,er',mr⟩:=eB a (i:=na - 1) ∅;have hr:=ha r mr;have m:=w.pushB ∅ ep' (g4 p ep');have gs:n<=(out.push p).size:=by rw [gf];lia
 refine aD (el ep (gm (λd=>m.firstE (eq_of_beq d) h0) g1 λd=>?_));have d:=eZ d;refine aD (el er (aD (gal C (g1.kind.trans hk) hr ∅ ∅ (λi z _ e=>hb z (MB e)) (Lx C ha hb ua ub ub hb) λk k1 k2 k3=>?_)))
 have cond:∀ r',a.toList[na - 1]? = some r'->∀ z∈b.toList.take k,leB bl z r':=λr' e z hz=>by
  rw [er'] at e;cases e;obtain ⟨j,hj,ej⟩:=nH hz;rw [aP] at ej;have mz:z∈b.toList:=ba hz;exact C.as _ _ (hb z mz) hr (k2 j z hj (by rw [iF];exact ej))
 have m2:=m.moveB (i:=k) k1 λj y h5 h6 e z hz=>by
  have my:y∈b.toList:=bu e;rw [aP] at e;exact C.tr z r y (ha z (ba hz)) hr (hb y my) (dnT C ha hb ua ub ha ua er' ∅ z hz) (k3 j y h5 h6 (by rw [iF];exact e))
 show wpS M A E s (if nb - 1 - k > 0 then _ else _) _ _;by_cases hk0:nb - 1 - k > 0
 . rw [if_pos hk0];refine gm (λd=>m2.firstE (eq_of_beq d) h0) g1 λd2=>gm (λd=>m2.done (.inr (eq_of_beq d))) g1 λd3=>?_;have d2:=eZ d2;have d3:=eZ d3;exact Dt C ha hb ua ub g1 m2 wa ∅ (by rw [gE];lia) cond
 . rw [if_neg hk0];obtain rfl:k = nb - 1:=by lia
   exact Dt C ha hb ua ub g1 m wa ∅ gs cond
theorem Kk (hk:kindOf st = κ) (g1:SB st st3) (w:Mh bl a b out na nb) (wa:1<=na) (wb:2<=nb) (g3:n<=out.size):wpS M A E s (mh1 a b out na nb ac bc mg) (PL (Re bl a b) (W3 (WH bl a b)) st n) st3:=by
 have hA:=w.2.1;have hB:=w.2.2;obtain ⟨p,ep,ep',mp⟩:=eB b (i:=nb - 1) ∅;have hp:=hb p mp;refine aD (dh ?_);have g1:=g1.mg mg;refine aD (el ep (aD (gal C (g1.kind.trans hk) hp ∅ ∅ (λi z _ e=>ha z (MB e)) (Lx C ha hb ua ub ua ha) λk k1 k2 k3=>?_)))
 have cond:∀ p',b.toList[nb - 1]? = some p'->∀ z∈a.toList.take k,leB bl z p':=λp' e z hz=>by
  rw [ep'] at e;cases e;obtain ⟨j,hj,ej⟩:=nH hz;rw [aP] at ej;exact LA (k2 j z hj (by rw [iF];exact ej))
 have m2:=w.moveA (i:=k) k1 λj y h5 h6 e z hz=>by
  have my:y∈a.toList:=bu e;rw [aP] at e;exact C.tr z p y (hb z (ba hz)) hp (ha y my) (dnT C ha hb ua ub hb ub ep' ∅ z hz) (C.as _ _ hp (ha y my) (Lz (k3 j y h5 h6 (by rw [iF];exact e))))
 show wpS M A E s (if na - k > 0 then _ else _) _ _;by_cases hk0:na - k > 0
 . rw [if_pos hk0];refine gm (λd=>m2.done (.inl (eq_of_beq d))) g1 λd1=>?_;exact Du C ha hb ua ub h0 hk g1 m2 (nW (eZ d1)) wb (by rw [gE];lia) cond
 . rw [if_neg hk0];obtain rfl:k = na:=by lia
   exact Du C ha hb ua ub h0 hk g1 w wa wb g3 cond
end
def wX (a b:Array ax):qd a b = (do
 rule "list.sort.merge-hi"
 let p <- elem' a (a.size - 1)
 if (a.size - 1 == 0) = true then pure (dnH a b #[p] (a.size - 1) b.size) else
 if (b.size == 1) = true then pure (fsB a b #[p] (a.size - 1) b.size) else
 mgL (a.size+b.size) (λmg na nb out ac bc=>mhI a b mg out na nb ac bc) (λmg na nb out ac bc=>mh1 a b out na nb ac bc mg) (a.size - 1) b.size #[p]):=by kernel_rfl
def wW (C:Cp M A E s κ D bl) (ha:∀ x∈a.toList,D x) (hb:∀ x∈b.toList,D x) (ua:a.toList.Pairwise (leB bl)) (ub:b.toList.Pairwise (leB bl)) (hl:∀ y∈b.toList,∀ x∈a.toList.drop (a.size - 1),leB bl y x) (hk:kindOf st = κ) (na1:1<=a.size) (nb1:1<=b.size) (h0:∀ y,b[0]? = some y->∀ x∈a.toList,leB bl y x) (q:∀ r st',Re bl a b r->SB st st'->Q r st'):wpS M A E s (qd a b) Q st:=by
 obtain ⟨p0,e0,e0',m0⟩:=eB a (i:=a.size - 1) ∅
 have mm:Mh bl a b #[p0] (a.size - 1) b.size:=by
  have m:Mh bl a b #[] a.size b.size:=by
   refine ⟨?_,az _,az _⟩;rw [eW ↥0,eW ↥0];exact ⟨by simpa using (oo _).append (oo _),.nil,gZ.mpr ua,gZ.mpr ub,(λ_ h=>by cases h),λ_ h=>by cases h⟩
  exact m.pushA na1 e0' λy hy=>hl y (ba hy) p0 (take1 e0').2
 rw [wX];refine aD (qN (fX ⟨rfl,aD (el e0 ?_)⟩));refine ma (λd=>aV (q _ _ (mm.done (.inl (eq_of_beq d))) .refl)) λd1=>ma (λd=>aV (q _ _ (mm.firstE (eq_of_beq d) h0) .refl)) λd2=>?_;have c1:=eZ d1;have c2:=eZ d2;exact Dv (R:=Re bl a b) (W:=WH bl a b) (λn i j x h=>by have:=h.1.len;have:=h.2;lia) (λn m i j x hm h=>⟨h.1,h.2.1,h.2.2.1,bq hm h.2.2.2⟩) (λn mg i j x p r st' g h=>Kj C ha hb ua ub h0 hk g h.1 h.2.1 h.2.2.1 h.2.2.2) (λn mg i j x p r st' g h=>Kk C ha hb ua ub h0 hk g h.1 h.2.1 h.2.2.1 h.2.2.2) ⟨mm,∅,∅,az _⟩ q
end
def vd (i:Nat):mergeAt' i = (do
 let s <- jN
 let (some (sa,na,power),some (sb,nb,_)):=((pendingOf s)[i]?,(pendingOf s)[i+1]?) | unsupported "internal:list.sort.pending"
 set (setPending s (((pendingOf s).setIfInBounds i (sa,na+nb,power)).eraseIdxIfInBounds (i+1)))
 let some k <- ij false (<- elem' (arrOf s) sb) (arrOf s) sa na 0 | return false
 let (sa,na):=(sa+k,na - k)
 if na == 0 then return true
 let some nb <- ij true (<- elem' (arrOf s) (sa+na - 1)) (arrOf s) sb nb (nb - 1) | return false
 if nb == 0 then return true
 let x:=(arrOf s).extract sa sb
 let y:=(arrOf s).extract sb (sb+nb)
 let merged <- if na<=nb then qc x y else qd x y
 modify λs=>gR (kindOf s) (merged.toList.zipIdx.foldl (λa (p,j)=>a.setIfInBounds (sa+j) p) (arrOf s)) (pendingOf s) (gallopOf s) (failedOf s)
 return (failedOf (<- jN)).isNone):=rfl
def laid:∀ (m:List ax) (k o:Nat) (l1 l2 l3:List ax) (a:Array ax),a.toList = l1++l2++l3->l1.length = o+k->l2.length = m.length->((m.zipIdx k).foldl (λa (p:ax × Nat)=>a.setIfInBounds (o+p.2) p.1) a).toList = l1++m++l3
 | [],k,o,l1,l2,l3,a,e,h1,h2=>by
   obtain rfl:l2 = []:=jP.mp h2
   exact e
 | x::m,k,o,l1,[],l3,a,e,h1,h2=>by cases h2
 | x::m,k,o,l1,y::l2,l3,a,e,h1,h2=>by
   rw [oZ,qC]
   have:=laid m (k+1) o (l1++[x]) l2 l3 (a.setIfInBounds (o+k) x) (by
    rw [iG,e,<- h1];simp [List.set_append]) (by rw [ah,cn];lia) (lV h2)
   rw [this];simp
section
variable {M:nX} {A:bo} {E:af->ai->Prop} {s:ai} {st:aZ} {κ:cH} {D:ax->Prop} {bl:ax->ax->Bool} {Q:Bool->aZ->Prop}
def Fh {σ:Type} {x st:σ} {Q:PUnit->σ->Prop} (h:Q ⟨⟩ x):wpS M A E s (set x:StateT σ Sem PUnit) Q st:=by
 unfold wpS;rw [StateT.run_set];exact aH ⟨rfl,h⟩
def wR {l pre X post:List ax} (e:l = pre++X++post) {o:Nat} (h:pre.length = o) {j:Nat} (hj:j < X.length):l[o+j]? = X[j]? := by
 subst h;rw [e,aO,bh ∅,show pre.length+j - pre.length = j by lia,aR hj]
def yq {a:Array ax} {pre X post:List ax} (e:a.toList = pre++X++post) {o n:Nat} (h:pre.length = o) (hn:X.length = n):(a.extract o (o+n)).toList = X:=by
 rw [vp,e,aO,List.drop_append_of_le_length ∅,List.drop_of_length_le ∅,iu,List.take_append_of_le_length ∅,eW ∅]
def wY (C:Cp M A E s κ D bl) (hk:kindOf st = κ) (hf:failedOf st = none) {i sa na pw sb nb pw2:Nat} (h1:(pendingOf st)[i]? = some (sa,na,pw)) (h2:(pendingOf st)[i+1]? = some (sb,nb,pw2)) (hs:sb = sa+na) (n1:1<=na) (n2:1<=nb)
 {pre X Y post:List ax} (e:(arrOf st).toList = pre++X++Y++post) (lp:pre.length = sa) (lX:X.length = na) (lY:Y.length = nb) (uX:X.Pairwise (leB bl)) (uY:Y.Pairwise (leB bl)) (dX:∀ x∈X,D x) (dY:∀ x∈Y,D x)
 (q:∀ (R:List ax) (st':aZ),R.Perm (X++Y)->R.Pairwise (leB bl)->(arrOf st').toList = pre++R++post->kindOf st' = κ->failedOf st' = none->pendingOf st' = ((pendingOf st).setIfInBounds i (sa,na+nb,pw)).eraseIdxIfInBounds (i+1)->Q true st'):wpS M A E s (mergeAt' i) Q st:=by
 have sz:(arrOf st).size = sa+na+nb+post.length:=by
  have:=congrArg gB e;simp only [bt,ah] at this
  lia
 have aX:∀ j,j < na->(arrOf st)[sa+j]? = X[j]? := λj hj=>by
  rw [<- aP];exact wR (post:=Y++post) (by rw [e];simp) lp ∅
 have aY:∀ j,j < nb->(arrOf st)[sb+j]? = Y[j]? := λj hj=>by
  rw [<- aP];exact wR (pre:=pre++X) e (by rw [ah];lia) ∅
 have pw_at:∀ {l:List ax},l.Pairwise (leB bl)->(∀ x∈l,D x)->∀ {i j:Nat} {x y:ax},i<=j->l[i]? = some x->l[j]? = some y->leB bl x y:=λ{l} u d {i j x y} hij e1 e2=>by
  rcases EK hij with h | rfl
  . obtain ⟨p1,q1⟩:=aA.mp e1;obtain ⟨p2,q2⟩:=aA.mp e2;have:=jb.mp u i j p1 p2 h
    rwa [q1,q2] at this
  . rw [e1] at e2;cases e2;have dx:=d x (bu e1);show bl x x = false
    cases hc:bl x x with
    | false=>rfl
    | true=>have:=C.as x x dx dx hc;rw [hc] at this;cases this
 obtain ⟨b0,eb⟩:∃ b0,Y[0]? = some b0:=⟨_,aE ∅⟩;obtain ⟨aL,ea⟩:∃ aL,X[na - 1]? = some aL:=⟨_,aE ∅⟩;have db:=dY b0 (bu eb);have da:=dX aL (bu ea);have whole:(∀ x∈X,∀ y∈Y,leB bl x y)->Q true (setPending st (((pendingOf st).setIfInBounds i (sa,na+nb,pw)).eraseIdxIfInBounds (i+1))):=λh=>q (X++Y) _ (.refl _) (bJ.mpr ⟨uX,uY,h⟩) (by show (arrOf st).toList = _;rw [e];simp) hk hf rfl;rw [vd];refine aD (jj ?_);rw [h1,h2];dsimp only;refine aD (Fh ?_)
 have ix:∀ {l:List ax} {x:ax},x∈l->∃ j,j < l.length/\l[j]? = some x:=λh=>by
  obtain ⟨j,e⟩:=dO.mp h;exact ⟨j,(aA.mp e).1,e⟩
 refine aD (el (x:=b0) (by have:=aY 0 ∅;rwa [oJ,eb] at this) (aD (gal C hk db ∅ ∅ (λj x hj ex=>?_) (λj j' x y h3 h4 e1 e2=>?_) λk k1 k2 k3=>?_)))
 . rw [aX j hj] at ex;exact dX x (bu ex)
 . rw [aX _ ∅] at e1 e2;exact pw_at uX dX h3 e1 e2
 have k2:∀ j x,j < k->X[j]? = some x->leB bl x b0:=λj x hj ex=>by
  have t:(!(bl b0 x)) = true:=k2 j x hj (by rw [aX j ∅];exact ex);show bl b0 x = false;cases h:bl b0 x<;>rw [h] at t<;>first | rfl | cases t
 have k3:∀ j x,k<=j->j < na->X[j]? = some x->bl b0 x = true:=λj x h3 hj ex=>by
  have t:(!(bl b0 x)) = false:=k3 j x h3 hj (by rw [aX j hj];exact ex);cases h:bl b0 x<;>rw [h] at t<;>first | rfl | cases t
 have b0le:∀ y∈Y,leB bl b0 y:=λy hy=>by
  obtain ⟨j,_,ej⟩:=ix hy;exact pw_at uY dY (bP j) eb ej
 have leaL:∀ x∈X,leB bl x aL:=λx hx=>by
  obtain ⟨j,hj,ej⟩:=ix hx;exact pw_at uX dX ∅ ej ea
 dsimp only;by_cases z1:(na - k == 0) = true
 . rw [if_pos z1];have z1:=eq_of_beq z1;refine aV (whole λx hx y hy=>?_);obtain ⟨j,hj,ej⟩:=ix hx;exact C.tr x b0 y (dX x hx) db (dY y hy) (k2 j x ∅ ej) (b0le y hy)
 rw [if_neg z1];have z1:na - k≠0:=λz=>z1 (by rw [z];rfl);refine aD (el (x:=aL) (by rw [show sa+k+(na - k) - 1 = sa+(na - 1) by lia,aX _ ∅];exact ea) (aD (gal C hk da ∅ ∅ (λj x hj ex=>?_) (λj j' x y h3 h4 e1 e2=>?_) λm m1 m2 m3=>?_)))
 . rw [aY j hj] at ex;exact dY x (bu ex)
 . rw [aY _ ∅] at e1 e2;exact pw_at uY dY h3 e1 e2
 have m2:∀ j x,j < m->Y[j]? = some x->bl x aL = true:=λj x hj ex=>m2 j x hj (by rw [aY j ∅];exact ex);have m3:∀ j x,m<=j->j < nb->Y[j]? = some x->leB bl aL x:=λj x h3 hj ex=>m3 j x h3 hj (by rw [aY j hj];exact ex);dsimp only;by_cases z2:(m == 0) = true
 . rw [if_pos z2];obtain rfl:=eq_of_beq z2;refine aV (whole λx hx y hy=>?_);obtain ⟨j,hj,ej⟩:=ix hy;exact C.tr x aL y (dX x hx) da (dY y hy) (leaL x hx) (m3 j y ∅ ∅ ej)
 rw [if_neg z2];have z2:m≠0:=λz=>z2 (by rw [z];rfl)
 have ex:((arrOf st).extract (sa+k) sb).toList = X.drop k:=by
  rw [show sb = sa+k+(na - k) by lia];exact yq (pre:=pre++X.take k) (post:=Y++post) (by rw [e];simp only [aO];rw [<- aO (X.take k) (X.drop k),bx]) (by rw [ah,br];lia) (by rw [cJ];lia)
 have ey:((arrOf st).extract sb (sb+m)).toList = Y.take m:=by
  exact yq (pre:=pre++X) (post:=Y.drop m++post) (by rw [e];simp only [aO];rw [<- aO (Y.take m) (Y.drop m),bx]) (by rw [ah];lia) (by rw [br];lia)
 generalize hx:(arrOf st).extract (sa+k) sb = x at ex |-;generalize hy:(arrOf st).extract sb (sb+m) = y at ey |-;have sx:x.size = na - k:=by rw [<- bt,ex,cJ];lia
 have sy:y.size = m:=by rw [<- bt,ey,br];lia
 have mX:∀ z∈X.drop k,∃ j,k<=j/\j < na/\X[j]? = some z:=λz hz=>by
  obtain ⟨j,ej⟩:=mC hz;exact ⟨k+j,∅,by have:=(aA.mp ej).1;lia,ej⟩
 have mY:∀ z∈Y.take m,∃ j,j < m/\Y[j]? = some z:=λz hz=>nH hz;have A1:∀ z∈x.toList,D z:=λz hz=>by rw [ex] at hz;exact dX z (bg hz)
 have A2:∀ z∈y.toList,D z:=λz hz=>by rw [ey] at hz;exact dY z (ba hz)
 have A3:x.toList.Pairwise (leB bl):=by rw [ex];exact uX.sublist (ES _ _)
 have A4:y.toList.Pairwise (leB bl):=by rw [ey];exact uY.sublist (EM _ _)
 have A5:∀ u∈y.toList,∀ z∈x.toList.drop (x.size - 1),leB bl u z:=λu hu z hz=>by
  rw [ey] at hu;rw [ex,fG,sx] at hz;obtain ⟨j,ej⟩:=mC hz;have hj:=(aA.mp ej).1;rw [show k+(na - k - 1)+j = na - 1 by lia,ea] at ej;cases ej;obtain ⟨i',hi',ei'⟩:=mY u hu;exact C.as _ _ (dY u (ba hu)) da (m2 i' u hi' ei')
 have A6:∀ u,y[0]? = some u->∀ z∈x.toList,leB bl u z:=λu hu z hz=>by
  rw [<- aP,ey,ng,if_pos ∅,eb] at hu;cases hu;rw [ex] at hz;obtain ⟨j,h3,h4,ej⟩:=mX z hz;exact C.as _ _ db (dX z (bg hz)) (k3 j z h3 h4 ej)
 have fin:∀ (r:Array ax) (st':aZ),Re bl x y r->SB (setPending st (((pendingOf st).setIfInBounds i (sa,na+nb,pw)).eraseIdxIfInBounds (i+1))) st'->wpS M A E s (do
  modify λs=>gR (kindOf s) (r.toList.zipIdx.foldl (λa (p:ax × Nat)=>a.setIfInBounds (sa+k+p.2) p.1) (arrOf s)) (pendingOf s) (gallopOf s) (failedOf s)
  return (failedOf (<- jN)).isNone) Q st':=λr st' hr hsb=>by
  obtain ⟨pm,up⟩:=hr;rw [ex,ey] at pm;have ar:arrOf st' = arrOf st:=by rw [hsb]
  have fl:failedOf st' = none:=by rw [hsb];exact hf
  have kd:kindOf st' = κ:=by rw [hsb];exact hk
  have pd:pendingOf st' = ((pendingOf st).setIfInBounds i (sa,na+nb,pw)).eraseIdxIfInBounds (i+1):=by rw [hsb]
  refine aD (dh (aD (jj (aV ?_))));show Q (failedOf st').isNone _;rw [fl];have mr:∀ z∈r.toList,z∈X.drop k\/z∈Y.take m:=λz hz=>aJ.mp (pm.mem_iff.mp hz);have dr:∀ z∈r.toList,D z:=λz hz=>(mr z hz).elim (λh=>dX z (bg h)) λh=>dY z (ba h)
  have t1:∀ z∈X.take k,leB bl z b0:=λz hz=>by
   obtain ⟨j,hj,ej⟩:=nH hz;exact k2 j z hj ej
  have t2:∀ z∈Y.drop m,leB bl aL z:=λz hz=>by
   obtain ⟨j,ej⟩:=mC hz;exact m3 (m+j) z ∅ (by have:=(aA.mp ej).1;lia) ej
  have sX:=uX;rw [<- bx k X,bJ] at sX;have sY:=uY;rw [<- bx m Y,bJ] at sY;refine q (X.take k++r.toList++Y.drop m) _ ?_ ?_ ?_ kd (by first | exact fl | rfl) pd
  . have h:(X.take k++(X.drop k++Y.take m)++Y.drop m) = X++Y:=by
     simp only [aO];rw [bx,<- aO (X.take k),bx]
    rw [<- h];exact ((pm.append_left _).append_right _)
  . refine bJ.mpr ⟨bJ.mpr ⟨sX.1,up,λu hu z hz=>?_⟩,sY.2.1,λu hu z hz=>?_⟩
    . have du:=dX u (ba hu);rcases mr z hz with h | h
      . exact sX.2.2 u hu z h
      . exact C.tr u b0 z du db (dr z hz) (t1 u hu) (b0le z (ba h))
    . have dz:=dY z (bg hz);have xz:∀ u∈X,leB bl u z:=λu hu=>C.tr u aL z (dX u hu) da dz (leaL u hu) (t2 z hz);rcases aJ.mp hu with h | h
      . exact xz u (ba h)
      . rcases mr u h with h | h
        . exact xz u (bg h)
        . exact sY.2.2 u h z hz
  . show (r.toList.zipIdx.foldl (λa (p:ax × Nat)=>a.setIfInBounds (sa+k+p.2) p.1) (arrOf st')).toList = _;rw [ar]
    have:=laid r.toList 0 (sa+k) (pre++X.take k) (X.drop k++Y.take m) (Y.drop m++post) (arrOf st) (by
     rw [e];simp only [aO];rw [<- aO (Y.take m) (Y.drop m),bx,<- aO (X.take k) (X.drop k),bx]) (by rw [ah,br];lia) pm.length_eq.symm
    refine Eq.trans this ?_;simp only [aO]
 split
 . exact aD (wU C A1 A2 A3 A4 A5 hk ∅ ∅ A6 λr st' h1 h2=>fin r st' h1 h2)
 . exact aD (wW C A1 A2 A3 A4 A5 hk ∅ ∅ A6 λr st' h1 h2=>fin r st' h1 h2)
end
section
variable {M:nX} {A:bo} {E:af->ai->Prop} {s:ai} {st:aZ} {κ:cH} {D:ax->Prop} {bl:ax->ax->Bool}
def Sg (bl:ax->ax->Bool) (a:Array ax) (lo n:Nat):Prop:=∀ i j x y,i<=j->j < n->a[lo+i]? = some x->a[lo+j]? = some y->leB bl x y
structure Kp (lo n:Nat) (a a':Array ax):Prop where
 pm:a'.Perm a
 out:∀ i,i < lo\/lo+n<=i->a'[i]? = a[i]?
def Kp.refl {lo n:Nat} {a:Array ax}:Kp lo n a a:=⟨fO _,λ_ _=>rfl⟩
def Kp.trans {lo n:Nat} {a b c:Array ax} (h:Kp lo n a b) (g:Kp lo n b c):Kp lo n a c:=⟨g.pm.trans h.pm,λi hi=>(g.out i hi).trans (h.out i hi)⟩
def Kp.size {lo n:Nat} {a b:Array ax} (h:Kp lo n a b):b.size = a.size:=h.pm.size_eq
def Kp.dm {lo n:Nat} {a b:Array ax} (h:Kp lo n a b) (d:∀ x∈a,D x):∀ x∈b,D x:=λx hx=>d x (h.pm.mem_iff.mp hx)
def mG (C:Cp M A E s κ D bl) {i j:Nat} {x y:ax} {Q:Option Bool->aZ->Prop} (hk:kindOf st = κ) (ei:(arrOf st)[i]? = some x) (ej:(arrOf st)[j]? = some y) (dx:D x) (dy:D y) (q:Q (some (bl x y)) st):wpS M A E s (ltAt' i j) Q st:=by
 rw [ltAt'_eq];exact aD (jj (aD (el ei (aD (el ej (C.lt x y st Q dx dy hk q))))))
def lu {a:Array ax} (d:∀ x∈a,D x) {i:Nat} (h:i < a.size):∃ x,a[i]? = some x/\D x:=⟨a[i],getElem?_pos a i h,d _ (Array.getElem_mem h)⟩
def qM (C:Cp M A E s κ D bl) {lo n ok:Nat} {Q:Bool->aZ->Prop} (hk:kindOf st = κ) (hn:lo+n<=(arrOf st).size) (hok:ok<=n) (hs:Sg bl (arrOf st) lo ok) (dm:∀ x∈arrOf st,D x)
 (q:∀ a',Kp lo n (arrOf st) a'->Sg bl a' lo n->Q true (setArr st a')):wpS M A E s (binarySort' lo n ok) Q st:=by
 have rf:∀ {x:ax},D x->leB bl x x:=λ{x} dx=>by
  show bl x x = false
  cases hc:bl x x with
  | false=>rfl
  | true=>have:=C.as x x dx dx hc;rw [hc] at this;cases this
 rw [binarySort'_eq]
 refine aD (fC (cL (I:=λk c st'=>c = (none,())/\∃ a',st' = setArr st a'/\Kp lo n (arrOf st) a'/\Sg bl a' lo (min k n))
  (Q:=λc st'=>c = (none,())/\∃ a',st' = setArr st a'/\Kp lo n (arrOf st) a'/\Sg bl a' lo n) ?step ?fin ⟨rfl,arrOf st,rfl,.refl,?init⟩) ?post)
 case post =>
  rintro c st' ⟨rfl,a',rfl,h1,h2⟩;exact aV (q a' h1 h2)
 case init =>
  intro i j x y hij hj ei ej;by_cases h1:j < ok
  . exact hs i j x y hij h1 ei ej
  . obtain ⟨rfl,rfl⟩:i = 0/\j = 0:=by lia
    rw [ei] at ej;cases ej;exact rf (dm x (bw ei))
 case fin =>
  rintro c st' ⟨h0,a',h1,h2,h3⟩;rw [show min (max (max ok 1) n) n = n by lia] at h3;exact ⟨h0,a',h1,h2,h3⟩
 case step =>
  rintro k c st' hk1 hkn ⟨rfl,a',rfl,kp,sg⟩;rw [show min k n = k by lia] at sg;have da:=kp.dm dm;have sz:=kp.size;obtain ⟨v,ev,dv⟩:=lu da (i:=lo+k) ∅
  refine aD (fC (cL (I:=λz c st''=>st'' = setArr st a'/\∃ l r,c = (none,l,r)/\l<=r/\r<=k/\r - l<=k - z/\(∀ i x,i < l->a'[lo+i]? = some x->leB bl x v)/\∀ i x,r<=i->i < k->a'[lo+i]? = some x->leB bl v x)
   (Q:=λc st''=>st'' = setArr st a'/\∃ l r,c = (none,l,r)/\l<=k/\(∀ i x,i < l->a'[lo+i]? = some x->leB bl x v)/\∀ i x,l<=i->i < k->a'[lo+i]? = some x->leB bl v x) ?istep ?ifin ⟨rfl,0,k,rfl,bP _,az _,∅,(λi x h=>by lia),λi x h1 h2=>by lia⟩) ?ipost)
  case ifin =>
   rintro c st'' ⟨rfl,l,r,rfl,h1,h2,h3,h4,h5⟩;obtain rfl:l = r:=by lia
   exact ⟨rfl,l,l,rfl,h2,h4,h5⟩
  case istep =>
   rintro z c st'' _ hz ⟨rfl,l,r,rfl,h1,h2,h3,h4,h5⟩;dsimp only;by_cases hge:l ≥ r
   . rw [if_pos hge];obtain rfl:l = r:=by lia
     exact aV ⟨rfl,l,l,rfl,h2,h4,h5⟩
   rw [if_neg hge];obtain ⟨u,eu,du⟩:=lu da (i:=lo+(l+r) / 2) ∅;refine aD (mG C (st:=setArr st a') hk ev eu dv du ?_)
   cases hc:bl v u with
   | true=>exact aV ⟨rfl,l,(l+r) / 2,rfl,∅,∅,∅,h4,λi x h6 h7 e=>C.tr v u x dv du (da x (bw e)) (C.as _ _ dv du hc) (sg _ _ u x h6 h7 eu e)⟩
   | false=>exact aV ⟨rfl,(l+r) / 2+1,r,rfl,∅,∅,∅,λi x h6 e=>C.tr x u v (da x (bw e)) du dv (sg _ _ x u ∅ ∅ e eu) hc,h5⟩
  case ipost =>
   rintro c st'' ⟨rfl,l,r,rfl,h1,h2,h3⟩;dsimp only;rw [moveDown'_eq];refine aD (dh (aV ⟨rfl,bubble a' (lo+k) (lo+k - (lo+l)),rfl,kp.trans ⟨Hx _ _ _,λi hi=>?_⟩,?_⟩))
   . rw [getElem?_bubble ∅ _ ∅];rw [if_neg ∅,if_neg ∅]
   . rw [show min (k+1) n = k+1 by lia];intro i j x y hij hj ei ej
     have f:∀ {i:Nat} {x:ax},i<=k->(bubble a' (lo+k) (lo+k - (lo+l)))[lo+i]? = some x->(i < l/\a'[lo+i]? = some x)\/(i = l/\x = v)\/(l < i/\a'[lo+(i - 1)]? = some x):=λ{i x} hi e=>by
      rw [getElem?_bubble ∅ _ ∅] at e;by_cases c1:i = l
      . rw [if_pos ∅,ev] at e;cases e;exact .inr (.inl ⟨c1,rfl⟩)
      rw [if_neg ∅] at e;by_cases c2:l < i
      . rw [if_pos ∅,show lo+i - 1 = lo+(i - 1) by lia] at e;exact .inr (.inr ⟨c2,e⟩)
      . rw [if_neg ∅] at e;exact .inl ⟨∅,e⟩
     rcases f ∅ ei with ⟨a1,a2⟩ | ⟨a1,rfl⟩ | ⟨a1,a2⟩<;>rcases f ∅ ej with ⟨b1,b2⟩ | ⟨b1,rfl⟩ | ⟨b1,b2⟩
     . exact sg i j x y hij ∅ a2 b2
     . exact h2 i x a1 a2
     . exact sg i (j - 1) x y ∅ ∅ a2 b2
     . exfalso;lia
     . exact rf dv
     . exact h3 (j - 1) y ∅ ∅ b2
     . exfalso;lia
     . exfalso;lia
     . exact sg (i - 1) (j - 1) x y ∅ ∅ a2 b2
end
section
variable {M:nX} {A:bo} {E:af->ai->Prop} {s:ai} {st:aZ} {κ:cH} {D:ax->Prop} {bl:ax->ax->Bool} {a:Array ax} {lo n p:Nat}
def Dg (bl:ax->ax->Bool) (a:Array ax) (lo n:Nat):Prop:=∀ i j x y,i<=j->j < n->a[lo+i]? = some x->a[lo+j]? = some y->leB bl y x
def Eg (bl:ax->ax->Bool) (a:Array ax) (lo p n:Nat):Prop:=∀ i j x y,p<=i->i < n->p<=j->j < n->a[lo+i]? = some x->a[lo+j]? = some y->leB bl x y
abbrev mir (a:Array ax) (i j:Nat):Array ax:=mirror a i j ((j - i) / 2)
def lG (hn:lo+n<=a.size) {i:Nat} (h1:p<=i) (h2:i < n):(mir a (lo+p) (lo+n))[lo+i]? = a[lo+(p+n - 1 - i)]? := by
 rw [Ic hn,if_pos ∅];congr 1
 lia
def mB (hn:lo+n<=a.size) {i:Nat} (h:i < lo+p\/lo+n<=i):(mir a (lo+p) (lo+n))[i]? = a[i]? := by
 rw [Ic hn,if_neg ∅]
def sM {m:Nat} (hn:lo+n<=a.size) (hm:n<=m):Kp lo m a (mir a (lo+p) (lo+n)):=⟨mirror_perm _ _ _ _,λi hi=>mB hn ∅⟩
def Dg.rev (h:Dg bl a lo n) (hn:lo+n<=a.size):Sg bl (mir a lo (lo+n)) lo n:=λi j x y h1 h2 e1 e2=>by
 rw [show mir a lo (lo+n) = mir a (lo+0) (lo+n) from rfl,lG hn (bP _) ∅] at e1 e2;exact h _ _ y x ∅ ∅ e2 e1
def Dg.turn (h:Dg bl a lo n) (hn:lo+n<=a.size) (e:Eg bl a lo p n):Dg bl (mir a (lo+p) (lo+n)) lo n:=λi j x y h1 h2 e1 e2=>by
 by_cases hi:p<=i
 . rw [lG hn hi ∅] at e1;rw [lG hn ∅ h2] at e2;exact e _ _ y x ∅ ∅ ∅ ∅ e2 e1
 . rw [mB hn ∅] at e1;by_cases hj:p<=j
   . rw [lG hn hj h2] at e2;exact h _ _ x y ∅ ∅ e1 e2
   . rw [mB hn ∅] at e2;exact h _ _ x y h1 h2 e1 e2
section
variable (C:Cp M A E s κ D bl) (d:∀ x∈a,D x)
include C d
theorem jB {x:ax} {i:Nat} (e:a[i]? = some x):leB bl x x:=by
 have dx:=d x (bw e);show bl x x = false
 cases hc:bl x x with
 | false=>rfl
 | true=>have:=C.as x x dx dx hc;rw [hc] at this;cases this
theorem Sg.more (h:Sg bl a lo n) (hn:1<=n) {u v:ax} (eu:a[lo+n - 1]? = some u) (ev:a[lo+n]? = some v) (l:leB bl u v):Sg bl a lo (n+1):=λi j x y h1 h2 e1 e2=>by
 by_cases hj:j = n
 . subst hj;rw [ev] at e2;cases e2;by_cases hi:i = j
   . subst hi;rw [ev] at e1;cases e1;exact jB C d ev
   . exact C.tr x u v (d x (bw e1)) (d u (bw eu)) (d v (bw ev)) (h i (j - 1) x u ∅ ∅ e1 (by rw [show lo+(j - 1) = lo+j - 1 by lia];exact eu)) l
 . exact h i j x y h1 ∅ e1 e2
theorem Dg.more (h:Dg bl a lo n) (hn:1<=n) {u v:ax} (eu:a[lo+n - 1]? = some u) (ev:a[lo+n]? = some v) (l:leB bl v u):Dg bl a lo (n+1):=λi j x y h1 h2 e1 e2=>by
 by_cases hj:j = n
 . subst hj;rw [ev] at e2;cases e2;by_cases hi:i = j
   . subst hi;rw [ev] at e1;cases e1;exact jB C d ev
   . exact C.tr v u x (d v (bw ev)) (d u (bw eu)) (d x (bw e1)) l (h i (j - 1) x u ∅ ∅ e1 (by rw [show lo+(j - 1) = lo+j - 1 by lia];exact eu))
 . exact h i j x y h1 ∅ e1 e2
theorem Sg.one:Sg bl a lo 1:=λi j x y h1 h2 e1 e2=>by
 obtain ⟨rfl,rfl⟩:i = 0/\j = 0:=by lia
 rw [e1] at e2;cases e2;exact jB C d e1
theorem zc {st:aZ} (ha:arrOf st = a) (hk:kindOf st = κ) {m n0:Nat} {Q:Option (Option Nat) × Nat->aZ->Prop} (h1:1<=n0) (h2:n0<=m) (hm:lo+m<=a.size) (h:Sg bl a lo n0) (q:∀ k,n0<=k->k<=m->Sg bl a lo k->(k < m->∀ u v,a[lo+k - 1]? = some u->a[lo+k]? = some v->bl v u = true)->Q (none,k) st) :
 wpS M A E s (forIn [n0:m] ((none,n0):Option (Option Nat) × Nat) λ_ c=>do
  let x <- ltAt' (lo+c.2) (lo+c.2 - 1)
  match x with
  | some b=>if b = true then pure (.done (none,c.2)) else pure (.yield (none,c.2+1))
  | _=>pure (.done (some none,c.2))) Q st:=by
 refine cL (I:=λx c st'=>st' = st/\c = (none,x)/\n0<=x/\x<=m/\Sg bl a lo x) (λx c st' h3 h4 h5=>?_) (λc st' h3=>?_) ⟨rfl,rfl,az _,h2,h⟩
 . obtain ⟨rfl,rfl,h6,h7,h8⟩:=h5;obtain ⟨v,ev,dv⟩:=lu d (i:=lo+x) ∅;obtain ⟨u,eu,du⟩:=lu d (i:=lo+x - 1) ∅;refine aD (mG C hk (by rw [ha];exact ev) (by rw [ha];exact eu) dv du ?_);dsimp only
   cases hc:bl v u with
   | true=>exact aV (q x h6 h7 h8 λ_ u' v' e1 e2=>by rw [eu] at e1;rw [ev] at e2;cases e1;cases e2;exact hc)
   | false=>exact aV ⟨rfl,rfl,∅,∅,h8.more C d ∅ eu ev hc⟩
 . obtain ⟨rfl,rfl,h6,h7,h8⟩:=h3;rw [show max n0 m = m by lia] at h8 |-;exact q m h2 (az _) h8 λz=>absurd z (cR _)
end
end
abbrev C3:=Option (Option Nat) × Nat × Nat
def dsB (lo:Nat) (c:C3):StateT aZ Sem (ForInStep C3):=do
 let some smaller <- ltAt' (lo+c.2.1) (lo+c.2.1 - 1) | pure (.done (some none,c.2.1,c.2.2))
 if smaller then
  if c.2.2 > 0 then do
   reverseSlice' (lo+c.2.1 - (c.2.2+1)) (lo+c.2.1)
   pure (.yield (none,c.2.1+1,0))
  else pure (.yield (none,c.2.1+1,0))
 else
  let some larger <- ltAt' (lo+c.2.1 - 1) (lo+c.2.1) | pure (.done (some none,c.2.1,c.2.2))
  if larger then pure (.done (none,c.2.1,c.2.2)) else pure (.yield (none,c.2.1+1,c.2.2+1))
section
variable {M:nX} {A:bo} {E:af->ai->Prop} {s:ai} {st:aZ} {κ:cH} {D:ax->Prop} {bl:ax->ax->Bool} {lo:Nat}
structure Fl (bl:ax->ax->Bool) (a0 a:Array ax) (lo n q:Nat):Prop where
 kp:Kp lo n a0 a
 dg:Dg bl a lo n
 ql:q < n
 eg:Eg bl a lo (n - (q+1)) n
def Ec (C:Cp M A E s κ D bl) (hk:kindOf st = κ) (d:∀ x∈arrOf st,D x) {m n0:Nat} {Q:C3->aZ->Prop} (h1:1<=n0) (h2:n0<=m) {a1:Array ax} (hm:lo+m<=(arrOf st).size) (h:Fl bl (arrOf st) a1 lo n0 0)
 (q:∀ k r a',n0<=k->k<=m->Fl bl (arrOf st) a' lo k r->Q (none,k,r) (setArr st a')):wpS M A E s (forIn [n0:m] ((none,n0,0):C3) λ_ c=>dsB lo c) Q (setArr st a1):=by
 refine cL (I:=λx c st'=>∃ r a',st' = setArr st a'/\c = (none,x,r)/\n0<=x/\x<=m/\Fl bl (arrOf st) a' lo x r) (λx c st' h3 h4 h5=>?_) (λc st' h3=>?_) ⟨0,a1,rfl,rfl,az _,h2,h⟩
 . obtain ⟨r,a',rfl,rfl,h6,h7,f⟩:=h5;have da:=f.kp.dm d;have sz:=f.kp.size;obtain ⟨v,ev,dv⟩:=lu da (i:=lo+x) ∅;obtain ⟨u,eu,du⟩:=lu da (i:=lo+x - 1) ∅;unfold dsB;dsimp only;refine aD (mG C (st:=setArr st a') hk ev eu dv du ?_);dsimp only;have up:∀ {a2:Array ax},Kp lo x (arrOf st) a2->Kp lo (x+1) (arrOf st) a2:=λg=>⟨g.pm,λi hi=>g.out i ∅⟩
   have one:∀ {a2:Array ax},(∀ z∈a2,D z)->Eg bl a2 lo (x+1 - (0+1)) (x+1):=λd2 i j y z g1 g2 g3 g4 e1 e2=>by
    obtain rfl:i = j:=by lia
    rw [e1] at e2;cases e2;exact jB C d2 e1
   have uu:a'[lo+(x - 1)]? = some u:=by rw [show lo+(x - 1) = lo+x - 1 by lia];exact eu
   cases hc:bl v u with
   | true =>
     rw [if_pos rfl];have l:=C.as _ _ dv du hc;by_cases hr:r > 0
     . rw [if_pos hr,kU];refine aD (dh (aV ?_));have hq:=f.ql;rw [show lo+x - (r+1) = lo+(x - (r+1)) by lia];have kt:Kp lo x (arrOf st) (mir a' (lo+(x - (r+1))) (lo+x)):=f.kp.trans (sM ∅ (az _));have dt:=kt.dm d;have ev2:(mir a' (lo+(x - (r+1))) (lo+x))[lo+x]? = some v:=by rw [mB ∅ ∅];exact ev
       have eu2:(mir a' (lo+(x - (r+1))) (lo+x))[lo+x - 1]? = a'[lo+(x - (r+1))]? := by
        rw [show lo+x - 1 = lo+(x - 1) by lia,lG ∅ ∅ ∅];congr 1
        lia
       obtain ⟨w,ew,dw⟩:=lu da (i:=lo+(x - (r+1))) ∅;exact ⟨0,_,rfl,rfl,∅,∅,up kt,(f.dg.turn ∅ f.eg).more C dt ∅ (eu2.trans ew) ev2 (C.tr v u w dv du dw l (f.eg _ _ u w ∅ ∅ ∅ ∅ uu ew)),∅,one dt⟩
     . rw [if_neg hr]
       exact aV ⟨0,a',rfl,rfl,∅,∅,up f.kp,f.dg.more C da ∅ eu ev l,∅,one da⟩
   | false =>
     rw [if_neg ⇑0];refine aD (mG C (st:=setArr st a') hk eu ev du dv ?_);dsimp only
     cases hd:bl u v with
     | true=>exact aV (q x r a' h6 h7 f)
     | false =>
       have hq:=f.ql;refine aV ⟨r+1,a',rfl,rfl,∅,∅,up f.kp,f.dg.more C da ∅ eu ev hd,∅,λi j y z g1 g2 g3 g4 e1 e2=>?_⟩;have dy:=da y (bw e1);have dz:=da z (bw e2);by_cases hi:i = x
       . subst hi;rw [ev] at e1;cases e1;by_cases hj:j = i
         . subst hj;rw [ev] at e2;cases e2;exact jB C da ev
         . exact C.tr v u z dv du dz hd (f.eg _ _ u z ∅ ∅ ∅ ∅ uu e2)
       . by_cases hj:j = x
         . subst hj;rw [ev] at e2;cases e2;exact C.tr y u v dy du dv (f.eg _ _ y u ∅ ∅ ∅ ∅ e1 uu) hc
         . exact f.eg _ _ y z ∅ ∅ ∅ ∅ e1 e2
 . obtain ⟨r,a',rfl,rfl,h6,h7,f⟩:=h3;rw [show max n0 m = m by lia] at f |-;exact q m r a' h2 (az _) f
end
def tl2 (lo m n:Nat):StateT aZ Sem (Option Nat):=do
 reverseSlice' lo (lo+n)
 let mut n:=n
 for _ in [n:m] do
  let some smaller <- ltAt' (lo+n) (lo+n - 1) | return none
  if smaller then break
  n:=n+1
 return some n
section
variable {M:nX} {A:bo} {E:af->ai->Prop} {s:ai} {st:aZ} {κ:cH} {D:ax->Prop} {bl:ax->ax->Bool} {lo:Nat}
def BN (C:Cp M A E s κ D bl) (hk:kindOf st = κ) {a':Array ax} {Q:Option Nat->aZ->Prop} {m n:Nat} (d:∀ x∈arrOf st,D x) (h1:1<=n) (h2:n<=m) (hm:lo+m<=(arrOf st).size) (kp:Kp lo n (arrOf st) a') (dg:Dg bl a' lo n) (q:∀ k a2,1<=k->k<=m->Kp lo k (arrOf st) a2->Sg bl a2 lo k->Q (some k) (setArr st a2)):wpS M A E s (tl2 lo m n) Q (setArr st a'):=by
 have sz:=kp.size;have k2:Kp lo n (arrOf st) (mir a' lo (lo+n)):=kp.trans (sM (p:=0) ∅ (az _));unfold tl2;rw [kU];refine aD (dh ?_);refine aD (zc (a:=mir a' lo (lo+n)) C (k2.dm d) (st:=setArr st (mir a' lo (lo+n))) rfl hk h1 h2 (by rw [k2.size];exact hm) (dg.rev ∅) λk g1 g2 g3 _=>?_);exact aV (q k _ ∅ g2 ⟨k2.pm,λi hi=>k2.out i ∅⟩ g3)
end
def pt (lo m n:Nat):StateT aZ Sem (Option Nat):=do
 liftM (rule "list.sort.descending-run")
 let c <- forIn [n+1:m] ((none,n+1,0):C3) λ_ c=>dsB lo c
 match c.fst with
 | some r=>pure r
 | none =>
   if c.snd.snd > 0 then do
    reverseSlice' (lo+c.snd.fst - (c.snd.snd+1)) (lo+c.snd.fst)
    tl2 lo m c.snd.fst
   else tl2 lo m c.snd.fst
def vA (lo m:Nat):countRun' lo m = (do
 let c <- forIn [1:m] ((none,1):Option (Option Nat) × Nat) λ_ c=>do
  let x <- ltAt' (lo+c.2) (lo+c.2 - 1)
  match x with
  | some b=>if b = true then pure (.done (none,c.2)) else pure (.yield (none,c.2+1))
  | _=>pure (.done (some none,c.2))
 match c.fst with
 | some r=>pure r
 | none =>
   if (c.snd == m) = true then pure (some c.snd)
   else if c.snd > 1 then do
    let x <- ltAt' lo (lo+c.snd - 1)
    match x with
    | some rose=>if rose = true then pure (some c.snd) else do
       reverseSlice' lo (lo+c.snd)
       pt lo m c.snd
    | _=>pure none
   else pt lo m c.snd):=by
 rw [countRun'_eq];dsimp only;unfold pt tl2 dsB;congr 1
 funext c
 obtain ⟨r,n⟩:=c
 cases r with
 | some r=>rfl
 | none =>
   dsimp only;split
   . rfl
   . split
     . congr 1
       funext x
       cases x with
       | none=>rfl
       | some rose =>
         dsimp only;split
         . rfl
         . congr 1
           funext _r
           congr 1;funext _u;congr 1;funext s2;obtain ⟨r2,n2,q2⟩:=s2;cases r2<;>rfl
     . congr 1;funext _u;congr 1;funext s2;obtain ⟨r2,n2,q2⟩:=s2;cases r2<;>rfl
section
variable {prog:bp} {w:bQ} {A:bo} {E:af->ai->Prop} {s:ai} {st:aZ} {κ:cH} {D:ax->Prop} {bl:ax->ax->Bool} {lo:Nat}
def HK (C:Cp (model prog w) A E s κ D bl) (hk:kindOf st = κ) {a':Array ax} {Q:Option Nat->aZ->Prop} {m n:Nat} (d:∀ x∈arrOf st,D x) (h1:1<=n) (h2:n < m) (hm:lo+m<=(arrOf st).size) (h:Fl bl (arrOf st) a' lo (n+1) 0)
 (q:∀ k a2,1<=k->k<=m->Kp lo k (arrOf st) a2->Sg bl a2 lo k->Q (some k) (setArr st a2)):wpS (model prog w) A E s (pt lo m n) Q (setArr st a'):=by
 unfold pt;refine aD (qN (fX ⟨rfl,?_⟩));refine aD (Ec C hk d ∅ ∅ hm h λk r a2 g1 g2 f=>?_);dsimp only;have sz:=f.kp.size;by_cases hr:r > 0
 . rw [if_pos hr,kU];have hq:=f.ql;refine aD (dh ?_);rw [show lo+k - (r+1) = lo+(k - (r+1)) by lia];exact BN C hk (a':=mir a2 (lo+(k - (r+1))) (lo+k)) d ∅ g2 hm (f.kp.trans (sM ∅ (az _))) (f.dg.turn ∅ f.eg) q
 . rw [if_neg hr];exact BN C hk d ∅ g2 hm f.kp f.dg q
def vz (C:Cp (model prog w) A E s κ D bl) (hk:kindOf st = κ) {Q:Option Nat->aZ->Prop} {m:Nat} (d:∀ x∈arrOf st,D x) (h1:1<=m) (hm:lo+m<=(arrOf st).size)
 (q:∀ k a2,1<=k->k<=m->Kp lo k (arrOf st) a2->Sg bl a2 lo k->Q (some k) (setArr st a2)):wpS (model prog w) A E s (countRun' lo m) Q st:=by
 rw [vA];refine aD (zc (a:=arrOf st) C d rfl hk (az 1) h1 hm (Sg.one C d) λk g1 g2 g3 g4=>?_);dsimp only;by_cases hkm:k = m
 . rw [if_pos (by simpa using hkm)];exact aV (q k (arrOf st) g1 g2 .refl g3)
 rw [if_neg (by simpa using hkm)];obtain ⟨v,ev,dv⟩:=lu d (i:=lo+k) ∅;obtain ⟨u,eu,du⟩:=lu d (i:=lo+k - 1) ∅;have hb:=g4 ∅ u v eu ev
 have one:∀ {a2:Array ax},(∀ z∈a2,D z)->Eg bl a2 lo (k+1 - (0+1)) (k+1):=λd2 i j y z g1 g2 g3 g4 e1 e2=>by
  obtain rfl:i = j:=by lia
  rw [e1] at e2;cases e2;exact jB C d2 e1
 by_cases hg:k > 1
 . rw [if_pos hg];obtain ⟨z,ez,dz⟩:=lu d (i:=lo) ∅;refine aD (mG C hk ez eu dz du ?_);dsimp only
   cases hr:bl z u with
   | true=>exact aV (q k (arrOf st) g1 g2 .refl g3)
   | false =>
     rw [if_neg ⇑0,kU];refine aD (dh ?_)
     have all:∀ i x,i < k->(arrOf st)[lo+i]? = some x->leB bl x z/\leB bl z x/\leB bl u x:=λi x hi e=>by
      have dx:=d x (bw e);have a1:=g3 0 i z x (bP _) hi ez e;have a2:=g3 i (k - 1) x u ∅ ∅ e (by rw [show lo+(k - 1) = lo+k - 1 by lia];exact eu);exact ⟨C.tr x u z dx du dz a2 hr,a1,C.tr u z x du dz dx hr a1⟩
     have kt:Kp lo k (arrOf st) (mir (arrOf st) (lo+0) (lo+k)):=sM ∅ (az _);have dt:=kt.dm d
     have dg:Dg bl (mir (arrOf st) (lo+0) (lo+k)) lo k:=λi j x y h1 h2 e1 e2=>by
      rw [lG ∅ (bP _) ∅] at e1 e2;exact g3 _ _ y x ∅ ∅ e2 e1
     have ev2:(mir (arrOf st) (lo+0) (lo+k))[lo+k]? = some v:=by rw [mB ∅ ∅];exact ev
     have eu2:(mir (arrOf st) (lo+0) (lo+k))[lo+k - 1]? = some z:=by
      rw [show lo+k - 1 = lo+(k - 1) by lia,lG ∅ (bP _) ∅];rw [show lo+(0+k - 1 - (k - 1)) = lo by lia];exact ez
     exact HK C hk (a':=mir (arrOf st) (lo+0) (lo+k)) d g1 ∅ hm ⟨⟨kt.pm,λi hi=>kt.out i ∅⟩,dg.more C dt g1 eu2 ev2 (C.tr v u z dv du dz (C.as _ _ dv du hb) (all (k - 1) u ∅ (by rw [show lo+(k - 1) = lo+k - 1 by lia];exact eu)).1),∅,one dt⟩ q
 . rw [if_neg hg];obtain rfl:k = 1:=by lia
   have dg:Dg bl (arrOf st) lo 1:=λi j x y h1 h2 e1 e2=>by
    obtain ⟨rfl,rfl⟩:i = 0/\j = 0:=by lia
    rw [e1] at e2;cases e2;exact jB C d e1
   exact HK C hk (a':=arrOf st) d g1 ∅ hm ⟨.refl,dg.more C d (az 1) eu ev (C.as _ _ dv du hb),∅,one d⟩ q
end
def Cov (bl:ax->ax->Bool) (a:Array ax):List (Nat × Nat × Nat)->Nat->Nat->Prop
 | [],p,hi=>p = hi
 | (s,n,_)::r,p,hi=>s = p/\1<=n/\Sg bl a p n/\Cov bl a r (p+n) hi
section
variable {bl:ax->ax->Bool} {a b:Array ax}
def Cov.le:∀ {l:List (Nat × Nat × Nat)} {p hi:Nat},Cov bl a l p hi->p+l.length<=hi
 | [],_,_,h=>Nat.le_of_eq h
 | (s,n,w)::r,p,hi,⟨_,h1,_,h2⟩=>by
   have:=h2.le;simp only [ay]
   lia
def Sg.same {lo n:Nat} (h:Sg bl a lo n) (e:∀ i,lo<=i->i < lo+n->b[i]? = a[i]?):Sg bl b lo n:=λi j x y h1 h2 e1 e2=>h i j x y h1 h2 ((e _ ∅ ∅).symm.trans e1) ((e _ ∅ ∅).symm.trans e2)
def Cov.same:∀ {l:List (Nat × Nat × Nat)} {p hi:Nat},Cov bl a l p hi->(∀ i,p<=i->i < hi->b[i]? = a[i]?)->Cov bl b l p hi
 | [],_,_,h,_=>h
 | (s,n,w)::r,p,hi,⟨h0,h1,h2,h3⟩,e=>by
   have:=h3.le;exact ⟨h0,h1,h2.same λi g1 g2=>e i g1 ∅,h3.same λi g1 g2=>e i ∅ g2⟩
def Cov.snoc:∀ {l:List (Nat × Nat × Nat)} {p hi n w:Nat},Cov bl a l p hi->1<=n->Sg bl a hi n->Cov bl a (l++[(hi,n,w)]) p (hi+n)
 | [],p,hi,n,w,h,h1,h2=>by
   obtain rfl:p = hi:=h
   exact ⟨rfl,h1,h2,rfl⟩
 | (s,m,w')::r,p,hi,n,w,⟨h0,h1,h2,h3⟩,g1,g2=>⟨h0,h1,h2,h3.snoc g1 g2⟩
def Cov.pow:∀ {l:List (Nat × Nat × Nat)} {p hi:Nat} (k pw:Nat),Cov bl a l p hi->Cov bl a (l.modify k λt=>(t.1,t.2.1,pw)) p hi
 | [],_,_,0,_,h=>h
 | [],_,_,k+1,_,h=>h
 | (s,n,w)::r,_,_,0,_,h=>h
 | (s,n,w)::r,_,_,k+1,pw,⟨h0,h1,h2,h3⟩=>⟨h0,h1,h2,h3.pow k pw⟩
def Cov.two:∀ {l:List (Nat × Nat × Nat)} {p hi i:Nat},Cov bl a l p hi->i+1 < l.length->∃ s na pw nb pw2,l[i]? = some (s,na,pw)/\l[i+1]? = some (s+na,nb,pw2)/\1<=na/\1<=nb/\Sg bl a s na/\Sg bl a (s+na) nb/\p<=s/\s+na+nb<=hi /\
 ∀ b:Array ax,(∀ j,j < s\/s+na+nb<=j->b[j]? = a[j]?)->Sg bl b s (na+nb)->Cov bl b ((l.set i (s,na+nb,pw)).eraseIdx (i+1)) p hi
 | [],_,_,_,_,h=>by simp at h
 | [_],_,_,_,_,h=>by simp at h
 | (s,n,w)::(s2,n2,w2)::r,p,hi,0,⟨h0,h1,h2,h3,h4,h5,h6⟩,_=>by
   subst h0;subst h3;have:=h6.le
   exact ⟨s,n,w,n2,w2,rfl,rfl,h1,h4,h2,h5,az _,∅,λb g1 g2=>⟨rfl,∅,g2,by rw [<- Nat.add_assoc];exact h6.same λi k1 k2=>g1 i ∅⟩⟩
 | (s,n,w)::t::r,p,hi,i+1,⟨h0,h1,h2,h3⟩,hl=>by
   obtain ⟨s',na,pw,nb,pw2,e1,e2,g1,g2,g3,g4,g5,g6,g7⟩:=h3.two (i:=i) (by simpa using hl);exact ⟨s',na,pw,nb,pw2,e1,e2,g1,g2,g3,g4,∅,g6,λb k1 k2=>⟨h0,h1,h2.same λj j1 j2=>k1 j ∅,g7 b k1 k2⟩⟩
def Sg.part {lo n:Nat} (h:Sg bl a lo n) (hn:lo+n<=a.size):((a.toList.drop lo).take n).Pairwise (leB bl):=jb.mpr λi j hi hj hij=>by
 simp only [br,cJ,bt] at hi hj;have e:∀ k,k < n->(a.toList.drop lo)[k]? = a[lo+k]? := λk hk=>by rw [eX,aP]
 refine h i j _ _ ∅ ∅ ?_ ?_
 . rw [<- e i ∅,ER];exact aE _
 . rw [<- e j ∅,ER];exact aE _
def Sg.of {lo n:Nat} {pre R post:List ax} (rf:∀ x∈R,leB bl x x) (e:a.toList = pre++R++post) (hp:pre.length = lo) (hn:R.length = n) (h:R.Pairwise (leB bl)):Sg bl a lo n:=λi j x y h1 h2 e1 e2=>by
 have f:∀ k,k < n->a[lo+k]? = R[k]? := λk hk=>by
  rw [<- aP];exact wR e hp ∅
 rw [f _ ∅] at e1 e2;rcases EK h1 with g | rfl
 . obtain ⟨p1,q1⟩:=aA.mp e1;obtain ⟨p2,q2⟩:=aA.mp e2;have:=jb.mp h i j p1 p2 g
   rwa [q1,q2] at this
 . rw [e1] at e2;cases e2;exact rf x (bu e1)
end
structure Pn (bl:ax->ax->Bool) (κ:cH) (a0:Array ax) (hi:Nat) (st:aZ):Prop where
 pm:(arrOf st).Perm a0
 kd:kindOf st = κ
 fl:failedOf st = none
 cv:Cov bl (arrOf st) (pendingOf st).toList 0 hi
section
variable {M:nX} {A:bo} {E:af->ai->Prop} {s:ai} {st:aZ} {κ:cH} {D:ax->Prop} {bl:ax->ax->Bool} {a0:Array ax}
def qb (C:Cp M A E s κ D bl) (d:∀ x∈a0,D x) {i hi:Nat} {Q:Bool->aZ->Prop} (h:Pn bl κ a0 hi st) (hh:hi<=a0.size) (hp:i+1 < (pendingOf st).size)
 (q:∀ st',Pn bl κ a0 hi st'->(∀ j,hi<=j->(arrOf st')[j]? = (arrOf st)[j]?)->(pendingOf st').size+1 = (pendingOf st).size->Q true st'):wpS M A E s (mergeAt' i) Q st:=by
 obtain ⟨sa,na,pw,nb,pw2,e1,e2,g1,g2,g3,g4,g5,g6,g7⟩:=h.cv.two (i:=i) (by simpa using hp);have sz:=h.pm.size_eq;have da:∀ x∈(arrOf st).toList,D x:=λx hx=>d x (h.pm.mem_iff.mp (xG.mp hx));rw [aP] at e1 e2
 have sp:(arrOf st).toList = (arrOf st).toList.take sa++((arrOf st).toList.drop sa).take na++((arrOf st).toList.drop (sa+na)).take nb++(arrOf st).toList.drop (sa+na+nb):=by
  have k1:(arrOf st).toList = (arrOf st).toList.take sa++(arrOf st).toList.drop sa:=(bx _ _).symm;have k2:(arrOf st).toList.drop sa = ((arrOf st).toList.drop sa).take na++(arrOf st).toList.drop (sa+na):=by rw [<- fG];exact (bx _ _).symm
  have k3:(arrOf st).toList.drop (sa+na) = ((arrOf st).toList.drop (sa+na)).take nb++(arrOf st).toList.drop (sa+na+nb):=by rw [<- fG (i:=nb)];exact (bx _ _).symm
  rw [aO,aO,<- k3,<- k2,<- k1]
 have lp:((arrOf st).toList.take sa).length = sa:=by rw [br,bt];lia
 have lX:(((arrOf st).toList.drop sa).take na).length = na:=by rw [br,cJ,bt];lia
 have lY:(((arrOf st).toList.drop (sa+na)).take nb).length = nb:=by rw [br,cJ,bt];lia
 have dX:∀ x∈((arrOf st).toList.drop sa).take na,D x:=λx hx=>da x (bg (ba hx));have dY:∀ x∈((arrOf st).toList.drop (sa+na)).take nb,D x:=λx hx=>da x (bg (ba hx));refine wY C h.kd h.fl e1 e2 rfl g1 g2 sp lp lX lY (g3.part ∅) (g4.part ∅) dX dY λR st' pR uR eR k1 k2 k3=>?_;have lR:R.length = na+nb:=by rw [pR.length_eq,ah,lX,lY]
 have ou:∀ j,j < sa\/sa+na+nb<=j->(arrOf st')[j]? = (arrOf st)[j]? := λj hj=>by
  rw [<- aP,<- aP,eR]
  conv=>rhs;rw [sp]
  rcases hj with hj | hj
  . rw [aO,aO,aO,aR ∅,aR ∅]
  . rw [bh (by rw [ah];lia),bh (by simp only [ah];lia)];congr 1;simp only [ah]
    lia
 refine q st' ⟨?_,k1,k2,?_⟩ (λj hj=>ou j ∅) ?_
 . refine Array.Perm.trans ?_ h.pm;rw [qS,eR];exact ((pR.append_left _).append_right _).trans (by rw [<- aO,<- sp])
 . rw [k3];have:=g7 (arrOf st') ou (Sg.of (λx hx=>?_) eR lp lR uR)
   . rw [oC,iG];exact this
   . have dx:D x:=by
      rcases aJ.mp (pR.mem_iff.mp hx) with z | z
      . exact dX x z
      . exact dY x z
     show bl x x = false
     cases hc:bl x x with
     | false=>rfl
     | true=>have:=C.as x x dx dx hc;rw [hc] at this;cases this
 . rw [k3,<- bt,oC,iG,List.length_eraseIdx,cj,bt,if_pos hp]
   lia
end
section
variable {prog:bp} {w:bQ} {A:bo} {E:af->ai->Prop} {s:ai} {κ:cH} {D:ax->Prop} {bl:ax->ax->Bool} {a0:Array ax}
def Pn.kp {hi k:Nat} {st:aZ} {a2:Array ax} (h:Pn bl κ a0 hi st) (kp:Kp hi k (arrOf st) a2):Pn bl κ a0 hi (setArr st a2):=⟨kp.pm.trans h.pm,h.kd,h.fl,h.cv.same λi _ h2=>kp.out i (.inl h2)⟩
def Pn.push {hi n w':Nat} {st:aZ} (h:Pn bl κ a0 hi st) (h1:1<=n) (h2:Sg bl (arrOf st) hi n):Pn bl κ a0 (hi+n) (setPending st ((pendingOf st).push (hi,n,w'))):=⟨h.pm,h.kd,h.fl,by
 show Cov bl (arrOf st) ((pendingOf st).push (hi,n,w')).toList 0 (hi+n);rw [jc];exact h.cv.snoc h1 h2⟩
def Pn.pow {hi k pw:Nat} {st:aZ} (h:Pn bl κ a0 hi st):Pn bl κ a0 hi (setPending st ((pendingOf st).modify k λx=>match x with | (st,len,_)=>(st,len,pw))):=⟨h.pm,h.kd,h.fl,by
 show Cov bl (arrOf st) ((pendingOf st).modify k _).toList 0 hi;rw [Array.toList_modify];exact h.cv.pow k pw⟩
def uG (C:Cp (model prog w) A E s κ D bl) (d:∀ x∈a0,D x) {st:aZ} {Q:Unit->aZ->Prop} (h:Pn bl κ a0 0 st) (h1:1<=a0.size)
 (q:∀ st',(arrOf st').Perm a0->failedOf st' = none->Sg bl (arrOf st') 0 a0.size->Q () st'):wpS (model prog w) A E s sortRuns' Q st:=by
 rw [sortRuns'_eq];refine aD (jj ?_);have sz0:=h.pm.size_eq;rw [sz0];dsimp only;generalize minRun' a0.size a0.size 0 = mr
 refine aD (fC (cL (I:=λx c st'=>∃ lo,c = (none,lo)/\min x a0.size<=lo/\lo<=a0.size/\Pn bl κ a0 lo st')
  (Q:=λc st'=>c = (none,a0.size)/\Pn bl κ a0 a0.size st') ?step ?fin ⟨0,rfl,∅,bP _,h⟩) ?post)
 case fin =>
  rintro c st' ⟨lo,rfl,g1,g2,g3⟩;obtain rfl:lo = a0.size:=by lia
  exact ⟨rfl,g3⟩
 case step =>
  rintro x c st' _ hx ⟨lo,rfl,g1,g2,g3⟩;dsimp only;by_cases hl:lo ≥ a0.size
  . rw [if_pos hl];obtain rfl:lo = a0.size:=by lia
    exact aV ⟨rfl,g3⟩
  rw [if_neg hl];have sz:=g3.pm.size_eq;have da:∀ {st:aZ} {hi:Nat},Pn bl κ a0 hi st->∀ x∈arrOf st,D x:=λp x hx=>d x (p.pm.mem_iff.mp hx);refine aD (vz C g3.kd (da g3) (m:=a0.size - lo) ∅ ∅ λk a2 k1 k2 kp sg=>?_);dsimp only;by_cases hk:k < mr
  . rw [if_pos hk];refine aD (qN (fX ⟨rfl,?_⟩));have g4:=g3.kp kp;have sz4:=g4.pm.size_eq;refine aD (qM C g4.kd ∅ ∅ sg (da g4) λa3 kp3 sg3=>?_);rw [if_neg ⇑0];have h:=g4.kp kp3;have sg:=sg3;have h1:=(show 1<=min (a0.size - lo) mr by lia);have h2:=(show lo+min (a0.size - lo) mr<=a0.size by lia);refine aD (jj ?_);generalize hb:Array.back? _ = b
    match b with
    | none=>exact aD (dh (aV ⟨_,rfl,∅,h2,h.push h1 sg⟩))
    | some (s1,n1,w1) =>
      dsimp only;generalize power' _ _ _ _ = pw;refine aD (fC (cL (I:=λ_ c st'=>c = (none,())/\Pn bl κ a0 lo st'/\Sg bl (arrOf st') lo _) (Q:=λc st'=>c = (none,())/\Pn bl κ a0 lo st'/\Sg bl (arrOf st') lo _) ?_ (λ_ _ hh=>hh) ⟨rfl,h,sg⟩) ?_)
      . rintro x c st' _ _ ⟨rfl,g1,g2⟩;refine aD (jj ?_);by_cases hp:(pendingOf st').size > 1
        . rw [if_pos hp];generalize (pendingOf st')[(pendingOf st').size - 2]? = o
          match o with
          | none=>exact aV ⟨rfl,g1,g2⟩
          | some (u1,u2,u3) =>
            dsimp only;by_cases ho:u3<=pw
            . rw [if_pos ho];exact aV ⟨rfl,g1,g2⟩
            . rw [if_neg ho];exact aD (qb C d g1 ∅ ∅ λst2 k1 k2 _=>aV ⟨rfl,k1,g2.same λi i1 _=>k2 i i1⟩)
        . rw [if_neg hp];exact aV ⟨rfl,g1,g2⟩
      . rintro c st' ⟨rfl,g1,g2⟩;exact aD (dh (aD (dh (aV ⟨_,rfl,∅,h2,(g1.pow (pw:=pw)).push h1 g2⟩))))
  . rw [if_neg hk];have h:=g3.kp kp;have sg:=sg;have h1:=k1;have h2:=(show lo+k<=a0.size by lia);refine aD (jj ?_);generalize hb:Array.back? _ = b
    match b with
    | none=>exact aD (dh (aV ⟨_,rfl,∅,h2,h.push h1 sg⟩))
    | some (s1,n1,w1) =>
      dsimp only;generalize power' _ _ _ _ = pw;refine aD (fC (cL (I:=λ_ c st'=>c = (none,())/\Pn bl κ a0 lo st'/\Sg bl (arrOf st') lo _) (Q:=λc st'=>c = (none,())/\Pn bl κ a0 lo st'/\Sg bl (arrOf st') lo _) ?_ (λ_ _ hh=>hh) ⟨rfl,h,sg⟩) ?_)
      . rintro x c st' _ _ ⟨rfl,g1,g2⟩;refine aD (jj ?_);by_cases hp:(pendingOf st').size > 1
        . rw [if_pos hp];generalize (pendingOf st')[(pendingOf st').size - 2]? = o
          match o with
          | none=>exact aV ⟨rfl,g1,g2⟩
          | some (u1,u2,u3) =>
            dsimp only;by_cases ho:u3<=pw
            . rw [if_pos ho];exact aV ⟨rfl,g1,g2⟩
            . rw [if_neg ho];exact aD (qb C d g1 ∅ ∅ λst2 k1 k2 _=>aV ⟨rfl,k1,g2.same λi i1 _=>k2 i i1⟩)
        . rw [if_neg hp];exact aV ⟨rfl,g1,g2⟩
      . rintro c st' ⟨rfl,g1,g2⟩;exact aD (dh (aD (dh (aV ⟨_,rfl,∅,h2,(g1.pow (pw:=pw)).push h1 g2⟩))))
 case post =>
  rintro c st' ⟨rfl,g⟩;dsimp only
  have one:∀ {st2:aZ},Pn bl κ a0 a0.size st2->(pendingOf st2).size<=1->Sg bl (arrOf st2) 0 a0.size:=λ{st2} p hp=>by
   have cv:=p.cv;generalize hl:(pendingOf st2).toList = l at cv;have ll:l.length<=1:=by rw [<- hl];simpa using hp
   match l with
   | []=>exact absurd (show 0 = a0.size from cv) ∅
   | [(s1,n1,w1)] =>
     obtain ⟨_,_,k3,k4⟩:=cv;have k5:0+n1 = a0.size:=k4;rw [<- k5,iF]
     exact k3
   | _::_::_=>simp at ll
  refine aD (fC (cL (I:=λx c st'=>c = (none,())/\Pn bl κ a0 a0.size st'/\(pendingOf st').size<=max 1 (a0.size - x)) (Q:=λc st'=>c = (none,())/\Pn bl κ a0 a0.size st'/\(pendingOf st').size<=1) ?_ ?_ ⟨rfl,g,?_⟩) ?_)
  . rintro x c st2 _ hx ⟨rfl,g1,g2⟩;refine aD (jj ?_);by_cases hp:(pendingOf st2).size<=1
    . rw [if_pos hp];exact aV ⟨rfl,g1,hp⟩
    . rw [if_neg hp];refine aD (qb C d g1 (az _) ?_ λst3 k1 _ k3=>aV ⟨rfl,k1,∅⟩);split<;>lia
  . rintro c st2 ⟨rfl,g1,g2⟩;exact ⟨rfl,g1,∅⟩
  . have:=g.cv.le;simp only [bt] at this
    lia
  . rintro c st2 ⟨rfl,g1,g2⟩;exact aV (q st2 g1.pm g1.fl (one g1 g2))
end
end PP
end
section
namespace PP
open PySem PySem.W PyProof.Rows
section
variable {prog:bp} {w:bQ} {A:bo} {E:af->ai->Prop} {s:ai}
def MR {κ:cH} {vs:List af} {bl:af->af->Bool}
 (ha:∀ u v,u∈vs->v∈vs->∀ C:Bool->ai->Prop,C (bl u v) s->wpAny (model prog w) A (keyLt' κ u v) C (λ_ _=>False) s)
 (as:∀ u v,u∈vs->v∈vs->bl u v = true->bl v u = false) (tr:∀ u v z,u∈vs->v∈vs->z∈vs->bl v u = false->bl z v = false->bl z u = false) :
 Cp (model prog w) A E s κ (λx=>x.1 = x.2/\x.2∈vs) (λx y=>bl x.2 y.2) where
 lt:=λ⟨x1,x2⟩ ⟨y1,y2⟩ st Q ⟨dx1,dx⟩ ⟨dy1,dy⟩ hk q=>by
  obtain rfl:x1 = x2:=dx1;obtain rfl:y1 = y2:=dy1;rw [lt'_eq];refine aD (jj ?_);rw [hk];refine aD (qN (AF (fx (ha _ _ dx dy (λb s'=>s' = s/\b = bl x1 y1) ⟨rfl,rfl⟩) (λb s' hb=>?_) λ_ _ z=>cz z)));obtain ⟨rfl,rfl⟩:=hb;exact ⟨rfl,aV q⟩
 as:=λx y dx dy h=>as _ _ dx.2 dy.2 h
 tr:=λx y z dx dy dz h1 h2=>tr _ _ _ dx.2 dy.2 dz.2 h1 h2
def qH {a:aq} {vs:List af} {n:Nat} {bl:af->af->Bool} {κ:cH} {P:PySem.Fin->ai->Prop} (ho:s.heap.get? a = some (seqObj "list" vs.toArray n)) (h2:2<=vs.length) (hz:vs.length<=sizeLine)
 (hk:∀ h':cg,(∀ b o,b≠a->s.heap.get? b = some o->h'.get? b = some o)->∀ C:cH->ai->Prop,C κ { s with heap:=h' }->wpAny (model prog w) A (keyKind' vs.toArray) C (λ_ _=>False) { s with heap:=h' })
 (ha:∀ h':cg,(∀ b o,b≠a->s.heap.get? b = some o->h'.get? b = some o)->∀ u v,u∈vs->v∈vs->∀ C:Bool->ai->Prop,C (bl u v) { s with heap:=h' }->wpAny (model prog w) A (keyLt' κ u v) C (λ_ _=>False) { s with heap:=h' })
 (as:∀ u v,u∈vs->v∈vs->bl u v = true->bl v u = false) (tr:∀ u v z,u∈vs->v∈vs->z∈vs->bl v u = false->bl z v = false->bl z u = false)
 (q:∀ rs:List af,rs.Perm vs->rs.Pairwise (λx y=>bl y x = false)->P (.done (.ret .none)) { s with heap:=sortedHeap s.heap a vs rs.toArray }):wpAny (model prog w) A (oB.«list.sort» ⟨[.ref a],[]⟩) P E s:=by
 have la:a < s.heap.objs.size:=aM ho;obtain ⟨e1,o1⟩:∃ e1,(s.heap.update a (bL λ_=>(#[]:Array af))).get? a = some (seqObj "list" #[] e1):=⟨_,get?_update_seq ho λ_ => #[]⟩;have o3:(((s.heap.update a (bL λ_=>(#[]:Array af))).push (seqObj "tuple" vs.toArray 0)).push (seqObj "list" #[] 0)).get? a = some (seqObj "list" #[] e1):=ao _ (ao _ o1)
 have keep:∀ b o,b≠a->s.heap.get? b = some o->(((s.heap.update a (bL λ_=>(#[]:Array af))).push (seqObj "tuple" vs.toArray 0)).push (seqObj "list" #[] 0)).get? b = some o:=λb o hb e =>
  ao _ (ao _ ((dH _ _ (Ne.symm hb)).trans e))
 rw [list_sort_plain];refine ag (listItems_at ho rfl (ag (kx ho rfl ?_ (by rw [aI];exact hz) (bP _))));refine ag (nV o1 rfl (ag (xx ?_ (by show vs.length<=_;exact hz))));refine ag (oY (dR ?_) (bP _));show wpAny (model prog w) A _ P E { s with heap:=((s.heap.update a (bL λ_=>(#[]:Array af))).push (seqObj "tuple" vs.toArray 0)).push (seqObj "list" #[] 0) };dsimp only;have h2':¬ vs.toArray.size < 2:=by simp;lia
 rw [if_neg h2',if_neg h2'];generalize hs1:{ s with heap:=((s.heap.update a (bL λ_=>(#[]:Array af))).push (seqObj "tuple" vs.toArray 0)).push (seqObj "list" #[] 0) } = s1;refine ag (fx (hs1▸hk _ keep (λκ' s'=>κ' = κ/\s' = s1) ⟨rfl,hs1⟩) (λκ' s0 hk=>?_) λ_ _ x=>x.elim);obtain ⟨rfl,rfl⟩:=hk
 have zm:(vs.toArray.zip vs.toArray).toList = vs.map λv=>(v,v):=by
  rw [Array.toList_zip];show vs.zip vs = _
  have z:∀ l:List af,l.zip l = l.map λv=>(v,v):=λl=>by
   induction l with
   | nil=>rfl
   | cons a r ih=>rw [bS,ih,aN]
  exact z vs
 have run:=uG (E:=E) (s:=s0) (κ:=κ') (a0:=vs.toArray.zip vs.toArray) (st:=gR κ' (vs.toArray.zip vs.toArray) #[] 7 none)
  (Q:=λ_ st'=>∃ rs:List af,rs.Perm vs/\rs.Pairwise (λx y=>bl y x = false)/\(arrOf st').map (·.2) = rs.toArray/\failedOf st' = none)
  (MR (λu v hu hv C hC=>by subst hs1;exact ha _ keep u v hu hv C hC) as tr) (λx hx=>by
    have hx':x∈(vs.toArray.zip vs.toArray).toList:=xG.mpr hx;rw [zm] at hx';obtain ⟨v,hv,rfl⟩:=cq.mp hx';exact ⟨rfl,hv⟩) ⟨.refl _,rfl,rfl,rfl⟩ (by simp;lia) (λst' g1 g2 g3=>by
    have gp:(arrOf st').toList.Perm (vs.map λv=>(v,v)):=by rw [<- zm];exact qS.mp g1
    refine ⟨(arrOf st').toList.map (·.2),?_,?_,?_,g2⟩
    . have:=gp.map (·.2);rw [List.map_map] at this;simpa [Function.comp_def] using this
    . have sz:=g1.size_eq;have pw:=g3.part (by rw [sz];lia);rw [List.drop_zero,eW (by rw [bt];lia)] at pw;exact EO.mpr pw
    . apply EV.mp;rw [Array.toList_map])
 unfold wpS at run;refine ag (fx run ?_ λ_ _ e=>e);rintro ⟨⟨⟩,st'⟩ s' ⟨rfl,rs,g1,g2,g3,g4⟩;dsimp only;rw [g3];subst hs1;refine ag (nV o3 rfl (ag (kx o3 rfl ?_ (bP _) (by rw [aI,g1.length_eq];exact jm hz))));rw [g4];simp only [bne_self_eq_false,bW,if_false];exact aH (q rs g1 g2)
end
section
variable {prog:bp} {w:bQ} {A:bo} {E:af->ai->Prop} {s:ai}
def wt {l:aq} {vs:List af} {bl:af->af->Bool} {κ:cH} {Q:af->ai->Prop} (hl:s.heap.IsList l vs.toArray) (h2:2<=vs.length) (hz:vs.length<=sizeLine)
 (hk:∀ (A':bo) (h':cg),A'.units<=A.units+2->(∀ b o,s.heap.get? b = some o->h'.get? b = some o)->∀ C:cH->ai->Prop,C κ { s with heap:=h' }->wpAny (model prog w) A' (keyKind' vs.toArray) C (λ_ _=>False) { s with heap:=h' })
 (ha:∀ (A':bo) (h':cg),A'.units<=A.units+2->(∀ b o,s.heap.get? b = some o->h'.get? b = some o)->∀ u v,u∈vs->v∈vs->∀ C:Bool->ai->Prop,C (bl u v) { s with heap:=h' }->wpAny (model prog w) A' (keyLt' κ u v) C (λ_ _=>False) { s with heap:=h' })
 (as:∀ u v,u∈vs->v∈vs->bl u v = true->bl v u = false) (tr:∀ u v z,u∈vs->v∈vs->z∈vs->bl v u = false->bl z v = false->bl z u = false)
 (q:∀ rs:List af,rs.Perm vs->rs.Pairwise (λx y=>bl y x = false)->Q (.ref (s.heap.objs.size+1)) { s with heap:=sortedAll s.heap vs rs.toArray }):wpAny (model prog w) A (call (.builtin "sorted") [.ref l]) Q E s:=by
 refine rP kind_sorted plain_sorted entry_sorted (args_sorted1 _) ?_;unfold oB.«sorted»;refine ag (m:=checkCount "sorted" 1 1 _) (aH ?_);refine ag (collect_list hl (ag (oY ?_ hz)) hz);have hs:((s.heap.push (seqObj "list" #[] 0)).update s.heap.objs.size (bL (·++vs.toArray))).objs.size = s.heap.objs.size+1:=by rw [Ff,size_push']
 have hL:(((s.heap.push (seqObj "list" #[] 0)).update s.heap.objs.size (bL (·++vs.toArray))).push (seqObj "list" vs.toArray 0)).get? (s.heap.objs.size+1) = some (seqObj "list" vs.toArray 0):=by
  rw [<- hs];exact bE _ rfl
 have keep:∀ b o,s.heap.get? b = some o->b≠s.heap.objs.size+1/\(((s.heap.push (seqObj "list" #[] 0)).update s.heap.objs.size (bL (·++vs.toArray))).push (seqObj "list" vs.toArray 0)).get? b = some o:=λb o e=>by
  have hlt:b < s.heap.objs.size:=aM e;exact ⟨bH (jl hlt),ao _ ((dH _ _ (fh hlt)).trans (ao _ e))⟩
 show wpAny _ _ _ _ _ { s with heap:=((s.heap.push (seqObj "list" #[] 0)).update s.heap.objs.size (bL (·++vs.toArray))).push (seqObj "list" vs.toArray 0) };rw [hs];refine ag (dR (ff slot_list_sort ⟨_,hL,rfl⟩ entry_list_sort ?body (args_list_sort _)))
 case body =>
  refine qH (bl:=bl) (κ:=κ) hL h2 hz (λh' kp=>hk _ h' ?_ λb o e=>kp b o (keep b o e).1 (keep b o e).2) (λh' kp=>ha _ h' ?_ λb o e=>kp b o (keep b o e).1 (keep b o e).2) as tr λrs r1 r2=>?_
  . exact az _
  . exact az _
  . exact ⟨_,rfl,aH ⟨_,rfl,q rs r1 r2⟩⟩
end
end PP
end
section
namespace PP
def pN {α:Type} {lt:α->α->Bool}:∀ {xs ys:List α},xs.Perm ys->xs.Pairwise (λa b=>lt b a = false)->ys.Pairwise (λa b=>lt b a = false)->(∀ a b,a∈xs->b∈xs->lt a b = false->lt b a = false->a = b)->xs = ys
 | [],ys,p,_,_,_=>p.nil_eq
 | a::r,[],p,_,_,_=>absurd p.length_eq ↥0
 | a::r,b::s,p,u,v,h=>by
   have hb:b∈a::r:=p.mem_iff.mpr ak;have ha:a∈b::s:=p.mem_iff.mp ak
   have e:a = b:=by
    rcases aC.mp ha with z | z
    . exact z
    rcases aC.mp hb with w | w
    . exact w.symm
    exact h a b ak hb ((bK.mp v).1 a z) ((bK.mp u).1 b w)
   subst e;rw [pN (List.Perm.cons_inv p) (bK.mp u).2 (bK.mp v).2 λx y hx hy=>h x y (aj _ hx) (aj _ hy)]
end PP
end
section
namespace PP
open PySem PySem.W PyProof.Rows L2
variable [Tbs]
structure Big (ds:List D):Prop where
 len:ds.length<=sizeLine
 hd:∀ x∈ds,bG x≠0/\bG x = bG (ds.getD 0 .non)
 cmp:∀ x∈ds,∀ y∈ds,∃ k,kS x y = some k
 as:∀ x∈ds,∀ y∈ds,ltO x y = true->ltO y x = false
 tr:∀ x∈ds,∀ y∈ds,∀ z∈ds,ltO y x = false->ltO z y = false->ltO z x = false
 one:∀ x∈ds,∀ y∈ds,ltO x y = false->ltO y x = false->x = y
def nK (x:D):∀ ys:List D,(vm x ys).Perm (x::ys)
 | []=>.refl _
 | y::ys=>by
   unfold vm;split
   . exact ((nK x ys).cons y).trans (.swap x y ys)
   . exact .refl _
def lA:∀ ds:List D,(kb ds).Perm ds
 | []=>.refl _
 | x::xs=>(nK x _).trans ((lA xs).cons x)
def yC {S:D->Prop} (as:∀ x y,S x->S y->ltO x y = true->ltO y x = false) (tr:∀ x y z,S x->S y->S z->ltO y x = false->ltO z y = false->ltO z x = false) {x:D} (hx:S x):∀ {ys:List D},(∀ y∈ys,S y)->ys.Pairwise (λa b=>ltO b a = false)->(vm x ys).Pairwise λa b=>ltO b a = false
 | [],_,_=>jO _ _
 | y::ys,hs,h=>by
   have hy:=hs y ak;have hr:∀ z∈ys,S z:=λz hz=>hs z (aj _ hz);obtain ⟨h1,h2⟩:=bK.mp h;unfold vm;split
   . rename_i e;refine bK.mpr ⟨λz hz=>?_,yC as tr hx hr h2⟩;rcases aC.mp ((nK x ys).mem_iff.mp hz) with rfl | hz
     . exact as _ _ hy hx e
     . exact h1 z hz
   . rename_i e;have e:ltO y x = false:=by simpa using e
     refine bK.mpr ⟨λz hz=>?_,h⟩;rcases aC.mp hz with rfl | hz
     . exact e
     . exact tr x y z hx hy (hr z hz) e (h1 z hz)
def uH {S:D->Prop} (as:∀ x y,S x->S y->ltO x y = true->ltO y x = false) (tr:∀ x y z,S x->S y->S z->ltO y x = false->ltO z y = false->ltO z x = false):∀ {ds:List D},(∀ x∈ds,S x)->(kb ds).Pairwise λa b=>ltO b a = false
 | [],_=>.nil
 | x::xs,h=>yC as tr (h x ak) (λy hy=>h y (aj _ ((lA xs).mem_iff.mp hy))) (uH as tr λy hy=>h y (aj _ hy))
def Big.sorted {ds es:List D} (b:Big ds) (p:es.Perm ds) (u:es.Pairwise λx y=>ltO y x = false):es = kb ds :=
 pN (lt:=ltO) (p.trans (lA ds).symm) u (uH (S:=(·∈ds)) (λx y hx hy=>b.as x hx y hy) (λx y z hx hy hz=>b.tr x hx y hy z hz) λx hx=>hx) λx y hx hy=>b.one x (p.mem_iff.mp hx) y (p.mem_iff.mp hy)
def MT {prog:bp} {w:bQ} {A A':bo} {s:ai} {h':cg} {ds:List D} {its:List af} (hu:A.units+200 < cLine) (hA:A'.units<=A.units+2) (rd:RdL s.heap ds its) (l3:its.length = ds.length) (hk:∀ x∈ds,bG x≠0/\bG x = bG (ds.getD 0 .non)) (hlt:∀ x∈ds,∀ y∈ds,∃ k,kS x y = some k)
 (k:∀ b o,s.heap.get? b = some o->h'.get? b = some o) (i j:Nat) (hi:i < its.length) (hj:j < its.length) (C:Bool->ai->Prop) (c:C (mF ds i j) { s with heap:=h' }) :
 kas_ask prog w A' (if bG (ds.getD 0 .non) < 3 then oneType' else tuples' true) its i j C { s with heap:=h' }:=by
 have mem:∀ i,i < its.length->ds.getD i .non∈ds:=λi hi=>by
  have:i < ds.length:=by lia
  rw [dK,aE this];exact jQ this
 obtain ⟨b,hb⟩:=hlt _ (mem i hi) _ (mem j hj);have eb:mF ds i j = b:=by unfold mF;rw [hb];rfl
 rw [eb] at c;have ri:=RdV.keep k _ _ (RdL.nth i rd ∅);have rj:=RdV.keep k _ _ (RdL.nth j rd ∅);have ki:=hk _ (mem i hi);have kj:=hk _ (mem j hj);unfold kS at hb;split at hb
 . rename_i hd;unfold kas_ask;generalize ds.getD i .non = x at ri hb hd ki;generalize ds.getD j .non = y at rj hb hd kj;generalize its.getD i bT = u at ri;generalize its.getD j bT = v at rj;generalize bG (ds.getD 0 .non) = n0 at ki kj;by_cases h3:n0 < 3
   . rw [if_pos h3,keyLt'_oneType];refine CT (s:={ s with heap:=h' }) ri rj ?_ hb c;have:=ki.1;have k1:n0 = 1\/n0 = 2:=by lia
     rcases k1 with k1 | k1
     . exact .inl ⟨∅,∅⟩
     . exact .inr ⟨∅,∅⟩
   . rw [if_neg h3]
     have tx:∀ z:D,bG z = n0->∃ p r,z = .tup (p::r)/\((n0 = 3/\bG p = 1)\/(n0 = 4/\bG p = 2)):=λz hz=>by
      cases z<;>first | (simp [bG] at hz;lia) | skip
      rename_i l
      cases l with
      | nil=>simp [bG] at hz;lia
      | cons p r=>cases p<;>first | (simp [bG] at hz;lia) | exact ⟨_,_,rfl,by simp [bG] at hz |-;lia⟩
     obtain ⟨p1,r1,rfl,w1⟩:=tx x ki.2;obtain ⟨p2,r2,rfl,w2⟩:=tx y kj.2;unfold RdV at ri rj;obtain ⟨a1,i1,rfl,⟨o1,g1,c1,m1,d1⟩,t1⟩:=ri;obtain ⟨a2,i2,rfl,⟨o2,g2,c2,m2,d2⟩,t2⟩:=rj;have z1:i1.size = (p1::r1).length:=by simpa using t1.length
     have z2:i2.size = (p2::r2).length:=by simpa using t2.length
     unfold ltD at hb;unfold dep at hd;refine kat_lt (s:={ s with heap:=h' }) g1 d1 g2 d2 (qh (s:={ s with heap:=h' }) (p1::r1) (p2::r2) i1.toList i2.toList 0 t1 t2 ∅ hb (by rw [z1,z2]) (λ_ x y hx hy=>?_) c);cases hx;cases hy;rcases w1 with ⟨e,w1⟩ | ⟨e,w1⟩<;>rcases w2 with ⟨e',w2⟩ | ⟨e',w2⟩<;>first | (exact .inl ⟨w1,w2⟩) | (exact .inr ⟨w1,w2⟩) | lia
 . cases hb
def Ai {α β:Type} {f:α->β} {rs us:List β} (p:rs.Perm us):∀ T:List α,us = T.map f->∃ T':List α,T'.Perm T/\rs = T'.map f:=by
 induction p with
 | nil=>exact λT e=>⟨T,.refl _,e⟩
 | cons x p ih =>
   intro T e
   cases T with
   | nil=>cases e
   | cons t T =>
     rw [aN] at e;injection e with e1 e2;obtain ⟨T',q,rfl⟩:=ih T e2
     exact ⟨t::T',q.cons t,by rw [aN,e1]⟩
 | swap x y l =>
   intro T e
   cases T with
   | nil=>cases e
   | cons t T =>
     cases T with
     | nil=>cases e
     | cons t2 T =>
       rw [aN,aN] at e;injection e with e1 e2;injection e2 with e2 e3
       exact ⟨t2::t::T,.swap _ _ _,by rw [aN,aN,e1,e2,e3]⟩
 | trans p1 p2 ih1 ih2 =>
   intro T e;obtain ⟨T2,q2,e2⟩:=ih2 T e;obtain ⟨T1,q1,e1⟩:=ih1 T2 e2;exact ⟨T1,q1.trans q2,e1⟩
def list_range {α:Type} (l:List α) (d:α):l = (dJ l.length).map λi=>l.getD i d:=by
 apply List.ext_getElem
 . simp
 . intro i h1 h2;simp [dK,aE h1]
open Classical in
def tU {X:Cx} (hu:X.A.units+200 < cLine):dG X (.builtin "sorted") (λxs H Q=>∃ F ds v,xs = [v]/\dI X.K H F (.lst ds) v/\2<=ds.length/\Big ds/\∀ p ys,H p = none->aK X.K H F (kb ds) ys->Q (.ref p) (upd H p (.lst ys))):=by
 intro pins s σ H xs us Q I r h;obtain ⟨F,ds,v,rfl,rb,h2,big,q⟩:=h;obtain ⟨a,ws,rfl,hl,rl⟩:=rb.lst;obtain ⟨u,rfl,rx⟩:=vals1 r;cases rx;obtain ⟨its,n,rv,ho,hz⟩:=hl.obj I
 have hdep:cO ds < 100000:=tH λx hx=>by
  obtain ⟨b,hb⟩:=big.cmp x hx x hx;unfold kS at hb;split at hb
  . lia
  . cases hb
 have rd:=nB I ds ws its rl rv hdep;have l1:=rl.length;have l2:=rv.length;have l3:its.length = ds.length:=by lia
 have isl:s.heap.IsList a its.toArray:=⟨_,ho,rfl,n,rfl⟩;have nth:∀ i,i < ds.length->RdV s.heap (ds.getD i .non) (its.getD i bT):=λi hi=>RdL.nth i rd hi
 have mem:∀ i,i < ds.length->ds.getD i .non∈ds:=λi hi=>by
  rw [dK,aE hi];exact jQ hi
 have at_:∀ u∈its,∃ i,i < ds.length/\u = its.getD i bT:=λu hu=>by
  obtain ⟨i,hi,e⟩:=List.getElem_of_mem hu;exact ⟨i,∅,by rw [dK,aE hi];exact e.symm⟩
 let bl:af->af->Bool:=λu v=>decide (∃ x y,RdV s.heap x u/\RdV s.heap y v/\ltO x y = true)
 have hbl:∀ {i j:Nat},i < ds.length->j < ds.length->bl (its.getD i bT) (its.getD j bT) = ltO (ds.getD i .non) (ds.getD j .non):=λ{i j} hi hj=>by
  show decide _ = _
  cases e:ltO (ds.getD i .non) (ds.getD j .non) with
  | true=>exact decide_eq_true ⟨_,_,nth i hi,nth j hj,e⟩
  | false =>
    refine decide_eq_false ?_;rintro ⟨x,y,k1,k2,k3⟩;rw [RdV.inj _ _ _ k1 (nth i hi),RdV.inj _ _ _ k2 (nth j hj),e] at k3;cases k3
 refine wt (bl:=bl) (κ:=if bG (ds.getD 0 .non) < 3 then oneType' else tuples' true) isl ∅ (by have:=big.len;lia) (λA' h' hA k C c=>?_) (λA' h' hA k u v hu' hv' C c=>?_) (λu v hu' hv'=>?_) (λu v z hu' hv' hz'=>?_) λrs r1 r2=>?_
 . exact DE (s:={ s with heap:=h' }) (RdL.keep k ds its rd) big.hd ∅ c
 . obtain ⟨i,hi,rfl⟩:=at_ u hu';obtain ⟨j,hj,rfl⟩:=at_ v hv';rw [hbl hi hj] at c;exact MT hu hA rd l3 big.hd big.cmp k i j ∅ ∅ C c
 . obtain ⟨i,hi,rfl⟩:=at_ u hu';obtain ⟨j,hj,rfl⟩:=at_ v hv';rw [hbl hi hj,hbl hj hi];exact big.as _ (mem i hi) _ (mem j hj)
 . obtain ⟨i,hi,rfl⟩:=at_ u hu';obtain ⟨j,hj,rfl⟩:=at_ v hv';obtain ⟨k,hk,rfl⟩:=at_ z hz';rw [hbl hj hi,hbl hk hj,hbl hk hi];exact big.tr _ (mem i hi) _ (mem j hj) _ (mem k hk)
 . obtain ⟨T,pT,rfl⟩:=Ai r1 _ (list_range its bT)
   have hT:∀ i∈T,i < ds.length:=λi hi=>by
    have:=List.mem_range.mp (pT.mem_iff.mp hi)
    lia
   have ry:aK X.K H F (T.map λi=>ds.getD i .non) (T.map λi=>ws.getD i .non):=qx rl T hT;have vy:Vals (T.map λi=>ws.getD i .non) (T.map λi=>its.getD i bT):=qw rv T λi hi=>by have:=hT i hi;lia
   have pd:(T.map λi=>ds.getD i .non).Perm ds:=by
    have:=pT.map λi=>ds.getD i .non;rw [l3,<- list_range] at this;exact this
   have ud:(T.map λi=>ds.getD i .non).Pairwise λx y=>ltO y x = false:=by
    rw [EO] at r2 |-;exact r2.imp_of_mem λ{i j} hi hj e=>by rw [<- hbl (hT j hj) (hT i hi)];exact e
   rw [big.sorted pd ud] at ry;obtain ⟨e,he⟩:=sortedAll_at s.heap its (T.map λi=>its.getD i bT).toArray;refine ⟨.ref (s.heap.objs.size+1),upd H (s.heap.objs.size+1) (.lst (T.map λi=>ws.getD i .non)),I.laid (t':=s.toks) (λb u hb=>sortedAll_old hb) (eV _) ⟨?_,_,e,vy,he⟩,rfl,q _ _ (I.hok.fresh (eV _)) ry⟩;have e1:=pT.length_eq;rw [oy] at e1;have:=big.len;rw [aB]
   lia
def wu {ds:List D} (h:ds.length < 2):pJ ds = ds/\kb ds = ds:=by
 refine ⟨by unfold pJ;rw [if_pos h],?_⟩
 match ds,h with
 | [],_=>rfl
 | [x],_=>rfl
def Big.short {ds:List D} (b:Big ds) (h:ds.length < 64):sortable ds = true:=by
 unfold sortable;simp only [aa,decide_eq_true_eq,cX];refine ⟨⟨h,λx hx=>?_⟩,λx hx y hy=>?_⟩
 . obtain ⟨h1,h2⟩:=b.hd x hx;exact ⟨by simpa using h1,by simpa using h2⟩
 . obtain ⟨k,e⟩:=b.cmp x hx y hy;rw [e];rfl
def tV {X:Cx} (hu:X.A.units+200 < cLine):dG X (.builtin "sorted") (λxs H Q=>∃ F ds v,xs = [v]/\dI X.K H F (.lst ds) v/\Big ds/\∀ p ys,H p = none->aK X.K H F (kb ds) ys->Q (.ref p) (upd H p (.lst ys))):=by
 intro pins s σ H xs us Q I r h;obtain ⟨F,ds,v,e,rb,big,q⟩:=h;by_cases h2:ds.length < 2
 . obtain ⟨e1,e2⟩:=wu h2;rw [e2,<- e1] at q;exact tR hu pins s σ H xs us Q I r ⟨F,ds,v,e,rb,big.short ∅,q⟩
 . exact tU hu pins s σ H xs us Q I r ⟨F,ds,v,e,rb,∅,big,q⟩
end PP
end
section
namespace PP
open PySem
mutual
theorem uP:∀ a b:D,gU a b = true->a = b
 | .non,b,h=>by unfold gU at h;cases h
 | .lst _,b,h=>by unfold gU at h;cases h
 | .fn _ _,b,h=>by unfold gU at h;cases h
 | .bl a,b,h=>by
   cases b<;>unfold gU at h<;>first | (cases h;done) | exact congrArg D.bl (of_decide_eq_true h)
 | .int a,b,h=>by
   cases b<;>unfold gU at h<;>first | (cases h;done) | exact congrArg D.int (of_decide_eq_true h)
 | .str a,b,h=>by
   cases b<;>unfold gU at h<;>first | (cases h;done) | exact congrArg D.str (of_decide_eq_true h)
 | .tup a,b,h=>by
   cases b<;>unfold gU at h<;>first | (cases h;done) | exact congrArg D.tup (qZ a _ h)
theorem qZ:∀ a b:List D,gH a b = true->a = b
 | [],[],_=>rfl
 | [],_::_,h=>by unfold gH at h;cases h
 | _::_,[],h=>by unfold gH at h;cases h
 | x::xs,y::ys,h=>by
   unfold gH at h;rw [aa] at h;rw [uP x y h.1,qZ xs ys h.2]
end
def Hr {ds:List D} (h:AD ds = true):Big ds:=by
 unfold AD at h;simp only [aa,decide_eq_true_eq,cX,cE,gF] at h;obtain ⟨⟨⟨h1,h2⟩,h3⟩,h4⟩:=h;refine ⟨h1,λx hx=>?_,λx hx y hy=>?_,λx hx y hy e=>?_,λx hx y hy z hz e1 e2=>?_,λx hx y hy e1 e2=>?_⟩
 . obtain ⟨a,b⟩:=h2 x hx;exact ⟨by simpa using a,by simpa using b⟩
 . exact ja.mp (h3 x hx y hy).1.1
 . rcases (h3 x hx y hy).1.2 with z | z
   . rw [e] at z;cases z
   . exact z
 . rcases h4 x hx y hy with z' | z'
   . rw [e1] at z';cases z'
   . rcases z' z hz with z' | z'
     . rw [e2] at z';cases z'
     . exact z'
 . rcases (h3 x hx y hy).2 with z | z
   . rcases z with z | z
     . rw [e1] at z;cases z
     . rw [e2] at z;cases z
   . exact uP x y z
end PP
end
section
namespace PP
open PySem L2 PyProof.Rows
variable [Tbs]
section
variable {K:PySem.W.Frag} {cx:Cl} {X:Cx}
def si:PA X [] (tEs X.K cx .nil):=by
 refine λpos pins s σ H Q I h=>sG pos pins s σ H Q I ?_;obtain ⟨G,F,δ,ds,δ',ok,ev,post⟩:=h;simp only [dU] at ev;cases ev;exact post [] H F Step.refl (λ_=>Sim.refl H) ok ⟨rfl,rfl⟩
def pK (pc:(!bZ a || npS es) = true) (ha:PE X y (tE X.K cx a)) (hr:PA X ys (tEs X.K cx es)) (hs:starEach (y::ys) X.env = (false,eval y X.env)::starEach ys X.env):PA X (y::ys) (tEs X.K cx (.cons a es)):=by
 refine λpos pins s σ H Q I h=>jx ha hr hs pos pins s σ H Q I ?_;obtain ⟨G,F,δ,ds,δ',ok,ev,post⟩:=h;simp only [dU,ae,ab] at ev;obtain ⟨⟨x,δ1⟩,ea,⟨ds',δ2⟩,eb,e⟩:=ev;cases e;refine ⟨G,F,δ,x,δ1,ok,ea,λv H1 F1 st1 sm1 ok1 r1=>⟨G,F1,δ1,ds',δ2,ok1,eb,λvs H2 F2 st2 sm2 ok2 r2=>?_⟩⟩;refine post (v::vs) H2 F2 (st1.trans st2) (λz=>?_) ok2 ⟨x,ds',v,vs,rfl,rfl,RelM.step ok1.fd st2 (λz=>sm2 (by rw [z] at pc;simpa using pc)) r1,r2⟩;have z':(np a && npS es) = true:=z;rw [aa] at z';exact (sm1 z'.1).trans (sm2 z'.2)
def mU.rl:∀ {es:Es} {ds:List D} {vs:List V},gu es = true->mU K H F es ds vs->aK K H F ds vs
 | .nil,ds,vs,_,h=>by obtain ⟨rfl,rfl⟩:=h;exact aK.nil
 | .cons e es,ds,vs,n,h=>by
   obtain ⟨d,ds',v,vs',rfl,rfl,h1,h2⟩:=h;have n':(!bZ e && gu es) = true:=n;rw [aa] at n';exact aK.cons (eY n'.1 h1) (mU.rl n'.2 h2)
def vK (K:PySem.W.Frag) (H:Hp) (F:aq->Prop):List D->List V->Prop
 | [],vs=>vs = []
 | d::ds,vs=>∃ v vs',vs = v::vs'/\dI K H F d v/\vK K H F ds vs'
def mU.bl:∀ {es:Es} {ds:List D} {vs:List V},mU K H F es ds vs->vK K H F ds vs
 | .nil,ds,vs,h=>by obtain ⟨rfl,rfl⟩:=h;rfl
 | .cons e es,ds,vs,h=>by
   obtain ⟨d,ds',v,vs',rfl,rfl,h1,h2⟩:=h;exact ⟨v,vs',rfl,h1.b,mU.bl h2⟩
def yO {f:List D->Option D} {es:Es} {δ δ':Loc} {d:D} (ev:(do let (ds,δ1) <- dU cx es δ;return (<- f ds,δ1)) = some (d,δ')):∃ ds,dU cx es δ = some (ds,δ')/\f ds = some d:=by
 simp only [ae,ab] at ev;obtain ⟨⟨ds,δ1⟩,ea,d',hd,e⟩:=ev;cases e;exact ⟨ds,ea,hd⟩
def FH (n:gu es = true) (h:PA X xs (tEs X.K cx es)):PE X (.Tuple xs k pos) (tE X.K cx (.tup es)):=by
 refine PE.imp (CM h) λσ H Q h=>?_;obtain ⟨G,F,δ,d,δ',ok,ev,post⟩:=h;simp only [evE,ae,ab] at ev;obtain ⟨⟨ds,δ1⟩,ea,ev⟩:=ev;split at ev
 . rename_i hz;cases ev;refine ⟨G,F,δ,ds,δ1,ok,ea,λvs H1 F1 st1 sm1 ok1 r1=>?_⟩;have r:=r1.rl n;refine ⟨by rw [r.length];exact hz,λp hp=>?_⟩;obtain ⟨o1,o2,o3,o4⟩:=ok1.laid hp (.tup vs);exact post _ _ _ (st1.trans o2) (λz=>(sm1 z).trans o3) o1 (gk (lC ok1 hp r))
 . cases ev
def FO (n:gu es = true) (h:PA X xs (tEs X.K cx es)):PE X (.List xs pos) (tE X.K cx (.lst es)):=by
 refine PE.imp (CO h) λσ H Q h=>?_;obtain ⟨G,F,δ,d,δ',ok,ev,post⟩:=h;simp only [evE,ae,ab] at ev;obtain ⟨⟨ds,δ1⟩,ea,ev⟩:=ev;split at ev
 . rename_i hz;cases ev;refine ⟨G,F,δ,ds,δ1,ok,ea,λvs H1 F1 st1 sm1 ok1 r1=>?_⟩;have r:=r1.rl n;refine ⟨by rw [r.length];exact hz,λp hp=>?_⟩;obtain ⟨o1,o2,o3,o4⟩:=ok1.laid hp (.lst vs);exact post _ _ _ (st1.trans o2) (λz=>(sm1 z).trans o3) o1 (gk (lD ok1 hp r))
 . cases ev
def aK.at {H:Hp} {F:aq->Prop} {ds:List D} {xs:List V} {i:Int} {d:D} (h:aK K H F ds xs) (e:atI ds i = some d):∃ v,atI xs i = some v/\Rel K H F d v:=by
 unfold atI at e |-;rw [h.length]
 cases q:ixN ds.length i with
 | none=>rw [q] at e;cases e
 | some j =>
   rw [q] at e;exact h.get e
def Jb (pc:(!bZ a || np b) = true) (ha:PE X y (tE X.K cx a)) (hb:PE X z (tE X.K cx b)) (hp:PlainIx z):PE X (.Subscript y z pos) (tE X.K cx (.ix a b)):=by
 refine PE.imp (Mg Ku ha hb hp) λσ H Q h=>?_;obtain ⟨G,F,δ,d,δ',ok,ev,post⟩:=h;simp only [evE,ae,ab] at ev;obtain ⟨⟨x,δ1⟩,ea,⟨y',δ2⟩,eb,d',hd,e⟩:=ev;cases e;dsimp only at eb hd post;refine two ok ea eb pc λv u H2 F2 st sm ok2 r1 r2=>?_;unfold ixD at hd;split at hd
 . have e2:=r2.b.int;obtain ⟨p,xs,e1,h1,h2⟩:=r1.b.lst;obtain ⟨w,hw,rw'⟩:=h2.at hd;exact .inl ⟨p,xs,_,w,e1,e2,h1.sq,hw,post _ _ _ st sm ok2 (gk rw')⟩
 . have e2:=r2.b.int;obtain ⟨p,xs,e1,h1,h2⟩:=r1.b.tup;obtain ⟨w,hw,rw'⟩:=h2.at hd;exact .inr (.inl ⟨p,xs,_,w,e1,e2,h1,hw,post _ _ _ st sm ok2 (gk rw')⟩)
 . have e2:=r2.b.int;have e1:=r1.b.str;split at hd
   . rename_i hz;rw [aQ] at hd;obtain ⟨c,hc,rfl⟩:=hd;exact .inr (.inr ⟨_,_,c,e1,e2,hz,hc,post _ _ _ st sm ok2 (gk (iI _))⟩)
   . cases hd
 . cases hd
def HF (h:∀ e,o = .yes e->∃ y,l = some y/\(!bZ e) = true/\PE X y (tE X.K cx e)) (hn:o = .no->l = none):PO X l (tO X.K cx o):=by
 cases o with
 | no =>
   rw [hn rfl];intro pins s σ H Q I q;refine Gu pins s σ H Q I ?_;obtain ⟨G,F,δ,d,δ',ok,ev,post⟩:=q;simp only [evO] at ev;cases ev
   exact post H F Step.refl (λ_=>Sim.refl H) ok
 | yes e =>
   obtain ⟨y,rfl,n,hy⟩:=h e rfl;intro pins s σ H Q I q;refine Gr hy pins s σ H Q I ?_;obtain ⟨G,F,δ,d,δ',ok,ev,post⟩:=q;simp only [evO,ae,ab] at ev;obtain ⟨⟨x,δ1⟩,ea,ev⟩:=ev
   cases x with
   | int i =>
     cases ev
     exact ⟨G,F,δ,.int i,δ',ok,ea,λv H1 F1 st1 sm1 ok1 r1=>⟨i,by have:=eY n r1;unfold Rel at this;exact this,post H1 F1 st1 sm1 ok1⟩⟩
   | _=>cases ev
def IZ {a:E} {lo hi:Eo} {y:aG} {l h:Option aG} {pos p2:Pos} (pc:(!bZ a || (npO lo && npO hi)) = true) (ha:PE X y (tE X.K cx a)) (hl:PO X l (tO X.K cx lo)) (hh:PO X h (tO X.K cx hi)):PE X (.Subscript y (.Slice l h none p2) pos) (tE X.K cx (.sl a lo hi)):=by
 refine PE.imp (uU (xR.or (Je.or Jf)) ha hl hh) λσ H Q h=>?_;obtain ⟨G,F,δ,d,δ',ok,ev,post⟩:=h;simp only [evE,ae,ab] at ev;obtain ⟨⟨x,δ1⟩,ea,⟨l',δ2⟩,eb,⟨h',δ3⟩,ec,d',hd,e⟩:=ev;cases e;dsimp only at eb ec hd post;refine ⟨G,F,δ,x,δ1,ok,ea,λv H1 F1 st1 sm1 ok1 r1=>⟨G,F1,δ1,l',δ2,ok1,eb,λH2 F2 st2 sm2 ok2=>⟨G,F2,δ2,h',δ3,ok2,ec,λH3 F3 st3 sm3 ok3=>?_⟩⟩⟩;have st:=st2.trans st3
 have rb:dI X.K H3 F3 x v:=by
  refine (RelM.step ok1.fd st (λz=>?_) r1).b;rw [z] at pc;have pc':(npO lo && npO hi) = true:=by simpa using pc
  rw [aa] at pc';exact (sm2 pc'.1).trans (sm3 pc'.2)
 have fin:∀ w H4,iC H3 H4->Ok X.K G F3 σ H4 δ3->Rel X.K H4 F3 d w->Q w H4:=λw H4 s4 o4 r4=>post w H4 F3 ((st1.trans st).trans (Step.of_same s4)) (λz=>by
  have z':(np a && npO lo && npO hi) = true:=z;rw [aa,aa] at z';exact (((sm1 z'.1.1).trans (sm2 z'.1.2)).trans (sm3 z'.2)).trans (.of s4)) o4 (gk r4)
 unfold slD at hd;split at hd
 . cases hd;obtain ⟨p,xs,e1,h1,h2⟩:=rb.lst;refine .inl ⟨p,xs,e1,h1.sq,λq hq=>?_⟩;obtain ⟨o1,o2,o3,o4⟩:=ok3.laid hq (.lst (qJ xs l' h'));exact fin _ _ (cF hq _) o1 (lD ok3 hq (h2.cut l' h'))
 . split at hd
   . cases hd
   . rename_i hw;cases hd;obtain ⟨p,xs,e1,h1,h2⟩:=rb.tup;refine .inr (.inl ⟨p,xs,e1,h1,by rw [h2.length];exact hw,λq hq=>?_⟩);obtain ⟨o1,o2,o3,o4⟩:=ok3.laid hq (.tup (qJ xs l' h'));exact fin _ _ (cF hq _) o1 (lC ok3 hq (h2.cut l' h'))
 . split at hd
   . cases hd;have e1:=rb.str;subst e1;exact .inr (.inr ⟨_,rfl,‹_›,fin _ _ (λb o e=>e) ok3 (iI _)⟩)
   . cases hd
 . cases hd
def spF (K:PySem.W.Frag) (f:List D->Option D):Sp:=λvs H Q _=>∃ F ds d,FD F H/\TF F/\gY H/\aK K H F ds vs/\f ds = some d/\∀ v H',Sim H H'->gY H'->Rel K H' F d v->Q v H'
def BX {f:Nat} {es:Es} {x:Str} {y:aG} {ys:List aG} {k:Nat} {a:aq} {fd:eM} {ps:List Str} {p pos:Pos} (n:gu es = true) (fn:jJ X.prog X.w X.K X.mg X.base CX0 k a fd ps (spF X.K (cx.call f))) (hr:jU k X.A) (hg:Gl X x)
 (hm:X.mg x = some (.ref a)) (hk:PySem.W.keepIn X.K (.ref a) = true) (hb:Binds X.K fd ps []) (hA:PA X (y::ys) (tEs X.K cx es)) (hd:(x == ("__debug__":Str)) = false) (he:starEach (y::ys) X.env = (false,eval y X.env)::starEach ys X.env) (hpl:(backTo pos (starEach ys X.env)).any (·.1) = false) :
 PE X (.Call (.Name x p) (y::ys) [] pos) (tE X.K cx (.call f es)):=by
 refine PE.imp (sF fn hr hg hm hk hb .nil (yg) hA hd he hpl) λσ H Q h=>?_;obtain ⟨G,F,δ,d,δ',ok,ev,post⟩:=h;simp only [evE] at ev;obtain ⟨ds,ea,hd⟩:=yO ev;refine ⟨G,F,δ,ds,δ',ok,ea,λvs H1 F1 st1 sm1 ok1 r1=>?_⟩;show spF X.K (cx.call f) (vs++[]) H1 Q E0;rw [bA];exact ⟨F1,ds,d,ok1.fd,ok1.tf,ok1.tabs,r1.rl n,hd,λv H2 s2 t2 r2=>post v H2 F1 (st1.trans (ok1.call s2 t2).2) (λz=>(sm1 z).trans s2) (ok1.call s2 t2).1 (gk r2)⟩
def oN {e:E} {x:aG} {es:Es} {f:List D->Option D} (hE:PE X x (tE X.K cx e)) (he:∀ whole,isTrue x X.env whole = (do let v <- whole;standAt x.pos;holding [v] (truthy v))) (n:bZ e = false)
 (e1:∀ δ,evE cx e δ = (do let (ds,δ1) <- dU cx es δ;return (<- f ds,δ1))) (e2:∀ δ,evT cx e δ = (do let (ds,δ1) <- dU cx es δ;let d <- f ds;return (<- tv d,δ1))):PT X x (tT X.K cx e):=by
 refine PT.imp (pP hE he) λσ H Q h=>?_;obtain ⟨G,F,δ,k,δ',ok,ev,post⟩:=h;rw [e2] at ev;simp only [ae,ab] at ev;obtain ⟨⟨ds,δ1⟩,ea,d,hd,k',hk,e⟩:=ev;cases e;refine ⟨G,F,δ,d,δ1,ok,?_,λv H1 F1 st1 sm1 ok1 r1=>⟨k,we r1.b hk,post H1 F1 st1 sm1 ok1⟩⟩;rw [e1];simp only [ae,ab];exact ⟨(ds,δ1),ea,d,hd,rfl⟩
def BY (hE:PE X x (tE X.K cx e)) (he:∀ whole,isTrue x X.env whole = (do let v <- whole;standAt x.pos;holding [v] (truthy v))) (e2:∀ δ k δ',evT cx e δ = some (k,δ')->∃ d,evE cx e δ = some (d,δ')/\tv d = some k):PT X x (tT X.K cx e) :=
 PT.imp (pP hE he) λσ H Q ⟨G,F,δ,k,δ',ok,ev,post⟩=>let ⟨d,e1,e3⟩:=e2 _ _ _ ev;⟨G,F,δ,d,δ',ok,e1,λv H1 F1 st1 sm1 ok1 r1=>⟨k,we r1.b e3,post H1 F1 st1 sm1 ok1⟩⟩
def rB (K:PySem.W.Frag) (f:List D->Option D):List V->Hp->VK->Prop:=λxs H Q=>∃ F ds d,FD F H/\vK K H F ds xs/\f ds = some d/\∀ v H',iC H H'->Rel K H' F d v->Q v H'
def dG.imp {f:af} {r r':List V->Hp->VK->Prop} (h:dG X f r) (w:∀ xs H Q,r' xs H Q->r xs H Q):dG X f r':=λpins s σ H xs us Q I rv q=>h pins s σ H xs us Q I rv (w _ _ _ q)
def b1 (h:vK K H F [d] xs):∃ v,xs = [v]/\dI K H F d v:=by
 obtain ⟨v,vs,rfl,h1,h2⟩:=h;cases h2;exact ⟨v,rfl,h1⟩
def b2 (h:vK K H F [d,e] xs):∃ v u,xs = [v,u]/\dI K H F d v/\dI K H F e u:=by
 obtain ⟨v,vs,rfl,h1,u,us,rfl,h2,h3⟩:=h;cases h3;exact ⟨v,u,rfl,h1,h2⟩
def rq (fd:FD F H) (hp:H p = none):¬ F p:=fd.none hp
def KN:dG X (.builtin "len") (rB X.K GS):=by
 refine dG.imp (tX.or tW) λxs H Q zz=>?_;obtain ⟨F,ds,d,fd,r,e,q⟩:=zz;unfold GS at e;split at e
 . split at e
   . cases e;obtain ⟨v,rfl,rv⟩:=b1 r;exact .inr ⟨_,by rw [rv.str],‹_›,q _ _ (iC.refl H) (eA _)⟩
   . cases e
 . cases e;obtain ⟨v,rfl,rv⟩:=b1 r;obtain ⟨a,ys,rfl,h1,h2⟩:=rv.lst;exact .inl ⟨a,ys,rfl,.inl h1.sq,by rw [h2.length];exact q _ _ (iC.refl H) (eA _)⟩
 . cases e;obtain ⟨v,rfl,rv⟩:=b1 r;obtain ⟨a,ys,rfl,h1,h2⟩:=rv.tup;exact .inl ⟨a,ys,rfl,.inr h1,by rw [h2.length];exact q _ _ (iC.refl H) (eA _)⟩
 . cases e
def AA:dG X (.type "int") (λxs H Q=>∃ x n,xs = [.str x]/\PySem.intText? x = some n/\x.length<=640/\Q (.int n) H):=by
 intro pins s σ H xs us Q I rv h;obtain ⟨x,n,rfl,h1,h2,q⟩:=h;obtain ⟨u,rfl,ru⟩:=rv.one;obtain ⟨t,rfl⟩:=ru;exact PySem.W.KIN.call_text h1 h2 ⟨.int n,H,I.tok _,⟨_,rfl⟩,q⟩
def KO:dG X (.type "int") (rB X.K pG):=by
 refine dG.imp (AB.or AA) λxs H Q zz=>?_;obtain ⟨F,ds,d,fd,r,e,q⟩:=zz;unfold pG at e;split at e
 . cases e;obtain ⟨v,rfl,r1⟩:=b1 r;exact .inl (.inl ⟨_,by rw [r1.int],q _ _ (iC.refl H) (eA _)⟩)
 . cases e;obtain ⟨v,rfl,r1⟩:=b1 r;exact .inl (.inr ⟨_,by rw [r1.bl],q _ _ (iC.refl H) (eA _)⟩)
 . split at e
   . rw [aQ] at e;obtain ⟨n,e1,rfl⟩:=e;obtain ⟨v,rfl,r1⟩:=b1 r;exact .inr ⟨_,n,by rw [r1.str],e1,‹_›,q _ _ (iC.refl H) (eA _)⟩
   . cases e
 . cases e
def KJ:dG X (.type "str") (rB X.K rZ):=by
 refine dG.imp tQ λxs H Q zz=>?_;obtain ⟨F,ds,d,fd,r,e,q⟩:=zz;unfold rZ at e;split at e
 . split at e
   . cases e;obtain ⟨v,rfl,r1⟩:=b1 r;exact ⟨_,by rw [r1.int],‹_›,q _ _ (iC.refl H) (iI _)⟩
   . cases e
 . cases e
def xO (h:iC H H'):Step g0 F H F H':=Step.of_same h
def KI:dG X (.type "tuple") (rB X.K rY):=by
 refine dG.imp qL λxs H Q zz=>?_;obtain ⟨F,ds,d,fd,r,e,q⟩:=zz;unfold rY at e;split at e
 . cases e;obtain ⟨v,rfl,r1⟩:=b1 r;obtain ⟨a,ys,rfl,h1,h2⟩:=r1.lst;refine ⟨a,ys,rfl,.inl ⟨h1.sq,λl hl=>q _ _ (cF hl _) ?_⟩⟩;unfold Rel;exact ⟨l,ys,rfl,SqT.of bU,aK.step fd (xO (cF hl _)) _ _ h2⟩
 . cases e;obtain ⟨v,rfl,r1⟩:=b1 r;obtain ⟨a,ys,rfl,h1,h2⟩:=r1.tup;refine ⟨a,ys,rfl,.inr ⟨h1,q _ _ (iC.refl H) ?_⟩⟩;unfold Rel;exact ⟨a,ys,rfl,h1,h2⟩
 . cases e
def KL:dG X (.type "list") (rB X.K nr):=by
 refine dG.imp mR λxs H Q zz=>?_;obtain ⟨F,ds,d,fd,r,e,q⟩:=zz;unfold nr at e;split at e
 . cases e;obtain ⟨v,rfl,r1⟩:=b1 r;obtain ⟨a,ys,rfl,h1,h2⟩:=r1.lst;refine ⟨a,ys,rfl,.inl h1.sq,λl hl=>q _ _ (cF hl _) ?_⟩;unfold Rel;exact ⟨l,ys,rfl,.inl ⟨.inl bU,rq fd hl⟩,aK.step fd (xO (cF hl _)) _ _ h2⟩
 . cases e;obtain ⟨v,rfl,r1⟩:=b1 r;obtain ⟨a,ys,rfl,h1,h2⟩:=r1.tup;refine ⟨a,ys,rfl,.inr h1,λl hl=>q _ _ (cF hl _) ?_⟩;unfold Rel;exact ⟨l,ys,rfl,.inl ⟨.inl bU,rq fd hl⟩,aK.step fd (xO (cF hl _)) _ _ h2⟩
 . cases e
def En (hu:X.A.units+200 < cLine):dG X (.builtin "sorted") (rB X.K sf):=by
 refine dG.imp (tV hu) λxs H Q zz=>?_;obtain ⟨F,ds,d,fd,r,e,q⟩:=zz;unfold sf at e;split at e
 . split at e
   . rename_i zs hs;cases e;obtain ⟨v,rfl,r1⟩:=b1 r;refine ⟨F,zs,v,rfl,r1,Hr hs,λp ys hp ry=>q _ _ (cF hp _) ?_⟩;unfold Rel;exact ⟨p,ys,rfl,.inl ⟨.inl bU,rq fd hp⟩,aK.step fd (xO (cF hp _)) _ _ ry⟩
   . cases e
 . cases e
def kD {f:Blt} {es:Es} {x:Str} {p pos:Pos} {xs:List aG} (g:List D->Option D) (hg:jS f = g) (h:PE X (.Call (.Name x p) xs [] pos) (tCB (rB X.K g) (tEs X.K cx es))):PE X (.Call (.Name x p) xs [] pos) (tE X.K cx (.blt f es)):=by
 subst hg;refine PE.imp h λσ H Q h=>?_;obtain ⟨G,F,δ,d,δ',ok,ev,post⟩:=h;simp only [evE] at ev;obtain ⟨ds,ea,hd⟩:=yO ev;refine ⟨G,F,δ,ds,δ',ok,ea,λvs H1 F1 st1 sm1 ok1 r1=>?_⟩;exact ⟨F1,ds,d,ok1.fd,r1.bl,hd,λv H2 s2 r2=>post v H2 F1 (st1.trans (Step.of_same s2)) (λz=>(sm1 z).trans (.of s2)) (ok1.same' s2) (gk r2)⟩
end
end PP
end
section
namespace HT
open PySem PySem.Spec PyProof.Rows
section
variable {prog:bp} {w:bQ} {A:bo} {E:af->ai->Prop} {s:ai}
end
end HT
namespace L2
open PySem PySem.Spec PyProof.Rows
section
variable {X:Cx} {e:aG} {st:Option aG} {te:TE} {ts:TO} {pos p2:Pos}
end
end L2
namespace PP
open PySem L2 PyProof.Rows
variable [Tbs]
section
variable {K:PySem.W.Frag} {cx:Cl} {X:Cx}
end
end PP
end
section
namespace PP
open PySem L2 PyProof.Rows
variable [Tbs]
section
variable {K:PySem.W.Frag} {cx:Cl} {X:Cx}
def Jc (hT:tyName f = some T) (ht:t = (T:Str)) (hg:Gl X "isinstance") (hm:X.mg "isinstance" = none) (hgt:Gl X t) (hmt:X.mg t = none) (hy:PE X y (tE X.K cx e)) (hs:starEach [y,.Name t tp] X.env = [(false,eval y X.env),(false,eval (.Name t tp) X.env)]) :
 PE X (.Call (.Name "isinstance" p) [y,.Name t tp] [] pos) (tE X.K cx (.blt f (.cons e .nil))):=by
 have hb:bootBuiltins t = some (.type T):=by
  subst ht;cases f<;>simp [tyName] at hT<;>subst hT<;>rfl
 have hn:t≠"__name__":=by
  subst ht;cases f<;>simp [tyName] at hT<;>subst hT<;>decide
 have hdb:(t == ("__debug__":Str)) = false:=by
  subst ht;cases f<;>simp [tyName] at hT<;>subst hT<;>decide
 have hA:PA X [y,.Name t tp] (BP (tE X.K cx e) (BP (tC (.ty T)) LF)):=jx hy (jx (Gz hgt hmt hb rfl hn hdb) sG rfl) hs;refine PE.imp (pU (Et hT) hg hm rfl hA ⇑0 ⇑0 hs rfl) λσ H Q h=>?_;obtain ⟨G,F,δ,d,δ',ok,ev,post⟩:=h;simp only [evE] at ev;obtain ⟨ds,ea,hd⟩:=yO ev;simp only [dU,ae,ab] at ea;obtain ⟨⟨x,δ1⟩,ea,⟨ds',δ2⟩,eb,e2⟩:=ea;cases eb;cases e2
 obtain ⟨b,rfl⟩:∃ b,d = .bl b:=by
  cases f<;>simp [tyName] at hT<;>(cases x<;>simp [jS,jC] at hd<;>exact ⟨_,hd.symm⟩)
 refine ⟨G,F,δ,x,δ1,ok,ea,λv H1 F1 st1 sm1 ok1 r1=>?_⟩;exact ⟨F1,x,v,b,r1.b,rfl,hd,post _ H1 F1 st1 (λz=>sm1 (by have z':(np e && true) = true:=z;simpa using z')) ok1 (gk (lE b))⟩
def Jr:V->List V->Hp->VK->Prop:=λx vs H Q=>∃ t:Str,x = .str t/\vs = []/\Q (.bl (decide (t.length > 0) && t.cps.all di)) H
def Dp:MtR X "str.isdigit" Jr:=by
 intro pins s σ H x xs v us Q I rx rv h;obtain ⟨y,rfl,rfl,q⟩:=h;obtain ⟨t,rfl⟩:=rx;cases rv;exact call_gives F.slot_str_isdigit (xy s y t) F.entry_str_isdigit (F.args_str_isdigit_1 _) (gives_str_isdigit y t) ⟨.bl _,H,I,rfl,q⟩
def zV (hN:X.N[i]? = some x) (hv:Vis X.env.scope x) (hd:(x == ("__debug__":Str)) = false) (hcd:(x == ("__classdict__":Str)) = false) (hl:ap.endLine = cp.line) :
 PE X (.Call (.Attribute (.Name x pos) "isdigit" ap) [] [] cp) (tE X.K cx (.isdig i)):=by
 refine PE.imp (JH PySem.F.plainAttrs_str PySem.F.slot_str_isdigit PySem.F.type_str_isdigit Dp (iX hN hv hd hcd) rfl (by simpa using hl)) λσ H Q h=>?_;obtain ⟨G,F,δ,d,δ',ok,ev,post⟩:=h;simp only [evE,ae,ab] at ev;obtain ⟨z,e1,ev⟩:=ev
 cases z with
 | str y =>
   cases ev;unfold PP.get at e1;split at e1
   . rename_i d0 q0;cases e1;obtain ⟨v,e2,r⟩:=ok.sl i _ q0;unfold Rel at r;subst r;exact ⟨_,e2,rfl,y,rfl,rfl,post _ H F Step.refl (λ_=>Sim.refl H) ok (gk (lE _))⟩
   . cases e1
   . cases e1
 | _=>cases ev
def Fi (fd:FD F H) (h1:Ls K H F a xs) (h3:aK K H F ds xs):Wk K G F H (Itl K a) ds:=by
 intro F2 H2 st fd2 i;have h4:=(h1.step st).sq;have h5:=aK.step fd st ds xs h3;refine ⟨λd e=>?_,λe=>⟨xs,h4,by rw [h5.length];lia⟩⟩;obtain ⟨v,hv,rv⟩:=h5.get e;refine ⟨⟨xs,v,h4,hv⟩,λx H3 y=>?_⟩;obtain ⟨rfl,y⟩:=y;refine ⟨λ_ _ e=>e,?_⟩;have:=y xs h4;rw [hv] at this;cases this;exact rv
def Ij (fd:FD F H) (h1:SqT K H a xs) (h3:aK K H F ds xs):Wk K G F H (Itt K a) ds:=by
 intro F2 H2 st fd2 i;have h4:=uF fd st.keep h1;have h5:=aK.step fd st ds xs h3;refine ⟨λd e=>?_,λe=>⟨xs,h4,by rw [h5.length];lia⟩⟩;obtain ⟨v,hv,rv⟩:=h5.get e;refine ⟨⟨xs,v,h4,hv⟩,λx H3 y=>?_⟩;obtain ⟨rfl,y⟩:=y;refine ⟨λ_ _ e=>e,?_⟩;have:=y xs h4;rw [hv] at this;cases this;exact rv
def Ik:Wk K G F H (Its x) (x.cps.toList.map λc=>D.str ⟨#[c]⟩):=by
 intro F2 H2 st fd2 i;refine ⟨λd e=>?_,λe=>by show i = x.cps.size;simpa using e⟩;rw [bV,aQ] at e;obtain ⟨c,hc,rfl⟩:=e;have hc':x.cps[i]? = some c:=by simpa using hc
 refine ⟨(Array.getElem?_eq_some_iff.mp hc').1,λv H3 y=>?_⟩;obtain ⟨rfl,c',h1,h2⟩:=y;refine ⟨λ_ _ e=>e,?_⟩;rw [hc'] at h1;cases h1;rw [h2];exact iI _
def Il {G:Gh} {H:Hp} {F:aq->Prop} {lo:Int} {n:Nat}:Wk K G F H (Itr lo n) (su lo n):=by
 intro F2 H2 st fd2 i;unfold su;refine ⟨λd e=>?_,λe=>by rw [e];simp;exact az n⟩;rw [bV,aQ] at e;obtain ⟨c,hc,rfl⟩:=e;have hl:i < n:=by have:=(aA.mp hc).1;simpa using this
 rw [List.getElem?_range hl] at hc;cases hc;refine ⟨hl,λv H3 y=>?_⟩;obtain ⟨rfl,h2⟩:=y;exact ⟨λ_ _ e=>e,by rw [h2];exact eA _⟩
def NI (K:PySem.W.Frag) (tl:TE):TI:=λσ H R=>tl σ H λv H1=>(∃ a,v = .ref a/\(∃ xs,SqL K H1 a xs)/\R (Itl K a) H1)\/(∃ a,v = .ref a/\(∃ xs,SqT K H1 a xs)/\R (Itt K a) H1)\/∃ x,v = .str x/\R (Its x) H1
def JA (hl:PE X l tl):PI X tg l (NI X.K tl):=by
 intro pins s σ H R I h
 have key:∀ {v:af} {s1:ai} {x:V} {H1:Hp},Inv X pins σ H1 s1->RelV x v->((∃ a,x = .ref a/\(∃ xs,SqL X.K H1 a xs)/\R (Itl X.K a) H1)\/(∃ a,x = .ref a/\(∃ xs,SqT X.K H1 a xs)/\R (Itt X.K a) H1)\/∃ y,x = .str y/\R (Its y) H1) ->
  wpAny (model X.prog X.w) X.A (pyIter v) (PIE X pins σ tg R) X.xe s1:=by
  intro v s1 x H1 I1 r1 q1;rcases q1 with ⟨a,rfl,⟨xs,hq⟩,q⟩ | ⟨a,rfl,⟨xs,hq⟩,q⟩ | ⟨z,rfl,q⟩
  . cases r1;obtain ⟨its,rv,p,hz⟩:=I1.list hq;refine Le p.isList ?_;refine ⟨s1.heap.objs.size,[s1.heap.objs.size],_,_,H1,rfl,I1.kept (t':=s1.toks) λb o e=>ao _ e,zN a _,⟨_,bE _ rfl,rfl,rfl⟩,λb hb=>?_,q⟩;have e:b = s1.heap.objs.size:=by simpa using hb
    subst e;exact I1.fpOk (az _) (I1.hok.fresh (az _))
  . cases r1;obtain ⟨its,rv,p,hz⟩:=I1.tuple hq;refine Lb (show s1.heap.IsTuple a its.toArray from p) ?_;refine ⟨s1.heap.objs.size,[s1.heap.objs.size],_,_,H1,rfl,I1.kept (t':=s1.toks) λb o e=>ao _ e,vZ a _,⟨_,bE _ rfl,rfl,rfl⟩,λb hb=>?_,q⟩;have e:b = s1.heap.objs.size:=by simpa using hb
    subst e;exact I1.fpOk (az _) (I1.hok.fresh (az _))
  . obtain ⟨t,rfl⟩:=r1;refine wpAny_pyIter_strU ?_;refine ⟨s1.heap.objs.size,[s1.heap.objs.size],_,_,H1,rfl,I1.kept (t':=s1.toks) λb o e=>ao _ e,BJ s1.heap.objs.size z t,⟨_,bE _ rfl,rfl,rfl⟩,λb hb=>?_,q⟩;have e:b = s1.heap.objs.size:=by simpa using hb
    subst e;exact I1.fpOk (az _) (I1.hok.fresh (az _))
 exact thn (hl pins s σ H _ I h) λv s1 ⟨x,H1,I1,r1,q1⟩=>key I1 r1 q1
def PI.imp (h:PI X tg l t) (w:∀ σ H R,t' σ H R->t σ H R):PI X tg l t':=λpins s σ H R I q=>h pins s σ H R I (w σ H R q)
def IY (n:(!bZ e) = true) (hl:PE X l (tE X.K cx e)):PI X tg l (tI X.K cx (.sq e)):=by
 refine PI.imp (JA hl) λσ H R h=>?_;obtain ⟨G,F,δ,ds,δ',ok,ev,post⟩:=h;simp only [evI,ae,ab] at ev;obtain ⟨⟨d,δ1⟩,ea,ds',hd,e2⟩:=ev;cases e2;dsimp only at hd post;refine ⟨G,F,δ,d,δ1,ok,ea,λv H1 F1 st1 sm1 ok1 r1=>?_⟩;have r:=eY n r1;unfold items at hd;split at hd
 . cases hd;unfold Rel at r;obtain ⟨a,xs,e1,h1,h3⟩:=r;exact .inl ⟨a,e1,⟨xs,h1.sq⟩,post _ _ _ st1 sm1 ok1 (λ_=>Fi ok1.fd h1 h3)⟩
 . cases hd;unfold Rel at r;obtain ⟨a,xs,e1,h1,h3⟩:=r;exact .inr (.inl ⟨a,e1,⟨xs,h1⟩,post _ _ _ st1 sm1 ok1 (λ_=>Ij ok1.fd h1 h3)⟩)
 . split at hd
   . cases hd;unfold Rel at r;exact .inr (.inr ⟨_,r,post _ _ _ st1 sm1 ok1 λ_=>Ik⟩)
   . cases hd
 . cases hd
def FJ (n:(!bZ e) = true) (hg:Gl X "range") (hm:X.mg "range" = none) (hy:PE X y (tE X.K cx e)) (hs:starEach [y] X.env = [(false,eval y X.env)]):PI X tg (.Call (.Name "range" p) [y] [] pos) (tI X.K cx (.rng e)):=by
 refine PI.imp (Ah hg hm (jx hy sG hs) hs) λσ H R h=>?_;obtain ⟨G,F,δ,ds,δ',ok,ev,post⟩:=h;simp only [evI,ae,ab] at ev;obtain ⟨⟨d,δ1⟩,ea,ev⟩:=ev
 cases d with
 | int j =>
   dsimp only at ev;split at ev
   . rename_i hj;cases ev;refine ⟨G,F,δ,.int j,_,ok,ea,λv H1 F1 st1 sm1 ok1 r1=>?_⟩;have r:=eY n r1;unfold Rel at r;subst r;exact ⟨j,rfl,hj.1,hj.2,post _ _ _ st1 sm1 ok1 λ_=>Il⟩
   . cases ev
 | _=>cases ev
end
end PP
end
section
namespace PP
open PySem L2 PyProof.Rows Builtin.Str
variable [Tbs]
section
variable {X:Cx} {cx:Cl}
end
end PP
end
section
namespace PP
open PySem L2 PyProof.Rows
variable [Tbs]
section
variable {X:Cx} {cx:Cl}
def GdK (w:bQ) (K:PySem.W.Frag) (a:aq) (D:List (Str × Int)):Prop :=
 KTD.tabLook KTD.flatLooks (λb=>K.lookup b) a (D.map λp=>(p.1,PyData.int p.2)) = true/\(D.map (·.1)).Nodup/\KTD.hashesOf (λb=>K.lookup b) a = D.map λp=>hashStr w p.1
end
def zR (K:PySem.W.Frag) (f:List D->Option D):Sp:=λvs H Q _=>∃ F ds ws k cs a d,FD F H/\TF F/\gY H/\vs = ws++[.ref a]/\aK K H F ds ws/\FnV H k cs a/\f (ds++[.fn k cs]) = some d/\∀ v H',Sim H H'->gY H'->Rel K H' F d v->Q v H'
def spO (K:PySem.W.Frag) (f:List D->Option D):Sp:=λvs H Q _=>∃ F ds zs,FD F H/\TF F/\gY H/\aK K H F ds vs/\f ds = some zs/\∀ a v H',Sim H H'->gY H'->H a = none->Hand K H' (λb=>F b\/b = a) a zs v->Q v H'
def Hu (P:bp) (w:bQ) (K:PySem.W.Frag) (mg:Str->Option af) (base:cg) (n k:Nat) (f:List D->Option D):Prop :=
 ∀ (A:bo) (outer:List Env) (s:ai) (H:Hp) (a:aq) (us:List af) (vs:List V) (cs:List D) (Q:VK),jU n A->uc P w K mg base A outer s H->Vals vs us->FnV H k cs a ->
  (∃ F ds d,FD F H/\TF F/\gY H/\aK K H F ds vs/\lfL ds = true/\f (ds++cs) = some d/\lf d = true/\∀ v H',Sim H H'->gY H'->Rel K H' F d v->Q v H') ->
  codeAny (model P w) A (.call (.ref a) ⟨us,[]⟩) (CR CX0 outer P w H s Q E0) s
structure Cok (X:Cx) (c:Ck) (cx:Cl) (k:Nat):Prop where
 hN:X.N = c.N
 nd:c.N.Nodup
 vis:∀ x,Vis c.sc x->Vis X.env.scope x
 gl:∀ x,c.sc.names.lookup x = some .globalImplicit->Gl X x
 st:∀ x,L2.Loc c.sc x->L2.Loc X.env.scope x/\(X.fn x = true\/X.env.scope.names.lookup x = some .local)
 kc:∀ x,(c.sc.names.lookup x = some .cell\/c.sc.names.lookup x = some .free)->X.env.kindOf x = some .cell\/X.env.kindOf x = some .free
 calm:X.calm = true
 xe:X.xe = λ_ _=>False
 room:jU k X.A
 fns:∀ (f:Nat) (x:Str) (ps:List Str),c.fns[f]? = some (x,ps)->∃ a fd,X.mg x = some (.ref a)/\PySem.W.keepIn X.K (.ref a) = true/\Binds X.K fd ps []/\jJ X.prog X.w X.K X.mg X.base CX0 k a fd ps (spF X.K (cx.call f))
 fnF:∀ (f:Nat) (x:Str) (ps:List Str),c.fns[f]? = some (x,ps)->cx.hf f = true->∃ a fd,X.mg x = some (.ref a)/\PySem.W.keepIn X.K (.ref a) = true/\Binds X.K fd ps []/\jJ X.prog X.w X.K X.mg X.base CX0 k a fd ps (zR X.K (cx.call f))
 fnO:∀ (f:Nat) (x:Str) (ps:List Str),c.fns[f]? = some (x,ps)->∃ a fd,X.mg x = some (.ref a)/\PySem.W.keepIn X.K (.ref a) = true/\Binds X.K fd ps []/\jJ X.prog X.w X.K X.mg X.base CX0 k a fd ps (spO X.K (cx.call (f+lF)))
 fnD:∀ (f:Nat) (x:Str) (ps:List Str),c.fns[f]? = some (x,ps)->f∈Tbs.dfs->∃ a fd,X.mg x = some (.ref a)/\PySem.W.keepIn X.K (.ref a) = true/\Binds X.K fd ps [.none]/\jJ X.prog X.w X.K X.mg X.base CX0 k a fd ps (spF X.K (cx.call f))
 lam:∀ (n:Nat) (cs:List D) (H:Hp) (a:aq),FnV H n cs a->Hu X.prog X.w X.K X.mg X.base k n (cx.call n)
 blt:∀ x,x∈ji->X.mg x = none
 glob:∀ (g:Nat) (x:Str) (d:D),c.gn[g]? = some x->cx.gl[g]? = some d->∃ u v,X.mg x = some u/\RelV v u/\∀ H F,Rel X.K H F d v
 gsome:∀ (g:Nat) (x:Str),c.gn[g]? = some x->∃ d,cx.gl[g]? = some d
 gds:∀ (n:Str) (l:List (Str × Int)),Tbs.gds.lookup n = some l->∃ a,X.mg n = some (.ref a)/\GdK X.w X.K a l
 pos:k = 0->∀ f ds,cx.call f ds = none
def BE (h:zM sc x = true):Vis sc x:=by
 unfold zM at h;split at h
 . exact .inl ‹_›
 . exact .inr (.inl ‹_›)
 . exact .inr (.inr ‹_›)
 . cases h
def DC (h:Ko sc x = true):L2.Loc sc x:=by
 unfold Ko at h;split at h
 . exact .inl ‹_›
 . exact .inr ‹_›
 . cases h
def Kz (h:glB sc x = true):sc.names.lookup x = some .globalImplicit:=by
 unfold glB at h;split at h
 . assumption
 . cases h
def yp (h:Dm x = true):(x == ("__debug__":Str)) = false/\(x == ("__classdict__":Str)) = false/\x≠("__name__":Str):=by
 unfold Dm at h;rw [aa,aa] at h;refine ⟨by simpa using h.1.1,by simpa using h.1.2,?_⟩;have:=h.2;intro z;subst z
 revert this
 decide
section
variable {X:Cx} {c:Ck} {cx:Cl} {k:Nat}
def Cok.name (C:Cok X c cx k) (h:eO c i x = true):X.N[i]? = some x/\Vis X.env.scope x/\(x == ("__debug__":Str)) = false/\(x == ("__classdict__":Str)) = false:=by
 unfold eO at h;rw [aa,aa] at h;obtain ⟨⟨h1,h2⟩,h3⟩:=h;obtain ⟨n1,n2,n3⟩:=yp h3;exact ⟨by rw [C.hN];exact of_decide_eq_true h1,C.vis x (BE h2),n1,n2⟩
def Cok.to (C:Cok X c cx k) (h:jy c i x = true):X.N[i]? = some x/\L2.Loc X.env.scope x/\(X.fn x = true\/X.env.scope.names.lookup x = some .local):=by
 unfold jy at h;rw [aa,aa] at h;obtain ⟨⟨h1,h2⟩,h3⟩:=h;obtain ⟨s1,s2⟩:=C.st x (DC h2);exact ⟨by rw [C.hN];exact of_decide_eq_true h1,s1,s2⟩
def Cok.global (C:Cok X c cx k) (h:fL c x = true):Gl X x/\(x == ("__debug__":Str)) = false/\x≠("__name__":Str):=by
 unfold fL at h;rw [aa] at h;obtain ⟨n1,n2,n3⟩:=yp h.2;exact ⟨C.gl x (Kz h.1),n1,n3⟩
def Cok.units (C:Cok X c cx k):X.A.units+200 < cLine:=by have:=C.room.un;lia
def Cok.nd' (C:Cok X c cx k):X.N.Nodup:=by rw [C.hN];exact C.nd
def sW:List Nat->TGs
 | []=>MF
 | i::is=>HS (vn i) (sW is)
def ME (K:PySem.W.Frag) (n:Nat) (t:TGs):TG:=λv σ H Q=>∃ a xs,v = .ref a/\(SqT K H a xs\/SqL K H a xs)/\xs.length = n/\t xs σ H Q
def mS {prog:bp} {w:bQ} {A:bo} {E:af->ai->Prop} {s:ai} {env:Env} {elts:List aG} {x1} {pos:Pos} {t:aq} {items:Array af} {Q:Unit->ai->Prop} (hh:A.handled = none) (ht:s.heap.IsList t items)
 (hn:(assignEach elts env).length = items.size) (hstar:(assignEach elts env).findIdx? (·.1) = none)
 (h:∀ h',zq s.heap.objs.size s.heap h'->wpAny (model prog w) A (assignInOrder ((assignEach elts env).map (·.2)) items.toList) Q E { s with heap:=h' }) :
 wpAny (model prog w) A (assign (.Tuple elts x1 pos) env (.ref t)) Q E s:=by
 rw [assign_Tuple];refine ag (gD ?_);unfold unpack;rw [hn,hstar];exact ag (dR (PySem.W.kun_itemsOf hh ht h))
def CL {X:Cx} {es:List aG} {k:Nat} {t:TGs} {n:Nat} {pos:Pos} (hc:X.calm = true) (h:PGs X es t)
 (hn:(assignEach es X.env).length = n:=by rfl) (hst:(assignEach es X.env).findIdx? (·.1) = none:=by rfl):PG X (.Tuple es k pos) (ME X.K n t):=by
 intro pins s σ H v u Q I r hw;obtain ⟨a,xs,e1,hq,hl,hw⟩:=hw;rcases hq with hq | hq
 . exact JB hc h hn hst pins s σ H v u Q I r ⟨a,xs,e1,hq,hl,hw⟩
 . subst e1;cases r;obtain ⟨its,rv,pl,hz⟩:=I.list hq;refine mS (I.ok.hd hc) pl.isList (by simp [hn,<- hl,rv.length]) hst λh' hx=>?_;have I1:Inv X pins σ H { s with heap:=h' }:=I.kept (t':=s.toks) λb o e=>hx b o (bH (aM e)) e;exact h pins _ σ H xs _ Q I1 (by simpa using rv) hw
def gTg (K:PySem.W.Frag):Tg->TG
 | .nm i=>vn i
 | .tp is=>ME K is.length (sW is)
def nC (C:Cok X c cx k):∀ (is:List Nat) (es:List aG),Em c is es = true->PGs X es (sW is)/\(assignEach es X.env).length = is.length/\(assignEach es X.env).findIdx? (·.1) = none
 | [],es,h=>by
   obtain ⟨rfl,_⟩:=fu h
   exact ⟨Gw,rfl,rfl⟩
 | i::is,es,h=>by
   obtain ⟨e,r,rfl,hh⟩:=dT h;rw [aa] at hh;obtain ⟨x,p,rfl,h1⟩:=cA hh.1;obtain ⟨q1,q2,q3⟩:=nC C is r hh.2;obtain ⟨n1,n2,n3⟩:=C.to h1;refine ⟨CK (yf C.nd' n1 n2 n3) q1 rfl,?_,?_⟩
   . show (assignEach r X.env).length+1 = _;rw [q2];rfl
   . show List.findIdx? _ ((false,_)::assignEach r X.env) = none;rw [List.findIdx?_cons,q3];rfl
def lB (C:Cok X c cx k) (h:oI c tg t = true):PG X t (gTg X.K tg):=by
 cases tg with
 | nm i =>
   obtain ⟨_,_,rfl,h1⟩:=cA h;obtain ⟨n1,n2,n3⟩:=C.to h1
   exact yf C.nd' n1 n2 n3
 | tp is =>
   obtain ⟨_,_,_,rfl,h1⟩:=fR h;obtain ⟨q1,q2,q3⟩:=nC C _ _ h1;exact CL C.calm q1 q2 q3
def take_set {α:Type} (l:List α) (i n:Nat) (x:α) (h:n<=i):(l.set i x).take n = l.take n:=by
 apply List.ext_getElem?;intro j;by_cases hj:j < n
 . rw [eC hj,eC hj,bO ∅]
 . rw [dQ (by rw [br];lia),dQ (by rw [br];lia)]
def mh {K:PySem.W.Frag} {G:Gh} {H:Hp} {F:aq->Prop} {Q:L2.St->Hp->Prop}:∀ (is:List Nat) (ds:List D) (xs:List V) (σ:L2.St) (δ:Loc),Ok K G F σ H δ->aK K H F ds xs->is.length = ds.length->is.all (· < δ.length) = true ->
 (∀ σ',Ok K G F σ' H ((is.zip ds).foldl (λδ p=>δ.set p.1 (.val p.2)) δ)->(∀ n,(is.all λi=>decide (n<=i)) = true->σ'.take n = σ.take n)->Q σ' H)->sW is xs σ H Q
 | [],ds,xs,σ,δ,ok,r,hl,_,q=>by
   have:ds = []:=jP.mp hl.symm;subst this;unfold aK at r
   exact ⟨r,q σ ok λ_ _=>rfl⟩
 | i::is,[],xs,σ,δ,ok,r,hl,_,q=>by simp at hl
 | i::is,d::ds,xs,σ,δ,ok,r,hl,ha,q=>by
   unfold aK at r;obtain ⟨y,ys,rfl,r1,r2⟩:=r;rw [hZ,aa] at ha;refine ⟨y,ys,rfl,?_⟩;refine mh is ds ys (σ.set i (some y)) (δ.set i (.val d)) (ok.set (of_decide_eq_true ha.1) r1) r2 (by simpa using hl) ?_ λσ' o t=>q σ' o λn hn=>?_
   . rw [cj];exact ha.2
   . rw [hZ,aa] at hn;rw [t n hn.2,take_set _ _ _ _ (of_decide_eq_true hn.1)]
def mf {K:PySem.W.Frag} {G:Gh} {H:Hp} {F:aq->Prop} {σ:L2.St} {δ δ':Loc} {tg:Tg} {d:D} {v:V} {Q:L2.St->Hp->Prop} (ok:Ok K G F σ H δ) (r:Rel K H F d v) (e:dq δ tg d = some δ') (q:∀ σ',Ok K G F σ' H δ'->(∀ n,mi n tg = true->σ'.take n = σ.take n)->Q σ' H):gTg K tg v σ H Q:=by
 unfold dq at e;split at e
 . split at e
   . cases e;exact q _ (ok.set ‹_› r) λn hn=>take_set _ _ _ _ (of_decide_eq_true hn)
   . cases e
 . split at e
   . rename_i hh;cases e;unfold Rel at r;obtain ⟨a,xs,e1,h1,h2⟩:=r;exact ⟨a,xs,e1,.inl h1,by rw [h2.length];exact hh.1.symm,mh _ _ _ _ _ ok h2 hh.1 hh.2 q⟩
   . cases e
 . split at e
   . rename_i hh;cases e;unfold Rel at r;obtain ⟨a,xs,e1,h1,h2⟩:=r;exact ⟨a,xs,e1,.inr h1.b.sq,by rw [h2.length];exact hh.1.symm,mh _ _ _ _ _ ok h2 hh.1 hh.2 q⟩
   . cases e
 . cases e
def Ok.ext {K:PySem.W.Frag} {G:Gh} {H:Hp} {F:aq->Prop} {σ:L2.St} {δ:Loc} (h:Ok K G F σ H δ) (tl:L2.St):Ok K G F (σ++tl) H (δ++aS tl.length .no):=by
 have low:∀ (j:Nat) (s:Sl),(δ++aS tl.length .no)[j]? = some s->s = .no\/(δ[j]? = some s/\(σ++tl)[j]? = σ[j]?):=λj s e=>by
  by_cases hj:j < δ.length
  . rw [aR hj] at e;exact .inr ⟨e,aR (by rw [<- h.len];exact hj)⟩
  . rw [bh ∅,dB] at e;split at e
    . cases e;exact .inl rfl
    . cases e
 refine ⟨h.same,h.fd,h.rf,h.rl,h.tf,h.tabs,by rw [ah,ah,dP,h.len],λj s e=>?_,λi j s t a e1 e2 o1 o2 p1 p2=>?_⟩
 . rcases low j s e with rfl | ⟨e1,e2⟩
   . trivial
   . rw [e2];exact h.sl j s e1
 . rcases low i _ e1 with z | ⟨a1,a2⟩
   . subst z;cases o1
   . rcases low j _ e2 with z | ⟨b1,b2⟩
     . subst z;cases o2
     . rw [a2] at p1;rw [b2] at p2;exact h.apart i j s t a a1 b1 o1 o2 p1 p2
def Ok.cut {K:PySem.W.Frag} {G:Gh} {H:Hp} {F:aq->Prop} {σ:L2.St} {δ:Loc} (h:Ok K G F σ H δ) (n:Nat):Ok K G F (σ.take n) H (δ.take n):=by
 have low:∀ (j:Nat) (s:Sl),(δ.take n)[j]? = some s->δ[j]? = some s/\(σ.take n)[j]? = σ[j]? := λj s e=>by
  by_cases hj:j < n
  . rw [eC hj] at e;exact ⟨e,eC hj⟩
  . rw [dQ (by rw [br];lia)] at e;cases e
 refine ⟨h.same,h.fd,h.rf,h.rl,h.tf,h.tabs,by rw [br,br,h.len],λj s e=>?_,λi j s t a e1 e2 o1 o2 p1 p2=>?_⟩
 . obtain ⟨e1,e2⟩:=low j s e;rw [e2];exact h.sl j s e1
 . obtain ⟨a1,a2⟩:=low i _ e1;obtain ⟨b1,b2⟩:=low j _ e2;rw [a2] at p1;rw [b2] at p2;exact h.apart i j s t a a1 b1 o1 o2 p1 p2
def Gh.and (G:Gh) (D:aq):Gh:=⟨G.h,λb=>G.R b\/b = D⟩
def Ok.free {K:PySem.W.Frag} {G:Gh} {H:Hp} {F:aq->Prop} {σ:L2.St} {δ:Loc} {p:aq} (h:Ok K G F σ H δ) (hp:H p = none):G.free p:=by
 refine ⟨?_,λz=>?_⟩
 . cases e:G.h p with
   | none=>rfl
   | some o =>
     by_cases t:NT o
     . rw [h.same.nt p o t e] at hp;cases hp
     . cases o<;>first | (exact absurd trivial t) | skip
       obtain ⟨qs,z⟩:=h.same.tb p _ e;rw [z] at hp;cases hp
 . obtain ⟨o,e,_⟩:=h.rl p z;rw [hp] at e;cases e
def Ok.enterO {K:PySem.W.Frag} {G:Gh} {H:Hp} {F:aq->Prop} {σ:L2.St} {δ:Loc} {p:aq} (h:Ok K G F σ H δ) (hp:H p = none) {u:HO} (hu:Mo u):Ok K (G.and p) (λb=>F b\/b = p) σ (upd H p u) δ/\Step G F H (λb=>F b\/b = p) (upd H p u):=by
 have nF:¬ F p:=rq h.fd hp;have sm:=cF hp u;have st:∀ G':Gh,Step G' F H (λb=>F b\/b = p) (upd H p u):=λG'=>⟨λb o _ e _=>sm b o e,λb z=>by rcases z with z | z;exact .inl z;exact .inr (by rw [z];exact hp),λb o _ f e=>⟨.inl f,sm b o e⟩,λb ps e=>⟨ps,sm b _ e⟩⟩;refine ⟨⟨h.same.trans (.of sm),λb z=>?_,λb z=>?_,λb z=>?_,λt ht=>.inl (h.tf t ht),h.tabs.keep λb o _ e=>sm b o e,h.len,λj s e=>?_,h.apart⟩,st G⟩
 . rcases z with z | z
   . exact h.fd.same sm b z
   . rw [z];exact ⟨u,bU,.inl hu⟩
 . rcases z with z | z
   . exact .inl (h.rf b z)
   . exact .inr z
 . rcases z with z | z
   . exact xT h.rl sm b z
   . rw [z];exact ⟨u,bU,hu⟩
 . exact fb.stay0 h.fd (st G) (λa v _ f1 _ f3=>⟨.inl f1,sm _ _ f3⟩) (fb.free (G:=G) (G':=G.and p) (λa f1 f2=>⟨f2.1,λz=>Or.elim z f2.2 λw=>nF (w▸f1)⟩) (h.sl j s e))
def Ok.enter {K:PySem.W.Frag} {G:Gh} {H:Hp} {F:aq->Prop} {σ:L2.St} {δ:Loc} {p:aq} (h:Ok K G F σ H δ) (hp:H p = none) (xs:List V):Ok K (G.and p) (λb=>F b\/b = p) σ (upd H p (.lst xs)) δ/\Step G F H (λb=>F b\/b = p) (upd H p (.lst xs)):=h.enterO hp trivial
def Ok.pokeO {K:PySem.W.Frag} {G:Gh} {H:Hp} {F:aq->Prop} {σ:L2.St} {δ:Loc} {p:aq} {x u:HO} (h:Ok K (G.and p) F σ H δ) (hg:G.free p) (hP:H p = some x) (hx:Mo x) (hu:Mo u):Ok K (G.and p) F σ (upd H p u) δ:=by
 have hF:F p:=h.rf p (.inr rfl);have nt:=hx.nt;have st0:Step g0 F H F (upd H p u):=⟨λb o _ e n=>by rw [bI (λz:b = p=>n (by rw [z];exact hF))];exact e,λb z=>.inl z,λ_ _ r _ _=>r.elim,λb ps e=>⟨ps,by rw [bI (λw:b = p=>by rw [w,hP] at e;cases e;exact nt)];exact e⟩⟩;refine ⟨⟨λb o t e=>?_,λb ps e=>?_⟩,λb z=>?_,h.rf,λb z=>?_,h.tf,h.tabs.keep λb o n e=>?_,h.len,λj s e=>?_,h.apart⟩
 . rw [bI (λz:b = p=>by have e':G.h b = some o:=e;rw [z,hg.1] at e';cases e')];exact h.same.nt b o t e
 . rw [bI (λz:b = p=>by have e':G.h b = some _:=e;rw [z,hg.1] at e';cases e')];exact h.same.tb b ps e
 . by_cases hb:b = p
   . rw [hb];exact ⟨u,bU,.inl hu⟩
   . rw [bI hb];exact h.fd b z
 . by_cases hb:b = p
   . rw [hb];exact ⟨u,bU,hu⟩
   . rw [bI hb];exact h.rl b z
 . rw [bI (λw:b = p=>by rw [w,hP] at e;cases e;exact n hx)];exact e
 . exact fb.stay0 h.fd st0 (λa v _ f1 f2 f3=>⟨f1,by rw [bI (λz:a = p=>f2.2 (.inr z))];exact f3⟩) (h.sl j s e)
def Ok.poke {K:PySem.W.Frag} {G:Gh} {H:Hp} {F:aq->Prop} {σ:L2.St} {δ:Loc} {p:aq} {zs:List V} (h:Ok K (G.and p) F σ H δ) (hg:G.free p) (hP:H p = some (.lst zs)) (xs:List V):Ok K (G.and p) F σ (upd H p (.lst xs)) δ:=h.pokeO hg hP trivial trivial
def Ok.leave {K:PySem.W.Frag} {G:Gh} {H:Hp} {F:aq->Prop} {σ:L2.St} {δ:Loc} {p:aq} (h:Ok K (G.and p) F σ H δ) (hg:G.free p):Ok K G (λb=>F b/\b≠p) σ H δ:=by
 have hs:∀ b,(F b/\b≠p)->F b:=λb z=>z.1
 have tf':TF λb=>F b/\b≠p:=λt ht=>⟨h.tf t ht,λw=>by
  obtain ⟨ps,e,_⟩:=h.tabs t ht;obtain ⟨o,hP,m⟩:=h.rl p (.inr rfl);rw [w,hP] at e;cases e;exact m⟩
 refine ⟨h.same,λb z=>h.fd b z.1,λb z=>⟨h.rf b (.inl z),λw=>hg.2 (by rw [<- w];exact z)⟩,λb z=>h.rl b (.inl z),tf',h.tabs,h.len,λj s e=>?_,h.apart⟩;refine ((h.sl j s e).less h.fd hs λa z za=>?_).free (G:=G.and p) (G':=G) λb _ z=>⟨z.1,λw=>z.2 (Or.inl w)⟩;obtain ⟨a',u,d,e1,f1,f2,_⟩:=fb.ow (h.sl j s e) z;rw [za] at e1;cases e1;exact ⟨f1,λw=>f2.2 (.inr w)⟩
def Ok.keep {K:PySem.W.Frag} {G:Gh} {H:Hp} {F:aq->Prop} {σ:L2.St} {δ:Loc} {p:aq} (h:Ok K (G.and p) F σ H δ):Ok K G F σ H δ :=
 ⟨h.same,h.fd,λb z=>h.rf b (.inl z),λb z=>h.rl b (.inl z),h.tf,h.tabs,h.len,λj s e=>(h.sl j s e).free (G:=G.and p) (G':=G) λb _ z=>⟨z.1,λw=>z.2 (Or.inl w)⟩,h.apart⟩
end
section
variable {K:PySem.W.Frag} {cx:Cl}
def vC (cx:Cl) (k:Nat) (tg:Tg) (ifs:Eo) (elt:E):D->Loc->Option (Option D × Loc):=λx δ0=>do
 let δ2 <- dq (δ0++aS k .no) tg x
 let (b,δ3) <- evG cx ifs δ2
 if b then do
  let (y,δ4) <- evE cx elt δ3
  return (some y,δ4.take δ0.length)
 else return (none,δ3.take δ0.length)
def Hm (ev:evE cx (.comp k tg src ifs elt) δ = some (d,δ')) :
 ∃ ds δ1 ys,evI cx src δ = some (ds,δ1)/\mQ (vC cx k tg ifs elt) ds δ1 = some (ys,δ')/\ys.length<=sizeLine/\d = .lst ys:=by
 simp only [evE,ae,ab] at ev;obtain ⟨⟨ds,δ1⟩,ea,⟨ys,δ2⟩,eb,ev⟩:=ev;split at ev
 . cases ev;exact ⟨ds,δ1,ys,ea,eb,‹_›,rfl⟩
 . cases ev
def Ay (h:vC cx k tg ifs elt x δ0 = some (o,δ1)):∃ δ2 b δ3,dq (δ0++aS k .no) tg x = some δ2/\evG cx ifs δ2 = some (b,δ3) /\
 ((b = true/\∃ y δ4,evE cx elt δ3 = some (y,δ4)/\o = some y/\δ1 = δ4.take δ0.length)\/(b = false/\o = none/\δ1 = δ3.take δ0.length)):=by
 unfold vC at h;simp only [ae,ab] at h;obtain ⟨δ2,e1,⟨b,δ3⟩,e2,h⟩:=h;refine ⟨δ2,b,δ3,e1,e2,?_⟩
 cases b with
 | true =>
   simp only [if_true,ab] at h;obtain ⟨⟨y,δ4⟩,e3,h⟩:=h;cases h
   exact .inl ⟨rfl,y,δ4,e3,rfl,rfl⟩
 | false =>
   simp only [bW,if_false] at h;cases h;exact .inr ⟨rfl,rfl,rfl⟩
def xo (h:mQ f (x::xs) δ = some (ys,δ')):∃ o δ1 zs,f x δ = some (o,δ1)/\mQ f xs δ1 = some (zs,δ')/\ys = (match o with | some y=>y::zs | none=>zs):=by
 unfold mQ at h;simp only [ae,ab] at h;obtain ⟨⟨o,δ1⟩,e1,⟨zs,δ2⟩,e2,h⟩:=h;cases h;exact ⟨o,δ1,zs,e1,e2,rfl⟩
def Step.sub (h:Step G' F H F' H') (hs:∀ b,G.R b->G'.R b):Step G F H F' H':=⟨h.keep,h.grow,λb o r=>h.res b o (hs b r),h.tb⟩
def vo:∀ (ps:List (Nat × D)) (δ:Loc),(ps.foldl (λδ p=>δ.set p.1 (Sl.val p.2)) δ).length = δ.length:=by
 intro ps
 induction ps with
 | nil=>intro δ;rfl
 | cons a r ih=>intro δ;rw [qC,ih,cj]
def nA (es:dq δ tg d = some δ'):δ'.length = δ.length:=by
 unfold dq at es;split at es
 . split at es
   . cases es;rw [cj]
   . cases es
 . split at es
   . cases es;rw [vo]
   . cases es
 . split at es
   . cases es;rw [vo]
   . cases es
 . cases es
def sP {P:List D->(aq->Prop)->L2.St->Hp->Prop} (wk:Wk K G F1 H1 J ds) (hs:∀ r F σ H,P r F σ H->Step G F1 H1 F H/\FD F H) (hm:∀ r F σ H H3,P r F σ H->iC H H3->P r F σ H3) (h0:P ds F0 σ0 H0)
 (turn:∀ d r F σ H x (N:L2.St->Hp->Prop),P (d::r) F σ H->Rel K H F d x->(∀ F4 σ4 H4,P r F4 σ4 H4->N σ4 H4)->g x σ H λσ2 H2=>tt σ2 H2 λb H3=>if b = true then tb σ2 H3 N else N σ2 H3)
 (fin:∀ F σ H,P [] F σ H->Q σ H):tLp J g tt tb σ0 H0 Q:=by
 refine ⟨λi m σc Hc=>m = ds.length - i/\i<=ds.length/\∃ F',P (ds.drop i) F' σc Hc,⟨ds.length,↥0,bP _,F0,h0⟩,?_⟩;rintro i m σc Hc ⟨rfl,hi,F',h⟩;obtain ⟨st,fd⟩:=hs _ _ _ _ h;by_cases hlt:i < ds.length
 . obtain ⟨go,yl⟩:=(wk F' Hc st fd i).1 ds[i] (aE hlt);refine .inr ⟨go,λx H3 hy=>?_⟩;obtain ⟨sm,rx⟩:=yl x H3 hy;rw [cV hlt] at h;exact turn _ _ _ _ _ x _ (hm _ _ _ _ _ h sm) rx λF4 σ4 H4 z=>⟨_,∅,rfl,hlt,F4,z⟩
 . obtain rfl:i = ds.length:=by lia
   rw [Fc] at h;exact .inl ⟨(wk F' Hc st fd ds.length).2 rfl,fin _ _ _ h⟩
def Step.new {o:HO} (s:Step G F1 H1 F8 H8) (hp:H1 p = none):Step G F1 H1 F8 (upd H8 p o):=by
 refine ⟨λb o t e nf=>?_,s.grow,λb o r f e=>?_,λb ps e=>?_⟩
 . rw [bI (λw:b = p=>by rw [w,hp] at e;cases e)];exact s.keep b o t e nf
 . obtain ⟨a1,a2⟩:=s.res b o r f e;refine ⟨a1,?_⟩;rw [bI (λw:b = p=>by rw [w,hp] at e;cases e)];exact a2
 . rw [bI (λw:b = p=>by rw [w,hp] at e;cases e)];exact s.tb b ps e
def Sim.new {o:HO} (s:Sim H1 H8) (hp:H1 p = none):Sim H1 (upd H8 p o):=by
 refine ⟨λb o t e=>?_,λb ps e=>?_⟩
 . rw [bI (λw:b = p=>by rw [w,hp] at e;cases e)];exact s.nt b o t e
 . rw [bI (λw:b = p=>by rw [w,hp] at e;cases e)];exact s.tb b ps e
def xm (n:(!bZ elt) = true) (hge:mi σ.length tg = true)
 (ok1:Ok K G F1 σ H1 δ1) (wk:Wk K G F1 H1 J ds) (hp:H1 p = none) (ev:mQ (vC cx k tg ifs elt) ds δ1 = some (ys,δ2)) (hz:ys.length<=sizeLine)
 (q:∀ σ' H2 F2 xs,Ok K (G.and p) F2 σ H2 δ2->H2 p = some (.lst xs)->aK K H2 F2 ys xs->Step G F1 H1 F2 H2->((npO ifs && np elt) = true->Sim H1 H2)->Q σ' H2) :
 tLp J (gTg K tg) (tG K cx ifs) (uE p (tE K cx elt)) (σ++aS k none) (upd H1 p (.lst [])) Q:=by
 have hg:=ok1.free hp;obtain ⟨ok2,st2⟩:=ok1.enter hp [];have hFs:∀ b,G.R b->(G.and p).R b:=λb z=>.inl z
 refine sP (P:=λr F' σc Hc=>∃ δi zs xs yi,(∃ tl:L2.St,σc = σ++tl/\tl.length = k)/\Ok K (G.and p) F' σ Hc δi/\mQ (vC cx k tg ifs elt) r δi = some (zs,δ2)/\yi++zs = ys/\Hc p = some (.lst xs)/\aK K Hc F' yi xs/\Step G F1 H1 F' Hc /\
  ((npO ifs && np elt) = true->Sim H1 Hc)) wk (λr F σ H z=>by obtain ⟨_,_,_,_,_,ok,_,_,_,_,st,_⟩:=z;exact ⟨st,ok.fd⟩) (λr F σ H H3 z sm=>by obtain ⟨a1,a2,a3,a4,a5,ok,a6,a7,a8,a9,st,s⟩:=z;exact ⟨a1,a2,a3,a4,a5,ok.same' sm,a6,a7,sm _ _ a8,aK.step ok.fd (Step.of_same (G:=G) sm) _ _ a9,st.trans (.of_same sm),λq=>(s q).trans (.of sm)⟩) (F0:=λb=>F1 b\/b = p) ⟨δ1,ys,[],[],⟨_,rfl,↥0⟩,ok2,ev,rfl,bU,aK.nil,st2,λ_=>.of (cF hp _)⟩ ?_ ?_
 . rintro d r F' _ H3 x N ⟨δi,zs,xs,yi,⟨tl,rfl,htl⟩,ok,el,ey,eD,rl,st,sm⟩ rx hN;have hF:F' p:=ok.rf p (.inr rfl);obtain ⟨o,δ5,zs',ef,el',ez⟩:=xo el;obtain ⟨δ6,b,δ7,es,eg,alt⟩:=Ay ef;have okx:Ok K (G.and p) F' (σ++tl) H3 (δi++aS k .no):=by rw [<- htl];exact ok.ext tl
   refine mf okx rx es λσ2 ok6 htake=>?_;have t2:σ2.take σ.length = σ:=by rw [htake _ hge,HA];rfl
   have l2:σ2.length = σ.length+k:=by
    have a1:=okx.len;have a2:=ok6.len;have e1:=nA es;have e2:(σ++tl).length = σ.length+k:=by rw [ah,htl]
    lia
   have dl:δi.length = σ.length:=ok.len
   have tail:∃ tl':L2.St,σ2 = σ++tl'/\tl'.length = k:=by
    refine ⟨σ2.drop σ.length,?_,by rw [cJ];lia⟩
    conv=>lhs;rw [<- bx σ.length σ2,t2]
   refine ⟨G.and p,F',δ6,b,δ7,ok6,eg,λH7 F7 st7 sm7 ok7=>?_⟩;have keepD:∀ {F8:aq->Prop} {H8:Hp},Step (G.and p) F' H3 F8 H8->H8 p = some (.lst xs):=λs8=>(s8.res p _ (.inr rfl) hF eD).2;rcases alt with ⟨rfl,y,δ8,ee,rfl,rfl⟩ | ⟨rfl,rfl,rfl⟩
   . refine DH ?_;refine ⟨G.and p,F7,δ7,y,δ8,ok7,ee,λu H8 F8 st8 sm8 ok8 r8=>?_⟩;have s78:=st7.trans st8;have eD8:=keepD s78;have ry:=eY n r8;have rl8:aK K H8 F8 yi xs:=aK.step ok.fd s78 yi xs rl;have hF8:F8 p:=ok8.rf p (.inr rfl);have pk:Step g0 F8 H8 F8 (upd H8 p (.lst (xs++[u]))):=⟨λb o _ e nf=>by rw [bI (λz:b = p=>nf (by rw [z];exact hF8))];exact e,λb z=>.inl z,λ_ _ r _ _=>r.elim,λb ps e=>⟨ps,by rw [bI (λw:b = p=>by rw [w,eD8] at e;cases e)];exact e⟩⟩;subst ez
     have hyl:yi.length < sizeLine:=by
      have:=congrArg gB ey;rw [ah] at this;simp only [ay] at this
      lia
     refine ⟨xs,eD8,by rw [rl8.length];exact hyl,hN F8 _ _ ⟨δ8.take δi.length,zs',xs++[u],yi++[y],tail,?_,el',by rw [aO];exact ey,bU,?_,?_,λz=>?_⟩⟩
     . have:=(ok8.poke hg eD8 (xs++[u])).cut δi.length;rw [dl,t2] at this;rw [dl];exact this
     . exact aK.step ok8.fd pk _ _ (rl8.append (aK.one ry))
     . exact (st.trans (s78.sub hFs)).new hp
     . have z':=z;rw [aa] at z';exact (((sm z).trans (sm7 z'.1)).trans (sm8 z'.2)).new hp
   . refine Kv ?_;subst ez;refine hN F7 _ _ ⟨δ7.take δi.length,_,xs,yi,tail,?_,el',ey,keepD st7,aK.step ok.fd st7 yi xs rl,st.trans (st7.sub hFs),λz=>?_⟩
     . have:=ok7.cut δi.length;rw [dl,t2] at this;rw [dl];exact this
     . have z':=z;rw [aa] at z';exact (sm z).trans (sm7 z'.1)
 . rintro F' _ Hc ⟨δi,zs,xs,yi,_,ok,el,ey,eD,rl,st,sm⟩;cases el;rw [bA] at ey;subst ey;exact q _ Hc F' xs ok eD rl st sm
end
end PP
end
section
namespace PP
open PySem
section
variable (cx:Cl)
def wE (e:E) (δ:Loc) (Q:D->Loc->Prop):Prop:=∃ d δ',evE cx e δ = some (d,δ')/\Q d δ'
def wT (e:E) (δ:Loc) (Q:Bool->Loc->Prop):Prop:=∃ d δ',evT cx e δ = some (d,δ')/\Q d δ'
def wEs (e:Es) (δ:Loc) (Q:List D->Loc->Prop):Prop:=∃ d δ',dU cx e δ = some (d,δ')/\Q d δ'
def wO (e:Eo) (δ:Loc) (Q:Option Int->Loc->Prop):Prop:=∃ d δ',evO cx e δ = some (d,δ')/\Q d δ'
def wG (e:Eo) (δ:Loc) (Q:Bool->Loc->Prop):Prop:=∃ d δ',evG cx e δ = some (d,δ')/\Q d δ'
def wI (e:It) (δ:Loc) (Q:List D->Loc->Prop):Prop:=∃ d δ',evI cx e δ = some (d,δ')/\Q d δ'
def wS (s:S) (δ:Loc) (Q:Out->Prop):Prop:=∃ o,evS cx s δ = some o/\Q o
def wSs (s:Ss) (δ:Loc) (Q:Out->Prop):Prop:=∃ o,en cx s δ = some o/\Q o
def wTg (δ:Loc) (tg:Tg) (d:D) (Q:Loc->Prop):Prop:=∃ δ',dq δ tg d = some δ'/\Q δ'
def wOp (op:Op) (x y:D) (Q:D->Prop):Prop:=∃ z,opD op x y = some z/\Q z
def oF (op:Cop) (x y:D) (Q:Bool->Prop):Prop:=∃ z,vD op x y = some z/\Q z
def qE (f:Blt) (ds:List D) (Q:D->Prop):Prop:=∃ z,jS f ds = some z/\Q z
def lg (f:Nat) (ds:List D) (Q:D->Prop):Prop:=∃ z,cx.call f ds = some z/\Q z
def rW (δ:Loc) (i:Nat) (Q:D->Prop):Prop:=∃ z,PP.get δ i = some z/\Q z
def wIx (x y:D) (Q:D->Prop):Prop:=∃ z,ixD x y = some z/\Q z
def wSl (x:D) (lo hi:Option Int) (Q:D->Prop):Prop:=∃ z,slD x lo hi = some z/\Q z
def wTv (x:D) (Q:Bool->Prop):Prop:=∃ z,tv x = some z/\Q z
def wItems (x:D) (Q:List D->Prop):Prop:=∃ z,items x = some z/\Q z
def Ly (k:Nat) (tg:Tg) (ifs:Eo) (elt:E):D->Loc->Option (Option D × Loc):=λx δ0=>do
 let δ2 <- dq (δ0++aS k .no) tg x
 let (b,δ3) <- evG cx ifs δ2
 if b then do
  let (y,δ4) <- evE cx elt δ3
  return (some y,δ4.take δ0.length)
 else return (none,δ3.take δ0.length)
def kZ (k:Nat) (tg:Tg) (ifs:Eo) (elt:E) (ds:List D) (δ:Loc) (Q:List D->Loc->Prop):Prop:=∃ ys δ',mQ (Ly cx k tg ifs elt) ds δ = some (ys,δ')/\Q ys δ'
def MG (tg:Tg) (body:Ss):D->Loc->Option Out:=λx δ0=>match dq δ0 tg x with
 | some δ2=>en cx body δ2
 | none=>none
def uw (tg:Tg) (body:Ss) (ds:List D) (δ:Loc) (Q:Out->Prop):Prop:=∃ o,forL (MG cx tg body) ds δ = some o/\Q o
end
section
variable {α β γ:Type} {P P':α->Loc->Prop} {R R':α->Prop} {Q:β->Loc->Prop} {S:γ->Prop} {o:Option (α × Loc)} {u:Option α} {f:α × Loc->Option (β × Loc)} {g:α->Option (β × Loc)} {f':α × Loc->Option γ} {g':α->Option γ} {d:β} {r:γ} {δ:Loc} {c:Prop} [Decidable c]
def yb:(∃ r,o.bind f' = some r/\S r)↔∃ x δ1,o = some (x,δ1)/\∃ r,f' (x,δ1) = some r/\S r:=by
 cases o with
 | none=>exact ⟨λ⟨_,e,_⟩=>(by cases e),λ⟨_,_,e,_⟩=>(by cases e)⟩
 | some p=>exact ⟨λh=>⟨p.1,p.2,rfl,h⟩,λ⟨_,_,e,h⟩=>by cases e;exact h⟩
def yqs:(∃ r,u.bind g' = some r/\S r)↔∃ x,u = some x/\∃ r,g' x = some r/\S r:=by
 cases u with
 | none=>exact ⟨λ⟨_,e,_⟩=>(by cases e),λ⟨_,e,_⟩=>(by cases e)⟩
 | some p=>exact ⟨λh=>⟨p,rfl,h⟩,λ⟨_,e,h⟩=>by cases e;exact h⟩
def yr:(∃ r',some r = some r'/\S r')↔S r:=⟨λ⟨_,e,h⟩=>(by cases e;exact h),λh=>⟨_,rfl,h⟩⟩
def yi:(∃ r',(if c then some r else none) = some r'/\S r')↔c/\S r:=by
 by_cases h:c
 . rw [if_pos h];exact yr.trans ⟨λq=>⟨h,q⟩,λq=>q.2⟩
 . rw [if_neg h];exact ⟨λ⟨_,e,_⟩=>(by cases e),λq=>absurd q.1 h⟩
def yn {A:Prop} (h:¬ A):(∃ r',(none:Option γ) = some r'/\S r')↔A:=⟨λ⟨_,e,_⟩=>(by cases e),λq=>absurd q h⟩
def xq {o:Option (β × Loc)}:(∃ d δ',o = some (d,δ')/\Q d δ')↔∃ r,o = some r/\Q r.1 r.2:=⟨λ⟨_,_,e,q⟩=>⟨_,e,q⟩,λ⟨r,e,q⟩=>⟨r.1,r.2,e,q⟩⟩
def xb:(∃ d δ',o.bind f = some (d,δ')/\Q d δ')↔∃ x δ1,o = some (x,δ1)/\∃ d δ',f (x,δ1) = some (d,δ')/\Q d δ':=xq.trans (yb.trans ⟨λ⟨x,y,e,h⟩=>⟨x,y,e,xq.mpr h⟩,λ⟨x,y,e,h⟩=>⟨x,y,e,xq.mp h⟩⟩)
def x1:(∃ d δ',u.bind g = some (d,δ')/\Q d δ')↔∃ x,u = some x/\∃ d δ',g x = some (d,δ')/\Q d δ':=xq.trans (yqs.trans ⟨λ⟨x,e,h⟩=>⟨x,e,xq.mpr h⟩,λ⟨x,e,h⟩=>⟨x,e,xq.mp h⟩⟩)
def xr:(∃ d' δ',some (d,δ) = some (d',δ')/\Q d' δ')↔Q d δ:=xq.trans yr
def xi:(∃ d' δ',(if c then some (d,δ) else none) = some (d',δ')/\Q d' δ')↔c/\Q d δ:=xq.trans yi
def xn {A:Prop} (h:¬ A):(∃ d' δ',(none:Option (β × Loc)) = some (d',δ')/\Q d' δ')↔A:=xq.trans (yn h)
def xc (h:∀ x δ,P x δ↔P' x δ):(∃ x δ1,o = some (x,δ1)/\P x δ1)↔∃ x δ1,o = some (x,δ1)/\P' x δ1:=⟨λ⟨x,δ,e,p⟩=>⟨x,δ,e,(h x δ).mp p⟩,λ⟨x,δ,e,p⟩=>⟨x,δ,e,(h x δ).mpr p⟩⟩
def xd (h:∀ x,R x↔R' x):(∃ x,u = some x/\R x)↔∃ x,u = some x/\R' x:=⟨λ⟨x,e,p⟩=>⟨x,e,(h x).mp p⟩,λ⟨x,e,p⟩=>⟨x,e,(h x).mpr p⟩⟩
end
def MK {b:Bool} {P:Bool->Prop}:(∃ k,D.bl b = D.bl k/\P k)↔P b:=⟨λ⟨_,e,q⟩=>by cases e;exact q,λq=>⟨_,rfl,q⟩⟩
def yM {b:Int} {P:Int->Prop}:(∃ k,D.int b = D.int k/\P k)↔P b:=⟨λ⟨_,e,q⟩=>by cases e;exact q,λq=>⟨_,rfl,q⟩⟩
def MJ {b:Str} {P:Str->Prop}:(∃ k,D.str b = D.str k/\P k)↔P b:=⟨λ⟨_,e,q⟩=>by cases e;exact q,λq=>⟨_,rfl,q⟩⟩
def DX {b:List D} {P:List D->Prop}:(∃ k,D.lst b = D.lst k/\P k)↔P b:=⟨λ⟨_,e,q⟩=>by cases e;exact q,λq=>⟨_,rfl,q⟩⟩
section
variable {cx:Cl} {δ:Loc}
def IB {i:Nat} {Q:D->Loc->Prop}:wE cx (.var i) δ Q↔∃ d,DQ δ i = some d/\Q d (demote δ i):=x1.trans (xd λ_=>xr)
def Lr {i:Nat} {Q:D->Loc->Prop}:wE cx (.pk i) δ Q↔rW δ i λd=>Q d δ:=x1.trans (xd λ_=>xr)
def Fu {i:Nat} {Q:D->Loc->Prop}:wE cx (.glob i) δ Q↔∃ d,cx.gl[i]? = some d/\Q d δ:=x1.trans (xd λ_=>xr)
def IH {i:Int} {Q:D->Loc->Prop}:wE cx (.int i) δ Q↔Q (.int i) δ:=xr
def ID {i:Str} {Q:D->Loc->Prop}:wE cx (.str i) δ Q↔Q (.str i) δ:=xr
def IK {op:Op} {a b:E} {Q:D->Loc->Prop}:wE cx (.bin op a b) δ Q↔wE cx a δ λx δ1=>wE cx b δ1 λy δ2=>wOp op x y λz=>Q z δ2:=xb.trans (xc λ_ _=>xb.trans (xc λ_ _=>x1.trans (xd λ_=>xr)))
def II {op:Cop} {a b:E} {Q:D->Loc->Prop}:wE cx (.cmp op a b) δ Q↔wE cx a δ λx δ1=>wE cx b δ1 λy δ2=>oF op x y λz=>Q (.bl z) δ2:=xb.trans (xc λ_ _=>xb.trans (xc λ_ _=>x1.trans (xd λ_=>xr)))
def Iu {op:Cop} {a b:E} {Q:Bool->Loc->Prop}:wT cx (.cmp op a b) δ Q↔wE cx a δ λx δ1=>wE cx b δ1 λy δ2=>oF op x y λz=>Q z δ2:=xb.trans (xc λ_ _=>xb.trans (xc λ_ _=>x1.trans (xd λ_=>xr)))
def IM {a b:E} {Q:D->Loc->Prop}:wE cx (.and a b) δ Q↔wE cx a δ λx δ1=>∃ k,x = .bl k/\if k = true then wE cx b δ1 Q else Q (.bl false) δ1:=xb.trans (xc λx _=>by
 cases x with
 | bl k=>refine Iff.trans ?_ MK.symm;cases k;exact xr;exact cY
 | _=>exact xn λ⟨_,e,_⟩=>by cases e)
def IE {a:E} {Q:D->Loc->Prop}:wE cx (.neg a) δ Q↔wE cx a δ λx δ1=>∃ i,x = .int i/\Q (.int (-i)) δ1:=xb.trans (xc λx _=>by
 cases x with
 | int k=>refine Iff.trans ?_ yM.symm;exact xr
 | _=>exact xn λ⟨_,e,_⟩=>by cases e)
def Iv {a b:E} {Q:Bool->Loc->Prop}:wT cx (.and a b) δ Q↔wT cx a δ λk δ1=>if k = true then wT cx b δ1 Q else Q false δ1:=xb.trans (xc λk _=>by cases k;exact xr;exact cY)
def Lj {a b:E} {Q:Bool->Loc->Prop}:wT cx (.or a b) δ Q↔wT cx a δ λk δ1=>if k = true then Q true δ1 else wT cx b δ1 Q:=xb.trans (xc λk _=>by cases k;exact cY;exact xr)
def Ir {a:E} {Q:Bool->Loc->Prop}:wT cx (.not a) δ Q↔wT cx a δ λk δ1=>Q (!k) δ1:=xb.trans (xc λ_ _=>xr)
def Iq {i:Nat} {Q:Bool->Loc->Prop}:wT cx (.var i) δ Q↔rW δ i λd=>wTv d λb=>Q b δ:=x1.trans (xd λ_=>x1.trans (xd λ_=>xr))
def Fn {f:Nat} {es:Es} {Q:Bool->Loc->Prop}:wT cx (.call f es) δ Q↔wEs cx es δ λds δ1=>lg cx f ds λd=>wTv d λb=>Q b δ1:=xb.trans (xc λ_ _=>x1.trans (xd λ_=>x1.trans (xd λ_=>xr)))
def IG {c a b:E} {Q:D->Loc->Prop}:wE cx (.ite c a b) δ Q↔wT cx c δ λk δ1=>if k = true then wE cx a δ1 Q else wE cx b δ1 Q:=xb.trans (xc λk _=>by cases k<;>exact cY)
def IC {es:Es} {Q:D->Loc->Prop}:wE cx (.tup es) δ Q↔wEs cx es δ λds δ1=>ds.length<=sizeLine/\Q (.tup ds) δ1:=xb.trans (xc λ_ _=>xi)
def IF {es:Es} {Q:D->Loc->Prop}:wE cx (.lst es) δ Q↔wEs cx es δ λds δ1=>ds.length<=sizeLine/\Q (.lst ds) δ1:=xb.trans (xc λ_ _=>xi)
def Lu {a b:E} {Q:D->Loc->Prop}:wE cx (.ix a b) δ Q↔wE cx a δ λx δ1=>wE cx b δ1 λy δ2=>wIx x y λz=>Q z δ2:=xb.trans (xc λ_ _=>xb.trans (xc λ_ _=>x1.trans (xd λ_=>xr)))
def Lq {a:E} {lo hi:Eo} {Q:D->Loc->Prop}:wE cx (.sl a lo hi) δ Q↔wE cx a δ λx δ1=>wO cx lo δ1 λl δ2=>wO cx hi δ2 λh δ3=>wSl x l h λz=>Q z δ3:=xb.trans (xc λ_ _=>xb.trans (xc λ_ _=>xb.trans (xc λ_ _=>x1.trans (xd λ_=>xr))))
def oK {f:Nat} {es:Es} {Q:D->Loc->Prop}:wE cx (.call f es) δ Q↔wEs cx es δ λds δ1=>lg cx f ds λz=>Q z δ1:=xb.trans (xc λ_ _=>x1.trans (xd λ_=>xr))
def IJ {f:Blt} {es:Es} {Q:D->Loc->Prop}:wE cx (.blt f es) δ Q↔wEs cx es δ λds δ1=>qE f ds λz=>Q z δ1:=xb.trans (xc λ_ _=>x1.trans (xd λ_=>xr))
def ux {i:Nat} {Q:D->Loc->Prop}:wE cx (.isdig i) δ Q↔rW δ i λd=>∃ x,d = .str x/\Q (.bl (decide (x.length > 0) && x.cps.all di)) δ:=x1.trans (xd λx=>by
 cases x with
 | str k=>refine Iff.trans ?_ MJ.symm;exact xr
 | _=>exact xn λ⟨_,e,_⟩=>by cases e)
def Fs {Q:List D->Loc->Prop}:wEs cx .nil δ Q↔Q [] δ:=xr
def Bx {e:E} {es:Es} {Q:List D->Loc->Prop}:wEs cx (.cons e es) δ Q↔wE cx e δ λx δ1=>wEs cx es δ1 λxs δ2=>Q (x::xs) δ2:=xb.trans (xc λ_ _=>xb.trans (xc λ_ _=>xr))
def Ll {Q:Option Int->Loc->Prop}:wO cx .no δ Q↔Q none δ:=xr
def Iz {e:E} {Q:Option Int->Loc->Prop}:wO cx (.yes e) δ Q↔wE cx e δ λx δ1=>∃ i,x = .int i/\Q (some i) δ1:=xb.trans (xc λx _=>by
 cases x with
 | int k=>refine Iff.trans ?_ yM.symm;exact xr
 | _=>exact xn λ⟨_,e,_⟩=>by cases e)
def Lp {Q:Bool->Loc->Prop}:wG cx .no δ Q↔Q true δ:=xr
def IA {e:E} {Q:List D->Loc->Prop}:wI cx (.rng e) δ Q↔wE cx e δ λx δ1=>∃ j,x = .int j/\(-(2 ^ 62)<=j/\j < 2 ^ 62)/\Q (su 0 j.toNat) δ1:=xb.trans (xc λx _=>by
 cases x with
 | int k=>refine Iff.trans ?_ yM.symm;exact xi
 | _=>exact xn λ⟨_,e,_⟩=>by cases e)
def Lo {e:E} {Q:List D->Loc->Prop}:wI cx (.sq e) δ Q↔wE cx e δ λx δ1=>wItems x λds=>Q ds δ1:=xb.trans (xc λ_ _=>x1.trans (xd λ_=>xr))
def xK {k:Nat} {tg:Tg} {src:It} {ifs:Eo} {elt:E} {Q:D->Loc->Prop}:wE cx (.comp k tg src ifs elt) δ Q↔wI cx src δ λds δ1=>kZ cx k tg ifs elt ds δ1 λys δ2=>ys.length<=sizeLine/\Q (.lst ys) δ2:=xb.trans (xc λ_ _=>xb.trans (xc λ_ _=>xi))
def kB {k:Nat} {tg:Tg} {ifs:Eo} {elt:E} {Q:List D->Loc->Prop}:kZ cx k tg ifs elt [] δ Q↔Q [] δ:=xr
def jt {k:Nat} {tg:Tg} {ifs:Eo} {elt:E} {x:D} {xs:List D} {Q:List D->Loc->Prop}:kZ cx k tg ifs elt (x::xs) δ Q↔wTg (δ++aS k .no) tg x λδ2=>wG cx ifs δ2 λb δ3 =>
 if b = true then wE cx elt δ3 λy δ4=>kZ cx k tg ifs elt xs (δ4.take δ.length) λys δ5=>Q (y::ys) δ5 else kZ cx k tg ifs elt xs (δ3.take δ.length) Q:=xb.trans (x1.trans (xd λ_=>xb.trans (xc λb _=>by cases b;exact xr.trans (xb.trans (xc λ_ _=>xr));exact xb.trans (xc λ_ _=>xr.trans (xb.trans (xc λ_ _=>xr))))))
end
section
variable (cx:Cl)
def qX (ss:Ss) (Q:Out->Prop):Out->Prop
 | .nx δ=>wSs cx ss δ Q
 | .rt d δ=>Q (.rt d δ)
 | .ro d δ=>Q (.ro d δ)
end
def vg (next:Loc->Prop) (Q:Out->Prop):Out->Prop
 | .nx δ=>next δ
 | .rt d δ=>Q (.rt d δ)
 | .ro d δ=>Q (.ro d δ)
def uq (δ:Loc) (i:Nat) (s:Sl) (Q:Loc->Prop):Prop:=i < δ.length/\Q (δ.set i s)
def zu (pre δ:Loc) (i:Nat) (s:Sl) (Q:Loc->Prop):Prop:=i < δ.length/\Q (pre.reverse++δ.set i s)
def Lk (δ:Loc) (i:Nat) (s:Sl) (Q:Loc->Prop):Prop:=Q (δ.set i s)
def qU (pre δ:Loc) (i:Nat) (s:Sl) (Q:Loc->Prop):Prop:=Q (pre.reverse++δ.set i s)
def ur (pre δ:Loc) (Q:Loc->Prop):Prop:=Q (pre.reverse++δ)
def zw (δ0:Loc) (j:Nat) (δ:Loc) (i:Nat) (Q:D->Loc->Prop):Prop:=match δ[i]? with
 | some (.val d)=>Q d δ0
 | some (.own ds)=>Q (.lst ds) (δ0.set j (.val (.lst ds)))
 | _=>False
def qD (δ:Loc) (i:Nat) (Q:List D->Prop):Prop:=match δ[i]? with
 | some (.own ds)=>Q ds
 | _=>False
section
variable {cx:Cl} {δ pre:Loc}
def me {ss:Ss} {Q:Out->Prop}:qX cx ss Q (.nx δ)↔wSs cx ss δ Q:=cY
def BO {ss:Ss} {Q:Out->Prop} {d:D}:qX cx ss Q (.rt d δ)↔Q (.rt d δ):=cY
def DA {n:Loc->Prop} {Q:Out->Prop}:vg n Q (.nx δ)↔n δ:=cY
def Bc {i:Nat} {s:Sl} {Q:Loc->Prop}:uq δ i s Q↔zu [] δ i s Q:=cY
def zt {i:Nat} {s t:Sl} {Q:Loc->Prop}:zu pre (t::δ) (i+1) s Q↔zu (t::pre) δ i s Q:=by simp [zu]
def zr {s t:Sl} {Q:Loc->Prop}:zu pre (t::δ) 0 s Q↔ur pre (s::δ) Q:=by simp [zu,ur]
def Bh {i:Nat} {s:Sl} {Q:Loc->Prop}:Lk δ i s Q↔qU [] δ i s Q:=cY
def vV {i:Nat} {s t:Sl} {Q:Loc->Prop}:qU pre (t::δ) (i+1) s Q↔qU (t::pre) δ i s Q:=by simp [qU]
def vU {s t:Sl} {Q:Loc->Prop}:qU pre (t::δ) 0 s Q↔ur pre (s::δ) Q:=by simp [qU,ur]
def zy {t:Sl} {Q:Loc->Prop}:ur (t::pre) δ Q↔ur pre (t::δ) Q:=by simp [ur]
def Bg {Q:Loc->Prop}:ur [] δ Q↔Q δ:=cY
def zv {δ0:Loc} {i j:Nat} {t:Sl} {Q:D->Loc->Prop}:zw δ0 j (t::δ) (i+1) Q↔zw δ0 j δ i Q:=cY
def AX {δ0:Loc} {j:Nat} {d:D} {Q:D->Loc->Prop}:zw δ0 j (.val d::δ) 0 Q↔Q d δ0:=cY
def AY {δ0:Loc} {j:Nat} {ds:List D} {Q:D->Loc->Prop}:zw δ0 j (.own ds::δ) 0 Q↔Lk δ0 j (.val (.lst ds)) λδ1=>Q (.lst ds) δ1:=cY
def zC {i:Nat} {t:Sl} {Q:D->Prop}:rW (t::δ) (i+1) Q↔rW δ i Q:=cY
def Bu {d:D} {Q:D->Prop}:rW (.val d::δ) 0 Q↔Q d:=yr
def Bv {ds:List D} {Q:D->Prop}:rW (.own ds::δ) 0 Q↔Q (.lst ds):=yr
def zA {i:Nat} {t:Sl} {Q:List D->Prop}:qD (t::δ) (i+1) Q↔qD δ i Q:=cY
def Bi {ds:List D} {Q:List D->Prop}:qD (.own ds::δ) 0 Q↔Q ds:=cY
def Ft {i:Nat} {Q:D->Loc->Prop}:wE cx (.var i) δ Q↔zw δ i δ i Q:=by
 rw [IB];unfold DQ zw PP.get demote
 cases h:δ[i]? with
 | none=>simp
 | some s=>cases s<;>simp
def iH {Q:Out->Prop}:wSs cx .nil δ Q↔Q (.nx δ):=yr
def cM {s:S} {ss:Ss} {Q:Out->Prop}:wSs cx (.cons s ss) δ Q↔wS cx s δ (qX cx ss Q):=by
 unfold wSs wS;simp only [en]
 cases evS cx s δ with
 | none=>exact yn (λ⟨_,e,_⟩=>by cases e)
 | some o =>
   refine Iff.trans ?_ yr.symm
   cases o with
   | nx δ1=>exact cY
   | _=>exact yr
def vT {tg:Tg} {e:E} {Q:Out->Prop}:wS cx (.asg tg e) δ Q↔wE cx e δ λd δ1=>wTg δ1 tg d λδ2=>Q (.nx δ2):=yb.trans (xc λ_ _=>yqs.trans (xd λ_=>yr))
def Ip {i:Nat} {d:D} {Q:Loc->Prop}:wTg δ (.nm i) d Q↔uq δ i (.val d) Q:=yi
def Io {is:List Nat} {ds:List D} {Q:Loc->Prop}:wTg δ (.tp is) (.tup ds) Q↔(is.length = ds.length/\is.all (· < δ.length) = true)/\Q ((is.zip ds).foldl (λδ p=>δ.set p.1 (.val p.2)) δ):=yi
def Iw {i:Nat} {e:E} {Q:Out->Prop}:wS cx (.new i e) δ Q↔wE cx e δ λd δ1=>∃ ds,d = .lst ds/\uq δ1 i (.own ds) λδ2=>Q (.nx δ2):=yb.trans (xc λx _=>by
 cases x with
 | lst k=>refine Iff.trans ?_ DX.symm;exact yi
 | _=>exact yn λ⟨_,e,_⟩=>by cases e)
def vR {e:E} {Q:Out->Prop}:wS cx (.ret e) δ Q↔wE cx e δ λd δ1=>Q (.rt d δ1):=yb.trans (xc λ_ _=>yr)
def vS {c:E} {a b:Ss} {Q:Out->Prop}:wS cx (.ifs c a b) δ Q↔wT cx c δ λk δ1=>if k = true then wSs cx a δ1 Q else wSs cx b δ1 Q:=yb.trans (xc λk _=>by cases k<;>exact cY)
def Be {tg:Tg} {src:It} {body:Ss} {Q:Out->Prop}:wS cx (.for_ tg src body) δ Q↔wI cx src δ λds δ1=>uw cx tg body ds δ1 Q:=yb.trans (xc λ_ _=>cY)
def qT {i:Nat} {e:E} {Q:Out->Prop}:wS cx (.append i e) δ Q↔qD δ i λ_=>wE cx e δ λd δ1=>qD δ1 i λds=>ds.length < sizeLine/\uq δ1 i (.own (ds++[d])) λδ2=>Q (.nx δ2):=by
 unfold wS qD;simp only [evS]
 cases δ[i]? with
 | none=>exact yn id
 | some s =>
   cases s with
   | own ds0 =>
     refine yb.trans (xc λd δ1=>?_);dsimp only
     cases h1:δ1[i]? with
     | none=>exact yn id
     | some s =>
       cases s with
       | own ds=>exact yi.trans ⟨λq=>⟨q.1,(aA.mp h1).1,q.2⟩,λq=>⟨q.1,q.2.2⟩⟩
       | _=>exact yn id
   | _=>exact yn id
def zx {i:Nat} {e:E} {Q:Out->Prop}:wS cx (.extend i e) δ Q↔qD δ i λ_=>wE cx e δ λd δ1=>∃ ys,d = .lst ys/\qD δ1 i λds=>ds.length+ys.length<=sizeLine/\uq δ1 i (.own (ds++ys)) λδ2=>Q (.nx δ2):=by
 unfold wS qD;simp only [evS]
 cases δ[i]? with
 | none=>exact yn id
 | some s =>
   cases s with
   | own ds0 =>
     refine yb.trans (xc λd δ1=>?_)
     cases d with
     | lst ys =>
       refine Iff.trans ?_ DX.symm;dsimp only
       cases h1:δ1[i]? with
       | none=>exact yn id
       | some s =>
         cases s with
         | own ds=>exact yi.trans ⟨λq=>⟨q.1,(aA.mp h1).1,q.2⟩,λq=>⟨q.1,q.2.2⟩⟩
         | _=>exact yn id
     | _=>exact yn λ⟨_,e,_⟩=>by cases e
   | _=>exact yn id
def uv {tg:Tg} {body:Ss} {Q:Out->Prop}:uw cx tg body [] δ Q↔Q (.nx δ):=yr
def qV {tg:Tg} {body:Ss} {x:D} {xs:List D} {Q:Out->Prop}:uw cx tg body (x::xs) δ Q↔wTg δ tg x λδ2=>wSs cx body δ2 (vg (λδ3=>uw cx tg body xs δ3 Q) Q):=by
 unfold uw wTg wSs;simp only [forL,MG]
 cases dq δ tg x with
 | none=>exact yn (λ⟨_,e,_⟩=>by cases e)
 | some δ2 =>
   refine Iff.trans ?_ yr.symm;dsimp only
   cases en cx body δ2 with
   | none=>exact yn (λ⟨_,e,_⟩=>by cases e)
   | some o =>
     refine Iff.trans ?_ yr.symm
     cases o with
     | nx δ1=>exact cY
     | _=>exact yr
def jY {tg:Tg} {body:Ss} {Q:Out->Prop} (P:List D->Loc->Prop) (step:∀ x xs δ,P (x::xs) δ->wTg δ tg x λδ2=>wSs cx body δ2 (vg (P xs) Q)) (fin:∀ δ,P [] δ->Q (.nx δ)):∀ (ds:List D) (δ:Loc),P ds δ->uw cx tg body ds δ Q
 | [],δ,h=>uv.mpr (fin δ h)
 | x::xs,δ,h=>by
   rw [qV];obtain ⟨δ2,e,o,e2,q⟩:=step x xs δ h;refine ⟨δ2,e,o,e2,?_⟩
   cases o with
   | nx δ1=>exact jY P step fin xs δ1 q
   | rt d δ1=>exact q
   | ro d δ1=>exact q
def pA {k:Nat} {tg:Tg} {ifs:Eo} {elt:E} {Q:List D->Loc->Prop} (P:D->D->Prop):∀ (ds:List D),(∀ x∈ds,wTg (δ++aS k .no) tg x λδ2=>wG cx ifs δ2 λb δ3=>b = true/\wE cx elt δ3 λy δ4=>P x y/\δ4.take δ.length = δ) ->
 (∀ ys,PySem.Paired P ds ys->Q ys δ)->kZ cx k tg ifs elt ds δ Q
 | [],h,q=>kB.mpr (q [] .nil)
 | x::xs,h,q=>by
   rw [jt];obtain ⟨δ2,e,b,δ3,e2,rfl,y,δ4,e3,p,t⟩:=h x ak;refine ⟨δ2,e,true,δ3,e2,?_⟩;show if true = true then _ else _
   rw [if_pos rfl];refine ⟨y,δ4,e3,?_⟩;show kZ cx k tg ifs elt xs (δ4.take δ.length) _;rw [t];exact pA P xs (λz hz=>h z (aj _ hz)) λys r=>q (y::ys) (.cons p r)
end
def Bq {a b:Int} {Q:D->Prop}:wOp .add (.int a) (.int b) Q↔Q (.int (a+b)):=yr
def Bj {a b:Int} {Q:D->Prop}:wOp .sub (.int a) (.int b) Q↔Q (.int (a - b)):=yr
def Bl {a b:Int} {Q:D->Prop}:wOp .mul (.int a) (.int b) Q↔rD a b = true/\Q (.int (a * b)):=yi
def Bm {a b:Int} {Q:D->Prop}:wOp .mod (.int a) (.int b) Q↔0 < b/\Q (.int (a % b)):=yi
def zB {a b:Int} {Q:D->Prop}:wOp .fdiv (.int a) (.int b) Q↔(0 < b/\b < 1000000000000000000000000000000000000000000000000000000000000)/\Q (.int (a / b)):=yi
def Bo {a b:Str} {Q:D->Prop}:wOp .add (.str a) (.str b) Q↔a.length+b.length<=sizeLine/\Q (.str (a++b)):=yi
def Bk {a:Str} {b:Int} {Q:D->Prop}:wOp .mul (.str a) (.int b) Q↔(0<=b/\b<=1000/\a.length<=1000)/\Q (.str (wB a b.toNat)):=yi
def Bn {x:D} {a b:List D} {Q:D->Prop}:wOp .add (.tup (x::a)) (.tup b) Q↔(x::a).length+b.length<=sizeLine/\Q (.tup (x::a++b)):=yi
def Bp {a b:List D} {Q:D->Prop}:wOp .add (.lst a) (.lst b) Q↔a.length+b.length<=sizeLine/\Q (.lst (a++b)):=yi
def Fv {a b:Int} {Q:Bool->Prop}:oF .lt (.int a) (.int b) Q↔Q (decide (a < b)):=yr
def Fw {a b:Int} {Q:Bool->Prop}:oF .gt (.int a) (.int b) Q↔Q (decide (b < a)):=yr
def BD {a b:Int} {Q:Bool->Prop}:oF .eq (.int a) (.int b) Q↔Q (decide (a = b)):=yr
def BC {a b:Str} {Q:Bool->Prop}:oF .eq (.str a) (.str b) Q↔Q (a == b):=yr
def BB {a:D} {ds:List D} {Q:Bool->Prop}:oF .isin a (.tup ds) Q↔(dep a<=150/\cO ds < 99999)/\Q (ds.any λy=>eqD y a):=yi
def zJ {ds:List D} {Q:D->Prop}:qE .len [.lst ds] Q↔Q (.int ds.length):=yr
def zL {b:Bool} {Q:D->Prop}:qE .toInt [.bl b] Q↔Q (.int (if b then 1 else 0)):=yr
def uy {i:Int} {Q:D->Prop}:qE .toStr [.int i] Q↔i.natAbs.log2 < 1920/\Q (.str (toString i)):=yi
def zF {ds:List D} {Q:D->Prop}:qE .toTup [.lst ds] Q↔Q (.tup ds):=yr
def zI {ds:List D} {Q:D->Prop}:qE .toLst [.lst ds] Q↔Q (.lst ds):=yr
def zG {ds:List D} {Q:D->Prop}:qE .toLst [.tup ds] Q↔Q (.lst ds):=yr
def pC {ds:List D} {Q:D->Prop}:qE .sortb [.lst ds] Q↔AD ds = true/\Q (.lst (kb ds)):=yi
def Im {b:Bool} {Q:Bool->Prop}:wTv (.bl b) Q↔Q b:=yr
def Fj {ds:List D} {Q:Bool->Prop}:wTv (.lst ds) Q↔Q (!ds.isEmpty):=yr
def Fq {ds:List D} {i:Int} {Q:D->Prop}:wIx (.lst ds) (.int i) Q↔∃ d,L2.atI ds i = some d/\Q d:=cY
def Bt {d:D} {ds:List D} {Q:D->Prop}:wIx (.tup (d::ds)) (.int 0) Q↔Q d:=by
 simp [wIx,ixD,L2.atI,L2.ixN]
def vX {ds:List D} {Q:List D->Prop}:wItems (.lst ds) Q↔Q ds:=yr
def vW {ds:List D} {Q:List D->Prop}:wItems (.tup ds) Q↔Q ds:=yr
def gg (G:List Fd) (gl:List D) (n i:Nat) (ds:List D) (Q:D->Prop):Prop:=∃ d,PP.run G gl n i ds = some d/\Q d
def retS (Q:D->Prop):Out->Prop
 | .rt d _=>Q d
 | .nx _=>Q .non
 | .ro d _=>Q d
def bY {G:List Fd} {gl:List D} {n i:Nat} {ds:List D} {P Q:D->Prop} (h:gg G gl n i ds P) (k:∀ d,P d->Q d):gg G gl n i ds Q:=by
 obtain ⟨d,e,p⟩:=h;exact ⟨d,e,k d p⟩
def bN {G:List Fd} {gl:List D} {n i:Nat} {ds:List D} {Q:D->Prop} (fd:Fd) (h:G[i]? = some fd) (hl:ds.length = fd.ps.length) (hf:fd.hf = false) (q:wSs ⟨PP.run G gl n,gl,hfs G⟩ fd.body (init (fd.ps++fd.loc).length ds) (retS Q)):gg G gl (n+1) i ds Q:=by
 obtain ⟨o,e,q⟩:=q;unfold gg
 have:PP.run G gl (n+1) i ds = outD (en ⟨PP.run G gl n,gl,hfs G⟩ fd.body (init (fd.ps++fd.loc).length ds)):=by
  conv=>lhs;unfold PP.run
  rw [h];dsimp only;rw [if_pos hl,hf];rfl
 rw [this,e]
 cases o with
 | rt d δ=>exact ⟨d,rfl,q⟩
 | ro d δ=>exact ⟨d,rfl,q⟩
 | nx δ=>exact ⟨.non,rfl,q⟩
def ni {G:List Fd} {gl:List D} {n f:Nat} {ds:List D} {Q:D->Prop}:lg ⟨PP.run G gl n,gl,hfs G⟩ f ds Q↔gg G gl n f ds Q:=cY
def Gb {Q:D->Prop} {d:D} {δ:Loc}:retS Q (.rt d δ)↔Q d:=cY
def Fp {x:Str} {i:Int} {Q:D->Prop}:wIx (.str x) (.int i) Q↔x.length<=sizeLine/\∃ c,L2.atI x.cps.toList i = some c/\Q (.str ⟨#[c]⟩):=by
 unfold wIx ixD;dsimp only;constructor
 . rintro ⟨z,e,q⟩;split at e
   . rw [aQ] at e;obtain ⟨c,e,rfl⟩:=e;exact ⟨‹_›,c,e,q⟩
   . cases e
 . rintro ⟨h,c,e,q⟩;exact ⟨_,by rw [if_pos h,e];rfl,q⟩
def cu {G:List Fd} {gl:List D} {n i:Nat} {ds:List D} {d:D} {Q:D->Prop} (h:PP.run G gl n i ds = some d):gg G gl n i ds Q↔Q d:=by
 unfold gg;rw [h];exact ⟨λ⟨_,e,q⟩=>by cases e;exact q,λq=>⟨d,rfl,q⟩⟩
def cB {G:List Fd} {gl:List D} {n i:Nat} {ds:List D} {d:D} (h:gg G gl n i ds λx=>x = d):PP.run G gl n i ds = some d:=by
 obtain ⟨x,e,rfl⟩:=h;exact e
def qv {α:Type} {ds:List α} {j:Int} (h0:0<=j) (h1:j < ds.length):∃ d,d∈ds/\L2.atI ds j = some d:=by
 have hk:j.toNat < ds.length:=by omega
 refine ⟨ds[j.toNat],jQ hk,?_⟩;have:=L2.atI_nat (xs:=ds) (j:=j.toNat) (v:=ds[j.toNat]) (aE hk)
 rwa [show ((j.toNat:Nat):Int) = j by omega] at this
def mul_r {a b:Int} (h0:-(2 ^ 64) < b) (h1:b < 2 ^ 64):rD a b = true:=by
 unfold rD;simp only [decide_eq_true h0,decide_eq_true h1,cC,Bool.or_true,vP]
def small {n:Nat} (h:n<=1000):n<=sizeLine:=kz (dN h ⇑0)
def str_len (x:Str):x.cps.toList.length = x.length:=by
 show x.cps.toList.length = x.cps.size;simp
def sk {lo:Int} {n:Nat} {x:D} (h:x∈su lo n):∃ i:Nat,i < n/\x = .int (lo+i):=by
 unfold su at h;rw [cq] at h;obtain ⟨i,hi,rfl⟩:=h;exact ⟨i,by simpa using hi,rfl⟩
def sr {lo:Int} {n:Nat}:(su lo n).length = n:=by simp [su]
def Bs {a b:D} {ds:List D} {Q:D->Prop}:wIx (.tup (a::b::ds)) (.int 1) Q↔Q b:=by
 have:L2.atI (a::b::ds) 1 = some b:=L2.atI_nat (j:=1) rfl;simp [wIx,ixD,this]
def Br {a b c:D} {ds:List D} {Q:D->Prop}:wIx (.tup (a::b::c::ds)) (.int 2) Q↔Q c:=by
 have:L2.atI (a::b::c::ds) 2 = some c:=L2.atI_nat (j:=2) rfl;simp [wIx,ixD,this]
def Fm {δ:Loc} {i j:Nat} {a b:D} {Q:Loc->Prop}:wTg δ (.tp [i,j]) (.tup [a,b]) Q↔uq δ i (.val a) λδ1=>uq δ1 j (.val b) Q:=by
 rw [Io];unfold uq;simp only [hZ,vO,cj,mZ,aa,decide_eq_true_eq];exact ⟨λ⟨⟨_,h1,h2⟩,q⟩=>⟨h1,h2,q⟩,λ⟨h1,h2,q⟩=>⟨⟨rfl,h1,h2⟩,q⟩⟩
def SI:=aw (@aN.{0,0}) (aw (@ox.{0,0}) (aw (@jR.{0}) (aw (@iu.{0}) (aw (@bA.{0}) (aw (@ay.{0}) (aw (@aF.{0}) (aw (@AK.{0}) (@List.replicate_zero.{0}))))))))
def WI:(∀ a b:Prop,(if True then a else b) = a)/\(∀ a b:Prop,(if False then a else b) = b)/\((false = true) = False)/\∀ (p:Prop) [Decidable p],(decide p = true) = p:=⟨λ_ _=>if_pos trivial,λ_ _=>if_neg id,↥0,λp _=>by simp⟩
def WS:=aw (@Lr) (aw (@IH) (aw (@ID) (aw (@IK) (aw (@II) (aw (@Iu) (aw (@IM) (aw (@IE) (aw (@Iv) (aw (@Lj) (aw (@Ir) (aw (@Iq) (aw (@Fn) (aw (@IG) (aw (@IC) (aw (@IF) (aw (@Lu) (aw (@Lq) (aw (@oK) (aw (@IJ) (aw (@ux) (aw (@Fs) (aw (@Bx) (aw (@Ll) (aw (@Iz) (aw (@Lp) (aw (@IA) (aw (@Lo) (aw (@xK) (aw (@me) (aw (@BO) (aw (@DA) (aw (@Bc) (aw (@zt) (aw (@zr) (aw (@Bh) (aw (@vV) (aw (@vU) (aw (@zy) (aw (@Bg) (aw (@zv) (aw (@AX) (aw (@AY) (aw (@zC) (aw (@Bu) (aw (@Bv) (aw (@zA) (aw (@Bi) (aw (@Ft) (aw (@iH) (aw (@cM) (aw (@vT) (aw (@Ip) (aw (@Iw) (aw (@vR) (aw (@vS) (aw (@Be) (aw (@qT) (aw (@zx) (aw (@Bq) (aw (@Bj) (aw (@Bl) (aw (@Bm) (aw (@zB) (aw (@Bo) (aw (@Bk) (aw (@Bn) (aw (@Bp) (aw (@Fv) (aw (@Fw) (aw (@BD) (aw (@BC) (aw (@BB) (aw (@zJ) (aw (@zL) (aw (@uy) (aw (@zF) (aw (@zI) (aw (@zG) (aw (@Im) (aw (@Fj) (aw (@Fq) (aw (@Bt) (aw (@vX) (aw (@vW) (aw (@ni) (aw (@Gb) (aw (@Fp) (aw (@MK) (aw (@yM) (aw (@DX) (aw (@Bs) (aw (@Br) (aw (@Fm) (iU))))))))))))))))))))))))))))))))))))))))))))))))))))))))))))))))))))))))))))))))))))))))))))))
section
variable {cx:Cl} {δ:Loc}
def kC {α:Type} (g:α->D) (p:α->Bool) (h:α->D):∀ (xs:List α),(∀ x∈xs,wTg (δ++aS k .no) tg (g x) λδ2=>wG cx ifs δ2 λb δ3=>b = p x/\if b = true then wE cx elt δ3 λy δ4=>y = h x/\δ4.take δ.length = δ else δ3.take δ.length = δ) ->
 Q ((xs.filter p).map h) δ->kZ cx k tg ifs elt (xs.map g) δ Q
 | [],_,q=>kB.mpr q
 | x::xs,hx,q=>by
   rw [aN,jt];obtain ⟨δ2,e,b,δ3,e2,rfl,e3⟩:=hx x ak;refine ⟨δ2,e,_,δ3,e2,?_⟩
   cases hp:p x with
   | true =>
     rw [hp,if_pos rfl] at e3;obtain ⟨y,δ4,e4,rfl,t⟩:=e3;rw [if_pos rfl];refine ⟨_,δ4,e4,?_⟩;show kZ cx k tg ifs elt _ (δ4.take δ.length) _;rw [t];refine kC g p h xs (λz hz=>hx z (aj _ hz)) ?_;rw [List.filter_cons_of_pos hp] at q
     exact q
   | false =>
     rw [hp,if_neg au] at e3;rw [if_neg au,e3];refine kC g p h xs (λz hz=>hx z (aj _ hz)) ?_;rw [List.filter_cons_of_neg (by simp [hp])] at q;exact q
def gj {α:Type} (g:α->D) (P:List α->Loc->Prop) (step:∀ x xs δ,P (x::xs) δ->wTg δ tg (g x) λδ2=>wSs cx body δ2 (vg (P xs) Q)) (fin:∀ δ,P [] δ->Q (.nx δ)) (xs:List α) (δ:Loc) (h:P xs δ):uw cx tg body (xs.map g) δ Q:=by
 induction xs generalizing δ with
 | nil=>exact uv.mpr (fin δ h)
 | cons x xs ih =>
   rw [aN,qV];obtain ⟨δ2,e,o,e2,q⟩:=step x xs δ h;refine ⟨δ2,e,o,e2,?_⟩
   cases o with
   | nx δ3=>exact ih δ3 q
   | rt d δ3=>exact q
   | ro d δ3=>exact q
end
def rX (δ:Loc) (i:Nat) (Q:Nat->List D->Prop):Prop:=match δ[i]? with
 | some (.fnc k cs)=>Q k cs
 | _=>False
def pB (δ:Loc) (caps:List Nat) (Q:List D->Prop):Prop:=∃ cs,lr δ caps = some cs/\Q cs
section
variable {cx:Cl} {δ:Loc}
def zD {i:Nat} {t:Sl} {Q:Nat->List D->Prop}:rX (t::δ) (i+1) Q↔rX δ i Q:=by simp [rX]
def Bw {k:Nat} {cs:List D} {Q:Nat->List D->Prop}:rX (.fnc k cs::δ) 0 Q↔Q k cs:=by simp [rX]
def zE {Q:List D->Prop}:pB δ [] Q↔Q []:=by simp [pB,lr]
def vY {i:Nat} {r:List Nat} {Q:List D->Prop}:pB δ (i::r) Q↔rW δ i λd=>flat d = true/\pB δ r λcs=>Q (d::cs):=by
 unfold pB rW;constructor
 . rintro ⟨cs,e,q⟩;unfold lr at e
   cases h:PP.get δ i with
   | none=>rw [h] at e;cases e
   | some d =>
     rw [h] at e;dsimp only at e;split at e
     . rw [aQ] at e;obtain ⟨x,e,rfl⟩:=e;exact ⟨d,rfl,‹_›,x,e,q⟩
     . cases e
 . rintro ⟨d,h,f,cs,e,q⟩;refine ⟨d::cs,?_,q⟩;unfold lr;rw [h];dsimp only;rw [if_pos f,e];rfl
def mH:lfO o = some d↔o = some d/\lf d = true:=by
 cases o with
 | none=>simp [lfO]
 | some r =>
   unfold lfO;dsimp only;split
   . rename_i h;constructor
     . intro e;cases e;exact ⟨rfl,h⟩
     . intro e;exact e.1
   . rename_i h;constructor
     . intro e;cases e
     . rintro ⟨e,z⟩;cases e;exact absurd z h
def By {i:Nat} {es:Es} {Q:D->Loc->Prop}:wE cx (.callv i es) δ Q↔rX δ i λk cs=>wEs cx es δ λds δ1=>lfL ds = true/\lg cx k (ds++cs) λz=>lf z = true/\Q z δ1:=by
 unfold wE wEs lg rX;simp only [evE,ae,ab,Prod.exists];constructor
 . rintro ⟨d,δ',⟨ds,δ1,h1,e⟩,q⟩;split at e
   . rename_i h
     (try rw [h])
     split at e
     . rw [aQ] at e;obtain ⟨r,e,e2⟩:=e;cases e2;rw [mH] at e;exact ⟨ds,_,h1,‹_›,d,e.1,e.2,q⟩
     . cases e
   . cases e
 . intro h;split at h
   . rename_i k cs hk;obtain ⟨ds,δ1,h1,h2,z,h3,h4,q⟩:=h;refine ⟨z,δ1,⟨ds,δ1,h1,?_⟩,q⟩
     (try rw [hk])
     (try dsimp only)
     rw [if_pos h2,mH.mpr ⟨h3,h4⟩];rfl
   . exact h.elim
def Bz {f i:Nat} {es:Es} {Q:D->Loc->Prop}:wE cx (.callF f es i) δ Q↔wEs cx es δ λds δ1=>rX δ1 i λk cs=>cx.hf f = true/\lg cx f (ds++[.fn k cs]) λz=>Q z δ1:=by
 unfold wE wEs lg rX;simp only [evE,ae,ab,Prod.exists];constructor
 . rintro ⟨d,δ',⟨ds,δ1,h1,e⟩,q⟩;refine ⟨ds,δ1,h1,?_⟩;split at e
   . rename_i h
     (try rw [h])
     split at e
     . rw [aQ] at e;obtain ⟨r,e,e2⟩:=e;cases e2;exact ⟨‹_›,d,e,q⟩
     . cases e
   . cases e
 . rintro ⟨ds,δ1,h1,h⟩;split at h
   . rename_i k cs hk;obtain ⟨h2,z,h3,q⟩:=h;refine ⟨z,δ1,⟨ds,δ1,h1,?_⟩,q⟩
     (try rw [hk])
     (try dsimp only)
     rw [if_pos h2,h3];rfl
   . exact h.elim
def Fo {f k:Nat} {es:Es} {caps:List Nat} {Q:Out->Prop}:wS cx (.retL f es k caps) δ Q↔wEs cx es δ λds δ1=>pB δ1 caps λcs=>cx.hf f = true/\lg cx f (ds++[.fn k cs]) λz=>lf z = true/\Q (.rt z δ1):=by
 unfold wS wEs lg pB;simp only [evS,ae,ab,Prod.exists];constructor
 . rintro ⟨o,⟨ds,δ1,h1,cs,h2,e⟩,q⟩;refine ⟨ds,δ1,h1,cs,h2,?_⟩;split at e
   . rw [aQ] at e;obtain ⟨r,e,e2⟩:=e;cases e2;rw [mH] at e;exact ⟨‹_›,r,e.1,e.2,q⟩
   . cases e
 . rintro ⟨ds,δ1,h1,cs,h2,h3,z,h4,h5,q⟩;refine ⟨_,⟨ds,δ1,h1,cs,h2,?_⟩,q⟩;rw [if_pos h3,mH.mpr ⟨h4,h5⟩];rfl
end
def zK:qE .toInt [.str x] Q↔x.length<=640/\∃ n,PySem.intText? x = some n/\Q (.int n):=by
 unfold qE;simp only [jS,pG];constructor
 . rintro ⟨z,e,q⟩;split at e
   . rw [aQ] at e;obtain ⟨n,e1,rfl⟩:=e;exact ⟨‹_›,n,e1,q⟩
   . cases e
 . rintro ⟨h,n,e,q⟩;exact ⟨.int n,by rw [if_pos h,e];rfl,q⟩
def nh (fd:Fd) (h:G[i]? = some fd) (hl:ds.length = fd.ps.length) (hf:fd.hf = true) (he:entry true (fd.ps++fd.loc).length ds = some δ) (q:wSs ⟨PP.run G gl n,gl,hfs G⟩ fd.body δ (retS Q)):gg G gl (n+1) i ds Q:=by
 obtain ⟨o,e,q⟩:=q;unfold gg
 have:PP.run G gl (n+1) i ds = outD (en ⟨PP.run G gl n,gl,hfs G⟩ fd.body δ):=by
  conv=>lhs;unfold PP.run
  rw [h];dsimp only;rw [if_pos hl,hf,he]
 rw [this,e]
 cases o with
 | rt d δ=>exact ⟨d,rfl,q⟩
 | ro d δ=>exact ⟨d,rfl,q⟩
 | nx δ=>exact ⟨.non,rfl,q⟩
def WC:=aw (@By) (aw (@Bz) (aw (@Fo) (aw (@zD) (aw (@Bw) (aw (@zE) (@vY))))))
section
variable {cx:Cl} {δ:Loc}
def uo {ss:Ss} {es:Es} {i:Nat} (ds l:List D) {Q:Out->Prop} (h:dU cx es δ = some (ds,δ)) (ho:δ[i]? = some (.own l)) (hl:ds.length < sizeLine) (q:Q (.ro (.tup (.lst l::ds)) δ)):wSs cx (.cons (.rett i es) ss) δ Q:=by
 refine ⟨.ro (.tup (.lst l::ds)) δ,?_,q⟩
 have e:evS cx (.rett i es) δ = some (.ro (.tup (.lst l::ds)) δ):=by
  simp only [evS,ho,h,ae,bB,if_pos hl]
 simp only [en,e,ae,bB]
def Ba {ss:Ss} {js:List Nat} {f i:Nat} {es:Es} (ds:List D) {Q:Out->Prop} (h:dU cx es δ = some (ds,δ)) (hi:i < δ.length) (hc:lg cx (f+lF) ds λz=>∃ l zs δ2,z = .tup (.lst l::zs)/\dq (δ.set i (.own l)) (.tp js) (.tup zs) = some δ2/\wSs cx ss δ2 Q):wSs cx (.cons (.newt i js f es) ss) δ Q:=by
 obtain ⟨z,hz,l,zs,δ2,rfl,e2,q⟩:=hc
 have e:evS cx (.newt i js f es) δ = some (.nx δ2):=by
  simp only [evS,h,hz,ae,bB,if_pos hi,e2,dn]
 obtain ⟨o,e3,q⟩:=q;exact ⟨o,by simp only [en,e,ae,bB];exact e3,q⟩
def JJ (Q:D->Prop):Out->Prop
 | .ro d _=>Q d
 | _=>False
def Bf (fd:Fd) (h:G[i]? = some fd) (hj:j = i+lF) (few:G.length<=lF) (hl:ds.length = fd.ps.length) (hf:fd.hf = false) (q:wSs ⟨PP.run G gl n,gl,hfs G⟩ fd.body (init (fd.ps++fd.loc).length ds) (JJ Q)):gg G gl (n+1) j ds Q:=by
 obtain ⟨o,e,q⟩:=q;unfold gg
 have:PP.run G gl (n+1) j ds = GB (en ⟨PP.run G gl n,gl,hfs G⟩ fd.body (init (fd.ps++fd.loc).length ds)):=by
  conv=>lhs;unfold PP.run
  rw [hj,dQ ∅];dsimp only;rw [EL,h];dsimp only;rw [if_pos ⟨∅,hl⟩,hf];rfl
 rw [this,e]
 cases o with
 | ro d δ=>exact ⟨d,rfl,q⟩
 | _=>exact q.elim
end
end PP
end
section
namespace PP
open PySem L2 PyProof.Rows
def fzO (b:aq) (o:Obj):HO:=.frz o (.ext λh=>h.get? b = some o)
def jT (H:Hp) (cs:List (aq × Obj)):Hp:=λb=>match cs.lookup b with
 | some o=>some (fzO b o)
 | none=>H b
def hJ (H:Hp) (cs:List (aq × Obj)):Hp:=λb=>match cs.lookup b with
 | some _=>none
 | none=>H b
section
variable {P:bp} {w:bQ} {H H':Hp} {h h':cg} {cs:List (aq × Obj)}
def mT (e:cs.lookup b = some o):jT H cs b = some (fzO b o):=by unfold jT;rw [e]
def dA (e:cs.lookup b = none):jT H cs b = H b:=by unfold jT;rw [e]
def kI (e:cs.lookup b = some o):hJ H cs b = none:=by unfold hJ;rw [e]
def cN (e:cs.lookup b = none):hJ H cs b = H b:=by unfold hJ;rw [e]
def Un0 (H:Hp) (h:cg) (cs:List (aq × Obj)):Prop:=∀ b o,cs.lookup b = some o->H b = none/\h.get? b = some o
def zf (c:Un0 H h cs) (e:H b = some u):jT H cs b = some u:=by
 cases q:cs.lookup b with
 | none=>rw [dA q];exact e
 | some o=>rw [(c b o q).1] at e;cases e
def fF.mono:∀ {u:HO},fF P w H h a u->(∀ b x,(∀ o,x≠fzO b o)->H b = some x->H' b = some x)->fF P w H' h a u
 | .lst _,x,_=>x
 | .tup _,x,_=>x
 | .own _,x,_=>x
 | .frz _ u,x,k=>⟨x.1,fF.mono x.2 k⟩
 | .tbl _,x,_=>x
 | .ext _,x,_=>x
def HOk.add (x:HOk P w H h) (c:Un0 H h cs):HOk P w (jT H cs) h:=λa u e=>by
 cases q:cs.lookup a with
 | none =>
   rw [dA q] at e
   exact fF.mono (x a u e) λb y _ z=>zf c z
 | some o =>
   rw [mT q] at e;cases e;have g:=(c a o q).2;exact ⟨g,g,⟨o,g⟩,λh1 h2 e1 k=>k _ e1⟩
def Fz0 (H:Hp) (cs:List (aq × Obj)):Prop:=∀ b o,cs.lookup b = some o->H b = some (fzO b o)
def HOk.del (x:HOk P w H h) (c:Fz0 H cs):HOk P w (hJ H cs) h:=λa u e=>by
 cases q:cs.lookup a with
 | some o=>rw [kI q] at e;cases e
 | none =>
   rw [cN q] at e;refine fF.mono (x a u e) λb y n z=>?_
   cases r:cs.lookup b with
   | none=>rw [cN r];exact z
   | some o =>
     rw [c b o r] at z;cases z;exact absurd rfl (n o)
def Un.del (u:Un fs ex (jT H cs) H' h h') (x:HOk P w H' h') (c:Un0 H h cs) (nf:∀ b o,cs.lookup b = some o->b∉fs/\b∉ex):Un fs ex H (hJ H' cs) h h'/\Fz0 H' cs:=by
 have fz:Fz0 H' cs:=λb o e=>u.frzs b o _ (mT e);refine ⟨⟨λb o e n hb hx=>?_,λb o e n hb hx=>?_,λb o e n hx=>?_,u.there,λb xs e=>?_,λb o y e=>?_,λb ps e=>?_⟩,fz⟩
 . cases q:cs.lookup b with
   | none=>exact u.keep b o e (by rw [dA q];exact n) hb hx
   | some o' =>
     have g:=(c b o' q).2;rw [e] at g;cases g;exact (x b _ (fz b o q)).1
 . cases q:cs.lookup b with
   | none=>exact u.slot b o e (by rw [dA q];exact n) hb hx
   | some o'=>exact absurd hb (nf b o' q).1
 . cases q:cs.lookup b with
   | none=>rw [cN q];exact u.free b o e (by rw [dA q];exact n) hx
   | some o'=>exact kI q
 . cases q:cs.lookup b with
   | none=>rw [cN q];exact u.tups b xs (by rw [dA q];exact e)
   | some o'=>rw [(c b o' q).1] at e;cases e
 . cases q:cs.lookup b with
   | none=>rw [cN q];exact u.frzs b o y (by rw [dA q];exact e)
   | some o'=>rw [(c b o' q).1] at e;cases e
 . cases q:cs.lookup b with
   | none=>rw [cN q];exact u.tbls b ps (by rw [dA q];exact e)
   | some o'=>rw [(c b o' q).1] at e;cases e
def uc.add {K:PySem.W.Frag} {mg:Str->Option af} {base:cg} {A:bo} {outer:List Env} {s:ai} (e:uc P w K mg base A outer s H) (c:Un0 H s.heap cs) (nb:∀ b o,cs.lookup b = some o->base.get? b = none/\b∉frs outer):uc P w K mg base A outer s (jT H cs) :=
 ⟨e.frames,e.mod,λb o z=>⟨(e.bs b o z).1,by
   cases q:cs.lookup b with
   | none=>rw [dA q];exact (e.bs b o z).2
   | some o'=>rw [(nb b o' q).1] at z;cases z⟩,e.bsz,e.funs,λb hb=>by
   cases q:cs.lookup b with
   | none=>rw [dA q];exact e.frf b hb
   | some o'=>exact absurd hb (nb b o' q).2,HOk.add e.hok c,e.bare⟩
end
def Inv.callF (I:Inv X pins σ H s) (c:Un0 H s.heap cs) (nf:∀ b o,cs.lookup b = some o->b∉frs X.stack)
 (h:CE X.stack X.prog X.w (jT H cs) s Q u s'):∃ v H',Inv X pins σ (hJ H' cs) s'/\RelV v u/\Fz0 H' cs/\Q v H':=by
 obtain ⟨v,H',os,bare,un,hok,r,qq⟩:=h;obtain ⟨hh,g,d,t,os'⟩:=s';obtain rfl:os' = s.os:=os;obtain ⟨un',fz⟩:=Un.del un hok c λb o e=>⟨nf b o e,↥0⟩;exact ⟨v,H',I.call (h':=hh) (g':=g) (d':=d) (t':=t) (ch:=[]) un' (HOk.del hok fz) bare (λb z=>absurd z ↥0),r,fz,qq⟩
end PP
end
section
namespace PP
open PySem L2 PyProof.Rows
variable [Tbs]
section
variable {K:PySem.W.Frag} {H:Hp} {F:aq->Prop}
end
section
variable {X:Cx} {cx:Cl}
end
section
variable {cx:Cl} {k:Nat}
def fU:∀ {es:Es},gu es = true->nG es = true
 | .nil,_=>rfl
 | .cons e es,h=>by
   have h':(!bZ e && gu es) = true:=h;rw [aa] at h';show ((!bZ e || npS es) && nG es) = true;rw [h'.1,fU h'.2];rfl
def iy:∀ {es:Es} {ys:List aG},gh c es ys = true->(backTo pos (starEach ys env)).any (·.1) = false
 | .nil,ys,h=>by obtain ⟨rfl,_⟩:=fu h;rfl
 | .cons e es,ys,h=>by
   obtain ⟨_,_,rfl,hh⟩:=dT h;rw [aa] at hh;rw [cG (cw hh.1)];show (false || (backTo pos (starEach _ env)).any (·.1)) = false;rw [iy hh.2];rfl
def mj (C:Cok X c cx k) (h:jw c sc = true):lP X sc:=by
 unfold jw at h;rw [aa,cX] at h;obtain ⟨h1,h2⟩:=h
 have q:∀ p∈sc.names,p.2≠.cell/\(p.2 = .local->sc.names.lookup p.1 = some .local)/\(p.2 = .free->c.sc.names.lookup p.1 = some .cell\/c.sc.names.lookup p.1 = some .free):=λp hp=>by
  have z:=h2 p hp;rw [aa,aa] at z;obtain ⟨⟨a,b⟩,d⟩:=z;refine ⟨of_decide_eq_true a,λe=>?_,λe=>?_⟩
  . rw [cE] at b;rcases b with b | b
    . simp [e] at b
    . exact of_decide_eq_true b
  . rw [cE] at d;rcases d with d | d
    . simp [e] at d
    . split at d
      . exact .inl ‹_›
      . exact .inr ‹_›
      . cases d
 exact ⟨of_decide_eq_true h1,λy hy=>(q y hy).1,λy hy e=>(q y hy).2.1 e,λx hx=>C.kc x ((q _ hx).2.2 rfl)⟩
def gJ (C:Cok X c cx k) (h:jw c sc = true) (hn:Nc.Nodup) (cl:List (Str × aq)) (Ca:aq) (s:ai) (H:Hp) (fp:List aq):Cok (cxC X sc cl Ca Nc s H fp) ⟨Nc,sc,c.fns,c.gn⟩ cx k:=by
 have S:=mj C h;have kd:∀ x,(cxC X sc cl Ca Nc s H fp).env.kindOf x = (sc.names.lookup x).map λk=>if (k == bX && X.env.scope.kind == .function && X.env.kindOf x == some .cell) then kX else k:=λx=>nO x
 refine ⟨rfl,hn,λx hx=>?_,λx hx=>?_,λx hx=>?_,λx hx=>?_,C.calm,rfl,C.room,C.fns,C.fnF,C.fnO,C.fnD,C.lam,C.blt,C.glob,C.gsome,C.gds,C.pos⟩
 . have e:=kd x;show (cxC X sc cl Ca Nc s H fp).env.kindOf x = some .local\/(cxC X sc cl Ca Nc s H fp).env.kindOf x = some .cell\/(cxC X sc cl Ca Nc s H fp).env.kindOf x = some .free;rw [e];rcases hx with hx | hx | hx
   . rw [hx];exact .inl rfl
   . exact absurd rfl (S.nocell _ (PySem.mem_of_lookup hx))
   . rw [hx];simp only [dn];split
     . exact .inr (.inl rfl)
     . exact .inr (.inr rfl)
 . show (cxC X sc cl Ca Nc s H fp).env.kindOf x = some .globalImplicit;rw [kd x];have hx:sc.names.lookup x = some .globalImplicit:=hx;rw [hx];rfl
 . have:sc.names.lookup x = some .local:=by
    rcases hx with hx | hx
    . exact hx
    . exact absurd rfl (S.nocell _ (PySem.mem_of_lookup hx))
   have e:(cxC X sc cl Ca Nc s H fp).env.kindOf x = some .local:=by rw [kd x,this];rfl
   exact ⟨.inl e,.inr e⟩
 . rw [kd x];have hx:sc.names.lookup x = some .cell\/sc.names.lookup x = some .free:=hx;rcases hx with hx | hx
   . exact absurd rfl (S.nocell _ (PySem.mem_of_lookup hx))
   . rw [hx];simp only [dn];split
     . exact .inl rfl
     . exact .inr rfl
def je (h:namesOk c sc Nc = true):Nc.Nodup/\∀ i x,i < c.N.length->Nc[i]? = some x->Vis sc x->c.N[i]? = some x/\sc.names.lookup x = some .free:=by
 unfold namesOk at h;rw [aa,cX] at h;refine ⟨of_decide_eq_true h.1,λi x hi e v=>?_⟩;have z:=h.2 i (by simpa using hi);rw [e] at z;dsimp only at z;rw [cE,aa] at z
 have vb:zM sc x = true:=by
  unfold zM;rcases v with v | v | v<;>rw [v]
 rcases z with z | ⟨z1,z2⟩
 . rw [vb] at z;cases z
 . exact ⟨of_decide_eq_true z1,of_decide_eq_true z2⟩
def vB {X:Cx} {c:Ck} {Nc:List Str} {kk:Nat} {tg:Tg} {src:It} {ifs:Eo} {elt:E} {pins:List (aq × Obj)} {s:ai} {σ:L2.St} {H:Hp} {Q:VK} (C:Cok X c cx k) (I:Inv X pins σ H s) (n:(!bZ elt) = true) (hk:Nc.length = c.N.length+kk) (hge:mi c.N.length tg = true)
 {G:Gh} {F:aq->Prop} {δ δ':Loc} {d:D} (ok:Ok X.K G F σ H δ) (ev:evE cx (.comp kk tg src ifs elt) δ = some (d,δ'))
 (q:∀ p ys xs H1 F1 H2 F2,d = .lst ys->Step G F H F1 H1->Step G F1 H1 F2 H2->H1 p = none->G.free p->Ok X.K (G.and p) F2 σ H2 δ'->H2 p = some (.lst xs)->aK X.K H2 F2 ys xs->(np (.comp kk tg src ifs elt) = true->Sim H H2)->Q (.ref p) H2) :
 tLC (Nc.length - X.N.length) (tI X.K cx src) (gTg X.K tg) (tG X.K cx ifs) (tE X.K cx elt) σ H Q:=by
 obtain ⟨ds,δ1,ys,ei,ec,hz,rfl⟩:=Hm ev;have ek:Nc.length - X.N.length = kk:=by rw [C.hN,hk];lia
 rw [ek];refine ⟨G,F,δ,ds,δ1,ok,ei,λJ H1 F1 st1 sm1 ok1 wk=>λp hp=>?_⟩;have hg:=ok1.free hp;refine xm n (by rw [I.len,C.hN];exact hge) ok1 (wk _) hp ec hz λσ' H2 F2 xs ok2 eD rl st2 sm2=>?_;refine q p ys xs H1 F1 H2 F2 rfl st1 st2 hp hg ok2 eD rl λz=>?_;have z':(npI src && npO ifs && np elt) = true:=z;rw [aa,aa] at z';exact (sm1 z'.1.1).trans (sm2 (by rw [z'.1.2,z'.2];rfl))
def Ei {X:Cx} {c:Ck} {Nc:List Str} {kk:Nat} {tg:Tg} {src:It} {ifs:Eo} {elt:E} {pins:List (aq × Obj)} {s:ai} {σ:L2.St} {H:Hp} {Q:VK} (C:Cok X c cx k) (I:Inv X pins σ H s) (n:(!bZ elt) = true) (hk:Nc.length = c.N.length+kk) (hge:mi c.N.length tg = true)
 (h:tE X.K cx (.comp kk tg src ifs elt) σ H Q):tLC (Nc.length - X.N.length) (tI X.K cx src) (gTg X.K tg) (tG X.K cx ifs) (tE X.K cx elt) σ H Q:=by
 obtain ⟨G,F,δ,d,δ',ok,ev,post⟩:=h;refine vB C I n hk hge ok ev λp ys xs H1 F1 H2 F2 e st1 st2 hp hg ok2 eD rl sm=>?_;subst e
 have st':Step G F1 H1 (λb=>F2 b/\b≠p) H2:=⟨st2.keep,λb z=>st2.grow b z.1,λb o r f e=>by
  obtain ⟨a1,a2⟩:=st2.res b o r f e;exact ⟨⟨a1,λw=>by rw [w,hp] at e;cases e⟩,a2⟩,st2.tb⟩
 refine post (.ref p) H2 _ (st1.trans st') sm (ok2.leave hg) (gk ?_);unfold Rel;exact ⟨p,xs,rfl,.inl ⟨.inl eD,λz=>z.2 rfl⟩,aK.less ok2.fd (λb z=>z.1) rl⟩
def BW (C:Cok X c cx k) (n:(!bZ elt) = true) (hk:Nc.length = c.N.length+kk) (hge:mi c.N.length tg = true) (hs:jw c sc = true) (hn:namesOk c sc Nc = true)
 (htg:∀ cl Ca s H fp,PG (cxC X sc cl Ca Nc s H fp) t (gTg X.K tg)) (hI:PI X t it (tI X.K cx src)) (hG:∀ cl Ca s H fp,PTs (cxC X sc cl Ca Nc s H fp) il (tG X.K cx ifs)) (hE:∀ cl Ca s H fp,PE (cxC X sc cl Ca Nc s H fp) ex (tE X.K cx elt))
 (hset:∀ v,foldedSetIterable it X.env v = pure v):PE X (.ListComp ex [⟨t,it,il,0⟩] sc pos) (tE X.K cx (.comp kk tg src ifs elt)):=by
 obtain ⟨nd,hvis⟩:=je hn;intro pins s σ H Q I h;refine CP (Nc:=Nc) C.xe C.calm (mj C hs) (λi x hi=>by rw [C.hN] at hi |-;exact hvis i x hi) (by rw [C.hN,hk];lia) hI htg hG hE hset pins s σ H Q I ?_;exact Ei C I n hk hge h
def call_of {X:Cx} {c:Ck} {f:Nat} {es:Es} {n:Str} {p pos:Pos} {xs:List aG} (C:Cok X c cx k) (hA:PA X xs (tEs X.K cx es)) (h:(match c.fns[f]? with
 | some (m,ps)=>decide (m = n) && fL c n && decide (ps.length = rH es) && gh c es xs && gu es && !xs.isEmpty
 | none=>false) = true):PE X (.Call (.Name n p) xs [] pos) (tE X.K cx (.call f es)):=by
 split at h
 . rename_i m ps ef;simp only [aa] at h;obtain ⟨⟨⟨⟨⟨h1,h2⟩,h3⟩,h4⟩,h5⟩,h6⟩:=h;have e:=of_decide_eq_true h1;subst e;obtain ⟨a,fd,hm,hk,hb,fn⟩:=C.fns f _ _ ef;obtain ⟨g1,g2,g3⟩:=C.global h2
   cases xs with
   | nil=>simp at h6
   | cons y ys =>
     obtain ⟨_,_,_,a1,a2⟩:=eJ h4;exact BX h5 fn C.room g1 hm hk hb hA g2 (cG (cw a1) _ _) (iy a2)
 . cases h
def KS (C:Cok X c cx k) (hg:fL c (rK f) = true) (ht:tyName f = none) (hA:PA X (y::ys) (tEs X.K cx es)) (h:gh c es (y::ys) = true):PE X (.Call (.Name (rK f) p) (y::ys) [] pos) (tE X.K cx (.blt f es)):=by
 obtain ⟨g1,g2,g3⟩:=C.global hg;obtain ⟨e,es',rfl,h1,h2⟩:=eJ h;have he:=cG (cw h1) ys X.env;have hpl:=iy (env:=X.env) (pos:=pos) h2
 cases f with
 | len=>exact kD GS rfl (pU KN g1 (C.blt _ ⇑0) rfl hA g3 g2 he hpl)
 | toInt=>exact kD pG rfl (jd KO g1 (C.blt _ ⇑0) rfl hA g3 g2 he hpl)
 | toStr=>exact kD rZ rfl (jd KJ g1 (C.blt _ ⇑0) rfl hA g3 g2 he hpl)
 | toTup=>exact kD rY rfl (jd KI g1 (C.blt _ ⇑0) rfl hA g3 g2 he hpl)
 | toLst=>exact kD nr rfl (jd KL g1 (C.blt _ ⇑0) rfl hA g3 g2 he hpl)
 | sortb=>exact kD sf rfl (pU (En C.units) g1 (C.blt _ ⇑0) rfl hA g3 g2 he hpl)
 | _=>cases ht
end
section
variable {K:PySem.W.Frag} {cx:Cl} {G:Gh} {p:aq} {lo k:Nat}
def emI (cx:Cl) (src:It) (tg:Tg) (b:Loc->Option (List D × Loc)) (δ:Loc):Option (List D × Loc):=do
 let (es,δb) <- evI cx src δ
 ie (λy δi=>do
  let δd <- dq δi tg y
  b δd) es δb
def emE (cx:Cl) (elt:E) (δ:Loc):Option (List D × Loc):=do
 let (u,δg) <- evE cx elt δ
 return ([u],δg)
def emO (k:Nat) (tg:Tg) (b:Loc->Option (List D × Loc)) (x:D) (δ0:Loc):Option (List D × Loc):=do
 let δa <- dq (δ0++aS k .no) tg x
 let (zs,δc) <- b δa
 return (zs,δc.take δ0.length)
def Kq (ev:evE cx (.lc3 k tg1 src1 tg2 src2 tg3 src3 elt) δ = some (d,δ')) :
 ∃ ds δ1 ys,evI cx src1 δ = some (ds,δ1)/\ie (emO k tg1 (emI cx src2 tg2 (emI cx src3 tg3 (emE cx elt)))) ds δ1 = some (ys,δ')/\ys.length<=sizeLine/\d = .lst ys:=by
 simp only [evE,ae,ab] at ev;obtain ⟨⟨ds,δ1⟩,ea,⟨ys,δ2⟩,eb,ev⟩:=ev;dsimp only at ev;split at ev
 . cases ev;exact ⟨ds,δ1,ys,ea,eb,‹_›,rfl⟩
 . cases ev
def yQ {f:D->Loc->Option (List D × Loc)} {x:D} {xs ys:List D} {δ δ':Loc} (h:ie f (x::xs) δ = some (ys,δ')):∃ o δ1 zs,f x δ = some (o,δ1)/\ie f xs δ1 = some (zs,δ')/\ys = o++zs:=by
 unfold ie at h;simp only [ae,ab] at h;obtain ⟨⟨o,δ1⟩,e1,⟨zs,δ2⟩,e2,h⟩:=h;cases h;exact ⟨o,δ1,zs,e1,e2,rfl⟩
def EmL (K:PySem.W.Frag) (G:Gh) (p:aq) (lo:Nat) (tu:TU) (b:Loc->Option (List D × Loc)) (pu:Bool):Prop :=
 ∀ (F:aq->Prop) (H:Hp) (σ:L2.St) (δ δ':Loc) (o yi:List D) (xs:List V) (Q:L2.St->Hp->Prop),Ok K (G.and p) F σ H δ->b δ = some (o,δ')->H p = some (.lst xs)->aK K H F yi xs->yi.length+o.length<=sizeLine ->
  (∀ σ' H2 F2 xs2,σ'.length = σ.length->σ'.take lo = σ.take lo->Ok K (G.and p) F2 σ' H2 δ'->H2 p = some (.lst xs2)->aK K H2 F2 (yi++o) xs2->Step G F H F2 H2->(pu = true->∀ H0,H0 p = none->Sim H0 H->Sim H0 H2)->Q σ' H2)->tu σ H Q
def Hi (n:(!bZ elt) = true) (hg:G.free p):EmL K G p lo (uE p (tE K cx elt)) (emE cx elt) (np elt):=λF H σ δ δ' o yi xs Q ok ev eD rl hl q=>by
 simp only [emE,ae,ab] at ev;obtain ⟨⟨y,δ1⟩,ee,ev⟩:=ev;cases ev;have hF:F p:=ok.rf p (.inr rfl);refine ⟨G.and p,F,δ,y,_,ok,ee,λu H8 F8 st8 sm8 ok8 r8=>?_⟩;have eD8:=(st8.res p _ (.inr rfl) hF eD).2;have ry:=eY n r8;have rl8:aK K H8 F8 yi xs:=aK.step ok.fd st8 yi xs rl;have hF8:F8 p:=ok8.rf p (.inr rfl);have pk:Step g0 F8 H8 F8 (upd H8 p (.lst (xs++[u]))):=⟨λb o _ e nf=>by rw [bI (λz:b = p=>nf (by rw [z];exact hF8))];exact e,λb z=>.inl z,λ_ _ r _ _=>r.elim,λb ps e=>⟨ps,by rw [bI (λw:b = p=>by rw [w,eD8] at e;cases e)];exact e⟩⟩;have s1:=st8.sub (G:=G) λb z=>.inl z;refine ⟨xs,eD8,by rw [rl8.length];simp only [ay,aF] at hl;lia,q σ _ F8 _ rfl rfl (ok8.poke hg eD8 (xs++[u])) bU (aK.step ok8.fd pk _ _ (rl8.append (aK.one ry))) ⟨λb o t e nf=>?_,s1.grow,λb o r f e=>?_,λb ps e=>?_⟩ λz H0 h0 s0=>(s0.trans (sm8 z)).new h0⟩
 . rw [bI (λw:b = p=>nf (by rw [w];exact hF))];exact s1.keep b o t e nf
 . obtain ⟨a1,a2⟩:=s1.res b o r f e;refine ⟨a1,?_⟩;rw [bI (λw:b = p=>hg.2 (by rw [<- w];exact r))];exact a2
 . rw [bI (λw:b = p=>by rw [w,eD] at e;cases e)];exact s1.tb b ps e
def HX {tg:Tg} {src:It} {tu:TU} {b:Loc->Option (List D × Loc)} {pu:Bool} (hge:mi lo tg = true) (em:EmL K G p lo tu b pu):EmL K G p lo (Fy (tI K cx src) (gTg K tg) tu) (emI cx src tg b) (npI src && pu):=λF H σ δ δ' o yi xs Q ok ev eD rl hl q=>by
 simp only [emI,ae,ab] at ev;obtain ⟨⟨es,δb⟩,e2,ev⟩:=ev;refine ⟨G.and p,F,δ,es,δb,ok,e2,λJ H7 F7 st7 sm7 ok7 wk7=>?_⟩;have hF:F p:=ok.rf p (.inr rfl)
 refine sP (P:=λr F' σc Hc=>∃ δi zs yc xc,σc.length = σ.length/\σc.take lo = σ.take lo/\Ok K (G.and p) F' σc Hc δi/\ie (λy δi=>(dq δi tg y).bind b) r δi = some (zs,δ')/\Hc p = some (.lst xc)/\aK K Hc F' yc xc/\yc++zs = yi++o/\Step G F7 H7 F' Hc /\
  (pu = true->∀ H0,H0 p = none->Sim H0 H7->Sim H0 Hc)) (wk7 G) (λr F σ H z=>by obtain ⟨_,_,_,_,_,_,ok,_,_,_,_,st,_⟩:=z;exact ⟨st,ok.fd⟩) (λr F σ H H3 z sm=>by obtain ⟨a1,a2,a3,a4,a5,a6,ok,a7,a8,a9,b1,st,s⟩:=z;exact ⟨a1,a2,a3,a4,a5,a6,ok.same' sm,a7,sm _ _ a8,aK.step ok.fd (Step.of_same (G:=G) sm) _ _ a9,b1,st.trans (.of_same sm),λq H0 h0 s0=>(s q H0 h0 s0).trans (.of sm)⟩) (F0:=F7) ⟨δb,o,yi,xs,rfl,rfl,ok7,ev,(st7.res p _ (.inr rfl) hF eD).2,aK.step ok.fd st7 yi xs rl,rfl,.refl,λ_ _ _ s0=>s0⟩ ?_ ?_
 . rintro d r F' σc H3 x N ⟨δi,zs,yc,xc,hl',htk,ok,el,eD,rl,ez,st,sm⟩ rx hN;obtain ⟨o',δ5,zs',eo,el',rfl⟩:=yQ el;obtain ⟨δ6,es6,eb⟩:=ab.mp eo;refine mf ok rx es6 λσ2 ok6 htake=>DH ?_
   have l2:σ2.length = σ.length:=by
    have a1:=ok.len;have a2:=ok6.len;have e1:=nA es6
    lia
   have hlen:=congrArg gB ez;simp only [ah] at hlen
   exact em F' H3 σ2 δ6 δ5 o' yc xc _ ok6 eb eD rl ∅ λσ' H8 F8 x8 l8 t8 ok8 eD8 rl8 st8 sm8 =>
    hN F8 _ _ ⟨δ5,zs',yc++o',x8,by rw [l8,l2],t8.trans ((htake _ hge).trans htk),ok8,el',eD8,rl8,by rw [aO];exact ez,st.trans st8,λz H0 h0 s0=>sm8 z H0 h0 (sm z H0 h0 s0)⟩
 . rintro F' σc Hc ⟨δi,zs,yc,xc,hl',htk,ok,el,eD,rl,ez,st,sm⟩;cases el;rw [bA] at ez;subst ez;refine q σc Hc F' xc hl' htk ok eD rl ((st7.sub λb z=>.inl z).trans st) λz H0 h0 s0=>?_;rw [aa] at z;exact sm z.2 H0 h0 (s0.trans (sm7 z.1))
def DD {F1:aq->Prop} {H1:Hp} {σ:L2.St} {J:L2.It} {ds ys:List D} {δ1 δ2:Loc} {tg:Tg} {tu:TU} {b:Loc->Option (List D × Loc)} {pu:Bool} {Q:L2.St->Hp->Prop} (hge:mi σ.length tg = true)
 (ok1:Ok K G F1 σ H1 δ1) (wk:Wk K G F1 H1 J ds) (hp:H1 p = none) (em:EmL K G p σ.length tu b pu) (ev:ie (emO k tg b) ds δ1 = some (ys,δ2)) (hz:ys.length<=sizeLine)
 (q:∀ σ' H2 F2 xs,Ok K (G.and p) F2 σ H2 δ2->H2 p = some (.lst xs)->aK K H2 F2 ys xs->Step G F1 H1 F2 H2->(pu = true->Sim H1 H2)->Q σ' H2) :
 tLp J (gTg K tg) (λ_ H Q=>Q true H) tu (σ++aS k none) (upd H1 p (.lst [])) Q:=by
 have hg:=ok1.free hp;obtain ⟨ok2,st2⟩:=ok1.enter hp []
 refine sP (P:=λr F' σc Hc=>∃ δi zs yc xc,(∃ tl:L2.St,σc = σ++tl/\tl.length = k)/\Ok K (G.and p) F' σ Hc δi/\ie (emO k tg b) r δi = some (zs,δ2)/\Hc p = some (.lst xc)/\aK K Hc F' yc xc/\yc++zs = ys/\Step G F1 H1 F' Hc/\(pu = true->Sim H1 Hc)) wk (λr F σ H z=>by obtain ⟨_,_,_,_,_,ok,_,_,_,_,st,_⟩:=z;exact ⟨st,ok.fd⟩) (λr F σ H H3 z sm=>by obtain ⟨a1,a2,a3,a4,a5,ok,a6,a7,a8,a9,st,s⟩:=z;exact ⟨a1,a2,a3,a4,a5,ok.same' sm,a6,sm _ _ a7,aK.step ok.fd (Step.of_same (G:=G) sm) _ _ a8,a9,st.trans (.of_same sm),λq=>(s q).trans (.of sm)⟩) (F0:=λb=>F1 b\/b = p)
  ⟨δ1,ys,[],[],⟨_,rfl,↥0⟩,ok2,ev,bU,by unfold aK;rfl,rfl,st2,λ_=>Sim.new (.refl _) hp⟩ ?_ ?_
 . rintro d r F' _ H3 x N ⟨δi,zs,yc,xc,⟨tl,rfl,htl⟩,ok,el,eD,rl,ez,st,sm⟩ rx hN;obtain ⟨o',δ5,zs',eo,el',rfl⟩:=yQ el;simp only [emO,ae,ab] at eo;obtain ⟨δ6,es6,⟨o2,δc⟩,eb,eo⟩:=eo;cases eo;have okx:Ok K (G.and p) F' (σ++tl) H3 (δi++aS k .no):=by rw [<- htl];exact ok.ext tl
   refine mf okx rx es6 λσ2 ok6 htake=>DH ?_;have t2:σ2.take σ.length = σ:=by rw [htake _ hge,HA];rfl
   have l2:σ2.length = σ.length+k:=by
    have a1:=okx.len;have a2:=ok6.len;have e1:=nA es6;have e2:(σ++tl).length = σ.length+k:=by rw [ah,htl]
    lia
   have dl:δi.length = σ.length:=ok.len;have hlen:=congrArg gB ez;simp only [ah] at hlen;refine em F' H3 σ2 δ6 δc _ yc xc _ ok6 eb eD rl ∅ λσ8 H8 F8 x8 l8 t8 ok8 eD8 rl8 st8 sm8=>?_;have t9:=t8.trans t2;refine hN F8 _ _ ⟨δc.take δi.length,zs',_,x8,⟨σ8.drop σ.length,?_,by rw [cJ];lia⟩,?_,el',eD8,rl8,by rw [aO];exact ez,st.trans st8,λz=>sm8 z H1 hp (sm z)⟩
   . conv=>lhs;rw [<- bx σ.length σ8,t9]
   . have:=ok8.cut δi.length;rw [dl,t9] at this;rw [dl];exact this
 . rintro F' _ Hc ⟨δi,zs,yc,xc,_,ok,el,eD,rl,ez,st,sm⟩;cases el;rw [bA] at ez;subst ez;exact q _ Hc F' xc ok eD rl st sm
def FP {X:Cx} {c:Ck} {sc:eK} {Nc:List Str} {kk n:Nat} {tg1 tg2 tg3:Tg} {src1 src2 src3:It} {elt:E} {ex t1 i1 t2 i2 t3 i3:aG} {pos:Pos} (C:Cok X c cx n) (hn1:(!bZ elt) = true) (hk:Nc.length = c.N.length+kk) (ge1:mi c.N.length tg1 = true) (ge2:mi c.N.length tg2 = true) (ge3:mi c.N.length tg3 = true) (hs:jw c sc = true) (hn:namesOk c sc Nc = true)
 (g1:∀ cl Ca s H fp,PG (cxC X sc cl Ca Nc s H fp) t1 (gTg X.K tg1)) (g2:∀ cl Ca s H fp,PG (cxC X sc cl Ca Nc s H fp) t2 (gTg X.K tg2)) (g3:∀ cl Ca s H fp,PG (cxC X sc cl Ca Nc s H fp) t3 (gTg X.K tg3)) (h1:PI X t1 i1 (tI X.K cx src1)) (h2:∀ cl Ca s H fp,PI (cxC X sc cl Ca Nc s H fp) t2 i2 (tI X.K cx src2)) (h3:∀ cl Ca s H fp,PI (cxC X sc cl Ca Nc s H fp) t3 i3 (tI X.K cx src3)) (hE:∀ cl Ca s H fp,PE (cxC X sc cl Ca Nc s H fp) ex (tE X.K cx elt))
 (s1:∀ v,foldedSetIterable i1 X.env v = pure v) (s2:∀ env v,foldedSetIterable i2 env v = pure v) (s3:∀ env v,foldedSetIterable i3 env v = pure v):PE X (.ListComp ex [⟨t1,i1,[],0⟩,⟨t2,i2,[],0⟩,⟨t3,i3,[],0⟩] sc pos) (tE X.K cx (.lc3 kk tg1 src1 tg2 src2 tg3 src3 elt)):=by
 obtain ⟨nd,hvis⟩:=je hn;intro pins s σ H Q I h;refine Aj (Nc:=Nc) C.xe C.calm (mj C hs) (λi x hi=>by rw [C.hN] at hi |-;exact hvis i x hi) (by rw [C.hN,hk];lia) h1 g1 h2 g2 h3 g3 hE s1 s2 s3 pins s σ H Q I ?_;obtain ⟨G,F,δ,d,δ',ok,ev,post⟩:=h;obtain ⟨ds,δ1,ys,ei,ee,hz,rfl⟩:=Kq ev;have ek:Nc.length - X.N.length = kk:=by rw [C.hN,hk];lia
 rw [ek];refine ⟨G,F,δ,ds,δ1,ok,ei,λJ H1 F1 st1 sm1 ok1 wk=>λp hp=>?_⟩;have hg:=ok1.free hp;have lN:σ.length = c.N.length:=by rw [I.len,C.hN]
 refine DD (by rw [lN];exact ge1) ok1 (wk _) hp (HX (by rw [lN];exact ge2) (HX (by rw [lN];exact ge3) (Hi hn1 hg))) ee hz λσ' H2 F2 xs ok2 eD rl st2 sm2=>?_
 have st':Step G F1 H1 (λb=>F2 b/\b≠p) H2:=⟨st2.keep,λb z=>st2.grow b z.1,λb o r f e=>by
  obtain ⟨a1,a2⟩:=st2.res b o r f e;exact ⟨⟨a1,λw=>by rw [w,hp] at e;cases e⟩,a2⟩,st2.tb⟩
 refine post (.ref p) H2 _ (st1.trans st') (λz=>?_) (ok2.leave hg) (gk ?_)
 . have z':(npI src1 && (npI src2 && (npI src3 && np elt))) = true:=z;rw [aa] at z';exact (sm1 z'.1).trans (sm2 z'.2)
 . unfold Rel;exact ⟨p,xs,rfl,.inl ⟨.inl eD,λz=>z.2 rfl⟩,aK.less ok2.fd (λb z=>z.1) rl⟩
end
section
variable {X:Cx} {cx:Cl} {k:Nat}
def FnV.at (I:Inv X pins σ H s) (h:FnV H n cs a):PySem.W.FnAt a s.heap:=by
 obtain ⟨L,pm,ctv,c',oc,vs,tk,cells,h1,h2,_⟩:=h;exact ⟨_,_,_,_,(I.hok a _ h2).1⟩
def zX (C:Cok X c cx k) (hx:eO c i x = true) (n:gu es = true) (hA:PA X (y::ys) (tEs X.K cx es)) (he:starEach (y::ys) X.env = (false,eval y X.env)::starEach ys X.env) (hpl:(backTo pos (starEach ys X.env)).any (·.1) = false) :
 PE X (.Call (.Name x p) (y::ys) [] pos) (tE X.K cx (.callv i es)):=by
 obtain ⟨n1,n2,n3,n4⟩:=C.name hx;intro pins s σ H Q I h;obtain ⟨G,F,δ,d,δ',ok,ev,post⟩:=h;simp only [evE,ae,ab] at ev;obtain ⟨⟨ds,δ1⟩,ea,ev⟩:=ev
 cases q:δ[i]? with
 | none=>rw [q] at ev;cases ev
 | some sl =>
   rw [q] at ev
   cases sl with
   | no=>cases ev
   | val _=>cases ev
   | own _=>cases ev
   | fnc m cs =>
     dsimp only at ev;split at ev
     . rename_i hl;rw [aQ] at ev;obtain ⟨r,er,e⟩:=ev;cases e
       have er':cx.call m (ds++cs) = some d/\lf d = true:=by
        cases z:cx.call m (ds++cs) with
        | none=>rw [z] at er;cases er
        | some r =>
          rw [z] at er;unfold lfO at er;split at er
          . split at er
            . rename_i e2 h2;cases er;cases e2;exact ⟨rfl,h2⟩
            . cases er
          . cases er
       obtain ⟨a,es',fv⟩:=ok.sl i _ q;refine gL (thn (iX n1 n2 n3 n4 pins s σ H (λv H1=>v = .ref a/\H1 = H) I ⟨.ref a,es',rfl,rfl⟩) λu s1 ⟨v,H1,I1,rv,e1,e2⟩=>?_);subst e1;subst e2;obtain rfl:u = iD a:=rv;refine PySem.W.callWith_F (fv.at I1) (thn (hA pos pins s1 σ H1 (λvs H2=>∃ F2,Step G F H1 F2 H2/\(npS es = true->Sim H1 H2)/\Ok X.K G F2 σ H2 δ'/\aK X.K H2 F2 ds vs) I1 ⟨G,F,δ,ds,δ',ok,ea,λvs H2 F2 st sm ok2 r2=>⟨F2,st,sm,ok2,r2.rl n⟩⟩) λus s2 ⟨vs,H2,I2,rvs,F2,st,sm,ok2,rl⟩=>?_) he hpl;have fv2:FnV H2 m cs a:=fv.keep (mK ok.fd st.keep);refine ⟨fv2.at I2,?_⟩;refine Lc (lQ (C.lam m cs H2 a fv2 X.A X.stack s2 H2 a us vs cs Q C.room I2.env0 rvs fv2 ⟨F2,ds,d,ok2.fd,ok2.tf,ok2.tabs,rl,hl,er'.1,er'.2,λv H' s3 t3 r3=>?_⟩) λr s' hq=>?_)
       . exact post v H' F2 (st.trans (ok2.call s3 t3).2) (λz=>(sm z).trans s3) (ok2.call s3 t3).1 (gk r3)
       . cases r with
         | error e=>exact (yg pins σ H2 s2 e s' I2 hq)
         | ok fl =>
           cases fl with
           | ret u=>exact I2.after hq
           | next=>exact cz hq
           | brk=>exact cz hq
           | cont=>exact cz hq
     . cases ev
def wj (K:PySem.W.Frag) (cx:Cl) (es:Es) (tz:TE):TA:=λσ H Q=>∃ G F δ ds δ',Ok K G F σ H δ/\dU cx es δ = some (ds,δ') /\
 ∀ vs H' F',Step G F H F' H'->(npS es = true->Sim H H')->Ok K G F' σ H' δ'->mU K H' F' es ds vs->tz σ H' λv H2=>Q (vs++[v]) H2
def BU (hz:PE X z tz) (hs:starEach [z] X.env = (false,eval z X.env)::starEach [] X.env):PA X [z] (wj X.K cx .nil tz):=by
 refine λpos pins s σ H Q I h=>jx hz sG hs pos pins s σ H Q I ?_;obtain ⟨G,F,δ,ds,δ',ok,ev,post⟩:=h;simp only [dU] at ev;cases ev;exact post [] H F Step.refl (λ_=>Sim.refl H) ok ⟨rfl,rfl⟩
def zW (pc:(!bZ a || npS es) = true) (ha:PE X y (tE X.K cx a)) (hr:PA X (ys++[z]) (wj X.K cx es tz)) (hs:starEach (y::(ys++[z])) X.env = (false,eval y X.env)::starEach (ys++[z]) X.env):PA X (y::ys++[z]) (wj X.K cx (.cons a es) tz):=by
 refine λpos pins s σ H Q I h=>jx ha hr hs pos pins s σ H Q I ?_;obtain ⟨G,F,δ,ds,δ',ok,ev,post⟩:=h;simp only [dU,ae,ab] at ev;obtain ⟨⟨x,δ1⟩,ea,⟨ds',δ2⟩,eb,e⟩:=ev;cases e;refine ⟨G,F,δ,x,δ1,ok,ea,λv H1 F1 st1 sm1 ok1 r1=>⟨G,F1,δ1,ds',δ2,ok1,eb,λvs H2 F2 st2 sm2 ok2 r2=>?_⟩⟩;refine post (v::vs) H2 F2 (st1.trans st2) (λz=>?_) ok2 ⟨x,ds',v,vs,rfl,rfl,RelM.step ok1.fd st2 (λz=>sm2 (by rw [z] at pc;simpa using pc)) r1,r2⟩;have z':(np a && npS es) = true:=z;rw [aa] at z';exact (sm1 z'.1).trans (sm2 z'.2)
def nu (hz:starEach [z] env = (false,eval z env)::starEach [] env):∀ {es:Es} {ys:List aG},gh c es ys = true->(backTo pos (starEach (ys++[z]) env)).any (·.1) = false
 | .nil,ys,h=>by
   obtain ⟨rfl,_⟩:=fu h
   rw [iu,hz];rfl
 | .cons e es,ys,h=>by
   obtain ⟨_,_,rfl,hh⟩:=dT h;rw [aa] at hh;rw [jR,cG (cw hh.1)];show (false || (backTo pos (starEach _ env)).any (·.1)) = false;rw [nu hz hh.2];rfl
def zY (C:Cok X c cx k) (n:gu es = true) (hx:eO c i g = true) (fn:jJ X.prog X.w X.K X.mg X.base CX0 k a fd ps (zR X.K (cx.call f))) (hg:Gl X x)
 (hm:X.mg x = some (.ref a)) (hk:PySem.W.keepIn X.K (.ref a) = true) (hb:Binds X.K fd ps []) (hA:PA X (y::(ys++[.Name g gp])) (wj X.K cx es (IV i))) (hd:(x == ("__debug__":Str)) = false) (he:starEach (y::(ys++[.Name g gp])) X.env = (false,eval y X.env)::starEach (ys++[.Name g gp]) X.env) (hpl:(backTo pos (starEach (ys++[.Name g gp]) X.env)).any (·.1) = false) :
 PE X (.Call (.Name x p) (y::(ys++[.Name g gp])) [] pos) (tE X.K cx (.callF f es i)):=by
 refine PE.imp (sF fn C.room hg hm hk hb .nil (yg) hA hd he hpl) λσ H Q h=>?_;obtain ⟨G,F,δ,d,δ',ok,ev,post⟩:=h;simp only [evE,ae,ab] at ev;obtain ⟨⟨ds,δ1⟩,ea,ev⟩:=ev;dsimp only at ev
 cases q:δ1[i]? with
 | none=>rw [q] at ev;cases ev
 | some sl =>
   rw [q] at ev
   cases sl with
   | no=>cases ev
   | val _=>cases ev
   | own _=>cases ev
   | fnc m cs =>
     dsimp only at ev;split at ev
     . rw [aQ] at ev;obtain ⟨r,er,e⟩:=ev;cases e;refine ⟨G,F,δ,ds,δ',ok,ea,λvs H1 F1 st1 sm1 ok1 r1=>?_⟩;obtain ⟨b,eb,fv⟩:=ok1.sl i _ q;refine ⟨.ref b,eb,?_⟩;show zR X.K (cx.call f) (vs++[.ref b]++[]) H1 Q E0;rw [bA];exact ⟨F1,ds,vs,m,cs,b,d,ok1.fd,ok1.tf,ok1.tabs,rfl,r1.rl n,fv,er,λv H2 s2 t2 r2=>post v H2 F1 (st1.trans (ok1.call s2 t2).2) (λz=>(sm1 z).trans s2) (ok1.call s2 t2).1 (gk r2)⟩
     . cases ev
def Er (C:Cok X c cx k) (hA:PA X xs (tEs X.K cx es)) (h:(eO c i n && gh c es xs && gu es && !xs.isEmpty) = true):PE X (.Call (.Name n p) xs [] pos) (tE X.K cx (.callv i es)):=by
 simp only [aa] at h;obtain ⟨⟨⟨h1,h2⟩,h3⟩,h4⟩:=h
 cases xs with
 | nil=>simp at h4
 | cons y ys =>
   obtain ⟨_,_,_,a1,a2⟩:=eJ h2;exact zX C h1 h3 hA (cG (cw a1) _ _) (iy a2)
def Ew (C:Cok X c cx k) (hA:gh c es xs.dropLast = true->nG es = true->∀ z tz,PE X z tz->starEach [z] X.env = (false,eval z X.env)::starEach [] X.env->PA X (xs.dropLast++[z]) (wj X.K cx es tz))
 (h:(match c.fns[f]?,xs.getLast? with
   | some (m,ps),some y=>eN y λy=>decide (m = n) && fL c n && decide (ps.length = rH es+1) && gh c es xs.dropLast && gu es && eO c i y && !xs.dropLast.isEmpty
   | _,_=>false) = true):PE X (.Call (.Name n p) xs [] pos) (tE X.K cx (.callF f es i)):=by
 split at h
 . rename_i m ps gx ef eg;obtain ⟨g,gp,rfl,hh⟩:=cA h;simp only [aa] at hh;obtain ⟨⟨⟨⟨⟨⟨h1,h2⟩,h3⟩,h4⟩,h5⟩,h6⟩,h7⟩:=hh;obtain ⟨ys,rfl⟩:=List.getLast?_eq_some_iff.mp eg;rw [zk] at h4 h7 hA;by_cases hf:cx.hf f = true
   . obtain ⟨a,fd,hm,hk,hb,fn⟩:=C.fnF f _ _ ef hf;have e:=of_decide_eq_true h1;subst e;obtain ⟨g1,g2,g3⟩:=C.global h2;obtain ⟨n1,n2,n3,n4⟩:=C.name h6;have A:=hA h4 (fU h5) (.Name g gp) (IV i) (iX n1 n2 n3 n4) rfl
     cases ys with
     | nil=>simp at h7
     | cons y ys =>
       obtain ⟨_,_,_,a1,a2⟩:=eJ h4;exact zY C h5 h6 fn g1 hm hk hb A g2 (cG (cw a1) _ _) (nu rfl a2)
   . intro pins s σ H Q I h;obtain ⟨G,F,δ,d,δ',ok,ev,post⟩:=h;simp only [evE,ae,ab] at ev;obtain ⟨⟨ds,δ1⟩,ea,ev⟩:=ev;dsimp only at ev;split at ev
     . rw [if_neg hf] at ev;cases ev
     . cases ev
 . cases h
end
end PP
end
section
namespace PP
open PySem PySem.Spec PyProof.Rows
open Builtin.SmallTypes (nextOf)
section
variable {P:bp} {w:bQ} {A:bo} {E:af->ai->Prop} {s:ai}
def wQ {i l:aq} {k:Nat} {xs:List af} {x:af} {Q:af->ai->Prop} (hit:s.heap.IsTupleIter i l k) (ht:s.heap.IsTuple l xs.toArray) (hx:xs[k]? = some x) (q:∀ h',h'.IsTupleIter i l (k+1)->jX i s.heap h'->Q x { s with heap:=h' }):wpAny (model P w) A (nextOf (.ref i)) Q E s:=by
 obtain ⟨o,ho,hc,hd⟩:=id hit;obtain ⟨ol,hol,_,nl,hdl⟩:=ht;have hx':xs.toArray[k]? = some x:=by simpa using hx
 unfold nextOf;refine ag (fg (name:=ky "__next__") hit.typeIs PySem.F.slot_tuple_iterator_next (ff PySem.F.slot_tuple_iterator_next hit.typeIs PySem.F.entry_tuple_iterator_next ?_ (PySem.F.args_tuple_iterator_next_1 _)));refine ag (m:=field (.ref i) 0) (cQ ho hd (x:=.ref l) rfl ?_);refine (if_neg (show ¬ ((iD l == bT) = true) from au))▸?_;refine ag (m:=field (.ref i) 1) (cQ ho hd (x:=.int k 0) rfl ?_);refine ag (m:=seqItems? (.ref l)) (fe hol hdl ?_);simp only [Fe,hx'];have sb:=qQ s.heap i (Obj.mapFields (·.setIfInBounds 1 (rawInt ((k:Int)+1))));refine ag (wpAny_setField ho hd ↥0 (aH ⟨x,rfl,aH (q _ ⟨_,xE _ ho (Obj.isFreed_of_fields (EJ hd _)),(Obj.cls_mapFields ..).trans hc,?_⟩ sb)⟩));rw [EJ hd];simp [rawInt]
def An {i l:aq} {k:Nat} {xs:List af} {Q:af->ai->Prop} (hh:A.handled = none) (hit:s.heap.IsTupleIter i l k) (ht:s.heap.IsTuple l xs.toArray) (hx:xs[k]? = none)
 (q:∀ h' e,zq i s.heap h'->(∃ o,h'.get? e = some o/\o.cls = .type "StopIteration")->E (.ref e) { s with heap:=h' }):wpAny (model P w) A (nextOf (.ref i)) Q E s:=by
 obtain ⟨o,ho,hc,hd⟩:=id hit;obtain ⟨ol,hol,_,nl,hdl⟩:=ht;have hx':xs.toArray[k]? = none:=by simpa using hx
 unfold nextOf;refine ag (fg (name:=ky "__next__") hit.typeIs PySem.F.slot_tuple_iterator_next (ff PySem.F.slot_tuple_iterator_next hit.typeIs PySem.F.entry_tuple_iterator_next ?_ (PySem.F.args_tuple_iterator_next_1 _)));refine ag (m:=field (.ref i) 0) (cQ ho hd (x:=.ref l) rfl ?_);refine (if_neg (show ¬ ((iD l == bT) = true) from au))▸?_;refine ag (m:=field (.ref i) 1) (cQ ho hd (x:=.int k 0) rfl ?_);refine ag (m:=seqItems? (.ref l)) (fe hol hdl ?_);simp only [Fe,hx'];refine ag (fX (ag (wpAny_setField ho hd ↥0 (ag (m:=newExc (.type "StopIteration") []) ?_))));simp only [newExc,newTuple];refine ag (cU ?_ (by size_fits));refine ag (m:=firstArgMember _ _) (wpAny_of_eq (a:=bT) (by first | rfl | (simp only [firstArgMember];rfl)) ?_);refine cU ?_ (by size_fits);simp only [raiseNew];refine ag (wpAny_handled ?_)
 first | rw [show A.in1.handled = none from hh] | rw [hh]
 exact ag (aH (wpAny_throw (q _ _ (((qQ ..).extBut.push _).push _) ⟨_,bE _ rfl,rfl⟩)))
end
end PP
end
section
namespace PP
open PySem PySem.Spec L2 PyProof.Rows
open Builtin.SmallTypes (nextOf)
def SqM (m:Bool) (K:PySem.W.Frag) (H:Hp) (a:aq) (xs:List V):Prop:=if m = true then SqL K H a xs else SqT K H a xs
def OkM (m:Bool) (h:cg) (a:aq) (us:List af):Prop:=if m = true then h.IsList a us.toArray else h.IsTuple a us.toArray
def ItO (m:Bool) (h:cg) (i l:aq) (k:Nat):Prop:=if m = true then h.IsListIter i l k else h.IsTupleIter i l k
def ItO.at {m:Bool} {h h':cg} {i l:aq} {k:Nat} (x:ItO m h i l k) (e:∀ o,h.get? i = some o->h'.get? i = some o):ItO m h' i l k:=by
 cases m
 . exact Heap.IsTupleIter.at x e
 . exact Heap.IsListIter.at x e
def ItO.obj {m:Bool} {h:cg} {i l:aq} {k:Nat} (x:ItO m h i l k):∃ o,h.get? i = some o/\∀ v,o.data≠.cell v:=by
 cases m <;>
 . obtain ⟨o,e,_,d⟩:=x;exact ⟨o,e,λv z=>by rw [d] at z;cases z⟩
section
variable {X:Cx} {pins:List (aq × Obj)} {σ:L2.St} {H:Hp} {s:ai} {A:bo} {E:af->ai->Prop}
def okM (I:Inv X pins σ H s) (hq:SqM m X.K H l ys):∃ us,Vals ys us/\OkM m s.heap l us:=by
 cases m
 . obtain ⟨us,r,p,_⟩:=I.tuple hq;exact ⟨us,r,p⟩
 . obtain ⟨us,r,p,_⟩:=I.list hq;exact ⟨us,r,p.isList⟩
def xP (I:Inv X pins σ H s) (h1:SqM m X.K H l xs) (h2:SqM m X.K H l ys):xs = ys:=by
 cases m
 . exact I.tuple_inj h1 h2
 . exact I.list_inj h1 h2
def sT {m:Bool} {i l:aq} {k:Nat} {ys:List V} {x:V} {Q:af->ai->Prop} (I:Inv X pins σ H s) (hq:SqM m X.K H l ys) (hx:ys[k]? = some x) (it:ItO m s.heap i l k)
 (q:∀ u h',RelV x u->ItO m h' i l (k+1)->jX i s.heap h'->Q u { s with heap:=h' }):wpAny (model X.prog X.w) A (nextOf (.ref i)) Q E s:=by
 obtain ⟨us,r,ok⟩:=okM I hq;obtain ⟨u,hu,ru⟩:=r.get hx;cases m
 . exact wQ it ok hu λh' a b=>q u h' ru a b
 . exact wpAny_nextOf_list_item it ok (by simpa using hu) λh' a b=>q u h' ru a b
def yA {m:Bool} {i l:aq} {k:Nat} {ys:List V} {Q:af->ai->Prop} (hh:A.handled = none) (I:Inv X pins σ H s) (hq:SqM m X.K H l ys) (hx:ys.length<=k) (it:ItO m s.heap i l k)
 (q:∀ h' e,zq i s.heap h'->(∃ o,h'.get? e = some o/\o.cls = .type "StopIteration")->E (.ref e) { s with heap:=h' }):wpAny (model X.prog X.w) A (nextOf (.ref i)) Q E s:=by
 obtain ⟨us,r,ok⟩:=okM I hq;have hl:us[k]? = none:=dQ (by rw [<- r.length];exact hx);cases m
 . exact An hh it ok hl q
 . exact wpAny_nextOf_list_end hh it ok (by simpa using hl) q
structure Zp (h:cg) (m1 m2:Bool) (z TI TO i1 i2 l1 l2:aq) (f0:af) (k1 k2:Nat):Prop where
 hz:AU h z TI TO f0
 ti:ug h TI (.ref i1) (.ref i2)
 to:∃ a b,ug h TO a b
 i1:ItO m1 h i1 l1 k1
 i2:ItO m2 h i2 l2 k2
structure Ap (z TI TO i1 i2:aq):Prop where
 a1:TI≠z
 a2:TO≠z
 a3:i1≠z
 a4:i2≠z
 a5:TI≠TO
 a6:TI≠i1
 a7:TI≠i2
 a8:TO≠i1
 a9:TO≠i2
 a10:i1≠i2
def fi {b:aq} {h':cg} (I:Inv X pins σ H s) (f:jV X pins H b) (k:∀ c o,c≠b->s.heap.get? c = some o->h'.get? c = some o):Inv X pins σ H { s with heap:=h' }:=I.turned (t':=s.toks) k f.1 f.2.1 f.2.2.2.1 f.2.2.2.2.1 f.2.2.2.2.2
def AW {m1 m2:Bool} {z TI TO i1 i2 l1 l2:aq} {k:Nat} {xs ys:List V} {x y:V} {Q:af->ai->Prop} (D:Ap z TI TO i1 i2) (I:Inv X pins σ H s) (hf:∀ b∈[z,TI,TO,i1,i2],jV X pins H b) (Z:Zp s.heap m1 m2 z TI TO i1 i2 l1 l2 .none k k)
 (q1:SqM m1 X.K H l1 xs) (q2:SqM m2 X.K H l2 ys) (hx:xs[k]? = some x) (hy:ys[k]? = some y)
 (hQ:∀ T h',H T = none->(∀ b∈[z,TI,TO,i1,i2],T≠b)->Inv X pins σ (upd H T (.tup [x,y])) { s with heap:=h' }->Zp h' m1 m2 z TI TO i1 i2 l1 l2 (rawInt T) (k+1) (k+1)->Q (.ref T) { s with heap:=h' }) :
 wpAny (model X.prog X.w) A (oB.«zip.__next__» ⟨[.ref z],[]⟩) (λfin s'=>∃ v,fin = .done (.ret v)/\Q v s') E s:=by
 obtain ⟨hz,ti,⟨a,b,to⟩,h1,h2⟩:=Z;have fz:=hf z ↥0;have fT:=hf TO ↥0;have f1:=hf i1 ↥0;have f2:=hf i2 ↥0;refine ag (m:=field (.ref z) 2) (cQ hz rfl (x:=.bool false) rfl ?_);refine ag (m:=field (.ref z) 3) (cQ hz rfl (x:=.ref TI) rfl ?_);refine ag (fe ti rfl ?_);refine ag (m:=cW (.ref z)) ?_;unfold cW;refine ag (cQ hz rfl (x:=.none) rfl (aH ?_));simp only [if_true];refine ag (fX (ag (cQ hz rfl (x:=.ref TO) rfl (ag (gK hz ↥0 λg1 y1 s1=>ag ?_)))));replace y1:AU g1 z TI TO .ellipsis:=y1;have I1:=fi I fz λc o n e=>s1.extBut c o n e;simp only [oZ,Hz,qB,List.forIn_nil];refine ag (ag (oX (ag (m:=nextOf (.ref i1)) (sT I1 q1 hx (h1.at λo e=>s1.extBut _ o D.a3 e) λu g2 ru j1 s2=>aH ?_))));have I2:=fi I1 f1 λc o n e=>s2.extBut c o n e;have to2:ug g2 TO a b:=s2.extBut _ _ D.a8 (s1.extBut _ _ D.a2 to);refine ag (fe to2 rfl (ag (nS to2 λg3 to3 s3=>ag (Hv (aH ?_)))));replace to3:ug g3 TO u b:=to3;have I3:=fi I2 fT λc o n e=>s3.extBut c o n e;refine ag (ag (oX (ag (m:=nextOf (.ref i2)) (sT I3 q2 hy (((h2.at λo e=>s1.extBut _ o D.a4 e).at λo e=>s2.extBut _ o D.a10.symm e).at λo e=>s3.extBut _ o D.a9.symm e) λv g4 rv j2 s4=>aH ?_))));have I4:=fi I3 f2 λc o n e=>s4.extBut c o n e;have to4:ug g4 TO u b:=s4.extBut _ _ D.a9 to3;refine ag (fe to4 rfl (ag (nS to4 λg5 to5 s5=>ag (Hv (aH (aH ?_))))));replace to5:ug g5 TO u v:=to5;have I5:=fi I4 fT λc o n e=>s5.extBut c o n e;refine ag (fe to5 rfl (ag (xx ?_)));have hT:H g5.objs.size = none:=I5.hok.fresh (az _);have z5:AU g5 z TI TO .ellipsis:=s5.extBut _ _ D.a2.symm (s4.extBut _ _ D.a4.symm (s3.extBut _ _ D.a2.symm (s2.extBut _ _ D.a3.symm y1)));have ti5:ug g5 TI (.ref i1) (.ref i2):=s5.extBut _ _ D.a5 (s4.extBut _ _ D.a7 (s3.extBut _ _ D.a5 (s2.extBut _ _ D.a6 (s1.extBut _ _ D.a1 ti))));have k1:ItO m1 g5 i1 l1 (k+1):=((j1.at λo e=>s3.extBut _ o D.a8.symm e).at λo e=>s4.extBut _ o D.a10 e).at λo e=>s5.extBut _ o D.a8.symm e;have k2:ItO m2 g5 i2 l2 (k+1):=j2.at λo e=>s5.extBut _ o D.a9.symm e;have Tz:g5.objs.size≠z:=fh (aM z5)
 have Ts:∀ b∈[z,TI,TO,i1,i2],g5.objs.size≠b:=λb hb=>by
  obtain ⟨_,e1,_⟩:=k1.obj;obtain ⟨_,e2,_⟩:=k2.obj;simp only [aC,aU,or_false] at hb;rcases hb with rfl | rfl | rfl | rfl | rfl
  . exact Tz
  . exact fh (aM ti5)
  . exact fh (aM to5)
  . exact fh (aM e1)
  . exact fh (aM e2)
 have I6:Inv X pins σ (upd H g5.objs.size (.tup [x,y])) { s with heap:=g5.push { cls:=.type "tuple",data:=.seq #[u,v] } } :=
  I5.laid (t':=s.toks) (λb u e=>ao _ e) (az _) ⟨by show 2<=sizeLine;decide,[u,v],.cons ru (.cons rv .nil),⟨_,bE _ rfl,rfl,_,rfl⟩⟩
 have fz6:jV X pins (upd H g5.objs.size (.tup [x,y])) z:=⟨by rw [bI Tz.symm];exact fz.1,fz.2⟩;refine ag (m:=iW (.ref z) (.ref g5.objs.size)) ?_;unfold iW;have z6:AU (g5.push { cls:=.type "tuple",data:=.seq #[u,v] }) z TI TO .ellipsis:=ao _ z5;refine ag (gK z6 ↥0 λg7 z7 s7=>?_);replace z7:AU g7 z TI TO (rawInt g5.objs.size):=z7;refine gK z7 ↥0 λg8 z8 s8=>?_;replace z8:AU g8 z TI TO (rawInt g5.objs.size):=z8;have up:∀ c o,c≠z->g5.get? c = some o->g8.get? c = some o:=λc o n e=>s8.extBut _ _ n (s7.extBut _ _ n (ao _ e));have I8:=fi (fi I6 fz6 λc o n e=>s7.extBut c o n e) fz6 λc o n e=>s8.extBut c o n e;exact aH ⟨_,rfl,hQ g5.objs.size g8 hT Ts I8 ⟨z8,up _ _ D.a1 ti5,⟨_,_,up _ _ D.a2 to5⟩,k1.at λo e=>up _ o D.a3 e,k2.at λo e=>up _ o D.a4 e⟩⟩
def AV {m1 m2:Bool} {z TI TO i1 i2 l1 l2:aq} {k:Nat} {xs ys:List V} {Q:PySem.Fin->ai->Prop} (hh:A.handled = none) (D:Ap z TI TO i1 i2) (I:Inv X pins σ H s) (hf:∀ b∈[z,TI,TO,i1,i2],jV X pins H b) (Z:Zp s.heap m1 m2 z TI TO i1 i2 l1 l2 .none k k)
 (q1:SqM m1 X.K H l1 xs) (q2:SqM m2 X.K H l2 ys) (hend:xs.length<=k\/ys.length<=k)
 (hE:∀ h' e,Inv X pins σ H { s with heap:=h' }->(∃ o,h'.get? e = some o/\o.cls = .type "StopIteration")->E (.ref e) { s with heap:=h' }) :
 wpAny (model X.prog X.w) A (oB.«zip.__next__» ⟨[.ref z],[]⟩) Q E s:=by
 obtain ⟨hz,ti,⟨a,b,to⟩,h1,h2⟩:=Z;have fz:=hf z ↥0;have fT:=hf TO ↥0;have f1:=hf i1 ↥0;have f2:=hf i2 ↥0;refine ag (m:=field (.ref z) 2) (cQ hz rfl (x:=.bool false) rfl ?_);refine ag (m:=field (.ref z) 3) (cQ hz rfl (x:=.ref TI) rfl ?_);refine ag (fe ti rfl ?_);refine ag (m:=cW (.ref z)) ?_;unfold cW;refine ag (cQ hz rfl (x:=.none) rfl (aH ?_));simp only [if_true];refine ag (fX (ag (cQ hz rfl (x:=.ref TO) rfl (ag (gK hz ↥0 λg1 y1 s1=>ag ?_)))));replace y1:AU g1 z TI TO .ellipsis:=y1;have I1:=fi I fz λc o n e=>s1.extBut c o n e;simp only [oZ,Hz,qB,List.forIn_nil];have j1:ItO m1 g1 i1 l1 k:=h1.at λo e=>s1.extBut _ o D.a3 e
 have last:∀ {g:cg} {e:aq} (Ig:Inv X pins σ H { s with heap:=g }) (zg:AU g z TI TO .ellipsis) (he:∃ o,g.get? e = some o/\o.cls = .type "StopIteration"),
  wpAny (model X.prog X.w) A (setField (.ref z) 0 .none) (λ_ s'=>E (.ref e) s') E { s with heap:=g }:=λ{g e} Ig zg he=>by
  obtain ⟨o,ho,hc⟩:=he;have ez:e≠z:=λx=>by subst x;rw [zg] at ho;cases ho;simp at hc
  refine gK zg ↥0 λg' _ s'=>?_;have I':=fi (h':=g') Ig fz λc o n e=>s'.extBut c o n e;exact hE g' e I' ⟨o,s'.extBut _ _ ez ho,hc⟩
 refine ag (ag (oX (ag (m:=nextOf (.ref i1)) ?_)));by_cases hx:xs.length<=k
 . refine yA hh I1 q1 hx j1 λg2 e x2 he=>?_;have I2:=fi (h':=g2) I1 f1 λc o n e=>x2 c o n e;exact last I2 (x2 _ _ D.a3.symm y1) he
 . obtain ⟨x,ex⟩:∃ x,xs[k]? = some x:=⟨xs[k],aE (by omega)⟩;refine sT I1 q1 ex j1 λu g2 ru j1' s2=>aH ?_;have I2:=fi I1 f1 λc o n e=>s2.extBut c o n e;have to2:ug g2 TO a b:=s2.extBut _ _ D.a8 (s1.extBut _ _ D.a2 to);refine ag (fe to2 rfl (ag (nS to2 λg3 to3 s3=>ag (Hv (aH ?_)))));have I3:=fi I2 fT λc o n e=>s3.extBut c o n e;refine ag (ag (oX (ag (m:=nextOf (.ref i2)) ?_)));refine yA hh I3 q2 (by omega) (((h2.at λo e=>s1.extBut _ o D.a4 e).at λo e=>s2.extBut _ o D.a10.symm e).at λo e=>s3.extBut _ o D.a9.symm e) λg4 e x4 he=>?_;have I4:=fi (h':=g4) I3 f2 λc o n e=>x4 c o n e;exact last I4 (x4 _ _ D.a4.symm (s3.extBut _ _ D.a2.symm (s2.extBut _ _ D.a3.symm y1))) he
end
end PP
end
section
namespace PP
open PySem PySem.Spec L2 PyProof.Rows
def Itz (K:PySem.W.Frag) (m1 m2:Bool) (l1 l2:aq):L2.It :=
 ⟨λi H=>∃ xs ys x y,SqM m1 K H l1 xs/\SqM m2 K H l2 ys/\xs[i]? = some x/\ys[i]? = some y,
   λi H v H'=>∃ T x y,v = .ref T/\H T = none/\H' = upd H T (.tup [x,y])/\(∀ xs,SqM m1 K H l1 xs->xs[i]? = some x)/\∀ ys,SqM m2 K H l2 ys->ys[i]? = some y,
   λi H=>∃ xs ys,SqM m1 K H l1 xs/\SqM m2 K H l2 ys/\(xs.length<=i\/ys.length<=i)⟩
def BI {P:bp} {w:bQ} {K:PySem.W.Frag} {elts:List aG} {k0:Nat} {pos:Pos} {m1 m2:Bool} {z TI TO i1 i2 l1 l2:aq} (D:Ap z TI TO i1 i2) :
 Turn P w K (.Tuple elts k0 pos) (Itz K m1 m2 l1 l2) [z,TI,TO,i1,i2] z (λi h=>Zp h m1 m2 z TI TO i1 i2 l1 l2 .none i i) where
 mem:=by simp
 obj:=λi h st b hb=>by
  obtain ⟨hz,ti,⟨a,c,to⟩,h1,h2⟩:=st;simp only [aC,aU,or_false] at hb;rcases hb with rfl | rfl | rfl | rfl | rfl
  . exact ⟨_,hz,λv z=>by cases z⟩
  . exact ⟨_,ti,λv z=>by cases z⟩
  . exact ⟨_,to,λv z=>by cases z⟩
  . exact h1.obj
  . exact h2.obj
 keep:=λi h h' st k=>by
  obtain ⟨hz,ti,⟨a,c,to⟩,h1,h2⟩:=st;exact ⟨k z ↥0 _ hz,k TI ↥0 _ ti,⟨a,c,k TO ↥0 _ to⟩,h1.at λo e=>k _ ↥0 o e,h2.at λo e=>k _ ↥0 o e⟩
 item:=by
  intro X hP hw hK hc i pins s σ H E I hf st hg;subst hP hw hK;obtain ⟨xs,ys,x,y,q1,q2,hx,hy⟩:=hg;have hT:s.TypeIs (.ref z) "zip":=⟨_,st.hz,rfl⟩;unfold pyNext;refine ag (AF (fg (name:=ky "__next__") hT PySem.F.slot_zip_next (ff PySem.F.slot_zip_next hT PySem.F.entry_zip_next (AW D I hf st q1 q2 hx hy λT h' nT nb I' Z'=>aH ⟨.ref T,rfl,?_⟩) (PySem.F.args_zip_next_1 _))));refine wpAny_letOwnedTupleGo_zip Z'.hz λh2 z2 s2=>?_;have hn:∀ b∈[z,TI,TO,i1,i2],upd H T (.tup [x,y]) b = none:=λb hb=>by rw [bI (nb b hb).symm];exact (hf b hb).1
  have I2:=fi (h':=h2) I' ⟨hn z ↥0,(hf z ↥0).2⟩ λc o n e=>s2.extBut c o n e;obtain ⟨_,ti,⟨a,c,to⟩,h1,h2'⟩:=Z'
  exact ⟨.ref T,upd H T (.tup [x,y]),I2,rfl,⟨T,x,y,rfl,nT,rfl,λxs' h=>by rw [xP I h q1];exact hx,λys' h=>by rw [xP I h q2];exact hy⟩,
   ⟨z2,s2.extBut _ _ D.a1 ti,⟨a,c,s2.extBut _ _ D.a2 to⟩,h1.at λo e=>s2.extBut _ o D.a3 e,h2'.at λo e=>s2.extBut _ o D.a4 e⟩,hn⟩
 done:=by
  intro X hP hw hK hc i pins s σ H E I hf st hg;subst hP hw hK;obtain ⟨xs,ys,q1,q2,he⟩:=hg;have hT:s.TypeIs (.ref z) "zip":=⟨_,st.hz,rfl⟩;unfold pyNext;refine ag (AF (fg (name:=ky "__next__") hT PySem.F.slot_zip_next (ff PySem.F.slot_zip_next hT PySem.F.entry_zip_next (AV (I.ok.hd hc) D I hf st q1 q2 he λh' e I' he=>?_) (PySem.F.args_zip_next_1 _))));obtain ⟨o,ho,hc⟩:=he;exact ag (wpAny_isInstance (T:="StopIteration") (b:=true) ⟨o,ho,hc⟩ isSubtype_stop (aH ⟨rfl,I'⟩))
 self:=λ_ _ _ _ _ st h=>wpAny_pyIter_zip st.hz h
def itN (m:Bool):String:=if m = true then "list_iterator" else "tuple_iterator"
def iL (m:Bool) (l:aq):Obj:={ cls:=.type (itN m),data:=.fields #[.ref l,.int 0 0] }
def iterM {E:af->ai->Prop} (ok:OkM m s.heap l us) (h:Q (.ref s.heap.objs.size) { s with heap:=s.heap.push (iL m l) }):wpAny (model prog w) A (pyIter (.ref l)) Q E s:=by
 cases m
 . exact Lb (show s.heap.IsTuple l us.toArray from ok) h
 . exact Le (show s.heap.IsList l us.toArray from ok) h
def OkM.push (ok:OkM m h l us) (o:Obj):OkM m (h.push o) l us:=by
 cases m
 . exact Heap.IsTuple.at (show h.IsTuple l us.toArray from ok) λo e=>ao _ e
 . exact Heap.IsList.push ok o
def zH (h:cg) (m1 m2:Bool) (l1 l2:aq):cg:=((((h.push (iL m1 l1)).push (iL m2 l2)).push { cls:=.type "tuple",data:=.seq #[.ref h.objs.size,.ref (h.objs.size+1)] }).push { cls:=.type "tuple",data:=.seq #[.none,.none] }).push { cls:=.type "zip",data:=.fields #[.none,.bool false,.bool false,.ref (h.objs.size+2),.ref (h.objs.size+3)] }
def Ao (l1 l2:aq) (us vs:List af):Meets (oB.«zip.__new__» ⟨[.type "zip",.ref l1,.ref l2],[]⟩) (λ_ R s=>OkM m1 s.heap l1 us/\OkM m2 s.heap l2 vs/\R (.ok (.ret (.ref (s.heap.objs.size+4)))) { s with heap:=zH s.heap m1 m2 l1 l2 }) :=
 .of_wp λprog w A R s h=>by
  obtain ⟨hp,g,d,tk,os⟩:=s;obtain ⟨o1,o2,h⟩:=h;have hsub:=sub_zip;have L1:OkM m1 (Shared.heap ⟨hp,g,d,tk,os⟩) l1 us:=o1;have L2:OkM m2 (Shared.heap ⟨hp.push (iL m1 l1),g,d,tk,os⟩) l2 vs:=OkM.push o2 _
  wp_walk using iterM L1,iterM L2
  refine ⟨_,rfl,?_⟩;unfold zH at h;simp only [fH];exact h
section
variable {prog:bp} {w:bQ} {A:bo} {E:af->ai->Prop} {s:ai}
def Az (o1:OkM m1 s.heap l1 us) (o2:OkM m2 s.heap l2 vs)
 (h:∀ h',Zp h' m1 m2 (s.heap.objs.size+4) (s.heap.objs.size+2) (s.heap.objs.size+3) s.heap.objs.size (s.heap.objs.size+1) l1 l2 .none 0 0->(∀ c o,s.heap.get? c = some o->h'.get? c = some o)->Q (.ref (s.heap.objs.size+4)) { s with heap:=h' }) :
 wpAny (model prog w) A (call (.type "zip") [.ref l1,.ref l2]) Q E s:=by
 refine callType_new PySem.F.called_zip ⇑0 (PySem.F.typeCall_zip_2 _ _) (PySem.F.newCall_zip_2 _ _) (λobj=>PySem.F.args_object_init_3 obj _ _) PySem.F.entry_zip_new (Ao (m1:=m1) (m2:=m2) l1 l2 us vs) ⟨o1,o2,?_⟩;have up:∀ {h:cg} {c:aq} {o o':Obj},h.get? c = some o->(h.push o').get? c = some o:=λe=>ao _ e;have at_:∀ {h:cg} {o:Obj} {n:aq},h.objs.size = n->o.isFreed = false->(h.push o).get? n = some o:=λe f=>by rw [<- e];exact bE _ f
 have z1:(s.heap.push (iL m1 l1)).objs.size = s.heap.objs.size+1:=fH ..;have z2:((s.heap.push (iL m1 l1)).push (iL m2 l2)).objs.size = s.heap.objs.size+2:=by rw [fH,z1]
 have z3:(((s.heap.push (iL m1 l1)).push (iL m2 l2)).push { cls:=.type "tuple",data:=.seq #[.ref s.heap.objs.size,.ref (s.heap.objs.size+1)] }).objs.size = s.heap.objs.size+3:=by rw [fH,z2]
 have z4:((((s.heap.push (iL m1 l1)).push (iL m2 l2)).push { cls:=.type "tuple",data:=.seq #[.ref s.heap.objs.size,.ref (s.heap.objs.size+1)] }).push { cls:=.type "tuple",data:=.seq #[.none,.none] }).objs.size = s.heap.objs.size+4:=by rw [fH,z3]
 have g5:(zH s.heap m1 m2 l1 l2).get? (s.heap.objs.size+4) = some _:=at_ z4 rfl;have g4:(zH s.heap m1 m2 l1 l2).get? (s.heap.objs.size+3) = some _:=up (at_ z3 rfl);have g3:(zH s.heap m1 m2 l1 l2).get? (s.heap.objs.size+2) = some _:=up (up (at_ z2 rfl));have g2:(zH s.heap m1 m2 l1 l2).get? (s.heap.objs.size+1) = some (iL m2 l2):=up (up (up (at_ z1 rfl)));have g1:(zH s.heap m1 m2 l1 l2).get? s.heap.objs.size = some (iL m1 l1):=up (up (up (up (at_ rfl rfl))));have it:∀ {m:Bool} {i l:aq} {h:cg},h.get? i = some (iL m l)->ItO m h i l 0:=λ{m i l h} e=>by cases m<;>exact ⟨_,e,rfl,rfl⟩
 exact ⟨⟨_,g5,rfl⟩,h _ ⟨g5,g3,⟨_,_,g4⟩,it g1,it g2⟩ λc o e=>up (up (up (up (up e))))⟩
end
def Kb (h:a≠b):(show aq from a)≠(show aq from b):=h
def NH (K:PySem.W.Frag) (ta:TA):TI:=λσ H R=>ta σ H λvs H1=>∃ m1 m2 l1 l2 xs ys,vs = [.ref l1,.ref l2]/\SqM m1 K H1 l1 xs/\SqM m2 K H1 l2 ys/\R (Itz K m1 m2 l1 l2) H1
def Jz {X:Cx} {elts:List aG} {k0:Nat} {tp:Pos} {a b:aG} {ta:TA} {p pos:Pos} (hg:Gl X "zip") (hm:X.mg "zip" = none) (ha:PA X [a,b] ta) (hs:starEach [a,b] X.env = (false,eval a X.env)::starEach [b] X.env) (hpl:(backTo pos (starEach [b] X.env)).any (·.1) = false) :
 PI X (.Tuple elts k0 tp) (.Call (.Name "zip" p) [a,b] [] pos) (NH X.K ta):=by
 intro pins s σ H R I h;refine Call_ (qg I hg hm boot_zip (gS (thn (ha pos pins s σ H _ I h) λus s1 ⟨vs,H1,I1,r1,q1⟩=>?_) hs hpl));obtain ⟨m1,m2,l1,l2,xs,ys,rfl,s1',s2',q⟩:=q1;obtain ⟨u,rr,e,r,rr1⟩:∃ u rr,us = u::rr/\RelV (.ref l1) u/\Vals [.ref l2] rr:=by cases r1 with | cons r rr=>exact ⟨_,_,rfl,r,rr⟩
 obtain ⟨v,rfl,r2⟩:=vals1 rr1;subst e;cases r;cases r2;obtain ⟨us1,_,o1⟩:=okM I1 s1';obtain ⟨us2,_,o2⟩:=okM I1 s2';refine Az o1 o2 λh' Z k=>?_;refine wpAny_pyIter_zip Z.hz ?_
 have D:Ap (s1.heap.objs.size+4) (s1.heap.objs.size+2) (s1.heap.objs.size+3) s1.heap.objs.size (s1.heap.objs.size+1):=by
  constructor<;>(refine Kb ?_;lia)
 refine ⟨_,_,_,_,H1,rfl,I1.kept (t':=s1.toks) k,BI D,Z,λb hb=>?_,q⟩
 have hle:s1.heap.objs.size<=b:=by
  simp only [aC,aU,or_false] at hb;rcases hb with rfl | rfl | rfl | rfl | rfl<;>lia
 exact I1.fpOk hle (I1.hok.fresh hle)
end PP
end
section
namespace PP
open PySem L2 PyProof.Rows
variable [Tbs]
section
variable {X:Cx} {c:Ck} {cx:Cl} {k:Nat}
def kM:D->Bool
 | .lst _=>true
 | _=>false
def oO {K:PySem.W.Frag} {H:Hp} {F:aq->Prop} {d:D} {ds:List D} {v:V} (e:Cq d = some ds) (r:Rel K H F d v):∃ a us,v = .ref a/\SqM (kM d) K H a us/\aK K H F ds us:=by
 cases d with
 | lst l =>
   cases e;obtain ⟨a,us,e1,h1,h2⟩:=dI.lst (.inl r)
   exact ⟨a,us,e1,h1.sq,h2⟩
 | tup l =>
   cases e;obtain ⟨a,us,e1,h1,h2⟩:=dI.tup (.inl r)
   exact ⟨a,us,e1,h1,h2⟩
 | _=>cases e
def Ii {K:PySem.W.Frag} {G:Gh} {H:Hp} {F:aq->Prop} {x y:D} {xs ys:List D} {l1 l2:aq} (fd:FD F H) (ex:Cq x = some xs) (ey:Cq y = some ys) (q1:Rel K H F x (.ref l1)) (q2:Rel K H F y (.ref l2)):Wk K G F H (Itz K (kM x) (kM y) l1 l2) (rR xs ys):=by
 intro F2 H2 st fd2 i;obtain ⟨_,w1,ea,t1,rl1⟩:=oO ex (Rel.step fd st _ _ q1);cases ea;obtain ⟨_,w2,ea,t2,rl2⟩:=oO ey (Rel.step fd st _ _ q2);cases ea;have ll1:=rl1.length;have ll2:=rl2.length;have zl:(rR xs ys).length = min xs.length ys.length:=by unfold rR;rw [aB,HC]
 refine ⟨λd e=>?_,λe=>⟨w1,w2,t1,t2,∅⟩⟩;unfold rR at e;rw [bV,aQ] at e;obtain ⟨⟨d1,d2⟩,e,rfl⟩:=e;obtain ⟨e1,e2⟩:=List.getElem?_zip_eq_some.mp e;obtain ⟨a1,ha1,ra1⟩:=rl1.get e1;obtain ⟨a2,ha2,ra2⟩:=rl2.get e2;refine ⟨⟨w1,w2,a1,a2,t1,t2,ha1,ha2⟩,λv H3 hy=>?_⟩;obtain ⟨T,b1,b2,rfl,nT,rfl,y1,y2⟩:=hy;cases (y1 _ t1).symm.trans ha1;cases (y2 _ t2).symm.trans ha2;refine ⟨cF nT _,?_⟩;unfold Rel;exact ⟨T,[a1,a2],rfl,SqT.of bU,aK.step (G:=G) fd2 (Step.of_same (cF nT _)) _ _ (aK.cons ra1 (aK.cons ra2 aK.nil))⟩
def IX {es:Es} {tg a b:aG} {p pos:Pos} (ht:GZ tg = true) (n:gu es = true) (hc:gh c es [a,b] = true) (hg:Gl X "zip") (hm:X.mg "zip" = none) (hA:PA X [a,b] (tEs X.K cx es)):PI X tg (.Call (.Name "zip" p) [a,b] [] pos) (tI X.K cx (.zp es)):=by
 obtain ⟨elts,k0,tp,rfl,_⟩:=fR (x:=tg) (k:=λ_=>true) (by unfold lj;rw [aa];exact ⟨ht,rfl⟩);obtain ⟨_,_,_,c1,c2⟩:=eJ hc;refine PI.imp (Jz hg hm hA (cG (cw c1) _ _) (iy c2)) λσ H R z=>?_;obtain ⟨G,F,δ,ds,δ',ok,ev,post⟩:=z;simp only [evI,ae,ab] at ev;obtain ⟨⟨zs,δ1⟩,e1,ws,e2,e3⟩:=ev;cases e3;unfold zpD at e2;split at e2
 . rename_i x y ez;have ez:zs = [x,y]:=ez;subst ez;rw [ab] at e2;obtain ⟨xs,ex,e2⟩:=e2;rw [aQ] at e2;obtain ⟨ys,ey,rfl⟩:=e2;refine ⟨G,F,δ,[x,y],_,ok,e1,λvs H1 F1 st sm ok1 r1=>?_⟩;have r:=r1.rl n;unfold aK at r;obtain ⟨v1,_,rfl,q1,r⟩:=r;unfold aK at r;obtain ⟨v2,_,rfl,q2,r⟩:=r;unfold aK at r;subst r;obtain ⟨l1,us1,rfl,s1,_⟩:=oO ex q1;obtain ⟨l2,us2,rfl,s2,_⟩:=oO ey q2;exact ⟨kM x,kM y,l1,l2,us1,us2,rfl,s1,s2,post _ _ _ st sm ok1 λG'=>Ii ok1.fd ex ey q1 q2⟩
 . cases e2
end
section
variable {cx:Cl} {k:Nat}
def jZ {c:Ck} {tg:Tg} {ts:List Str} {kk:Nat} (h:ts.length = kk):(iK ts c.N++ts).length = c.N.length+kk:=by
 unfold iK;rw [ah,aB,h]
def kL {c:Ck} {t:It} {x tg:aG} (h:ckI c t tg x = true) (env:Env) (v:af):foldedSetIterable x env v = pure v:=by
 cases t with
 | rng e=>obtain ⟨_,_,_,_,rfl,_⟩:=gq h;rfl
 | zp es=>obtain ⟨_,_,_,_,rfl,_⟩:=gq h;rfl
 | sq e =>
   have h:(ckE c e x && !bZ e) = true:=h;rw [aa] at h;exact DP (cw h.1) env v
def ir {X:Cx} {c:Ck} {f:Blt} {es:Es} {x:aG} (C:Cok X c cx k) (h:ckE c (.blt f es) x = true) (hE:∀ e y,es = .cons e .nil->ckE c e y = true->PE X y (tE X.K cx e)) (hA:∀ xs,gh c es xs = true->nG es = true->PA X xs (tEs X.K cx es)) :
 PE X x (tE X.K cx (.blt f es))/\∀ whole,isTrue x X.env whole = (do let v <- whole;standAt x.pos;holding [v] (truthy v)):=by
 obtain ⟨n,np,xs,p,rfl,hh⟩:=gq h;refine ⟨?_,λ_=>rfl⟩;simp only [aa] at hh;obtain ⟨⟨h1,h2⟩,h3⟩:=hh;have e:=of_decide_eq_true h1;subst e
 cases hT:tyName f with
 | some T =>
   rw [hT] at h3;obtain ⟨y,w,rfl,h4⟩:=nD h3;obtain ⟨t,tp,rfl,h5⟩:=cA h4;simp only [aa] at h5;obtain ⟨⟨⟨a1,a2⟩,a3⟩,a4⟩:=h5;have et:=of_decide_eq_true a1
   cases es with
   | nil=>exact absurd (fu a3).1 ↥0
   | cons e es' =>
     obtain ⟨_,_,q0,a3'⟩:=dT a3;cases q0;rw [aa] at a3'
     cases es' with
     | cons _ _=>obtain ⟨_,_,q0,_⟩:=dT a3'.2;cases q0
     | nil =>
       have q:=hE e y rfl a3'.1;obtain ⟨t1,t2,t3⟩:=C.global a2
       have tb:t∈ji:=by
        subst et;cases f<;>simp [tyName] at hT<;>subst hT<;>decide
       have hs:starEach [y,.Name t tp] X.env = [(false,eval y X.env),(false,eval (.Name t tp) X.env)]:=by rw [cG (cw a3'.1)];rfl
       have nm:rK f = ("isinstance":Str):=by cases f<;>simp [tyName] at hT<;>rfl
       rw [nm] at h2 |-;obtain ⟨g1,_,_⟩:=C.global h2
       exact Jc hT et g1 (C.blt _ ⇑0) t1 (C.blt _ tb) q hs
 | none =>
   rw [hT] at h3;simp only [aa] at h3;obtain ⟨⟨b1,b2⟩,b3⟩:=h3
   cases xs with
   | nil=>simp at b1
   | cons y ys=>exact KS C h2 hT (hA _ b2 b3) b2
def ixT {X:Cx} {c:Ck} {a b:E} {x:aG} (C:Cok X c cx k) (h:ckE c (.ix a b) x = true) (hA:∀ y,ckE c a y = true->PE X y (tE X.K cx a)) (hB:∀ y,ckE c b y = true->PE X y (tE X.K cx b)) :
 PE X x (tE X.K cx (.ix a b))/\∀ whole,isTrue x X.env whole = (do let v <- whole;standAt x.pos;holding [v] (truthy v)):=by
 obtain ⟨_,_,_,rfl,hq1⟩:=ke h;simp only [aa] at hq1;obtain ⟨⟨⟨h1,h2⟩,h3⟩,h4⟩:=hq1;exact ⟨Jb h3 (hA _ h1) (hB _ h2) (Hb (cw h2)),λ_=>rfl⟩
def Eu {X:Cx} {c:Ck} {f:Nat} {es:Es} {x:aG} (C:Cok X c cx k) (h:ckE c (.call f es) x = true) (hA:∀ xs,gh c es xs = true->nG es = true->PA X xs (tEs X.K cx es)) :
 PE X x (tE X.K cx (.call f es))/\∀ whole,isTrue x X.env whole = (do let v <- whole;standAt x.pos;holding [v] (truthy v)):=by
 obtain ⟨n,np,xs,p,rfl,hh⟩:=gq h;refine ⟨?_,λ_=>rfl⟩;have h':=hh;split at h'
 . simp only [aa] at h';exact call_of C (hA _ h'.1.1.2 (fU h'.1.2)) hh
 . cases h'
def noT (h:∀ δ,evT cx e δ = none):PT X x (tT X.K cx e):=λpins s σ H Q I q=>by
 obtain ⟨G,F,δ,b,δ',ok,ev,post⟩:=q;rw [h] at ev;cases ev
def noE {X:Cx} {e:E} {x:aG} (h:∀ δ,evE cx e δ = none):PE X x (tE X.K cx e):=λpins s σ H Q I q=>by
 obtain ⟨G,F,δ,b,δ',ok,ev,post⟩:=q;rw [h] at ev;cases ev
mutual
theorem dM:∀ (e:E) (X:Cx) (c:Ck) (x:aG),Cok X c cx k->ckE c e x = true->PE X x (tE X.K cx e)
 | .var i,X,c,x,C,h=>by
   obtain ⟨_,_,rfl,hq1⟩:=cA h;replace h:=hq1
   . obtain ⟨n1,n2,n3,n4⟩:=C.name h
     exact FG n1 n2 n3 n4
 | .pk i,X,c,x,C,h=>by
   obtain ⟨_,_,rfl,hq1⟩:=cA h;replace h:=hq1
   . obtain ⟨n1,n2,n3,n4⟩:=C.name h
     exact Ja n1 n2 n3 n4
 | .glob g,X,c,x,C,h=>by
   obtain ⟨_,_,rfl,hq1⟩:=cA h;replace h:=hq1
   . rw [aa] at h;have e:=of_decide_eq_true h.1;obtain ⟨g1,g2,g3⟩:=C.global h.2;obtain ⟨d,hd⟩:=C.gsome g _ e;obtain ⟨u,v,hm,r,hr⟩:=C.glob g _ d e hd
     exact BV g1 hm r (λd' hd'=>by rw [hd] at hd';cases hd';exact hr) g2
 | .int i,X,c,x,C,h=>by
   obtain ⟨_,_,_,rfl,hq1⟩:=pY h;obtain ⟨_,rfl,hq2⟩:=JW hq1;replace h:=hq2
   . have e:=of_decide_eq_true h;subst e;exact FR
 | .bl i,X,c,x,C,h=>by
   obtain ⟨_,_,_,rfl,hq1⟩:=pY h;obtain ⟨_,rfl,hq2⟩:=JX hq1;replace h:=hq2
   . have e:=of_decide_eq_true h;subst e;exact Jd
 | .non,X,c,x,C,h=>by
   obtain ⟨_,_,_,rfl,hq1⟩:=pY h;replace h:=hq1;have e:=DJ h;subst e
   exact FL
 | .str i,X,c,x,C,h=>by
   obtain ⟨_,_,_,rfl,hq1⟩:=pY h;obtain ⟨_,rfl,hq2⟩:=JT hq1;replace h:=hq2
   . have e:=of_decide_eq_true h;subst e;exact FI
 | .bin op a b,X,c,x,C,h=>by
   obtain ⟨_,_,_,_,rfl,hq1⟩:=uZ h;replace h:=hq1
   . simp only [aa] at h;obtain ⟨⟨⟨h1,h2⟩,h3⟩,h4⟩:=h
     exact FU h1 h4 (dM a X c _ C h2) (dM b X c _ C h3)
 | .cmp op a b,X,c,x,C,h=>by
   obtain ⟨_,_,_,_,rfl,hq1⟩:=pX h;obtain ⟨_,rfl,hq2⟩:=fK hq1;obtain ⟨_,rfl,hq3⟩:=fK hq2;replace h:=hq3
   . simp only [aa] at h;obtain ⟨⟨⟨h1,h2⟩,h3⟩,h4⟩:=h
     exact FT C.units h1 h4 (dM a X c _ C h2) (dM b X c _ C h3) (rG (cw h3) _)
 | .and a b,X,c,x,C,h=>by
   obtain ⟨o,_,p,rfl,hq1⟩:=mx h;obtain ⟨y,r,rfl,hq2⟩:=dT hq1;obtain ⟨z,r2,rfl,hq3⟩:=dT hq2;simp only [aa] at hq3;obtain ⟨⟨⟨⟨h0,h1⟩,h2⟩,h3⟩,h4⟩:=hq3;cases o<;>first | (cases h0;done) | skip
   cases r2 with
   | nil=>exact snd_and h3 h4 (dM a X c _ C h1) (CN (dM b X c _ C h2))
   | cons w r=>exact snd_and h3 h4 (dM a X c _ C h1) (dM b X c _ C h2)
 | .or a b,X,c,x,C,h=>by
   obtain ⟨o,_,p,rfl,hq1⟩:=mx h;obtain ⟨y,r,rfl,hq2⟩:=dT hq1;obtain ⟨z,r2,rfl,hq3⟩:=dT hq2;simp only [aa] at hq3;obtain ⟨⟨⟨⟨h0,h1⟩,h2⟩,h3⟩,h4⟩:=hq3;cases o<;>first | (cases h0;done) | skip
   cases r2 with
   | nil=>exact BS h3 h4 (dM a X c _ C h1) (CN (dM b X c _ C h2))
   | cons w r=>exact BS h3 h4 (dM a X c _ C h1) (dM b X c _ C h2)
 | .not a,X,c,x,C,h=>by
   obtain ⟨o,_,_,rfl,hh⟩:=oQ h;simp only [aa] at hh;obtain rfl:=vj hh.1.1
   exact FK hh.2 (dM a X c _ C hh.1.2)
 | .neg a,X,c,x,C,h=>by
   obtain ⟨o,_,_,rfl,hh⟩:=oQ h;simp only [aa] at hh;obtain rfl:=DK hh.1.1
   exact FN hh.2 (dM a X c _ C hh.1.2)
 | .ite t a b,X,c,x,C,h=>by
   obtain ⟨_,_,_,_,rfl,hq1⟩:=ym h;replace h:=hq1
   . simp only [aa] at h;obtain ⟨⟨⟨⟨h1,h2⟩,h3⟩,h4⟩,h5⟩:=h
     exact FQ h4 h5 (oG t X c _ C h1) (dM a X c _ C h2) (dM b X c _ C h3)
 | .tup es,X,c,x,C,h=>by
   obtain ⟨_,_,_,rfl,hq1⟩:=fR h;replace h:=hq1
   . rw [aa] at h
     exact FH h.2 (fE es X c _ C h.1 (fU h.2))
 | .lst es,X,c,x,C,h=>by
   obtain ⟨_,_,rfl,hq1⟩:=pV h;replace h:=hq1
   . rw [aa] at h
     exact FO h.2 (fE es X c _ C h.1 (fU h.2))
 | .ix a b,X,c,x,C,h=>(ixT C h (λy q=>dM a X c y C q) λy q=>dM b X c y C q).1
 | .sl a lo hi,X,c,x,C,h=>by
   obtain ⟨_,_,_,rfl,hh⟩:=ke h;obtain ⟨_,_,o,_,rfl,h9⟩:=yj hh;simp only [aa] at h9;obtain ⟨h0,⟨⟨h1,h2⟩,h3⟩,h4⟩:=h9;obtain rfl:=fM.mp h0
   exact IZ (by simpa using h4) (dM a X c _ C h1) (FV lo X c _ C h2) (FV hi X c _ C h3)
 | .call f es,X,c,x,C,h=>(Eu C h λxs h1 h2=>fE es X c xs C h1 h2).1
 | .blt f .nil,X,c,x,C,h=>(ir C h (λe y z=>by cases z) λxs h1 h2=>fE .nil X c xs C h1 h2).1
 | .blt f (.cons e .nil),X,c,x,C,h=>(ir C h (λe' y z h1=>by cases z;exact dM e X c y C h1) λxs h1 h2=>fE (.cons e .nil) X c xs C h1 h2).1
 | .blt f (.cons e (.cons e2 es)),X,c,x,C,h=>(ir C h (λe' y z=>by cases z) λxs h1 h2=>fE (.cons e (.cons e2 es)) X c xs C h1 h2).1
 | .callv i es,X,c,x,C,h=>by
   obtain ⟨_,_,_,_,rfl,hq1⟩:=gq h;replace h:=hq1
   . exact Er C (fE es X c _ C (by simp only [aa] at h;exact h.1.1.2) (by simp only [aa] at h;exact fU h.1.2)) h
 | .callF f es i,X,c,x,C,h=>by
   obtain ⟨_,_,_,_,rfl,hq1⟩:=gq h;replace h:=hq1
   . exact Ew C (λh1 h2 z tz hz hs=>wA es X c _ z tz C h1 h2 hz hs) h
 | .bad,X,c,x,C,h=>noE λδ=>rfl
 | .isdig i,X,c,x,C,h=>by
   obtain ⟨_,_,_,_,_,rfl,hln,hh⟩:=sI h;obtain ⟨_,_,rfl,h2⟩:=cA hh;obtain ⟨rfl,h3⟩:=fu h2;rw [aa] at h3;have e:=of_decide_eq_true h3.1;subst e;obtain ⟨n1,n2,n3,n4⟩:=C.name h3.2
   exact zV n1 n2 n3 n4 hln
 | .comp kk tg src ifs elt,X,c,x,C,h=>by
   obtain ⟨_,_,_,_,rfl,hq1⟩:=kF h;obtain ⟨_,rfl,hq2⟩:=fK hq1;obtain ⟨_,_,_,rfl,hq3⟩:=pW hq2;replace h:=hq3
   . split at h
     . rename_i ts ht;simp only [aa] at h;obtain ⟨⟨⟨⟨⟨⟨⟨⟨h1,h2⟩,h3⟩,h4⟩,h5⟩,h6⟩,h7⟩,h8⟩,h9⟩:=h;have nd:=(je h4).1
       exact BW C h9 (jZ (tg:=tg) (of_decide_eq_true h1)) h2 h3 h4 (λcl Ca s H fp=>lB (gJ C h3 nd cl Ca s H fp) h5) (Ad src X c _ _ C h6)
        (λcl Ca s H fp=>LK ifs _ _ _ (gJ C h3 nd cl Ca s H fp) h7) (λcl Ca s H fp=>dM elt _ _ _ (gJ C h3 nd cl Ca s H fp) h8) (λv=>kL h6 _ v)
     . cases h
 | .lc3 kk tg1 src1 tg2 src2 tg3 src3 elt,X,c,x,C,h=>by
   obtain ⟨_,_,_,_,rfl,hq1⟩:=kF h;obtain ⟨_,_,rfl,hq2⟩:=dT hq1;obtain ⟨_,_,rfl,hq3⟩:=nD hq2;obtain ⟨_,_,_,rfl,hq4⟩:=pW hq3;obtain ⟨_,_,_,rfl,hq5⟩:=pW hq4;obtain ⟨_,_,_,rfl,hq6⟩:=pW hq5;obtain ⟨rfl,hq7⟩:=fu hq6;obtain ⟨rfl,hq8⟩:=fu hq7;obtain ⟨rfl,hq9⟩:=fu hq8;replace h:=hq9
   . split at h
     . simp only [aa] at h;obtain ⟨⟨⟨⟨⟨⟨⟨⟨⟨⟨⟨⟨⟨h1,h2⟩,h3⟩,h4⟩,h5⟩,h6⟩,h7⟩,h8⟩,h9⟩,g1⟩,g2⟩,g3⟩,g4⟩,g5⟩:=h;have nd:=(je h6).1;have cb:=λcl Ca s H fp=>gJ C h5 nd cl Ca s H fp
       exact FP C g5 (jZ (tg:=tg1) (of_decide_eq_true h1)) h2 h3 h4 h5 h6 (λcl Ca s H fp=>lB (cb cl Ca s H fp) h7) (λcl Ca s H fp=>lB (cb cl Ca s H fp) h8) (λcl Ca s H fp=>lB (cb cl Ca s H fp) h9) (Ad src1 X c _ _ C g1)
        (λcl Ca s H fp=>Ad src2 _ _ _ _ (cb cl Ca s H fp) g2) (λcl Ca s H fp=>Ad src3 _ _ _ _ (cb cl Ca s H fp) g3) (λcl Ca s H fp=>dM elt _ _ _ (cb cl Ca s H fp) g4) (λv=>kL g1 _ v) (λenv v=>kL g2 env v) (λenv v=>kL g3 env v)
     . cases h
theorem oG:∀ (e:E) (X:Cx) (c:Ck) (x:aG),Cok X c cx k->ckE c e x = true->PT X x (tT X.K cx e)
 | .var i,X,c,x,C,h=>by
   obtain ⟨_,_,rfl,hq1⟩:=cA h;replace h:=hq1
   . obtain ⟨n1,n2,n3,n4⟩:=C.name h
     exact uI (.inl rfl) n1 n2 n3 n4
 | .pk i,X,c,x,C,h=>by
   obtain ⟨_,_,rfl,hq1⟩:=cA h;replace h:=hq1
   . obtain ⟨n1,n2,n3,n4⟩:=C.name h
     exact uI (.inr rfl) n1 n2 n3 n4
 | .cmp op a b,X,c,x,C,h=>by
   obtain ⟨_,_,_,_,rfl,hq1⟩:=pX h;obtain ⟨_,rfl,hq2⟩:=fK hq1;obtain ⟨_,rfl,hq3⟩:=fK hq2;replace h:=hq3
   . simp only [aa] at h;obtain ⟨⟨⟨h1,h2⟩,h3⟩,h4⟩:=h
     exact Cb C.units h1 h4 (dM a X c _ C h2) (dM b X c _ C h3) (rG (cw h3) _)
 | .and a b,X,c,x,C,h=>by
   obtain ⟨o,_,p,rfl,hq1⟩:=mx h;obtain ⟨y,r,rfl,hq2⟩:=dT hq1;obtain ⟨z,r2,rfl,hq3⟩:=dT hq2;simp only [aa] at hq3;obtain ⟨⟨⟨⟨h0,h1⟩,h2⟩,h3⟩,h4⟩:=hq3;cases o<;>first | (cases h0;done) | skip
   cases r2 with
   | nil=>exact uJ (oG a X c _ C h1) (Gm (oG b X c _ C h2))
   | cons w r=>exact uJ (oG a X c _ C h1) (PT.pw (oG b X c _ C h2))
 | .or a b,X,c,x,C,h=>by
   obtain ⟨o,_,p,rfl,hq1⟩:=mx h;obtain ⟨y,r,rfl,hq2⟩:=dT hq1;obtain ⟨z,r2,rfl,hq3⟩:=dT hq2;simp only [aa] at hq3;obtain ⟨⟨⟨⟨h0,h1⟩,h2⟩,h3⟩,h4⟩:=hq3;cases o<;>first | (cases h0;done) | skip
   cases r2 with
   | nil=>exact xQ (oG a X c _ C h1) (Js (oG b X c _ C h2))
   | cons w r=>exact xQ (oG a X c _ C h1) (PT.pw (oG b X c _ C h2))
 | .not a,X,c,x,C,h=>by
   obtain ⟨o,_,_,rfl,hh⟩:=oQ h;simp only [aa] at hh;obtain rfl:=vj hh.1.1
   exact BZ (oG a X c _ C hh.1.2)
 | .call f es,X,c,x,C,h=>oN (es:=es) (f:=cx.call f) (Eu C h λxs h1 h2=>fE es X c xs C h1 h2).1 (Eu C h λxs h1 h2=>fE es X c xs C h1 h2).2 rfl (λδ=>rfl) λδ=>by rw [evT]
 | .blt f .nil,X,c,x,C,h=>oN (es:=.nil) (f:=jS f) (ir C h (λe y z=>by cases z) λxs h1 h2=>fE .nil X c xs C h1 h2).1 (ir C h (λe y z=>by cases z) λxs h1 h2=>fE .nil X c xs C h1 h2).2 rfl (λδ=>rfl) λδ=>by rw [evT]
 | .blt f (.cons e .nil),X,c,x,C,h=>oN (es:=.cons e .nil) (f:=jS f) (ir C h (λe' y z h1=>by cases z;exact dM e X c y C h1) λxs h1 h2=>fE (.cons e .nil) X c xs C h1 h2).1 (ir C h (λe' y z h1=>by cases z;exact dM e X c y C h1) λxs h1 h2=>fE (.cons e .nil) X c xs C h1 h2).2 rfl (λδ=>rfl) λδ=>by rw [evT]
 | .blt f (.cons e (.cons e2 es)),X,c,x,C,h=>oN (es:=.cons e (.cons e2 es)) (f:=jS f) (ir C h (λe' y z=>by cases z) λxs h1 h2=>fE (.cons e (.cons e2 es)) X c xs C h1 h2).1 (ir C h (λe' y z=>by cases z) λxs h1 h2=>fE (.cons e (.cons e2 es)) X c xs C h1 h2).2 rfl (λδ=>rfl) λδ=>by rw [evT]
 | .callv _ _,X,c,x,C,h=>noT λδ=>rfl
 | .callF _ _ _,X,c,x,C,h=>noT λδ=>rfl
 | .glob _,X,c,x,C,h=>noT λδ=>rfl
 | .int _,X,c,x,C,h=>noT λδ=>rfl
 | .bl _,X,c,x,C,h=>noT λδ=>rfl
 | .non,X,c,x,C,h=>noT λδ=>rfl
 | .str _,X,c,x,C,h=>noT λδ=>rfl
 | .neg _,X,c,x,C,h=>noT λδ=>rfl
 | .bin ..,X,c,x,C,h=>noT λδ=>rfl
 | .ite ..,X,c,x,C,h=>noT λδ=>rfl
 | .tup _,X,c,x,C,h=>noT λδ=>rfl
 | .lst _,X,c,x,C,h=>noT λδ=>rfl
 | .ix a b,X,c,x,C,h=>BY (ixT C h (λy q=>dM a X c y C q) λy q=>dM b X c y C q).1 (ixT C h (λy q=>dM a X c y C q) λy q=>dM b X c y C q).2 λδ k δ' q=>by
   simp only [evT,ae,ab] at q;obtain ⟨⟨u,δ1⟩,e1,⟨v,δ2⟩,e2,d,e3,t,e4,e5⟩:=q;cases e5
   exact ⟨d,by simp only [evE,e1,e2,e3,ae,bB];rfl,e4⟩
 | .sl ..,X,c,x,C,h=>noT λδ=>rfl
 | .isdig _,X,c,x,C,h=>noT λδ=>rfl
 | .bad,X,c,x,C,h=>noT λδ=>rfl
 | .lc3 ..,X,c,x,C,h=>noT λδ=>rfl
 | .comp ..,X,c,x,C,h=>noT λδ=>rfl
theorem fE:∀ (es:Es) (X:Cx) (c:Ck) (xs:List aG),Cok X c cx k->gh c es xs = true->nG es = true->PA X xs (tEs X.K cx es)
 | .nil,X,c,xs,C,h,_=>by
   obtain ⟨rfl,hq1⟩:=fu h;replace h:=hq1
   . exact si
 | .cons e es,X,c,xs,C,h,ho=>by
   obtain ⟨_,_,rfl,hq1⟩:=dT h;replace h:=hq1
   . rw [aa] at h;have ho':((!bZ e || npS es) && nG es) = true:=ho;rw [aa] at ho';exact pK ho'.1 (dM e X c _ C h.1) (fE es X c _ C h.2 ho'.2) (cG (cw h.1) _ _)
theorem wA:∀ (es:Es) (X:Cx) (c:Ck) (xs:List aG) (z:aG) (tz:TE),Cok X c cx k->gh c es xs = true->nG es = true->PE X z tz->starEach [z] X.env = (false,eval z X.env)::starEach [] X.env->PA X (xs++[z]) (wj X.K cx es tz)
 | .nil,X,c,xs,z,tz,C,h,_,hz,hs=>by
   obtain ⟨rfl,hq1⟩:=fu h;replace h:=hq1
   . exact BU hz hs
 | .cons e es,X,c,xs,z,tz,C,h,ho,hz,hs=>by
   obtain ⟨_,_,rfl,hq1⟩:=dT h;replace h:=hq1
   . rw [aa] at h;have ho':((!bZ e || npS es) && nG es) = true:=ho;rw [aa] at ho';exact zW ho'.1 (dM e X c _ C h.1) (wA es X c _ z tz C h.2 ho'.2 hz hs) (cG (cw h.1) _ _)
theorem FV:∀ (o:Eo) (X:Cx) (c:Ck) (l:Option aG),Cok X c cx k->ckO c o l = true->PO X l (tO X.K cx o)
 | .no,X,c,l,C,h=>by
   obtain rfl:=fM.mp h
   exact HF (λe z=>by cases z) λ_=>rfl
 | .yes e,X,c,l,C,h=>by
   obtain ⟨_,rfl,hq1⟩:=wL h;replace h:=hq1
   . rw [aa] at h;have q:=dM e X c _ C h.1;exact HF (λe' z=>by cases z;exact ⟨_,rfl,h.2,q⟩) λz=>by cases z
theorem LK:∀ (o:Eo) (X:Cx) (c:Ck) (l:List aG),Cok X c cx k->ckG c o l = true->PTs X l (tG X.K cx o)
 | .no,X,c,l,C,h=>by
   obtain ⟨rfl,hq1⟩:=fu h;replace h:=hq1
   . intro pins s σ H Q I q;obtain ⟨G,F,δ,b,δ',ok,ev,post⟩:=q;simp only [evG] at ev;cases ev
     exact sD pins s σ H Q I (post H F Step.refl (λ_=>Sim.refl H) ok)
 | .yes e,X,c,l,C,h=>by
   obtain ⟨_,rfl,hq1⟩:=fK h;replace h:=hq1
   . have q:=Gn (oG e X c _ C h);intro pins s σ H Q I z;obtain ⟨G,F,δ,b,δ',ok,ev,post⟩:=z;simp only [evG] at ev;exact q pins s σ H Q I ⟨G,F,δ,b,δ',ok,ev,post⟩
theorem Ad:∀ (t:It) (X:Cx) (c:Ck) (x tg:aG),Cok X c cx k->ckI c t tg x = true->PI X tg x (tI X.K cx t)
 | .rng e,X,c,x,tg,C,h=>by
   obtain ⟨_,_,_,_,rfl,hq1⟩:=gq h;obtain ⟨_,rfl,hq2⟩:=fK hq1;replace h:=hq2
   . simp only [aa] at h;obtain ⟨⟨⟨h1,h2⟩,h3⟩,h4⟩:=h;have z:=of_decide_eq_true h1;subst z
     exact FJ h4 (C.global h2).1 (C.blt _ ⇑0) (dM e X c _ C h3) (cG (cw h3) _ _)
 | .zp es,X,c,x,tg,C,h=>by
   obtain ⟨_,_,_,_,rfl,h1⟩:=gq h;obtain ⟨_,_,rfl,h2⟩:=nD h1;simp only [aa] at h2;obtain ⟨⟨⟨⟨a1,a2⟩,a3⟩,a5⟩,a6⟩:=h2;have e:=of_decide_eq_true a2;subst e
   exact IX a1 a6 a5 (C.global a3).1 (C.blt _ ⇑0) (fE es X c _ C a5 (fU a6))
 | .sq e,X,c,x,tg,C,h=>by
   have h:(ckE c e x && !bZ e) = true:=h;rw [aa] at h;exact IY h.2 (dM e X c x C h.1)
end
end
def zh (K:PySem.W.Frag) (G:Gh) (F:aq->Prop) (H:Hp) (o:Out) (E:Ends):Prop:=match o with
 | .nx δ'=>∀ σ' H' F',Step G F H F' H'->Ok K G F' σ' H' δ'->E.nx σ' H'
 | .rt d δ'=>∀ v σ' H' F',Step G F H F' H'->Ok K G F' σ' H' δ'->Rel K H' F' d v->E.rt v H'
 | .ro d δ'=>∀ a v σ' H' F',Step G F H F' H'->Ok K G F' σ' H' δ'->F' a->G.free a->Hand K H' F' a d v->E.rt v H'
def tS (K:PySem.W.Frag) (ev:Loc->Option Out):TS:=λE σ H=>∃ G F δ o,Ok K G F σ H δ/\ev δ = some o/\zh K G F H o E
def zh.step {K:PySem.W.Frag} {G:Gh} {F F1:aq->Prop} {H H1:Hp} {o:Out} {E:Ends} (st:Step G F H F1 H1) (h:zh K G F H o E):zh K G F1 H1 o E:=by
 cases o with
 | nx δ=>exact λσ' H' F' s k=>h σ' H' F' (st.trans s) k
 | rt d δ=>exact λv σ' H' F' s k r=>h v σ' H' F' (st.trans s) k r
 | ro ds δ=>exact λa xs σ' H' F' s k=>h a xs σ' H' F' (st.trans s) k
def BQ {env:Env} {x z:Str} {px pz pt pt2:Pos} {kt k2} {a b:aG} (hB:env.blockKind = .function) (hx:env.scope.names.lookup x = some .local) (hz:env.scope.names.lookup z = some .local) (hn:x≠z) (hl:px.line = pz.line) (ha:fw a = true) (hb:fw b = true) (hf:(foldedForSure 8 a && foldedForSure 8 b) = false) (hc:(constantsAlone 8 a && constantsAlone 8 b) = false) :
 swappedStores [.Tuple [.Name x px,.Name z pz] kt pt] (.Tuple [a,b] k2 pt2) env = pure (some [x,z]):=by
 have sa:∀ a:aG,fw a = true->(match a with | .Starred .. => true | _=>false) = false:=λa h=>by
  cases a<;>first | rfl | (exact absurd h au)
 have k1:env.kindOf x = some .local:=hx;have k2:env.kindOf z = some .local:=hz;have e1:((env.blockKind != .function):Bool) = false:=by rw [hB];rfl
 have s1:=sa a ha;have s2:=sa b hb;have l1:(pz.line == px.line) = true:=by rw [hl];exact beq_self_eq_true _
 have n1:(z == x) = false:=by rw [beq_eq_false_iff_ne];exact hn.symm
 have d1:([x,z].eraseDups.length != [x,z].length) = false:=by
  rw [lZ];simp [n1,lZ]
 unfold swappedStores;simp only [ay,aF,hV,List.any_nil,e1,s1,s2,List.head?_cons,dn,AO,cT,AS,k1,k2,Expr.pos,l1,beq_self_eq_true,cC,ite_true,d1,hZ,vO,mZ,hf,hc,Bool.or_false,Bool.or_self,vP,Bool.not_true,bne_self_eq_false,↓reduceIte,bW,pure_bind];refine (if_neg ?_).trans (if_neg ?_)
 . exact ne_true_of_eq_false (ly.mpr ⟨s1,s2⟩)
 . rw [Bool.false_or];exact ne_true_of_eq_false d1
def zO {env:Env} {c:Ck} {t y:aG} (hS:env.scope = c.sc) (h:Mj c t = true):swappedStores [t] y env = pure none:=by
 obtain ⟨_,_,_,rfl,h1⟩:=fR h;obtain ⟨_,_,rfl,h2⟩:=nD h1;obtain ⟨x,px,rfl,h3⟩:=mw h2;obtain ⟨z,pz,rfl,h4⟩:=mw h3;have hx:(env.kindOf x == some .local) = false:=beq_eq_false_iff_ne.mpr (by have:=of_decide_eq_true h4;rw [<- hS] at this;exact this);cases y<;>first | rfl | skip
 unfold swappedStores;simp only [ay,aF,cT,AS,hx,Bool.false_and,bW,ite_false,pure_bind];by_cases q:(env.kindOf z == some .local && pz.line == px.line) = true<;>simp [q,Expr.pos,lZ]
section
variable {X:Cx} {c:Ck} {cx:Cl} {k:Nat}
def PS.imp {s:dE} {t t':TS} (h:PS X s t) (w:∀ E σ H,t' E σ H->t E σ H):PS X s t':=λpins s σ H E I q=>h pins s σ H E I (w E σ H q)
def PSs.imp {s:List dE} {t t':TS} (h:PSs X s t) (w:∀ E σ H,t' E σ H->t E σ H):PSs X s t':=λpins s σ H E I q=>h pins s σ H E I (w E σ H q)
def uL:PSs X [] (tS X.K (en cx .nil)):=PSs.imp Gq λE σ H zz=>by
 obtain ⟨G,F,δ,o,ok,ev,post⟩:=zz;simp only [en] at ev;cases ev;exact post σ H F Step.refl ok
def qY {s:S} {ss:Ss} {y:dE} {ys:List dE} (h1:PS X y (tS X.K (evS cx s))) (h2:PSs X ys (tS X.K (en cx ss))):PSs X (y::ys) (tS X.K (en cx (.cons s ss))):=PSs.imp (CF h1 h2) λE σ H zz=>by
 obtain ⟨G,F,δ,o,ok,ev,post⟩:=zz;simp only [en] at ev
 cases e:evS cx s δ with
 | none=>rw [e] at ev;cases ev
 | some o1 =>
   rw [e] at ev
   cases o1 with
   | nx δ1=>exact ⟨G,F,δ,.nx δ1,ok,e,λσ' H' F' st ok'=>⟨G,F',δ1,o,ok',ev,post.step st⟩⟩
   | rt d δ1=>cases ev;exact ⟨G,F,δ,_,ok,e,post⟩
   | ro d δ1=>cases ev;exact ⟨G,F,δ,_,ok,e,post⟩
def Ez {tg:Tg} {e:E} {δ:Loc} {o:Out} (ev:evS cx (.asg tg e) δ = some o):∃ d δ1 δ2,evE cx e δ = some (d,δ1)/\dq δ1 tg d = some δ2/\o = .nx δ2:=by
 simp only [evS,ae,ab] at ev;obtain ⟨⟨d,δ1⟩,e1,δ2,e2,e3⟩:=ev;cases e3;exact ⟨d,δ1,δ2,e1,e2,rfl⟩
def KW {tg:Tg} {e:E} (n:(!bZ e) = true) {E:Ends} {σ:L2.St} {H:Hp} (h:tS X.K (evS cx (.asg tg e)) E σ H):FA (tE X.K cx e) (gTg X.K tg) E σ H:=by
 obtain ⟨G,F,δ,o,ok,ev,post⟩:=h;obtain ⟨d,δ1,δ2,e1,e2,rfl⟩:=Ez ev;exact ⟨G,F,δ,d,δ1,ok,e1,λv H1 F1 st sm ok1 r=>mf ok1 (eY n r) e2 λσ' ok2 _=>post σ' H1 F1 st ok2⟩
def uN (C:Cok X c cx k) (hm:(isNm t || !GZ y) = true\/swappedStores [t] y X.env = pure none) (h:oI c tg t = true) (hy:ckE c e y = true) (n:(!bZ e) = true) (hs:swapsWithSole [t] y pos.line X.env = pure false) (he:PE X y (tE X.K cx e)):PS X (.Assign [t] y pos) (tS X.K (evS cx (.asg tg e))):=by
 have hh:=cw hy
 have hw:swappedStores [t] y X.env = pure none:=by
  refine hm.elim (λhm=>?_) id;rcases uB h with ⟨_,_,rfl⟩ | ⟨_,_,_,rfl⟩
  . cases y<;>first | rfl | (exact absurd hh au)
  . cases y<;>first | rfl | (exact absurd hm au) | (exact absurd hh au)
 have h1:(assignEach [t] X.env).map (·.2) = [assign t X.env]:=by
  rcases uB h with ⟨_,_,rfl⟩ | ⟨_,_,_,rfl⟩<;>rfl
 exact PS.imp (wF he (lB C h) hs hw h1) λE σ H h=>KW n h
def IT {α β:Type} {i j:α} {ds:List β} (h:[i,j].length = ds.length):∃ a b,ds = [a,b]:=by
 cases ds with
 | nil=>cases h
 | cons a ds =>
   cases ds with
   | nil=>cases h
   | cons b ds =>
     cases ds with
     | nil=>exact ⟨a,b,rfl⟩
     | cons c ds=>cases h
def Ce (C:Cok X c cx k) (hS:X.env.scope = c.sc) (hB:X.env.blockKind = .function) {i j:Nat} {es:Es} {t y:aG} {pos:Pos} (h:Mm c i j es t y = true) (hA:∀ a b,gh c es [a,b] = true->gu es = true->PA X [a,b] (tEs X.K cx es)):PS X (.Assign [t] y pos) (tS X.K (evS cx (.asg (.tp [i,j]) (.tup es)))):=by
 obtain ⟨_,_,_,rfl,h1⟩:=fR h;obtain ⟨_,_,rfl,h2⟩:=nD h1;obtain ⟨x,px,rfl,h3⟩:=mw h2;obtain ⟨z,pz,rfl,h4⟩:=mw h3;obtain ⟨_,_,_,rfl,h5⟩:=fR h4;obtain ⟨a,b,rfl,h6⟩:=nD h5;clear h h1 h2 h3 h4 h5;have h:=h6;clear h6;simp only [aa,decide_eq_true_eq,gF] at h;obtain ⟨⟨⟨⟨⟨⟨⟨⟨⟨h1,h2⟩,h3⟩,h4⟩,h5⟩,h6⟩,h7⟩,h8⟩,h9⟩,h10⟩:=h;rw [<- C.hN] at h1 h2;rw [<- hS] at h3 h4;obtain ⟨_,_,_,c1,c2⟩:=eJ h7;obtain ⟨_,_,_,c3,_⟩:=eJ c2;refine PS.imp (Jw C.calm C.nd' h1 h2 (λw=>h5 ?_) h3 h4 (hA a b h7 h8) (BQ hB h3 h4 h5 h6 (cw c1) (cw c3) h9 h10)) λE σ H ⟨G,F,δ,o,ok,ev,post⟩=>?_
 . rw [w] at h1;exact bR (h1.symm.trans h2)
 obtain ⟨d,δ1,δ2,e1,e2,rfl⟩:=Ez ev;simp only [evE,ae,ab] at e1;obtain ⟨⟨ds,δ3⟩,ea,e3⟩:=e1;split at e3
 . cases e3;unfold dq at e2;dsimp only at e2;split at e2
   . rename_i hh;cases e2;refine ⟨G,F,δ,ds,_,ok,ea,λvs H1 F1 st sm ok1 r=>?_⟩;have r:=r.rl h8;obtain ⟨d1,d2,rfl⟩:=IT hh.1;have q:=hh.2;simp only [hZ,vO,mZ,aa,decide_eq_true_eq] at q;obtain ⟨v1,vs1,rfl,r1,q1⟩:=r;obtain ⟨v2,vs2,rfl,r2,q2⟩:=q1;obtain rfl:vs2 = []:=q2;exact ⟨v1,v2,rfl,post _ H1 F1 st ((ok1.set q.1 r1).set (by rw [cj];exact q.2) r2)⟩
   . cases e2
 . cases e3
def tN (K:PySem.W.Frag) (cx:Cl) (e:E):TE:=λσ H Q=>∃ G F δ ds δ',Ok K G F σ H δ/\evE cx e δ = some (.lst ds,δ') /\
 ∀ p xs H1 F1,Step G F H F1 H1->Ok K G F1 σ H1 δ'->H1 p = none->aK K H1 F1 ds xs->Q (.ref p) (upd H1 p (.lst xs))
def GA {K:PySem.W.Frag} {G:Gh} {F1:aq->Prop} {σ:L2.St} {H1:Hp} {δ1:Loc} {i:Nat} {p:aq} {ds:List D} {xs:List V} (ok1:Ok K G F1 σ H1 δ1) (hp:H1 p = none) (rl:aK K H1 F1 ds xs) (hi:i < δ1.length) :
 Ok K G (λb=>F1 b\/b = p) (σ.set i (some (.ref p))) (upd H1 p (.lst xs)) (δ1.set i (.own ds))/\Step G F1 H1 (λb=>F1 b\/b = p) (upd H1 p (.lst xs)):=by
 obtain ⟨o1,o2⟩:=ok1.enter hp xs;refine ⟨(o1.keep).own hi (.inr rfl) (ok1.free hp) bU (aK.step ok1.fd o2 ds xs rl) λj s e ho z=>?_,o2⟩;obtain ⟨a,u,d,e1,_,_,e2,_⟩:=fb.ow (ok1.sl j _ e) ho;rw [z] at e1;cases e1;rw [hp] at e2;cases e2
def Cf (C:Cok X c cx k) {i:Nat} {e:E} {t:Str} {y:aG} {pos p2:Pos} (h:jy c i t = true) (hy:ckE c e y = true) (nc:(!km y) = true) (he:PE X y (tN X.K cx e)):PS X (.Assign [.Name t p2] y pos) (tS X.K (evS cx (.new i e))):=by
 obtain ⟨n1,n2,n3⟩:=C.to h;have nc':km y = false:=by simpa using nc
 refine PS.imp (Jv C.nd' n1 n2 he (qk (cw hy) nc' _ _ _) n3) λE σ H zz=>?_;obtain ⟨G,F,δ,o,ok,ev,post⟩:=zz;simp only [evS,ae,ab] at ev;obtain ⟨⟨d,δ1⟩,e1,ev⟩:=ev
 cases d with
 | lst ds =>
   dsimp only at ev;split at ev
   . cases ev;refine ⟨G,F,δ,ds,δ1,ok,e1,λp xs H1 F1 st ok1 hp rl=>?_⟩;obtain ⟨o1,o2⟩:=GA ok1 hp rl ‹_›;exact post _ _ _ (st.trans o2) o1
   . cases ev
 | _=>cases ev
def Cn (n:gu es = true) (h:PA X xs (tEs X.K cx es)):PE X (.List xs pos) (tN X.K cx (.lst es)):=by
 refine PE.imp (CO h) λσ H Q h=>?_;obtain ⟨G,F,δ,d,δ',ok,ev,post⟩:=h;simp only [evE,ae,ab] at ev;obtain ⟨⟨ds,δ1⟩,ea,ev⟩:=ev;split at ev
 . rename_i hz;cases ev;refine ⟨G,F,δ,ds,δ1,ok,ea,λvs H1 F1 st1 sm1 ok1 r1=>?_⟩;have r:=r1.rl n;exact ⟨by rw [r.length];exact hz,λp hp=>post p vs H1 F1 st1 ok1 hp r⟩
 . cases ev
def Ac (C:Cok X c cx k) {es:Es} {p pos:Pos} {y:aG} {ys:List aG} (hg:fL c (rK .toLst) = true) (hA:PA X (y::ys) (tEs X.K cx es)) (h:gh c es (y::ys) = true):PE X (.Call (.Name (rK .toLst) p) (y::ys) [] pos) (tN X.K cx (.blt .toLst es)):=by
 obtain ⟨g1,g2,g3⟩:=C.global hg;obtain ⟨e,es',rfl,h1,h2⟩:=eJ h;have he:=cG (cw h1) ys X.env;have hpl:=iy (env:=X.env) (pos:=pos) h2;refine PE.imp (jd mR g1 (C.blt _ ⇑0) rfl hA g3 g2 he hpl) λσ H Q h=>?_;obtain ⟨G,F,δ,ds,δ',ok,ev,post⟩:=h;simp only [evE] at ev;obtain ⟨zs,ea,hd⟩:=yO ev;refine ⟨G,F,δ,zs,δ',ok,ea,λvs H1 F1 st1 sm1 ok1 r1=>?_⟩;have r:=r1.bl;change nr zs = some (D.lst ds) at hd;unfold nr at hd;split at hd
 . cases hd;obtain ⟨v,rfl,r9⟩:=b1 r;obtain ⟨a,ws,rfl,h1,h2⟩:=r9.lst;exact ⟨a,ws,rfl,.inl h1.sq,λl hl=>post l ws H1 F1 st1 ok1 hl h2⟩
 . cases hd;obtain ⟨v,rfl,r9⟩:=b1 r;obtain ⟨a,ws,rfl,h1,h2⟩:=r9.tup;exact ⟨a,ws,rfl,.inr h1,λl hl=>post l ws H1 F1 st1 ok1 hl h2⟩
 . cases hd
def FW {a:E} {lo hi:Eo} {y:aG} {l h:Option aG} {pos p2:Pos} (pc:(!bZ a || (npO lo && npO hi)) = true) (ha:PE X y (tE X.K cx a)) (hl:PO X l (tO X.K cx lo)) (hh:PO X h (tO X.K cx hi)):PE X (.Subscript y (.Slice l h none p2) pos) (tN X.K cx (.sl a lo hi)):=by
 refine PE.imp (uU xR ha hl hh) λσ H Q h=>?_;obtain ⟨G,F,δ,ds,δ',ok,ev,post⟩:=h;simp only [evE,ae,ab] at ev;obtain ⟨⟨x,δ1⟩,ea,⟨l',δ2⟩,eb,⟨h',δ3⟩,ec,d',hd,e⟩:=ev;cases e;dsimp only at eb ec hd post;refine ⟨G,F,δ,x,δ1,ok,ea,λv H1 F1 st1 sm1 ok1 r1=>⟨G,F1,δ1,l',δ2,ok1,eb,λH2 F2 st2 sm2 ok2=>⟨G,F2,δ2,h',δ3,ok2,ec,λH3 F3 st3 sm3 ok3=>?_⟩⟩⟩;have st:=st2.trans st3
 have rb:dI X.K H3 F3 x v:=by
  refine (RelM.step ok1.fd st (λz=>?_) r1).b;rw [z] at pc;have pc':(npO lo && npO hi) = true:=by simpa using pc
  rw [aa] at pc';exact (sm2 pc'.1).trans (sm3 pc'.2)
 unfold slD at hd;split at hd
 . cases hd;obtain ⟨p,xs,e1,h1,h2⟩:=rb.lst;exact ⟨p,xs,e1,h1.sq,λq hq=>post q _ H3 F3 (st1.trans st) ok3 hq (h2.cut l' h')⟩
 . split at hd
   . cases hd
   . cases hd
 . split at hd
   . cases hd
   . cases hd
 . cases hd
end
section
variable {X:Cx} {c:Ck} {cx:Cl} {k:Nat}
def Cd {e:E} {y:aG} {pos:Pos} (n:(!bZ e) = true) (he:PE X y (tE X.K cx e)):PS X (.Return (some y) pos) (tS X.K (evS cx (.ret e))):=PS.imp (CG he) λE σ H zz=>by
 obtain ⟨G,F,δ,out,ok,ev,post⟩:=zz;simp only [evS,ae,ab] at ev;obtain ⟨⟨d,δ1⟩,e1,ev⟩:=ev;cases ev;exact ⟨G,F,δ,d,δ1,ok,e1,λv H1 F1 st sm ok1 r=>post v σ H1 F1 st ok1 (eY n r)⟩
def Ok.callO {K:PySem.W.Frag} {G:Gh} {F:aq->Prop} {σ:L2.St} {H H':Hp} {δ:Loc} {i:Nat} {a:aq} {d:D} {u:HO} (h:Ok K G F σ H δ) (s:Sim H H') (t:gY H') (hn:H a = none) (hs:H' a = some u) (r:gC K H' (λb=>F b\/b = a) d u) (hi:i < δ.length) :
 Ok K G (λb=>F b\/b = a) (σ.set i (some (.ref a))) H' (δ.set i (owS d))/\Step G F H (λb=>F b\/b = a) H':=by
 obtain ⟨ok,st⟩:=h.call s t;have st2:Step G F H (λb=>F b\/b = a) H':=⟨st.keep,λb z=>z.imp id λe=>by rw [e];exact hn,λb o r f e=>⟨.inl f,(st.res b o r f e).2⟩,st.tb⟩;have nF:=rq h.fd hn
 have ok2:Ok K G (λb=>F b\/b = a) σ H' δ:=by
  refine ⟨ok.same,λb z=>?_,λb z=>.inl (ok.rf b z),ok.rl,λt ht=>.inl (ok.tf t ht),t,ok.len,λj sl e=>?_,ok.apart⟩
  . rcases z with z | z
    . exact ok.fd b z
    . rw [z];exact ⟨u,hs,.inl r.mo.1⟩
  . have st3:Step g0 F H (λb=>F b\/b = a) H':=⟨st2.keep,st2.grow,λ_ _ r _ _=>r.elim,st2.tb⟩
    cases eq:ow sl with
    | true =>
      obtain ⟨b,v,e5,f1,f2,f3,f4,f5,f6⟩:=fb.ow (h.sl j sl e) eq;refine fb.stay0 h.fd st3 (λb' v' e' g1 g2 g3=>⟨.inl g1,?_⟩) (h.sl j sl e);rw [e'] at f1;cases f1;rw [g3] at f4;cases f4
      exact s.nt _ _ f5.mo.1.nt g3
    | false =>
      have q:=h.sl j sl e
      cases sl with
      | no=>trivial
      | fnc n cs =>
        obtain ⟨v,e,r⟩:=q
        exact ⟨v,e,r.keep (mK h.fd st.keep)⟩
      | val d =>
        obtain ⟨v,e,r⟩:=q
        exact ⟨v,e,Rel.step h.fd st2 d v r⟩
      | own _=>cases eq
 refine ⟨ok2.ownO hi (.inr rfl) (h.free hn) hs r λj s e ho z=>?_,st2⟩;obtain ⟨b,v,d',e1,_,_,e2,_⟩:=fb.ow (h.sl j _ e) ho;rw [z] at e1;cases e1;rw [hn] at e2;cases e2
def zZ (C:Cok X c cx k) {i:Nat} {es:Es} {x:Str} {p pos tp:Pos} {ys:List aG} {ct:Nat} (h:eO c i x = true) (n:gu es = true) (hA:PA X ys (tEs X.K cx es)):PS X (.Return (some (.Tuple (.Name x p::ys) ct tp)) pos) (tS X.K (evS cx (.rett i es))):=by
 obtain ⟨n1,n2,n3,n4⟩:=C.name h;refine PS.imp (CG (CM (jx (iX n1 n2 n3 n4) hA rfl))) λE σ H zz=>?_;obtain ⟨G,F,δ,out,ok,ev,post⟩:=zz;simp only [evS] at ev;split at ev
 . rename_i l0 e0;simp only [ae,ab] at ev;obtain ⟨⟨ds,δ1⟩,ea,ev⟩:=ev;dsimp only at ev;split at ev
   . rename_i l e;split at ev
     . rename_i hz;cases ev;obtain ⟨a0,_,e1,_⟩:=ok.sl i _ e0;refine ⟨.ref a0,e1,G,F,δ,ds,δ1,ok,ea,λvs H1 F1 st1 sm1 ok1 r1=>?_⟩;have r:=r1.rl n;obtain ⟨a,xs,e2,h1,h2,h3,h4⟩:=ok1.sl i _ e;rw [e1] at e2;cases e2;refine ⟨by rw [ay,r.length];exact hz,λp hp=>?_⟩;obtain ⟨o1,o2,_,o4⟩:=ok1.laid hp (.tup (.ref a0::vs));have ne:a0≠p:=λz=>by rw [z,hp] at h3;cases h3
       exact post a0 _ σ _ F1 (st1.trans o2) o1 h1 h2 (.tup (by rw [bI ne];exact h3) (aK.step (G:=G) ok1.fd o2 _ _ h4) (SqT.of bU) (aK.step (G:=G) ok1.fd o2 _ _ r))
     . cases ev
   . cases ev
 . cases ev
def Aa (C:Cok X c cx k) {i f:Nat} {js:List Nat} {es:Es} {us:List aG} {x:Str} {y:aG} {ys:List aG} {a:aq} {fd:eM} {ps:List Str} {p tp pos pos2:Pos} {ct:Nat} (h:Em c (i::js) us = true) (n:gu es = true) (fn:jJ X.prog X.w X.K X.mg X.base CX0 k a fd ps (spO X.K (cx.call (f+lF)))) (hg:Gl X x)
 (hm:X.mg x = some (.ref a)) (hk:PySem.W.keepIn X.K (.ref a) = true) (hb:Binds X.K fd ps []) (hA:PA X (y::ys) (tEs X.K cx es)) (hd:(x == ("__debug__":Str)) = false) (he:starEach (y::ys) X.env = (false,eval y X.env)::starEach ys X.env) (hpl:(backTo pos (starEach ys X.env)).any (·.1) = false) :
 PS X (.Assign [.Tuple us ct tp] (.Call (.Name x p) (y::ys) [] pos) pos2) (tS X.K (evS cx (.newt i js f es))):=by
 obtain ⟨q1,q2,q3⟩:=nC C (i::js) us h;refine PS.imp (wF (sF fn C.room hg hm hk hb .nil (yg) hA hd he hpl) (CL C.calm q1 q2 q3) rfl rfl rfl) λE σ H zz=>?_;obtain ⟨G,F,δ,o,ok,ev,post⟩:=zz;simp only [evS,ae,ab] at ev;obtain ⟨⟨ds,δ1⟩,ea,ev⟩:=ev;dsimp only at ev;split at ev
 . rename_i l zs hz;split at ev
   . rename_i hi;obtain ⟨δ2,e2,rfl⟩:=aQ.mp ev;refine ⟨G,F,δ,ds,δ1,ok,ea,λvs H1 F1 st1 sm1 ok1 r1=>?_⟩;dsimp only;rw [bA];refine ⟨F1,ds,_,ok1.fd,ok1.tf,ok1.tabs,r1.rl n,hz,λb u H2 s2 t2 hn hd=>?_⟩
     cases hd with
     | one _ r=>cases r
     | tup hs rl ht rz =>
       obtain ⟨o1,o2⟩:=ok1.callO (d:=.lst l) s2 t2 hn hs (.lst rl) hi;unfold dq at e2;dsimp only at e2;split at e2
       . rename_i hh;cases e2;exact ⟨_,_,rfl,.inl ht,by rw [ay,ay,rz.length,hh.1],_,_,rfl,mh _ _ _ _ _ o1 rz hh.1 hh.2 λσ' o3 _=>post _ _ _ (st1.trans o2) o3⟩
       . cases e2
   . cases ev
 . cases ev
def Cg {t:E} {a b:Ss} {y:aG} {ya yb:List dE} {pos:Pos} (ht:PT X y (tT X.K cx t)) (ha:PSs X ya (tS X.K (en cx a))) (hb:PSs X yb (tS X.K (en cx b))):PS X (.If y ya yb pos) (tS X.K (evS cx (.ifs t a b))):=PS.imp (LZ ht ha hb) λE σ H zz=>by
 obtain ⟨G,F,δ,out,ok,ev,post⟩:=zz;simp only [evS,ae,ab] at ev;obtain ⟨⟨q,δ1⟩,e1,ev⟩:=ev;refine ⟨G,F,δ,q,δ1,ok,e1,λH1 F1 st sm ok1=>?_⟩
 cases q with
 | true=>exact DH ⟨G,F1,δ1,out,ok1,ev,post.step st⟩
 | false=>exact Kv ⟨G,F1,δ1,out,ok1,ev,post.step st⟩
def Ci (C:Cok X c cx k) {tg:Tg} {src:It} {body:Ss} {t it:aG} {ys:List dE} {pos:Pos} (htg:oI c tg t = true) (hI:PI X t it (tI X.K cx src)) (hset:∀ v,foldedSetIterable it X.env v = pure v) (hb:PSs X ys (tS X.K (en cx body))):PS X (.For t it ys [] pos) (tS X.K (evS cx (.for_ tg src body))):=by
 have hp:PassesOwn (model X.prog X.w) X.A X.env X.xe:=by rw [C.xe];exact PassesOwn.never
 refine PS.imp (Jx hp C.calm hI (lB C htg) hb hset) λE σ H zz=>?_;obtain ⟨G,F,δ,out,ok,ev,post⟩:=zz;simp only [evS,ae,ab] at ev;obtain ⟨⟨ds,δ1⟩,e1,ev⟩:=ev;dsimp only at ev;generalize ef:(λ(x:D) (δ0:Loc)=>match dq δ0 tg x with | some δ2=>en cx body δ2 | none=>none) = f at ev;refine ⟨G,F,δ,ds,δ1,ok,e1,λJ H1 F1 st sm ok1 wk=>?_⟩;refine ⟨λi m σ' H'=>∃ F' δ',m = ds.length - i/\i<=ds.length/\Step G F1 H1 F' H'/\Ok X.K G F' σ' H' δ'/\forL f (ds.drop i) δ' = some out,⟨_,F1,δ1,rfl,bP _,Step.refl,ok1,ev⟩,?_⟩;rintro i m σ' H' ⟨F',δ',rfl,hi,st',ok',ev'⟩;by_cases hlt:i < ds.length
 . right;obtain ⟨d,hd⟩:∃ d,ds[i]? = some d:=⟨ds[i],by simp [hlt]⟩;obtain ⟨go,yl⟩:=(wk _ F' H' st' ok'.fd i).1 d hd;refine ⟨go,?_⟩
   have edr:ds.drop i = d::ds.drop (i+1):=by
    rw [cV hlt];congr 1;rw [aE hlt] at hd;exact bR hd
   rw [edr] at ev';unfold forL at ev';refine ⟨λσ2 H2=>∃ m',m' < ds.length - i/\∃ F2 δ2,m' = ds.length - (i+1)/\i+1<=ds.length/\Step G F1 H1 F2 H2/\Ok X.K G F2 σ2 H2 δ2/\forL f (ds.drop (i+1)) δ2 = some out,λσ2 H2 z=>z,λx H3 hy=>?_⟩;obtain ⟨sm,rx⟩:=yl x H3 hy;replace ok':=ok'.same' sm;replace st':=st'.trans (Step.of_same sm)
   cases hf:f d δ' with
   | none=>rw [hf] at ev';cases ev'
   | some o1 =>
     have hf':=hf;rw [<- ef] at hf';dsimp only at hf'
     cases hs:dq δ' tg d with
     | none=>rw [hs] at hf';cases hf'
     | some δ2 =>
       rw [hs] at hf';refine mf ok' rx hs λσ2 ok2 _=>⟨G,F',δ2,o1,ok2,hf',?_⟩;rw [hf] at ev'
       cases o1 with
       | nx δ3=>exact λσ3 H4 F4 s4 k4=>⟨_,by omega,F4,δ3,rfl,hlt,st'.trans s4,k4,ev'⟩
       | rt d3 δ3 =>
         cases ev'
         exact λv σ3 H4 F4 s4 k4 r4=>post v σ3 H4 F4 ((st.trans st').trans s4) k4 r4
       | ro d3 δ3 =>
         cases ev';exact λa xs σ3 H4 F4 s4 k4=>post a xs σ3 H4 F4 ((st.trans st').trans s4) k4
 . left;have hi':i = ds.length:=by omega
   subst hi';refine ⟨(wk _ F' H' st' ok'.fd ds.length).2 rfl,?_⟩;rw [Fc] at ev';cases ev';exact post σ' H' F' (st.trans st') ok'
end
section
variable {X:Cx} {c:Ck} {cx:Cl} {k:Nat}
def MI (h:ckE c e z = true):((backTo cp (starEach [z] env)).all (λx=>!x.1) && (backToKw cp (keywordEach [] env)).all (λx=>x.1.isSome)
 && decide (([z]:List aG).length+([]:List jk).length+(if ([]:List jk).isEmpty then 0 else 1) < 30)) = true:=by
 rw [cG (cw h)];rfl
def uO (C:Cok X c cx k) (hx:eO c i x = true) (hl:ap.endLine = cp.line) (hz:ckE c e z = true) (n:(!bZ e) = true) (he:PE X z (tE X.K cx e)) :
 PS X (.Expr (.Call (.Attribute (.Name x p1) "append" ap) [z] [] cp) p2) (tS X.K (evS cx (.append i e))):=by
 obtain ⟨n1,n2,n3,n4⟩:=C.name hx;have hs:=cG (cw hz) [] X.env;have hA:PA X [z] (tEs X.K cx (.cons e .nil)):=pK (by simp [npS]) he si hs;refine PS.imp (ye (HL PySem.F.plainAttrs_list PySem.F.slot_list_append PySem.F.type_list_append rE (iX n1 n2 n3 n4) hA rfl (MI hz) (by simpa using hl) hs rfl)) λE σ H zz=>?_;obtain ⟨G,F,δ,out,ok,ev,post⟩:=zz;simp only [evS] at ev
 cases q:δ[i]? with
 | none=>rw [q] at ev;cases ev
 | some s =>
   rw [q] at ev
   cases s with
   | no=>cases ev
   | fnc _ _=>cases ev
   | val _=>cases ev
   | own ds0 =>
     simp only [ae,ab] at ev;obtain ⟨⟨d,δ1⟩,e1,ev⟩:=ev;dsimp only at ev;obtain ⟨a,xs0,ea,f1,f2,f3,f4⟩:=ok.sl i _ q
     cases q1:δ1[i]? with
     | none=>rw [q1] at ev;cases ev
     | some s1 =>
       rw [q1] at ev
       cases s1 with
       | no=>cases ev
       | fnc _ _=>cases ev
       | val _=>cases ev
       | own ds =>
         dsimp only at ev;split at ev
         . rename_i hz';cases ev;refine ⟨.ref a,ea,.inl ⟨rfl,xs0,.inl (.inl f3)⟩,G,F,δ,[d],δ1,ok,by simp [dU,e1],λvs H1 F1 st sm ok1 r=>?_⟩;obtain ⟨d',ds',v,vs',ed,rfl,rv,rn⟩:=r;cases ed;obtain ⟨_,rfl⟩:=rn;have rv':=eY n rv;obtain ⟨a',xs,ea',g1,g2,g3,g4⟩:=ok1.sl i _ q1;rw [ea] at ea';cases ea';obtain ⟨o1,o2⟩:=ok1.write q1 ea (g4.append (aK.one rv'));exact ⟨a,xs,v,rfl,rfl,g3,by rw [g4.length];exact hz',post σ _ F1 (st.trans o2) o1⟩
         . cases ev
def LW (X:Cx):V->List V->Hp->VK->Prop:=λx vs H Q=>∃ l b xs zs,x = .ref l/\vs = [.ref b]/\H l = some (.lst xs)/\LsB X.K H b zs/\xs.length+zs.length<=sizeLine/\Q .non (upd H l (.lst (xs++zs)))
def GR:MtM X "list.extend" (LW X):=by
 intro pins s σ H x vs v us Q I rx rv h;obtain ⟨l,b,xs,zs,rfl,rfl,hH,hB,hz,q⟩:=h;cases rx;obtain ⟨u,rfl,ru⟩:=rv.one;cases ru;obtain ⟨z,its,n,r,hl,e⟩:=I.lstM hH;obtain ⟨its2,n2,r2,e2,z2⟩:=hB.obj I;have hl2:=r2.length;have s1:its.toArray.size = xs.length:=by rw [aI];lia
 have s2:its2.toArray.size = zs.length:=by rw [aI];lia
 refine call_meets F.slot_list_extend ⟨_,e,rfl⟩ F.entry_list_extend (F.args_list_extend_2 _ _) (AutoSeq1.list_extend_list_list_0 l its.toArray n b its2.toArray n2 ?_ (by rw [s1];lia) ∅) ⟨e,e2,?_⟩
 . rw [s1,s2,Dl hz,Bool.and_false];exact au
 . refine ⟨.non,_,I.lset (its':=its++its2) hH e ↥0 (r.append r2) (by rw [ah];lia),rfl,q⟩
def uM (C:Cok X c cx k) (hx:eO c i x = true) (hl:ap.endLine = cp.line) (hz:ckE c e z = true) (n:(!bZ e) = true) (he:PE X z (tE X.K cx e)) :
 PS X (.Expr (.Call (.Attribute (.Name x p1) "extend" ap) [z] [] cp) p2) (tS X.K (evS cx (.extend i e))):=by
 obtain ⟨n1,n2,n3,n4⟩:=C.name hx;have hs:=cG (cw hz) [] X.env;have hA:PA X [z] (tEs X.K cx (.cons e .nil)):=pK (by simp [npS]) he si hs;refine PS.imp (ye (HL PySem.F.plainAttrs_list PySem.F.slot_list_extend PySem.F.type_list_extend GR (iX n1 n2 n3 n4) hA rfl (MI hz) (by simpa using hl) hs rfl)) λE σ H zz=>?_;obtain ⟨G,F,δ,out,ok,ev,post⟩:=zz;simp only [evS] at ev
 cases q:δ[i]? with
 | none=>rw [q] at ev;cases ev
 | some s =>
   rw [q] at ev
   cases s with
   | no=>cases ev
   | fnc _ _=>cases ev
   | val _=>cases ev
   | own ds0 =>
     simp only [ae,ab] at ev;obtain ⟨⟨d,δ1⟩,e1,ev⟩:=ev;obtain ⟨a,xs0,ea,f1,f2,f3,f4⟩:=ok.sl i _ q
     cases d with
     | lst ys =>
       dsimp only at ev
       cases q1:δ1[i]? with
       | none=>rw [q1] at ev;cases ev
       | some s1 =>
         rw [q1] at ev
         cases s1 with
         | no=>cases ev
         | fnc _ _=>cases ev
         | val _=>cases ev
         | own ds =>
           dsimp only at ev;split at ev
           . rename_i hz';cases ev;refine ⟨.ref a,ea,.inl ⟨rfl,xs0,.inl (.inl f3)⟩,G,F,δ,[.lst ys],δ1,ok,by simp [dU,e1],λvs H1 F1 st sm ok1 r=>?_⟩;obtain ⟨d',ds',v,vs',ed,rfl,rv,rn⟩:=r;cases ed;obtain ⟨_,rfl⟩:=rn;have rv':=eY n rv;unfold Rel at rv';obtain ⟨b,zs,rfl,rb,rl⟩:=rv';obtain ⟨a',xs,ea',g1,g2,g3,g4⟩:=ok1.sl i _ q1;rw [ea] at ea';cases ea';obtain ⟨o1,o2⟩:=ok1.write q1 ea (g4.append rl);exact ⟨a,b,xs,zs,rfl,rfl,g3,rb.b,by rw [g4.length,rl.length];exact hz',post σ _ F1 (st.trans o2) o1⟩
           . cases ev
     | _=>cases ev
def wx (C:Cok X c cx k) (hx:eO c i x = true) (hy:ckE c e y = true) (n:(!bZ e) = true) (nc:(!km y) = true) (hz:ckE c j z = true) (nj:(!bZ j) = true) (he:PE X y (tE X.K cx e)) (hj:PE X z (tE X.K cx j)) :
 PS X (.Assign [.Subscript (.Name x p1) z p2] y pos) (tS X.K (evS cx (.setix i j e))):=by
 obtain ⟨n1,n2,n3,n4⟩:=C.name hx;have nc':km y = false:=by simpa using nc
 have hh:=cw hz;have hh2:=cw hy
 have ha:∀ v,assign (.Subscript (.Name x p1) z p2) X.env v = (do
  let ov <- holding [v] (eval (.Name x p1) X.env)
  let iv <- holding [v,ov] (eval z X.env)
  standAt p2
  holding [v,ov,iv] (setItem ov iv v)
  release [v,ov,iv] []):=by
  intro v;cases z<;>first | rfl | (exact absurd hh au)
 have hsw:swapsWithSole [.Subscript (.Name x p1) z p2] y pos.line X.env = pure false:=by
  cases y<;>first | rfl | (exact absurd hh2 au) | (exact absurd nc'.symm au)
 have hw:swappedStores [.Subscript (.Name x p1) z p2] y X.env = pure none:=by
  cases y<;>first | rfl | (exact absurd hh2 au)
 refine PS.imp (wF he (JC (iX n1 n2 n3 n4) hj set_list ha) hsw hw rfl) λE σ H zz=>?_;obtain ⟨G,F,δ,out,ok,ev,post⟩:=zz;simp only [evS,ae,ab] at ev;obtain ⟨⟨d,δ1⟩,e1,ev⟩:=ev;dsimp only at ev;refine ⟨G,F,δ,d,δ1,ok,e1,λv H1 F1 st1 sm1 ok1 r1=>?_⟩
 cases q1:δ1[i]? with
 | none=>rw [q1] at ev;cases ev
 | some s1 =>
   rw [q1] at ev
   cases s1 with
   | no=>cases ev
   | fnc _ _=>cases ev
   | val _=>cases ev
   | own ds0 =>
     obtain ⟨a,xs0,ea,f1,f2,f3,f4⟩:=ok1.sl i _ q1;simp only [ab] at ev;obtain ⟨⟨dj,δ2⟩,e2,ev⟩:=ev;refine ⟨.ref a,ea,G,F1,δ1,dj,δ2,ok1,e2,λw H2 F2 st2 sm2 ok2 r2=>?_⟩
     cases dj with
     | int m =>
       have:=r2.b.int;subst this;dsimp only at ev
       cases q2:δ2[i]? with
       | none=>rw [q2] at ev;cases ev
       | some s2 =>
         rw [q2] at ev
         cases s2 with
         | no=>cases ev
         | fnc _ _=>cases ev
         | val _=>cases ev
         | own ds =>
           dsimp only at ev;obtain ⟨a',xs,ea',g1,g2,g3,g4⟩:=ok2.sl i _ q2;rw [ea] at ea';cases ea'
           cases q3:ixN ds.length m with
           | none=>rw [q3] at ev;cases ev
           | some mm =>
             rw [q3] at ev;cases ev;have rv:=Rel.step ok1.fd st2 d v (eY n r1);obtain ⟨o1,o2⟩:=ok2.write q2 ea (aK.set rv mm g4)
             exact ⟨a,xs,m,mm,rfl,rfl,g3,by rw [g4.length];exact q3,post σ _ F2 ((st1.trans st2).trans o2) o1⟩
     | _=>cases ev
def Cm:PS X x (tS X.K (evS cx .bad)):=λpins s σ H D I h=>by
 obtain ⟨G,F,δ,out,ok,ev,post⟩:=h;have ev:none = some out:=ev;cases ev
def Nt (hm:newOk e = true) (C:Cok X c cx k) (h:ckE c e y = true):PE X y (tN X.K cx e):=by
 unfold newOk at hm;split at hm
 . obtain ⟨_,_,rfl,hh⟩:=pV h;rw [aa] at hh;exact Cn hh.2 (fE _ X c _ C hh.1 (fU hh.2))
 . rename_i es;obtain ⟨_,_,xs,_,rfl,hh⟩:=gq h;simp only [aa] at hh;obtain ⟨⟨h1,h2⟩,h3⟩:=hh;have e1:=of_decide_eq_true h1;subst e1;have h3:(!xs.isEmpty && gh c es xs && nG es) = true:=h3;simp only [aa] at h3
   cases xs with
   | nil=>simp at h3
   | cons y ys=>exact Ac C h2 (fE _ X c _ C h3.1.2 h3.2) h3.1.2
 . obtain ⟨_,_,_,rfl,hh⟩:=ke h;obtain ⟨_,_,o,_,rfl,h9⟩:=yj hh;simp only [aa] at h9;obtain ⟨h0,⟨⟨h1,h2⟩,h3⟩,h4⟩:=h9;obtain rfl:=fM.mp h0;exact FW (by simpa using h4) (dM _ X c _ C h1) (FV _ X c _ C h2) (FV _ X c _ C h3)
 . cases hm
end
section
variable {X:Cx} {c:Ck} {cx:Cl} {k:Nat}
def Ab (C:Cok X c cx k) (hS:X.env.scope = c.sc) (hB:X.env.blockKind = .function) (ho:(!own) = true)
 (hn:jy c i t = true) (h:ckE c (.comp kk tg src ifs elt) (.ListComp ex gs sc p) = true) (hl:c.sc.names.lookup t = some .cell) (he:PE X (.ListComp ex gs sc p) (tE X.K cx (.comp kk tg src ifs elt))) :
 PS X (.Assign [.Name t tp] (.ListComp ex gs sc p) sp) (tS X.K (evS cx (.cmp own i (.comp kk tg src ifs elt)))):=by
 have hs:swapsWithSole [.Name t tp] (.ListComp ex gs sc p) sp.line X.env = pure false:=by
  have e1:X.env.kindOf t = some .cell:=by
   show X.env.scope.names.lookup t = some .cell;rw [hS];exact hl
  show (pure (X.env.blockKind == .function && X.env.kindOf t == some .local && tp.line == p.line && !(sc.names.any λ(n,k)=>n == t && (k == .local || k == .cell))):Sem Bool) = pure false;rw [hB,e1];congr 1
 have ht:oI c (.nm i) (.Name t tp) = true:=by
  unfold oI eN;exact Bool.and_eq_true_iff.mpr ⟨rfl,hn⟩
 refine PS.imp (uN (tg:=.nm i) C (.inl rfl) ht h rfl hs he) λD σ H hq=>?_;obtain ⟨G,F,δ,o,ok,ev,post⟩:=hq;refine ⟨G,F,δ,o,ok,?_,post⟩;obtain rfl:own = false:=by simpa using ho
 simp only [evS,ae,ab] at ev |-;obtain ⟨⟨d,δ1⟩,e1,ev⟩:=ev
 cases d with
 | lst ds =>
   dsimp only at ev;split at ev
   . rename_i hi;cases ev;refine ⟨_,e1,_,?_,rfl⟩;exact if_pos hi
   . cases ev
 | _=>cases ev
def Cj (C:Cok X c cx k) (hS:X.env.scope = c.sc) (hB:X.env.blockKind = .function)
 (hn:jy c i t = true) (h:ckE c (.comp kk tg src ifs elt) (.ListComp ex gs sc p) = true) (hl:c.sc.names.lookup t = some .local) (hp:tp.line = p.line) (hz:(!(sc.names.any λ(n,k)=>n == t && (k == .local || k == .cell))) = true) :
 PS X (.Assign [.Name t tp] (.ListComp ex gs sc p) sp) (tS X.K (evS cx (.cmp own i (.comp kk tg src ifs elt)))):=by
 obtain ⟨n1,n2,n3⟩:=C.to hn;obtain ⟨_,_,_,_,e,hh⟩:=kF h;cases e;obtain ⟨_,rfl,h9⟩:=fK hh;obtain ⟨tgt,it,il,rfl,h10⟩:=pW h9;replace h:=h10
 . split at h
   . rename_i ts ht;simp only [aa] at h;obtain ⟨⟨⟨⟨⟨⟨⟨⟨h1,h2⟩,h3⟩,h4⟩,h5⟩,h6⟩,h7⟩,h8⟩,h9⟩:=h;obtain ⟨nd,hvis⟩:=je h4;have hk:=jZ (tg:=tg) (c:=c) (of_decide_eq_true h1)
     have hsw:swapsWith (.ListComp ex [⟨tgt,it,il,0⟩] sc p) (some (.Name t tp)) sp.line X.env = pure true:=by
      have e1:X.env.kindOf t = some .local:=by
       show X.env.scope.names.lookup t = some .local;rw [hS];exact hl
      show (pure (X.env.blockKind == .function && X.env.kindOf t == some .local && tp.line == p.line && !(sc.names.any λ(n,k)=>n == t && (k == .local || k == .cell))):Sem Bool) = pure true;rw [hB,e1,hp,hz];congr 1;simp
     intro pins s σ H E I hq
     refine CI (Nc:=iK ts c.N++ts) (te:=tE X.K cx elt) (tt:=tG X.K cx ifs) (g:=gTg X.K tg) C.xe C.calm (mj C h3) (λi x hi=>by rw [C.hN] at hi |-;exact hvis i x hi) (by rw [C.hN,hk];lia) (Ad src X c _ _ C h6)
      (λcl Ca s H fp=>lB (gJ C h3 nd cl Ca s H fp) h5) (λcl Ca s H fp=>LK ifs _ _ _ (gJ C h3 nd cl Ca s H fp) h7) (λcl Ca s H fp=>dM elt _ _ _ (gJ C h3 nd cl Ca s H fp) h8) (λv=>kL h6 _ v)
      C.nd' n1 n2 n3 hsw pins s σ H E I ?_
     obtain ⟨G,F,δ,o,ok,ev,post⟩:=hq;simp only [evS,ae,ab] at ev;obtain ⟨⟨d,δ1⟩,e1,ev⟩:=ev
     cases d with
     | lst ds =>
       dsimp only at ev;split at ev
       . rename_i hi;cases ev;refine vB C I h9 hk h2 ok e1 λp ys xs H1 F1 H2 F2 e st1 st2 hp hg ok2 eD rl sm=>?_;cases e;show E.nx (σ.set i (some (.ref p))) H2
         cases own with
         | true =>
           refine post _ H2 F2 (st1.trans st2) ((ok2.keep).own hi (ok2.rf p (.inr rfl)) hg eD rl λj s ej ho z=>?_);obtain ⟨a,u,d,e2,_,g2,_⟩:=fb.ow (ok2.sl j _ ej) ho;rw [z] at e2;cases e2
           exact g2.2 (.inr rfl)
         | false =>
           have st':Step G F1 H1 (λb=>F2 b/\b≠p) H2:=⟨st2.keep,λb z=>st2.grow b z.1,λb o r f e=>by
            obtain ⟨a1,a2⟩:=st2.res b o r f e;exact ⟨⟨a1,λw=>by rw [w,hp] at e;cases e⟩,a2⟩,st2.tb⟩
           refine post _ H2 _ (st1.trans st') ((ok2.leave hg).set hi ?_);unfold Rel;exact ⟨p,xs,rfl,.inl ⟨.inl eD,λz=>z.2 rfl⟩,aK.less ok2.fd (λb z=>z.1) rl⟩
       . cases ev
     | _=>cases ev
   . cases h
end
section
variable {X:Cx} {c:Ck} {cx:Cl} {k:Nat} (C:Cok X c cx k) (hS:X.env.scope = c.sc) (hB:X.env.blockKind = .function)
include C hS hB
mutual
theorem Nr:∀ (s:S) (x:dE),ckS c s x = true->PS X x (tS X.K (evS cx s))
 | .asg tg e,x,h=>by
   obtain ⟨_,_,_,rfl,hq1⟩:=kf h;obtain ⟨_,rfl,hq2⟩:=fK hq1;replace h:=hq2
   . simp only [aa] at h;obtain ⟨⟨⟨⟨h1,h2⟩,h3⟩,h4⟩,h5⟩:=h;rw [cE,cE] at h5;rcases h5 with h5 | h5
     . exact uN C (h5.imp id (zO hS)) h1 h2 h3 (qk (cw h2) (by simpa using h4) _ _ _) (dM e X c _ C h2)
     . unfold HM at h5;split at h5
       . exact Ce C hS hB h5 λa b q n=>fE _ X c _ C q (fU n)
       . cases h5
 | .new i e,x,h=>by
   obtain ⟨_,_,_,rfl,hq1⟩:=kf h;obtain ⟨_,rfl,hq2⟩:=fK hq1;obtain ⟨_,_,rfl,hq3⟩:=cA hq2;replace h:=hq3
   . simp only [aa] at h;obtain ⟨⟨⟨h1,h2⟩,h3⟩,h4⟩:=h
     exact Cf C h1 h2 h3 (Nt h4 C h2)
 | .cmp own i e,x,h=>by
   have h:(DL e && _) = true:=h;rw [aa] at h;obtain ⟨h0,h⟩:=h;cases e<;>first | (cases h0;done) | skip
   obtain ⟨_,_,_,rfl,hh⟩:=kf h;obtain ⟨_,rfl,h2⟩:=fK hh;obtain ⟨_,_,rfl,h3⟩:=mw h2;obtain ⟨_,_,_,_,rfl,h4⟩:=kF h3;simp only [aa] at h4;obtain ⟨⟨a1,a2⟩,a3⟩:=h4;rcases AN.mp a3 with a3 | a3
   . simp only [aa] at a3;exact Cj C hS hB a1 a2 (of_decide_eq_true a3.1.1) (of_decide_eq_true a3.1.2) a3.2
   . rw [aa] at a3
     exact Ab C hS hB a3.1 a1 a2 (of_decide_eq_true a3.2) (dM _ X c _ C a2)
 | .ret e,x,h=>by
   obtain ⟨_,_,rfl,hq1⟩:=uW h;obtain ⟨_,rfl,hq2⟩:=wL hq1;replace h:=hq2
   . rw [aa] at h
     exact Cd h.2 (dM e X c _ C h.1)
 | .retL _ _ _ _,x,h=>by
   cases h
 | .rett i es,x,h=>by
   obtain ⟨_,_,rfl,hq1⟩:=uW h;obtain ⟨_,rfl,hq2⟩:=wL hq1;obtain ⟨_,_,_,rfl,hq3⟩:=fR hq2;obtain ⟨_,_,rfl,hq4⟩:=dT hq3;obtain ⟨_,_,rfl,hq5⟩:=cA hq4;simp only [aa] at hq5;obtain ⟨⟨h1,h2⟩,h3⟩:=hq5
   exact zZ C h1 h3 (fE es X c _ C h2 (fU h3))
 | .newt i js f es,x,h=>by
   obtain ⟨_,_,_,rfl,hq1⟩:=kf h;obtain ⟨_,rfl,hq2⟩:=fK hq1;obtain ⟨_,_,_,rfl,hq3⟩:=fR hq2;rw [aa] at hq3;obtain ⟨h0,hq3⟩:=hq3;obtain ⟨_,_,_,_,rfl,hq4⟩:=gq hq3;replace h:=hq4
   . split at h
     . rename_i m ps hf;simp only [aa] at h;obtain ⟨⟨⟨⟨⟨h1,h2⟩,h3⟩,h4⟩,h5⟩,h6⟩:=h;have e:=of_decide_eq_true h1;subst e;obtain ⟨a,fd,hm,hk,hb,fn⟩:=C.fnO f _ _ hf;obtain ⟨g1,g2,g3⟩:=C.global h2;rename_i xs _ _
       cases xs with
       | nil=>simp at h6
       | cons y ys =>
         obtain ⟨_,_,_,c1,c2⟩:=eJ h4;exact Aa C h0 h5 fn g1 hm hk hb (fE es X c _ C h4 (fU h5)) g2 (cG (cw c1) _ _) (iy c2)
     . cases h
 | .ifs t a b,x,h=>by
   obtain ⟨_,_,_,_,rfl,hq1⟩:=CY h;replace h:=hq1
   . simp only [aa] at h
     exact Cg (oG t X c _ C h.1.1) (uK a _ h.1.2) (uK b _ h.2)
 | .for_ tg src body,x,h=>by
   obtain ⟨_,_,_,_,_,rfl,hq1⟩:=Dc h;obtain ⟨rfl,hq2⟩:=fu hq1;replace h:=hq2
   . simp only [aa] at h
     exact Ci C h.1.1 (Ad src X c _ _ C h.1.2) (λv=>kL h.1.2 _ v) (uK body _ h.2)
 | .append i e,x,h=>by
   obtain ⟨_,_,rfl,hh⟩:=yo h;obtain ⟨_,_,_,_,_,rfl,hln,h2⟩:=sI hh;obtain ⟨_,_,rfl,h3⟩:=cA h2;obtain ⟨_,rfl,h4⟩:=fK h3;simp only [aa] at h4;obtain ⟨⟨⟨a1,a2⟩,a3⟩,a4⟩:=h4;have z:=of_decide_eq_true a1;subst z
   exact uO C a2 hln a3 a4 (dM e X c _ C a3)
 | .extend i e,x,h=>by
   obtain ⟨_,_,rfl,hh⟩:=yo h;obtain ⟨_,_,_,_,_,rfl,hln,h2⟩:=sI hh;obtain ⟨_,_,rfl,h3⟩:=cA h2;obtain ⟨_,rfl,h4⟩:=fK h3;simp only [aa] at h4;obtain ⟨⟨⟨a1,a2⟩,a3⟩,a4⟩:=h4;have z:=of_decide_eq_true a1;subst z
   exact uM C a2 hln a3 a4 (dM e X c _ C a3)
 | .setix i j e,x,h=>by
   obtain ⟨_,_,_,rfl,hq1⟩:=kf h;obtain ⟨_,rfl,hq2⟩:=fK hq1;obtain ⟨_,_,_,rfl,hq3⟩:=ke hq2;obtain ⟨_,_,rfl,hq4⟩:=cA hq3;replace h:=hq4
   . simp only [aa] at h;obtain ⟨⟨⟨⟨⟨h1,h2⟩,h3⟩,h4⟩,h5⟩,h6⟩:=h
     exact wx C h1 h2 h3 h4 h5 h6 (dM e X c _ C h2) (dM j X c _ C h5)
 | .bad,x,h=>Cm
theorem uK:∀ (ss:Ss) (xs:List dE),xp c ss xs = true->PSs X xs (tS X.K (en cx ss))
 | .nil,xs,h=>by
   obtain ⟨rfl,hq1⟩:=fu h;replace h:=hq1
   . exact uL
 | .cons s ss,xs,h=>by
   obtain ⟨_,_,rfl,hq1⟩:=dT h;replace h:=hq1
   . rw [aa] at h;exact qY (Nr s _ h.1) (uK ss _ h.2)
end
end
structure Mk (X:Cx) (P:aq) (q:Str):Prop where
 cd:∃ c,X.env.code = .ref c/\PySem.W.CodeHd X.base c P
 ql:X.env.qual++"<lambda>" = q
 tb:(P,q)∈Tbs.ts
 un:∀ t∈Tbs.ts,t.1 = P->t.2 = q
 bm:∃ bm ob,X.mg "__builtins__" = some (.ref bm)/\bm≠builtinsNs/\X.base.get? bm = some ob/\ob.cls = .type "module"/\ob.dict = some builtinsNs/\ob.data = .plain
def xu (l:List af) (h:TriplesOk l) (e:codeAmong p (l++[rawInt a,rawInt b,c]) = some v):codeAmong p l = some v\/v = c:=by
 fun_induction TriplesOk l with
 | case1 =>
   simp only [iu,codeAmong,rawInt] at e;split at e
   . cases e;exact .inr rfl
   . cases e
 | case2 a' t b' u x rest ih =>
   simp only [jR,codeAmong] at e |-;split at e
   . rename_i hc;rw [if_pos hc];exact .inl e
   . rename_i hc;rw [if_neg hc];exact ih h e
 | case3 l h1 h2=>exact h.elim
def DR (g:h.get? a = some o):fF P w H h a (fzO a o):=⟨g,g,⟨o,g⟩,λh1 h2 e1 k=>k _ e1⟩
section
variable {X:Cx} {cx:Cl} {k:Nat}
def Mv (I:Inv X pins σ H s) (M:Mk X P q) (tabs:gY H) (hcl:closureFor scope X.env = pure clos) (hdef:defaultsOf params X.env = ([],[]))
 (h:∀ (f c':aq) (oc:Obj) (vs:Array af) (tk:Tok) (pm ctv:af) (H':Hp),Sim H H'->gY H'->Fz H' f (PySem.W.kla_obj "<lambda>" q params body scope clos pm c' ctv)->Fz H' c' oc->oc.data = .fields vs->vs[1]? = some (.str q tk)->Q (.ref f) H') :
 wpAny (model X.prog X.w) X.A (eval (.Lambda params body scope pos) X.env) (EP X pins σ Q) X.xe s:=by
 refine PySem.W.kla_eval hdef ?_;rw [M.ql];obtain ⟨ps,hP,tr,am⟩:=tabs _ M.tb;dsimp only at hP am;obtain ⟨c,hcode,CH⟩:=M.cd;obtain ⟨bm,ob,b1,b2,b3,b4,b5,b6⟩:=M.bm;have hg:s.heap.Ns mainGlobals X.mg:=I.mod.glob.keeps I.bk;have hPh:s.heap.get? P = some (PySem.W.tabObj ps):=I.hok P _ hP
 have hgP:mainGlobals≠P:=λz=>by
  obtain ⟨o,es,ep,e,hd,_⟩:=hg;rw [z,hPh] at e;cases e;cases hd
 have hbP:bm≠P:=λz=>by
  have:=(I.bs _ _ b3).2;rw [z,hP] at this;cases this
 have hbG:bm≠mainGlobals:=λz=>by
  obtain ⟨o,es,ep,e,hd,_⟩:=hg;have:=I.bk _ _ b3;rw [z,e] at this;cases this;rw [hd] at b6;cases b6
 have BA:s.heap.BuiltinsAt X.mg P:=⟨bm,ob,b1,b2,hbG,hbP,I.bk _ _ b3,b4,b5,b6⟩
 cases ca:codeAmong pos ps.toList with
 | some cv =>
   refine PySem.W.kla_makeFunctionHit (mg:=X.mg) hcl I.ok.glob hg hcode (CH.keeps I.bk) hPh tr ca BA λctv h' tk hk hsz=>?_;obtain ⟨c',oc,vs,t,rfl,fc,hd,hv⟩:=am pos cv ca;have hn:H h'.objs.size = none:=I.hok.fresh hsz;have sm:=cF hn (fzO h'.objs.size (PySem.W.kla_obj "<lambda>" q params body scope clos ((X.mg "__name__").getD .none) c' ctv));refine ⟨.ref h'.objs.size,_,I.laid (t':=tk) (λb u e=>ao _ (hk b u e)) hsz (DR (bE _ rfl)),rfl,?_⟩
   exact h _ c' oc vs t _ ctv _ (.of sm) (tabs.keep λb o _ e=>sm b o e) bU (sm _ _ fc) hd hv
 | none =>
   refine PySem.W.kla_makeFunction (mg:=X.mg) hcl I.ok.glob hg hcode (CH.keeps I.bk) hPh tr ca hgP BA λc' ctv h' tk hx hge hlt hrec htb=>?_;obtain ⟨c₂,oc,vs,t,e2,hoc,hd,hv⟩:=hrec;cases e2;generalize ho:PySem.W.kla_obj "<lambda>" q params body scope clos ((X.mg "__name__").getD .none) c' ctv = fo at *;have hfl:s.heap.objs.size<=h'.objs.size:=kz (dN hge hlt);have nc:H c' = none:=I.hok.fresh hge;have nf:H h'.objs.size = none:=I.hok.fresh hfl;have cP:c'≠P:=λz=>by rw [z,hP] at nc;cases nc
   have fP:h'.objs.size≠P:=λz=>by rw [z,hP] at nf;cases nf
   have cf:c'≠h'.objs.size:=bH hlt
   let H1:=upd H P (.tbl (ps ++ #[rawInt pos.line,rawInt pos.col,.ref c']))
   let H2:=upd H1 c' (fzO c' oc)
   let H3:=upd H2 h'.objs.size (fzO h'.objs.size fo)
   have at3:∀ b,b≠P->b≠c'->b≠h'.objs.size->H3 b = H b:=λb x y z=>by
    show upd H2 _ _ b = _;rw [bI z];show upd H1 _ _ b = _;rw [bI y];show upd H _ _ b = _;rw [bI x]
   have atf:H3 h'.objs.size = some (fzO h'.objs.size fo):=bU
   have atc:H3 c' = some (fzO c' oc):=by
    show upd H2 _ _ c' = _;rw [bI cf];exact bU
   have atP:H3 P = some (.tbl (ps ++ #[rawInt pos.line,rawInt pos.col,.ref c'])):=by
    show upd H2 _ _ P = _;rw [bI (Ne.symm fP)];show upd H1 _ _ P = _;rw [bI (Ne.symm cP)];exact bU
   have atO:∀ b o,b≠P->H b = some o->H3 b = some o:=λb o n e=>by
    rw [at3 b n (λz=>by rw [z,nc] at e;cases e) (λz=>by rw [z,nf] at e;cases e)];exact e
   have nt3:∀ b o,(∀ qs,o≠.tbl qs)->H b = some o->H3 b = some o:=λb o n e=>atO b o (λz=>by rw [z,hP] at e;cases e;exact n _ rfl) e;have kh:∀ b o,b≠P->s.heap.get? b = some o->(h'.push fo).get? b = some o:=λb o n e=>ao _ (hx b o n e);have gP:(h'.push fo).get? P = some (PySem.W.tabObj (ps ++ #[rawInt pos.line,rawInt pos.col,.ref c'])):=ao _ htb
   have hok3:HOk X.prog X.w H3 (h'.push fo):=λb u e=>by
    by_cases hf:b = h'.objs.size
    . subst hf;rw [atf] at e;cases e;exact DR (bE _ (by rw [<- ho];rfl))
    . by_cases hc:b = c'
      . subst hc;rw [atc] at e;cases e;exact DR (ao _ hoc)
      . by_cases hp:b = P
        . subst hp;rw [atP] at e;cases e;exact gP
        . rw [at3 b hp hc hf] at e;refine (I.hok b u e).stay (λb' u' z g=>kh b' u' ?_ g) (λb' z=>nt3 b' _ (λqs w=>by cases w) z) λb' xs z=>nt3 b' _ (λqs w=>by cases w) z;rcases z with z | z
          . rw [z];exact hp
          . rintro rfl;rw [hP] at z;cases z
   have un3:Un X.fs [] H H3 s.heap (h'.push fo):=⟨λb o e n _ _=>kh b o (λz=>by rw [z,hP] at n;cases n) e,λb o e n _ _=>⟨o.slots,kh b o (λz=>by rw [z,hP] at n;cases n) e⟩,
    λb o e n _=>by
     rw [at3 b (λz=>by rw [z,hP] at n;cases n) (bH (bj (aM e) hge)) (bH (bj (aM e) hfl))];exact n,
    λb o e _=>by
     by_cases hp:b = P
     . exact ⟨_,hp▸gP⟩
     . exact ⟨o,kh b o hp e⟩,
    λb xs e=>nt3 b _ (λqs w=>by cases w) e,λb o u e=>nt3 b _ (λqs w=>by cases w) e,
    λb qs e=>by
     by_cases hp:b = P
     . subst hp;rw [hP] at e;cases e;exact ⟨_,atP⟩
     . exact ⟨#[],by rw [atO b _ hp e];simp⟩⟩
   refine ⟨.ref h'.objs.size,H3,I.un (t':=tk) un3 hok3,rfl,?_⟩;refine h _ c' oc vs t _ ctv H3 ⟨λb o n e=>nt3 b o (λqs w=>by rw [w] at n;exact n) e,λb qs e=>?_⟩ (λt' ht=>?_) (by rw [ho];exact atf) atc hd hv
   . by_cases hp:b = P
     . exact ⟨_,hp▸atP⟩
     . exact ⟨qs,atO b _ hp e⟩
   . have fzk:∀ a o,Fz H a o->Fz H3 a o:=λa o z=>nt3 a _ (λqs w=>by cases w) z;by_cases hp:t'.1 = P
     . have:=M.un t' ht hp;refine ⟨_,by rw [hp];exact atP,by simpa using TriplesOk_snoc pos.line pos.col (.ref c') _ tr,λp cv e=>?_⟩;rw [bD] at e;rcases xu _ tr e with z | z
       . obtain ⟨c₁,o₁,v₁,t₁,z1,z2,z3,z4⟩:=am p cv z;exact ⟨c₁,o₁,v₁,t₁,z1,fzk _ _ z2,z3,by rw [this];exact z4⟩
       . exact ⟨c',oc,vs,t,z,atc,hd,by rw [this];exact hv⟩
     . obtain ⟨qs,a1,a2,a3⟩:=tabs t' ht;refine ⟨qs,atO _ _ hp a1,a2,λp cv e=>?_⟩;obtain ⟨c₁,o₁,v₁,t₁,z1,z2,z3⟩:=a3 p cv e;exact ⟨c₁,o₁,v₁,t₁,z1,fzk _ _ z2,z3⟩
end
section
variable {K:PySem.W.Frag} {H H':Hp} {h:cg} {F:aq->Prop} {cs:List (aq × Obj)}
def Un0.same (u:Un0 H h cs):iC H (jT H cs):=λb o e=>zf u e
def FX (u:Un0 H h cs) (s:Sim (jT H cs) H'):Sim H (hJ H' cs):=by
 have out:∀ b o,H b = some o->cs.lookup b = none:=λb o e=>by
  cases q:cs.lookup b with
  | none=>rfl
  | some x=>rw [(u b x q).1] at e;cases e
 exact ⟨λb o n e=>by rw [cN (out b o e)];exact s.nt b o n (u.same b o e),λb ps e=>by
  obtain ⟨qs,z⟩:=s.tb b ps (u.same b _ e);exact ⟨qs,by rw [cN (out b _ e)];exact z⟩⟩
def KA (z:Fz0 H cs) (hc:∀ b o,cs.lookup b = some o->∃ v,o.data = .cell v) (e:Fz H a o) (n:∀ v,o.data≠.cell v):Fz (hJ H cs) a o:=by
 cases q:cs.lookup a with
 | none=>unfold Fz;rw [cN q];exact e
 | some x =>
   have y:=z a x q;unfold Fz at e;rw [e] at y;unfold fzO at y;cases y;obtain ⟨v,d⟩:=hc a o q;exact absurd d (n v)
def uD (t:gY H) (z:Fz0 H cs) (hc:∀ b o,cs.lookup b = some o->∃ v,o.data = .cell v):gY (hJ H cs):=λy hy=>by
 obtain ⟨ps,h1,h2,h3⟩:=t y hy;refine ⟨ps,?_,h2,λpos cv e=>?_⟩
 . cases q:cs.lookup y.1 with
   | none=>rw [cN q];exact h1
   | some x =>
     have:=z _ x q;rw [h1] at this;cases this
 . obtain ⟨c,o,vs,tk,e1,e2,e3,e4⟩:=h3 pos cv e;exact ⟨c,o,vs,tk,e1,KA z hc e2 (λv w=>by rw [e3] at w;cases w),e3,e4⟩
def FE (z:Fz0 H cs) (h:SqT K H a xs):SqT K (hJ H cs) a xs:=by
 rcases h with h | h
 . left
   cases q:cs.lookup a with
   | none =>
     rcases h with h | ⟨o,h⟩
     . exact .inl (by rw [cN q];exact h)
     . exact .inr ⟨o,by rw [cN q];exact h⟩
   | some x =>
     have y:=z a x q;rcases h with h | ⟨o,h⟩
     . rw [h] at y;cases y
     . rw [h] at y;cases y
 . exact .inr h
mutual
theorem xV (z:Fz0 H cs):∀ (d:D) (v:V),lf d = true->Rel K H F d v->Rel K (hJ H cs) F d v
 | .non,v,_,h=>by unfold Rel at h |-;exact h
 | .bl b,v,_,h=>by unfold Rel at h |-;exact h
 | .int i,v,_,h=>by unfold Rel at h |-;exact h
 | .str x,v,_,h=>by unfold Rel at h |-;exact h
 | .lst ds,v,l,h=>by unfold lf at l;cases l
 | .tup ds,v,l,h=>by
   unfold lf at l;unfold Rel at h |-;obtain ⟨a,xs,e,h1,h3⟩:=h
   exact ⟨a,xs,e,FE z h1,pO z ds xs l h3⟩
 | .fn _ _,v,l,h=>by unfold lf at l;cases l
theorem pO (z:Fz0 H cs):∀ (ds:List D) (xs:List V),lfL ds = true->aK K H F ds xs->aK K (hJ H cs) F ds xs
 | [],xs,_,h=>by unfold aK at h |-;exact h
 | d::ds,xs,l,h=>by
   unfold lfL at l;rw [aa] at l;unfold aK at h |-;obtain ⟨y,ys,e,h1,h2⟩:=h;exact ⟨y,ys,e,xV z d y l.1 h1,pO z ds ys l.2 h2⟩
end
def lookup_mem:∀ {l:List (aq × Obj)},l.lookup b = some o->(b,o)∈l
 | [],h=>by simp at h
 | (c,x)::l,h=>by
   rw [cm] at h
   cases q:(b == c) with
   | true =>
     rw [q] at h;cases h;rw [show b = c by simpa using q]
     exact ak
   | false =>
     rw [q] at h;exact aj _ (lookup_mem h)
def lz:∀ {cells:List aq} {os:List Obj} {p:aq × Obj},cells.Nodup->p∈cells.zip os->(cells.zip os).lookup p.1 = some p.2
 | [],_,_,_,h=>by simp at h
 | _::_,[],_,_,h=>by simp at h
 | c::cells,o::os,p,n,h=>by
   rw [bS] at h |-;rcases aC.mp h with rfl | h
   . simp [List.lookup]
   . have hne:p.1≠c:=λz=>(cD.mp n).1 (by rw [<- z];exact (fq (a:=p.1) (b:=p.2) h).1);have:(p.1 == c) = false:=by simpa using hne
     rw [cm,this];exact lz (cD.mp n).2 h
end
def nR (X:Cx):List Nat->List Str->List aq->Prop
 | [],ys,cs=>ys = []/\cs = []
 | i::r,ys,cs=>∃ y ys' c cs',ys = y::ys'/\cs = c::cs'/\X.N[i]? = some y/\X.env.kindOf y = some .cell/\X.env.cells.lookup y = some c/\nR X r ys' cs'
section
variable {X:Cx} {cx:Cl} {k:Nat}
def DU {K:PySem.W.Frag} {H:Hp} {F:aq->Prop} {d:D} {v:V} (f:flat d = true) (r:Rel K H F d v):v = flV d:=by
 cases d<;>first | (unfold Rel at r;exact r) | (unfold flat at f;cases f)
def vG:∀ {caps:List Nat} {ys:List Str} {cells:List aq},nR X caps ys cells->∀ c∈cells,∃ y∈ys,X.env.cells.lookup y = some c
 | [],ys,cells,h=>by obtain ⟨rfl,rfl⟩:=h;simp
 | i::r,ys,cells,h=>by
   obtain ⟨y,ys',c,cs',rfl,rfl,_,_,e,h⟩:=h;intro c' hc;rcases aC.mp hc with rfl | hc
   . exact ⟨y,ak,e⟩
   . obtain ⟨y',h1,h2⟩:=vG h c' hc;exact ⟨y',aj _ h1,h2⟩
def lO (inj:∀ x y c,X.env.cells.lookup x = some c->X.env.cells.lookup y = some c->x = y):∀ {caps:List Nat} {ys:List Str} {cells:List aq},nR X caps ys cells->ys.Nodup->cells.Nodup/\cells.length = ys.length
 | [],ys,cells,h,_=>by obtain ⟨rfl,rfl⟩:=h;simp
 | i::r,ys,cells,h,n=>by
   obtain ⟨y,ys',c,cs',rfl,rfl,_,_,e,h⟩:=h;obtain ⟨n1,n2⟩:=cD.mp n;obtain ⟨a,b⟩:=lO inj h n2;refine ⟨cD.mpr ⟨λz=>?_,a⟩,by simp [b]⟩;obtain ⟨y',h1,h2⟩:=vG h c z;exact n1 (inj y y' c e h2▸h1)
def yY (I:Inv X pins σ H s) (ok:Ok X.K G F σ H δ):∀ {caps:List Nat} {ys:List Str} {cells:List aq} {cs:List D},nR X caps ys cells->lr δ caps = some cs ->
 ∃ os:List Obj,os.length = cells.length/\(∀ p∈cells.zip os,H p.1 = none/\s.heap.get? p.1 = some p.2/\(∃ y,X.env.cells.lookup y = some p.1)/\∃ v,p.2.data = .cell v)/\∀ H':Hp,(∀ p∈cells.zip os,Fz H' p.1 p.2)->ku H' cells cs
 | [],ys,cells,cs,h,e=>by
   obtain ⟨rfl,rfl⟩:=h;unfold lr at e;cases e
   exact ⟨[],rfl,↥0,λ_ _=>rfl⟩
 | i::r,ys,cells,cs,h,e=>by
   obtain ⟨y,ys',c,cs',rfl,rfl,hN,hk,hc,h⟩:=h;unfold lr at e
   cases q:get δ i with
   | none=>rw [q] at e;cases e
   | some d =>
     rw [q] at e;dsimp only at e;split at e
     . rename_i hf;rw [aQ] at e;obtain ⟨ds,e1,rfl⟩:=e;obtain ⟨os,l,a1,a2⟩:=yY I ok h e1;obtain ⟨v,ev,rb,_⟩:=ok.look q
       have rv:v = flV d:=by
        rcases rb with rb | ⟨_,_,_,z,_⟩
        . exact DU hf rb
        . rw [z] at hf;cases hf
       subst rv;obtain ⟨m,hn,hl⟩:=I.loc;obtain ⟨u,ru,lk⟩:=hl i y _ hN ev (.inr (.inl hk));rcases lk with ⟨z,_⟩ | ⟨_,c',hc',o,ho,hd⟩
       . rw [hk] at z;cases z
       . rw [hc] at hc';cases hc';refine ⟨o::os,by simp [l],λp hp=>?_,λH' hz=>?_⟩
         . rw [bS] at hp;rcases aC.mp hp with rfl | hp
           . exact ⟨I.freeC y c hc,ho,⟨y,hc⟩,_,hd⟩
           . exact a1 p hp
         . exact ⟨d,ds,o,u,rfl,hf,hz (c,o) (by rw [bS];exact ak),hd,ru,a2 H' λp hp=>hz p (by rw [bS];exact aj _ hp)⟩
     . cases e
def tLm (q:Str) (params:oE) (body:aG) (scope:eK) (clos:List (Str × aq)):TE:=λ_ H Q=>gY H/\∀ (f c':aq) (oc:Obj) (vs:Array af) (tk:Tok) (pm ctv:af) (H':Hp),Sim H H'->gY H'->Fz H' f (PySem.W.kla_obj "<lambda>" q params body scope clos pm c' ctv)->Fz H' c' oc->oc.data = .fields vs->vs[1]? = some (.str q tk)->Q (.ref f) H'
def Mf (M:Mk X P q) (hcl:closureFor scope X.env = pure clos) (hdef:defaultsOf params X.env = ([],[])):PE X (.Lambda params body scope pos) (tLm q params body scope clos) :=
 λpins s σ H Q I ⟨t,h⟩=>Mv I M t hcl hdef h
def Ge (e:evS cx (.retL f es n caps) δ = some o):∃ ds δ1 cs d,dU cx es δ = some (ds,δ1)/\lr δ1 caps = some cs/\cx.hf f = true/\cx.call f (ds++[.fn n cs]) = some d/\lf d = true/\o = .rt d δ1:=by
 simp only [evS,ae,ab] at e;obtain ⟨⟨ds,δ1⟩,e1,cs,e2,e⟩:=e;dsimp only at e e2;split at e
 . rename_i hf;rw [aQ] at e;obtain ⟨r,er,e⟩:=e;unfold lfO at er;split at er
   . split at er
     . rename_i r' q hl;cases er;exact ⟨ds,δ1,cs,r,e1,e2,hf,q,hl,e.symm⟩
     . cases er
   . cases er
 . cases e
def BR {c:Ck} (C:Cok X c cx k) {f n:Nat} {es:Es} {caps:List Nat} {x:Str} {y:aG} {ys:List aG} {ps:List Str} {P:aq} {L:Lam} {cells:List aq} {p lp pos rp:Pos} (hL:Tbs.lams.lookup n = some L) (M:Mk X P L.qual) (hcl:closureFor L.scope X.env = pure (L.caps.zip cells)) (hdef:defaultsOf L.params X.env = ([],[]))
 (hcp:nR X caps L.caps cells) (hnd:L.caps.Nodup) (hfn:∀ y,X.fn y = true) (n0:gu es = true) (ef:c.fns[f]? = some (x,ps)) (hg:fL c x = true)
 (hA:∀ z tz,PE X z tz->starEach [z] X.env = (false,eval z X.env)::starEach [] X.env->PA X (y::(ys++[z])) (wj X.K cx es tz)) (he:∀ z,starEach (y::(ys++[z])) X.env = (false,eval y X.env)::starEach (ys++[z]) X.env)
 (hpl:∀ z,starEach [z] X.env = (false,eval z X.env)::starEach [] X.env->(backTo pos (starEach (ys++[z]) X.env)).any (·.1) = false) :
 PS X (.Return (some (.Call (.Name x p) (y::(ys++[.Lambda L.params L.body L.scope lp])) [] pos)) rp) (tS X.K (evS cx (.retL f es n caps))):=by
 obtain ⟨g1,g2,g3⟩:=C.global hg;intro pins s σ H E I hq;obtain ⟨G,F,δ,o,ok,ev,post⟩:=hq;obtain ⟨ds,δ1,cs,d,ea,ec,hf,er,hl,rfl⟩:=Ge ev;refine Lg ?_;obtain ⟨a,fd,hm,hk,hb,fn⟩:=C.fnF f _ _ ef hf
 have fin:wpAny (model X.prog X.w) X.A (eval (.Call (.Name x p) (y::(ys++[.Lambda L.params L.body L.scope lp])) [] pos) X.env) (EP X pins σ λv H'=>∃ F',Step G F H F' H'/\Ok X.K G F' σ H' δ1/\Rel X.K H' F' d v) X.xe s:=by
  refine gL (sS I g1 hm ?_ g2)
  refine PySem.W.callWith_K (h₀:=X.base) I.ok.mod.kin hk (thn (hA _ _ (Mf M hcl hdef) rfl pos pins s σ H (λvs' H1=>∃ vs F1 fa c' oc ws tk pm ctv,vs' = vs++[.ref fa]/\Step G F H F1 H1/\Ok X.K G F1 σ H1 δ1/\aK X.K H1 F1 ds vs /\
   Fz H1 fa (PySem.W.kla_obj "<lambda>" L.qual L.params L.body L.scope (L.caps.zip cells) pm c' ctv)/\Fz H1 c' oc/\oc.data = .fields ws/\ws[1]? = some (.str L.qual tk)) I ⟨G,F,δ,ds,δ1,ok,ea,λvs H1 F1 st1 sm1 ok1 r1=>⟨ok1.tabs,λfa c' oc ws tk pm ctv H2 s2 t2 z1 z2 z3 z4=>?_⟩⟩) λus s1 ⟨vs',H1,I1,r,q⟩=>⟨I1.kIn,?_⟩) (he _) (hpl _ rfl)
  . obtain ⟨ok2,st2⟩:=ok1.call s2 t2;exact ⟨vs,F1,fa,c',oc,ws,tk,pm,ctv,rfl,st1.trans st2,ok2,aK.step ok1.fd st2 ds vs (r1.rl n0),z1,z2,z3,z4⟩
  obtain ⟨vs,F1,fa,c',oc,ws,tk,pm,ctv,rfl,st,ok1,rl,z1,z2,z3,z4⟩:=q;obtain ⟨os,hol,a1,a2⟩:=yY I1 ok1 hcp ec;have nd:=(lO I1.ok.inj hcp hnd).1;have un0:Un0 H1 s1.heap (cells.zip os):=λb o e=>⟨(a1 (b,o) (lookup_mem e)).1,(a1 (b,o) (lookup_mem e)).2.1⟩;have isc:∀ b o,(cells.zip os).lookup b = some o->∃ v,o.data = .cell v:=λb o e=>(a1 (b,o) (lookup_mem e)).2.2.2
  have nfr:∀ b o,(cells.zip os).lookup b = some o->X.s₀.heap.objs.size<=b/\b∉frs X.stack:=λb o e=>by
   obtain ⟨_,_,⟨w,hw⟩,_⟩:=a1 (b,o) (lookup_mem e);have hsz:=I1.ok.cab w b (hfn w) hw;refine ⟨hsz,λz=>?_⟩;rcases aC.mp (I1.stkSub b z) with z | z
   . exact I1.cne w b hw z
   . obtain ⟨_,o',ho',_⟩:=I1.ok.funs.mem z;exact absurd (bj (aM ho') hsz) (cR _)
  have nb:∀ b o,(cells.zip os).lookup b = some o->X.base.get? b = none/\b∉frs X.stack:=λb o e=>⟨zo (bq I1.ok.bsz (nfr b o e).1),(nfr b o e).2⟩;have sm1:=un0.same;have ok2:=ok1.same' sm1;have fv:FnV (jT H1 (cells.zip os)) n cs fa:=⟨L,pm,ctv,c',oc,ws,tk,cells,hL,sm1 _ _ z1,sm1 _ _ z2,z3,z4,nd,(lO I1.ok.inj hcp hnd).2,a2 _ λp hp=>mT (lz nd hp)⟩
  have sp:zR X.K (cx.call f) (vs++[.ref fa]) (jT H1 (cells.zip os)) (λv H'=>Sim (jT H1 (cells.zip os)) H'/\gY H'/\Rel X.K H' F1 d v) E0 :=
   ⟨F1,ds,vs,n,cs,fa,d,ok2.fd,ok2.tf,ok2.tabs,rfl,aK.step (G:=G) ok1.fd (Step.of_same sm1) ds vs rl,fv,er,λv H' x1 x2 x3=>⟨x1,x2,x3⟩⟩
  have hl2:(us++([]:List af)).length = ps.length:=by rw [bA,<- r.length];exact fn.len _ _ _ _ sp
  have bb:=hb s1 us I1.kIn hl2;rw [bA] at bb;refine Lc (lQ (fn.run X.A X.stack s1 _ ⟨us,[]⟩ us _ _ E0 C.room (uc.add I1.env0 un0 nb) bb r sp) λr s' hq=>?_)
  cases r with
  | error e=>exact hq.elim
  | ok fl =>
    cases fl with
    | next=>exact cz hq
    | brk=>exact cz hq
    | cont=>exact cz hq
    | ret u =>
      obtain ⟨v,H',I',rv,fz,x1,x2,x3⟩:=Inv.callF I1 un0 (λb o e=>(nfr b o e).2) hq;obtain ⟨ok3,st3⟩:=ok1.call (FX un0 x1) (uD x2 fz isc);exact ⟨v,_,I',rv,F1,st.trans st3,ok3,xV fz d v hl x3⟩
 exact thn fin λu s1 ⟨v,H1,I1,rv,F1,st,ok1,rl⟩=>⟨v,σ,H1,I1,rv,post v σ H1 F1 st ok1 rl⟩
end
def pI {K:PySem.W.Frag} {H:Hp} {F:aq->Prop} {ds:List D} {vs:List V} {N:List Str} (fd:FD F H) (tf:TF F) (tb:gY H) (r:aK K H F ds vs) (hl:vs.length<=N.length):Ok K ⟨H,λb=>F b/\∃ o,H b = some o/\Mo o⟩ F (start N vs) H (init N.length ds):=by
 have hlen:=r.length
 have low:∀ (i:Nat) (s:Sl),(init N.length ds)[i]? = some s->s = .no\/∃ d,ds[i]? = some d/\s = .val d:=λi s e=>by
  unfold init at e;by_cases hi:i < ds.length
  . rw [aR (by simpa using hi),bV,aE hi] at e;cases e;exact .inr ⟨_,aE hi,rfl⟩
  . rw [bh (by simp;lia),dB] at e;split at e
    . cases e;exact .inl rfl
    . cases e
 refine ⟨Sim.refl H,fd,λb z=>z.1,λb z=>z.2,tf,tb,?_,λi s e=>?_,λi j s t a e1 _ o1=>?_⟩
 . unfold init L2.start;simp only [ah,aB,dP]
   lia
 . rcases low i s e with rfl | ⟨d,e1,rfl⟩
   . trivial
   . obtain ⟨v,hv,rv⟩:=r.get e1;refine ⟨v,?_,rv⟩;unfold L2.start;have hi:i < vs.length:=(aA.mp hv).1;rw [aR (by simpa using hi),bV,hv];rfl
 . rcases low i _ e1 with z | ⟨d,_,z⟩<;>(subst z;cases o1)
section
variable {P:bp} {w:bQ} {H H':Hp} {h h':cg} {cs:List (aq × Obj)} {F:aq->Prop}
def jg {b:aq} (e:H b = none):hJ H cs b = none:=by
 cases q:cs.lookup b with
 | none=>rw [cN q];exact e
 | some o=>exact kI q
def Fz0.out (z:Fz0 H cs) (n:∀ o,H b≠some (fzO b o)):cs.lookup b = none:=by
 cases q:cs.lookup b with
 | none=>rfl
 | some o=>exact absurd (z b o q) (n o)
def Un.add (z:Fz0 H cs) (u:Un fs ex (hJ H cs) H' h h') (c:Un0 H' h' cs):Un fs ex H (jT H' cs) h h':=by
 have out:∀ {b},H b = none->cs.lookup b = none:=λ{b} e=>z.out λo q=>by rw [e] at q;cases q
 refine ⟨λb o e n hb hx=>u.keep b o e (jg n) hb hx,λb o e n hb hx=>u.slot b o e (jg n) hb hx,λb o e n hx=>?_,u.there,λb xs e=>?_,λb o y e=>?_,λb ps e=>?_⟩
 . rw [dA (out n)];exact u.free b o e (jg n) hx
 . have q:=z.out (b:=b) λo q=>by rw [e] at q;cases q
   rw [dA q];exact u.tups b xs (by rw [cN q];exact e)
 . cases q:cs.lookup b with
   | none=>rw [dA q];exact u.frzs b o y (by rw [cN q];exact e)
   | some o'=>rw [mT q,<- z b o' q];exact e
 . have q:=z.out (b:=b) λo q=>by rw [e] at q;cases q
   obtain ⟨more,x⟩:=u.tbls b ps (by rw [cN q];exact e);exact ⟨more,by rw [dA q];exact x⟩
def FY (z:Fz0 H cs) (s:Sim (hJ H cs) H'):Sim H (jT H' cs):=by
 refine ⟨λb o n e=>?_,λb ps e=>?_⟩
 . cases q:cs.lookup b with
   | none=>rw [dA q];exact s.nt b o n (by rw [cN q];exact e)
   | some o'=>rw [mT q,<- z b o' q];exact e
 . have q:=z.out (b:=b) λo q=>by rw [e] at q;cases q
   obtain ⟨qs,x⟩:=s.tb b ps (by rw [cN q];exact e);exact ⟨qs,by rw [dA q];exact x⟩
def FD.del (fd:FD F H) (z:Fz0 H cs):FD F (hJ H cs):=λb hb=>by
 obtain ⟨u,e,m⟩:=fd b hb
 have nq:=z.out (b:=b) λo q=>by
  rw [e] at q;cases q;rcases m with m | ⟨⟨ps,w⟩,_⟩
  . exact m
  . cases w
 exact ⟨u,by rw [cN nq];exact e,m⟩
def FD.sim (fd:FD F H) (s:Sim H H'):FD F H':=λb hb=>by
 obtain ⟨u,e,m⟩:=fd b hb;rcases m with m | ⟨⟨ps,rfl⟩,t⟩
 . exact ⟨u,s.nt _ _ m.nt e,.inl m⟩
 . obtain ⟨qs,e⟩:=s.tb b ps e;exact ⟨_,e,.inr ⟨⟨qs,rfl⟩,t⟩⟩
end
def rJ {H:Hp}:∀ {cells:List aq} {cs:List D},ku H cells cs->∃ os:List Obj,os.length = cells.length/\cells.length = cs.length/\(∀ p∈cells.zip os,Fz H p.1 p.2/\∃ v,p.2.data = .cell v) /\
 ∀ (j:Nat) (c:aq) (d:D),cells[j]? = some c->cs[j]? = some d->∃ o u,Fz H c o/\o.data = .cell (some u)/\RelV (flV d) u/\flat d = true
 | [],cs,h=>by
   have h:cs = []:=h;subst h
   exact ⟨[],rfl,rfl,↥0,↥0⟩
 | c::r,cs,h=>by
   obtain ⟨d,ds',o,u,rfl,h1,h2,h3,h4,h5⟩:=h;obtain ⟨os,e1,e2,e3,e4⟩:=rJ h5;refine ⟨o::os,by simp [e1],by simp [e2],λp hp=>?_,λj c' d' q1 q2=>?_⟩
   . rw [bS] at hp;rcases aC.mp hp with rfl | hp
     . exact ⟨h2,_,h3⟩
     . exact e3 p hp
   . cases j with
     | zero=>cases q1;cases q2;exact ⟨o,u,h2,h3,h4,h1⟩
     | succ j=>exact e4 j c' d' (by simpa using q1) (by simpa using q2)
def Aw {K:PySem.W.Frag} {H:Hp} {F:aq->Prop} {d:D} (f:flat d = true):Rel K H F d (flV d):=by
 cases d<;>first | (unfold Rel;rfl) | (unfold flat at f;cases f)
def lJ {β:Type}:∀ {l:List (Str × β)} {x:Str} {v:β},(l.map (·.1)).Nodup->(x,v)∈l->l.lookup x = some v
 | [],_,_,_,h=>by simp at h
 | (y,u)::l,x,v,n,h=>by
   rw [aN] at n;rcases aC.mp h with e | h
   . cases e;simp [List.lookup]
   . have:x≠y:=λz=>(cD.mp n).1 (by rw [<- z];exact cq.mpr ⟨(x,v),h,rfl⟩);have e:(x == y) = false:=by simpa using this
     rw [cm,e];exact lJ (cD.mp n).2 h
def jq {α β:Type}:∀ {l:List α} {m:List β} {j:Nat} {x:α} {v:β},l[j]? = some x->m[j]? = some v->(x,v)∈l.zip m
 | [],_,_,_,_,h,_=>by simp at h
 | _::_,[],_,_,_,_,h=>by simp at h
 | a::l,b::m,0,x,v,h,h'=>by cases h;cases h';exact ak
 | a::l,b::m,j+1,x,v,h,h'=>aj _ (jq (j:=j) (by simpa using h) (by simpa using h'))
def pq {α β:Type}:∀ {l:List α} {m:List β},l.length = m.length->(l.zip m).map (·.1) = l
 | [],_,_=>by simp
 | _::_,[],h=>by simp at h
 | a::l,b::m,h=>by simp [pq (l:=l) (m:=m) (by simpa using h)]
structure ED (L:Lam):Prop where
 kind:L.scope.kind = .function
 co:L.scope.isCoroutine = false
 gen:L.scope.isGenerator = false
 nocell:∀ x∈L.scope.names,x.2≠.cell
 ploc:∀ x∈L.ps,L.scope.names.lookup x = some .local
 cfree:∀ x∈L.caps,L.scope.names.lookup x = some .free
 frees:∀ x∈L.scope.names,x.2 = .free->x.1∈L.caps
 nd:(L.ps++L.caps).Nodup
 bd:∀ (cl:List (Str × aq)) (pm cdv ct:af) (us:List af),us.length = L.ps.length->bindArgs (PySem.W.kla_fn "<lambda>" L.qual L.params L.body L.scope cl pm cdv ct) ⟨us,[]⟩ = pure (L.ps.zip us)
def cxL (P:bp) (w:bQ) (K:PySem.W.Frag) (mg:Str->Option af) (base:cg) (L:Lam) (f:aq) (cd:af) (cl:List (Str × aq)) (A:bo) (outer:List Env) (s:ai) (H:Hp):Cx where
 prog:=P
 w:=w
 K:=K
 mg:=mg
 base:=base
 A:=A.deeper (PySem.W.envX L.qual L.scope s.heap.objs.size f cd cl)
 N:=L.ps++L.caps
 s₀:=s
 H₀:=H
 env:=PySem.W.envX L.qual L.scope s.heap.objs.size f cd cl
 outer:=outer
 stack:=PySem.W.envX L.qual L.scope s.heap.objs.size f cd cl::outer
 ex:=[]
 calm:=true
 fn:=λ_=>false
 pn:=[]
 xe:=λ_ _=>False
def Kr {P:bp} {w:bQ} {K:PySem.W.Frag} {mg:Str->Option af} {base:cg} {n k:Nat} {f:List D->Option D} {L:Lam} {cx:Cl} {e:E} (hL:Tbs.lams.lookup k = some L) (lo:ED L)
 (hE:∀ (a:aq) (cd:af) (cl:List (Str × aq)) (A:bo) (outer:List Env) (s:ai) (H:Hp),jU n (A.deeper (PySem.W.envX L.qual L.scope s.heap.objs.size a cd cl))->PE (cxL P w K mg base L a cd cl A outer s H) L.body (tE K cx e))
 (np0:bZ e = false) (hf:∀ ds d,f ds = some d->ds.length = (L.ps++L.caps).length/\∃ δ',evE cx e (init (L.ps++L.caps).length ds) = some (d,δ')):Hu P w K mg base (n+1) k f:=by
 intro A outer s H a us vs cs Q hr e0 rv fv hq;obtain ⟨L',pm,ctv,c',oc,ws,tk,cells,h1,fo,fc,hd,hv,cnd,clen,cv⟩:=fv;rw [hL] at h1;cases h1;obtain ⟨F,ds,d,fd,tf,tb,rl,lfl,er,lfd,post⟩:=hq;obtain ⟨os,e1,e2,e3,e4⟩:=rJ cv;obtain ⟨hlen,δ',ev⟩:=hf _ _ er;have lds:ds.length = L.ps.length:=by rw [ah,ah,<- e2,clen] at hlen;lia
 have lvs:vs.length = L.ps.length:=by rw [rl.length];exact lds
 have lus:us.length = L.ps.length:=by rw [<- rv.length];exact lvs
 have fz0:Fz0 H (cells.zip os):=λb o q=>(e3 (b,o) (lookup_mem q)).1;have isc:∀ b o,(cells.zip os).lookup b = some o->∃ v,o.data = .cell v:=λb o q=>(e3 (b,o) (lookup_mem q)).2;have hgo:∀ {b:aq} {o:Obj},Fz H b o->s.heap.get? b = some o:=λ{b o} z=>(e0.hok b _ z).1;have ho:=hgo fo;have hcd:s.heap.CodeRec (.ref c') L.qual:=⟨c',oc,ws,tk,rfl,hgo fc,hd,hv⟩;have lim:s.heap.NoLimit:=e0.mod.nolimit.keeps λb o e=>(e0.bs b o e).1;have ndp:L.ps.Nodup:=(ot.mp lo.nd).1;have ndc:L.caps.Nodup:=(ot.mp lo.nd).2.1;have hok0:=HOk.del e0.hok fz0;refine PySem.W.kla_callFunE hr.depth ho rfl lo.co lo.gen rfl hcd ?_;rw [lo.bd _ _ _ _ us lus];have hloc:∀ y∈L.ps.zip us,L.scope.names.lookup y.1 = some .local:=λ⟨y,u⟩ hy=>lo.ploc y (fq hy).1;refine aH (nU lo.nocell hloc (λh₁ hns hsb=>⟨lim.fresh _ hsb,?_⟩) lo.kind);show codeAny _ _ (.expr L.body (PySem.W.envX L.qual L.scope s.heap.objs.size a (.ref c') (L.caps.zip cells))) _ _;have hk₁:∀ b o,s.heap.get? b = some o->h₁.get? b = some o:=λb o e=>hsb.extBut b o (bH (aM e)) (ao _ e);have clk:∀ (j:Nat) (x:Str) (c:aq),L.caps[j]? = some x->cells[j]? = some c->(L.caps.zip cells).lookup x = some c:=λj x c q1 q2=>lJ (by rw [pq clen.symm];exact ndc) (jq q1 q2)
 have cof:∀ x c,(L.caps.zip cells).lookup x = some c->∃ j,L.caps[j]? = some x/\cells[j]? = some c:=λx c q=>by
  have hm:=PySem.mem_of_lookup q;obtain ⟨j,hj,ej⟩:=lx.mp hm;rw [List.getElem_zip] at ej;cases ej;rw [HC] at hj;exact ⟨j,aE ∅,aE ∅⟩
 have cin:∀ (j:Nat) (c:aq),cells[j]? = some c->∃ o u dd,cs[j]? = some dd/\Fz H c o/\o.data = .cell (some u)/\RelV (flV dd) u/\(cells.zip os).lookup c = some o:=λj c q=>by
  have hj:j < cells.length:=(aA.mp q).1;have q2:cs[j]? = some cs[j]:=aE ∅;obtain ⟨o,u,z1,z2,z3,z4⟩:=e4 j c _ q q2;have q3:os[j]? = some os[j]:=aE ∅;have hm:=jq q q3;have z5:=lz cnd hm;have z6:=(e3 _ hm).1;unfold Fz at z6;dsimp only at z6 z5;have z1':=z1;unfold Fz at z1';rw [z6] at z1';injection z1' with z1';injection z1' with z1';exact ⟨o,u,_,q2,z1,z2,z3,by rw [z5,z1']⟩
 -- the frame
 have I:Inv (cxL P w K mg base L a (.ref c') (L.caps.zip cells) A outer s (hJ H (cells.zip os))) [] (L2.start (L.ps++L.caps) (vs++cs.map flV)) (hJ H (cells.zip os)) { s with heap:=h₁,toks:=s.toks+(L.ps.zip us).length }:=by
  have noA:∀ b:aq,b∉(cxL P w K mg base L a (.ref c') (L.caps.zip cells) A outer s (hJ H (cells.zip os))).ex:=λb z=>absurd (show b∈([]:List aq) from z) ↥0
  refine ⟨⟨e0.mod,lo.kind,rfl,rfl,az _,λx y c q1 q2=>?_,λx hx=>?_,λx c q=>(nomatch q),λ_=>hr.hd,vQ e0.frames,.inr ⟨rfl,rfl⟩,λb z=>absurd z (noA b),λb o q=>⟨(e0.bs b o q).1,jg (e0.bs b o q).2⟩,e0.bsz,λb _ _=>noA b,λb z=>absurd z (noA b),e0.funs,λb hb=>jg (e0.frf b hb)⟩,
   rfl,e0.bare,Un.kept hk₁,⟨_,hns,λi x v q1 q2 q3=>?_⟩,λx c q=>?_,hok0.fresh (az _),λx c q=>?_,λp hp=>absurd (show p∈([]:List (aq × Obj)) from hp) ↥0,hok0.kept hk₁,?_⟩
  . obtain ⟨i,a1,a2⟩:=cof x c q1;obtain ⟨j,b1,b2⟩:=cof y c q2
    have:i = j:=by
     obtain ⟨h1,h2⟩:=aA.mp a2;obtain ⟨h3,h4⟩:=aA.mp b2;exact (EZ cnd).mp (h2.trans h4.symm)
    subst this;rw [a1] at b1;cases b1;rfl
  . have hx:L.scope.names.lookup x = some .cell\/L.scope.names.lookup x = some .free:=hx;rcases hx with hx | hx
    . exact absurd rfl (lo.nocell _ (PySem.mem_of_lookup hx))
    . have hm:=lo.frees _ (PySem.mem_of_lookup hx) rfl;obtain ⟨j,hj,ej⟩:=lx.mp hm;dsimp only at ej;exact ⟨cells[j]'∅,clk j x _ (by rw [<- ej];exact aE hj) (aE ∅)⟩
  . have hi:i < (vs++cs.map flV).length:=by
     unfold L2.start at q2;by_cases hi:i < (vs++cs.map flV).length
     . exact hi
     . rw [bh (by rw [aB];lia),dB] at q2;split at q2<;>cases q2
    have hv':(vs++cs.map flV)[i]? = some v:=by
     unfold L2.start at q2;rw [aR (by rw [aB];exact hi),bV] at q2
     cases e:(vs++cs.map flV)[i]? with
     | none=>rw [e] at q2;cases q2
     | some a=>rw [e] at q2;cases q2;rfl
    have q1:(L.ps++L.caps)[i]? = some x:=q1;by_cases hp:i < L.ps.length
    . rw [aR hp] at q1;rw [aR ∅] at hv';obtain ⟨u,hu,ru⟩:=rv.get hv';refine ⟨u,ru,.inl ⟨lo.ploc x (bu q1),?_⟩⟩;exact lJ (by rw [List.map_reverse,pq lus.symm];exact gZ.mpr (ndp.imp λz=>Ne.symm z)) (fQ.mpr (jq q1 hu))
    . rw [bh ∅] at q1;rw [bh ∅,bV,lvs] at hv';have hj:i - L.ps.length < L.caps.length:=(aA.mp q1).1;have hc:cells[i - L.ps.length]? = some (cells[i - L.ps.length]'∅):=aE ∅;obtain ⟨o,u,dd,x1,x2,x3,x4,x5⟩:=cin _ _ hc;rw [x1] at hv';cases hv';exact ⟨u,x4,.inr ⟨.inr (lo.cfree x (bu q1)),_,clk _ x _ q1 hc,o,hk₁ _ _ (hgo x2),x3⟩⟩
  . obtain ⟨j,a1,a2⟩:=cof x c q;obtain ⟨o,u,dd,x1,x2,x3,x4,x5⟩:=cin _ _ a2;exact ⟨_,o,hk₁ _ _ (hgo x2),x3⟩
  . obtain ⟨j,a1,a2⟩:=cof x c q;obtain ⟨o,u,dd,x1,x2,x3,x4,x5⟩:=cin _ _ a2;exact kI x5
  . unfold L2.start;show _ = (L.ps++L.caps).length;rw [ah,aB,dP];have:(vs++cs.map flV).length = (L.ps++L.caps).length:=by rw [ah,ah,aB];lia
    lia
 have rlc:∀ (cs':List D),(∀ dd∈cs',flat dd = true)->aK K (hJ H (cells.zip os)) F cs' (cs'.map flV):=by
  intro cs'
  induction cs' with
  | nil=>intro _;exact aK.nil
  | cons x xs ih=>intro hh;exact aK.cons (Aw (hh x ak)) (ih λy hy=>hh y (aj _ hy))
 have hflat:∀ dd∈cs,flat dd = true:=λdd hd'=>by
  obtain ⟨j,hj,ej⟩:=lx.mp hd';obtain ⟨o,u,z1,z2,z3,z4⟩:=e4 j _ dd (aE ∅) (by rw [<- ej];exact aE hj);exact z4
 have rl2:aK K (hJ H (cells.zip os)) F (ds++cs) (vs++cs.map flV):=aK.append (pO fz0 ds vs lfl rl) (rlc cs hflat);have ok:=pI (N:=L.ps++L.caps) (fd.del fz0) tf (uD tb fz0 isc) rl2 (by rw [ah,ah,aB];lia)
 have pe:=hE a (.ref c') (L.caps.zip cells) A outer s (hJ H (cells.zip os)) (hr.deeper _) [] _ _ _ (λv H'=>∃ F',Ok K ⟨hJ H (cells.zip os),λb=>F b/\∃ o,hJ H (cells.zip os) b = some o/\Mo o⟩ F' (L2.start (L.ps++L.caps) (vs++cs.map flV)) H' δ'/\Rel K H' F' d v) I
  ⟨_,F,_,d,δ',ok,ev,λv H' F' st sm ok' r=>⟨F',ok',by rw [np0] at r;exact r⟩⟩
 refine PySem.W.kla_codeExpr (fx pe (λu s' hp=>?_) λe s' hp=>hp.elim);obtain ⟨v,H',J,rv',F',ok',r'⟩:=hp;have un:=J.base;have bz:∀ b o,(cells.zip os).lookup b = some o->s.heap.get? b = some o/\b∉frs outer:=λb o q=>⟨hgo (fz0 b o q),λz=>by have y:=fz0 b o q;rw [e0.frf b z] at y;cases y⟩;have c0:Un0 H' s'.heap (cells.zip os):=λb o q=>⟨un.free b o (bz b o q).1 (kI q) (by intro z;exact absurd (show b∈([]:List aq) from z) ↥0),un.keep b o (bz b o q).1 (kI q) (bz b o q).2 (by intro z;exact absurd (show b∈([]:List aq) from z) ↥0)⟩;have sim:Sim H (jT H' (cells.zip os)):=FY fz0 ok'.same;refine ⟨v,jT H' (cells.zip os),J.os,J.bare,Un.add fz0 un c0,HOk.add J.hok c0,rv',post v _ sim (ok'.tabs.keep λb o _ z=>c0.same b o z) ?_⟩;exact Rel.free (fd.sim sim) d v lfd (Rel.step (G:=g0) ok'.fd (Step.of_same c0.same) d v r')
structure Mkr (K:PySem.W.Frag) (cf:List (Str × List Str)) (gn:List Str) (fd:Fd) (st:dE) (fdd:eM) where
 f:Nat
 es:Es
 k:Nat
 caps:List Nat
 x:Str
 ps:List Str
 y:aG
 ys:List aG
 p:Pos
 lp:Pos
 pos:Pos
 rp:Pos
 L:Lam
 c:aq
 P:aq
 cells:aq->List aq
 body:fd.body = .cons (.retL f es k caps) .nil
 text:fk st = [.Return (some (.Call (.Name x p) (y::(ys++[.Lambda L.params L.body L.scope lp])) [] pos)) rp]
 lam:Tbs.lams.lookup k = some L
 args:gh ⟨fd.ps++fd.loc,bM st,cf,gn⟩ es (y::ys) = true
 npk:gu es = true
 fn:cf[f]? = some (x,ps)
 gl:fL ⟨fd.ps++fd.loc,bM st,cf,gn⟩ x = true
 nd:L.caps.Nodup
 dft:∀ env,defaultsOf L.params env = ([],[])
 cl:∀ (l a:aq) (cd:af),closureFor L.scope (envOfC fd.name (bM st) l a cd) = pure (L.caps.zip (cells l))
 cp:∀ (X:Cx) (l a:aq) (cd:af),X.N = fd.ps++fd.loc->X.env = envOfC fd.name (bM st) l a cd->nR X caps L.caps (cells l)
 code:fdd.code = .ref c
 hd:PySem.W.codeHdIn K c P = true
 tb:(P,L.qual)∈Tbs.ts
 un:∀ t∈Tbs.ts,t.1 = P->t.2 = L.qual
 ql:fd.name++".<locals>."++"<lambda>" = L.qual
structure Dn (K:PySem.W.Frag) (mgv:Str->Option af) (cf:List (Str × List Str)) (gn:List Str) (fd:Fd) (st:dE) (a:aq) (fdd:eM):Prop where
 fn:Fun K fd.name fd.name st a fdd
 mg:mgv fd.name = some (.ref a)
 sc:mV (fd.ps++fd.loc) fd.ps (bM st)
 ck:xp ⟨fd.ps++fd.loc,bM st,cf,gn⟩ fd.body (fk st) = true\/Nonempty (Mkr K cf gn fd st fdd)\/∀ (X:Cx) (cx:Cl) (k:Nat),Cok X ⟨fd.ps++fd.loc,bM st,cf,gn⟩ cx k->X.env.scope = bM st->X.env.blockKind = .function->X.K = K->X.mg = mgv->PSs X (fk st) (tS K (en cx fd.body))
 bd:Binds K fdd fd.ps []
def ze (K:PySem.W.Frag) (mg:Str->Option af) (cf:List (Str × List Str)) (gn:List Str):List Fd->Prop
 | []=>True
 | fd::r=>(∃ st a fdd,Dn K mg cf gn fd st a fdd)/\ze K mg cf gn r
def nQ {K:PySem.W.Frag} {mg:Str->Option af} {cf:List (Str × List Str)} {gn:List Str}:∀ {G:List Fd} {i:Nat} {fd:Fd},ze K mg cf gn G->G[i]? = some fd->∃ st a fdd,Dn K mg cf gn fd st a fdd
 | [],_,_,_,e=>by simp at e
 | f::r,0,fd,h,e=>by
   cases e
   exact h.1
 | f::r,i+1,fd,h,e=>nQ (i:=i) h.2 (by simpa using e)
def lM (G:List Fd):List (Str × List Str):=G.map λfd=>(fd.name,fd.ps)
structure Ln (G Gd:List Fd) (gn:List Str) (k:Nat) (L:Lam):Prop where
 ok:ED L
 fd:∃ fd e,G[k]? = some fd/\fd.ps = L.ps++L.caps/\fd.loc = []/\fd.body = .cons (.ret e) .nil/\fd.hf = false/\bZ e = false/\ckE ⟨L.ps++L.caps,L.scope,lM Gd,gn⟩ e L.body = true
structure Top (w:bQ) (K:PySem.W.Frag) (mg:Str->Option af) (G Gd:List Fd) (gl:List D) (gn:List Str):Prop where
 fns:ze K mg (lM Gd) gn Gd
 sub:∀ (i:Nat) (fd:Fd),Gd[i]? = some fd->G[i]? = some fd
 few:G.length<=lF
 lams:∀ (k:Nat) (L:Lam),Tbs.lams.lookup k = some L->Ln G Gd gn k L
 blt:∀ x,x∈ji->mg x = none
 glob:∀ (g:Nat) (x:Str) (d:D),gn[g]? = some x->gl[g]? = some d->∃ u v,mg x = some u/\RelV v u/\∀ H F,Rel K H F d v
 gsome:∀ (g:Nat) (x:Str),gn[g]? = some x->∃ d,gl[g]? = some d
 gds:∀ (n:Str) (l:List (Str × Int)),Tbs.gds.lookup n = some l->∃ a,mg n = some (.ref a)/\GdK w K a l
 dfs:∀ f∈Tbs.dfs,∃ fd st a fdd,Gd[f]? = some fd/\Dn K mg (lM Gd) gn fd st a fdd/\Binds K fdd fd.ps [.none]
def zQ {K:PySem.W.Frag} {H:Hp} {F:aq->Prop} {ds:List D} {vs:List V} {N:List Str} {k:Nat} {cs:List D} {a:aq} (fd:FD F H) (tf:TF F) (tb:gY H) (r:aK K H F ds vs) (fv:FnV H k cs a) (hl:vs.length+1<=N.length):Ok K ⟨H,λb=>F b/\∃ o,H b = some o/\Mo o⟩ F (L2.start N (vs++[.ref a])) H (og N.length ds k cs):=by
 have hlen:=r.length
 have low:∀ (i:Nat) (s:Sl),(og N.length ds k cs)[i]? = some s->s = .no\/(∃ d,ds[i]? = some d/\s = .val d)\/(i = ds.length/\s = .fnc k cs):=λi s e=>by
  unfold og at e;by_cases hi:i < ds.length
  . rw [aR (by simpa using hi),bV,aE hi] at e;cases e;exact .inr (.inl ⟨_,aE hi,rfl⟩)
  . rw [bh (by simp;lia),aB] at e
    cases q:i - ds.length with
    | zero =>
      rw [q] at e;cases e
      exact .inr (.inr ⟨∅,rfl⟩)
    | succ m =>
      rw [q,List.getElem?_cons_succ,dB] at e;split at e
      . cases e;exact .inl rfl
      . cases e
 have at_:∀ (i:Nat) (v:V),(vs++[.ref a])[i]? = some v->(L2.start N (vs++[.ref a]))[i]? = some (some v):=λi v e=>by
  unfold L2.start;have hi:i < (vs++[V.ref a]).length:=(aA.mp e).1;rw [aR (by rw [aB];exact hi),bV,e];rfl
 refine ⟨Sim.refl H,fd,λb z=>z.1,λb z=>z.2,tf,tb,?_,λi s e=>?_,λi j s t b e1 _ o1=>?_⟩
 . unfold og L2.start;simp only [ah,aB,dP,ay,aF]
   lia
 . rcases low i s e with rfl | ⟨d,e1,rfl⟩ | ⟨rfl,rfl⟩
   . trivial
   . obtain ⟨v,hv,rv⟩:=r.get e1;exact ⟨v,at_ i v (by rw [aR (aA.mp hv).1];exact hv),rv⟩
   . exact ⟨a,at_ _ _ (by rw [<- hlen,bh (az _),Nat.sub_self];rfl),fv⟩
 . rcases low i _ e1 with z | ⟨d,_,z⟩ | ⟨_,z⟩<;>(subst z;cases o1)
def grow {K:PySem.W.Frag} {H H':Hp} {F F':aq->Prop} {σ:L2.St} {δ:Loc} (hfd:FD F H) (ok:Ok K ⟨H,λb=>F b/\∃ o,H b = some o/\Mo o⟩ F' σ H' δ) (b:aq) (z:F b):F' b:=by
 obtain ⟨o,e,m | ⟨⟨ps,rfl⟩,t,ht,eb⟩⟩:=hfd b z
 . exact ok.rf b ⟨z,o,e,m⟩
 . rw [<- eb];exact ok.tf t ht
def okC {P:bp} {w:bQ} {K:PySem.W.Frag} {mg:Str->Option af} {base:cg} {x qual:Str} {st:dE} {f:aq} {fd:eM} {N ps:List Str} {k:Nat} {sp:Sp} (F:Fun K x qual st f fd) (S:mV N ps (bM st)) (len:∀ vs H Q E,sp vs H Q E->vs.length = ps.length)
 (hbody:∀ (A:bo) (outer:List Env) (s:ai) (H:Hp) (vs:List V) (Q:VK) (E:XK),jU k (A.deeper (envOfC qual (bM st) s.heap.objs.size f fd.code))->sp vs H Q E ->
   ∃ t,PSs (tL CX0 P w K mg base N qual (bM st) f fd.code A outer s H E).nox (fk st) t/\t { nx:=λ_ H'=>Q .non H',rt:=Q } (L2.start N vs) H):jJ P w K mg base CX0 (k+1) f fd ps sp:=by
 obtain ⟨oc,od,dV,kV,doc,pm,an,cdv,ct,osl,rfl,lk,hcd⟩:=F.ex;refine MH lk hcd S len λA outer s H vs Q E hr hsp=>?_;obtain ⟨t,h,q⟩:=hbody A outer s H vs Q E hr hsp;exact ⟨t,h.nox,q⟩
section
variable {P:bp} {w:bQ} {K:PySem.W.Frag} {mg:Str->Option af} {base:cg} {G Gd:List Fd} {gl:List D} {gn:List Str}
def BM (mg:Str->Option af) (base:cg):Prop:=∃ bm ob,mg "__builtins__" = some (.ref bm)/\bm≠builtinsNs/\base.get? bm = some ob/\ob.cls = .type "module"/\ob.dict = some builtinsNs/\ob.data = .plain
def mv (e:G[i]? = some fd) (h:run G gl (n+1) i ds = some d):ds.length = fd.ps.length/\∃ δ,entry fd.hf (fd.ps++fd.loc).length ds = some δ/\outD (en ⟨run G gl n,gl,hfs G⟩ fd.body δ) = some d:=by
 unfold run at h;rw [e] at h;dsimp only at h;split at h
 . cases q:entry fd.hf (fd.ps++fd.loc).length ds with
   | none=>rw [q] at h;cases h
   | some δ=>rw [q] at h;exact ⟨‹_›,δ,rfl,h⟩
 . cases h
def yh (few:G.length<=lF) (e:G[i]? = some fd) (h:run G gl (n+1) (i+lF) ds = some d):ds.length = fd.ps.length/\∃ δ,entry fd.hf (fd.ps++fd.loc).length ds = some δ/\GB (en ⟨run G gl n,gl,hfs G⟩ fd.body δ) = some d:=by
 unfold run at h;rw [dQ ∅] at h;dsimp only at h;rw [EL,e] at h;dsimp only at h;split at h
 . cases q:entry fd.hf (fd.ps++fd.loc).length ds with
   | none=>rw [q] at h;cases h
   | some δ=>rw [q] at h;exact ⟨(‹_/\_›).2,δ,rfl,h⟩
 . cases h
def rA (r:aK K H F ds vs) (e:ds.getLast? = some (.fn k cs)):False:=by
 rw [List.getLast?_eq_getElem?] at e;obtain ⟨v,_,rv⟩:=r.get e;unfold Rel at rv;exact rv
def uQ (z:n = 0):run G gl n f ds = none:=by
 subst z;rfl
def EA (T:Top w K mg G Gd gl gn) (hK:K.In base) (hB:BM mg base):∀ n:Nat,(∀ (i:Nat) (fd:Fd) (st:dE) (a:aq) (fdd:eM),Gd[i]? = some fd->Dn K mg (lM Gd) gn fd st a fdd ->
 jJ P w K mg base CX0 n a fdd fd.ps (spF K (run G gl n i))/\(fd.hf = true->jJ P w K mg base CX0 n a fdd fd.ps (zR K (run G gl n i)))/\jJ P w K mg base CX0 n a fdd fd.ps (spO K (run G gl n (i+lF)))) /\
 ∀ (k:Nat) (L:Lam),Tbs.lams.lookup k = some L->Hu P w K mg base n k (run G gl n k)
 | 0=>by
   have z:∀ i ds d,run G gl 0 i ds≠some d:=λi ds d h=>by unfold run at h;cases h
   refine ⟨λi fd st a fdd e _=>⟨⟨λvs H Q E h=>?_,λA outer s H args us vs Q E _ _ _ _ h=>?_⟩,λ_=>⟨λvs H Q E h=>?_,λA outer s H args us vs Q E _ _ _ _ h=>?_⟩,⟨λvs H Q E h=>?_,λA outer s H args us vs Q E _ _ _ _ h=>?_⟩⟩,λk L _ A outer s H a us vs cs Q _ _ _ _ h=>?_⟩
   . obtain ⟨F,ds,d,_,_,_,_,h1,_⟩:=h;exact (z _ _ _ h1).elim
   . obtain ⟨F,ds,d,_,_,_,_,h1,_⟩:=h;exact (z _ _ _ h1).elim
   . obtain ⟨F,ds,ws,k,cs,a,d,_,_,_,_,_,_,h1,_⟩:=h;exact (z _ _ _ h1).elim
   . obtain ⟨F,ds,ws,k,cs,a,d,_,_,_,_,_,_,h1,_⟩:=h;exact (z _ _ _ h1).elim
   . obtain ⟨F,ds,d,_,_,_,_,h1,_⟩:=h;exact (z _ _ _ h1).elim
   . obtain ⟨F,ds,d,_,_,_,_,h1,_⟩:=h;exact (z _ _ _ h1).elim
   . obtain ⟨F,ds,d,_,_,_,_,_,h1,_⟩:=h;exact (z _ _ _ h1).elim
 | n+1=>by
   obtain ⟨ih,il⟩:=EA T hK hB n
   have fns:∀ (f:Nat) (x:Str) (ps:List Str),(lM Gd)[f]? = some (x,ps)->∃ gd st a fdd,gd.name = x/\gd.ps = ps/\Gd[f]? = some gd/\Dn K mg (lM Gd) gn gd st a fdd:=λf x ps hf=>by
    have hf':(Gd.map λfd=>(fd.name,fd.ps))[f]? = some (x,ps):=hf;rw [bV,aQ] at hf';obtain ⟨gd,eg,ep⟩:=hf';cases ep;obtain ⟨st',a',fdd',D'⟩:=nQ T.fns eg;exact ⟨gd,st',a',fdd',rfl,rfl,eg,D'⟩
   have fn1:∀ (f:Nat) (x:Str) (ps:List Str),(lM Gd)[f]? = some (x,ps)->∃ a fd,mg x = some (.ref a)/\PySem.W.keepIn K (.ref a) = true/\Binds K fd ps []/\jJ P w K mg base CX0 n a fd ps (spF K (run G gl n f)):=λf x ps hf=>by
    obtain ⟨gd,st,a,fdd,rfl,rfl,eg,D'⟩:=fns f x ps hf;exact ⟨a,fdd,D'.mg,D'.fn.kp,D'.bd,(ih f gd st a fdd eg D').1⟩
   have fn2:∀ (f:Nat) (x:Str) (ps:List Str),(lM Gd)[f]? = some (x,ps)->hfs G f = true->∃ a fd,mg x = some (.ref a)/\PySem.W.keepIn K (.ref a) = true/\Binds K fd ps []/\jJ P w K mg base CX0 n a fd ps (zR K (run G gl n f)):=λf x ps hf hh=>by
    obtain ⟨gd,st,a,fdd,rfl,rfl,eg,D'⟩:=fns f x ps hf;refine ⟨a,fdd,D'.mg,D'.fn.kp,D'.bd,(ih f gd st a fdd eg D').2.1 ?_⟩;unfold hfs at hh;rw [T.sub f gd eg] at hh;exact hh
   have fn3:∀ (f:Nat) (x:Str) (ps:List Str),(lM Gd)[f]? = some (x,ps)->∃ a fd,mg x = some (.ref a)/\PySem.W.keepIn K (.ref a) = true/\Binds K fd ps []/\jJ P w K mg base CX0 n a fd ps (spO K (run G gl n (f+lF))):=λf x ps hf=>by
    obtain ⟨gd,st,a,fdd,rfl,rfl,eg,D'⟩:=fns f x ps hf;exact ⟨a,fdd,D'.mg,D'.fn.kp,D'.bd,(ih f gd st a fdd eg D').2.2⟩
   have fnd:∀ (f:Nat) (x:Str) (ps:List Str),(lM Gd)[f]? = some (x,ps)->f∈Tbs.dfs->∃ a fd,mg x = some (.ref a)/\PySem.W.keepIn K (.ref a) = true/\Binds K fd ps [.none]/\jJ P w K mg base CX0 n a fd ps (spF K (run G gl n f)):=λf x ps hf hd=>by
    obtain ⟨gd,st,a,fdd,eg,D',bd⟩:=T.dfs f hd;have hf':(Gd.map λfd=>(fd.name,fd.ps))[f]? = some (x,ps):=hf;rw [bV,eg] at hf';cases hf';exact ⟨a,fdd,D'.mg,D'.fn.kp,bd,(ih f gd st a fdd eg D').1⟩
   have lm1:∀ (m:Nat) (cs:List D) (H:Hp) (a:aq),FnV H m cs a->Hu P w K mg base n m (run G gl n m):=λm cs H a fv=>by
    obtain ⟨L,_,_,_,_,_,_,_,hL,_⟩:=fv;exact il m L hL
   refine ⟨λi fd st a fdd e Dd=>?_,λk L hL=>?_⟩
   . have eG:=T.sub i fd e
     have C:∀ (A:bo) (outer:List Env) (s:ai) (H:Hp) (E:XK),jU n (A.deeper (envOfC fd.name (bM st) s.heap.objs.size a fdd.code)) ->
      Cok (tL CX0 P w K mg base (fd.ps++fd.loc) fd.name (bM st) a fdd.code A outer s H E).nox ⟨fd.ps++fd.loc,bM st,lM Gd,gn⟩ ⟨run G gl n,gl,hfs G⟩ n:=λA outer s H E hr =>
      ⟨rfl,Dd.sc.nd,λx hx=>hx,λx hx=>hx,λx hx=>⟨hx,.inl rfl⟩,λx hx=>hx,rfl,rfl,hr,fn1,fn2,fn3,fnd,lm1,T.blt,T.glob,T.gsome,T.gds,λz f ds=>uQ z⟩
     have B:∀ (A:bo) (outer:List Env) (s:ai) (H:Hp) (E:XK),jU n (A.deeper (envOfC fd.name (bM st) s.heap.objs.size a fdd.code)) ->
      PSs (tL CX0 P w K mg base (fd.ps++fd.loc) fd.name (bM st) a fdd.code A outer s H E).nox (fk st) (tS K (en ⟨run G gl n,gl,hfs G⟩ fd.body)):=λA outer s H E hr=>by
      have hblk:(tL CX0 P w K mg base (fd.ps++fd.loc) fd.name (bM st) a fdd.code A outer s H E).nox.env.blockKind = .function:=by
       unfold Env.blockKind;show (if (bM st).kind.isAnnotationScope then ScopeKind.function else (bM st).kind) = _;rw [Dd.sc.kind];rfl
      rcases Dd.ck with ck | M' | oq
      . exact uK (cx:=⟨run G gl n,gl,hfs G⟩) (C A outer s H E hr) rfl hblk fd.body (fk st) ck
      . cases M' with
        | intro M =>
        rw [M.text,M.body];have args:=M.args;have Cc:=C A outer s H E hr;refine qY (BR (P:=M.P) (cells:=M.cells s.heap.objs.size) Cc M.lam ⟨⟨M.c,M.code,PySem.W.codeHd_of_K hK M.hd⟩,M.ql,M.tb,M.un,hB⟩ (M.cl _ _ _) (M.dft _) (M.cp _ _ _ _ rfl rfl) M.nd (λ_=>rfl) M.npk M.fn M.gl (λz tz hz hs=>wA M.es _ _ (M.y::M.ys) z tz Cc args (fU M.npk) hz hs) (λz=>?_) λz hz=>?_) uL
        . obtain ⟨_,_,_,a1,_⟩:=eJ args;exact cG (cw a1) _ _
        . obtain ⟨_,_,_,_,a2⟩:=eJ args;exact nu hz a2
      . exact oq _ _ n (C A outer s H E hr) rfl hblk rfl rfl
     have fin:∀ {F:aq->Prop} {H:Hp} {σ:L2.St} {δ:Loc} {d:D} {Q:VK} {E:XK} (hfd:FD F H) (htf:TF F) (ok:Ok K ⟨H,λb=>F b/\∃ o,H b = some o/\Mo o⟩ F σ H δ) (h2:outD (en ⟨run G gl n,gl,hfs G⟩ fd.body δ) = some d) (q:∀ v H',Sim H H'->gY H'->Rel K H' F d v->Q v H'),
      tS K (en ⟨run G gl n,gl,hfs G⟩ fd.body) { nx:=λ_ H'=>Q .non H',rt:=Q } σ H:=λ{F H σ δ d Q E} hfd htf ok h2 q=>by
      cases eo:en ⟨run G gl n,gl,hfs G⟩ fd.body δ with
      | none=>rw [eo] at h2;cases h2
      | some o =>
        rw [eo] at h2;refine ⟨⟨H,λb=>F b/\∃ o,H b = some o/\Mo o⟩,F,_,o,ok,eo,?_⟩
        cases o with
        | nx δ =>
          cases h2
          exact λσ' H' F' st' ok'=>q .non H' ok'.same ok'.tabs xU
        | rt d' δ =>
          cases h2;refine λv σ' H' F' st' ok' r'=>q v H' ok'.same ok'.tabs (Rel.step (G:=g0) ok'.fd ⟨λ_ _ _ e _=>e,λb z=>?_,λ_ _ r _ _=>r.elim,λ_ ps e=>⟨ps,e⟩⟩ _ v r')
          exact .inl (grow hfd ok' b z)
        | ro ds' δ =>
          cases h2;refine λa xs σ' H' F' st' ok' f1 f2 hd=>q _ H' ok'.same ok'.tabs ?_;exact Hand.rel ok'.fd (grow hfd ok') (rq hfd f2.1) hd
     have fiO:∀ {F:aq->Prop} {H:Hp} {σ:L2.St} {δ:Loc} {zs:D} {Q:VK} (hfd:FD F H) (htf:TF F) (ok:Ok K ⟨H,λb=>F b/\∃ o,H b = some o/\Mo o⟩ F σ H δ) (h2:GB (en ⟨run G gl n,gl,hfs G⟩ fd.body δ) = some zs) (q:∀ a v H',Sim H H'->gY H'->H a = none->Hand K H' (λb=>F b\/b = a) a zs v->Q v H'),
      tS K (en ⟨run G gl n,gl,hfs G⟩ fd.body) { nx:=λ_ H'=>Q .non H',rt:=Q } σ H:=λ{F H σ δ zs Q} hfd htf ok h2 q=>by
      cases eo:en ⟨run G gl n,gl,hfs G⟩ fd.body δ with
      | none=>rw [eo] at h2;cases h2
      | some o =>
        rw [eo] at h2;refine ⟨⟨H,λb=>F b/\∃ o,H b = some o/\Mo o⟩,F,_,o,ok,eo,?_⟩
        cases o with
        | ro ds' δ =>
          cases h2;refine λa xs σ' H' F' st' ok' f1 f2 hd=>q a xs H' ok'.same ok'.tabs f2.1 ?_
          have gr:∀ b,(F b\/b = a)->F' b:=λb z=>by
           rcases z with z | z
           . exact grow hfd ok' b z
           . rw [z];exact f1
          exact hd.less ok'.fd gr
        | _=>cases h2
     refine ⟨okC Dd.fn Dd.sc (λvs H Q E h=>?_) λA outer s H vs Q E hr h=>?_,λhh=>okC Dd.fn Dd.sc (λvs H Q E h=>?_) λA outer s H vs Q E hr h=>?_,okC Dd.fn Dd.sc (λvs H Q E h=>?_) λA outer s H vs Q E hr h=>?_⟩
     . obtain ⟨F,ds,d,_,_,_,r,h1,_⟩:=h;rw [r.length,(mv eG h1).1]
     . obtain ⟨F,ds,d,hfd,htf,htb,r,h1,q⟩:=h;obtain ⟨hl,δ,ed,h2⟩:=mv eG h1;have hlen:=r.length;refine ⟨_,B A outer s H E hr,?_⟩;unfold entry at ed;split at ed
       . cases ed;exact fin (E:=E) hfd htf (pI hfd htf htb r (by rw [hlen,hl,ah];lia)) h2 q
       . split at ed
         . rename_i eq;exact (rA r eq).elim
         . cases ed
     . obtain ⟨F,ds,ws,k,cs,b,d,_,_,_,rfl,r,_,h1,_⟩:=h;have:=(mv eG h1).1;rw [ah] at this |-;rw [r.length];exact this
     . obtain ⟨F,ds,ws,k,cs,b,d,hfd,htf,htb,rfl,r,fv,h1,q⟩:=h;obtain ⟨hl,δ,ed,h2⟩:=mv eG h1;have hlen:=r.length;refine ⟨_,B A outer s H E hr,?_⟩;rw [hh] at ed;unfold entry at ed;simp only [List.getLast?_concat,zk] at ed;cases ed;rw [ah] at hl;exact fin (E:=E) hfd htf (zQ hfd htf htb r fv (by rw [hlen,ah];simp at hl;lia)) h2 q
     . obtain ⟨F,ds,zs,_,_,_,r,h1,_⟩:=h;rw [r.length,(yh T.few eG h1).1]
     . obtain ⟨F,ds,zs,hfd,htf,htb,r,h1,q⟩:=h;obtain ⟨hl,δ,ed,h2⟩:=yh T.few eG h1;have hlen:=r.length;refine ⟨_,B A outer s H E hr,?_⟩;unfold entry at ed;split at ed
       . cases ed;exact fiO hfd htf (pI hfd htf htb r (by rw [hlen,hl,ah];lia)) h2 q
       . split at ed
         . rename_i eq;exact (rA r eq).elim
         . cases ed
   . obtain ⟨lo,fd,e,eG,ep,el,eb,eh,pk,ck⟩:=T.lams k L hL;refine Kr (cx:=⟨run G gl n,gl,hfs G⟩) (e:=e) hL lo (λa cd cl A outer s H hr=>?_) pk λds d h1=>?_
     . refine dM e (cxL P w K mg base L a cd cl A outer s H) ⟨L.ps++L.caps,L.scope,lM Gd,gn⟩ L.body (k:=n) ⟨rfl,lo.nd,λx hx=>hx,λx hx=>hx,λx hx=>?_,λx hx=>hx,rfl,rfl,hr,fn1,fn2,fn3,fnd,lm1,T.blt,T.glob,T.gsome,T.gds,λz f ds=>uQ z⟩ ck
       have:L.scope.names.lookup x = some .local:=by
        rcases hx with hx | hx
        . exact hx
        . exact absurd rfl (lo.nocell _ (PySem.mem_of_lookup hx))
       exact ⟨.inl this,.inr this⟩
     . obtain ⟨hl,δ,ed,h2⟩:=mv eG h1;rw [eh,ep,el,bA] at ed;rw [ep] at hl;cases ed;rw [eb] at h2;refine ⟨hl,?_⟩;simp only [en,evS,ae] at h2
       cases q:evE ⟨run G gl n,gl,hfs G⟩ e (init (L.ps++L.caps).length ds) with
       | none=>rw [q] at h2;cases h2
       | some r =>
         rw [q] at h2;cases h2;exact ⟨r.2,rfl⟩
end
def rxs (st:dE):List aG:=match fk st with
 | [.Return (some (.Call _ xs _ _)) _]=>xs
 | _=>[]
def rps (st:dE):Pos × Pos × Pos:=match fk st with
 | [.Return (some (.Call (.Name _ p) _ _ q)) r]=>(p,q,r)
 | _=>(⟨0,0,0,0⟩,⟨0,0,0,0⟩,⟨0,0,0,0⟩)
def rlm (st:dE):aG:=(rxs st).getLastD (.Constant .none 0 ⟨0,0,0,0⟩)
def NG:aG->oE
 | .Lambda a _ _ _=>a
 | _=>⟨[],[],none,[],[],none,[]⟩
def NF:aG->aG
 | .Lambda _ b _ _=>b
 | x=>x
def NC:aG->eK
 | .Lambda _ _ s _=>s
 | _=>{ kind:=.function,names:=[],isGenerator:=false,isCoroutine:=false,more:=[] }
def ND:aG->Pos
 | .Lambda _ _ _ p=>p
 | _=>⟨0,0,0,0⟩
def hS (a:aq) (o:Option HO):Hp:=λb=>if b = a/\o.isSome = true then o else if b∈Tbs.ts.map (·.1) then some (.tbl #[]) else none
def sV (e:hS a o b = some u):(b = a/\o = some u)\/(b∈Tbs.ts.map (·.1)/\u = .tbl #[]):=by
 unfold hS at e;split at e
 . rename_i h;exact .inl ⟨h.1,e⟩
 . split at e
   . cases e;exact .inr ⟨‹_›,rfl⟩
   . cases e
def GU {P:bp} {w:bQ} {K:PySem.W.Frag} {mg mb:Str->Option af} {fa a:aq} {fd:eM} {x:Str} {f:List D->Option D} {s₁:ai} {vs:List af} {ns:List Int}
 (KX:K.In s₁.heap) (hns:s₁.heap.Ns mainGlobals mg) (hb:s₁.heap.Ns builtinsNs mb) (hbb:∀ x:Str,x≠"__name__"->mb x = bootBuiltins x) (hlim:s₁.heap.NoLimit) (hg:s₁.gens = #[]) (hbm:BM mg s₁.heap)
 (ha:s₁.heap.get? a = some { cls:=.type "list",data:=.seq vs.toArray }) (hi:ET vs ns) (hl:ns.length<=sizeLine) (hr:jU 200 callerA)
 (ht:∀ t∈Tbs.ts,s₁.heap.get? t.1 = some (PySem.W.tabObj #[])/\K.lookup t.1 = none/\isCodeTable s₁.heap t.1)
 (F:∀ base:cg,K.In base->BM mg base->jJ P w K mg base CX0 200 fa fd [x] (spF K f)) (hbind:Binds K fd [x] [])
 (hf:f [.lst (ns.map .int)] = some (.bl true)) :
 codeAny (model P w) callerA (.call (.ref fa) ⟨[.ref a],[]⟩) (λr s'=>r = .ok (.ret (.bool true))/\OldK s₁.heap s'.heap/\s'.os = s₁.os/\lT s'.gens) s₁:=by
 have rv:=qW hi;have lenV:=hi.length
 have htm:∀ b,b∈Tbs.ts.map (·.1)->s₁.heap.get? b = some (PySem.W.tabObj #[])/\K.lookup b = none/\isCodeTable s₁.heap b:=λb hb=>by
  obtain ⟨t,h1,h2⟩:=cq.mp hb;rw [<- h2];exact ht t h1
 have aT:a∉Tbs.ts.map (·.1):=λz=>by
  have:=(htm a z).1;rw [ha] at this;cases this
 have core:∀ o:Option HO,(∀ u,o = some u->∃ xs,u = .frz { cls:=.type "list",data:=.seq vs.toArray } (.lst xs))->HOk P w (hS a o) s₁.heap->(o≠none->K.lookup a = none)->Rel K (hS a o) (λb=>b∈Tbs.ts.map (·.1)) (.lst (ns.map .int)) (.ref a) ->
  codeAny (model P w) callerA (.call (.ref fa) ⟨[.ref a],[]⟩) (λr s'=>r = .ok (.ret (.bool true))/\OldK s₁.heap s'.heap/\s'.os = s₁.os/\lT s'.gens) s₁:=by
  intro o hO hok hK hR;have base_of:∀ {b:aq} {x:Obj},s₁.heap.get? b = some x->hS a o b = none->(qI s₁.heap (hS a o)).get? b = some x:=λe n=>DO e n
  have noA:∀ {b:aq} {x:Obj},s₁.heap.get? b = some x->(∀ its n,x.data≠.seq its n)->(∀ vs,x.data≠.fields vs)->hS a o b = none:=λ{b x} e d1 d2=>by
   cases q:hS a o b with
   | none=>rfl
   | some u =>
     rcases sV q with ⟨rfl,_⟩ | ⟨z,_⟩
     . rw [ha] at e;cases e;exact absurd rfl (d1 _ _)
     . rw [(htm b z).1] at e;cases e;exact absurd rfl (d2 _)
  have nsK:∀ {b:aq} {m:Str->Option af},s₁.heap.Ns b m->(qI s₁.heap (hS a o)).Ns b m:=λ{b m} ⟨x,es,ep,e,d,r⟩=>⟨x,es,ep,base_of e (noA e (λ_ _ z=>by rw [d] at z;cases z) λ_ z=>by rw [d] at z;cases z),d,r⟩
  have hKb:K.In (qI s₁.heap (hS a o)):=λb x e=>base_of (KX b x e) (by
   cases q:hS a o b with
   | none=>rfl
   | some u =>
     rcases sV q with ⟨rfl,z⟩ | ⟨z,_⟩
     . rw [hK (by rw [z];simp)] at e;cases e
     . rw [(htm b z).2.1] at e;cases e)
  have hM:Mod K mg (qI s₁.heap (hS a o)):=⟨hKb,nsK hns,⟨mb,nsK hb,hbb⟩,let ⟨mc,h1,h2⟩:=hlim;⟨mc,nsK h1,h2⟩⟩
  have hB:BM mg (qI s₁.heap (hS a o)):=by
   obtain ⟨bm,ob,b1,b2,b3,b4,b5,b6⟩:=hbm;exact ⟨bm,ob,b1,b2,base_of b3 (noA b3 (λ_ _ z=>by rw [b6] at z;cases z) λ_ z=>by rw [b6] at z;cases z),b4,b5,b6⟩
  have e0:uc P w K mg (qI s₁.heap (hS a o)) callerA [] s₁ (hS a o):=⟨rfl,hM,λb x e=>GO e,Nat.le_of_eq (As _ _),trivial,λb hb=>absurd (show b∈([]:List aq) from hb) ↥0,hok,.of_eq hg⟩
  have atT:∀ b,b∈Tbs.ts.map (·.1)->hS a o b = some (.tbl #[]):=λb z=>by
   unfold hS;rw [if_neg (λy=>aT (by rw [<- y.1];exact z)),if_pos z]
  have sp:spF K f [.ref a] (hS a o) (λv _=>v = .bl true) E0:=⟨λb=>b∈Tbs.ts.map (·.1),[.lst (ns.map .int)],.bl true,λb z=>by
   obtain ⟨t,h1,h2⟩:=cq.mp z;exact ⟨_,atT b z,.inr ⟨⟨#[],rfl⟩,t,h1,h2⟩⟩,λt h=>cq.mpr ⟨t,h,rfl⟩,λt h=>⟨#[],atT _ (cq.mpr ⟨t,h,rfl⟩),trivial,λpos cv e=>by cases e⟩,aK.one hR,hf,λv H' _ _ r=>by unfold Rel at r;exact r⟩
  refine lQ ((F _ hKb hB).run callerA [] s₁ (hS a o) ⟨[.ref a],[]⟩ [.ref a] [.ref a] _ _ hr e0 (hbind s₁ [.ref a] KX rfl) (.cons rfl .nil) sp) λr s' h=>?_
  cases r with
  | error e=>exact cz h
  | ok fl =>
    cases fl with
    | next=>exact cz h
    | brk=>exact cz h
    | cont=>exact cz h
    | ret u =>
      obtain ⟨v,H',os,bare,un,hok',r',q⟩:=h;have q':v = .bl true:=q;subst q';obtain rfl:u = qO true:=r';refine ⟨rfl,⟨λb x e=>?_,λb x e=>un.there b x e ↥0⟩,os,bare⟩
      cases q:hS a o b with
      | none=>exact .inl (un.keep b x e q (by intro z;exact absurd (show b∈([]:List aq) from z) ↥0) ↥0)
      | some u =>
        rcases sV q with ⟨_,z⟩ | ⟨z,rfl⟩
        . obtain ⟨xs,rfl⟩:=hO u z;have z2:=un.frzs b _ _ q;obtain ⟨e1,_⟩:=hok b _ q;obtain ⟨e2,_⟩:=hok' b _ z2;rw [e] at e1;cases e1;exact .inl e2
        . obtain ⟨more,y⟩:=un.tbls b _ q;have e2:s'.heap.get? b = some { cls:=.none,data:=.fields (#[]++more) }:=hok' b _ y;have e1:=(htm b z).1;rw [e] at e1;cases e1;exact .inr (.inl ⟨(htm b z).2.2,rfl,#[],more,rfl,e2⟩)
 have rl:∀ (H:Hp) (F:aq->Prop) (ms:List Int),aK K H F (ms.map .int) (ms.map V.int):=by
  intro H F ms
  induction ms with
  | nil=>exact aK.nil
  | cons m ms ih=>exact aK.cons (eA m) ih
 have hok1:∀ o:Option HO,(∀ u,o = some u->fF P w (hS a o) s₁.heap a u)->HOk P w (hS a o) s₁.heap:=λo ho b u e=>by
  rcases sV e with ⟨rfl,z⟩ | ⟨z,rfl⟩
  . exact ho u z
  . exact (htm b z).1
 cases hk:K.lookup a with
 | some x =>
   have e:=KX a x hk;rw [ha] at e;cases e;refine core none (λu z=>by cases z) (hok1 none λu z=>by cases z) (λz=>absurd rfl z) ?_;unfold Rel
   exact ⟨a,ns.map V.int,rfl,.inr ⟨vs.toArray,_,hk,by rw [aI,lenV];exact hl,by simpa using rv⟩,rl _ _ ns⟩
 | none =>
   refine core (some (.frz { cls:=.type "list",data:=.seq vs.toArray } (.lst (ns.map V.int)))) (λu z=>⟨_,(bR z).symm⟩) (hok1 _ λu z=>?_) (λ_=>hk) ?_
   . cases z;exact ⟨ha,by rw [aB];exact hl,vs,_,rv,ha⟩
   . unfold Rel;refine ⟨a,ns.map V.int,rfl,.inl ⟨.inr ⟨{ cls:=.type "list",data:=.seq vs.toArray },?_⟩,aT⟩,rl _ _ ns⟩;unfold hS;rw [if_pos ⟨rfl,rfl⟩]
def walk_run {l:PySem.W.OpenLaw} {q:bp} {loose:List Str} {XP:(Str->Option af)->cg->Prop} {YP:bQ->cg->Prop} {d:DefRec} {K:Params->PySem.W.Frag} {G Gd:List Fd} {gl:List D} {gn:List Str} {i:Nat} {fd:Fd} {x:Str}
 (main:∀ ns:List Int,ns.length<=63->run G gl 200 i [.lst (ns.map .int)] = some (.bl true)) (hi:Gd[i]? = some fd) (hp:fd.ps = [x])
 (hn:l.most = some 63) (hdf:d.params.defaults = []) (hY:∀ (w:bQ) (h:cg),YP w h->(K w.params).In h/\∀ t∈Tbs.ts,h.get? t.1 = some (PySem.W.tabObj #[]))
 (hnm:fd.name = d.name) (F:∀ (w:bQ) (mg:Str->Option af) (h:cg),(K w.params).In h->h.Ns mainGlobals mg->Top w (K w.params) mg G Gd gl gn/\∀ t∈Tbs.ts,(K w.params).lookup t.1 = none/\∃ c,PySem.W.codeHdIn (K w.params) c t.1 = true) :
 PySem.W.WalkO q loose XP YP l.row.toRowW d [] (λf vs=>PySem.call f vs):=by
 have hr:jU 200 callerA:=⟨rfl,⇑0,⇑0⟩;refine Att.attach_call hn hdf λw s₀ s₁ mg mb fa o pm cd doc a vs ns TT Y ho hd hcd hmg hobj hints hlen hg=>?_;obtain ⟨KX,tabs⟩:=hY w _ Y;obtain ⟨T,tc⟩:=F w mg _ KX TT.T.g;obtain ⟨st,fa',fdd,Dd⟩:=nQ T.fns hi
 obtain rfl:fa = fa':=by
  have e:=Dd.mg;rw [hnm,hmg] at e;cases e;rfl
 refine GU KX TT.T.g TT.T.b TT.T.builtins TT.T.nolimit hg TT.T.bmain hobj hints (bq hlen ⇑0) hr (λt ht=>?_) (λbase hK hB=>?_) (hp▸Dd.bd) (main ns hlen)
 . obtain ⟨h1,c,h2⟩:=tc t ht;exact ⟨tabs t ht,h1,((PySem.W.codeHd_of_K KX h2).tab (tabs t ht)).isCodeTable⟩
 . have:=((EA (P:=l.prog) (w:=w) (base:=base) T hK hB 200).1 i fd st fa fdd hi Dd).1;rw [hp] at this;exact this
section
def wN (K:PySem.W.Frag) (x:Str):Bool:=match PySem.W.nsIn K mainGlobals x with
 | some none=>true
 | _=>false
def Hq {K:PySem.W.Frag} {h:cg} {mg:Str->Option af} (X:K.In h) (G:h.Ns mainGlobals mg) (q:ji.all (wN K) = true) (x:Str) (hx:x∈ji):mg x = none:=by
 have h:=cX.mp q x hx;unfold wN at h;split at h
 . exact PySem.W.mg_none_of X G ‹_›
 . cases h
def sub_app {a b:List Fd} (i:Nat) (fd:Fd) (h:a[i]? = some fd):(a++b)[i]? = some fd:=by
 rw [aR (aA.mp h).1];exact h
end
end PP
end
section
namespace PP
open PySem L2
def um:∀ {ps:List Str} {us:List af} {x:Str},us.length = ps.length->x∈ps->((ps.zip us).lookup x).isSome = true
 | p::ps,u::us,x,hl,hx=>by
   rw [bS,cm];split
   . rfl
   . rename_i z;refine um (lV hl) ((aC.mp hx).resolve_left λe=>?_);rw [e,beq_self_eq_true] at z
     cases z
 | [],_,x,hl,hx=>by cases hx
 | p::ps,[],x,hl,hx=>by cases hl
def uk:∀ {ps:List Str} {us:List af},us.length = ps.length->ps.Nodup->(ps.filterMap λn=>((ps.zip us).lookup n).map (n,·)) = ps.zip us
 | [],us,hl,_=>by rfl
 | p::ps,[],hl,_=>by cases hl
 | p::ps,u::us,hl,nd=>by
   rw [cD] at nd;have ih:=uk (lV hl) nd.2;rw [bS,cT,cm,beq_self_eq_true];dsimp only [Option.map];congr 1
   have h:∀ l:List Str,p∉l->(l.filterMap λn=>((((p,u)::ps.zip us).lookup n).map (n,·))) = l.filterMap λn=>((ps.zip us).lookup n).map (n,·):=λl=>by
    induction l with
    | nil=>intro _;rfl
    | cons n l il =>
      intro hn;rw [aC,not_or] at hn;rw [cT,cT,il hn.2,cm,show (n == p) = false from beq_eq_false_iff_ne.mpr λe=>hn.1 e.symm]
   exact (h ps nd.1).trans ih
def ifF {α:Type} {c:Prop} [Decidable c] {a b x:α} (h:¬ c) (e:b = x):(if c then a else b) = x:=by rw [if_neg h];exact e
def qu {fd:eM} {ps:List Str} {us:List af} (h1:fd.params.posonlyargs = []) (h2:fd.params.args.map (·.arg) = ps) (h3:fd.params.kwonlyargs = []) (h4:fd.params.vararg = none) (h5:fd.params.kwarg = none) (h6:fd.defaults = .none) (nd:ps.Nodup) (hl:us.length = ps.length):bindArgs fd ⟨us,[]⟩ = pure (ps.zip us):=by
 have hm:((ps.take ps.length).filter λn=>((ps.zip us).lookup n).isNone) = []:=by
  rw [List.take_length,List.filter_eq_nil_iff];intro x hx;have:=um hl hx
  cases e:(ps.zip us).lookup x with
  | none=>rw [e] at this;cases this
  | some v=>simp
 cases fd with
 | mk a b p c d e f df g =>
   cases p with
   | mk p1 p2 p3 p4 p5 p6 p7 =>
     cases h1;cases h3;cases h4;cases h5;cases h6;cases h2;have hl:us.length = (p2.map (·.arg)).length:=hl;refine ifF (α:=Sem _) (λz=>?_) ?_
     . have z:(decide (us.length > (p2.map (·.arg)).length) && true) = true:=z;rw [hl,mZ,decide_eq_true_eq] at z;exact cR _ z
     generalize hd:List.drop _ _ = dd;obtain rfl:dd = []:=hd.symm.trans List.drop_nil;refine ifF (α:=Sem _) (λz=>Bool.noConfusion ((congrArg (λl:List Str=>!l.isEmpty) hm).symm.trans z)) ?_;generalize hz:List.zip (List.drop _ _) ([]:List af) = zz;obtain rfl:zz = []:=hz.symm.trans iV;have e:(p2.map Arg.arg++[]).filterMap (λn=>(((p2.map Arg.arg).zip us).lookup n).map (n,·)) = (p2.map Arg.arg).zip us:=by rw [bA];exact uk hl nd
     exact congrArg (pure:_->Sem _) e
def okD (d:Fd) (a:oE) (s:eK):Bool :=
 a.posonlyargs.isEmpty && (a.kwonlyargs.isEmpty && (a.vararg.isNone && (a.kwarg.isNone && (decide (a.args.map (·.arg) = d.ps) && (decide (s.kind = .function) && ((!s.isCoroutine) && ((!s.isGenerator) && (decide (d.ps++d.loc).Nodup && (d.ps.all (λx=>decide (s.names.lookup x = some .local) || decide (s.names.lookup x = some .cell)) && s.names.all λy=>decide (y.2≠.free))))))))))
def Dj {d:Fd} {st:dE} (h:okD d (gM st) (bM st) = true):mV (d.ps++d.loc) d.ps (bM st):=by
 simp only [okD,aa,cE,decide_eq_true_eq,cX,gF] at h;obtain ⟨_,_,_,_,_,k,c,g,nd,p,f⟩:=h;exact ⟨k,c,g,nd,List.take_left,p,f⟩
def Dk {K:PySem.W.Frag} {d:Fd} {st:dE} {fd:eM} (e1:fd.params = gM st) (e2:fd.defaults = .none) (h:okD d (gM st) (bM st) = true):Binds K fd d.ps []:=by
 simp only [okD,aa,decide_eq_true_eq,List.isEmpty_iff,fM] at h;obtain ⟨h1,h2,h3,h4,h5,_,_,_,nd,_⟩:=h;rw [<- e1] at h1 h2 h3 h4 h5;exact .all λus hl=>qu h1 h5 h2 h3 h4 e2 (ot.mp nd).1 hl
section
variable [Tbs] {K:PySem.W.Frag} {h:cg} {w:bQ} {mg:Str->Option af} {cf:List (Str × List Str)} {gn:List Str} {tp:Nat->dE} {G Gd:List Fd} {gl:List D}
inductive Hds (K:PySem.W.Frag) (mg:Str->Option af) (cf:List (Str × List Str)) (gn:List Str) (tp:Nat->dE):List Fd->List (String × Nat)->Prop
 | nil:Hds K mg cf gn tp [] []
 | own {d:Fd} {i:String × Nat} {r:List Fd} {is:List (String × Nat)} (e:∃ st a fdd,Dn K mg cf gn d st a fdd) (t:Hds K mg cf gn tp r is):Hds K mg cf gn tp (d::r) (i::is)
 | cons {d:Fd} {x:String} {i:Nat} {f:aq} {oc:af} {od an:Option aq} {osl:Array (Option af)} {kV doc pm cdv ct:af} {r:List Fd} {is:List (String × Nat)} (a:PySem.W.nsIn K mainGlobals (.ofString x) = some (some (.ref f))) (l:K.lookup f = some ⟨oc,od,.func (PySem.W.fnOf (.ofString x) (.ofString x) (gM (tp i)) (fk (tp i)) (bM (tp i)) .none kV doc pm an cdv ct),osl⟩)
   (c:PySem.W.codeIn K cdv (.ofString x) = true) (k:PySem.W.keepIn K (.ref f) = true) (z:(decide (d.name = .ofString x) && (okD d (gM (tp i)) (bM (tp i)) && xp ⟨d.ps++d.loc,bM (tp i),cf,gn⟩ d.body (fk (tp i)))) = true) (t:Hds K mg cf gn tp r is):Hds K mg cf gn tp (d::r) ((x,i)::is)
def Hd (X:K.In h) (N:h.Ns mainGlobals mg) {l:List Fd} {is:List (String × Nat)} (H:Hds K mg cf gn tp l is):ze K mg cf gn l:=by
 induction H with
 | nil=>trivial
 | own e t ih=>exact ⟨e,ih⟩
 | cons a l c k z t ih =>
   rw [aa,decide_eq_true_eq,aa] at z;obtain ⟨z0,z1,z2⟩:=z;rw [<- z0] at a l c;have F:=DS l c k;exact ⟨⟨_,_,_,F,PySem.W.mg_of X N a,Dj z1,.inl z2,Dk rfl rfl z1⟩,ih⟩
mutual
inductive InK (K:PySem.W.Frag):D->af->Prop
 | str {x:Str} {t:Tok}:InK K (.str x) (.str x t)
 | int {x:Int} {t:Tok}:InK K (.int x) (.int x t)
 | tup {ds:List D} {a:aq} {oD:Option aq} {oS:Array (Option af)} {n:Nat} {vs:Array af} (l:K.lookup a = some ⟨.type "tuple",oD,.seq vs n,oS⟩) (q:InKs K ds vs.toList) (z:vs.size<=99):InK K (.tup ds) (.ref a)
inductive InKs (K:PySem.W.Frag):List D->List af->Prop
 | nil:InKs K [] []
 | cons {d:D} {v:af} {ds:List D} {vs:List af} (e:InK K d v) (t:InKs K ds vs):InKs K (d::ds) (v::vs)
end
mutual
theorem InK.rel:∀ {d:D} {u:af},InK K d u->∃ v,RelV v u/\∀ H F,Rel K H F d v
 | _,_,.str=>⟨.str _,⟨_,rfl⟩,λH F=>iI _⟩
 | _,_,.int=>⟨.int _,⟨_,rfl⟩,λH F=>eA _⟩
 | _,_,.tup l q z=>by
   obtain ⟨vs,h1,h2⟩:=q.rel;refine ⟨.ref _,rfl,λH F=>?_⟩;unfold Rel;exact ⟨_,vs,rfl,.inr ⟨_,_,_,l,rfl,rfl,bq z ⇑0,h1⟩,h2 H F⟩
theorem InKs.rel:∀ {ds:List D} {us:List af},InKs K ds us->∃ vs,Vals vs us/\∀ H F,aK K H F ds vs
 | _,_,.nil=>⟨[],.nil,λ_ _=>aK.nil⟩
 | _,_,.cons e t=>by
   obtain ⟨v,h1,h2⟩:=e.rel;obtain ⟨vs,h3,h4⟩:=t.rel;exact ⟨v::vs,.cons h1 h3,λH F=>aK.cons (h2 H F) (h4 H F)⟩
end
inductive Gls (K:PySem.W.Frag):List Str->List D->Prop
 | nil:Gls K [] []
 | cons {x:Str} {d:D} {v:af} {xs:List Str} {ds:List D} (a:PySem.W.nsIn K mainGlobals x = some (some v)) (e:InK K d v) (t:Gls K xs ds):Gls K (x::xs) (d::ds)
def yI (X:K.In h) (N:h.Ns mainGlobals mg) (H:Gls K gn gl):∀ (g:Nat) (x:Str),gn[g]? = some x->∃ d,gl[g]? = some d/\∃ u v,mg x = some u/\RelV v u/\∀ H F,Rel K H F d v:=by
 induction H with
 | nil=>intro g x e;cases g<;>cases e
 | cons a e t ih =>
   intro g x z
   cases g with
   | zero =>
     cases z;obtain ⟨v,h1,h2⟩:=e.rel
     exact ⟨_,rfl,_,v,PySem.W.mg_of X N a,h1,h2⟩
   | succ g=>exact ih g x z
def DB {l:List (Nat × Lam)} {k:Nat} {L:Lam} (h:l.lookup k = some L):(k,L)∈l:=by
 induction l with
 | nil=>cases h
 | cons p l ih =>
   rw [cm] at h;split at h
   . rename_i z;cases h;rw [eq_of_beq z];exact ak
   . exact aj _ (ih h)
def top_mk (X:K.In h) (N:h.Ns mainGlobals mg) {is:List (String × Nat)} (H:Hds K mg (lM Gd) gn tp Gd is) (sub:∀ (i:Nat) (fd:Fd),Gd[i]? = some fd->G[i]? = some fd) (few:G.length<=lF) (lams:∀ p∈Tbs.lams,Ln G Gd gn p.1 p.2) (hb:ji.all (wN K) = true) (hg:Gls K gn gl)
 (gds:∀ (n:Str) (l:List (Str × Int)),Tbs.gds.lookup n = some l->∃ a,mg n = some (.ref a)/\GdK w K a l) (dfs:∀ f∈Tbs.dfs,∃ fd st a fdd,Gd[f]? = some fd/\Dn K mg (lM Gd) gn fd st a fdd/\Binds K fdd fd.ps [.none]):Top w K mg G Gd gl gn :=
 ⟨Hd X N H,sub,few,λk L e=>lams (k,L) (DB e),Hq X N hb,λg x d h1 h2=>by
   obtain ⟨d',e,r⟩:=yI X N hg g x h1;rw [h2] at e;cases e;exact r,λg x h1=>by
   obtain ⟨d',e,r⟩:=yI X N hg g x h1;exact ⟨d',e⟩,gds,dfs⟩
end
def jL:Nat->Ss->Ss
 | 0,_=>.nil
 | _,.nil=>.nil
 | k+1,.cons s ss=>.cons s (jL k ss)
def fj:Nat->Ss->Ss
 | 0,ss=>ss
 | _,.nil=>.nil
 | k+1,.cons _ ss=>fj k ss
def nxS (R:PP.Loc->Prop) (Q:Out->Prop):Out->Prop
 | .nx δ=>R δ
 | o=>Q o
def xJ (h:wS cx s δ P) (k:∀ o,P o->Q o):wS cx s δ Q:=let ⟨o,e,p⟩:=h;⟨o,e,k o p⟩
def ig {R:PP.Loc->Prop}:∀ (k:Nat) (ss:Ss) (δ:PP.Loc),wSs cx (jL k ss) δ (nxS R Q)->(∀ δ',R δ'->wSs cx (fj k ss) δ' Q)->wSs cx ss δ Q
 | 0,ss,δ,h,q=>by
   unfold jL at h
   exact q δ (iH.mp h)
 | _+1,.nil,δ,h,q=>by
   unfold jL at h;unfold fj at q
   exact q δ (iH.mp h)
 | k+1,.cons s ss,δ,h,q=>by
   unfold jL at h;unfold fj at q;refine cM.mpr (xJ (cM.mp h) λo p=>?_)
   cases o with
   | nx δ1=>exact ig k ss δ1 p q
   | rt d δ1=>exact p
   | ro d δ1=>exact p
def dC (k:Nat) (δ':PP.Loc) (h:en cx (jL k ss) δ = some (.nx δ')) (q:wSs cx (fj k ss) δ' Q):wSs cx ss δ Q:=ig (R:=λd=>d = δ') k ss δ ⟨.nx δ',h,rfl⟩ λ_ e=>e▸q
def Iy (P:Bool->Prop) (h:wT cx c δ λk δ1=>δ1 = δ0/\P k) (ha:P true->wSs cx a δ0 Q) (hb:P false->wSs cx b δ0 Q):wS cx (.ifs c a b) δ Q:=by
 obtain ⟨k,δ1,e,rfl,p⟩:=h;refine vS.mpr ⟨k,δ1,e,?_⟩;cases k
 . exact hb p
 . exact ha p
def GY {c A B:Prop} [Decidable c] (h1:c->A) (h2:¬ c->B):if c then A else B:=by
 by_cases h:c
 . rw [if_pos h];exact h1 h
 . rw [if_neg h];exact h2 h
def DI {a b X Y:Prop} [Decidable a] [Decidable b] (hX:a\/b->X) (hY:¬ a->¬ b->Y):if a then X else if b then X else Y:=by
 by_cases ha:a
 . rw [if_pos ha];exact hX (.inl ha)
 . rw [if_neg ha];by_cases hb:b
   . rw [if_pos hb];exact hX (.inr hb)
   . rw [if_neg hb];exact hY ha hb
def vI:Ss->Ss->Ss
 | .nil,r=>r
 | .cons s t,r=>.cons s (vI t r)
def rV {r:Ss}:∀ {a:Ss} {δ:PP.Loc},wSs cx (vI a r) δ Q->wSs cx a δ (qX cx r Q)
 | .nil,δ,h=>iH.mpr (me.mpr h)
 | .cons s t,δ,h=>cM.mpr (xJ (cM.mp h) λo p=>by
   cases o with
   | nx δ1=>exact rV p
   | rt d δ1=>exact p
   | ro d δ1=>exact p)
def dS (p:Bool) (h:evT cx c δ = some (p,δ)) (ha:p = true->wSs cx (vI a r) δ Q) (hb:p = false->wSs cx (vI b r) δ Q):wSs cx (.cons (.ifs c a b) r) δ Q :=
 cM.mpr (vS.mpr ⟨p,δ,h,by cases p;exact rV (hb rfl);exact rV (ha rfl)⟩)
variable {G:List Fd} {gl:List D} {n f:Nat}
def Bb (as:List D) (δ1:PP.Loc) (h:dU ⟨PP.run G gl n,gl,hfs G⟩ es δ = some (as,δ1)) (hc:gg G gl n f as λd=>∃ δ2,dq δ1 tg d = some δ2/\wSs ⟨PP.run G gl n,gl,hfs G⟩ r δ2 Q):wSs ⟨PP.run G gl n,gl,hfs G⟩ (.cons (.asg tg (.call f es)) r) δ Q :=
 cM.mpr (vT.mpr (oK.mpr ⟨as,δ1,h,ni.mpr hc⟩))
def AZ (as:List D) (δ1:PP.Loc) (h:dU ⟨PP.run G gl n,gl,hfs G⟩ es δ = some (as,δ1)) (hc:gg G gl n f as Q):wSs ⟨PP.run G gl n,gl,hfs G⟩ (.cons (.ret (.call f es)) r) δ (retS Q) :=
 cM.mpr (vR.mpr (oK.mpr ⟨as,δ1,h,ni.mpr hc⟩))
def gG (as:List D) (h:dU ⟨PP.run G gl n,gl,hfs G⟩ es δ = some (as,δ)) (hc:gg G gl n f as λd=>∃ δ2,dq δ tg d = some δ2/\wSs ⟨PP.run G gl n,gl,hfs G⟩ r δ2 Q):wSs ⟨PP.run G gl n,gl,hfs G⟩ (.cons (.asg tg (.call f es)) r) δ Q:=Bb as δ h hc
def kA (as:List D) (h:dU ⟨PP.run G gl n,gl,hfs G⟩ es δ = some (as,δ)) (hc:gg G gl n f as Q):wSs ⟨PP.run G gl n,gl,hfs G⟩ (.cons (.ret (.call f es)) r) δ (retS Q):=AZ as δ h hc
def xI (d:D) (h:evE cx e δ = some (d,δ)) (q:∃ δ2,dq δ tg d = some δ2/\wSs cx r δ2 Q):wSs cx (.cons (.asg tg e) r) δ Q:=cM.mpr (vT.mpr ⟨d,δ,h,q⟩)
def xk (ha:evE cx a δ = some (x,δ)) (hb:evE cx b δ = some (y,δ)) (h:ixD x y = some z):evE cx (.ix a b) δ = some (z,δ):=by
 simp only [evE,ha,hb,h,ae,bB];rfl
def sZ (ha:evE cx a δ = some (x,δ)) (hb:evE cx b δ = some (y,δ)) (h:vD op x y = some p):evT cx (.cmp op a b) δ = some (p,δ):=by
 simp only [evT,ha,hb,h,ae,bB];rfl
def jr (d:D) (h:evE cx e δ = some (d,δ)) (ho:δ[i]? = some (.own ds)) (hl:ds.length < sizeLine) (q:wSs cx r (δ.set i (.own (ds++[d]))) Q):wSs cx (.cons (.append i e) r) δ Q:=by
 have hi:i < δ.length:=(aA.mp ho).1;refine cM.mpr (qT.mpr ?_);unfold qD;rw [ho];refine ⟨d,δ,h,?_⟩;dsimp only;rw [ho];exact ⟨hl,hi,q⟩
def He:Ss->Ss
 | .cons (.for_ _ _ b) _=>b
 | _=>.nil
def DZ (ha:evT cx a δ = some (p,δ)) (hb:evT cx b δ = some (q,δ)):evT cx (.or a b) δ = some (p || q,δ):=by
 simp only [evT,ha,ae,bB];cases p
 . exact hb
 . rfl
def Eb {α:Type} (g h:α->D) (as:α->List D) (xs:List α) (hl:xs.length<=sizeLine) (hi:evI ⟨PP.run G gl n,gl,hfs G⟩ src δ = some (xs.map g,δ)) (hd:i = δ.length) (he:∀ x∈xs,dU ⟨PP.run G gl n,gl,hfs G⟩ es (δ++[.val (g x)]) = some (as x,δ++[.val (g x)])) (hc:∀ x∈xs,PP.run G gl n f (as x) = some (h x)):evE ⟨PP.run G gl n,gl,hfs G⟩ (.comp 1 (.nm i) src .no (.call f es)) δ = some (.lst (xs.map h),δ):=by
 subst hd
 have:wE ⟨PP.run G gl n,gl,hfs G⟩ (.comp 1 (.nm δ.length) src .no (.call f es)) δ λd δ'=>d = .lst (xs.map h)/\δ' = δ:=by
  refine xK.mpr ⟨_,_,hi,kC g (λ_=>true) h xs (λx hx=>?_) ?_⟩
  . refine ⟨δ++[.val (g x)],?_,true,_,rfl,rfl,?_⟩
    . show (if δ.length < (δ++aS 1 Sl.no).length then _ else _) = _;rw [if_pos ↥0];simp [List.set_append_right]
    . rw [if_pos rfl];exact oK.mpr ⟨_,_,he x hx,_,hc x hx,rfl,↥0⟩
  . rw [AL.mpr λ_ _=>rfl,aB];exact ⟨hl,rfl,rfl⟩
 obtain ⟨_,_,e,rfl,rfl⟩:=this;exact e
def Ax (h:evE cx e δ = some (.lst ds,δ)):evE cx (.blt .toTup (.cons e .nil)) δ = some (.tup ds,δ):=by
 simp only [evE,dU,h,ae,bB];rfl
def jE (as:List D) (he:dU ⟨PP.run G gl n,gl,hfs G⟩ es δ = some (as,δ)) (hc:PP.run G gl n f as = some d):evE ⟨PP.run G gl n,gl,hfs G⟩ (.call f es) δ = some (d,δ):=by
 simp only [evE,he,hc,ae,bB];rfl
def qo (h:evE cx e δ = some (d,δ)) (hi:items d = some ds):evI cx (.sq e) δ = some (ds,δ):=by
 simp only [evI,h,hi,ae,bB];rfl
def eU (h:evE cx e δ = some (d,δ)) (hs:dU cx es δ = some (ds,δ)):dU cx (.cons e es) δ = some (d::ds,δ):=by
 simp only [dU,h,hs,ae,bB];rfl
def yN (h:dU cx es δ = some (ds,δ)) (hl:ds.length<=sizeLine):evE cx (.tup es) δ = some (.tup ds,δ):=by
 simp only [evE,h,ae,bB];rw [if_pos hl];rfl
def Hh (ha:evE cx a δ = some (x,δ)) (hb:evE cx b δ = some (y,δ)) (h:opD op x y = some z):evE cx (.bin op a b) δ = some (z,δ):=by
 simp only [evE,ha,hb,h,ae,bB];rfl
def rT (d:D) (h:evE cx e δ = some (d,δ)) (q:Q d):wSs cx (.cons (.ret e) r) δ (retS Q):=cM.mpr (vR.mpr ⟨d,δ,h,q⟩)
def Ea (h:dU cx es δ = some (ds,δ)) (hi:zpD ds = some zs):evI cx (.zp es) δ = some (zs,δ):=by
 simp only [evI,h,hi,ae,bB];rfl
def Hg (h:dU cx es δ = some (ds,δ)) (hb:jS b ds = some z):evE cx (.blt b es) δ = some (z,δ):=by
 simp only [evE,h,hb,ae,bB];rfl
def md (ds:List D) (h:evI cx src δ = some (ds,δ)) (q:uw cx tg body ds δ (qX cx r Q)):wSs cx (.cons (.for_ tg src body) r) δ Q:=cM.mpr (Be.mpr ⟨ds,δ,h,q⟩)
end PP
end
section
namespace PP
open PySem
mutual
theorem mL:∀ (a b:D),hb a = true->hb b = true->(eqD a b = true↔a = b)
 | .str x,.str y,_,_=>by unfold eqD;simp
 | .int x,.int y,_,_=>by unfold eqD;simp
 | .tup xs,.tup ys,h1,h2=>by
   unfold hb at h1 h2;unfold eqD;rw [vq xs ys h1 h2]
   simp
 | .str _,.int _,_,_ | .str _,.tup _,_,_ | .int _,.str _,_,_ | .int _,.tup _,_,_ | .tup _,.str _,_,_ | .tup _,.int _,_,_=>by unfold eqD;simp
 | .non,_,h,_ | .bl _,_,h,_ | .lst _,_,h,_ | .fn _ _,_,h,_=>by unfold hb at h;cases h
 | _,.non,_,h | _,.bl _,_,h | _,.lst _,_,h | _,.fn _ _,_,h=>by unfold hb at h;cases h
theorem vq:∀ (a b:List D),hbL a = true->hbL b = true->(gw a b = true↔a = b)
 | [],[],_,_=>by unfold gw;simp
 | [],_::_,_,_=>by unfold gw;simp
 | _::_,[],_,_=>by unfold gw;simp
 | x::xs,y::ys,h1,h2=>by
   unfold hbL at h1 h2;rw [aa] at h1 h2;unfold gw;rw [aa,mL x y h1.1 h2.1,vq xs ys h1.2 h2.2];simp
end
def ltS (a b:Str):Bool:=decide (a.cps.toList < b.cps.toList)
def Dx (a b:Str) (h:ltS a b = true):ltS b a = false:=by
 unfold ltS at h |-;rw [decide_eq_true_eq] at h;rw [decide_eq_false_iff_not];exact List.lt_asymm h
def Kl (a b c:Str) (h1:ltS b a = false) (h2:ltS c b = false):ltS c a = false:=by
 unfold ltS at h1 h2 |-;rw [decide_eq_false_iff_not] at h1 h2 |-;exact List.le_trans h1 h2
def Km (a b:Str) (h1:ltS a b = false) (h2:ltS b a = false):a = b:=by
 unfold ltS at h1 h2;rw [decide_eq_false_iff_not] at h1 h2;have:=List.le_antisymm h2 h1;obtain ⟨⟨x⟩⟩:=a;obtain ⟨⟨y⟩⟩:=b;simp at this;rw [this]
def gv {a b:D} {k:Bool} (h:ltD a b = some k):(∃ i j:Int,a = .int i/\b = .int j/\k = decide (i < j))\/(∃ s t:Str,a = .str s/\b = .str t/\k = ltS s t)\/∃ xs ys,a = .tup xs/\b = .tup ys/\eH xs ys = some k:=by
 unfold ltD at h;split at h
 . cases h;exact .inl ⟨_,_,rfl,rfl,rfl⟩
 . cases h;exact .inr (.inl ⟨_,_,rfl,rfl,rfl⟩)
 . exact .inr (.inr ⟨_,_,rfl,rfl,h⟩)
 . cases h
def eS {x y:D} {xs ys:List D} (hx:hb x = true) (hy:hb y = true):eH (x::xs) (y::ys) = some k↔(x = y/\eH xs ys = some k)\/(x≠y/\ltD x y = some k):=by
 rw [show eH (x::xs) (y::ys) = if eqD x y = true then eH xs ys else ltD x y from by rw [eH]];by_cases e:x = y
 . rw [if_pos ((mL x y hx hy).mpr e)];exact ⟨λh=>.inl ⟨e,h⟩,λh=>h.elim (·.2) λz=>absurd e z.1⟩
 . rw [if_neg λz=>e ((mL x y hx hy).mp z)];exact ⟨λh=>.inr ⟨e,h⟩,λh=>h.elim (λz=>absurd z.1 e) (·.2)⟩
def LtA (a:D):Prop:=∀ b k k',hb a = true->hb b = true->ltD a b = some k->ltD b a = some k'->(a = b/\k = false/\k' = false)\/(a≠b/\k' = !k)
def LtT (a:D):Prop:=∀ b c k,hb a = true->hb b = true->hb c = true->ltD b a = some false->ltD c b = some false->ltD c a = some k->k = false
def ko {x:D} {xs:List D} (h:hbL (x::xs) = true):hb x = true/\hbL xs = true:=by
 unfold hbL at h
 rwa [aa] at h
def vf:∀ (xs ys:List D) (k k':Bool),(∀ x∈xs,LtA x)->hbL xs = true->hbL ys = true->eH xs ys = some k->eH ys xs = some k'->(xs = ys/\k = false/\k' = false)\/(xs≠ys/\k' = !k)
 | [],[],k,k',_,_,_,h,h'=>by
   unfold eH at h h';cases h;cases h'
   exact .inl ⟨rfl,rfl,rfl⟩
 | [],_::_,k,k',_,_,_,h,h'=>by
   unfold eH at h h';cases h;cases h'
   exact .inr ⟨↥0,rfl⟩
 | _::_,[],k,k',_,_,_,h,h'=>by
   unfold eH at h h';cases h;cases h'
   exact .inr ⟨↥0,rfl⟩
 | x::xs,y::ys,k,k',hA,h1,h2,h,h'=>by
   obtain ⟨a1,a2⟩:=ko h1;obtain ⟨b1,b2⟩:=ko h2;rcases (eS a1 b1).mp h with ⟨rfl,g⟩ | ⟨e,g⟩
   . rcases (eS b1 a1).mp h' with ⟨_,g'⟩ | ⟨e',_⟩
     . rcases vf xs ys k k' (λz hz=>hA z (aj _ hz)) a2 b2 g g' with ⟨rfl,q⟩ | ⟨n,q⟩
       . exact .inl ⟨rfl,q⟩
       . exact .inr ⟨λz=>n (List.cons.inj z).2,q⟩
     . exact absurd rfl e'
   . rcases (eS b1 a1).mp h' with ⟨e',_⟩ | ⟨_,g'⟩
     . exact absurd e'.symm e
     . rcases hA x ak y k k' a1 b1 g g' with ⟨z,_⟩ | ⟨_,q⟩
       . exact absurd z e
       . exact .inr ⟨λz=>e (List.cons.inj z).1,q⟩
def qr {x:D}:∀ {xs:List D},x∈xs->dep x<=cO xs
 | y::ys,h=>by
   unfold cO;rcases aC.mp h with rfl | h
   . exact kP _ _
   . exact bq (qr h) (jW _ _)
def oT:∀ (n:Nat) (a:D),dep a<=n->LtA a
 | n,a,hn,b,k,k',ha,hb',h,h'=>by
   rcases gv h with ⟨i,j,rfl,rfl,rfl⟩ | ⟨s,t,rfl,rfl,rfl⟩ | ⟨xs,ys,rfl,rfl,h⟩
   . rcases gv h' with ⟨i',j',e1,e2,rfl⟩ | ⟨_,_,e,_⟩ | ⟨_,_,e,_⟩
     . cases e1;cases e2;by_cases e:i = j
       . subst e;exact .inl ⟨rfl,↥0,↥0⟩
       . refine .inr ⟨λz=>e (D.int.inj z),?_⟩;by_cases l:i < j
         . rw [decide_eq_true l,decide_eq_false ∅];rfl
         . rw [decide_eq_false l,decide_eq_true ∅];rfl
     . cases e
     . cases e
   . rcases gv h' with ⟨_,_,e,_⟩ | ⟨s',t',e1,e2,rfl⟩ | ⟨_,_,e,_⟩
     . cases e
     . cases e1;cases e2;by_cases e:s = t
       . subst e
         have:ltS s s = false:=by
          cases z:ltS s s with
          | false=>rfl
          | true=>have:=Dx _ _ z;rw [z] at this;cases this
         exact .inl ⟨rfl,this,this⟩
       . refine .inr ⟨λz=>e (D.str.inj z),?_⟩
         cases z:ltS s t with
         | true=>exact Dx _ _ z
         | false =>
           cases z':ltS t s with
           | true=>rfl
           | false=>exact absurd (Km _ _ z z') e
     . cases e
   . rcases gv h' with ⟨_,_,e,_⟩ | ⟨_,_,e,_⟩ | ⟨xs',ys',e1,e2,h'⟩
     . cases e
     . cases e
     . cases e1;cases e2;unfold hb at ha hb';have hd:cO xs+1<=n:=by unfold dep at hn;exact hn
       cases n with
       | zero=>lia
       | succ n =>
         rcases vf xs ys k k' (λx hx=>oT n x (by have:=qr hx;lia)) ha hb' h h' with ⟨rfl,q⟩ | ⟨e,q⟩
         . exact .inl ⟨rfl,q⟩
         . exact .inr ⟨λz=>e (D.tup.inj z),q⟩
def ve:∀ (xs ys zs:List D) (k:Bool),(∀ x∈xs,LtT x)->hbL xs = true->hbL ys = true->hbL zs = true->eH ys xs = some false->eH zs ys = some false->eH zs xs = some k->k = false
 | [],ys,zs,k,_,_,_,_,_,_,h3=>by
   cases zs<;>unfold eH at h3<;>cases h3<;>rfl
 | x::xs,[],zs,k,_,_,_,_,h1,_,_=>by
   unfold eH at h1;cases h1
 | x::xs,y::ys,[],k,_,_,_,_,_,h2,_=>by
   unfold eH at h2;cases h2
 | x::xs,y::ys,z::zs,k,hT,b1,b2,b3,h1,h2,h3=>by
   obtain ⟨x1,x2⟩:=ko b1;obtain ⟨y1,y2⟩:=ko b2;obtain ⟨z1,z2⟩:=ko b3;rcases (eS y1 x1).mp h1 with ⟨e1,g1⟩ | ⟨e1,g1⟩
   . subst e1;rcases (eS z1 y1).mp h2 with ⟨e2,g2⟩ | ⟨e2,g2⟩
     . subst e2;rcases (eS z1 z1).mp h3 with ⟨_,g3⟩ | ⟨e3,_⟩
       . exact ve xs ys zs k (λw hw=>hT w (aj _ hw)) x2 y2 z2 g1 g2 g3
       . exact absurd rfl e3
     . rcases (eS z1 y1).mp h3 with ⟨e3,_⟩ | ⟨_,g3⟩
       . exact absurd e3 e2
       . rw [g2] at g3;cases g3;rfl
   . rcases (eS z1 y1).mp h2 with ⟨e2,g2⟩ | ⟨e2,g2⟩
     . subst e2;rcases (eS z1 x1).mp h3 with ⟨e3,_⟩ | ⟨_,g3⟩
       . exact absurd e3 e1
       . rw [g1] at g3;cases g3;rfl
     . rcases (eS z1 x1).mp h3 with ⟨e3,_⟩ | ⟨_,g3⟩
       . subst e3;rcases oT _ y (az _) z false false y1 z1 g1 g2 with ⟨e,_⟩ | ⟨_,e⟩
         . exact absurd e e1
         . cases e
       . exact hT x ak y z k x1 y1 z1 g1 g2 g3
def yu:∀ (n:Nat) (a:D),dep a<=n->LtT a
 | n,a,hn,b,c,k,ha,hb',hc,h1,h2,h3=>by
   rcases gv h3 with ⟨i,j,rfl,rfl,rfl⟩ | ⟨s,t,rfl,rfl,rfl⟩ | ⟨zs,xs,rfl,rfl,g3⟩
   . rcases gv h1 with ⟨i',j',rfl,e2,e3⟩ | ⟨_,_,_,e,_⟩ | ⟨_,_,_,e,_⟩
     . cases e2;rcases gv h2 with ⟨_,_,e4,e5,e6⟩ | ⟨_,_,e,_⟩ | ⟨_,_,e,_⟩
       . cases e4;cases e5;have:=of_decide_eq_false e3.symm;have:=of_decide_eq_false e6.symm;exact decide_eq_false ∅
       . cases e
       . cases e
     . cases e
     . cases e
   . rcases gv h1 with ⟨_,_,_,e,_⟩ | ⟨i',j',rfl,e2,e3⟩ | ⟨_,_,_,e,_⟩
     . cases e
     . cases e2;rcases gv h2 with ⟨_,_,e,_⟩ | ⟨_,_,e4,e5,e6⟩ | ⟨_,_,e,_⟩
       . cases e
       . cases e4;cases e5;exact Kl _ _ _ e3.symm e6.symm
       . cases e
     . cases e
   . rcases gv h1 with ⟨_,_,_,e,_⟩ | ⟨_,_,_,e,_⟩ | ⟨ys,xs',rfl,e2,g1⟩
     . cases e
     . cases e
     . cases e2;rcases gv h2 with ⟨_,_,e,_⟩ | ⟨_,_,e,_⟩ | ⟨_,_,e4,e5,g2⟩
       . cases e
       . cases e
       . cases e4;cases e5;unfold hb at ha hb' hc;have hd:cO xs+1<=n:=by unfold dep at hn;exact hn
         cases n with
         | zero=>lia
         | succ n=>exact ve xs ys zs k (λx hx=>yu n x (by have:=qr hx;lia)) ha hb' hc g1 g2 g3
end PP
end
section
namespace P1
open PySem L2 PP
def top (i:Nat):dE:=PySem.Challenge.pw_cutless_k14_said.main.body.getD i (.Pass ⟨0,0,0,0⟩)
def vw:Fd:=⟨"inside",["A"],[],
 (.cons (.ret (.ite (.cmp .isin (.ix (.var 0) (.int 0)) (.glob 0)) (.tup .nil) (.sl (.var 0) (.yes (.int 1)) .no)))
 .nil),false⟩
def jH:Fd:=⟨"is_place",["term"],[],
 (.cons (.ret (.isdig 0))
 .nil),false⟩
def dD:Fd:=⟨"with_terms",["A","depth","change"],["kind","inner"],
 (.cons (.asg (.nm 3) (.ix (.var 0) (.int 0)))
 (.cons (.ifs (.cmp .eq (.var 3) (.str "word"))
 (.cons (.ret (.tup (.cons (.var 3) (.cons (.ix (.var 0) (.int 1)) (.cons (.blt .toTup (.cons (.comp 1 (.nm 5) (.sq (.ix (.var 0) (.int 2))) .no (.callv 2 (.cons (.var 5) (.cons (.var 1) .nil)))) .nil)) .nil)))))
 .nil)
 .nil)
 (.cons (.asg (.nm 4) (.ite (.cmp .isin (.var 3) (.glob 1)) (.bin .add (.var 1) (.int 1)) (.var 1)))
 (.cons (.ret (.bin .add (.tup (.cons (.var 3) .nil)) (.blt .toTup (.cons (.comp 1 (.nm 5) (.sq (.call 0 (.cons (.var 0) .nil))) .no (.callF 2 (.cons (.var 5) (.cons (.var 4) .nil)) 2)) .nil))))
 .nil)))),true⟩
def jh:Fd:=⟨"put_in",["body","name"],[],
 (.cons (.retL 2 (.cons (.var 0) (.cons (.int 0) .nil)) 33 [1])
 .nil),false⟩
def ik:Fd:=⟨"sorted_row",["signed"],["kept","each"],
 (.cons (.new 1 (.lst .nil))
 (.cons (.for_ (.nm 2) (.sq (.blt .sortb (.cons (.var 0) .nil)))
 (.cons (.ifs (.or (.not (.var 1)) (.cmp .ne (.ix (.pk 1) (.neg (.int 1))) (.var 2)))
 (.cons (.append 1 (.var 2))
 .nil)
 .nil)
 .nil))
 (.cons (.ret (.blt .toTup (.cons (.pk 1) .nil)))
 .nil))),false⟩
def tK:Fd:=⟨"more",["row","added"],[],
 (.cons (.ret (.call 4 (.cons (.bin .add (.blt .toLst (.cons (.var 0) .nil)) (.blt .toLst (.cons (.var 1) .nil))) .nil)))
 .nil),false⟩
def mO:Fd:=⟨"other_side",["side"],[],
 (.cons (.ret (.ite (.cmp .eq (.var 0) (.str "left")) (.str "right") (.str "left")))
 .nil),false⟩
def jM:Fd:=⟨"signed_within",["side","A"],["signed"],
 (.cons (.cmp true 2 (.comp 1 (.nm 3) (.sq (.call 0 (.cons (.var 1) .nil))) .no (.tup (.cons (.var 0) (.cons (.var 3) .nil)))))
 (.cons (.ifs (.cmp .isin (.ix (.var 1) (.int 0)) (.tup (.cons (.str "not") (.cons (.str "if") .nil))))
 (.cons (.setix 2 (.int 0) (.tup (.cons (.call 6 (.cons (.var 0) .nil)) (.cons (.ix (.var 1) (.int 1)) .nil))))
 .nil)
 .nil)
 (.cons (.ret (.var 2))
 .nil))),false⟩
def kJ:Fd:=⟨"parts",["side","A","name"],["kind","signed"],
 (.cons (.asg (.nm 3) (.ix (.var 1) (.int 0)))
 (.cons (.ifs (.cmp .isin (.var 3) (.glob 0))
 (.cons .bad
 .nil)
 .nil)
 (.cons (.ifs (.cmp .isin (.var 3) (.glob 1))
 (.cons (.ret (.lst (.cons (.lst (.cons (.tup (.cons (.var 0) (.cons (.call 3 (.cons (.ix (.var 1) (.int 1)) (.cons (.var 2) .nil))) .nil))) .nil)) .nil)))
 .nil)
 .nil)
 (.cons (.asg (.nm 4) (.call 7 (.cons (.var 0) (.cons (.var 1) .nil))))
 (.cons (.ifs (.cmp .isin (.tup (.cons (.var 0) (.cons (.var 3) .nil))) (.glob 2))
 (.cons (.ret (.comp 1 (.nm 5) (.sq (.var 4)) .no (.lst (.cons (.var 5) .nil))))
 .nil)
 .nil)
 (.cons (.ret (.lst (.cons (.var 4) .nil)))
 .nil)))))),false⟩
def kK:Fd:=⟨"kids_of",["tree"],[],
 (.cons (.ret (.ite (.cmp .eq (.var 0) (.glob 3)) (.tup .nil) (.ix (.var 0) (.neg (.int 1)))))
 .nil),false⟩
def gO:Fd:=⟨"added_above",["tree"],[],
 (.cons (.ifs (.cmp .eq (.ix (.var 0) (.int 0)) (.str "rule"))
 (.cons (.ret (.call 8 (.cons (.ix (.var 0) (.int 1)) (.cons (.ix (.var 0) (.int 2)) (.cons (.ix (.var 0) (.int 3)) .nil)))))
 .nil)
 .nil)
 (.cons (.ifs (.cmp .eq (.ix (.var 0) (.int 0)) (.str "cut"))
 (.cons (.ret (.lst (.cons (.lst (.cons (.tup (.cons (.str "right") (.cons (.ix (.var 0) (.int 1)) .nil))) .nil)) (.cons (.lst (.cons (.tup (.cons (.str "left") (.cons (.ix (.var 0) (.int 1)) .nil))) .nil)) .nil))))
 .nil)
 .nil)
 (.cons (.ret (.lst .nil))
 .nil))),false⟩
def gy:Fd:=⟨"trees_within",["tree"],["found","kid"],
 (.cons (.new 1 (.lst (.cons (.var 0) .nil)))
 (.cons (.for_ (.nm 2) (.sq (.call 9 (.cons (.var 0) .nil)))
 (.cons (.extend 1 (.call 11 (.cons (.var 2) .nil)))
 .nil))
 (.cons (.ret (.var 1))
 .nil))),false⟩
def tJ:Fd:=⟨"said",["row","tree"],[],
 (.cons (.ret (.call 5 (.cons (.var 0) (.cons (.lc3 3 (.nm 2) (.sq (.call 11 (.cons (.var 1) .nil))) (.nm 3) (.sq (.call 10 (.cons (.var 2) .nil))) (.nm 4) (.sq (.var 3)) (.var 4)) .nil))))
 .nil),false⟩
def iQ:Fd:=⟨"_law_once",["_law_some"],["_law_row","_law_one"],
 (.cons (.new 1 (.lst .nil))
 (.cons (.for_ (.nm 2) (.sq (.blt .sortb (.cons (.var 0) .nil)))
 (.cons (.ifs (.cmp .notin (.var 2) (.sl (.pk 1) (.yes (.neg (.int 1))) .no))
 (.cons (.append 1 (.var 2))
 .nil)
 .nil)
 .nil))
 (.cons (.ret (.blt .toTup (.cons (.pk 1) .nil)))
 .nil))),false⟩
def iT:Fd:=⟨"_law_cell",["_law_script","_law_k"],["_law_number"],
 (.cons (.ifs (.cmp .lt (.var 1) (.blt .len (.cons (.var 0) .nil)))
 (.cons (.ret (.ix (.var 0) (.var 1)))
 .nil)
 .nil)
 (.cons (.asg (.nm 2) (.bin .add (.bin .mul (.var 1) (.int 7919)) (.int 5)))
 (.cons (.ifs (.cmp .gt (.blt .len (.cons (.var 0) .nil)) (.int 0))
 (.cons (.asg (.nm 2) (.bin .add (.bin .mod (.bin .mul (.ix (.var 0) (.bin .mod (.bin .mul (.var 1) (.int 7)) (.blt .len (.cons (.var 0) .nil)))) (.int 48271)) (.int 2147483647)) (.bin .mul (.var 1) (.int 104729))))
 .nil)
 .nil)
 (.cons (.ret (.bin .mod (.bin .mul (.var 2) (.var 2)) (.int 2147483629)))
 .nil)))),false⟩
def iN:Fd:=⟨"_law_text",["_law_cell_here","_law_filler","_law_k"],["_law_size","_law_at"],
 (.cons (.asg (.nm 3) (.bin .add (.int 1) (.bin .mod (.var 0) (.int 8))))
 (.cons (.asg (.nm 4) (.bin .mod (.bin .fdiv (.var 0) (.int 8)) (.var 3)))
 (.cons (.ret (.bin .add (.bin .add (.bin .mul (.var 1) (.var 4)) (.ix (.str "bdghjk") (.var 2))) (.bin .mul (.var 1) (.bin .sub (.bin .sub (.var 3) (.int 1)) (.var 4)))))
 .nil))),false⟩
def iS:Fd:=⟨"_law_leaf",["_law_cell_here","_law_family","_law_names"],["_law_terms","_law_j"],
 (.cons (.new 3 (.lst .nil))
 (.cons (.for_ (.nm 4) (.rng (.bin .mod (.bin .fdiv (.var 0) (.int 5)) (.int 4)))
 (.cons (.append 3 (.ix (.var 2) (.bin .mod (.bin .fdiv (.var 0) (.bin .add (.int 7) (.bin .mul (.int 4) (.var 4)))) (.blt .len (.cons (.var 2) .nil)))))
 .nil))
 (.cons (.ret (.tup (.cons (.str "word") (.cons (.call 15 (.cons (.var 1) (.cons (.str "q") (.cons (.bin .mod (.var 0) (.int 3)) .nil)))) (.cons (.blt .toTup (.cons (.pk 3) .nil)) .nil)))))
 .nil))),false⟩
def fA:Fd:=⟨"_law_statement",["_law_cell_here","_law_deep","_law_around","_law_names","_law_family"],["_law_kind","_law_rest","_law_one"],
 (.cons (.asg (.nm 5) (.ix (.lst (.cons (.str "word") (.cons (.str "not") (.cons (.str "and") (.cons (.str "or") (.cons (.str "if") (.cons (.str "all") (.cons (.str "some") (.cons (.str "yes") (.cons (.str "no") (.cons (.str "word") .nil))))))))))) (.bin .mod (.var 0) (.int 10))))
 (.cons (.asg (.nm 6) (.bin .fdiv (.var 0) (.int 10)))
 (.cons (.ifs (.or (.cmp .eq (.var 5) (.str "yes")) (.cmp .eq (.var 5) (.str "no")))
 (.cons (.ret (.tup (.cons (.var 5) .nil)))
 .nil)
 .nil)
 (.cons (.ifs (.or (.cmp .eq (.var 5) (.str "word")) (.cmp .eq (.var 1) (.int 0)))
 (.cons (.ret (.call 16 (.cons (.var 6) (.cons (.var 4) (.cons (.bin .add (.var 3) (.comp 1 (.nm 8) (.rng (.var 2)) .no (.blt .toStr (.cons (.var 8) .nil)))) .nil)))))
 .nil)
 .nil)
 (.cons (.ifs (.cmp .eq (.var 5) (.str "not"))
 (.cons (.ret (.tup (.cons (.str "not") (.cons (.call 17 (.cons (.var 6) (.cons (.bin .sub (.var 1) (.int 1)) (.cons (.var 2) (.cons (.var 3) (.cons (.var 4) .nil)))))) .nil))))
 .nil)
 .nil)
 (.cons (.ifs (.or (.cmp .eq (.var 5) (.str "all")) (.cmp .eq (.var 5) (.str "some")))
 (.cons (.ret (.tup (.cons (.var 5) (.cons (.call 17 (.cons (.var 6) (.cons (.bin .sub (.var 1) (.int 1)) (.cons (.bin .add (.var 2) (.int 1)) (.cons (.var 3) (.cons (.var 4) .nil)))))) .nil))))
 .nil)
 .nil)
 (.cons (.asg (.nm 7) (.call 17 (.cons (.bin .mod (.bin .mul (.var 6) (.int 48271)) (.int 2147483647)) (.cons (.bin .sub (.var 1) (.int 1)) (.cons (.var 2) (.cons (.var 3) (.cons (.var 4) .nil)))))))
 (.cons (.ret (.tup (.cons (.var 5) (.cons (.var 7) (.cons (.call 17 (.cons (.bin .mod (.bin .mul (.var 6) (.int 69621)) (.int 2147483629)) (.cons (.bin .sub (.var 1) (.int 1)) (.cons (.var 2) (.cons (.var 3) (.cons (.var 4) .nil)))))) .nil)))))
 .nil)))))))),false⟩
def jI:Fd:=⟨"_law_put",["_law_s","_law_name","_law_deep"],["_law_terms","_law_term"],
 (.cons (.ifs (.cmp .eq (.ix (.var 0) (.int 0)) (.str "word"))
 (.cons (.new 3 (.lst .nil))
 (.cons (.for_ (.nm 4) (.sq (.ix (.var 0) (.int 2)))
 (.cons (.ifs (.cmp .eq (.var 4) (.blt .toStr (.cons (.var 2) .nil)))
 (.cons (.append 3 (.var 1))
 .nil)
 (.cons (.append 3 (.var 4))
 .nil))
 .nil))
 (.cons (.ret (.tup (.cons (.str "word") (.cons (.ix (.var 0) (.int 1)) (.cons (.blt .toTup (.cons (.pk 3) .nil)) .nil)))))
 .nil)))
 .nil)
 (.cons (.ifs (.or (.cmp .eq (.ix (.var 0) (.int 0)) (.str "all")) (.cmp .eq (.ix (.var 0) (.int 0)) (.str "some")))
 (.cons (.ret (.tup (.cons (.ix (.var 0) (.int 0)) (.cons (.call 18 (.cons (.ix (.var 0) (.int 1)) (.cons (.var 1) (.cons (.bin .add (.var 2) (.int 1)) .nil)))) .nil))))
 .nil)
 .nil)
 (.cons (.ret (.bin .add (.tup (.cons (.ix (.var 0) (.int 0)) .nil)) (.blt .toTup (.cons (.comp 1 (.nm 5) (.sq (.sl (.var 0) (.yes (.int 1)) .no)) .no (.call 18 (.cons (.var 5) (.cons (.var 1) (.cons (.var 2) .nil))))) .nil))))
 .nil))),false⟩
def fB:Fd:=⟨"_law_parts",["_law_side","_law_s","_law_name"],["_law_other","_law_one"],
 (.cons (.asg (.nm 3) (.ix (.lst (.cons (.str "left") (.cons (.str "right") .nil))) (.blt .toInt (.cons (.cmp .eq (.var 0) (.str "left")) .nil))))
 (.cons (.ifs (.cmp .eq (.ix (.var 1) (.int 0)) (.str "not"))
 (.cons (.ret (.lst (.cons (.lst (.cons (.tup (.cons (.var 3) (.cons (.ix (.var 1) (.int 1)) .nil))) .nil)) .nil)))
 .nil)
 .nil)
 (.cons (.ifs (.or (.cmp .eq (.ix (.var 1) (.int 0)) (.str "all")) (.cmp .eq (.ix (.var 1) (.int 0)) (.str "some")))
 (.cons (.ret (.lst (.cons (.lst (.cons (.tup (.cons (.var 0) (.cons (.call 18 (.cons (.ix (.var 1) (.int 1)) (.cons (.var 2) (.cons (.int 0) .nil)))) .nil))) .nil)) .nil)))
 .nil)
 .nil)
 (.cons (.ifs (.cmp .notin (.ix (.var 1) (.int 0)) (.tup (.cons (.str "and") (.cons (.str "or") (.cons (.str "if") .nil)))))
 (.cons .bad
 .nil)
 .nil)
 (.cons (.asg (.nm 4) (.tup (.cons (.var 0) (.cons (.ix (.var 1) (.int 1)) .nil))))
 (.cons (.ifs (.cmp .eq (.ix (.var 1) (.int 0)) (.str "if"))
 (.cons (.asg (.nm 4) (.tup (.cons (.var 3) (.cons (.ix (.var 1) (.int 1)) .nil))))
 .nil)
 .nil)
 (.cons (.ifs (.cmp .eq (.cmp .eq (.ix (.var 1) (.int 0)) (.str "and")) (.cmp .eq (.var 0) (.str "left")))
 (.cons (.ret (.lst (.cons (.lst (.cons (.var 4) (.cons (.tup (.cons (.var 0) (.cons (.ix (.var 1) (.int 2)) .nil))) .nil))) .nil)))
 .nil)
 .nil)
 (.cons (.ret (.lst (.cons (.lst (.cons (.var 4) .nil)) (.cons (.lst (.cons (.tup (.cons (.var 0) (.cons (.ix (.var 1) (.int 2)) .nil))) .nil)) .nil))))
 .nil)))))))),false⟩
def iq:Fd:=⟨"_law_bound",["_law_s","_law_name","_law_deep"],["_law_terms","_law_term"],
 (.cons (.ifs (.cmp .eq (.ix (.var 0) (.int 0)) (.str "word"))
 (.cons (.new 3 (.lst .nil))
 (.cons (.for_ (.nm 4) (.sq (.ix (.var 0) (.int 2)))
 (.cons (.ifs (.cmp .eq (.var 4) (.var 1))
 (.cons (.append 3 (.blt .toStr (.cons (.var 2) .nil)))
 .nil)
 (.cons (.append 3 (.var 4))
 .nil))
 .nil))
 (.cons (.ret (.tup (.cons (.str "word") (.cons (.ix (.var 0) (.int 1)) (.cons (.blt .toTup (.cons (.pk 3) .nil)) .nil)))))
 .nil)))
 .nil)
 (.cons (.ifs (.or (.cmp .eq (.ix (.var 0) (.int 0)) (.str "all")) (.cmp .eq (.ix (.var 0) (.int 0)) (.str "some")))
 (.cons (.ret (.tup (.cons (.ix (.var 0) (.int 0)) (.cons (.call 20 (.cons (.ix (.var 0) (.int 1)) (.cons (.var 1) (.cons (.bin .add (.var 2) (.int 1)) .nil)))) .nil))))
 .nil)
 .nil)
 (.cons (.ret (.bin .add (.tup (.cons (.ix (.var 0) (.int 0)) .nil)) (.blt .toTup (.cons (.comp 1 (.nm 5) (.sq (.sl (.var 0) (.yes (.int 1)) .no)) .no (.call 20 (.cons (.var 5) (.cons (.var 1) (.cons (.var 2) .nil))))) .nil))))
 .nil))),false⟩
def mP:Fd:=⟨"_law_twice",["_law_side","_law_s","_law_tree"],["_law_other"],
 (.cons (.asg (.nm 3) (.ix (.lst (.cons (.str "left") (.cons (.str "right") .nil))) (.blt .toInt (.cons (.cmp .eq (.var 0) (.str "left")) .nil))))
 (.cons (.ret (.tup (.cons (.str "rule") (.cons (.var 0) (.cons (.var 1) (.cons (.str "") (.cons (.tup (.cons (.tup (.cons (.str "rule") (.cons (.var 3) (.cons (.ix (.var 1) (.int 1)) (.cons (.str "") (.cons (.tup (.cons (.var 2) .nil)) .nil)))))) .nil)) .nil)))))))
 .nil)),false⟩
def eI:Fd:=⟨"_law_leaf_pair",["_law_cell_here","_law_names","_law_mode_here"],["_law_word","_law_forms","_law_f","_law_ways","_law_one","_law_row","_law_other","_law_tree"],
 (.cons (.asg (.nm 3) (.call 16 (.cons (.var 0) (.cons (.ix (.var 2) (.int 0)) (.cons (.var 1) .nil)))))
 (.cons (.new 4 (.lst .nil))
 (.cons (.for_ (.nm 5) (.rng (.int 3))
 (.cons (.ifs (.cmp .eq (.bin .mod (.bin .fdiv (.var 0) (.ix (.lst (.cons (.int 31) (.cons (.int 37) (.cons (.int 41) .nil)))) (.var 5))) (.int 4)) (.int 1))
 (.cons (.append 4 (.tup (.cons (.str "not") (.cons (.tup (.cons (.str "not") (.cons (.var 3) .nil))) .nil))))
 .nil)
 (.cons (.append 4 (.var 3))
 .nil))
 .nil))
 (.cons (.new 6 (.lst .nil))
 (.cons (.for_ (.nm 7) (.sq (.var 4))
 (.cons (.new 8 (.lst .nil))
 (.cons (.for_ (.nm 9) (.sq (.var 4))
 (.cons (.asg (.nm 10) (.tup (.cons (.str "close") .nil)))
 (.cons (.ifs (.cmp .ne (.var 7) (.var 3))
 (.cons (.asg (.nm 10) (.call 21 (.cons (.str "left") (.cons (.var 7) (.cons (.var 10) .nil)))))
 .nil)
 .nil)
 (.cons (.ifs (.cmp .ne (.var 9) (.var 3))
 (.cons (.asg (.nm 10) (.call 21 (.cons (.str "right") (.cons (.var 9) (.cons (.var 10) .nil)))))
 .nil)
 .nil)
 (.cons (.append 8 (.var 10))
 .nil)))))
 (.cons (.append 6 (.var 8))
 .nil))))
 (.cons (.ret (.tup (.cons (.var 4) (.cons (.var 6) .nil))))
 .nil)))))),false⟩
def gQ:Fd:=⟨"_law_single",["_law_kind","_law_own","_law_one","_law_order"],["_law_forms","_law_s","_law_ways","_law_f","_law_row","_law_g","_law_low","_law_high","_law_kid"],
 (.cons (.new 4 (.lst .nil))
 (.cons (.for_ (.nm 5) (.sq (.ix (.var 2) (.int 0)))
 (.cons (.ifs (.cmp .eq (.var 0) (.str "not"))
 (.cons (.append 4 (.tup (.cons (.str "not") (.cons (.var 5) .nil))))
 .nil)
 (.cons (.append 4 (.tup (.cons (.var 0) (.cons (.call 20 (.cons (.var 5) (.cons (.var 1) (.cons (.int 0) .nil)))) .nil))))
 .nil))
 .nil))
 (.cons (.new 6 (.lst .nil))
 (.cons (.for_ (.nm 7) (.rng (.int 3))
 (.cons (.new 8 (.lst .nil))
 (.cons (.for_ (.nm 9) (.rng (.int 3))
 (.cons (.ifs (.cmp .eq (.var 0) (.str "not"))
 (.cons (.asg (.nm 10) (.tup (.cons (.str "right") (.cons (.ix (.pk 4) (.var 9)) (.cons (.str "") .nil)))))
 (.cons (.asg (.nm 11) (.tup (.cons (.str "left") (.cons (.ix (.pk 4) (.var 7)) (.cons (.str "") .nil)))))
 (.cons (.asg (.nm 12) (.ix (.ix (.ix (.var 2) (.int 1)) (.var 9)) (.var 7)))
 .nil)))
 (.cons (.asg (.nm 10) (.tup (.cons (.str "right") (.cons (.ix (.pk 4) (.var 9)) (.cons (.var 1) .nil)))))
 (.cons (.asg (.nm 11) (.tup (.cons (.str "left") (.cons (.ix (.pk 4) (.var 7)) (.cons (.var 1) .nil)))))
 (.cons (.asg (.nm 12) (.ix (.ix (.ix (.var 2) (.int 1)) (.var 7)) (.var 9)))
 .nil))))
 (.cons (.ifs (.or (.cmp .eq (.var 0) (.str "some")) (.and (.cmp .eq (.var 0) (.str "not")) (.cmp .eq (.var 3) (.int 1))))
 (.cons (.asg (.tp [10,11]) (.tup (.cons (.var 11) (.cons (.var 10) .nil))))
 .nil)
 .nil)
 (.cons (.append 8 (.bin .add (.bin .add (.tup (.cons (.str "rule") .nil)) (.var 10)) (.tup (.cons (.tup (.cons (.bin .add (.bin .add (.tup (.cons (.str "rule") .nil)) (.var 11)) (.tup (.cons (.tup (.cons (.var 12) .nil)) .nil))) .nil)) .nil))))
 .nil))))
 (.cons (.append 6 (.var 8))
 .nil))))
 (.cons (.ret (.tup (.cons (.var 4) (.cons (.var 6) .nil))))
 .nil))))),false⟩
def qt:Fd:=⟨"_law_way",["_law_kind","_law_pair_here","_law_other","_law_f","_law_g","_law_turns","_law_forms","_law_order"],["_law_one","_law_two","_law_tree","_law_low","_law_high","_law_turned","_law_kids"],
 (.cons (.asg (.nm 8) (.ix (.ix (.ix (.var 1) (.int 1)) (.var 3)) (.var 4)))
 (.cons (.asg (.nm 9) (.ix (.ix (.ix (.var 2) (.int 1)) (.var 3)) (.var 4)))
 (.cons (.ifs (.cmp .eq (.var 0) (.str "if"))
 (.cons (.asg (.nm 8) (.ix (.ix (.ix (.var 1) (.int 1)) (.var 4)) (.var 3)))
 (.cons (.ifs (.ix (.var 5) (.var 3))
 (.cons (.asg (.nm 8) (.tup (.cons (.str "rule") (.cons (.str "left") (.cons (.tup (.cons (.str "not") (.cons (.ix (.ix (.var 1) (.int 0)) (.var 3)) .nil))) (.cons (.str "") (.cons (.tup (.cons (.var 8) .nil)) .nil)))))))
 .nil)
 .nil)
 (.cons (.asg (.nm 10) (.tup (.cons (.str "rule") (.cons (.str "left") (.cons (.ix (.var 6) (.var 3)) (.cons (.str "") (.cons (.tup (.cons (.var 8) (.cons (.var 9) .nil))) .nil)))))))
 (.cons (.ifs (.ix (.var 5) (.var 4))
 (.cons (.asg (.nm 10) (.tup (.cons (.str "rule") (.cons (.str "right") (.cons (.tup (.cons (.str "not") (.cons (.ix (.ix (.var 1) (.int 0)) (.var 4)) .nil))) (.cons (.str "") (.cons (.tup (.cons (.var 10) .nil)) .nil)))))))
 .nil)
 .nil)
 (.cons (.ret (.tup (.cons (.str "rule") (.cons (.str "right") (.cons (.ix (.var 6) (.var 4)) (.cons (.str "") (.cons (.tup (.cons (.var 10) .nil)) .nil)))))))
 .nil)))))
 .nil)
 (.cons (.asg (.nm 11) (.tup (.cons (.str "left") (.cons (.ix (.var 6) (.var 3)) .nil))))
 (.cons (.asg (.nm 12) (.tup (.cons (.str "right") (.cons (.ix (.var 6) (.var 4)) .nil))))
 (.cons (.asg (.nm 13) (.ix (.var 5) (.var 4)))
 (.cons (.ifs (.cmp .eq (.var 0) (.str "or"))
 (.cons (.asg (.tp [11,12]) (.tup (.cons (.var 12) (.cons (.var 11) .nil))))
 (.cons (.asg (.nm 13) (.ix (.var 5) (.var 3)))
 .nil))
 .nil)
 (.cons (.asg (.nm 14) (.lst (.cons (.var 8) (.cons (.var 9) .nil))))
 (.cons (.ifs (.var 13)
 (.cons (.asg (.nm 14) (.lst (.cons (.var 9) (.cons (.var 8) .nil))))
 .nil)
 .nil)
 (.cons (.ifs (.cmp .eq (.var 7) (.int 1))
 (.cons (.cmp false 14 (.comp 1 (.nm 15) (.sq (.var 14)) .no (.tup (.cons (.str "rule") (.cons (.ix (.var 11) (.int 0)) (.cons (.ix (.var 11) (.int 1)) (.cons (.str "") (.cons (.tup (.cons (.var 15) .nil)) .nil))))))))
 (.cons (.ret (.tup (.cons (.str "rule") (.cons (.ix (.var 12) (.int 0)) (.cons (.ix (.var 12) (.int 1)) (.cons (.str "") (.cons (.blt .toTup (.cons (.var 14) .nil)) .nil)))))))
 .nil))
 .nil)
 (.cons (.ret (.tup (.cons (.str "rule") (.cons (.ix (.var 11) (.int 0)) (.cons (.ix (.var 11) (.int 1)) (.cons (.str "") (.cons (.tup (.cons (.tup (.cons (.str "rule") (.cons (.ix (.var 12) (.int 0)) (.cons (.ix (.var 12) (.int 1)) (.cons (.str "") (.cons (.blt .toTup (.cons (.var 14) .nil)) .nil)))))) .nil)) .nil)))))))
 .nil))))))))))),false⟩
def dW:Fd:=⟨"_law_double",["_law_kind","_law_cell_here","_law_one","_law_two","_law_order"],["_law_forms","_law_turns","_law_f","_law_x","_law_y","_law_ways"],
 (.cons (.new 5 (.lst .nil))
 (.cons (.new 6 (.lst .nil))
 (.cons (.for_ (.nm 7) (.rng (.int 3))
 (.cons (.asg (.nm 8) (.ix (.ix (.var 2) (.int 0)) (.var 7)))
 (.cons (.asg (.nm 9) (.ix (.ix (.var 3) (.int 0)) (.var 7)))
 (.cons (.append 6 (.cmp .eq (.bin .mod (.bin .fdiv (.var 1) (.ix (.lst (.cons (.int 1) (.cons (.int 2) (.cons (.int 4) .nil)))) (.var 7))) (.int 2)) (.int 1)))
 (.cons (.ifs (.and (.cmp .eq (.var 0) (.str "if")) (.ix (.pk 6) (.var 7)))
 (.cons (.append 5 (.tup (.cons (.str "or") (.cons (.tup (.cons (.str "not") (.cons (.var 8) .nil))) (.cons (.var 9) .nil)))))
 .nil)
 (.cons (.ifs (.ix (.pk 6) (.var 7))
 (.cons (.append 5 (.tup (.cons (.var 0) (.cons (.var 9) (.cons (.var 8) .nil)))))
 .nil)
 (.cons (.append 5 (.tup (.cons (.var 0) (.cons (.var 8) (.cons (.var 9) .nil)))))
 .nil))
 .nil))
 .nil)))))
 (.cons (.new 10 (.lst .nil))
 (.cons (.for_ (.nm 7) (.rng (.int 3))
 (.cons (.append 10 (.comp 1 (.nm 11) (.rng (.int 3)) .no (.call 24 (.cons (.var 0) (.cons (.var 2) (.cons (.var 3) (.cons (.var 7) (.cons (.var 11) (.cons (.var 6) (.cons (.var 5) (.cons (.var 4) .nil)))))))))))
 .nil))
 (.cons (.ret (.tup (.cons (.var 5) (.cons (.var 10) .nil))))
 .nil)))))),false⟩
def iP:Fd:=⟨"_law_pair",["_law_script","_law_at","_law_deep","_law_names","_law_mode_here"],["_law_cell_here","_law_kind","_law_own","_law_inner","_law_one","_law_two"],
 (.cons (.asg (.nm 5) (.call 14 (.cons (.var 0) (.cons (.var 1) .nil))))
 (.cons (.asg (.nm 6) (.ix (.lst (.cons (.str "word") (.cons (.str "not") (.cons (.str "and") (.cons (.str "or") (.cons (.str "if") (.cons (.str "all") (.cons (.str "some") (.cons (.str "and") .nil))))))))) (.bin .mod (.var 5) (.int 8))))
 (.cons (.ifs (.or (.cmp .eq (.var 2) (.int 0)) (.cmp .eq (.var 6) (.str "word")))
 (.cons (.ret (.call 22 (.cons (.bin .fdiv (.var 5) (.int 8)) (.cons (.var 3) (.cons (.var 4) .nil)))))
 .nil)
 .nil)
 (.cons (.asg (.nm 7) (.bin .add (.ix (.var 4) (.int 1)) (.blt .toStr (.cons (.blt .len (.cons (.var 3) .nil)) .nil))))
 (.cons (.new 8 (.blt .toLst (.cons (.var 3) .nil)))
 (.cons (.ifs (.or (.cmp .eq (.var 6) (.str "all")) (.cmp .eq (.var 6) (.str "some")))
 (.cons (.append 8 (.var 7))
 .nil)
 .nil)
 (.cons (.asg (.nm 9) (.call 26 (.cons (.var 0) (.cons (.bin .add (.bin .mul (.int 2) (.var 1)) (.int 1)) (.cons (.bin .sub (.var 2) (.int 1)) (.cons (.var 8) (.cons (.var 4) .nil)))))))
 (.cons (.ifs (.or (.cmp .eq (.var 6) (.str "not")) (.or (.cmp .eq (.var 6) (.str "all")) (.cmp .eq (.var 6) (.str "some"))))
 (.cons (.ret (.call 23 (.cons (.var 6) (.cons (.var 7) (.cons (.var 9) (.cons (.ix (.var 4) (.int 2)) .nil))))))
 .nil)
 .nil)
 (.cons (.asg (.nm 10) (.call 26 (.cons (.var 0) (.cons (.bin .add (.bin .mul (.int 2) (.var 1)) (.int 2)) (.cons (.bin .sub (.var 2) (.int 1)) (.cons (.var 3) (.cons (.var 4) .nil)))))))
 (.cons (.ret (.call 25 (.cons (.var 6) (.cons (.bin .fdiv (.var 5) (.int 8)) (.cons (.var 9) (.cons (.var 10) (.cons (.ix (.var 4) (.int 2)) .nil)))))))
 .nil)))))))))),false⟩
def iR:Fd:=⟨"_law_mode",["_law_script"],["_law_cell_here","_law_names"],
 (.cons (.asg (.nm 1) (.call 14 (.cons (.var 0) (.cons (.int 0) .nil))))
 (.cons (.asg (.nm 2) (.lst (.cons (.call 15 (.cons (.bin .fdiv (.var 1) (.int 4)) (.cons (.str "z") (.cons (.int 0) .nil)))) (.cons (.call 15 (.cons (.bin .fdiv (.var 1) (.int 4)) (.cons (.str "z") (.cons (.int 1) .nil)))) .nil))))
 (.cons (.ifs (.cmp .eq (.bin .mod (.var 1) (.int 4)) (.int 0))
 (.cons (.asg (.nm 2) (.lst (.cons (.str "n0") (.cons (.str "n1") .nil))))
 .nil)
 .nil)
 (.cons (.ret (.tup (.cons (.var 2) (.cons (.tup (.cons (.bin .fdiv (.var 1) (.int 4)) (.cons (.ix (.lst (.cons (.str "c") (.cons (.str "n") .nil))) (.blt .toInt (.cons (.cmp .eq (.bin .mod (.var 1) (.int 4)) (.int 1)) .nil))) (.cons (.bin .mod (.bin .fdiv (.var 1) (.int 32)) (.int 2)) .nil)))) .nil))))
 .nil)))),false⟩
def gc:Fd:=⟨"_law_made",["_law_script"],["_law_names","_law_mode_here","_law_cell_here","_law_forms","_law_ways","_law_row","_law_tree"],
 (.cons (.asg (.tp [1,2]) (.call 27 (.cons (.var 0) .nil)))
 (.cons (.asg (.nm 3) (.bin .fdiv (.call 14 (.cons (.var 0) (.cons (.int 0) .nil))) (.int 64)))
 (.cons (.asg (.tp [4,5]) (.call 26 (.cons (.var 0) (.cons (.int 1) (.cons (.bin .add (.int 2) (.blt .toInt (.cons (.cmp .eq (.bin .mod (.bin .fdiv (.var 3) (.int 4)) (.int 4)) (.int 1)) .nil))) (.cons (.var 1) (.cons (.var 2) .nil)))))))
 (.cons (.new 6 (.lst (.cons (.tup (.cons (.str "left") (.cons (.ix (.var 4) (.int 0)) .nil))) (.cons (.tup (.cons (.str "right") (.cons (.ix (.var 4) (.int 2)) .nil))) .nil))))
 (.cons (.asg (.nm 7) (.tup (.cons (.str "cut") (.cons (.ix (.var 4) (.int 1)) (.cons (.tup (.cons (.ix (.ix (.var 5) (.int 0)) (.int 1)) (.cons (.ix (.ix (.var 5) (.int 1)) (.int 2)) .nil))) .nil)))))
 (.cons (.ifs (.cmp .eq (.bin .mod (.var 3) (.int 4)) (.int 0))
 (.cons (.asg (.nm 7) (.ix (.ix (.var 5) (.int 0)) (.int 2)))
 .nil)
 .nil)
 (.cons (.ifs (.cmp .eq (.bin .mod (.var 3) (.int 4)) (.int 2))
 (.cons (.asg (.nm 7) (.tup (.cons (.str "cut") (.cons (.ix (.var 4) (.int 1)) (.cons (.tup (.cons (.ix (.ix (.var 5) (.int 0)) (.int 1)) (.cons (.tup (.cons (.str "cut") (.cons (.ix (.var 4) (.int 0)) (.cons (.tup (.cons (.ix (.ix (.var 5) (.int 1)) (.int 0)) (.cons (.ix (.ix (.var 5) (.int 0)) (.int 2)) .nil))) .nil)))) .nil))) .nil)))))
 .nil)
 .nil)
 (.cons (.ifs (.cmp .eq (.bin .mod (.var 3) (.int 4)) (.int 3))
 (.cons (.asg (.nm 7) (.tup (.cons (.str "cut") (.cons (.ix (.var 4) (.int 0)) (.cons (.tup (.cons (.tup (.cons (.str "cut") (.cons (.ix (.var 4) (.int 1)) (.cons (.tup (.cons (.ix (.ix (.var 5) (.int 0)) (.int 1)) (.cons (.ix (.ix (.var 5) (.int 1)) (.int 0)) .nil))) .nil)))) (.cons (.ix (.ix (.var 5) (.int 0)) (.int 2)) .nil))) .nil)))))
 .nil)
 .nil)
 (.cons (.rett 6 (.cons (.var 7) (.cons (.var 1) (.cons (.var 2) .nil))))
 .nil))))))))),false⟩
def fV:Fd:=⟨"_law_branches",["_law_tree"],[],
 (.cons (.ifs (.cmp .eq (.ix (.var 0) (.int 0)) (.str "cut"))
 (.cons (.ret (.lst (.cons (.lst (.cons (.tup (.cons (.str "right") (.cons (.ix (.var 0) (.int 1)) .nil))) .nil)) (.cons (.lst (.cons (.tup (.cons (.str "left") (.cons (.ix (.var 0) (.int 1)) .nil))) .nil)) .nil))))
 .nil)
 .nil)
 (.cons (.ret (.call 19 (.cons (.ix (.var 0) (.int 1)) (.cons (.ix (.var 0) (.int 2)) (.cons (.ix (.var 0) (.int 3)) .nil)))))
 .nil)),false⟩
def iO:Fd:=⟨"_law_said",["_law_row","_law_tree"],["_law_found","_law_branch","_law_kid"],
 (.cons (.asg (.nm 2) (.blt .toLst (.cons (.var 0) .nil)))
 (.cons (.ifs (.cmp .ne (.ix (.var 1) (.int 0)) (.str "close"))
 (.cons (.for_ (.tp [3,4]) (.zp (.cons (.call 29 (.cons (.var 1) .nil)) (.cons (.ix (.var 1) (.neg (.int 1))) .nil)))
 (.cons (.asg (.nm 2) (.bin .add (.var 2) (.call 30 (.cons (.var 3) (.cons (.var 4) .nil)))))
 .nil))
 .nil)
 .nil)
 (.cons (.ret (.var 2))
 .nil))),false⟩
def iM:Fd:=⟨"_law_told",["_law_row","_law_tree"],["_law_found"],
 (.cons (.asg (.nm 2) (.call 12 (.cons (.call 13 (.cons (.var 0) .nil)) (.cons (.var 1) .nil))))
 (.cons (.ret (.and (.blt .isTup (.cons (.var 2) .nil)) (.cmp .eq (.var 2) (.call 13 (.cons (.call 30 (.cons (.var 0) (.cons (.var 1) .nil))) .nil)))))
 .nil)),false⟩
def d_law:Fd:=⟨"law",["_law_script"],["_law_row","_law_tree","_law_names","_law_mode_here","_law_number","_law_extra","_law_branch","_law_kid"],
 (.cons (.newt 1 [2,3,4] 28 (.cons (.var 0) .nil))
 (.cons (.for_ (.nm 5) (.sq (.sl (.var 0) (.yes (.int 23)) (.yes (.int 53))))
 (.cons (.asg (.nm 6) (.call 17 (.cons (.bin .fdiv (.var 5) (.int 2)) (.cons (.int 1) (.cons (.int 0) (.cons (.bin .add (.var 3) (.lst (.cons (.str "n9") .nil))) (.cons (.ix (.var 4) (.int 0)) .nil)))))))
 (.cons (.append 1 (.tup (.cons (.ix (.lst (.cons (.str "left") (.cons (.str "right") .nil))) (.bin .mod (.var 5) (.int 2))) (.cons (.var 6) .nil))))
 .nil)))
 (.cons (.ifs (.not (.call 31 (.cons (.var 1) (.cons (.var 2) .nil))))
 (.cons .bad
 .nil)
 .nil)
 (.cons (.ifs (.cmp .ne (.ix (.var 2) (.int 0)) (.str "close"))
 (.cons (.for_ (.tp [7,8]) (.zp (.cons (.call 29 (.cons (.var 2) .nil)) (.cons (.ix (.var 2) (.neg (.int 1))) .nil)))
 (.cons (.ifs (.not (.call 31 (.cons (.bin .add (.var 1) (.var 7)) (.cons (.var 8) .nil))))
 (.cons .bad
 .nil)
 .nil)
 .nil))
 .nil)
 .nil)
 (.cons (.ret (.call 31 (.cons (.var 1) (.cons (.var 2) .nil))))
 .nil))))),false⟩
def d_lam0:Fd:=⟨"put_in.<locals>.<lambda>",["term","depth","name"],[],
 (.cons (.ret (.ite (.and (.call 1 (.cons (.var 0) .nil)) (.cmp .eq (.blt .toInt (.cons (.var 0) .nil)) (.var 1))) (.var 2) (.var 0))) .nil),false⟩
def Gd:List Fd:=[vw,jH,dD,jh,ik,tK,mO,jM,kJ,kK,gO,gy,tJ,iQ,iT,iN,iS,fA,jI,fB,iq,mP,eI,gQ,qt,dW,iP,iR,gc,fV,iO,iM,d_law]
def Gs:List Fd:=[vw,jH,dD,jh,ik,tK,mO,jM,kJ,kK,gO,gy,tJ,iQ,iT,iN,iS,fA,jI,fB,iq,mP,eI,gQ,qt,dW,iP,iR,gc,fV,iO,iM,d_law,d_lam0]
def L0:Lam:=⟨"put_in.<locals>.<lambda>",NG (rlm (top 6)),NF (rlm (top 6)),NC (rlm (top 6)),["term","depth"],["name"]⟩
noncomputable instance tbs:Tbs:=⟨[(37,"put_in.<locals>.<lambda>")],[(33,L0)],[],[]⟩
def pls:List (String × Nat):=[("inside",3),("is_place",4),("with_terms",5),("put_in",6),("sorted_row",9),("more",10),("other_side",11),("signed_within",12),("parts",13),("kids_of",16),("added_above",17),("trees_within",18),("said",19),("_law_once",21),("_law_cell",22),("_law_text",23),("_law_leaf",24),("_law_statement",25),("_law_put",26),("_law_parts",27),("_law_bound",28),("_law_twice",29),("_law_leaf_pair",30),("_law_single",31),("_law_way",32),("_law_double",33),("_law_pair",34),("_law_mode",35),("_law_made",36),("_law_branches",37),("_law_said",38),("_law_told",39),("law",40)]
def gls:List D:=[.tup [.str "yes",.str "no",.str "word"],.tup [.str "all",.str "some"],.tup [.tup [.str "right",.str "and"],.tup [.str "left",.str "or"],.tup [.str "left",.str "if"]],.tup [.str "close"]]
def gns:List Str:=["LEAVES","BINDERS","FORKS","CLOSE"]
inductive U | neg | all | ex
inductive B | and | or | imp
def U.s:U->Str | .neg=>"not" | U.all=>"all" | .ex=>"some"
def B.s:B->Str | .and=>"and" | .or=>"or" | .imp=>"if"
def up:U->Int | .neg=>0 | _=>1
inductive F where
 | yes | no | word (w:Str) (ts:List Str) | un (u:U) (a:F) | bi (b:B) (x y:F)
def hd:F->Str
 | .yes=>"yes" | .no=>"no" | .word _ _=>"word" | .un u _=>u.s | .bi b _ _=>b.s
def enc:F->D
 | .yes=>.tup [.str "yes"]
 | .no=>.tup [.str "no"]
 | .word w ts=>.tup [.str "word",.str w,.tup (ts.map .str)]
 | .un u a=>.tup [.str u.s,enc a]
 | .bi b x y=>.tup [.str b.s,enc x,enc y]
def tl:F->List D
 | .yes | .no=>[]
 | .word w ts=>[.str w,.tup (ts.map .str)]
 | .un _ a=>[enc a]
 | .bi _ x y=>[enc x,enc y]
def jG (A:F):enc A = .tup (.str (hd A)::tl A):=by cases A<;>rfl
def kd:F->Nat
 | .yes=>0 | .no=>1 | .word _ _=>2 | .un _ _=>3 | .bi _ _ _=>4
def kdS (s:Str):Nat:=if s = "yes" then 0 else if s = "no" then 1 else if s = "word" then 2 else if s = "not" then 3 else if s = "all" then 3 else if s = "some" then 3 else 4
def DF:∀ A:F,kdS (hd A) = kd A
 | .yes=>(by decide:kdS "yes" = 0)
 | .no=>(by decide:kdS "no" = 1)
 | .word _ _=>(by decide:kdS "word" = 2)
 | .un .neg _=>(by decide:kdS "not" = 3)
 | .un .all _=>(by decide:kdS "all" = 3)
 | .un .ex _=>(by decide:kdS "some" = 3)
 | .bi .and _ _=>(by decide:kdS "and" = 4)
 | .bi .or _ _=>(by decide:kdS "or" = 4)
 | .bi .imp _ _=>(by decide:kdS "if" = 4)
def oe {A B:F} (h:hd A = hd B):kd A = kd B:=by rw [<- DF A,<- DF B,h]
def sz:F->Nat
 | .un _ a=>sz a+1
 | .bi _ x y=>sz x+sz y+1
 | _=>1
def oW (x:Str):dep (.str x) = 0:=by unfold dep;rfl
def vv:∀ ts:List Str,cO (ts.map D.str) = 0
 | []=>by unfold cO;rfl
 | t::ts=>by rw [aN];unfold cO;rw [vv ts,oW];rfl
def hF:F->Nat
 | .un _ a=>hF a+1
 | .bi _ x y=>max (hF x) (hF y)+1
 | _=>1
def yG:∀ A:F,hF A<=sz A
 | .yes | .no | .word _ _=>az _
 | .un _ a=>by have:=yG a;simp only [hF,sz];lia
 | .bi _ x y=>by have:=yG x;have:=yG y;simp only [hF,sz];lia
def mN:∀ A:F,dep (enc A)<=hF A+1
 | .yes | .no=>by unfold enc;simp [dep,cO,hF]
 | .word w ts=>by unfold enc;simp [dep,cO,vv,hF]
 | .un b a=>by have:=mN a;unfold enc;simp [dep,cO,hF];lia
 | .bi b x y=>by have:=mN x;have:=mN y;unfold enc;simp [dep,cO,hF];lia
def kH (A:F):dep (enc A)<=sz A+1:=by have:=mN A;have:=yG A;lia
def yP:∀ ts us:List Str,gw (ts.map D.str) (us.map D.str) = true->ts = us
 | [],[],_=>rfl
 | [],_::_,h=>by unfold gw at h;cases h
 | _::_,[],h=>by unfold gw at h;cases h
 | t::ts,u::us,h=>by
   rw [aN,aN] at h;unfold gw eqD at h;rw [aa] at h;rw [show t = u by simpa using h.1,yP ts us h.2]
def oh {A B:F} (h:eqD (enc A) (enc B) = true):hd A = hd B/\gw (tl A) (tl B) = true:=by
 rw [jG,jG] at h;unfold eqD gw eqD at h;rw [aa] at h;exact ⟨by simpa using h.1,h.2⟩
def ML {a b:D} (h:gw [a] [b] = true):eqD a b = true:=by
 unfold gw at h;rw [aa] at h;exact h.1
def KD {a b x y:D} (h:gw [a,x] [b,y] = true):eqD a b = true/\eqD x y = true:=by
 unfold gw at h;rw [aa] at h;exact ⟨h.1,ML h.2⟩
def KP:∀ b c:B,b.s = c.s->b = c
 | .and,.and,_ | .or,.or,_ | .imp,.imp,_=>rfl
 | .and,.or,h | .and,.imp,h | .or,.and,h | .or,.imp,h | .imp,.and,h | .imp,.or,h=>absurd h ⇑0
def IP:∀ b c:U,b.s = c.s->b = c
 | .neg,.neg,_ | .all,.all,_ | .ex,.ex,_=>rfl
 | .neg,.all,h | .neg,.ex,h | .all,.neg,h | .all,.ex,h | .ex,.neg,h | .ex,.all,h=>absurd h ⇑0
def tj:∀ A B:F,eqD (enc A) (enc B) = true->A = B
 | .yes,B,h=>by
   have this:=oe (oh h).1
   cases B with
   | yes=>rfl
   | _=>exact absurd this (by simp [kd])
 | .no,B,h=>by
   have this:=oe (oh h).1
   cases B with
   | no=>rfl
   | _=>exact absurd this (by simp [kd])
 | .word w ts,B,h=>by
   have this:=oe (oh h).1;have h2:=(oh h).2
   cases B with
   | word v us =>
     obtain ⟨h3,h4⟩:=KD h2;unfold eqD at h3 h4
     rw [show w = v by simpa using h3,yP ts us h4]
   | _=>exact absurd this (by simp [kd])
 | .un b a,B,h=>by
   have this':=(oh h).1;have this:=oe this';have h2:=(oh h).2
   cases B with
   | un c d=>rw [IP b c this',tj a d (ML h2)]
   | _=>exact absurd this (by simp [kd])
 | .bi b x y,B,h=>by
   have this':=(oh h).1;have this:=oe this';have h2:=(oh h).2
   cases B with
   | bi c u v =>
     obtain ⟨h3,h4⟩:=KD h2
     rw [KP b c this',tj x u h3,tj y v h4]
   | _=>exact absurd this (by simp [kd])
def sd (L:Bool):Str:=if L then "left" else "right"
abbrev It:=Bool × F
def itD (p:It):D:=.tup [.str (sd p.1),enc p.2]
def Jg:∀ b c:Bool,sd b = sd c->b = c:=by decide
def HW {p q:It} (h:eqD (itD p) (itD q) = true):p = q:=by
 unfold itD eqD at h;obtain ⟨h1,h2⟩:=KD h;unfold eqD at h1;obtain ⟨a,A⟩:=p;obtain ⟨b,B⟩:=q;rw [show a = b from Jg a b (by simpa using h1),show A = B from tj A B h2]
def low (ps:List It):Prop:=∀ p∈ps,sz p.2<=61
def lL (p:It) (h:sz p.2<=61):dep (itD p)<=64:=by
 have:=kH p.2;unfold itD;simp only [dep,cO,oW]
 lia
def yS:∀ {ps:List It},low ps->cO (ps.map itD)<=64
 | [],_=>by show cO ([]:List D)<=64;unfold cO;lia
 | p::ps,h=>by
   rw [aN];unfold cO;have:=lL p (h p ak);have:=yS (ps:=ps) λq hq=>h q (aj _ hq)
   lia
def ltn (ys:List D):(eH [] ys).isSome = true:=by cases ys<;>(unfold eH;rfl)
def Nz (ys:List D):(eH ys []).isSome = true:=by cases ys<;>(unfold eH;rfl)
def ltc {x y:D} {xs ys:List D} (h:(ltD x y).isSome = true) (h2:(eH xs ys).isSome = true):(eH (x::xs) (y::ys)).isSome = true:=by
 unfold eH;split
 . exact h2
 . exact h
def lts {s t:Str} {xs ys:List D} (h:s = t->(eH xs ys).isSome = true):(eH (.str s::xs) (.str t::ys)).isSome = true:=by
 unfold eH;split
 . rename_i e;exact h (by unfold eqD at e;simpa using e)
 . unfold ltD;rfl
def yt:∀ xs ys:List Str,(eH (xs.map D.str) (ys.map D.str)).isSome = true
 | [],ys=>ltn _
 | xs,[]=>Nz _
 | x::xs,y::ys=>lts λ_=>yt xs ys
def lH {xs ys:List D} (h:(eH xs ys).isSome = true):(ltD (.tup xs) (.tup ys)).isSome = true:=by unfold ltD;exact h
def sN:∀ A B:F,(ltD (enc A) (enc B)).isSome = true
 | .yes,B=>by rw [jG B];exact lH (lts λ_=>ltn _)
 | .no,B=>by rw [jG B];exact lH (lts λ_=>ltn _)
 | .word w ts,B=>by
   rw [jG B];refine lH (lts λe=>?_);have e:hd (.word w ts) = hd B:=e
   cases B with
   | word v us=>exact lts λ_=>ltc (lH (yt ts us)) (ltn _)
   | _=>exact absurd (oe e) (by simp [kd])
 | .un b a,B=>by
   rw [jG B];refine lH (lts λe=>?_);have e:hd (.un b a) = hd B:=e
   cases B with
   | un c d=>exact ltc (sN a d) (ltn _)
   | _=>exact absurd (oe e) (by simp [kd])
 | .bi b x y,B=>by
   rw [jG B];refine lH (lts λe=>?_);have e:hd (.bi b x y) = hd B:=e
   cases B with
   | bi c u v=>exact ltc (sN x u) (ltc (sN y v) (ltn _))
   | _=>exact absurd (oe e) (by simp [kd])
instance:Inhabited F:=⟨.yes⟩
def yF:∀ ts:List Str,hbL (ts.map D.str) = true
 | []=>by unfold hbL;rfl
 | t::ts=>by rw [aN];unfold hbL;rw [yF ts];unfold hb;rfl
def sU:∀ A:F,hb (enc A) = true
 | .yes | .no=>by unfold enc;decide
 | .word w ts=>by unfold enc;simp only [hb,hbL,yF,cC]
 | .un b a=>by unfold enc;simp only [hb,hbL,sU a,cC]
 | .bi b x y=>by unfold enc;simp only [hb,hbL,sU x,sU y,cC]
def kn (p:It):hb (itD p) = true:=by unfold itD;simp only [hb,hbL,sU,cC]
def Kw {p q:It} (h:itD p = itD q):p = q:=HW ((mL _ _ (kn p) (kn q)).mpr h)
def ltI (p q:It):Bool:=(ltD (itD p) (itD q)).getD false
def nZ (p q:It):ltD (itD p) (itD q) = some (ltI p q):=by
 have:(ltD (itD p) (itD q)).isSome = true:=lH (lts λ_=>ltc (sN _ _) (ltn _));unfold ltI
 cases e:ltD (itD p) (itD q) with
 | none=>rw [e] at this;cases this
 | some k=>rfl
def sO (p q:It) (h:ltI p q = true):ltI q p = false:=by
 rcases oT _ (itD p) (az _) (itD q) _ _ (kn p) (kn q) (nZ p q) (nZ q p) with ⟨_,e,_⟩ | ⟨_,e⟩
 . rw [h] at e;cases e
 . rw [e,h];rfl
def Dy (a b c:It) (h1:ltI b a = false) (h2:ltI c b = false):ltI c a = false :=
 yu _ (itD a) (az _) (itD b) (itD c) _ (kn a) (kn b) (kn c) (by rw [nZ,h1]) (by rw [nZ,h2]) (nZ c a)
def Dz (p q:It) (h1:ltI p q = false) (h2:ltI q p = false):p = q:=by
 rcases oT _ (itD p) (az _) (itD q) _ _ (kn p) (kn q) (nZ p q) (nZ q p) with ⟨e,_⟩ | ⟨_,e⟩
 . exact Kw e
 . rw [h1,h2] at e;cases e
def pM:∀ ts:List Str,gH (ts.map D.str) (ts.map D.str) = true
 | []=>by unfold gH;rfl
 | t::ts=>by rw [aN];unfold gH gU;rw [pM ts];simp
def mq:∀ A:F,gU (enc A) (enc A) = true
 | .yes | .no=>by unfold enc;decide
 | .word w ts=>by unfold enc;simp only [gU,gH,pM,cC,decide_true]
 | .un b a=>by unfold enc;simp only [gU,gH,mq a,cC,decide_true]
 | .bi b x y=>by unfold enc;simp only [gU,gH,mq x,mq y,cC,decide_true]
def Ga (p:It):gU (itD p) (itD p) = true:=by unfold itD;simp only [gU,gH,mq,cC,decide_true]
def yv {p q:It} (h:sz p.2<=61) (h2:sz q.2<=61):kS (itD p) (itD q) = some (ltI p q):=by
 have:=lL p h;have:=lL q h2;unfold kS;rw [if_pos (by omega),nZ]
def nI {p q:It} (h:sz p.2<=61) (h2:sz q.2<=61):ltO (itD p) (itD q) = ltI p q:=by
 unfold ltO;rw [yv h h2];rfl
def xS {row:List It} (h:low row) (hl:row.length<=1000) (ss:(1000:Nat) < sizeLine):AD (row.map itD) = true:=by
 unfold AD;simp only [aa,decide_eq_true_eq,cX,List.forall_mem_map,cE,gF];refine ⟨⟨⟨by rw [aB];omega,λp hp=>?_⟩,λp hp q hq=>?_⟩,λp hp q hq=>?_⟩
 . cases row with
   | nil=>cases hp
   | cons z zs=>exact ⟨rfl,rfl⟩
 . rw [yv (h p hp) (h q hq),nI (h p hp) (h q hq),nI (h q hq) (h p hp)];refine ⟨⟨rfl,?_⟩,?_⟩
   . cases e:ltI p q with
     | false=>exact .inl rfl
     | true=>exact .inr (sO p q e)
   . cases e:ltI p q with
     | true=>exact .inl (.inl rfl)
     | false =>
       cases e2:ltI q p with
       | true=>exact .inl (.inr rfl)
       | false=>rw [Dz p q e e2];exact .inr (Ga q)
 . rw [nI (h q hq) (h p hp)]
   cases e:ltI q p with
   | true=>exact .inl rfl
   | false =>
     refine .inr λz hz=>?_;rw [nI (h z hz) (h q hq),nI (h z hz) (h p hp)]
     cases e2:ltI z q with
     | true=>exact .inl rfl
     | false=>exact .inr (Dy p q z e e2)
def insI (x:It):List It->List It
 | []=>[x]
 | y::ys=>if ltI y x = true then y::insI x ys else x::y::ys
def srt:List It->List It
 | []=>[]
 | x::xs=>insI x (srt xs)
def insI_perm (x:It):∀ ys,(insI x ys).Perm (x::ys)
 | []=>.refl _
 | y::ys=>by
   unfold insI;split
   . exact ((insI_perm x ys).cons y).trans (.swap x y ys)
   . exact .refl _
def gT:∀ xs,(srt xs).Perm xs
 | []=>.refl _
 | x::xs=>(insI_perm x _).trans ((gT xs).cons x)
def yE {x:It}:∀ {ys:List It},sz x.2<=61->low ys->vm (itD x) (ys.map itD) = (insI x ys).map itD
 | [],_,_=>rfl
 | y::ys,hx,h=>by
   rw [aN];unfold vm insI;rw [nI (h y ak) hx,yE hx λp hp=>h p (aj _ hp)];split<;>rfl
def wq:∀ {xs:List It},low xs->kb (xs.map itD) = (srt xs).map itD
 | [],_=>rfl
 | x::xs,h=>by
   have h2:low xs:=λp hp=>h p (aj _ hp);rw [aN];unfold kb srt;rw [wq h2,yE (h x ak) λp hp=>h2 p ((gT xs).mem_iff.mp hp)]
def isL (acc:List It) (x:It):Bool:=match acc.getLast? with
 | some y=>eqD (itD y) (itD x)
 | none=>false
def dd:List It->List It->List It
 | acc,[]=>acc
 | acc,x::xs=>dd (if isL acc x = true then acc else acc++[x]) xs
def mo (l:List It):List It:=dd [] (srt l)
def Ha {acc:List It} {x:It} (h:isL acc x = true):x∈acc:=by
 unfold isL at h;split at h
 . rename_i y e;rw [<- HW h];exact zi e
 . cases h
def Ee {p:It}:∀ (xs acc:List It),p∈dd acc xs↔p∈acc\/p∈xs
 | [],acc=>by simp [dd]
 | x::xs,acc=>by
   unfold dd;rw [Ee xs];split
   . rename_i h;have:=Ha h;constructor
     . rintro (z | z)
       . exact .inl z
       . exact .inr (aj _ z)
     . rintro (z | z)
       . exact .inl z
       . rcases aC.mp z with z | z
         . rw [z];exact .inl this
         . exact .inr z
   . rw [aJ,bC,aC,or_assoc]
def Ef:∀ (xs acc:List It),(dd acc xs).length<=acc.length+xs.length
 | [],acc=>by simp [dd]
 | x::xs,acc=>by
   unfold dd;have:=Ef xs (if isL acc x = true then acc else acc++[x])
   have h2:(if isL acc x = true then acc else acc++[x]).length<=acc.length+1:=by
    split
    . omega
    . rw [ah];simp
   rw [ay];omega
def sL {p:It} {l:List It}:p∈mo l↔p∈l:=by
 unfold mo;rw [Ee,(gT l).mem_iff];simp
def Kf (l:List It):(mo l).length<=l.length:=by
 unfold mo;have:=Ef (srt l) [];rw [(gT l).length_eq] at this;simpa using this
def Dq {l:List It} (h:low l):low (mo l):=λp hp=>h p (sL.mp hp)
def low.app {a b:List It} (h:low a) (h2:low b):low (a++b):=λp hp=>(aJ.mp hp).elim (h p) (h2 p)
def low.one {p:It} (h:sz p.2<=61):low [p]:=λq hq=>by rw [bC.mp hq];exact h
def GV {l:List D} {y:D}:atI (l++[y]) (-1) = some y:=by
 unfold atI ixN;rw [if_neg ⇑0,if_pos (by simp;omega)];show (l++[y])[(-1+((l++[y]).length:Int)).toNat]? = some y;have e:(-1+((l++[y]).length:Int)).toNat = l.length:=by rw [ah];simp;omega
 rw [e,bh (az _),Nat.sub_self];rfl
def Mu {p q:It} (hp:sz p.2<=61) (hq:sz q.2<=61) {Q:Bool->Prop} (k:Q (!eqD (itD p) (itD q))):oF .ne (itD p) (itD q) Q:=by
 refine ⟨_,?_,k⟩;show (if iB (itD p) (itD q) = true then some (!eqD (itD p) (itD q)) else none) = _;have:=lL p hp;have:=lL q hq;rw [if_pos (by unfold iB;rw [show kin (itD p) (itD q) = true from rfl,uj,aa,decide_eq_true_eq,decide_eq_true_eq];omega)]
def s64:(1000:Nat) < sizeLine:=by decide
def vk (l:List It) (y x:It):isL (l++[y]) x = eqD (itD y) (itD x):=by
 unfold isL;rw [zj,vM];rfl
def low.tail {x:It} {xs:List It} (h:low (x::xs)):low xs:=λp hp=>h p (aj _ hp)
def Cu (n:Nat) (l:List It) (h:low l) (hl:l.length<=900):PP.run Gs gls (n+1) 4 [.lst (l.map itD)] = some (.tup ((mo l).map itD)):=by
 apply cB;refine bN ik rfl rfl rfl ?_;simp only [ik,init,SI,Nat.reduceAdd,Nat.reduceSub];simp only [↓pC,↓WS,↓WC,WI,↓reduceIte];refine ⟨⇑0,xS h (by omega) s64,?_⟩;rw [wq h];refine gj (g:=itD) (λrest δ=>∃ (acc:List It) (s:Sl),δ = [.val (.lst (l.map itD)),.own (acc.map itD),s]/\low acc/\low rest/\dd acc rest = mo l/\acc.length+rest.length<=900) ?_ ?_ _ _ ⟨[],_,rfl,(λp hp=>by cases hp),(λp hp=>h p ((gT l).mem_iff.mp hp)),rfl,by rw [aF,(gT l).length_eq];omega⟩
 . rintro x rest δ ⟨acc,s,rfl,ha,hr,e,hlen⟩;rw [ay] at hlen;have hx:=hr x ak;have ss:=s64;rw [dd] at e
   have app:isL acc x = false->∃ (acc':List It) (s:Sl),([.val (.lst (l.map itD)),.own (acc.map itD++[itD x]),.val (itD x)]:PP.Loc) = [.val (.lst (l.map itD)),.own (acc'.map itD),s]/\low acc'/\low rest/\dd acc' rest = mo l/\acc'.length+rest.length<=900:=λz=>by
    rw [z,if_neg au] at e;exact ⟨acc++[x],_,by rw [bF];rfl,ha.app (.one hx),hr.tail,e,by rw [ah];simp only [ay,aF];omega⟩
   rcases kQ acc with rfl | ⟨l',y,rfl⟩
   . simp only [ox,↓WS,↓WC,WI,↓reduceIte];exact ⟨⇑0,app rfl⟩
   . rw [kR] at e hlen app ha |-;have hy:=ha y ↥0;rw [bF] at app |-;have hne:(!!(l'.map itD++[y].map itD).isEmpty) = false:=by cases l'<;>rfl
     simp only [hne,↓WS,↓WC,WI,↓reduceIte];refine ⟨itD y,GV,Mu hy hx ?_⟩;rw [vk] at app e
     cases eb:eqD (itD y) (itD x) with
     | true =>
       rw [eb,if_pos rfl] at e
       exact ⟨l'++[y],_,by rw [bF],ha,hr.tail,e,by omega⟩
     | false=>exact ⟨by simp only [ah,aB,ay,aF] at hlen |-;omega,app eb⟩
 . rintro δ ⟨acc,s,rfl,_,_,e,_⟩;simp only [↓WS,↓WC,WI,↓reduceIte];rw [<- e];rfl
def Jl (n:Nat) (r ad:List It) (a:D) (ha:a = .lst (ad.map itD)\/a = .tup (ad.map itD)) (h:low (r++ad)) (hl:r.length+ad.length<=900):PP.run Gs gls (n+2) 5 [.tup (r.map itD),a] = some (.tup ((mo (r++ad)).map itD)):=by
 have w:=Cu n (r++ad) h (by rw [ah];exact hl);rw [bF] at w;have ss:=s64;apply cB;refine bN tK rfl rfl rfl ?_;simp only [tK,init,SI,Nat.reduceAdd,Nat.reduceSub];rcases ha with rfl | rfl
 . simp only [↓WS,↓WC,WI,↓reduceIte];exact ⟨by rw [aB,aB];omega,(cu w).mpr rfl⟩
 . simp only [↓WS,↓WC,WI,↓reduceIte];exact ⟨by rw [aB,aB];omega,(cu w).mpr rfl⟩
def Cw (n:Nat) (l:List It) (h:low l) (hl:l.length<=900):PP.run Gs gls (n+1) 13 [.lst (l.map itD)] = some (.tup ((mo l).map itD)):=by
 apply cB;refine bN iQ rfl rfl rfl ?_;simp only [iQ,init,SI,Nat.reduceAdd,Nat.reduceSub];simp only [↓pC,↓WS,↓WC,WI,↓reduceIte];refine ⟨⇑0,xS h (by omega) s64,?_⟩;rw [wq h];refine gj (g:=itD) (λrest δ=>∃ (acc:List It) (s:Sl),δ = [.val (.lst (l.map itD)),.own (acc.map itD),s]/\low acc/\low rest/\dd acc rest = mo l/\acc.length+rest.length<=900) ?_ ?_ _ _ ⟨[],_,rfl,(λp hp=>by cases hp),(λp hp=>h p ((gT l).mem_iff.mp hp)),rfl,by rw [aF,(gT l).length_eq];omega⟩
 . rintro x rest δ ⟨acc,s,rfl,ha,hr,e,hlen⟩;rw [ay] at hlen;have hx:=hr x ak;have ss:=s64;rw [dd] at e
   have app:isL acc x = false->(acc.map itD).length < sizeLine/\∃ (acc':List It) (s:Sl),([.val (.lst (l.map itD)),.own (acc.map itD++[itD x]),.val (itD x)]:PP.Loc) = [.val (.lst (l.map itD)),.own (acc'.map itD),s]/\low acc'/\low rest/\dd acc' rest = mo l/\acc'.length+rest.length<=900:=λz=>by
    rw [z,if_neg au] at e;exact ⟨by rw [aB];omega,acc++[x],_,by rw [bF];rfl,ha.app (.one hx),hr.tail,e,by rw [ah];simp only [ay,aF];omega⟩
   have keep:isL acc x = true->∃ (acc':List It) (s:Sl),([.val (.lst (l.map itD)),.own (acc.map itD),.val (itD x)]:PP.Loc) = [.val (.lst (l.map itD)),.own (acc'.map itD),s]/\low acc'/\low rest/\dd acc' rest = mo l/\acc'.length+rest.length<=900:=λz=>by
    rw [z,if_pos rfl] at e;exact ⟨acc,_,rfl,ha,hr.tail,e,by omega⟩
   have cut:cutD (acc.map itD) (some (-1)) none = match acc.getLast? with
    | some y=>[itD y]
    | none=>[]:=by
    rcases kQ acc with rfl | ⟨l',y,rfl⟩
    . rfl
    . rw [kR,zj,vM];unfold cutD;rw [show HT.sIx ((l'++[y]).map itD).length ((l'++[y]).map itD).length none = ((l'++[y]).map itD).length from rfl]
      have e1:HT.sIx ((l'++[y]).map itD).length 0 (some (-1)) = l'.length:=by
       unfold HT.sIx;simp;omega
      rw [e1,bF];simp
   simp only [↓WS,↓WC,WI,↓reduceIte];refine ⟨_,by show some (D.lst (cutD (acc.map itD) (some (-1)) none)) = _;rw [cut],?_⟩
   have nin:∀ (o:Option It),(∀ y,o = some y->sz y.2<=61)->∀ Q:Bool->Prop,Q (!(match o with | some y=>eqD (itD y) (itD x) | none=>false))->oF .notin (itD x) (.lst (match o with | some y=>[itD y] | none=>[])) Q:=λo ho Q q=>by
    have dx:=lL x hx
    cases o with
    | none=>exact ⟨true,by show (inD (itD x) (.lst [])).map (!·) = _;unfold inD;dsimp only;rw [if_pos ⟨by omega,by unfold cO;omega⟩];rfl,q⟩
    | some y =>
      have dy:=lL y (ho y rfl);refine ⟨!eqD (itD y) (itD x),?_,q⟩;show (inD (itD x) (.lst [itD y])).map (!·) = _;unfold inD;dsimp only;rw [if_pos ⟨by omega,by unfold cO cO;omega⟩];simp
   refine nin _ (λy hy=>ha y (zi hy)) _ ?_;change if (!isL acc x) = true then _ else _
   cases z:isL acc x with
   | true=>exact keep z
   | false=>exact app z
 . rintro δ ⟨acc,s,rfl,_,_,e,_⟩;simp only [↓WS,↓WC,WI,↓reduceIte];rw [<- e];rfl
def nm (t:Str):Prop:=∃ c r,t.cps.toList = c::r/\97<=c/\c<=122
def okF:F->Prop
 | .word _ ts=>ts.length<=1000
 | .un _ a=>okF a
 | .bi _ x y=>okF x/\okF y
 | _=>True
def tms:F->List Str
 | .word _ ts=>ts
 | .un _ a=>tms a
 | .bi _ x y=>tms x++tms y
 | _=>[]
def eE (f:Str->Int->Str):F->Int->F
 | .word w ts,k=>.word w (ts.map λt=>f t k)
 | .un u a,k=>.un u (eE f a (k+up u))
 | .bi b x y,k=>.bi b (eE f x k) (eE f y k)
 | A,_=>A
def oR (f:Str->Int->Str):∀ (A:F) (k:Int),hF (eE f A k) = hF A
 | .yes,_ | .no,_ | .word _ _,_=>rfl
 | .un u a,k=>by simp only [eE,hF,oR f a]
 | .bi b x y,k=>by simp only [eE,hF,oR f x,oR f y]
mutual
theorem yx:∀ ts:List Str,lfL (ts.map D.str) = true
 | []=>by unfold lfL;rfl
 | t::ts=>by rw [aN];unfold lfL lf;exact yx ts
end
def sR:∀ A:F,lf (enc A) = true
 | .yes | .no=>by unfold enc;decide
 | .word w ts=>by unfold enc;simp only [lf,lfL,yx,cC]
 | .un u a=>by unfold enc;simp only [lf,lfL,sR a,cC]
 | .bi b x y=>by unfold enc;simp only [lf,lfL,sR x,sR y,cC]
def MM:(("word":Str) == "word") = true:=by decide
def Lm (kk:Nat) (cs:List D) (f:Str->Int->Str) (p:Str->Prop):Prop:=∀ (n:Nat) (t:Str) (k:Int),p t->0<=k->k < 1000->PP.run Gs gls (n+2) kk (.str t::.int k::cs) = some (.str (f t k))
def upk (u:U) (k:Int):Int:=match u with | .neg=>k | _=>k+1
def IQ (u:U) (k:Int):upk u k = k+up u:=by cases u<;>simp [upk,up]
def BF (u:U) (k:Int):k<=upk u k/\upk u k<=k+1:=by cases u<;>simp [upk]<;>lia
def sA {kk:Nat} {cs:List D} {f:Str->Int->Str} {p:Str->Prop} (hm:Lm kk cs f p):∀ (A:F) (n:Nat) (k:Int),hF A+2<=n->0<=k->k+hF A < 1000->okF A->(∀ t∈tms A,p t)->PP.run Gs gls n 2 [enc A,.int k,.fn kk cs] = some (enc (eE f A k))
 | .yes,n+3,k,h,h0,h1,o,hp=>by kernel_rfl
 | .no,n+3,k,h,h0,h1,o,hp=>by kernel_rfl
 | .word w ts,n+3,k,h,h0,h1,o,hp=>by
   have o':ts.length<=1000:=o;apply cB;unfold enc;refine nh dD rfl rfl rfl rfl ?_;simp only [dD,og,uh,SI,Nat.reduceAdd,Nat.reduceSub];simp only [MM,ay,aF,↓WS,↓WC,WI,↓reduceIte];refine kC D.str (λ_=>true) (λt=>.str (f t k)) ts ?_ ?_
   . intro t hF';simp only [SI,↓WS,↓WC,WI,↓reduceIte];refine ⟨trivial,by simp [lfL,lf],?_⟩;rw [cu (hm n t k (hp t hF') h0 (by simp only [hF] at h1;lia))];exact ⟨by simp [lf],rfl,rfl⟩
   . have e:(ts.filter λ_=>true) = ts:=AL.mpr λ_ _=>rfl;rw [e];refine ⟨by rw [aB];exact small o',?_⟩;refine ⟨⇑0,?_⟩;show D.tup [_,_,D.tup (ts.map λt=>D.str (f t k))] = D.tup [.str "word",.str w,.tup ((ts.map λt=>f t k).map .str)];rw [List.map_map]
     rfl
 | .un u a,n+3,k,h,h0,h1,o,hp=>by
   have ih:=sA hm a (n+2) (upk u k) (by simp only [hF] at h;lia) (by have:=BF u k;lia) (by have:=BF u k;simp only [hF] at h1;lia) o hp;have wi:PP.run Gs gls (n+2) 0 [enc (.un u a)] = some (.tup [enc a]):=by cases u<;>kernel_rfl
   apply cB;refine nh dD rfl rfl rfl rfl ?_;simp only [dD,og,uh,SI,Nat.reduceAdd,Nat.reduceSub];refine dC 3 [.val (enc (.un u a)),.val (.int k),.fnc kk cs,.val (.str u.s),.val (.int (upk u k))] (by cases u<;>kernel_rfl) ?_;simp only [fj,↓cu wi,↓kB,↓jt,SI,List.take,Nat.reduceAdd,↓cu ih,↓WS,↓WC,WI,↓reduceIte];refine ⟨⇑0,rfl,⇑0,⇑0,?_⟩;rw [IQ]
   rfl
 | .bi b x y,n+3,k,h,h0,h1,o,hp=>by
   have ih1:=sA hm x (n+2) k (by simp only [hF] at h;lia) ∅ (by simp only [hF] at h1;lia) o.1 λt z=>hp t (cZ _ z);have ih2:=sA hm y (n+2) k (by simp only [hF] at h;lia) ∅ (by simp only [hF] at h1;lia) o.2 λt z=>hp t (aW _ z);have wi:PP.run Gs gls (n+2) 0 [enc (.bi b x y)] = some (.tup [enc x,enc y]):=by cases b<;>kernel_rfl
   apply cB;refine nh dD rfl rfl rfl rfl ?_;simp only [dD,og,uh,SI,Nat.reduceAdd,Nat.reduceSub];refine dC 3 [.val (enc (.bi b x y)),.val (.int k),.fnc kk cs,.val (.str b.s),.val (.int k)] (by cases b<;>kernel_rfl) ?_;simp only [fj,↓cu wi,↓kB,↓jt,SI,List.take,Nat.reduceAdd,↓cu ih1,↓cu ih2,↓WS,↓WC,WI,↓reduceIte]
   exact ⟨⇑0,rfl,rfl,⇑0,⇑0,rfl⟩
 | A,0,k,h,h0,h1,o,hp=>by lia
 | A,1,k,h,h0,h1,o,hp=>by lia
 | A,2,k,h,h0,h1,o,hp=>by cases A<;>simp only [hF] at h<;>lia
def nJ {i:Int} (h0:0<=i) (h1:i < 1000):i.natAbs.log2 < 1920:=by
 have:i.natAbs < 1000:=by lia
 rcases Nat.eq_zero_or_pos i.natAbs with e | e
 . rw [e];decide
 . have:=(AH (k:=10) (Nat.pos_iff_ne_zero.mp e)).mpr ∅
   lia
def bf (nm t:Str) (k:Int):Str:=if (t == nm) = true then toString k else t
def isN (t:Str):Bool:=!(decide (t.length > 0) && t.cps.all di)
def xh {t:Str} (h:nm t):isN t = true:=by
 obtain ⟨c,r,e,h1,h2⟩:=h
 have hc:di c = false:=by
  have:∀ c:Nat,c < 123->97<=c->di c = false:=by decide
  exact this c ∅ h1
 have:t.cps.all di = false:=by
  rw [<- EW,e];simp [hc]
 unfold isN;rw [this];simp
def pl (j:Int):Str:=toString j
def Ag (m:Nat):∀ c∈(pl (m:Int)).cps.toList,48<=c/\c<=57:=λc hc=>by
 unfold pl at hc;rw [PySem.W.KIN.signs_num] at hc;obtain ⟨ch,hch,e⟩:=cq.mp hc;have r:=PyProof.Rows.digit_range (Nat.isDigit_of_mem_toDigits ⇑0 ⇑0 hch);rw [<- e];exact r
def sE {j:Int} (h0:0<=j) (h1:j < 1000):PySem.intText? (pl j) = some j:=PySem.W.KIN.num_reads h0 ∅
def Jy {j:Int} (h0:0<=j) (h1:j < 1000):(pl j).length<=640:=bq (PySem.W.KT.len_num h0 ∅) ⇑0
def wJ {j:Int} (h0:0<=j):isN (pl j) = false:=by
 obtain ⟨m,rfl⟩:=Int.eq_ofNat_of_zero_le h0
 have h1:(pl (m:Int)).cps.all di = true:=by
  rw [<- EW,cX];intro c hc;have:∀ c:Nat,c < 58->48<=c->di c = true:=by decide
  obtain ⟨a,b⟩:=Ag m c hc;exact this c ∅ a
 have h2:(pl (m:Int)).length > 0:=by
  have:(pl (m:Int)).cps.toList≠[]:=by
   unfold pl;rw [PySem.W.KIN.signs_num];intro e;have h:=PySem.toDigits_len_ge 10 m;rw [List.map_eq_nil_iff.mp e] at h;exact absurd h ⇑0
  rw [<- str_len];exact List.length_pos_iff.mpr this
 unfold isN;rw [h1,decide_eq_true h2];rfl
def Mt {t:Str} (h:nm t) {j:Int} (h0:0<=j):(t == pl j) = false:=by
 cases e:(t == pl j) with
 | false=>rfl
 | true =>
   have e':t = pl j:=by simpa using e
   have:=xh h;rw [e',wJ h0] at this;cases this
def Pd (t:Str):Prop:=nm t\/∃ j:Int,0<=j/\j < 10/\t = pl j
def pf (new t:Str) (k:Int):Str:=if isN t = false/\PySem.intText? t = some k then new else t
def LQ (n:Nat) (t:Str):PP.run Gs gls (n+1) 1 [.str t] = some (.bl (!isN t)):=by
 apply cB;refine bN jH rfl rfl rfl ?_;simp only [jH,init,SI,Nat.reduceAdd,Nat.reduceSub];simp only [↓ux,↓WS,↓WC,WI,↓reduceIte];simp [isN]
def My (new:Str):Lm 33 [.str new] (pf new) Pd:=by
 intro n t k hp h0 h1;apply cB;refine bN d_lam0 rfl rfl rfl ?_;simp only [d_lam0,init,SI,Nat.reduceAdd,Nat.reduceSub];simp only [↓cu (LQ _ _),↓WS,↓WC,WI,↓reduceIte];unfold pf;rcases hp with h | ⟨j,j0,j1,rfl⟩
 . simp [xh h]
 . have e1:=wJ j0;have e2:=sE j0 (show j < 1000 by lia);simp only [e1,Bool.not_false,↓zK,e2,↓WS,↓WC,WI,↓reduceIte];refine ⟨Jy j0 ∅,j,rfl,?_⟩
   (try simp only [↓WS,↓WC,WI,↓reduceIte])
   split
   . rename_i h;rw [if_pos ⟨trivial,by rw [h]⟩]
   . rename_i h;rw [if_neg λz=>h (bR z.2)]
def uS (A:F) (new:Str) (n:Nat) (h:hF A+2<=n) (h1:hF A < 1000) (o:okF A) (hp:∀ t∈tms A,Pd t):PP.run Gs gls (n+1) 3 [enc A,.str new] = some (enc (eE (pf new) A 0)):=by
 have r:=sA (My new) A n 0 h ⇑0 ∅ o hp;apply cB;refine bN jh rfl rfl rfl ?_;simp only [jh,init,SI,Nat.reduceAdd,Nat.reduceSub];simp only [flat,jR,iu,↓cu r,sR,↓WS,↓WC,WI,↓reduceIte];exact ⟨trivial,rfl,trivial,trivial⟩
def jD {cx:Cl} {c:E} {a b:Ss} {δ:PP.Loc} {Q:Out->Prop} (h:wT cx c δ λk δ1=>k = true/\δ1 = δ) (q:wSs cx a δ Q):wS cx (.ifs c a b) δ Q:=Iy (δ0:=δ) (λk=>k = true) (let ⟨k,δ1,e,p⟩:=h;⟨k,δ1,e,p.2,p.1⟩) (λ_=>q) λz=>by cases z
def brs (L:Bool) (nm:Str):F->List (List It)
 | .un .neg a=>[[(!L,a)]]
 | .un _ a=>[[(L,eE (pf nm) a 0)]]
 | .bi .and x y=>if L = true then [[(L,x),(L,y)]] else [[(L,x)],[(L,y)]]
 | .bi .or x y=>if L = true then [[(L,x)],[(L,y)]] else [[(L,x),(L,y)]]
 | .bi .imp x y=>if L = true then [[(!L,x)],[(L,y)]] else [[(!L,x),(L,y)]]
 | _=>[]
def brD (l:List (List It)):D:=.lst (l.map λb=>.lst (b.map itD))
def Gf (n:Nat) (L:Bool) (nm:Str):∀ (A:F),3<=kd A->hF A+6<=n->hF A < 1000->okF A->(∀ t∈tms A,Pd t)->PP.run Gs gls (n+1) 8 [.str (sd L),enc A,.str nm] = some (brD (brs L nm A))
 | .yes,z,_,_,_,_=>absurd z (by show ¬ 3<=0;decide)
 | .no,z,_,_,_,_=>absurd z (by show ¬ 3<=1;decide)
 | .word w ts,z,_,_,_,_=>absurd z (by show ¬ 3<=2;decide)
 | .un .neg a,_,h,_,_,_=>by obtain ⟨m,rfl⟩:∃ m,n = m+4:=⟨n - 4,∅⟩;cases L<;>kernel_rfl
 | .bi b x y,_,h,_,_,_=>by obtain ⟨m,rfl⟩:∃ m,n = m+4:=⟨n - 4,∅⟩;cases L<;>cases b<;>kernel_rfl
 | .un .all a,_,h,h1,o,hp=>by
   simp only [hF] at h h1;obtain ⟨m,rfl⟩:∃ m,n = m+1:=⟨n - 1,∅⟩;have r:=uS a nm m ∅ ∅ o hp;apply cB;refine bN kJ rfl rfl rfl ?_;simp only [kJ,init,SI,Nat.reduceAdd,Nat.reduceSub];refine dC 2 [.val (.str (sd L)),.val (enc (.un .all a)),.val (.str nm),.val (.str "all"),.no] ⋯ (cM.mpr (jD ⟨true,_,⋯,rfl,rfl⟩ ?_));simp only [enc,↓cu r,ay,aF,↓WS,↓WC,WI,↓reduceIte]
   exact ⟨⇑0,⇑0,⇑0,rfl⟩
 | .un .ex a,_,h,h1,o,hp=>by
   simp only [hF] at h h1;obtain ⟨m,rfl⟩:∃ m,n = m+1:=⟨n - 1,∅⟩;have r:=uS a nm m ∅ ∅ o hp;apply cB;refine bN kJ rfl rfl rfl ?_;simp only [kJ,init,SI,Nat.reduceAdd,Nat.reduceSub];refine dC 2 [.val (.str (sd L)),.val (enc (.un .ex a)),.val (.str nm),.val (.str "some"),.no] ⋯ (cM.mpr (jD ⟨true,_,⋯,rfl,rfl⟩ ?_));simp only [enc,↓cu r,ay,aF,↓WS,↓WC,WI,↓reduceIte];exact ⟨⇑0,⇑0,⇑0,rfl⟩
def qf (new t:Str) (k:Int):Str:=if (t == pl k) = true then new else t
def chR (i:Nat):Ss:=.cons (.ret (.bin .add (.tup (.cons (.ix (.var 0) (.int 0)) .nil)) (.blt .toTup (.cons (.comp 1 (.nm 5) (.sq (.sl (.var 0) (.yes (.int 1)) .no)) .no (.call i (.cons (.var 5) (.cons (.var 1) (.cons (.var 2) .nil))))) .nil)))) .nil
def chB (i:Nat) (W:Ss):Ss:=.cons (.ifs (.cmp .eq (.ix (.var 0) (.int 0)) (.str "word")) W .nil) (.cons (.ifs (.or (.cmp .eq (.ix (.var 0) (.int 0)) (.str "all")) (.cmp .eq (.ix (.var 0) (.int 0)) (.str "some")))
 (.cons (.ret (.tup (.cons (.ix (.var 0) (.int 0)) (.cons (.call i (.cons (.ix (.var 0) (.int 1)) (.cons (.var 1) (.cons (.bin .add (.var 2) (.int 1)) .nil)))) .nil)))) .nil) .nil) (chR i))
def chW (W:Ss) (nm:Str) (f:Str->Int->Str):Prop:=∀ (n:Nat) (w:Str) (ts:List Str) (k:Int) (R:Out->Prop),ts.length<=1000->0<=k->k < 1000->(∀ δ,R (.rt (enc (.word w (ts.map λt=>f t k))) δ))->wSs ⟨PP.run Gs gls n,gls,hfs Gs⟩ W [.val (enc (.word w ts)),.val (.str nm),.val (.int k),.no,.no] R
def yd {i:Nat} {W:Ss} {nm:Str} {f:Str->Int->Str} (hd:∀ (n:Nat) (A:F) (k:Int) {Q:D->Prop},wSs ⟨PP.run Gs gls n,gls,hfs Gs⟩ (chB i W) [.val (enc A),.val (.str nm),.val (.int k),.no,.no] (retS Q)->gg Gs gls (n+1) i [enc A,.str nm,.int k] Q) (hW:chW W nm f):∀ (n:Nat) (A:F) (k:Int),hF A<=n->0<=k->k+hF A < 1000->okF A->PP.run Gs gls n i [enc A,.str nm,.int k] = some (enc (eE f A k))
 | 0,A,k,h,h0,h1,o=>by cases A<;>simp only [hF] at h<;>lia
 | n+1,A,k,h,h0,h1,o=>by
   have ss:(1000:Nat) < sizeLine:=by decide
   apply cB;apply hd
   have fin:∀ (s:Str) (ps:List F),ps.length<=2->evE ⟨PP.run Gs gls n,gls,hfs Gs⟩ (.tup (.cons (.ix (.var 0) (.int 0)) .nil)) [.val (enc A),.val (.str nm),.val (.int k),.no,.no] = some (.tup [.str s],[.val (enc A),.val (.str nm),.val (.int k),.no,.no])->evI ⟨PP.run Gs gls n,gls,hfs Gs⟩ (.sq (.sl (.var 0) (.yes (.int 1)) .no)) [.val (enc A),.val (.str nm),.val (.int k),.no,.no] = some (ps.map enc,[.val (enc A),.val (.str nm),.val (.int k),.no,.no]) ->
    opD .add (.tup [.str s]) (.tup (ps.map λp=>enc (eE f p k))) = some (enc (eE f A k))->(∀ p∈ps,hF p<=n/\hF p<=hF A/\okF p)->wSs ⟨PP.run Gs gls n,gls,hfs Gs⟩ (chR i) [.val (enc A),.val (.str nm),.val (.int k),.no,.no] (retS λd=>d = enc (eE f A k)):=λs ps hl ha hi ho hp =>
    rT _ (Hh (x:=.tup [.str s]) (y:=.tup (ps.map λp=>enc (eE f p k))) ha (Ax (Eb enc (λp=>enc (eE f p k)) (λp=>[enc p,.str nm,.int k]) ps ∅ hi rfl (λ_ _=>rfl) λp hp'=>yd hd hW n p k (hp p hp').1 h0 (by have:=(hp p hp').2.1;lia) (hp p hp').2.2)) ho) rfl
   have bd:∀ (u:U) (a:F),A = .un u a->u≠.neg->wSs ⟨PP.run Gs gls n,gls,hfs Gs⟩ (chB i W) [.val (enc A),.val (.str nm),.val (.int k),.no,.no] (retS λd=>d = enc (eE f A k)):=λu a e hu=>by
    subst e;simp only [hF] at h h1;have e1:up u = 1:=by cases u<;>first | rfl | exact absurd rfl hu
    have ih:=yd hd hW n a (k+1) ∅ ∅ ∅ o;refine dS false (by cases u<;>kernel_rfl) (λz=>by cases z) λ_=>dS true (by cases u<;>first | exact absurd rfl hu | kernel_rfl) (λ_=>rT (.tup [.str u.s,enc (eE f a (k+1))]) (yN (eU ⋯ (eU (jE [enc a,.str nm,.int (k+1)] ⋯ ih) rfl)) (by show 2<=sizeLine;lia)) ?_) λz=>by cases z
    show _ = enc (.un u (eE f a (k+up u)));rw [e1];rfl
   have no:∀ {Q:Out->Prop},evT ⟨PP.run Gs gls n,gls,hfs Gs⟩ (.cmp .eq (.ix (.var 0) (.int 0)) (.str "word")) [.val (enc A),.val (.str nm),.val (.int k),.no,.no] = some (false,[.val (enc A),.val (.str nm),.val (.int k),.no,.no])->evT ⟨PP.run Gs gls n,gls,hfs Gs⟩ (.or (.cmp .eq (.ix (.var 0) (.int 0)) (.str "all")) (.cmp .eq (.ix (.var 0) (.int 0)) (.str "some"))) [.val (enc A),.val (.str nm),.val (.int k),.no,.no] = some (false,[.val (enc A),.val (.str nm),.val (.int k),.no,.no])->wSs ⟨PP.run Gs gls n,gls,hfs Gs⟩ (chR i) [.val (enc A),.val (.str nm),.val (.int k),.no,.no] Q->wSs ⟨PP.run Gs gls n,gls,hfs Gs⟩ (chB i W) [.val (enc A),.val (.str nm),.val (.int k),.no,.no] Q:=λe1 e2 q=>dS false e1 (λz=>by cases z) λ_=>dS false e2 (λz=>by cases z) λ_=>q
   cases A with
   | yes=>exact no ⋯ ⋯ (fin "yes" [] ⇑0 ⋯ ⋯ ⋯ λp hp=>by cases hp)
   | no=>exact no ⋯ ⋯ (fin "no" [] ⇑0 ⋯ ⋯ ⋯ λp hp=>by cases hp)
   | word w ts=>exact cM.mpr (jD ⟨true,_,⋯,rfl,rfl⟩ (hW n w ts k _ o h0 (by simp only [hF] at h1;lia) λδ=>rfl))
   | un u a =>
     cases u with
     | neg=>exact no ⋯ ⋯ (fin "not" [a] (by show 1<=2;decide) ⋯ ⋯ (by show some (D.tup [.str "not",enc (eE f a k)]) = some (enc (.un .neg (eE f a (k+up .neg))));rw [show k+up .neg = k by simp [up]];rfl) λp hp=>by rw [bC.mp hp];simp only [hF] at h |-;exact ⟨∅,∅,o⟩)
     | all=>exact bd .all a rfl (λz=>by cases z)
     | ex=>exact bd .ex a rfl (λz=>by cases z)
   | bi b x y=>exact no (by cases b<;>kernel_rfl) (by cases b<;>kernel_rfl) (fin b.s [x,y] (by show 2<=2;decide) ⋯ ⋯ ⋯ λp hp=>by
     simp only [hF] at h |-;simp only [aC,aU,or_false] at hp;rcases hp with rfl | rfl
     . exact ⟨∅,∅,o.1⟩
     . exact ⟨∅,∅,o.2⟩)
def chL (c x:E):Ss:=.cons (.new 3 (.lst .nil)) (.cons (.for_ (.nm 4) (.sq (.ix (.var 0) (.int 2))) (.cons (.ifs (.cmp .eq (.var 4) c) (.cons (.append 3 x) .nil) (.cons (.append 3 (.var 4)) .nil)) .nil)) (.cons (.ret (.tup (.cons (.str "word") (.cons (.ix (.var 0) (.int 1)) (.cons (.blt .toTup (.cons (.pk 3) .nil)) .nil))))) .nil))
def HJ {c x:E} {nm:Str} {f:Str->Int->Str} (u v:Int->Str) (hc:∀ (n:Nat) (k:Int) (s0 s3 s4:Sl),0<=k->k < 1000->evE ⟨PP.run Gs gls n,gls,hfs Gs⟩ c [s0,.val (.str nm),.val (.int k),s3,s4] = some (.str (u k),[s0,.val (.str nm),.val (.int k),s3,s4])/\evE ⟨PP.run Gs gls n,gls,hfs Gs⟩ x [s0,.val (.str nm),.val (.int k),s3,s4] = some (.str (v k),[s0,.val (.str nm),.val (.int k),s3,s4])) (hf:∀ t k,f t k = if (t == u k) = true then v k else t):chW (chL c x) nm f:=λn w ts k R o h0 h1 hR=>by
 have ss:(1000:Nat) < sizeLine:=by decide
 refine dC 1 [.val (enc (.word w ts)),.val (.str nm),.val (.int k),.own [],.no] ⋯ (md (ts.map .str) ⋯ ?_);refine gj (g:=D.str) (λrest δ=>∃ (acc:List Str) (s:Sl),δ = [.val (enc (.word w ts)),.val (.str nm),.val (.int k),.own (acc.map .str),s]/\acc++rest.map (λt=>f t k) = ts.map (λt=>f t k)) ?_ ?_ _ _ ⟨[],_,rfl,rfl⟩
 . rintro t rest δ ⟨acc,s,rfl,e⟩;obtain ⟨c1,c2⟩:=hc n k (.val (enc (.word w ts))) (.own (acc.map .str)) (.val (.str t)) h0 h1
   have hl:(acc.map D.str).length < sizeLine:=by
    have:=congrArg gB e;simp only [ah,aB] at this |-
    lia
   have nx:∀ y,f t k = y->vg (λδ=>∃ (acc:List Str) (s:Sl),δ = [.val (enc (.word w ts)),.val (.str nm),.val (.int k),.own (acc.map .str),s]/\acc++rest.map (λt=>f t k) = ts.map (λt=>f t k)) (qX ⟨PP.run Gs gls n,gls,hfs Gs⟩ (.cons (.ret (.tup (.cons (.str "word") (.cons (.ix (.var 0) (.int 1)) (.cons (.blt .toTup (.cons (.pk 3) .nil)) .nil))))) .nil) R) (.nx [.val (enc (.word w ts)),.val (.str nm),.val (.int k),.own (acc.map D.str++[.str y]),.val (.str t)]):=λy hy=>⟨acc++[y],_,by rw [bF];rfl,by rw [<- e,aN,hy,aO];rfl⟩;refine ⟨[.val (enc (.word w ts)),.val (.str nm),.val (.int k),.own (acc.map .str),.val (.str t)],rfl,?_⟩;exact dS (t == u k) (sZ (x:=.str t) (y:=.str (u k)) rfl c1 rfl) (λq=>jr _ c2 rfl hl (iH.mpr (nx _ (by rw [hf,if_pos q])))) λq=>jr (.str t) rfl rfl hl (iH.mpr (nx _ (by rw [hf,q];rfl)))
 . rintro δ ⟨acc,s,rfl,e⟩;rw [ox,bA] at e;have hR:=hR [.val (enc (.word w ts)),.val (.str nm),.val (.int k),.own (acc.map .str),s];rw [<- e] at hR;exact ⟨_,⋯,hR⟩
def DY {n:Nat} {k:Int} {s0 s1 s3 s4:Sl} (h0:0<=k) (h1:k < 1000):evE ⟨PP.run Gs gls n,gls,hfs Gs⟩ (.blt .toStr (.cons (.var 2) .nil)) [s0,s1,.val (.int k),s3,s4] = some (.str (pl k),[s0,s1,.val (.int k),s3,s4]):=by
 obtain ⟨z,e,rfl⟩:=(uy (i:=k) (Q:=λd=>d = .str (pl k))).mpr ⟨nJ h0 h1,rfl⟩;exact Hg ⋯ e
def Cy (A:F) (n:Nat) (nm:Str) (k:Int):hF A<=n->0<=k->k+hF A < 1000->okF A->PP.run Gs gls n 18 [enc A,.str nm,.int k] = some (enc (eE (qf nm) A k)) :=
 yd (W:=chL (.blt .toStr (.cons (.var 2) .nil)) (.var 1)) (λn A k {Q} h=>by refine bN jI rfl rfl rfl ?_;simp only [jI,init,SI,Nat.reduceAdd,Nat.reduceSub];exact h) (HJ pl (λ_=>nm) (λn k s0 s3 s4 h0 h1=>⟨DY h0 h1,rfl⟩) λt k=>rfl) n A k
def Lw (u:U):0<=up u/\up u<=1:=by cases u<;>decide
def jA {f g:Str->Int->Str}:∀ (A:F) (k:Int),(∀ t∈tms A,∀ j:Int,0<=j->j<=k+hF A->f t j = g t j)->0<=k->eE f A k = eE g A k
 | .yes,_,_,_ | .no,_,_,_=>rfl
 | .word w ts,k,h,h0=>by
   have h:∀ t∈ts,∀ j:Int,0<=j->j<=k+1->f t j = g t j:=h;simp only [eE]
   rw [List.map_congr_left λt hF=>h t hF k h0 ∅]
 | .un u a,k,h,h0=>by
   have:=Lw u
   simp only [eE,jA a (k+up u) (λt hF' j j0 j1=>h t hF' j j0 (by simp only [hF];lia)) ∅]
 | .bi b x y,k,h,h0=>by
   simp only [eE,jA x k (λt hF' j j0 j1=>h t (cZ _ hF') j j0 (by simp only [hF];lia)) h0,jA y k (λt hF' j j0 j1=>h t (aW _ hF') j j0 (by simp only [hF];lia)) h0]
def Mb {new t:Str} (h:Pd t) {k:Int} (k0:0<=k) (k1:k < 1000):qf new t k = pf new t k:=by
 unfold qf pf;rcases h with h | ⟨j,j0,j1,rfl⟩
 . have e1:(t == pl k) = false:=Mt h k0;have e2:isN t = true:=xh h;simp [e1,e2]
 . have e1:=wJ j0;have e2:=sE j0 (show j < 1000 by lia);by_cases e:j = k
   . subst e;simp [e1,e2]
   . have e3:(pl j == pl k) = false:=by
      cases z:(pl j == pl k) with
      | false=>rfl
      | true =>
        have z:pl j = pl k:=eq_of_beq z;have:=sE k0 k1;rw [<- z,e2] at this;exact absurd (bR this) e
     simp [e1,e2,e3,e]
def uT {A:F} {new:Str} (h:∀ t∈tms A,Pd t) (hd:hF A < 900):eE (qf new) A 0 = eE (pf new) A 0 :=
 jA A 0 (λt hF j j0 j1=>Mb (h t hF) j0 ∅) ⇑0
def Cz (n:Nat) (L:Bool) (nm:Str):∀ (A:F),3<=kd A->hF A+6<=n->hF A < 900->okF A->(∀ t∈tms A,Pd t)->PP.run Gs gls (n+1) 19 [.str (sd L),enc A,.str nm] = some (brD (brs L nm A))
 | .yes,z,_,_,_,_=>absurd z (by show ¬ 3<=0;decide)
 | .no,z,_,_,_,_=>absurd z (by show ¬ 3<=1;decide)
 | .word w ts,z,_,_,_,_=>absurd z (by show ¬ 3<=2;decide)
 | .un .neg a,_,h,_,_,_=>by obtain ⟨m,rfl⟩:∃ m,n = m+4:=⟨n - 4,∅⟩;cases L<;>kernel_rfl
 | .bi b x y,_,h,_,_,_=>by obtain ⟨m,rfl⟩:∃ m,n = m+4:=⟨n - 4,∅⟩;cases L<;>cases b<;>kernel_rfl
 | .un .all a,_,h,h1,o,hp=>by
   simp only [hF] at h h1;have r:=Cy a n nm 0 ∅ ⇑0 ∅ o;rw [uT (A:=a) hp ∅] at r;apply cB;refine bN fB rfl rfl rfl ?_;simp only [fB,init,SI,Nat.reduceAdd,Nat.reduceSub];refine dC 2 [.val (.str (sd L)),.val (enc (.un .all a)),.val (.str nm),.val (.str (sd (!L))),.no] (by cases L<;>kernel_rfl) (cM.mpr (jD ⟨true,_,⋯,rfl,rfl⟩ ?_));simp only [enc,↓cu r,ay,aF,↓WS,↓WC,WI,↓reduceIte]
   exact ⟨⇑0,⇑0,⇑0,rfl⟩
 | .un .ex a,_,h,h1,o,hp=>by
   simp only [hF] at h h1;have r:=Cy a n nm 0 ∅ ⇑0 ∅ o;rw [uT (A:=a) hp ∅] at r;apply cB;refine bN fB rfl rfl rfl ?_;simp only [fB,init,SI,Nat.reduceAdd,Nat.reduceSub];refine dC 2 [.val (.str (sd L)),.val (enc (.un .ex a)),.val (.str nm),.val (.str (sd (!L))),.no] (by cases L<;>kernel_rfl) (cM.mpr (jD ⟨true,_,⋯,rfl,rfl⟩ ?_));simp only [enc,↓cu r,ay,aF,↓WS,↓WC,WI,↓reduceIte];exact ⟨⇑0,⇑0,⇑0,rfl⟩
def bnd:F->Bool
 | .un .neg _=>false
 | .un _ _=>true
 | _=>false
def MO (L:Bool) (A:F) (nm:Str) (ks:List D):D:=.tup [.str "rule",.str (sd L),enc A,.str nm,.tup ks]
def mE (f:Str->Int->Str):∀ (A:F) (k:Int),sz (eE f A k) = sz A
 | .yes,_ | .no,_ | .word _ _,_=>rfl
 | .un u a,k=>by simp only [eE,sz,mE f a]
 | .bi b x y,k=>by simp only [eE,sz,mE f x,mE f y]
def sbs:F->List F
 | .un _ a=>[a]
 | .bi _ x y=>[x,y]
 | _=>[]
def FZ {A a:F} (h:a∈sbs A):hF a<=hF A/\sz a<=sz A/\(tms a).length<=(tms A).length/\∀ t∈tms a,t∈tms A:=by
 cases A with
 | un u b =>
   obtain rfl:=bC.mp h
   exact ⟨eV _,eV _,az _,λ_ z=>z⟩
 | bi c x y =>
   simp only [sbs,aC,aU,or_false] at h;simp only [hF,sz,tms,ah,aJ];rcases h with rfl | rfl
   . exact ⟨∅,∅,∅,λ_ z=>.inl z⟩
   . exact ⟨∅,∅,∅,λ_ z=>.inr z⟩
 | _=>cases h
def Ho (L:Bool) (nm:Str) (A:F):∀ b∈brs L nm A,0 < b.length/\b.length<=2/\∀ p∈b,∃ a∈sbs A,p.2 = a\/(bnd A = true/\p.2 = eE (pf nm) a 0):=by
 cases A with
 | un u a=>cases u<;>simp [brs,sbs,bnd]
 | bi c x y=>cases c<;>cases L<;>simp [brs,sbs,bnd]
 | _=>simp [brs]
def KQ {L:Bool} {nm:Str} {A:F} (hs:sz A<=61) (b:List It) (hb:b∈brs L nm A):b.length<=2/\low b:=by
 obtain ⟨_,h2,h3⟩:=Ho L nm A b hb;refine ⟨h2,λp hp=>?_⟩;obtain ⟨a,ha,e⟩:=h3 p hp;have:=(FZ ha).2.1;rcases e with e | ⟨_,e⟩
 . rw [e];lia
 . rw [e,mE];lia
section
variable {L:Bool} {nm:Str} {A:F} {ks:List D} (hs:sz A<=61) (hF9:hF A<=10) (h3:3<=kd A) (o:okF A) (hp:∀ t∈tms A,Pd t)
include hs hF9 h3 o hp
theorem Gi (n:Nat) (hn:20<=n):PP.run Gs gls (n+1) 10 [MO L A nm ks] = some (brD (brs L nm A)):=by
 obtain ⟨m,rfl⟩:∃ m,n = m+1:=⟨n - 1,∅⟩;have w:=Gf m L nm A h3 ∅ ∅ o hp;apply cB;refine bN gO rfl rfl rfl ?_;simp only [gO,init,SI,Nat.reduceAdd,Nat.reduceSub];unfold MO;refine cM.mpr (jD ?_ ?_)
 . simp only [↓WS,↓WC,WI,↓reduceIte];exact ⟨⇑0,trivial⟩
 . simp only [↓WS,↓WC,WI,↓reduceIte];exact ⟨.str nm,⋯,(cu w).mpr rfl⟩
end
mutual
inductive T where
 | close | rule (L:Bool) (A:F) (nm:Str) (ks:Ts) | cut (A:F) (a b:T)
inductive Ts where
 | nil | cons (t:T) (r:Ts)
end
mutual
noncomputable def eT:T->D
 | .close=>.tup [.str "close"]
 | .rule L A nm ks=>.tup [.str "rule",.str (sd L),enc A,.str nm,.tup (eTs ks)]
 | .cut A a b=>.tup [.str "cut",enc A,.tup [eT a,eT b]]
noncomputable def eTs:Ts->List D
 | .nil=>[]
 | .cons t r=>eT t::eTs r
end
mutual
noncomputable def ht:T->Nat
 | .close=>1
 | .rule _ _ _ ks=>hts ks+1
 | .cut _ a b=>max (ht a) (ht b)+1
noncomputable def hts:Ts->Nat
 | .nil=>0
 | .cons t r=>max (ht t) (hts r)
end
def tln:Ts->Nat
 | .nil=>0
 | .cons _ r=>tln r+1
def yR:∀ ks:Ts,(eTs ks).length = tln ks
 | .nil=>rfl
 | .cons _ r=>by show (eTs r).length+1 = _;rw [yR r];rfl
def Go (xs:List Str) (A:F):Prop:=hF A<=10/\sz A<=61/\(tms A).length<=30/\∀ t∈tms A,t∈xs\/∃ j:Int,0<=j/\j < 10/\t = pl j
mutual
noncomputable def okT (xs:List Str):T->Prop
 | .close=>True
 | .rule _ A w ks=>Go xs A/\(w = ""\/w∈xs)/\GN xs ks
 | .cut A a b=>Go xs A/\okT xs a/\okT xs b
noncomputable def GN (xs:List Str):Ts->Prop
 | .nil=>True
 | .cons t r=>okT xs t/\GN xs r
end
mutual
theorem yT {xs:List Str}:∀ t:T,okT xs t->dep (eT t)<=2 * ht t+64
 | .close,_=>by rw [show dep (eT .close) = 1 by decide];lia
 | .rule L A w ks,h=>by
   have h1:=kH A;have h2:=h.1.2.1;have h3:=Ed ks h.2.2;have e:dep (D.tup (eTs ks)) = cO (eTs ks)+1:=by unfold dep;rfl
   simp only [eT,ht,dep,cO,oW]
   lia
 | .cut A a b,h=>by
   have h1:=kH A;have h2:=h.1.2.1;have h3:=yT a h.2.1;have h4:=yT b h.2.2;simp only [eT,ht,dep,cO,oW]
   lia
theorem Ed {xs:List Str}:∀ ks:Ts,GN xs ks->cO (eTs ks)<=2 * hts ks+64
 | .nil,_=>by simp [eTs,cO]
 | .cons t r,h=>by
   have h1:=yT t h.1;have h2:=Ed r h.2;simp only [eTs,hts,cO]
   lia
end
def mM (as:List D):dep (.tup as) = cO as+1:=by unfold dep;rfl
def oU {as bs:List D} (h:min (cO as) (cO bs)<=149) (h2:max (cO as) (cO bs) < 99999) {Q:Bool->Prop} (k:Q (eqD (.tup as) (.tup bs))):oF .eq (.tup as) (.tup bs) Q:=by
 refine ⟨_,?_,k⟩;have e1:=mM as;have e2:=mM bs
 have hd:iB (.tup as) (.tup bs) = true:=by
  unfold iB;rw [show kin (.tup as) (.tup bs) = true from rfl,e1,e2,uj,aa,decide_eq_true_eq,decide_eq_true_eq]
  lia
 show (if iB (.tup as) (.tup bs) = true then some (eqD (.tup as) (.tup bs)) else _) = _;rw [if_pos hd]
def Lv {c:Nat->List D->Option D} {f:Nat->Bool} {δ:PP.Loc} {Q:D->PP.Loc->Prop}:wE ⟨c,gls,f⟩ (.glob 3) δ Q↔Q (.tup [.str "close"]) δ:=Fu.trans ⟨λ⟨d,e,q⟩=>by cases e;exact q,λq=>⟨_,rfl,q⟩⟩
def isC:T->Bool
 | .close=>true
 | _=>false
def eqC {xs:List Str} {t:T} (h:okT xs t) (hh:ht t<=1000) {Q:Bool->Prop} (k:Q (isC t)):oF .eq (eT t) (.tup [.str "close"]) Q:=by
 have hd:=yT t h;have e2:cO [D.str "close"] = 0:=by decide
 cases t with
 | close=>exact oU ⇑0 ⇑0 (by rw [show eqD (D.tup [.str "close"]) (.tup [.str "close"]) = true by decide];exact k)
 | rule L A w ks =>
   have e1:=mM [.str "rule",.str (sd L),enc A,.str w,.tup (eTs ks)];have hd:dep (D.tup [.str "rule",.str (sd L),enc A,.str w,.tup (eTs ks)])<=_:=hd;refine oU (by rw [e2];lia) (by rw [e2];lia) ?_;rw [show eqD (D.tup [.str "rule",.str (sd L),enc A,.str w,.tup (eTs ks)]) (.tup [.str "close"]) = false by kernel_rfl]
   exact k
 | cut A a b =>
   have e1:=mM [.str "cut",enc A,.tup [eT a,eT b]];have hd:dep (D.tup [.str "cut",enc A,.tup [eT a,eT b]])<=_:=hd;refine oU (by rw [e2];lia) (by rw [e2];lia) ?_;rw [show eqD (D.tup [.str "cut",enc A,.tup [eT a,eT b]]) (.tup [.str "close"]) = false by kernel_rfl];exact k
def kT:T->List D
 | .close=>[]
 | .rule _ _ _ ks=>eTs ks
 | .cut _ a b=>[eT a,eT b]
def Jo (n:Nat) {xs:List Str} (t:T) (h:okT xs t) (hh:ht t<=1000):PP.run Gs gls (n+1) 9 [eT t] = some (.tup (kT t)):=by
 apply cB;refine bN kK rfl rfl rfl ?_;simp only [kK,init,SI,Nat.reduceAdd,Nat.reduceSub];simp only [↓Lv,↓WS,↓WC,WI,↓reduceIte];refine eqC h hh ?_
 cases t with
 | close=>simp only [isC,↓WS,↓WC,WI,↓reduceIte];exact ⟨⇑0,rfl⟩
 | rule L A w ks=>simp only [isC,↓WS,↓WC,WI,↓reduceIte];exact ⟨.tup (eTs ks),⋯,rfl⟩
 | cut A a b=>simp only [isC,↓WS,↓WC,WI,↓reduceIte];exact ⟨.tup [eT a,eT b],⋯,rfl⟩
def nE:∀ {A:F},(tms A).length<=1000->okF A
 | .yes,_ | .no,_=>trivial
 | .word _ _,h=>h
 | .un _ a,h=>nE (A:=a) h
 | .bi _ x y,h=>by
   have h:(tms x++tms y).length<=1000:=h;rw [ah] at h;exact ⟨nE ∅,nE ∅⟩
def mD (f:Str->Int->Str):∀ (A:F) (k:Int),(tms (eE f A k)).length = (tms A).length/\∀ t∈tms (eE f A k),∃ s∈tms A,∃ j,t = f s j
 | .yes,_ | .no,_=>⟨rfl,λt h=>by cases h⟩
 | .word w ts,k=>⟨by simp [eE,tms],λt h=>by
   obtain ⟨s,hs,rfl⟩:=cq.mp h
   exact ⟨s,hs,k,rfl⟩⟩
 | .un u a,k=>mD f a (k+up u)
 | .bi b x y,k=>by
   obtain ⟨a1,a2⟩:=mD f x k;obtain ⟨b1,b2⟩:=mD f y k;refine ⟨by simp only [eE,tms,ah,a1,b1],λt h=>?_⟩;rcases aJ.mp h with h | h
   . obtain ⟨s,hs,e⟩:=a2 t h;exact ⟨s,cZ _ hs,e⟩
   . obtain ⟨s,hs,e⟩:=b2 t h;exact ⟨s,aW _ hs,e⟩
section
variable {xs:List Str} (hx:∀ t∈xs,nm t)
include hx
theorem Go.pd {A:F} (h:Go xs A):∀ t∈tms A,Pd t:=λt ht=>(h.2.2.2 t ht).imp (hx t) id
end
def adds:T->List (List It)
 | .close=>[]
 | .rule L A w _=>brs L w A
 | .cut A _ _=>[[(false,A)],[(true,A)]]
def Kn (p:It):ltI p p = false:=by
 cases e:ltI p p with
 | false=>rfl
 | true=>have:=sO p p e;rw [e] at this;cases this
def yD {x:It}:∀ {ys:List It},ys.Pairwise (λa b=>ltI b a = false)->(insI x ys).Pairwise λa b=>ltI b a = false
 | [],_=>jO _ _
 | y::ys,h=>by
   unfold insI;have h':=bK.mp h;split
   . rename_i c;refine bK.mpr ⟨λz hz=>?_,yD h'.2⟩;rcases aC.mp ((insI_perm x ys).mem_iff.mp hz) with rfl | hz
     . exact sO _ _ c
     . exact h'.1 z hz
   . rename_i c;have c:=EU.mpr c;refine bK.mpr ⟨λz hz=>?_,h⟩;rcases aC.mp hz with rfl | hz
     . exact c
     . exact Dy x y z c (h'.1 z hz)
def wo:∀ xs,(srt xs).Pairwise λa b=>ltI b a = false
 | []=>.nil
 | x::xs=>yD (wo xs)
def yU:∀ (xs acc:List It),acc.Pairwise (λa b=>ltI a b = true)->xs.Pairwise (λa b=>ltI b a = false)->(∀ a∈acc,∀ x∈xs,ltI x a = false)->(dd acc xs).Pairwise λa b=>ltI a b = true
 | [],acc,ha,_,_=>ha
 | x::xs,acc,ha,hx,hb=>by
   have hx':=bK.mp hx;unfold dd;split
   . exact yU xs acc ha hx'.2 λa h y hy=>hb a h y (aj _ hy)
   . rename_i c;refine yU xs _ (bJ.mpr ⟨ha,jO _ _,λa h y hy=>?_⟩) hx'.2 λa h y hy=>?_
     . rw [bC.mp hy]
       cases e:ltI a x with
       | true=>rfl
       | false =>
         refine absurd ?_ c;obtain rfl:=Dz a x e (hb a h x ak);rcases kQ acc with rfl | ⟨l,y,rfl⟩
         . cases h
         . rw [kR] at h ha hb |-;rw [vk]
           have ea:a = y:=by
            rcases aJ.mp h with h | h
            . have:=(bJ.mp ha).2.2 a h y ↥0;rw [hb y ↥0 a ak] at this;cases this
            . exact bC.mp h
           rw [ea];exact (mL _ _ (kn y) (kn y)).mpr rfl
     . rcases aJ.mp h with h | h
       . exact hb a h y (aj _ hy)
       . rw [bC.mp h];exact hx'.1 y hy
def BG:∀ {a b:List It},a.Pairwise (λa b=>ltI a b = true)->b.Pairwise (λa b=>ltI a b = true)->(∀ p,p∈a↔p∈b)->a = b
 | [],[],_,_,_=>rfl
 | [],y::ys,_,_,h=>by cases (h y).mpr ak
 | x::xs,[],_,_,h=>by cases (h x).mp ak
 | x::xs,y::ys,ha,hb,h=>by
   have ha':=bK.mp ha;have hb':=bK.mp hb
   have e:x = y:=by
    rcases aC.mp ((h x).mp ak) with e | hx
    . exact e
    . rcases aC.mp ((h y).mpr ak) with e | hy
      . exact e.symm
      . have:=sO _ _ (ha'.1 y hy);rw [hb'.1 x hx] at this;cases this
   subst e
   have ne:∀ {l:List It},(∀ z∈l,ltI x z = true)->∀ p∈l,p≠x:=λhl p hp e=>by
    have:=hl p hp;rw [e,Kn] at this;cases this
   rw [BG ha'.2 hb'.2 λp=>⟨λhp=>(aC.mp ((h p).mp (aj _ hp))).resolve_left (ne ha'.1 p hp),λhp=>(aC.mp ((h p).mpr (aj _ hp))).resolve_left (ne hb'.1 p hp)⟩]
def Kg {a b:List It} (h:∀ p,p∈a↔p∈b):mo a = mo b :=
 BG (yU _ _ .nil (wo a) λ_ h=>by cases h) (yU _ _ .nil (wo b) λ_ h=>by cases h) λp=>sL.trans ((h p).trans sL.symm)
def ar (L:Bool):F->Nat
 | .un _ _=>1
 | .bi .and _ _=>if L = true then 1 else 2
 | .bi _ _ _=>if L = true then 2 else 1
 | _=>0
def KR (L:Bool) (w:Str) (A:F):(brs L w A).length = ar L A:=by
 cases A with
 | un u a=>cases u<;>rfl
 | bi b x y=>cases b<;>cases L<;>rfl
 | _=>rfl
def Ia {L:Bool} {A:F} (h:0 < ar L A):3<=kd A:=by
 cases A with
 | un u a=>exact az 3
 | bi b x y=>exact eV 3
 | _=>exact absurd h (cR 0)
mutual
noncomputable def nd:T->Nat
 | .close=>1
 | .rule _ _ _ ks=>nds ks+1
 | .cut _ a b=>nd a+nd b+1
noncomputable def nds:Ts->Nat
 | .nil=>0
 | .cons t r=>nd t+nds r
end
mutual
noncomputable def ful:T->Prop
 | .close=>True
 | .rule L A _ ks=>(0 < ar L A/\ar L A = tln ks)/\KC ks
 | .cut _ a b=>ful a/\ful b
noncomputable def KC:Ts->Prop
 | .nil=>True
 | .cons t r=>ful t/\KC r
end
def okQ (xs:List Str) (t:T):Prop:=okT xs t/\ful t
def tsl:Ts->List T
 | .nil=>[]
 | .cons t r=>t::tsl r
def kl:T->List T
 | .close=>[]
 | .rule _ _ _ ks=>tsl ks
 | .cut _ a b=>[a,b]
def tF:∀ ks:Ts,eTs ks = (tsl ks).map eT
 | .nil=>rfl
 | .cons t r=>by show eT t::eTs r = _;rw [tF r];rfl
def DG (t:T):kT t = (kl t).map eT:=by
 cases t with
 | close=>rfl
 | rule L A w ks=>exact tF ks
 | cut A a b=>rfl
def BL {xs:List Str} {u:T}:∀ {ks:Ts},u∈tsl ks->GN xs ks->KC ks->okQ xs u/\ht u<=hts ks
 | .nil,h,_,_=>by cases h
 | .cons t r,h,ho,hf=>by
   rcases aC.mp h with rfl | h
   . exact ⟨⟨ho.1,hf.1⟩,kP _ _⟩
   . have:=BL h ho.2 hf.2;exact ⟨this.1,bq this.2 (jW _ _)⟩
def vi {xs:List Str} {t u:T} (h:u∈kl t) (ho:okQ xs t):okQ xs u/\ht u+1<=ht t:=by
 cases t with
 | close=>cases h
 | rule L A w ks =>
   have:=BL h ho.1.2.2 ho.2.2
   exact ⟨this.1,Nat.succ_le_succ this.2⟩
 | cut A a b =>
   simp only [kl,aC,aU,or_false] at h;simp only [ht];rcases h with rfl | rfl
   . exact ⟨⟨ho.1.2.1,ho.2.1⟩,∅⟩
   . exact ⟨⟨ho.1.2.2,ho.2.2⟩,∅⟩
def BK:∀ ks:Ts,((tsl ks).map nd).sum = nds ks
 | .nil=>rfl
 | .cons t r=>by show nd t+((tsl r).map nd).sum = _;rw [BK r];rfl
def vc (t:T):nd t = ((kl t).map nd).sum+1:=by
 cases t with
 | close=>rfl
 | rule L A w ks=>show nds ks+1 = ((tsl ks).map nd).sum+1;rw [BK]
 | cut A a b=>rfl
mutual
noncomputable def tw:T->List T
 | .close=>[.close]
 | .rule L A w ks=>.rule L A w ks::tws ks
 | .cut A a b=>.cut A a b::(tw a++tw b)
noncomputable def tws:Ts->List T
 | .nil=>[]
 | .cons t r=>tw t++tws r
end
def xM:∀ ks:Ts,tws ks = (tsl ks).flatMap tw
 | .nil=>rfl
 | .cons t r=>by show tw t++tws r = (t::tsl r).flatMap tw;rw [xM r];rfl
def xN (t:T):tw t = t::(kl t).flatMap tw:=by
 cases t with
 | close=>rfl
 | rule L A w ks=>show _::tws ks = _;rw [xM];rfl
 | cut A a b=>show _::(tw a++tw b) = _;simp [kl]
def av (t:T):List It:=(tw t).flatMap λu=>(adds u).flatten
def HZ (t:T):av t = (adds t).flatten++(kl t).flatMap av:=by
 unfold av;rw [xN t,dZ,List.flatMap_assoc]
def Ht {xs:List Str} {t:T} (h:okQ xs t):(adds t).length = (kl t).length:=by
 cases t with
 | close=>rfl
 | rule L A w ks =>
   have l:∀ ks:Ts,(tsl ks).length = tln ks:=λks=>by rw [<- aB (f:=eT),<- tF,yR]
   show (brs L w A).length = (tsl ks).length
   rw [KR,h.2.1.2,l]
 | cut A a b=>rfl
section
variable {xs:List Str} (hx:∀ t∈xs,nm t)
theorem Jq (n:Nat) (hn:20<=n) (t:T) (ho:okQ xs t) (hx:∀ t∈xs,nm t):PP.run Gs gls (n+1) 10 [eT t] = some (brD (adds t)):=by
 cases t with
 | close =>
   obtain ⟨n,rfl⟩:∃ m,n = m+4:=⟨n - 4,∅⟩
   kernel_rfl
 | rule L A w ks =>
   have ho1:=ho.1.1
   exact Gi (ks:=eTs ks) (nm:=w) (L:=L) ho1.2.1 ho1.1 (Ia ho.2.1.1) (nE (by have:=ho1.2.2.1;lia)) (Go.pd hx ho1) n hn
 | cut A a b =>
   obtain ⟨n,rfl⟩:∃ m,n = m+4:=⟨n - 4,∅⟩;kernel_rfl
theorem tZ {t:T} (ho:okQ xs t) {b:List It} (hb:b∈adds t):b.length<=2/\low b:=by
 cases t with
 | close=>cases hb
 | rule L A w ks=>exact KQ ho.1.1.2.1 b hb
 | cut A a c =>
   simp only [adds,aC,aU,or_false] at hb;rcases hb with rfl | rfl<;>exact ⟨↥0,low.one ho.1.1.2.1⟩
theorem vJ (t:T):(adds t).flatten.length<=2:=by
 cases t with
 | close=>simp [adds]
 | rule L A w ks =>
   show (brs L w A).flatten.length<=2
   cases A with
   | un u a=>cases u<;>exact eV 1
   | bi b x y=>cases b<;>cases L<;>exact az 2
   | _=>exact bP _
 | cut A a c=>simp [adds]
end
def Ey {xs:List Str}:∀ (m:Nat) (t:T),ht t<=m->okQ xs t->low (av t)/\(av t).length<=2 * nd t
 | 0,t,h,_=>by cases t<;>simp only [ht] at h<;>lia
 | m+1,t,h,ho=>by
   have kid:∀ u∈kl t,low (av u)/\(av u).length<=2 * nd u:=λu hu=>by
    have:=vi hu ho;exact Ey m u ∅ this.1
   have flen:∀ l:List T,(∀ u∈l,(av u).length<=2 * nd u)->(l.flatMap av).length<=2 * (l.map nd).sum:=λl=>by
    induction l with
    | nil=>intro _;exact az 0
    | cons u l ih =>
      intro hl;have:=ih λv hv=>hl v (aj _ hv);have:=hl u ak;rw [dZ,ah,aN,jn]
      lia
   rw [HZ,vc];refine ⟨low.app (λp hp=>?_) λp hp=>?_,?_⟩
   . obtain ⟨b,hb,hp⟩:=pb.mp hp;exact (tZ ho hb).2 p hp
   . obtain ⟨u,hu,hp⟩:=EY.mp hp;exact (kid u hu).1 p hp
   . have:=flen (kl t) λu hu=>(kid u hu).2;have:=vJ t;rw [ah]
     lia
def lK {α:Type} {f:D->PP.Loc->Option (List D × PP.Loc)} {I:PP.Loc->Prop} (g:α->D) (h:α->List D):∀ (xs:List α) (δ:PP.Loc),(∀ x∈xs,∀ δ,I δ->∃ δ',f (g x) δ = some (h x,δ')/\I δ')->I δ->∃ δ',ie f (xs.map g) δ = some (xs.flatMap h,δ')/\I δ'
 | [],δ,_,i=>⟨δ,rfl,i⟩
 | x::xs,δ,hf,i=>by
   obtain ⟨δ1,e1,i1⟩:=hf x ak δ i;obtain ⟨δ2,e2,i2⟩:=lK g h xs δ1 (λy hy=>hf y (aj _ hy)) i1;refine ⟨δ2,?_,i2⟩;rw [aN];unfold ie;simp only [ae,e1,bB,e2,Option.pure_def,dZ]
def Hf {cx:Cl} {k:Nat} {t1 t2 t3:Tg} {s1 s2 s3:PP.It} {elt:E} {δ δ1 δ2:PP.Loc} {ds ys:List D} (e1:evI cx s1 δ = some (ds,δ1)) (e2:ie (emO k t1 (emI cx s2 t2 (emI cx s3 t3 (emE cx elt)))) ds δ1 = some (ys,δ2)) (hl:ys.length<=sizeLine):evE cx (.lc3 k t1 s1 t2 s2 t3 s3 elt) δ = some (.lst ys,δ2):=by
 unfold evE;show ((evI cx s1 δ).bind _) = _;rw [e1];show ((ie (emO k t1 (emI cx s2 t2 (emI cx s3 t3 (emE cx elt)))) ds δ1).bind _) = _;rw [e2];exact if_pos hl
def vt {α:Type} {cx:Cl} {src:PP.It} {tg:Tg} {b:PP.Loc->Option (List D × PP.Loc)} {δ δb:PP.Loc} {I:PP.Loc->Prop} (g:α->D) (h:α->List D) (xs:List α) (e:evI cx src δ = some (xs.map g,δb)) (hb:∀ x∈xs,∀ δ,I δ->∃ δd δ',dq δ tg (g x) = some δd/\b δd = some (h x,δ')/\I δ') (i:I δb):∃ δ',emI cx src tg b δ = some (xs.flatMap h,δ')/\I δ':=by
 obtain ⟨δ',e2,i2⟩:=lK (f:=λy δi=>(dq δi tg y).bind b) g h xs δb (λx hx δ i=>by
  obtain ⟨δd,δ',e1,e2,i2⟩:=hb x hx δ i;exact ⟨δ',by show ((dq δ tg (g x)).bind b) = _;rw [e1];exact e2,i2⟩) i
 refine ⟨δ',?_,i2⟩;unfold emI;show ((evI cx src δ).bind _) = _;rw [e];exact e2
def se {α:Type} (f:α->Nat) {u:α}:∀ {l:List α},u∈l->f u<=(l.map f).sum
 | x::l,h=>by
   rw [aN,jn];rcases aC.mp h with rfl | h
   . exact Hy _ _
   . exact bq (se f h) (Nat.le_add_left _ _)
def s9:(10000:Nat) < sizeLine:=by decide
def LN {xs:List Str}:∀ (m n:Nat) (t:T),ht t<=m->m<=900->okQ xs t->nd t<=400->PP.run Gs gls (n+m+1) 11 [eT t] = some (.lst ((tw t).map eT))/\(tw t).length = nd t
 | 0,n,t,h,_,_,_=>by cases t<;>simp only [ht] at h<;>lia
 | m+1,n,t,h,hm,ho,hn=>by
   have ss:=s9
   have kid:∀ u∈kl t,PP.run Gs gls (n+(m+1)) 11 [eT u] = some (.lst ((tw u).map eT))/\(tw u).length = nd u:=λu hu=>by
    have k:=vi hu ho;refine LN m n u ∅ ∅ k.1 ?_;rw [vc] at hn;have:nd u<=((kl t).map nd).sum:=se nd hu
    lia
   have len:∀ l:List T,(∀ u∈l,(tw u).length = nd u)->(l.flatMap tw).length = (l.map nd).sum:=λl=>by
    induction l with
    | nil=>intro _;rfl
    | cons u l ih =>
      intro hl;rw [dZ,ah,hl u ak,ih λv hv=>hl v (aj _ hv),aN,jn]
   have tl:(tw t).length = nd t:=by
    rw [xN,vc,ay,len _ λu hu=>(kid u hu).2]
   refine ⟨?_,tl⟩;apply cB;refine bN gy rfl rfl rfl ?_;simp only [gy,init,SI,Nat.reduceAdd,Nat.reduceSub];refine dC 1 [.val (eT t),.own [eT t],.no] ⋯ ?_;refine md _ (qo (jE [eT t] ⋯ (Jo (n+m) t ho.1 ∅)) rfl) ?_;rw [DG];refine gj (g:=eT) (λrest δ=>∃ (acc:List T) (s:Sl),δ = [.val (eT t),.own (acc.map eT),s]/\acc++rest.flatMap tw = tw t/\∀ u∈rest,u∈kl t) ?_ ?_ _ _ ⟨[t],_,rfl,by rw [xN t];rfl,λ_ h=>h⟩
   . rintro u rest δ ⟨acc,s,rfl,e,hr⟩;obtain ⟨k1,k2⟩:=kid u (hr u ak);have el:=congrArg gB e;simp only [ah,dZ] at el;simp only [↓cu k1,SI,↓WS,↓WC,WI,↓reduceIte];refine ⟨by rw [aB,aB];lia,acc++tw u,_,by rw [bF],by rw [<- e,aO];rfl,λv hv=>hr v (aj _ hv)⟩
   . rintro δ ⟨acc,s,rfl,e,_⟩;rw [List.flatMap_nil,bA] at e;subst e;simp only [SI,↓WS,↓WC,WI,↓reduceIte]
def Jk {xs:List Str} (hx:∀ t∈xs,nm t) (n:Nat) (row:List It) (t:T) (hm:ht t<=900) (ho:okQ xs t) (hn:nd t<=400) (hr:low row) (hl:row.length<=50) (h1:ht t+30<=n):PP.run Gs gls (n+1) 12 [.tup (row.map itD),eT t] = some (.tup ((mo (row++av t)).map itD)):=by
 have ss:=s9;obtain ⟨n,rfl⟩:∃ m,n = m+ht t+2:=⟨n - ht t - 2,∅⟩;obtain ⟨w1,_⟩:=LN (ht t) (n+1) t (az _) hm ho hn;rw [show n+1+ht t+1 = n+ht t+2 by lia] at w1;obtain ⟨a1,a2⟩:=Ey (ht t) t (az _) ho
 have nodes:∀ u∈tw t,okQ xs u:=λu hu=>by
  have:∀ (m:Nat) (t:T),ht t<=m->okQ xs t->∀ u∈tw t,okQ xs u:=λm=>by
   induction m with
   | zero=>intro t h;cases t<;>simp only [ht] at h<;>lia
   | succ m ih =>
     intro t h ho u hu;rw [xN] at hu;rcases aC.mp hu with rfl | hu
     . exact ho
     . obtain ⟨v,hv,hu⟩:=EY.mp hu;have k:=vi hv ho;exact ih v ∅ k.1 u hu
  exact this _ t (az _) ho u hu
 have w:=Jl (n+ht t) row (av t) _ (.inl rfl) (hr.app a1) ∅;apply cB;refine bN tJ rfl rfl rfl ?_;simp only [tJ,init,SI,Nat.reduceAdd,Nat.reduceSub]
 obtain ⟨δ',e,rfl⟩:=lK (f:=emO 3 (.nm 2) (emI ⟨PP.run Gs gls (n+ht t+2),gls,hfs Gs⟩ (.sq (.call 10 (.cons (.var 2) .nil))) (.nm 3) (emI ⟨PP.run Gs gls (n+ht t+2),gls,hfs Gs⟩ (.sq (.var 3)) (.nm 4) (emE ⟨PP.run Gs gls (n+ht t+2),gls,hfs Gs⟩ (.var 4))))) (I:=λδ=>δ = [.val (.tup (row.map itD)),.val (eT t)]) eT (λu=>(adds u).flatMap λb=>b.map itD) (tw t) [.val (.tup (row.map itD)),.val (eT t)] (by
  rintro u hu δ rfl;have ra:=Jq (n+ht t+1) ∅ u (nodes u hu) hx
  obtain ⟨δ1,e1,i1⟩:=vt (cx:=⟨PP.run Gs gls (n+ht t+2),gls,hfs Gs⟩) (src:=.sq (.call 10 (.cons (.var 2) .nil))) (tg:=.nm 3) (b:=emI ⟨PP.run Gs gls (n+ht t+2),gls,hfs Gs⟩ (.sq (.var 3)) (.nm 4) (emE ⟨PP.run Gs gls (n+ht t+2),gls,hfs Gs⟩ (.var 4))) (δ:=[.val (.tup (row.map itD)),.val (eT t),.val (eT u),.no,.no]) (I:=λδ=>∃ s3 s4,δ = [.val (.tup (row.map itD)),.val (eT t),.val (eT u),s3,s4]) (λb:List It=>D.lst (b.map itD)) (λb=>b.map itD) (adds u)
   (qo (jE [eT u] ⋯ ra) rfl) (by
     rintro b hb δ ⟨s3,s4,rfl⟩
     obtain ⟨δ2,e2,s4',rfl⟩:=vt (cx:=⟨PP.run Gs gls (n+ht t+2),gls,hfs Gs⟩) (src:=.sq (.var 3)) (tg:=.nm 4) (b:=emE ⟨PP.run Gs gls (n+ht t+2),gls,hfs Gs⟩ (.var 4)) (δ:=[.val (.tup (row.map itD)),.val (eT t),.val (eT u),.val (.lst (b.map itD)),s4]) (I:=λδ=>∃ s4,δ = [.val (.tup (row.map itD)),.val (eT t),.val (eT u),.val (.lst (b.map itD)),s4]) itD (λp=>[itD p]) b
      (qo rfl rfl) (by
        rintro p hp δ ⟨s4,rfl⟩;exact ⟨_,_,rfl,rfl,_,rfl⟩) ⟨_,rfl⟩
     refine ⟨_,[.val (.tup (row.map itD)),.val (eT t),.val (eT u),.val (.lst (b.map itD)),s4'],rfl,?_,_,_,rfl⟩;show emI _ _ _ _ [.val (.tup (row.map itD)),.val (eT t),.val (eT u),.val (.lst (b.map itD)),s4] = _;rw [e2,show b.flatMap (λp=>[itD p]) = b.map itD by rw [List.map_eq_flatMap]]) ⟨_,_,rfl⟩
  obtain ⟨s3,s4,rfl⟩:=i1;refine ⟨_,?_,rfl⟩;unfold emO;simp only [ae];rw [show dq ([Sl.val (D.tup (row.map itD)),.val (eT t)]++aS 3 .no) (.nm 2) (eT u) = some [.val (.tup (row.map itD)),.val (eT t),.val (eT u),.no,.no] from rfl,bB,e1];rfl) rfl
 have ea:(tw t).flatMap (λu=>(adds u).flatMap λb=>b.map itD) = (av t).map itD:=by
  unfold av;rw [List.map_flatMap];congr 1
  funext u
  rw [List.map_flatten,List.flatMap_def]
 rw [ea] at e;refine kA [.tup (row.map itD),.lst ((av t).map itD)] (eU ⋯ (eU (Hf (qo (jE [eT t] ⋯ w1) rfl) e (by rw [aB];lia)) rfl)) ((cu w).mpr rfl)
def jq {p:It}:∀ {as:List (List It)} {ks:List T},as.length = ks.length->(p∈(as.zip ks).flatMap (λq=>q.1++av q.2)↔p∈as.flatten\/p∈ks.flatMap av)
 | [],[],_=>by simp
 | [],_::_,h=>by cases h
 | _::_,[],h=>by cases h
 | a::as,k::ks,h=>by
   have ih:=jq (p:=p) (as:=as) (ks:=ks) (lV h);simp only [bS,dZ,aJ,oz,ih];constructor
   . rintro ((h | h) | (h | h))
     . exact .inl (.inl h)
     . exact .inr (.inl h)
     . exact .inl (.inr h)
     . exact .inr (.inr h)
   . rintro ((h | h) | (h | h))
     . exact .inl (.inl h)
     . exact .inr (.inl h)
     . exact .inl (.inr h)
     . exact .inr (.inr h)
def wz (q:List It × T):Nat:=q.1.length+2 * nd q.2
def xH:∀ (as:List (List It)) (ks:List T),((as.zip ks).map wz).sum<=as.flatten.length+2 * (ks.map nd).sum
 | [],_=>by simp
 | _::_,[]=>by simp
 | a::as,k::ks=>by
   have ih:=xH as ks;simp only [bS,aN,jn,oz,ah,wz] at ih |-
   lia
def pv:∀ (as:List (List It)) (ks:List T),rR (as.map λb=>D.lst (b.map itD)) (ks.map eT) = (as.zip ks).map λq=>D.tup [.lst (q.1.map itD),eT q.2]
 | [],_=>by cases ‹List T›<;>rfl
 | _::_,[]=>rfl
 | a::as,k::ks=>by
   show _::rR _ _ = _::_;rw [pv as ks];rfl
def nc:T->Bool
 | .close=>false
 | _=>true
section
variable {xs:List Str} (hx:∀ t∈xs,nm t)
include hx
theorem HI (n:Nat) (t:T) (hc:nc t = true) (ho:okQ xs t) (hn:20<=n):PP.run Gs gls (n+2) 29 [eT t] = some (brD (adds t)):=by
 cases t with
 | close=>cases hc
 | cut A a b=>kernel_rfl
 | rule L A w ks =>
   have ho1:=ho.1.1;have r:=Cz n L w A (Ia ho.2.1.1) (by have:=ho1.1;lia) (by have:=ho1.1;lia) (nE (by have:=ho1.2.2.1;lia)) (Go.pd hx ho1);apply cB;refine bN fV rfl rfl rfl ?_;simp only [fV,init,SI,Nat.reduceAdd,Nat.reduceSub];exact dS false ⋯ (λz=>by cases z) λ_=>kA [.str (sd L),enc A,.str w] ⋯ ((cu r).mpr rfl)
theorem xZ:∀ (m n:Nat) (row:List It) (t:T),ht t<=m->okQ xs t->low row->row.length+2 * nd t<=900->gg Gs gls (n+m+23) 30 [.lst (row.map itD),eT t] λd=>∃ l:List It,d = .lst (l.map itD)/\low l/\l.length<=row.length+2 * nd t/\∀ p,p∈l↔p∈row\/p∈av t
 | 0,n,row,t,h,_,_,_=>by cases t<;>simp only [ht] at h<;>lia
 | m+1,n,row,t,h,ho,hr,hl=>by
   have ss:=s9;have fin:∀ (found:List It) (s3 s4:Sl),low found->found.length<=row.length+2 * nd t->(∀ p,p∈found↔p∈row\/p∈av t)->wSs ⟨PP.run Gs gls (n+(m+1)+22),gls,hfs Gs⟩ (.cons (.ret (.var 2)) .nil) [.val (.lst (row.map itD)),.val (eT t),.val (.lst (found.map itD)),s3,s4] (retS λd=>∃ l:List It,d = .lst (l.map itD)/\low l/\l.length<=row.length+2 * nd t/\∀ p,p∈l↔p∈row\/p∈av t):=λfound s3 s4 h1 h2 h3=>rT _ rfl ⟨found,rfl,h1,h2,h3⟩;refine bN iO rfl rfl rfl ?_;simp only [iO,init,SI,Nat.reduceAdd,Nat.reduceSub];refine dC 1 [.val (.lst (row.map itD)),.val (eT t),.val (.lst (row.map itD)),.no,.no] ⋯ ?_;refine dS (nc t) (by cases t<;>kernel_rfl) (λhc=>?_) λhc=>?_
   . have e1:=HI hx (n+m+21) t hc ho ∅
     have ix:evE ⟨PP.run Gs gls (n+(m+1)+22),gls,hfs Gs⟩ (.ix (.var 1) (.neg (.int 1))) [.val (.lst (row.map itD)),.val (eT t),.val (.lst (row.map itD)),.no,.no] = some (.tup ((kl t).map eT),[.val (.lst (row.map itD)),.val (eT t),.val (.lst (row.map itD)),.no,.no]):=by
      rw [<- DG]
      cases t with
      | close=>cases hc
      | rule L A w ks=>kernel_rfl
      | cut A a b=>kernel_rfl
     refine md _ (Ea (eU (jE [eT t] ⋯ e1) (eU ix rfl)) (show zpD [brD (adds t),.tup ((kl t).map eT)] = some (rR ((adds t).map λb=>D.lst (b.map itD)) ((kl t).map eT)) from rfl)) ?_;rw [pv];refine gj (g:=λq:List It × T=>D.tup [.lst (q.1.map itD),eT q.2]) (λrest δ=>∃ (found:List It) (s3 s4:Sl),δ = [.val (.lst (row.map itD)),.val (eT t),.val (.lst (found.map itD)),s3,s4]/\low found/\found.length+(rest.map wz).sum<=row.length+2 * nd t/\(∀ p,(p∈found\/p∈rest.flatMap λq=>q.1++av q.2)↔p∈row\/p∈av t)/\∀ q∈rest,q∈(adds t).zip (kl t)) ?_ ?_ _ _ ⟨row,_,_,rfl,hr,?_,λp=>?_,λ_ h=>h⟩
     . rintro ⟨b,k⟩ rest δ ⟨found,s3,s4,rfl,h1,h2,h3,h4⟩;obtain ⟨hb,hk⟩:=fq (h4 _ ak);have kk:=vi hk ho;have bl:=(tZ ho hb).2;rw [aN,jn] at h2;have e2:wz (b,k) = b.length+2 * nd k:=rfl;have ih:=xZ m n b k ∅ kk.1 bl ∅;rw [show n+m+23 = n+(m+1)+22 by lia] at ih;refine ⟨[.val (.lst (row.map itD)),.val (eT t),.val (.lst (found.map itD)),.val (.lst (b.map itD)),.val (eT k)],rfl,?_⟩;simp only [SI,↓WS,↓WC,WI,↓reduceIte];refine bY ih ?_;rintro _ ⟨l,rfl,i1,i2,i3⟩;simp only [SI,↓WS,↓WC,WI,↓reduceIte];refine ⟨by rw [aB,aB];lia,found++l,_,_,by rw [bF],h1.app i1,by rw [ah];lia,λp=>?_,λq hq=>h4 q (aj _ hq)⟩;rw [<- h3 p,aJ,i3,dZ,aJ,aJ,or_assoc]
     . rintro δ ⟨found,s3,s4,rfl,h1,h2,h3,_⟩;refine me.mpr (fin found s3 s4 h1 (by simpa using h2) λp=>?_);rw [<- h3 p];simp
     . have:=xH (adds t) (kl t);have:=vJ t;rw [vc]
       lia
     . rw [jq (Ht ho),HZ,aJ]
   . refine fin row .no .no hr ∅ λp=>?_
     cases t with
     | close=>simp [av,tw,adds]
     | _=>cases hc
theorem Jj (n:Nat) (row:List It) (t:T) (hn:ht t<=50) (ho:okQ xs t) (hd:nd t<=300) (hr:low row) (hl:row.length<=50) (h1:ht t+40<=n):PP.run Gs gls (n+1) 31 [.lst (row.map itD),eT t] = some (.bl true):=by
 obtain ⟨n,rfl⟩:∃ m,n = m+ht t+31:=⟨n - ht t - 31,∅⟩;have ml:=Kf row;have w1:=Cw (n+ht t+30) row hr ∅;have w2:=Jk hx (n+ht t+30) (mo row) t ∅ ho ∅ (Dq hr) ∅ ∅;have w3:=xZ hx (ht t) (n+8) row t (az _) ho hr ∅;rw [show n+8+ht t+23 = n+ht t+31 by lia] at w3;apply cB;refine bN iM rfl rfl rfl ?_;simp only [iM,init,SI,Nat.reduceAdd,Nat.reduceSub];refine gG [.tup ((mo row).map itD),eT t] (eU (jE [.lst (row.map itD)] ⋯ w1) rfl) ((cu w2).mpr ⟨[.val (.lst (row.map itD)),.val (eT t),.val (.tup ((mo (mo row++av t)).map itD))],rfl,?_⟩);simp only [SI,↓WS,↓WC,WI,↓reduceIte];refine ⟨.bl true,rfl,true,rfl,DH (bY w3 ?_)⟩;rintro _ ⟨l,rfl,i1,i2,i3⟩;have w4:=Cw (n+ht t+30) l i1 ∅;refine (cu w4).mpr ?_;obtain ⟨a1,_⟩:=Ey (ht t) t (az _) ho;have e:mo (mo row++av t) = mo l:=Kg λp=>by rw [aJ,sL,i3]
 have d1:=yS (Dq i1);rw [e];refine oU ∅ ∅ ?_;rw [kq _ (by rw [mM];lia)]
end
def Hl {ds:List D} {lo hi:Option Int} {x:D} (h:x∈cutD ds lo hi):x∈ds:=by
 unfold cutD at h;exact bg (ba h)
def wD (n:Nat) (ns:List Int) (k:Int) (h0:0<=k) (h1:k<=1000):gg Gs gls (n+1) 14 [.lst (ns.map .int),.int k] λd=>∃ c:Int,d = .int c:=by
 refine bN iT rfl rfl rfl ?_;simp only [iT,init,SI,Nat.reduceAdd,Nat.reduceSub];simp only [↓WS,↓WC,WI,↓reduceIte];have hl:(ns.map D.int).length = ns.length:=aB _;rw [hl];split
 . rename_i h;obtain ⟨d,hm,e⟩:=qv (ds:=ns.map D.int) h0 (by rw [hl];exact h);obtain ⟨c,_,rfl⟩:=cq.mp hm;exact ⟨_,e,c,rfl⟩
 . refine ⟨mul_r ⇑0 ⇑0,?_⟩;split
   . rename_i h;obtain ⟨d,hm,e⟩:=qv (ds:=ns.map D.int) (j:=k * 7 % (ns.length:Int)) (dF _ ∅) (by rw [hl];exact cI _ h);obtain ⟨c,_,rfl⟩:=cq.mp hm;refine ⟨mul_r ⇑0 ⇑0,h,_,e,?_⟩;simp only [↓WS,↓WC,WI,↓reduceIte];have a1:=dF (c * 48271) (show (2147483647:Int)≠0 by decide);have a2:=cI (c * 48271) (show (0:Int) < 2147483647 by decide);exact ⟨mul_r ⇑0 ⇑0,⇑0,mul_r ⇑0 ⇑0,mul_r ∅ ∅,⇑0,_,rfl⟩
   . exact ⟨mul_r ∅ ∅,⇑0,_,rfl⟩
def sv (x:Str) (n:Nat):(wB x n).length = n * x.length:=by
 show ((aS n x.cps.toList).flatten.toArray).size = n * x.cps.size;simp
def Hs (x y:Str):(x++y).length = x.length+y.length:=by
 show (x.cps++y.cps).size = _;rw [gE];rfl
def qa {a b:Str} (h:nm a):nm (a++b):=by
 obtain ⟨c,r,e,h1,h2⟩:=h;refine ⟨c,r++b.cps.toList,?_,h1,h2⟩;show (a.cps++b.cps).toList = _;rw [bD,e];rfl
def Ka {f a:Str} (hf:nm f) (ha:nm a):∀ k:Nat,nm (wB f k++a)
 | 0=>by
   obtain ⟨c,r,e,h⟩:=ha;refine ⟨c,r,?_,h⟩;show ((aS 0 f.cps.toList).flatten.toArray++a.cps).toList = _
   simp [e]
 | k+1=>by
   refine qa ?_;obtain ⟨c,r,e,h⟩:=hf;refine ⟨c,r++(aS k f.cps.toList).flatten,?_,h⟩;show ((aS (k+1) f.cps.toList).flatten.toArray).toList = _;rw [AK,oz,e];rfl
def wC (n:Nat) (c:Int) (f:Str) (hf:f.length = 1) (hm:nm f) (k:Int) (h0:0<=k) (h1:k<=2):gg Gs gls (n+1) 15 [.int c,.str f,.int k] λd=>∃ w:Str,d = .str w/\nm w:=by
 refine bN iN rfl rfl rfl ?_;simp only [iN,init,SI,Nat.reduceAdd,Nat.reduceSub];have a1:=dF c (show (8:Int)≠0 by decide);have a2:=cI c (show (0:Int) < 8 by decide);have b1:=dF (c / 8) (show 1+c % 8≠0 by lia);have b2:=cI (c / 8) (show 0 < 1+c % 8 by lia);simp only [↓WS,↓WC,WI,↓reduceIte];obtain ⟨x,hx,ex⟩:=qv (ds:=(("bdghjk":Str).cps.toList)) (j:=k) h0 (by show k < 6;lia);have hx:=(show ∀ u∈("bdghjk":Str).cps.toList,97<=u/\u<=122 by decide) x hx;have ss:=s64;refine ⟨⇑0,⇑0,∅,⟨∅,∅,∅⟩,⇑0,x,ex,?_,⟨∅,∅,∅⟩,?_,_,rfl,?_⟩
 . rw [sv,hf];show _+1<=_;lia
 . rw [Hs,sv,sv,hf];show _+1+_<=_;lia
 . exact qa (Ka hm ⟨x,[],rfl,hx⟩ _)
def CA (n:Nat) (c f:Int) (xs:List Str) (h0:0 < xs.length) (h1:xs.length < 100):gg Gs gls (n+2) 16 [.int c,.int f,.lst (xs.map .str)] λd=>∃ (w:Str) (ts:List Str),d = enc (.word w ts)/\ts.length<=3/\∀ t∈ts,t∈xs:=by
 refine bN iS rfl rfl rfl ?_;simp only [iS,init,SI,Nat.reduceAdd,Nat.reduceSub];have a1:=dF (c / 5) (show (4:Int)≠0 by decide);have a2:=cI (c / 5) (show (0:Int) < 4 by decide);simp only [ay,aF,↓WS,↓WC,WI,↓reduceIte];refine ⟨⇑0,⇑0,⇑0,⟨∅,∅⟩,?_⟩;refine jY (λzs δ=>∃ (ts:List Str) (s:Sl),δ = [.val (.int c),.val (.int f),.val (.lst (xs.map .str)),.own (ts.map .str),s]/\(ts.length+zs.length<=3/\∀ t∈ts,t∈xs)/\∀ z∈zs,∃ i:Nat,i < 10/\z = .int i) ?_ ?_ _ _ ⟨[],_,rfl,⟨by rw [sr];simp only [aF];lia,λ_ h=>by cases h⟩,λz hz=>?_⟩
 . rintro z zs δ ⟨ts,s,rfl,⟨hl,ht⟩,hz⟩;obtain ⟨i,hi,rfl⟩:=hz z ak;rw [ay] at hl;have ss:=s64;simp only [aB,↓WS,↓WC,WI,↓reduceIte];have e1:=dF (c / (7+4 * (i:Int))) (show (xs.length:Int)≠0 by lia);have e2:=cI (c / (7+4 * (i:Int))) (show (0:Int) < (xs.length:Int) by lia);obtain ⟨d,hd,et⟩:=qv (ds:=xs.map D.str) e1 (by rw [aB];exact e2);obtain ⟨t,ht2,rfl⟩:=cq.mp hd;exact ⟨mul_r ∅ ∅,⟨∅,∅⟩,∅,_,et,∅,ts++[t],_,by rw [bF];rfl,⟨by rw [ah,cn];lia,λq hq=>(aJ.mp hq).elim (ht q) λz=>by rw [bC.mp z];exact ht2⟩,λz q=>hz z (aj _ q)⟩
 . rintro δ ⟨ts,s,rfl,⟨hl,ht⟩,_⟩;simp only [ay,aF,↓WS,↓WC,WI,↓reduceIte];have e1:=dF c (show (3:Int)≠0 by decide);have e2:=cI c (show (0:Int) < 3 by decide);refine ⟨⇑0,bY (wC n f "q" ⇑0 ⟨113,[],rfl,⇑0,⇑0⟩ (c % 3) e1 ∅) ?_⟩;rintro _ ⟨w,rfl,_⟩;exact ⟨⇑0,w,ts,rfl,by simpa using hl,ht⟩
 . obtain ⟨i,hi,rfl⟩:=sk hz;exact ⟨i,∅,↥0⟩
def LM:Option Out->Option D
 | some (.rt d _)=>some d
 | _=>none
def rS {cx:Cl} {ss:Ss} {δ:PP.Loc} {d:D} {Q:D->Prop} (h:LM (en cx ss δ) = some d) (q:Q d):wSs cx ss δ (retS Q):=by
 generalize e:en cx ss δ = o at h
 match o,h with
 | some (.rt _ _),h=>cases h;exact ⟨_,e,q⟩
def tm (xs:List Str) (d:Nat) (t:Str):Prop:=t∈xs\/∃ j:Int,0<=j/\j < d/\t = pl j
def St (xs:List Str) (d k:Nat) (A:F):Prop:=hF A<=k+1/\sz A < 2 ^ (k+1)/\(tms A).length<=3 * 2 ^ k/\∀ t∈tms A,tm xs d t
def St.up {xs:List Str} {d e k j:Nat} {A:F} (h:St xs d k A) (h1:d<=e) (h2:k<=j):St xs e j A:=by
 obtain ⟨a,b,c,t⟩:=h;have p1:2 ^ (k+1)<=2 ^ (j+1):=fN ⇑0 ∅;have p2:2 ^ k<=2 ^ j:=fN ⇑0 h2;refine ⟨∅,∅,∅,λq hq=>(t q hq).imp id ?_⟩;rintro ⟨j,j0,j1,e⟩;exact ⟨j,j0,∅,e⟩
def St.un {xs:List Str} {d k:Nat} {A:F} (u:U) (h:St xs d k A):St xs d (k+1) (.un u A):=by
 obtain ⟨a,b,c,t⟩:=h;rw [cy] at b;refine ⟨by simp only [hF];lia,by simp only [sz,cy];have:=lS (n:=k) (show 0 < 2 by decide);lia,by rw [cy];show (tms A).length<=_;lia,t⟩
def St.bi {xs:List Str} {d k:Nat} {A B:F} (u:P1.B) (h:St xs d k A) (g:St xs d k B):St xs d (k+1) (.bi u A B):=by
 obtain ⟨a,b,c,t⟩:=h;obtain ⟨a',b',c',t'⟩:=g;rw [cy] at b b';refine ⟨by simp only [hF];lia,by simp only [sz,cy];lia,?_,λq hq=>?_⟩
 . show (tms A++tms B).length<=_;rw [ah,cy];lia
 . exact (aJ.mp hq).elim (t q) (t' q)
def St.lf {xs:List Str} {d k:Nat} {A:F} (h:A = .yes\/A = .no):St xs d k A:=by
 have:=lS (n:=k) (show 0 < 2 by decide);rcases h with rfl | rfl<;>exact ⟨by simp only [hF];lia,by simp only [sz,cy];lia,by simp [tms],λt ht=>by cases ht⟩
def kinds:List Str:=["word","not","and","or","if","all","some","yes","no","word"]
def GW (v:Int):∃ s:Str,atI (kinds.map D.str) (v % 10) = some (.str s)/\(((s == "yes") || (s == "no") || (s == "word") || (s == "not") || (s == "all") || (s == "some")) = true\/∃ b:B,s = b.s):=by
 obtain ⟨x,hx,e⟩:=qv (ds:=kinds.map D.str) (dF v (show (10:Int)≠0 by decide)) (cI v (show (0:Int) < 10 by decide));obtain ⟨s,hs,rfl⟩:=cq.mp hx;refine ⟨s,e,?_⟩;rcases (show ∀ s∈kinds,((s == "yes") || (s == "no") || (s == "word") || (s == "not") || (s == "all") || (s == "some")) = true\/s = "and"\/s = "or"\/s = "if" by decide) s hs with h | h | h | h
 . exact .inl h
 . exact .inr ⟨.and,h⟩
 . exact .inr ⟨.or,h⟩
 . exact .inr ⟨.imp,h⟩
def FC {P:D->D->Prop} {d:Nat} (hP:∀ x y,P x y->∃ j:Int,0<=j/\j < d/\y = .str (pl j)) {ds ys:List D} (r:Paired P ds ys):∃ ps:List Str,ys = ps.map .str/\ps.length = ds.length/\∀ p∈ps,∃ j:Int,0<=j/\j < d/\p = pl j:=by
 induction r with
 | nil=>exact ⟨[],rfl,rfl,λ_ h=>by cases h⟩
 | cons h t ih =>
   obtain ⟨j,j0,j1,rfl⟩:=hP _ _ h;obtain ⟨cs,rfl,hl,hc⟩:=ih;exact ⟨pl j::cs,rfl,by simp [hl],λp hp=>(aC.mp hp).elim (λe=>⟨j,j0,j1,e⟩) (hc p)⟩
def LO (n d:Nat) (hd:d < 90) {a b c e f g h i:Sl} {Q:List D->PP.Loc->Prop} (q:∀ ps:List Str,ps.length = d->(∀ p∈ps,∃ j:Int,0<=j/\j < d/\p = pl j)->Q (ps.map .str) [a,b,c,e,f,g,h,i]):kZ ⟨PP.run Gs gls n,gls,hfs Gs⟩ 1 (.nm 8) .no (.blt .toStr (.cons (.var 8) .nil)) (su 0 (d:Int).toNat) [a,b,c,e,f,g,h,i] Q:=by
 refine pA (λ_ y=>∃ j:Int,0<=j/\j < d/\y = .str (pl j)) _ ?_ ?_
 . intro z hz;obtain ⟨j,hj,rfl⟩:=sk hz;have hj:j < d:=by simpa using hj
   simp only [SI,↓WS,↓WC,WI,↓reduceIte];exact ⟨trivial,nJ ∅ ∅,⟨0+(j:Int),∅,∅,rfl⟩,rfl⟩
 . intro ys r;obtain ⟨ps,rfl,hl,hp⟩:=FC (λ_ _ h=>h) r;rw [sr] at hl;exact q ps (by simpa using hl) hp
def Sq (f:Int) (xs:List Str) (k:Nat):Prop:=∀ (n d:Nat) (c:Int),xs.length+d+k < 90->gg Gs gls (n+k+3) 17 [.int c,.int k,.int d,.lst (xs.map .str),.int f] λD=>∃ A,D = enc A/\St xs (d+k) k A
def HH (f:Int) (xs:List Str) (h0:0 < xs.length) (k:Nat) (ih:∀ j,k = j+1->Sq f xs j):Sq f xs k:=λn d c h1=>by
 obtain ⟨s,es,ks⟩:=GW c;have ss:=s64;refine bN fA rfl rfl rfl ?_;simp only [fA,init,SI,Nat.reduceAdd,Nat.reduceSub];refine xI (.str s) (xk (x:=.lst (kinds.map .str)) (y:=.int (c % 10)) ⋯ ⋯ es) ⟨_,rfl,?_⟩;refine dC 1 [.val (.int c),.val (.int k),.val (.int d),.val (.lst (xs.map .str)),.val (.int f),.val (.str s),.val (.int (c / 10)),.no] ⋯ ?_;refine dS ((s == "yes") || (s == "no")) (DZ ⋯ ⋯) (λh=>rS (d:=.tup [.str s]) ⋯ ?_) λhz=>?_
 . rcases AN.mp h with h | h<;>rw [eq_of_beq h]
   . exact ⟨.yes,rfl,.lf (.inl rfl)⟩
   . exact ⟨.no,rfl,.lf (.inr rfl)⟩
 obtain ⟨n1,n2⟩:=ly.mp hz;simp only [vI,ay,aF,↓WS,↓WC,WI,↓reduceIte];refine DI (λ_=>⟨⟨∅,∅⟩,LO _ d ∅ λps pl pj=>⟨?_,?_,?_⟩⟩) λn3 n4=>?_
 . rw [aB];lia
 . rw [aB,aB];lia
 . rw [<- bF];refine bY (CA (n+k) (c / 10) f (xs++ps) (by rw [ah];lia) (by rw [ah];lia)) ?_;rintro _ ⟨w,ts,rfl,tl,tt⟩;have:=lS (n:=k) (show 0 < 2 by decide);refine ⟨_,rfl,by simp only [hF];lia,by simp only [sz,cy];lia,?_,λt ht=>?_⟩
   . show ts.length<=_;lia
   . refine (aJ.mp (tt t ht)).imp id λz=>?_;obtain ⟨j,j0,j1,e⟩:=pj t z;exact ⟨j,j0,∅,e⟩
 obtain ⟨k,rfl⟩:∃ i,k = i+1:=⟨k - 1,∅⟩;rw [show ((k+1:Nat):Int) - 1 = (k:Int) by lia,show (d:Int)+1 = ((d+1:Nat):Int) by lia];have ih:=λd c h=>ih k rfl n d c h;refine GY (λe=>?_) λn5=>DI (λh=>?_) λn6 n7=>⟨mul_r ⇑0 ⇑0,⇑0,?_⟩
 . refine bY (ih d _ ∅) ?_;rintro _ ⟨A,rfl,h⟩;exact ⟨⇑0,.un .neg A,rfl,(h.un .neg).up ∅ ∅⟩
 . refine bY (ih (d+1) _ ∅) ?_;rintro _ ⟨A,rfl,hA⟩;refine ⟨⇑0,?_⟩;rcases h with h | h<;>rw [eq_of_beq h]
   . exact ⟨.un .all A,rfl,(hA.un .all).up ∅ ∅⟩
   . exact ⟨.un .ex A,rfl,(hA.un .ex).up ∅ ∅⟩
 . refine bY (ih d _ ∅) ?_;rintro _ ⟨A,rfl,hA⟩;refine ⟨mul_r ⇑0 ⇑0,⇑0,bY (ih d _ ∅) ?_⟩;rintro _ ⟨C,rfl,hC⟩;rcases ks with ks | ⟨b,rfl⟩
   . simp only [cE] at ks
     simp_all
   . exact ⟨⇑0,.bi b A C,rfl,(hA.bi b hC).up ∅ ∅⟩
def nY (f:Int) (xs:List Str) (h0:0 < xs.length):∀ k,Sq f xs k
 | 0=>HH f xs h0 0 λj e=>by cases e
 | k+1=>HH f xs h0 (k+1) λj e=>by cases e;exact nY f xs h0 k
def CB (A:F) (n:Nat) (nm:Str) (k:Int):hF A<=n->0<=k->k+hF A < 1000->okF A->PP.run Gs gls n 20 [enc A,.str nm,.int k] = some (enc (eE (bf nm) A k)) :=
 yd (W:=chL (.var 1) (.blt .toStr (.cons (.var 2) .nil))) (λn A k {Q} h=>by refine bN iq rfl rfl rfl ?_;simp only [iq,init,SI,Nat.reduceAdd,Nat.reduceSub];exact h) (HJ (λ_=>nm) pl (λn k s0 s3 s4 h0 h1=>⟨rfl,DY h0 h1⟩) λt k=>rfl) n A k
def xX (n:Nat) (L:Bool) (a:F) (t:T):PP.run Gs gls (n+1) 21 [.str (sd L),enc (.un .neg a),eT t] = some (eT (.rule L (.un .neg a) "" (.cons (.rule (!L) a "" (.cons t .nil)) .nil))):=by cases L<;>kernel_rfl
def Gk (xs:List Str) (k:Nat) (A:F):Prop:=hF A<=2 * k+3/\sz A+2<=5 * 2 ^ k/\(tms A).length<=3 * 2 ^ k/\∀ t∈tms A,t∈xs\/∃ j:Int,0<=j/\j < 10/\t = pl j
def Gk.go {xs:List Str} {k:Nat} (hk:k<=3) {A:F} (h:Gk xs k A):Go xs A:=by
 obtain ⟨a,b,c,d⟩:=h;have:2 ^ k<=8:=fN ⇑0 hk;exact ⟨∅,∅,∅,d⟩
def Qm (xs:List Str) (m j:Nat) (t:T):Prop:=okQ xs t/\ht t<=m/\nd t<=j
def pairD (fs:List F) (ws:List (List T)):D:=.tup [.lst (fs.map enc),.lst (ws.map λr=>.lst (r.map eT))]
def Pk (xs:List Str) (k:Nat) (fs:List F) (ws:List (List T)):Prop:=fs.length = 3/\ws.length = 3/\(∀ r∈ws,r.length = 3)/\(∀ f∈fs,Gk xs k f)/\∀ r∈ws,∀ t∈r,Qm xs (5+4 * k) (9 * 2 ^ k - 4) t
def nn (W A:F):Prop:=A = W\/A = .un .neg (.un .neg W)
def Kc {A B:F} (hA:sz A<=61) (hB:sz B<=61) {Q:Bool->Prop} (k:Q (!eqD (enc A) (enc B))):oF .ne (enc A) (enc B) Q:=by
 refine ⟨_,?_,k⟩;show (if iB (enc A) (enc B) = true then some (!eqD (enc A) (enc B)) else none) = _;have:=kH A;have:=kH B;rw [if_pos (by unfold iB;rw [show kin (enc A) (enc B) = true by rw [jG A,jG B];rfl,uj,aa,decide_eq_true_eq,decide_eq_true_eq];lia)]
def MN {w:Str} {ts:List Str} {A:F} (h:nn (.word w ts) A):eqD (enc A) (enc (.word w ts)) = true/\A = .word w ts\/eqD (enc A) (enc (.word w ts)) = false/\A = .un .neg (.un .neg (.word w ts)):=by
 rcases h with rfl | rfl
 . exact .inl ⟨kq _ (by have:=kH (.word w ts);simp only [sz] at this;lia),rfl⟩
 . exact .inr ⟨⋯,rfl⟩
def Qm.one {xs:List Str} {m j:Nat} {t:T} {A:F} {w:Str} (L:Bool) (hA:Go xs A) (h1:ar L A = 1) (hw:w = ""\/w∈xs) (h:Qm xs m j t):Qm xs (m+1) (j+1) (.rule L A w (.cons t .nil)) :=
 ⟨⟨⟨hA,hw,h.1.1,trivial⟩,⟨⟨by rw [h1];exact Nat.one_pos,h1⟩,h.1.2,trivial⟩⟩,by have:=h.2.1;simp only [ht,hts];lia,by have:=h.2.2;simp only [nd,nds];lia⟩
def Qm.two {xs:List Str} {m i j:Nat} {s t:T} {A:F} (L:Bool) (hA:Go xs A) (h1:ar L A = 2) (g:Qm xs m i s) (h:Qm xs m j t):Qm xs (m+1) (i+j+1) (.rule L A "" (.cons s (.cons t .nil))) :=
 ⟨⟨⟨hA,.inl rfl,g.1.1,h.1.1,trivial⟩,⟨⟨by rw [h1];exact Nat.two_pos,h1⟩,g.1.2,h.1.2,trivial⟩⟩,by have:=h.2.1;have:=g.2.1;simp only [ht,hts];lia,by have:=h.2.2;have:=g.2.2;simp only [nd,nds];lia⟩
def Qm.up {xs:List Str} {m m' j j':Nat} {t:T} (h:Qm xs m j t) (hm:m<=m') (hj:j<=j'):Qm xs m' j' t:=⟨h.1,bq h.2.1 hm,bq h.2.2 hj⟩
def inB:Ss:=He (fj 1 (He (fj 4 eI.body)))
def Mx (n:Nat) {xs:List Str} {w:Str} {ts:List Str} (gW:Go xs (.word w ts)) (s0 s1 s2 s4 s5 s6 s10:Sl) (f g:F) (hf:nn (.word w ts) f) (hg:nn (.word w ts) g) (acc:List D) (ha:acc.length < 1000) {Q:Out->Prop} (q:∀ t,Qm xs 5 5 t->Q (.nx [s0,s1,s2,.val (enc (.word w ts)),s4,s5,s6,.val (enc f),.own (acc++[eT t]),.val (enc g),.val (eT t)])):wSs ⟨PP.run Gs gls (n+3),gls,hfs Gs⟩ inB [s0,s1,s2,.val (enc (.word w ts)),s4,s5,s6,.val (enc f),.own acc,.val (enc g),s10] Q:=by
 have ss:=s64;have gN:Go xs (.un .neg (.word w ts)):=⟨by simp [hF],by simp [sz],gW.2.2.1,gW.2.2.2⟩;have gNN:Go xs (.un .neg (.un .neg (.word w ts))):=⟨by simp [hF],by simp [sz],gW.2.2.1,gW.2.2.2⟩;have two:∀ (L:Bool) (t:T) (m j:Nat),Qm xs m j t->Qm xs (m+2) (j+2) (.rule L (.un .neg (.un .neg (.word w ts))) "" (.cons (.rule (!L) (.un .neg (.word w ts)) "" (.cons t .nil)) .nil)):=λL t m j h=>(h.one (!L) gN rfl (.inl rfl)).one L gNN rfl (.inl rfl);have szN:∀ {f:F},nn (.word w ts) f->sz f<=61:=λh=>by rcases h with rfl | rfl<;>simp [sz]
 have ne:∀ {f:F},nn (.word w ts) f->vD .ne (enc f) (enc (.word w ts)) = some (!eqD (enc f) (enc (.word w ts)))/\((!eqD (enc f) (enc (.word w ts))) = true->f = .un .neg (.un .neg (.word w ts))):=λ{f} h=>by
  refine ⟨?_,λe=>?_⟩
  . obtain ⟨z,e,rfl⟩:=Kc (szN h) (by simp [sz]) (Q:=λb=>b = !eqD (enc f) (enc (.word w ts))) rfl;exact e
  . rcases MN h with ⟨e1,_⟩ | ⟨_,e1⟩
    . rw [e1] at e;cases e
    . exact e1
 have last:∀ t,Qm xs 5 5 t->wSs ⟨PP.run Gs gls (n+3),gls,hfs Gs⟩ (fj 3 inB) [s0,s1,s2,.val (enc (.word w ts)),s4,s5,s6,.val (enc f),.own acc,.val (enc g),.val (eT t)] Q:=λt h1=>jr (eT t) ⋯ rfl ∅ (iH.mpr (q t h1))
 have snd:∀ t,Qm xs 3 3 t->wSs ⟨PP.run Gs gls (n+3),gls,hfs Gs⟩ (fj 2 inB) [s0,s1,s2,.val (enc (.word w ts)),s4,s5,s6,.val (enc f),.own acc,.val (enc g),.val (eT t)] Q:=λt h1 =>
  dS _ (sZ (x:=enc g) (y:=enc (.word w ts)) ⋯ ⋯ (ne hg).1) (λe=>by
   obtain rfl:=(ne hg).2 e;have o1:=two false t 3 3 h1;exact gG [.str "right",enc (.un .neg (.un .neg (.word w ts))),eT t] ⋯ ((cu (xX (n+2) false (.un .neg (.word w ts)) t)).mpr ⟨_,rfl,last _ o1⟩)) λ_=>last t (h1.up ∅ ∅)
 refine dC 1 [s0,s1,s2,.val (enc (.word w ts)),s4,s5,s6,.val (enc f),.own acc,.val (enc g),.val (eT .close)] ⋯ ?_;refine dS _ (sZ (x:=enc f) (y:=enc (.word w ts)) ⋯ ⋯ (ne hf).1) (λe=>?_) λ_=>snd .close ⟨⟨trivial,trivial⟩,by simp [ht],by simp [nd]⟩;obtain rfl:=(ne hf).2 e;have o1:=two true .close 1 1 ⟨⟨trivial,trivial⟩,by simp [ht],by simp [nd]⟩;exact gG [.str "left",enc (.un .neg (.un .neg (.word w ts))),eT .close] ⋯ ((cu (xX (n+2) true (.un .neg (.word w ts)) .close)).mpr ⟨_,rfl,snd _ o1⟩)
def Gg (n:Nat) {xs ns:List Str} (h0:0 < ns.length) (h1:ns.length < 100) (hs:∀ t∈ns,t∈xs) (c fam o:Int) (m:Str):gg Gs gls (n+4) 22 [.int c,.lst (ns.map .str),.tup [.int fam,.str m,.int o]] λD=>∃ fs ws,D = pairD fs ws/\Pk xs 0 fs ws:=by
 have ss:=s64;refine bN eI rfl rfl rfl ?_;simp only [eI,init,SI,Nat.reduceAdd,Nat.reduceSub];simp only [↓WS,↓WC,WI,↓reduceIte];refine bY (CA (n+1) c fam ns h0 h1) ?_;rintro _ ⟨w,ts,rfl,tl,tt⟩;simp only [ay,aF,SI,↓WS,↓WC,WI,↓reduceIte];refine ⟨⇑0,⟨⇑0,⇑0⟩,?_⟩;generalize hA:D.lst (ns.map D.str) = a;generalize hB:D.tup [D.int fam,D.str m,D.int o] = b;refine jY (λzs δ=>∃ (fs:List F) (s:Sl),δ = [.val (.int c),.val a,.val b,.val (enc (.word w ts)),.own (fs.map enc),s,.no,.no,.no,.no,.no]/\fs.length+zs.length = 3/\(∀ f∈fs,nn (.word w ts) f)/\∀ z∈zs,∃ i:Nat,i < 3/\z = .int i) ?_ ?_ _ _ ⟨[],_,rfl,by rw [sr];rfl,(λf h=>by cases h),λz hz=>by obtain ⟨i,hi,rfl⟩:=sk hz;exact ⟨i,hi,↥0⟩⟩
 . rintro z zs δ ⟨fs,s,rfl,hl,hf,hz⟩;obtain ⟨i,hi,rfl⟩:=hz z ak;rw [ay] at hl;obtain ⟨d,hd,et⟩:=qv (ds:=[D.int 31,D.int 37,D.int 41]) (j:=(i:Int)) ∅ (by show (i:Int) < 3;lia)
   obtain ⟨k,k0,k1,rfl⟩:∃ k:Int,0 < k/\k < 100/\d = .int k:=by
    simp only [aC,aU,or_false] at hd;rcases hd with rfl | rfl | rfl<;>exact ⟨_,⇑0,⇑0,rfl⟩
   have tn:∀ {f:F},nn (.word w ts) f->∀ g∈fs++[f],nn (.word w ts) g:=λhn g hg=>(aJ.mp hg).elim (hf g) λz=>by rw [bC.mp z];exact hn
   simp only [ay,aF,SI,↓WS,↓WC,WI,↓reduceIte];refine ⟨⇑0,_,et,?_⟩;simp only [↓WS,↓WC,WI,↓reduceIte];refine ⟨⟨k0,∅⟩,⇑0,GY (λ_=>⟨⇑0,⇑0,by rw [aB];lia,fs++[.un .neg (.un .neg (.word w ts))],_,by rw [bF];rfl,by rw [ah,cn];lia,tn (.inr rfl),λz q=>hz z (aj _ q)⟩) λ_=>⟨by rw [aB];lia,fs++[.word w ts],_,by rw [bF];rfl,by rw [ah,cn];lia,tn (.inl rfl),λz q=>hz z (aj _ q)⟩⟩
 . rintro δ ⟨fs,s,rfl,hl,hf,_⟩;simp only [aF,oJ] at hl;simp only [ay,aF,SI,↓WS,↓WC,WI,↓reduceIte];have gW:Go xs (.word w ts):=⟨by simp [hF],by simp [sz],by show ts.length<=30;lia,λt ht=>.inl (hs t (tt t ht))⟩
   have nnG:∀ {f:F},nn (.word w ts) f->Gk xs 0 f:=λh=>by
    have tw:∀ t∈ts,t∈xs\/∃ j:Int,0<=j/\j < 10/\t = pl j:=λt ht=>.inl (hs t (tt t ht));rcases h with rfl | rfl
    . exact ⟨by simp [hF],by simp [sz],by show ts.length<=3;exact tl,tw⟩
    . exact ⟨by simp [hF],by simp [sz],by show ts.length<=3;exact tl,tw⟩
   refine ⟨⇑0,?_⟩;refine gj (g:=enc) (λrest δ=>∃ (acc:List (List T)) (s7 s8 s9 s10:Sl),δ = [.val (.int c),.val a,.val b,.val (enc (.word w ts)),.val (.lst (fs.map enc)),s,.own (acc.map λr=>.lst (r.map eT)),s7,s8,s9,s10]/\acc.length+rest.length = 3/\(∀ r∈acc,r.length = 3/\∀ t∈r,Qm xs 5 5 t)/\∀ f∈rest,nn (.word w ts) f) ?_ ?_ _ _ ⟨[],_,_,_,_,rfl,by simpa using hl,(λr h=>by cases h),hf⟩
   . rintro f rest δ ⟨acc,s7,s8,s9,s10,rfl,hl2,ha,hr⟩;rw [ay] at hl2;have hf1:=hr f ak;simp only [ay,aF,SI,↓WS,↓WC,WI,↓reduceIte];refine ⟨⇑0,?_⟩;refine gj (g:=enc) (λrest2 δ=>∃ (acc2:List T) (s9 s10:Sl),δ = [.val (.int c),.val a,.val b,.val (enc (.word w ts)),.val (.lst (fs.map enc)),s,.own (acc.map λr=>.lst (r.map eT)),.val (enc f),.own (acc2.map eT),s9,s10]/\acc2.length+rest2.length = 3/\(∀ t∈acc2,Qm xs 5 5 t)/\∀ g∈rest2,nn (.word w ts) g) ?_ ?_ _ _ ⟨[],_,_,rfl,by simpa using hl,(λt h=>by cases h),hf⟩
     . rintro g rest2 δ ⟨acc2,s9,s10,rfl,hl3,ha2,hr2⟩;rw [ay] at hl3;have hg1:=hr2 g ak;exact ⟨_,rfl,Mx n gW _ _ _ _ _ _ _ f g hf1 hg1 (acc2.map eT) (by rw [aB];lia) λt h1=>⟨acc2++[t],_,_,by rw [bF];rfl,by rw [ah,cn];lia,λu hu=>(aJ.mp hu).elim (ha2 u) λz=>by rw [bC.mp z];exact h1,λg z=>hr2 g (aj _ z)⟩⟩
     . rintro δ ⟨acc2,s9,s10,rfl,hl3,ha2,_⟩;simp only [aF,oJ] at hl3;simp only [SI,↓WS,↓WC,WI,↓reduceIte];refine ⟨by rw [aB];lia,acc++[acc2],_,_,_,_,by rw [bF];rfl,by rw [ah,cn];lia,λr h=>(aJ.mp h).elim (ha r) λz=>by rw [bC.mp z];exact ⟨hl3,ha2⟩,λf z=>hr f (aj _ z)⟩
   . rintro δ ⟨acc,s7,s8,s9,s10,rfl,hl2,ha,_⟩;simp only [aF,oJ] at hl2;simp only [ay,aF,SI,↓WS,↓WC,WI,↓reduceIte];exact ⟨⇑0,fs,acc,rfl,hl,hl2,λr h=>(ha r h).1,λf h=>nnG (hf f h),λr h=>(ha r h).2⟩
def Aq {α:Type}:∀ {l:List α},l.length = 3->∃ a b c,l = [a,b,c]
 | [a,b,c],_=>⟨a,b,c,rfl⟩
def kN (w:Str):∀ (A:F) (k:Int),0<=k->∀ t∈tms (eE (bf w) A k),t∈tms A\/∃ j:Int,0<=j/\j < k+hF A/\t = pl j
 | .yes,_,_,_,h | .no,_,_,_,h=>by cases h
 | .word _ ts,k,k0,t,h=>by
   obtain ⟨s,hs,rfl⟩:=cq.mp h;unfold bf;split
   . exact .inr ⟨k,k0,by simp only [hF];lia,rfl⟩
   . exact .inl hs
 | .un u a,k,k0,t,h=>by
   have:0<=up u/\up u<=1:=by cases u<;>decide
   refine (kN w a (k+up u) ∅ t h).imp id ?_;rintro ⟨j,j0,j1,e⟩
   exact ⟨j,j0,by simp only [hF];lia,e⟩
 | .bi b x y,k,k0,t,h=>by
   rcases aJ.mp h with h | h
   . refine (kN w x k k0 t h).imp (cZ _) ?_;rintro ⟨j,j0,j1,e⟩;exact ⟨j,j0,by simp only [hF];lia,e⟩
   . refine (kN w y k k0 t h).imp (aW _) ?_;rintro ⟨j,j0,j1,e⟩;exact ⟨j,j0,by simp only [hF];lia,e⟩
variable {xs:List Str} {k:Nat}
def Gk.un {A:F} (u:U) (h:Gk xs k A):Gk xs (k+1) (.un u A):=by
 obtain ⟨a,b,c,t⟩:=h;have:=lS (n:=k) (show 0 < 2 by decide);exact ⟨by simp only [hF];lia,by simp only [sz,cy];lia,by rw [cy];show (tms A).length<=_;lia,t⟩
def Gk.bd {A:F} (w:Str) (hk:k<=2) (h:Gk xs k A):Gk xs k (eE (bf w) A 0):=by
 obtain ⟨a,b,c,t⟩:=h;refine ⟨by rw [oR];exact a,by rw [mE];exact b,by rw [(mD _ _ _).1];exact c,λq hq=>?_⟩;rcases kN w A 0 ⇑0 q hq with z | ⟨j,j0,j1,e⟩
 . exact t q z
 . exact .inr ⟨j,j0,∅,e⟩
def Gk.up {A:F} {j:Nat} (hk:k<=j) (h:Gk xs k A):Gk xs j A:=by
 obtain ⟨a,b,c,t⟩:=h;have:2 ^ k<=2 ^ j:=fN ⇑0 hk;exact ⟨∅,∅,∅,t⟩
def sg (L:Bool) (w:Str) (A C:F) (t:T):T:=match L with
 | true=>.rule true A w (.cons (.rule false C w (.cons t .nil)) .nil)
 | false=>.rule false C w (.cons (.rule true A w (.cons t .nil)) .nil)
def LL {m j:Nat} {L:Bool} {w:Str} {A C:F} {t:T} (hA:Go xs A) (hC:Go xs C) (a1:∀ L,ar L A = 1) (c1:∀ L,ar L C = 1) (hw:w = ""\/w∈xs) (h:Qm xs m j t):Qm xs (m+4) (2 * j+4) (sg L w A C t):=by
 cases L
 . exact ((h.one true hA (a1 _) hw).one false hC (c1 _) hw).up ∅ ∅
 . exact ((h.one false hC (c1 _) hw).one true hA (a1 _) hw).up ∅ ∅
def pw (k:Nat):2 * (9 * 2 ^ k - 4)+4<=9 * 2 ^ (k+1) - 4:=by
 have:=lS (n:=k) (show 0 < 2 by decide);rw [cy]
 lia
def Qm.next {k:Nat} {t:T} (h:Qm xs (5+4 * k+4) (2 * (9 * 2 ^ k - 4)+4) t):Qm xs (5+4 * (k+1)) (9 * 2 ^ (k+1) - 4) t:=h.up ∅ (pw k)
def Pk.mk9 {h0 h1 h2:F} {a b c d e f g h i:T} (H:∀ x∈[h0,h1,h2],Gk xs k x) (W:∀ t∈[a,b,c,d,e,f,g,h,i],Qm xs (5+4 * k) (9 * 2 ^ k - 4) t):Pk xs k [h0,h1,h2] [[a,b,c],[d,e,f],[g,h,i]]:=by
 refine ⟨rfl,rfl,λr hr=>?_,H,λr hr t ht=>W t ?_⟩
 . simp only [aC,aU,or_false] at hr;rcases hr with rfl | rfl | rfl<;>rfl
 . rw [show [a,b,c,d,e,f,g,h,i] = [[a,b,c],[d,e,f],[g,h,i]].flatten from rfl,pb];exact ⟨r,hr,ht⟩
def EB {α:Type} {P:α->Prop} {a b c:α} (ha:P a) (hb:P b) (hc:P c):∀ x∈[a,b,c],P x:=λx hx=>by
 simp only [aC,aU,or_false] at hx;rcases hx with rfl | rfl | rfl<;>assumption
def Co {L:Bool} {w:Str} {h0 h1 h2:F} {a b c d e f g h i:T} (hk:k<=2) (H:∀ x∈[h0,h1,h2],Gk xs (k+1) x) (U:∀ x∈[h0,h1,h2],∀ L,ar L x = 1) (hw:w = ""\/w∈xs) (W:∀ t∈[a,b,c,d,e,f,g,h,i],Qm xs (5+4 * k) (9 * 2 ^ k - 4) t):Pk xs (k+1) [h0,h1,h2] [[sg L w h0 h0 a,sg L w h0 h1 b,sg L w h0 h2 c],[sg L w h1 h0 d,sg L w h1 h1 e,sg L w h1 h2 f],[sg L w h2 h0 g,sg L w h2 h1 h,sg L w h2 h2 i]]:=by
 refine .mk9 H λt ht=>?_;simp only [cK,aU,false_implies,implies_true,and_true] at H W U;obtain ⟨H0,H1,H2⟩:=H;obtain ⟨U0,U1,U2⟩:=U;obtain ⟨a,b,c,d,e,f,g,h,i⟩:=W;have H0:=H0.go ∅;have H1:=H1.go ∅;have H2:=H2.go ∅;simp only [aC,aU,or_false] at ht;rcases ht with rfl | rfl | rfl | rfl | rfl | rfl | rfl | rfl | rfl<;>exact (LL ‹Go xs _› ‹_› ‹_› ‹_› hw ‹_›).next
def Pk.out {fs:List F} {ws:List (List T)} (h:Pk xs k fs ws):∃ f0 f1 f2 a b c d e f g h i,fs = [f0,f1,f2]/\ws = [[a,b,c],[d,e,f],[g,h,i]]/\(∀ x∈[f0,f1,f2],Gk xs k x)/\∀ t∈[a,b,c,d,e,f,g,h,i],Qm xs (5+4 * k) (9 * 2 ^ k - 4) t:=by
 obtain ⟨l1,l2,l3,H,W⟩:=h;obtain ⟨f0,f1,f2,rfl⟩:=Aq l1;obtain ⟨r0,r1,r2,rfl⟩:=Aq l2;simp only [cK,aU,false_implies,implies_true,and_true] at l3;obtain ⟨a,b,c,rfl⟩:=Aq l3.1;obtain ⟨d,e,f,rfl⟩:=Aq l3.2.1;obtain ⟨g,h,i,rfl⟩:=Aq l3.2.2;refine ⟨f0,f1,f2,a,b,c,d,e,f,g,h,i,rfl,rfl,H,λt ht=>?_⟩;rw [show [a,b,c,d,e,f,g,h,i] = [[a,b,c],[d,e,f],[g,h,i]].flatten from rfl,pb] at ht;obtain ⟨r,hr,ht⟩:=ht;exact W r hr t ht
def LP (n:Nat) (own:Str) (o:Int) (ho:0<=o/\o < 2) (hk:k<=2) {fs:List F} {ws:List (List T)} (hP:Pk xs k fs ws):gg Gs gls (n+1) 23 [.str "not",.str own,pairD fs ws,.int o] λD=>∃ fs ws,D = pairD fs ws/\Pk xs (k+1) fs ws:=by
 obtain ⟨f0,f1,f2,a,b,c,d,e,f,g,h,i,rfl,rfl,H,W⟩:=hP.out
 have W':∀ t∈[a,d,g,b,e,h,c,f,i],Qm xs (5+4 * k) (9 * 2 ^ k - 4) t:=λt ht=>W t (by
  simp only [aC,aU,or_false] at ht |-;rcases ht with h | h | h | h | h | h | h | h | h<;>simp only [h,true_or,or_true])
 simp only [cK,aU,false_implies,implies_true,and_true] at H;have K:∀ L:Bool,_:=λL=>Co (L:=L) hk (EB (H.1.un .neg) (H.2.1.un .neg) (H.2.2.un .neg)) (EB (λ_=>rfl) (λ_=>rfl) λ_=>rfl) (.inl rfl) W';rcases (show o = 0\/o = 1 by lia) with rfl | rfl
 . exact (cu ⋯).mpr ⟨_,_,rfl,K false⟩
 . exact (cu ⋯).mpr ⟨_,_,rfl,K true⟩
end P1
end
section
namespace P1
open PySem L2 PP
variable {xs:List Str} {k:Nat}
def Jp (n:Nat) (u:U) (hu:u≠.neg) (own:Str) (hw:own∈xs) (o:Int) (hk:k<=2) {fs:List F} {ws:List (List T)} (hP:Pk xs k fs ws):gg Gs gls (n+20) 23 [.str u.s,.str own,pairD fs ws,.int o] λD=>∃ fs ws,D = pairD fs ws/\Pk xs (k+1) fs ws:=by
 obtain ⟨f0,f1,f2,a,b,c,d,e,f,g,h,i,rfl,rfl,H,W⟩:=hP.out;have ss:=s64;refine bN gQ rfl rfl rfl ?_;simp only [gQ,init,SI,Nat.reduceAdd,Nat.reduceSub];refine dC 1 [.val (.str u.s),.val (.str own),.val (pairD [f0,f1,f2] [[a,b,c],[d,e,f],[g,h,i]]),.val (.int o),.own [],.no,.no,.no,.no,.no,.no,.no,.no] ⋯ ?_;refine ig (R:=λδ=>∃ s,δ = [.val (.str u.s),.val (.str own),.val (pairD [f0,f1,f2] [[a,b,c],[d,e,f],[g,h,i]]),.val (.int o),.own ([f0,f1,f2].map λx=>enc (.un u (eE (bf own) x 0))),s,.no,.no,.no,.no,.no,.no,.no]) 1 _ _ ?_ ?_
 . simp only [fj,jL,pairD,ay,aF,SI,↓WS,↓WC,WI,↓reduceIte];refine gj (g:=enc) (λrest δ=>∃ (acc:List F) (s:Sl),δ = [.val (.str u.s),.val (.str own),.val (pairD [f0,f1,f2] [[a,b,c],[d,e,f],[g,h,i]]),.val (.int o),.own (acc.map λx=>enc (.un u (eE (bf own) x 0))),s,.no,.no,.no,.no,.no,.no,.no]/\acc++rest = [f0,f1,f2]/\∀ x∈rest,Gk xs k x) ?_ ?_ _ _ ⟨[],_,rfl,rfl,H⟩
   . rintro x rest δ ⟨acc,s,rfl,eq,hr⟩;have gx:=hr x ak;have hl:acc.length<=3:=by have:=congrArg gB eq;simp only [ah,ay,aF] at this;lia
     have kk:hF x<=7:=by have:=gx.1;lia
     have wb:=CB x (n+19) own 0 ∅ ⇑0 ∅ (nE (by have:=(gx.go ∅).2.2.1;lia));simp only [ay,aF,SI,↓WS,↓WC,WI,↓reduceIte];refine GY (λz=>?_) λ_=>(cu wb).mpr ⟨⇑0,by rw [aB];lia,acc++[x],_,by rw [bF];rfl,by rw [aO];exact eq,λy hy=>hr y (aj _ hy)⟩
     cases u with
     | neg=>exact absurd rfl hu
     | all=>exact absurd z ⇑0
     | ex=>exact absurd z ⇑0
   . rintro δ ⟨acc,s,rfl,eq,_⟩;rw [bA] at eq;rw [eq];exact ⟨.nx _,rfl,_,rfl⟩
 . rintro δ ⟨s,rfl⟩;simp only [cK,aU,false_implies,implies_true,and_true] at H;have K:∀ L:Bool,_:=λL=>Co (L:=L) (w:=own) hk (EB ((H.1.bd own hk).un u) ((H.2.1.bd own hk).un u) ((H.2.2.bd own hk).un u)) (EB (λ_=>rfl) (λ_=>rfl) λ_=>rfl) (.inr hw) W
   cases u with
   | neg=>exact absurd rfl hu
   | all=>exact rS ⋯ ⟨_,_,rfl,K false⟩
   | ex=>exact rS ⋯ ⟨_,_,rfl,K true⟩
def Gk.bi {A C:F} (b:B) (h:Gk xs k A) (g:Gk xs k C):Gk xs (k+1) (.bi b A C):=by
 obtain ⟨a,b,c,t⟩:=h;obtain ⟨a',b',c',t'⟩:=g;refine ⟨by simp only [hF];lia,by simp only [sz,cy];lia,?_,λq hq=>(aJ.mp hq).elim (t q) (t' q)⟩;show (tms A++tms C).length<=_;rw [ah,cy];lia
def Gk.orn {A C:F} (h:Gk xs k A) (g:Gk xs k C):Gk xs (k+1) (.bi .or (.un .neg A) C):=by
 obtain ⟨a,b,c,t⟩:=h;obtain ⟨a',b',c',t'⟩:=g;refine ⟨by simp only [hF];lia,by simp only [sz,cy];lia,?_,λq hq=>(aJ.mp hq).elim (t q) (t' q)⟩;show (tms A++tms C).length<=_;rw [ah,cy];lia
def fm (b:B) (t:Bool) (x y:F):F:=match t,b with
 | true,.imp=>.bi .or (.un .neg x) y
 | true,b=>.bi b y x
 | false,b=>.bi b x y
def DT {b:B} {t:Bool} {x y:F} (h:Gk xs k x) (g:Gk xs k y):Gk xs (k+1) (fm b t x y):=by
 cases t
 . exact h.bi b g
 . cases b
   . exact g.bi .and h
   . exact g.bi .or h
   . exact h.orn g
def rl (L:Bool) (A:F) (t:T):T:=.rule L A "" (.cons t .nil)
def r2 (L:Bool) (A:F) (s t:T):T:=.rule L A "" (.cons s (.cons t .nil))
def lh (o:Bool) (L:Bool) (A C:F) (s t:T):T:=match o with
 | true=>r2 (!L) C (rl L A s) (rl L A t)
 | false=>rl L A (r2 (!L) C s t)
def tq (b:Bool) (f:T->T->T) (s t:T):T:=match b with
 | true=>f t s
 | false=>f s t
def op (b:Bool) (L:Bool) (A:F) (t:T):T:=match b with
 | true=>rl L (.un .neg A) t
 | false=>t
def wy (b:B) (o tf tg:Bool) (hf hg xf xg:F) (one two eno:T):T:=match b with
 | .imp=>rl false hg (op tg false xg (r2 true hf (op tf true xf eno) two))
 | .and=>tq tg (lh o true hf hg) one two
 | .or=>tq tf (lh o false hg hf) one two
def FB (b:B) (A:F):Prop:=∀ L,ar L A = ar L (.bi b .yes .yes)
def HU {b:B} {t:Bool} {x y:F}:FB b (fm b t x y):=λL=>by cases b<;>cases t<;>rfl
def yw {m i j:Nat} {o L:Bool} {A C:F} {s t:T} (hA:Go xs A) (hC:Go xs C) (a1:ar L A = 1) (c2:ar (!L) C = 2) (h1:Qm xs m i s) (h2:Qm xs m j t):Qm xs (m+4) (i+j+4) (lh o L A C s t):=by
 cases o
 . exact ((h1.two _ hC c2 h2).one L hA a1 (.inl rfl)).up ∅ ∅
 . exact ((h1.one L hA a1 (.inl rfl)).two _ hC c2 (h2.one L hA a1 (.inl rfl))).up ∅ ∅
def HN {m j:Nat} {b L:Bool} {A:F} {t:T} (hA:Gk xs k A) (hk:k<=2) (h:Qm xs m j t):Qm xs (m+1) (j+1) (op b L A t):=by
 cases b
 . exact h.up ∅ ∅
 . exact h.one L ((hA.un .neg).go ∅) rfl (.inl rfl)
def Li {m i j:Nat} {b:B} {o tf tg:Bool} {hf hg xf xg:F} {one two eno:T} (hk:k<=2) (a:Gk xs (k+1) hf) (c:Gk xs (k+1) hg) (fa:FB b hf) (fc:FB b hg) (x:Gk xs k xf) (y:Gk xs k xg) (h1:Qm xs m i one) (h2:Qm xs m j two) (h3:Qm xs m i eno):Qm xs (m+4) (i+j+4) (wy b o tf tg hf hg xf xg one two eno):=by
 have a:=a.go ∅;have c:=c.go ∅;cases b
 . cases tg
   . exact yw (L:=true) a c (fa true) (fc false) h1 h2
   . exact (yw (L:=true) a c (fa true) (fc false) h2 h1).up (az _) ∅
 . cases tf
   . exact yw (L:=false) c a (fc false) (fa true) h1 h2
   . exact (yw (L:=false) c a (fc false) (fa true) h2 h1).up (az _) ∅
 . exact ((HN y hk ((HN x hk h3).two true a (fa _) (h2.up ∅ (az _)))).one false c (fc _) (.inl rfl)).up ∅ ∅
def wys (b:B) (o:Bool) (t0 t1 t2:Bool) (h0 h1 h2 x0 x1 x2:F) (a0 a1 a2 a3 a4 a5 a6 a7 a8 c0 c1 c2 c3 c4 c5 c6 c7 c8:T):List (List T) :=
 [[wy b o t0 t0 h0 h0 x0 x0 a0 c0 a0,wy b o t0 t1 h0 h1 x0 x1 a1 c1 a3,wy b o t0 t2 h0 h2 x0 x2 a2 c2 a6],
  [wy b o t1 t0 h1 h0 x1 x0 a3 c3 a1,wy b o t1 t1 h1 h1 x1 x1 a4 c4 a4,wy b o t1 t2 h1 h2 x1 x2 a5 c5 a7],
  [wy b o t2 t0 h2 h0 x2 x0 a6 c6 a2,wy b o t2 t1 h2 h1 x2 x1 a7 c7 a5,wy b o t2 t2 h2 h2 x2 x2 a8 c8 a8]]
def prD (x0 x1 x2:F) (a0 a1 a2 a3 a4 a5 a6 a7 a8:T):D:=pairD [x0,x1,x2] [[a0,a1,a2],[a3,a4,a5],[a6,a7,a8]]
def dl (n:Nat) (b:B) (c:Int) (o t0 t1 t2:Bool) (x0 x1 x2 y0 y1 y2:F) (a0 a1 a2 a3 a4 a5 a6 a7 a8 c0 c1 c2 c3 c4 c5 c6 c7 c8:T) (s7 s8 s9:Sl):Option D :=
 LM (en ⟨PP.run Gs gls (n+1),gls,hfs Gs⟩ (fj 3 dW.body) [.val (.str b.s),.val (.int c),.val (prD x0 x1 x2 a0 a1 a2 a3 a4 a5 a6 a7 a8),.val (prD y0 y1 y2 c0 c1 c2 c3 c4 c5 c6 c7 c8),.val (.int o.toInt),.own [enc (fm b t0 x0 y0),enc (fm b t1 x1 y1),enc (fm b t2 x2 y2)],.own [.bl t0,.bl t1,.bl t2],s7,s8,s9,.no])
def MP (n:Nat) (b:B) (c:Int) (o t0 t1 t2:Bool) (x0 x1 x2 y0 y1 y2:F) (a0 a1 a2 a3 a4 a5 a6 a7 a8 c0 c1 c2 c3 c4 c5 c6 c7 c8:T) (s7 s8 s9:Sl):dl n b c o t0 t1 t2 x0 x1 x2 y0 y1 y2 a0 a1 a2 a3 a4 a5 a6 a7 a8 c0 c1 c2 c3 c4 c5 c6 c7 c8 s7 s8 s9 = some (pairD [fm b t0 x0 y0,fm b t1 x1 y1,fm b t2 x2 y2] (wys b o t0 t1 t2 (fm b t0 x0 y0) (fm b t1 x1 y1) (fm b t2 x2 y2) x0 x1 x2 a0 a1 a2 a3 a4 a5 a6 a7 a8 c0 c1 c2 c3 c4 c5 c6 c7 c8)):=by
 cases b<;>cases o<;>cases t0<;>cases t1<;>cases t2<;>kernel_rfl
def dk (n:Nat) (b:B) (c o:Int) (P R:D) (fs ts:List D) (i:Int) (s8 s9:Sl):Option Out :=
 en ⟨PP.run Gs gls (n+1),gls,hfs Gs⟩ (He (fj 2 dW.body)) [.val (.str b.s),.val (.int c),.val P,.val R,.val (.int o),.own fs,.own ts,.val (.int i),s8,s9,.no]
def dm (n:Nat) (b:B) (c o:Int) (P R:D) (fs ts:List D) (i:Int) (x y:F):Option Out :=
 en ⟨PP.run Gs gls (n+1),gls,hfs Gs⟩ (fj 3 (He (fj 2 dW.body))) [.val (.str b.s),.val (.int c),.val P,.val R,.val (.int o),.own fs,.own ts,.val (.int i),.val (enc x),.val (enc y),.no]
def de (b:B) (c o:Int) (P R:D) (fs ts:List D) (i:Int) (x y:F):Option Out:=some (.nx [.val (.str b.s),.val (.int c),.val P,.val R,.val (.int o),.own fs,.own ts,.val (.int i),.val (enc x),.val (enc y),.no])
def NN (n:Nat) (b:B) (c o:Int) (x0 x1 x2 y0 y1 y2:F) (a0 a1 a2 a3 a4 a5 a6 a7 a8 c0 c1 c2 c3 c4 c5 c6 c7 c8:T) (s8 s9:Sl):dk n b c o (prD x0 x1 x2 a0 a1 a2 a3 a4 a5 a6 a7 a8) (prD y0 y1 y2 c0 c1 c2 c3 c4 c5 c6 c7 c8) [] [] 0 s8 s9 = de b c o (prD x0 x1 x2 a0 a1 a2 a3 a4 a5 a6 a7 a8) (prD y0 y1 y2 c0 c1 c2 c3 c4 c5 c6 c7 c8) [enc (fm b (decide (c / 1 % 2 = 1)) x0 y0)] [.bl (decide (c / 1 % 2 = 1))] 0 x0 y0:=by
 refine Eq.trans (b:=dm n b c o (prD x0 x1 x2 a0 a1 a2 a3 a4 a5 a6 a7 a8) (prD y0 y1 y2 c0 c1 c2 c3 c4 c5 c6 c7 c8) [] [.bl (decide (c / 1 % 2 = 1))] 0 x0 y0) ⋯ ?_;generalize decide (c / 1 % 2 = 1) = t;cases b<;>cases t<;>kernel_rfl
def NM (n:Nat) (b:B) (c o:Int) (u:D) (t0:Bool) (x0 x1 x2 y0 y1 y2:F) (a0 a1 a2 a3 a4 a5 a6 a7 a8 c0 c1 c2 c3 c4 c5 c6 c7 c8:T) (s8 s9:Sl):dk n b c o (prD x0 x1 x2 a0 a1 a2 a3 a4 a5 a6 a7 a8) (prD y0 y1 y2 c0 c1 c2 c3 c4 c5 c6 c7 c8) [u] [.bl t0] 1 s8 s9 = de b c o (prD x0 x1 x2 a0 a1 a2 a3 a4 a5 a6 a7 a8) (prD y0 y1 y2 c0 c1 c2 c3 c4 c5 c6 c7 c8) [u,enc (fm b (decide (c / 2 % 2 = 1)) x1 y1)] [.bl t0,.bl (decide (c / 2 % 2 = 1))] 1 x1 y1:=by
 refine Eq.trans (b:=dm n b c o (prD x0 x1 x2 a0 a1 a2 a3 a4 a5 a6 a7 a8) (prD y0 y1 y2 c0 c1 c2 c3 c4 c5 c6 c7 c8) [u] [.bl t0,.bl (decide (c / 2 % 2 = 1))] 1 x1 y1) ⋯ ?_;generalize decide (c / 2 % 2 = 1) = t;cases b<;>cases t<;>kernel_rfl
def NL (n:Nat) (b:B) (c o:Int) (u v:D) (t0 t1:Bool) (x0 x1 x2 y0 y1 y2:F) (a0 a1 a2 a3 a4 a5 a6 a7 a8 c0 c1 c2 c3 c4 c5 c6 c7 c8:T) (s8 s9:Sl):dk n b c o (prD x0 x1 x2 a0 a1 a2 a3 a4 a5 a6 a7 a8) (prD y0 y1 y2 c0 c1 c2 c3 c4 c5 c6 c7 c8) [u,v] [.bl t0,.bl t1] 2 s8 s9 = de b c o (prD x0 x1 x2 a0 a1 a2 a3 a4 a5 a6 a7 a8) (prD y0 y1 y2 c0 c1 c2 c3 c4 c5 c6 c7 c8) [u,v,enc (fm b (decide (c / 4 % 2 = 1)) x2 y2)] [.bl t0,.bl t1,.bl (decide (c / 4 % 2 = 1))] 2 x2 y2:=by
 refine Eq.trans (b:=dm n b c o (prD x0 x1 x2 a0 a1 a2 a3 a4 a5 a6 a7 a8) (prD y0 y1 y2 c0 c1 c2 c3 c4 c5 c6 c7 c8) [u,v] [.bl t0,.bl t1,.bl (decide (c / 4 % 2 = 1))] 2 x2 y2) ⋯ ?_;generalize decide (c / 4 % 2 = 1) = t;cases b<;>cases t<;>kernel_rfl
def CC (n:Nat) (b:B) (c o:Int) (ho:0<=o/\o < 2) (hk:k<=2) {fs gs:List F} {ws vs:List (List T)} (hP:Pk xs k fs ws) (hQ:Pk xs k gs vs):gg Gs gls (n+2) 25 [.str b.s,.int c,pairD fs ws,pairD gs vs,.int o] λD=>∃ fs ws,D = pairD fs ws/\Pk xs (k+1) fs ws:=by
 obtain ⟨x0,x1,x2,a0,a1,a2,a3,a4,a5,a6,a7,a8,rfl,rfl,H,W⟩:=hP.out;obtain ⟨y0,y1,y2,c0,c1,c2,c3,c4,c5,c6,c7,c8,rfl,rfl,I,V⟩:=hQ.out;have ss:=s64
 obtain ⟨o',eo⟩:∃ o':Bool,o = o'.toInt:=by
  rcases (show o = 0\/o = 1 by lia) with rfl | rfl
  . exact ⟨false,rfl⟩
  . exact ⟨true,rfl⟩
 generalize eP:pairD [x0,x1,x2] [[a0,a1,a2],[a3,a4,a5],[a6,a7,a8]] = P;generalize eR:pairD [y0,y1,y2] [[c0,c1,c2],[c3,c4,c5],[c6,c7,c8]] = R;refine bN dW rfl rfl rfl ?_;simp only [dW,init,SI,Nat.reduceAdd,Nat.reduceSub];refine dC 2 [.val (.str b.s),.val (.int c),.val P,.val R,.val (.int o),.own [],.own [],.no,.no,.no,.no] ⋯ ?_;refine ig (R:=λδ=>∃ (t0 t1 t2:Bool) (s7 s8 s9:Sl),δ = [.val (.str b.s),.val (.int c),.val P,.val R,.val (.int o),.own [enc (fm b t0 x0 y0),enc (fm b t1 x1 y1),enc (fm b t2 x2 y2)],.own [.bl t0,.bl t1,.bl t2],s7,s8,s9,.no]) 1 _ _ ?_ ?_
 . subst eP eR;simp only [fj,jL,ay,aF,SI,↓WS,↓WC,WI,↓reduceIte];refine ⟨⇑0,?_⟩;generalize eF:(λts:List Bool=>(ts.zip [(x0,y0),(x1,y1),(x2,y2)]).map λp=>enc (fm b p.1 p.2.1 p.2.2)) = fD;refine jY (λzs δ=>∃ (ts:List Bool) (s7 s8 s9:Sl),δ = [.val (.str b.s),.val (.int c),.val (prD x0 x1 x2 a0 a1 a2 a3 a4 a5 a6 a7 a8),.val (prD y0 y1 y2 c0 c1 c2 c3 c4 c5 c6 c7 c8),.val (.int o),.own (fD ts),.own (ts.map .bl),s7,s8,s9,.no]/\ts.length+zs.length = 3/\zs = (([0,1,2]:List Int).drop ts.length).map .int/\(fD ts).length = ts.length) ?_ ?_ _ _ ⟨[],_,_,_,by subst eF;rfl,rfl,rfl,by subst eF;rfl⟩
   . subst eF;rintro z zs δ ⟨ts,s7,s8,s9,rfl,hl,ez,el⟩
     match ts,hl,ez with
     | [],_,ez =>
       cases ez
       exact ⟨_,rfl,_,NN n b c o x0 x1 x2 y0 y1 y2 a0 a1 a2 a3 a4 a5 a6 a7 a8 c0 c1 c2 c3 c4 c5 c6 c7 c8 s8 s9,[decide (c / 1 % 2 = 1)],_,_,_,rfl,rfl,rfl,rfl⟩
     | [t0],_,ez =>
       cases ez
       exact ⟨_,rfl,_,NM n b c o _ t0 x0 x1 x2 y0 y1 y2 a0 a1 a2 a3 a4 a5 a6 a7 a8 c0 c1 c2 c3 c4 c5 c6 c7 c8 s8 s9,[t0,decide (c / 2 % 2 = 1)],_,_,_,rfl,rfl,rfl,rfl⟩
     | [t0,t1],_,ez =>
       cases ez
       exact ⟨_,rfl,_,NL n b c o _ _ t0 t1 x0 x1 x2 y0 y1 y2 a0 a1 a2 a3 a4 a5 a6 a7 a8 c0 c1 c2 c3 c4 c5 c6 c7 c8 s8 s9,[t0,t1,decide (c / 4 % 2 = 1)],_,_,_,rfl,rfl,rfl,rfl⟩
     | _::_::_::_,hl,_=>simp only [ay] at hl;lia
   . rintro δ ⟨ts,s7,s8,s9,rfl,hl,_,_⟩;obtain ⟨t0,t1,t2,rfl⟩:=Aq (l:=ts) (by simpa using hl);subst eF;exact ⟨.nx _,rfl,t0,t1,t2,_,_,_,rfl⟩
 . rintro δ ⟨t0,t1,t2,s7,s8,s9,rfl⟩;subst eP eR;simp only [cK,aU,false_implies,implies_true,and_true] at H I
   have K:Pk xs (k+1) [fm b t0 x0 y0,fm b t1 x1 y1,fm b t2 x2 y2] (wys b o' t0 t1 t2 (fm b t0 x0 y0) (fm b t1 x1 y1) (fm b t2 x2 y2) x0 x1 x2 a0 a1 a2 a3 a4 a5 a6 a7 a8 c0 c1 c2 c3 c4 c5 c6 c7 c8):=by
    have f0:Gk xs (k+1) (fm b t0 x0 y0):=DT H.1 I.1;have f1:Gk xs (k+1) (fm b t1 x1 y1):=DT H.2.1 I.2.1;have f2:Gk xs (k+1) (fm b t2 x2 y2):=DT H.2.2 I.2.2;obtain ⟨H0,H1,H2⟩:=H;simp only [cK,aU,false_implies,implies_true,and_true] at W V;obtain ⟨q0,q1,q2,q3,q4,q5,q6,q7,q8⟩:=W;obtain ⟨v0,v1,v2,v3,v4,v5,v6,v7,v8⟩:=V;refine .mk9 (EB f0 f1 f2) λt ht=>?_;simp only [aC,aU,or_false] at ht;rcases ht with rfl | rfl | rfl | rfl | rfl | rfl | rfl | rfl | rfl<;>exact ((Li hk ‹Gk xs (k+1) _› ‹_› HU HU ‹Gk xs k _› ‹_› ‹_› ‹_› ‹_›).up (az _) ∅).next
   generalize eL:wys b o' t0 t1 t2 (fm b t0 x0 y0) (fm b t1 x1 y1) (fm b t2 x2 y2) x0 x1 x2 a0 a1 a2 a3 a4 a5 a6 a7 a8 c0 c1 c2 c3 c4 c5 c6 c7 c8 = L at K;refine rS (d:=pairD [fm b t0 x0 y0,fm b t1 x1 y1,fm b t2 x2 y2] L) ?_ ⟨_,_,rfl,K⟩;subst eL eo;exact MP ..
end P1
end
section
namespace P1
open PySem L2 PP
variable {xs:List Str}
def Pk.up {k j:Nat} {fs:List F} {ws:List (List T)} (hk:k<=j) (h:Pk xs k fs ws):Pk xs j fs ws :=
 ⟨h.1,h.2.1,h.2.2.1,λf hf=>(h.2.2.2.1 f hf).up hk,λr hr t ht=>(h.2.2.2.2 r hr t ht).up ∅ (by have:2 ^ k<=2 ^ j:=fN ⇑0 hk;lia)⟩
def Bd:Nat->Int
 | 0=>900
 | k+1=>(Bd k - 2) / 2
def Ib:∀ k,Bd k<=900
 | 0=>by decide
 | k+1=>by have:=Ib k;show (Bd k - 2) / 2<=900;lia
def pks:List Str:=["word","not","and","or","if","all","some","and"]
def Ma (v:Int):∃ s:Str,atI (pks.map D.str) (v % 8) = some (.str s)/\(s = "word"\/(∃ u:U,s = u.s)\/∃ b:B,s = b.s):=by
 obtain ⟨x,hx,e⟩:=qv (ds:=pks.map D.str) (dF v (show (8:Int)≠0 by decide)) (cI v (show (0:Int) < 8 by decide));obtain ⟨s,hs,rfl⟩:=cq.mp hx;refine ⟨s,e,?_⟩;rcases (show ∀ s∈pks,s = "word"\/s = "not"\/s = "all"\/s = "some"\/s = "and"\/s = "or"\/s = "if" by decide) s hs with h | h | h | h | h | h | h
 . exact .inl h
 . exact .inr (.inl ⟨.neg,h⟩)
 . exact .inr (.inl ⟨.all,h⟩)
 . exact .inr (.inl ⟨.ex,h⟩)
 . exact .inr (.inr ⟨.and,h⟩)
 . exact .inr (.inr ⟨.or,h⟩)
 . exact .inr (.inr ⟨.imp,h⟩)
def Pq (m:Str) (s:List Int) (fam o:Int) (xs:List Str) (k:Nat):Prop:=∀ (n:Nat) (p:Int) (ns:List Str),k<=3->2<=ns.length->ns.length+k<=5->(∀ t∈ns,t∈xs)->0<=p->p<=Bd k->gg Gs gls (n+k+25) 26 [.lst (s.map .int),.int p,.int k,.lst (ns.map .str),.tup [.int fam,.str m,.int o]] λD=>∃ fs ws,D = pairD fs ws/\Pk xs k fs ws
def xY {m:Str} (hm:∀ j:Nat,2<=j->j < 5->m++((toString (j:Int):String):Str)∈xs) (ml:m.length<=5) (s:List Int) (fam o:Int) (ho:0<=o/\o < 2) (k:Nat) (ih:∀ j,k = j+1->Pq m s fam o xs j):Pq m s fam o xs k:=λn p ns k3 n2 n5 hs p0 p1=>by
 have ss:=s64;have lf:∀ c:Int,gg Gs gls (n+k+24) 22 [.int c,.lst (ns.map .str),.tup [.int fam,.str m,.int o]] λD=>∃ fs ws,D = pairD fs ws/\Pk xs k fs ws:=λc=>bY (Gg (n+k+20) ∅ ∅ hs c fam o m) λd ⟨fs,ws,e,h⟩=>⟨fs,ws,e,h.up (bP _)⟩;have p1':=Ib k;refine bN iP rfl rfl rfl ?_;simp only [iP,init,SI,Nat.reduceAdd,Nat.reduceSub];refine gG [.lst (s.map .int),.int p] ⋯ (bY (wD (n+k+23) s p p0 ∅) ?_);rintro _ ⟨c,rfl⟩;obtain ⟨kd,ek,hk⟩:=Ma c;refine ⟨_,rfl,xI (.str kd) (xk (x:=.lst (pks.map .str)) (y:=.int (c % 8)) ⋯ ⋯ ek) ⟨_,rfl,?_⟩⟩;refine dS (decide ((k:Int) = 0) || (kd == "word")) (DZ ⋯ ⋯) (λ_=>kA [.int (c / 8),.lst (ns.map .str),.tup [.int fam,.str m,.int o]] ⋯ (lf _)) λhz=>?_;rw [ly] at hz;have k0:k≠0:=λe=>by have:=of_decide_eq_false hz.1;lia
 replace hk:=hk.resolve_left (beq_eq_false_iff_ne.mp hz.2);refine dC 0 [.val (.lst (s.map .int)),.val (.int p),.val (.int k),.val (.lst (ns.map .str)),.val (.tup [.int fam,.str m,.int o]),.val (.int c),.val (.str kd),.no,.no,.no,.no] ⋯ ?_;obtain ⟨k,rfl⟩:∃ i,k = i+1:=⟨k - 1,∅⟩;have p1:p<=(Bd k - 2) / 2:=p1;have ih:=λq ns=>ih k rfl n q ns ∅;refine ig (R:=λδ=>∃ (own:Str) (inn:List Str),δ = [.val (.lst (s.map .int)),.val (.int p),.val (.int (k+1:Nat)),.val (.lst (ns.map .str)),.val (.tup [.int fam,.str m,.int o]),.val (.int c),.val (.str kd),.val (.str own),.own (inn.map .str),.no,.no]/\own∈xs/\(∀ t∈inn,t∈xs)/\2<=inn.length/\inn.length<=ns.length+1) 3 _ _ ?_ ?_
 . have hw:=hm ns.length n2 ∅;have ap:∀ t∈ns++[m++((toString (ns.length:Int):String):Str)],t∈xs:=λt ht=>(aJ.mp ht).elim (hs t) λz=>by rw [bC.mp z];exact hw
   simp only [fj,vI,jL,ay,aF,aB,SI,↓WS,↓WC,WI,↓reduceIte];have tl:((toString (ns.length:Int):String):Str).length<=9:=by rcases (show ns.length = 2\/ns.length = 3\/ns.length = 4 by lia) with e | e | e<;>rw [e]<;>decide
   refine ⟨nJ ∅ ∅,∅,DI (λ_=>⟨∅,_,ns++[_],by rw [bF];rfl,hw,ap,?_,?_⟩) λ_ _=>⟨_,ns,rfl,hw,hs,n2,∅⟩⟩<;>rw [ah,cn]<;>lia
 rintro δ ⟨own,inn,rfl,ho',hi,i2,i3⟩;refine ig (R:=λδ=>∃ (fs:List F) (ws:List (List T)),δ = [.val (.lst (s.map .int)),.val (.int p),.val (.int (k+1:Nat)),.val (.lst (ns.map .str)),.val (.tup [.int fam,.str m,.int o]),.val (.int c),.val (.str kd),.val (.str own),.val (.lst (inn.map .str)),.val (pairD fs ws),.no]/\Pk xs k fs ws) 1 _ _ ?_ ?_
 . simp only [fj,vI,jL,ay,aF,SI,↓WS,↓WC,WI,↓reduceIte];rw [show ((k+1:Nat):Int) - 1 = (k:Int) by lia];refine ⟨mul_r ∅ ∅,bY (ih (2 * p+1) inn i2 ∅ hi ∅ ∅) ?_⟩;rintro _ ⟨fs,ws,rfl,hP⟩;exact ⟨fs,ws,rfl,hP⟩
 rintro δ ⟨fs,ws,rfl,hP⟩;rcases hk with ⟨u,rfl⟩ | ⟨b,rfl⟩
 . refine cM.mpr (jD ⟨true,_,by cases u<;>kernel_rfl,rfl,rfl⟩ ?_);simp only [ay,aF,SI,↓WS,↓WC,WI,↓reduceIte];by_cases hu:u = .neg
   . rw [hu];exact LP (n+k+24) own o ho ∅ hP
   . exact Jp (n+k+5) u hu own ho' o ∅ hP
 . refine dC 1 [.val (.lst (s.map .int)),.val (.int p),.val (.int (k+1:Nat)),.val (.lst (ns.map .str)),.val (.tup [.int fam,.str m,.int o]),.val (.int c),.val (.str b.s),.val (.str own),.val (.lst (inn.map .str)),.val (pairD fs ws),.no] (by cases b<;>kernel_rfl) ?_;simp only [fj,vI,ay,aF,SI,↓WS,↓WC,WI,↓reduceIte];rw [show ((k+1:Nat):Int) - 1 = (k:Int) by lia];refine ⟨mul_r ∅ ∅,bY (ih (2 * p+2) ns n2 ∅ hs ∅ ∅) ?_⟩;rintro _ ⟨gs,vs,rfl,hQ⟩;exact ⟨⟨⇑0,⇑0⟩,CC (n+k+23) b (c / 8) o ho ∅ hP hQ⟩
def Cv {m:Str} (hm:∀ j:Nat,2<=j->j < 5->m++((toString (j:Int):String):Str)∈xs) (ml:m.length<=5) (s:List Int) (fam o:Int) (ho:0<=o/\o < 2):∀ k,Pq m s fam o xs k
 | 0=>xY hm ml s fam o ho 0 λj e=>by cases e
 | k+1=>xY hm ml s fam o ho (k+1) λj e=>by cases e;exact Cv hm ml s fam o ho k
end P1
end
section
namespace P1
open PySem L2 PP
def Jm (n:Nat) (ns:List Int):gg Gs gls (n+2) 27 [.lst (ns.map .int)] λD=>∃ (a b m:Str) (fam o:Int),D = .tup [.lst [.str a,.str b],.tup [.int fam,.str m,.int o]]/\nm a/\nm b/\(m = "c"\/m = "n")/\0<=o/\o < 2:=by
 have nz:nm "z":=⟨122,[],rfl,⇑0,⇑0⟩;refine bN iR rfl rfl rfl ?_;simp only [iR,init,SI,Nat.reduceAdd,Nat.reduceSub];simp only [ay,aF,SI,↓WS,↓WC,WI,↓reduceIte];refine bY (wD n ns 0 ⇑0 ⇑0) ?_;rintro _ ⟨c,rfl⟩;simp only [ay,aF,SI,↓WS,↓WC,WI,↓reduceIte];refine ⟨⇑0,bY (wC n (c / 4) "z" ⇑0 nz 0 ⇑0 ⇑0) ?_⟩;rintro _ ⟨a,rfl,ha⟩;refine ⟨⇑0,bY (wC n (c / 4) "z" ⇑0 nz 1 ⇑0 ⇑0) ?_⟩;rintro _ ⟨b,rfl,hb⟩
 obtain ⟨m,em,hm⟩:∃ m:Str,atI [D.str "c",D.str "n"] (if c % 4 = 1 then 1 else 0) = some (.str m)/\(m = "c"\/m = "n"):=by
  split
  . exact ⟨"n",rfl,.inr rfl⟩
  . exact ⟨"c",rfl,.inl rfl⟩
 have o2:0<=c / 32 % 2/\c / 32 % 2 < 2:=by lia
 have nN:∀ x:Str,nm ((("n":Str))++x):=λx=>qa ⟨110,[],rfl,⇑0,⇑0⟩;exact ⟨⇑0,⇑0,GY (λ_=>⟨⇑0,⟨⇑0,⇑0⟩,⇑0,⇑0,_,em,⟨⇑0,⇑0⟩,⇑0,⇑0,⇑0,_,_,m,_,_,rfl,nN "0",nN "1",hm,o2⟩) λ_=>⟨⟨⇑0,⇑0⟩,⇑0,⇑0,_,em,⟨⇑0,⇑0⟩,⇑0,⇑0,⇑0,a,b,m,_,_,rfl,ha,hb,hm,o2⟩⟩
def Md (xs:List Str) (a b:Str) (f g:F) (t:T):Prop:=(∀ x∈xs,nm x)/\(∀ x∈[a,b,("n9":Str)],x∈xs)/\Go xs f/\Go xs g/\Qm xs 19 206 t
def Qm.cut {xs:List Str} {m i j:Nat} {s t:T} {A:F} (hA:Go xs A) (g:Qm xs m i s) (h:Qm xs m j t):Qm xs (m+1) (i+j+1) (.cut A s t) :=
 ⟨⟨⟨hA,g.1.1,h.1.1⟩,g.1.2,h.1.2⟩,by have:=h.2.1;have:=g.2.1;simp only [ht];lia,by have:=h.2.2;have:=g.2.2;simp only [nd];lia⟩
def Jn (n:Nat) (ns:List Int):gg Gs gls (n+30) (28+lF) [.lst (ns.map .int)] λD=>∃ xs a b m fam o f g t,D = .tup [.lst [itD (true,f),itD (false,g)],eT t,.lst [.str a,.str b],.tup [.int fam,.str m,.int o]]/\Md xs a b f g t:=by
 have ss:=s64;refine Bf gc rfl rfl ⇑0 rfl rfl ?_;simp only [gc,init,SI,Nat.reduceAdd,Nat.reduceSub];refine gG [.lst (ns.map .int)] ⋯ (bY (Jm (n+27) ns) ?_);rintro _ ⟨a,b,m,fam,o,rfl,ha,hb,hm,ho⟩;refine ⟨_,rfl,?_⟩;refine ig (R:=λδ=>∃ c:Int,δ = [.val (.lst (ns.map .int)),.val (.lst [.str a,.str b]),.val (.tup [.int fam,.str m,.int o]),.val (.int c),.no,.no,.no,.no]) 1 _ _ ?_ ?_
 . simp only [jL,bS,List.zip_nil_left,iV,List.foldl,List.set,SI,↓WS,↓WC,WI,↓reduceIte];refine bY (wD (n+28) ns 0 ⇑0 ⇑0) ?_;rintro _ ⟨c,rfl⟩;simp only [↓WS,↓WC,WI,↓reduceIte];exact ⟨⟨⇑0,⇑0⟩,_,rfl⟩
 rintro δ ⟨c,rfl⟩;have ml:m.length = 1:=by rcases hm with rfl | rfl<;>decide
 have mn:∀ x:Str,nm (m++x):=λx=>qa (hm.elim (λe=>e▸⟨99,[],rfl,⇑0,⇑0⟩) λe=>e▸⟨110,[],rfl,⇑0,⇑0⟩);generalize hxs:[a,b,m++("2":Str),m++("3":Str),m++("4":Str),("n9":Str)] = xs
 have vx:∀ x∈xs,nm x:=by
  subst hxs;simp only [cK,aU,false_implies,implies_true,and_true];exact ⟨ha,hb,mn _,mn _,mn _,qa (a:="n") (b:="9") ⟨110,[],rfl,⇑0,⇑0⟩⟩
 have own:∀ j:Nat,2<=j->j < 5->m++((toString (j:Int):String):Str)∈xs:=λj j2 j5=>by
  subst hxs;rcases (show j = 2\/j = 3\/j = 4 by lia) with rfl | rfl | rfl
  . rw [show ((toString ((2:Nat):Int):String):Str) = "2" by decide];simp
  . rw [show ((toString ((3:Nat):Int):String):Str) = "3" by decide];simp
  . rw [show ((toString ((4:Nat):Int):String):Str) = "4" by decide];simp
 obtain ⟨k,ek,k3⟩:∃ k:Nat,2+(if decide (c / 4 % 4 = 1) = true then 1 else 0:Int) = (k:Int)/\k<=3:=by
  split
  . exact ⟨3,rfl,⇑0⟩
  . exact ⟨2,rfl,⇑0⟩
 have wp:=Cv (xs:=xs) own ∅ ns fam o ho k (n+(4 - k)) 1 [a,b] k3 (az 2) (by show 2+k<=5;lia) (by subst hxs;simp) ⇑0 (by rcases (show k = 0\/k = 1\/k = 2\/k = 3 by lia) with rfl | rfl | rfl | rfl<;>decide);rw [show n+(4 - k)+k+25 = n+29 by lia,<- ek] at wp;refine gG [.lst (ns.map .int),.int 1,.int (2+(if decide (c / 4 % 4 = 1) = true then 1 else 0:Int)),.lst [.str a,.str b],.tup [.int fam,.str m,.int o]] ⋯ (bY wp ?_);rintro _ ⟨fs,ws,rfl,hP⟩;replace hP:=hP.up k3;refine ⟨_,rfl,?_⟩;obtain ⟨f0,f1,f2,t0,t1,t2,t3,t4,t5,t6,t7,t8,rfl,rfl,H,W⟩:=hP.out;simp only [cK,aU,false_implies,implies_true,and_true] at H W;obtain ⟨g0,g1,g2⟩:=H;obtain ⟨w0,w1,w2,w3,w4,w5,w6,w7,w8⟩:=W;have g0:=g0.go ⇑0;have g1:=g1.go ⇑0;have g2:=g2.go ⇑0;have h9:∀ x∈[a,b,("n9":Str)],x∈xs:=by subst hxs;intro x hx;simp only [aC,aU,or_false] at hx |-;rcases hx with h | h | h<;>simp only [h,true_or,or_true]
 generalize eP4:D.lst ([f0,f1,f2].map enc) = P4;generalize eP5:D.lst ([[t0,t1,t2],[t3,t4,t5],[t6,t7,t8]].map λr=>.lst (r.map eT)) = P5;generalize eP0:D.lst (ns.map D.int) = P0;refine dC 2 [.val P0,.val (.lst [.str a,.str b]),.val (.tup [.int fam,.str m,.int o]),.val (.int c),.val P4,.val P5,.own [itD (true,f0),itD (false,f2)],.val (eT (.cut f1 t1 t5))] (by subst eP4 eP5;kernel_rfl) ?_
 have fin:∀ t,Qm xs 19 206 t->decide (c % 4 = 3) = false->wSs ⟨PP.run Gs gls (n+29),gls,hfs Gs⟩ (fj 7 gc.body) [.val P0,.val (.lst [.str a,.str b]),.val (.tup [.int fam,.str m,.int o]),.val (.int c),.val P4,.val P5,.own [itD (true,f0),itD (false,f2)],.val (eT t)] (JJ λD=>∃ xs a b m fam o f g t,D = .tup [.lst [itD (true,f),itD (false,g)],eT t,.lst [.str a,.str b],.tup [.int fam,.str m,.int o]]/\Md xs a b f g t):=λt h n3 =>
  dS (decide (c % 4 = 3)) ⋯ (λe=>by rw [n3] at e;cases e) λ_=>uo [eT t,.lst [.str a,.str b],.tup [.int fam,.str m,.int o]] [itD (true,f0),itD (false,f2)] ⋯ rfl (by show 3 < sizeLine;lia) ⟨xs,a,b,m,fam,o,f0,f2,t,rfl,vx,h9,g0,g2,h⟩
 have go:∀ t,Qm xs 19 206 t->decide (c % 4 = 2) = false->decide (c % 4 = 3) = false->wSs ⟨PP.run Gs gls (n+29),gls,hfs Gs⟩ (fj 6 gc.body) [.val P0,.val (.lst [.str a,.str b]),.val (.tup [.int fam,.str m,.int o]),.val (.int c),.val P4,.val P5,.own [itD (true,f0),itD (false,f2)],.val (eT t)] (JJ λD=>∃ xs a b m fam o f g t,D = .tup [.lst [itD (true,f),itD (false,g)],eT t,.lst [.str a,.str b],.tup [.int fam,.str m,.int o]]/\Md xs a b f g t):=λt h n2 n3 =>
  dS (decide (c % 4 = 2)) ⋯ (λe=>by rw [n2] at e;cases e) λ_=>fin t h n3
 refine dS (decide (c % 4 = 0)) ⋯ (λe0=>dC 1 [.val P0,.val (.lst [.str a,.str b]),.val (.tup [.int fam,.str m,.int o]),.val (.int c),.val P4,.val P5,.own [itD (true,f0),itD (false,f2)],.val (eT t2)] (by subst eP4 eP5;kernel_rfl) (go t2 (w2.up ⇑0 ⇑0) (decide_eq_false (by have:=of_decide_eq_true e0;lia)) (decide_eq_false (by have:=of_decide_eq_true e0;lia)))) λ_=>?_;refine dS (decide (c % 4 = 2)) ⋯ (λe2=>dC 1 [.val P0,.val (.lst [.str a,.str b]),.val (.tup [.int fam,.str m,.int o]),.val (.int c),.val P4,.val P5,.own [itD (true,f0),itD (false,f2)],.val (eT (.cut f1 t1 (.cut f0 t3 t2)))] (by subst eP4 eP5;kernel_rfl) (fin _ ((Qm.cut g1 (w1.up (eV _) (az _)) (.cut g0 w3 w2)).up ⇑0 ⇑0) (decide_eq_false (by have:=of_decide_eq_true e2;lia)))) λ_=>?_
 cases e3:decide (c % 4 = 3) with
 | false=>exact fin _ ((Qm.cut g1 w1 w5).up ⇑0 ⇑0) e3
 | true=>exact dS (decide (c % 4 = 3)) ⋯ (λ_=>dC 1 [.val P0,.val (.lst [.str a,.str b]),.val (.tup [.int fam,.str m,.int o]),.val (.int c),.val P4,.val P5,.own [itD (true,f0),itD (false,f2)],.val (eT (.cut f0 (.cut f1 t1 t3) t2))] (by subst eP4 eP5;kernel_rfl) (uo [eT (.cut f0 (.cut f1 t1 t3) t2),.lst [.str a,.str b],.tup [.int fam,.str m,.int o]] [itD (true,f0),itD (false,f2)] ⋯ rfl (by show 3 < sizeLine;lia) ⟨xs,a,b,m,fam,o,f0,f2,_,rfl,vx,h9,g0,g2,(Qm.cut g0 (.cut g1 w1 w3) (w2.up (eV _) (az _))).up ⇑0 ⇑0⟩)) λe=>by rw [e3] at e;cases e
def St.go {xs so:List Str} {A:F} (hs:∀ t∈so,t∈xs) (h:St so 1 1 A):Go xs A:=by
 obtain ⟨a,b,c,d⟩:=h;exact ⟨∅,∅,∅,λt ht=>(d t ht).imp (hs t) λ⟨j,j0,j1,e⟩=>⟨j,j0,∅,e⟩⟩
def MQ (ds:List D):(cutD ds (some 23) (some 53)).length<=30:=by
 unfold cutD;rw [br];simp only [HT.sIx]
 lia
def main (ns:List Int) (_:ns.length<=63):PP.run Gs gls 200 32 [.lst (ns.map .int)] = some (.bl true):=by
 have ss:=s9;apply cB;refine bN d_law rfl rfl rfl ?_;simp only [d_law,init,SI,Nat.reduceAdd,Nat.reduceSub];refine Ba [.lst (ns.map .int)] ⋯ ↥0 (Jn 169 ns |> bY <| ?_);rintro _ ⟨xs,a,b,m,fam,o,f,g,t,rfl,vx,h9,hf,hg,hQ,h19,h206⟩;refine ⟨_,_,_,rfl,rfl,?_⟩;have low1:∀ {l:List It},(∀ p∈l,Go xs p.2)->low l:=λh p hp=>(h p hp).2.1;generalize eP0:ns.map D.int = P0;have hP0:∀ z∈P0,∃ i,z = D.int i:=λz hz=>by subst eP0;obtain ⟨i,_,rfl⟩:=cq.mp hz;exact ⟨i,rfl⟩
 refine ig (R:=λδ=>∃ (l:List It) (s5 s6:Sl),δ = [.val (.lst P0),.own (l.map itD),.val (eT t),.val (.lst [.str a,.str b]),.val (.tup [.int fam,.str m,.int o]),s5,s6,.no,.no]/\(∀ p∈l,Go xs p.2)/\l.length<=32) 1 _ _ ?_ ?_
 . refine md (cutD P0 (some 23) (some 53)) (qo (d:=.lst (cutD P0 (some 23) (some 53))) ⋯ rfl) ?_;refine jY (λzs δ=>∃ (l:List It) (s5 s6:Sl),δ = [.val (.lst P0),.own (l.map itD),.val (eT t),.val (.lst [.str a,.str b]),.val (.tup [.int fam,.str m,.int o]),s5,s6,.no,.no]/\(∀ p∈l,Go xs p.2)/\l.length+zs.length<=32/\∀ z∈zs,∃ i,z = .int i) ?_ ?_ _ _ ⟨[(true,f),(false,g)],_,_,rfl,?_,?_,λz hz=>hP0 z (Hl hz)⟩
   . rintro z zs δ ⟨l,s5,s6,rfl,hl,hll,hz⟩;obtain ⟨i,rfl⟩:=hz z ak;rw [ay] at hll
     obtain ⟨L,eL⟩:∃ L:Bool,atI [D.str "left",D.str "right"] (i % 2) = some (.str (sd L)):=by
      rcases (show i % 2 = 0\/i % 2 = 1 by lia) with e | e<;>rw [e]
      . exact ⟨true,rfl⟩
      . exact ⟨false,rfl⟩
     have w:=nY fam [a,b,"n9"] ↥0 1 195 0 (i / 2) ↥0;refine ⟨[.val (.lst P0),.own (l.map itD),.val (eT t),.val (.lst [.str a,.str b]),.val (.tup [.int fam,.str m,.int o]),.val (.int i),s6,.no,.no],rfl,?_⟩;refine gG [.int (i / 2),.int (1:Nat),.int (0:Nat),.lst ([a,b,("n9":Str)].map .str),.int fam] ⋯ (bY w ?_);rintro _ ⟨A,rfl,hA⟩;refine ⟨[.val (.lst P0),.own (l.map itD),.val (eT t),.val (.lst [.str a,.str b]),.val (.tup [.int fam,.str m,.int o]),.val (.int i),.val (enc A),.no,.no],rfl,?_⟩;refine jr (itD (L,A)) (yN (eU (xk (x:=.lst [.str "left",.str "right"]) (y:=.int (i % 2)) ⋯ ⋯ eL) ⋯) (by show 2<=sizeLine;lia)) rfl (by rw [aB];lia) (iH.mpr ⟨l++[(L,A)],_,_,by rw [bF];rfl,λp hp=>(aJ.mp hp).elim (hl p) λz=>by rw [bC.mp z];exact St.go h9 hA,by rw [ah,cn];lia,λz h=>hz z (aj _ h)⟩)
   . rintro δ ⟨l,s5,s6,rfl,hl,hll,_⟩;exact ⟨.nx _,rfl,l,s5,s6,rfl,hl,by simpa using hll⟩
   . intro p hp;simp only [aC,aU,or_false] at hp;rcases hp with rfl | rfl
     . exact hf
     . exact hg
   . have:=MQ P0;show 2+_<=32
     lia
 rintro δ ⟨l,s5,s6,rfl,hl,l32⟩;have told:∀ (l:List It) (u:T),(∀ p∈l,low [p])->l.length<=40->okQ xs u->ht u<=19->nd u<=206->PP.run Gs gls 199 31 [.lst (l.map itD),eT u] = some (.bl true):=λl u h1 h2 h3 h4 h5=>Jj vx 198 l u ∅ h3 ∅ (λp hp=>h1 p hp p ↥0) ∅ ∅;have lowl:∀ p∈l,low [p]:=λp hp=>low.one (hl p hp).2.1;have w1:=told l t lowl ∅ hQ h19 h206;refine ig (R:=λδ=>δ = [.val (.lst P0),.val (.lst (l.map itD)),.val (eT t),.val (.lst [.str a,.str b]),.val (.tup [.int fam,.str m,.int o]),s5,s6,.no,.no]) 1 _ _ ?_ ?_
 . simp only [fj,jL,ay,aF,↓cu w1,SI,↓WS,↓WC,WI,↓reduceIte];exact Kv (show _ = _ from rfl)
 rintro δ rfl;have end_:∀ s7 s8:Sl,wSs ⟨PP.run Gs gls 199,gls,hfs Gs⟩ (fj 4 d_law.body) [.val (.lst P0),.val (.lst (l.map itD)),.val (eT t),.val (.lst [.str a,.str b]),.val (.tup [.int fam,.str m,.int o]),s5,s6,s7,s8] (retS λz=>z = .bl true):=λs7 s8=>kA [.lst (l.map itD),eT t] ⋯ ((cu w1).mpr rfl);refine dS (nc t) (by cases t<;>kernel_rfl) (λhc=>?_) λhc=>end_ _ _;have e1:=HI vx 197 t hc hQ ∅
 have ix:evE ⟨PP.run Gs gls 199,gls,hfs Gs⟩ (.ix (.var 2) (.neg (.int 1))) [.val (.lst P0),.val (.lst (l.map itD)),.val (eT t),.val (.lst [.str a,.str b]),.val (.tup [.int fam,.str m,.int o]),s5,s6,.no,.no] = some (.tup ((kl t).map eT),[.val (.lst P0),.val (.lst (l.map itD)),.val (eT t),.val (.lst [.str a,.str b]),.val (.tup [.int fam,.str m,.int o]),s5,s6,.no,.no]):=by
  rw [<- DG]
  cases t with
  | close=>cases hc
  | rule L A w ks=>kernel_rfl
  | cut A a b=>kernel_rfl
 refine md _ (Ea (eU (jE [eT t] ⋯ e1) (eU ix rfl)) (show zpD [brD (adds t),.tup ((kl t).map eT)] = some (rR ((adds t).map λb=>D.lst (b.map itD)) ((kl t).map eT)) from rfl)) ?_;rw [pv];refine gj (g:=λq:List It × T=>D.tup [.lst (q.1.map itD),eT q.2]) (λrest δ=>∃ (s7 s8:Sl),δ = [.val (.lst P0),.val (.lst (l.map itD)),.val (eT t),.val (.lst [.str a,.str b]),.val (.tup [.int fam,.str m,.int o]),s5,s6,s7,s8]/\∀ q∈rest,q∈(adds t).zip (kl t)) ?_ ?_ _ _ ⟨_,_,rfl,λ_ h=>h⟩
 . rintro ⟨p,u⟩ rest δ ⟨s7,s8,rfl,h4⟩;obtain ⟨hb,hk⟩:=fq (h4 _ ak);have kk:=vi hk hQ;have bl:=tZ hQ hb
   have nk:nd u<=nd t:=by
    rw [vc t];exact jm (se nd hk)
   have w2:=told (l++p) u (λq hq=>(aJ.mp hq).elim (lowl q) λz=>low.one (bl.2 q z)) (by rw [ah];lia) kk.1 ∅ ∅;rw [bF] at w2;refine ⟨[.val (.lst P0),.val (.lst (l.map itD)),.val (eT t),.val (.lst [.str a,.str b]),.val (.tup [.int fam,.str m,.int o]),s5,s6,.val (.lst (p.map itD)),.val (eT u)],rfl,?_⟩;simp only [aB,↓cu w2,SI,↓WS,↓WC,WI,↓reduceIte];exact ⟨∅,_,_,rfl,λq hq=>h4 q (aj _ hq)⟩
 . rintro δ ⟨s7,s8,rfl,_⟩;exact me.mpr (end_ _ _)
def NA:ED L0:=⟨rfl,rfl,rfl,⇑0,⇑0,⇑0,⇑0,⇑0,λ_ _ _ _ us hl=>qu rfl rfl rfl rfl rfl rfl ⇑0 hl⟩
def NB:Ln Gs Gd gns 33 L0:=⟨NA,d_lam0,(.ite (.and (.call 1 (.cons (.var 0) .nil)) (.cmp .eq (.blt .toInt (.cons (.var 0) .nil)) (.var 1))) (.var 2) (.var 0)),rfl,rfl,rfl,rfl,rfl,rfl,⇑0⟩
def mem_ts {t:aq × Str} (h:t∈Tbs.ts):t = (37,("put_in.<locals>.<lambda>":Str)):=by
 have h:t∈[(37,("put_in.<locals>.<lambda>":Str))]:=h;simpa only [aC,aU,or_false] using h
def lams_ok:∀ p∈Tbs.lams,Ln Gs Gd gns p.1 p.2:=λp h=>by
 have h:p∈([(33,L0)]:List (Nat × Lam)):=h;simp only [aC,aU,or_false] at h;rcases h with rfl
 . exact NB
def own_3 {C:Prop} {K:PySem.W.Frag} {h:cg} {mg:Str->Option af} {f cc:aq} {od an:Option aq} {sl:Array (Option af)} {oc kV dc pm ct:af} (X:K.In h) (G:h.Ns mainGlobals mg) (a:PySem.W.nsIn K mainGlobals "put_in" = some (some (.ref f))) (l:K.lookup f = some ⟨oc,od,.func (PySem.W.fnOf "put_in" "put_in" (gM (top 6)) (fk (top 6)) (bM (top 6)) .none kV dc pm an (.ref cc) ct),sl⟩) (c:PySem.W.codeIn K (.ref cc) "put_in" = true) (k:PySem.W.keepIn K (.ref f) = true) (h5:PySem.W.codeHdIn K cc 37 = true) (t5:K.lookup 37 = none) (q:(∃ st a fdd,Dn K mg (lM Gd) gns jh st a fdd)->(K.lookup 37 = none/\∃ c,PySem.W.codeHdIn K c 37 = true)->C):C:=by
 have F:=DS (st:=top 6) l c k;have o:okD jh (gM (top 6)) (bM (top 6)) = true:=by decide
 exact q ⟨_,_,_,F,PySem.W.mg_of X G a,Dj o,.inr (.inl ⟨{ f:=2,es:=(.cons (.var 0) (.cons (.int 0) .nil)),k:=33,caps:=[1],x:="with_terms",ps:=dD.ps,y:=(rxs (top 6)).headD (.Constant .none 0 ⟨0,0,0,0⟩),ys:=(rxs (top 6)).dropLast.tail,p:=(rps (top 6)).1,lp:=ND (rlm (top 6)),pos:=(rps (top 6)).2.1,rp:=(rps (top 6)).2.2,L:=L0,c:=cc,P:=37,cells:=λl=>[l+1],body:=rfl,text:=rfl,lam:=rfl,args:=by decide,npk:=rfl,fn:=rfl,gl:=by decide,nd:=by decide,dft:=λ_=>rfl,cl:=λ_ _ _=>rfl,cp:=λX l a cd hN hE=>⟨_,_,_,_,rfl,rfl,by rw [hN];rfl,by rw [hE];rfl,by rw [hE];rfl,⟨rfl,rfl⟩⟩,code:=rfl,hd:=h5,tb:=by decide,un:=by decide,ql:=by decide }⟩),Dk rfl rfl o⟩ ⟨t5,_,h5⟩
end P1
end
section
def PySem.W.Fast.te6934560902160733163:True:=trivial
open PySem PySem.W PyProof.Rows
set_option maxRecDepth 100000 in
set_option maxHeartbeats 0 in
theorem PySem.Challenge.cw_cutless_k14_said_holds : PySem.Challenge.rw_cutless_k14_said.Holds := by
 w_on
 refine PySem.W.holds_law ⇑0 λsaid=>?_
 k_head;(case hw=>w_witness2)
 k_fill
 refine PP.walk_run (l:=PySem.Challenge.rw_cutless_k14_said) (G:=P1.Gs) (Gd:=P1.Gd) (gl:=P1.gls) (gn:=P1.gns) (i:=32) (fd:=P1.d_law) (x:="_law_script") P1.main rfl rfl rfl rfl (λw h Y=>⟨PySem.W.km_in_of Y,λt ht=>PySem.W.km_tabs_of Y t.1 (by rcases P1.mem_ts ht with rfl<;>decide)⟩) rfl λw mg h KX G=>?_;apply P1.own_3 KX G;k_is;k_is;k_is;k_is;kernel_rfl;kernel_rfl;intro o3 t3;refine ⟨PP.top_mk (tp:=P1.top) (is:=P1.pls) KX G ?H (PP.sub_app (b:=[P1.d_lam0])) ⇑0 P1.lams_ok ?B ?GL (λn l h=>by cases h) (λf h=>by cases h),?T⟩
 case T =>
  intro t ht;rcases P1.mem_ts ht with rfl
  . exact t3
 case H =>
  iterate 3 (apply PP.Hds.cons;k_is;k_is;k_is;k_is;decide)
  refine .own o3 ?_
  iterate 29 (apply PP.Hds.cons;k_is;k_is;k_is;k_is;decide)
  exact .nil
 case B=>kernel_rfl
 case GL=>repeat' first | exact .nil | exact .str | exact .int | exact Nat.le_of_ble_eq_true rfl | (apply PP.InK.tup;k_is) | (apply PP.Gls.cons;k_is) | apply PP.InKs.cons
end
