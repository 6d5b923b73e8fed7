import PyProof.Rows.All
import Wide.All
import OpenK.AllK
import Wide.FinOn
import Lean
import PyProof.EqAt
import PyProof.EqKinds
import PyProof.TupleCall
import KE.KSortAsk
import KE.KIntText
import KE.KMinBuiltin
import PyProof.MeetsStr2
import KE.KTabLook
import PySem.Challenge.RW_cutless_k39_an_end_of_steps
open Array renaming length_toList→aV,getElem?_eq_getElem→bB,getElem?_eq_some_iff→dw,forIn_toList→gP,getElem?_setIfInBounds_self_of_lt→jM,getElem?_setIfInBounds_ne→lY,toList_filterMap→vD,getElem?_eq_none→vE,mem_of_getElem?→vI,getElem?_mapIdx→vJ,toList_push→Bl
open Array.Perm renaming refl→cz
open Bool renaming and_eq_true→aa,false_ne_true→ah,false_eq_true→aG,not_true→bK,or_eq_true→df,and_self→dH,eq_iff_iff→eF,eq_false_iff→iw,and_true→iD,true_and→kP,not_eq_true'→lX,true_or→vG,or_true→vH,or_eq_false_iff→zj,or_eq_true_iff→Bf
open Classical renaming byContradiction→gM,choose_spec→qU
open Iff renaming rfl→aR
open Int renaming emod_lt_of_pos→bz,emod_nonneg→bV,toNat_natCast→iC
open List renaming mem_cons_of_mem→ak,mem_cons_self→ao,length_map→aq,length_append→au,getElem?_eq_getElem→aw,length_cons→ax,size_toArray→az,getElem?_eq_some_iff→aB,mem_cons→aD,length_nil→aH,getElem?_set_ne→aI,mem_append_right→aL,getElem?_append_left→aO,mem_map→aP,getElem?_map→aQ,mem_append_left→aU,length_set→aW,map_cons→aX,getElem?_append_right→aZ,all_eq_true→bb,length_take→bj,mem_of_getElem?→bu,mem_append→bI,length_singleton→bL,map_append→bT,getElem?_set_self→bX,append_nil→cc,not_mem_nil→cw,filterMap_cons→cK,getElem?_eq_none→cO,mem_singleton→cR,getElem?_take_of_lt→cW,length_eq_zero_iff→dc,any_eq_true→du,getElem?_of_mem→dF,forIn_cons→eE,all_cons→eH,getD_eq_getElem?_getD→eN,lookup_cons→eS,drop_eq_getElem_cons→eY,nodup_cons→fy,foldl_cons→fA,contains_cons→fB,getElem?_replicate→fI,mem_range→fK,length_replicate→fX,length_drop→fY,mem_map_of_mem→gL,pairwise_iff_getElem→ia,length_range→iu,mem_of_elem_eq_true→iA,filterMap_cons_some→iB,isEmpty_nil→iP,getElem_mem→iQ,all_nil→iX,take_append_drop→jL,mem_filterMap→kQ,pairwise_map→lU,map_nil→lV,append_assoc→lW,drop_length→nq,of_mem_zip→pD,nil_append→pE,mem_filter→pF,length_eraseIdx_of_lt→qT,set_eq_of_length_le→tF,any_cons→tH,filter_cons_of_pos→vB,map_map→vF,pairwise_append→ze,mem_of_mem_drop→zf,mem_iff_getElem→zh,take_succ_cons→Ba,map_congr_left→Bb,filter_eq_self→Bc,eraseDups_cons→Bd,drop_succ_cons→Be,zip_nil_right→Bj,take_add_one→FL,getLast?_map→FN,zipIdx_cons→FP,take_length→FQ,nodup_range→FR,cons_append→FT,zipIdx_nil→Jd
open Nat renaming le_refl→av,ne_of_lt→aC,lt_of_lt_of_le→aK,le_trans→aY,lt_succ_of_lt→bc,zero_le→bC,lt_irrefl→bU,lt_succ_self→cU,lt_of_le_of_lt→cV,le_of_lt_succ→de,lt_or_ge→dG,ne_of_gt→en,le_add_right→eX,add_le_add_left→fk,add_le_add_right→gq,mod_lt→hZ,min_le_right→iV,le_max_right→iW,succ_pos→jx,le_max_left→jK,max_le→lF,lt_or_eq_of_le→lG,add_right_comm→lH,lt_trichotomy→mD,le_of_lt→mE,le_succ→pC,min_le_left→qa,add_assoc→vA,zero_add→xv,min_self→xx,mul_le_mul_left→Bi,le_min→FJ,eq_zero_or_pos→FK,le_succ_of_le→FO,succ_le_succ→Jc,not_lt_zero→JG,min_eq_left→JH
open Option renaming bind_eq_some_iff→ag,bind_eq_bind→aj,map_eq_some_iff→aE,map_some→cJ,isNone_iff_eq_none→cL,isSome_iff_exists→fh,bind_some→lT,pure_def→nk,getD_some→Bg,getD_none→Bh
open Option.some renaming inj→aM
open PyProof.Rows renaming callWith_type1→fV,listUpdate_at→jw,slot_tuple_getitem→jQ,call_isinstance_of→pA,assignInOrder_cons→pB,get?_update_seq→vz,subscriptTail_builtinR→FE,seqEpoch_at→Ja,bubble_perm→Jb,assignInOrder_nil→MO
open PyProof.Rows.F renaming plain_set_update_loop→cQ,entry_set_update_loop→iy
open PyProof.Rows.IsTup renaming new→mF
open PySem renaming wpAny_bind→ae,wpAny_pure→ai,wpAny_newObj_type→aS,wpAny_loadPart_at→bq,wpAny_holding→bN,wpAny_call_entry→bO,sizeLine_eq→bP,wpAny_setState_of→cb,wpAny_seqItems→cq,wpAny_field→cA,wpAny_callSpecial?_slot→cC,wpAny_mono→cN,wpAny_truthy_bool→dn,wpAny_isSubtype_exc→dv,codeAny_builtin→dN,plainId_quiet→dR,wpAny_setField→dZ,wpAny_passesOwn→eM,wpAny_pyIter_list→eR,wpAny_askSetting→fv,wpAny_setField_rec→fQ,wpAny_Call_Name_kw→fR,wpAny_of_eq→fU,builtinLookup_eq_fast→gx,wpAny_standAt→gN,wpAny_letGo→gO,wpAny_specialOf→hV,codeAny_mono→ir,wpAny_rule→iO,wpAny_isInstance→jO,noFill_tuple_add→jP,wpAny_loadPart'→kg,wpAny_execs_nil→kh,typeLookup_type→kl,wpAny_updateSeq_pair→lD,codeAny_call_builtin→lE,wpAny_setEntries_of→mC,wpAny_onRaise→mZ,wpAny_attempt→ng,seq_tuple_add→nh,wpAny_typeOf→pX,wpAny_setEpoch_of→pY,wpAny_updateSeq→vx,wpAny_tryCatch→xo,isSubtype_type→xt,call_meets→xu,wpAny_newList→AX,wpAny_comprehension_free→AY,filterMap_getElem?_range→AZ,seqIndex_neg→FF,concat_meets→FG,codeAny_compStart_list→FH,wpAny_newFunctionEnv→IX,wpAny_loadName_local→IY,seqIndex_of→IZ,wpAny_loadName_cell→JF,wpAny_pyIter_tuple→MF,wpAny_call→MG,wpAny_Name→MH,typeIs_str→MI,wpAny_storeSet_of→MJ,wpAny_pyIter_slot→MK,wpAny_assign_Name→ML,fits_of_scanBound→MM,eqIsQuiet_byValue→MN
open PySem.Around renaming under_plainId→dE
open PySem.Calls renaming Name_function_global→qb,call_function_entry→qV,evalArgs_plain→xy
open PySem.Code renaming quiet_builtin→Bk
open PySem.Heap renaming get?_push_of_some→af,lt_size→ar,get?_push_size→aA,size_push→bf,get?_update_self→cP,get?_update_other→dq,get?_none_of_le→zi
open PySem.Heap.SameBut renaming update→bD
open PySem.Obj renaming data_mapFields→FI
open PySem.PassesOwn renaming never→iz
open PySem.SeqAt.EqAt renaming same→FU
open PySem.W.Looks renaming of_pure→km
open PySem.Walks renaming list→pZ
set_option Elab.async false
set_option linter.all false
set_option genInjectivity false
set_option genSizeOf false
set_option maxRecDepth 100000
set_option maxHeartbeats 4000000
section
-- CHANGE: your row's module here,as the last of these rows
namespace L2
open PySem PySem.Spec PyProof.Rows
abbrev Key:=Sum Int Str
noncomputable def Ju:Key->Value->Bool
 | .inl k,v=>Value.isInt k v
 | .inr x,v=>Value.isStrOf x v
noncomputable def OF (w:World):Key->Int
 | .inl k=>hashInt k
 | .inr x=>hashStr w x
theorem dB:∀ {k:Key} {v:Value},Ju k v = true->(∃ i t,k = Sum.inl i/\v = Value.int i t)\/(∃ x t,k = Sum.inr x/\v = Value.str x t)
 | .inl i,v,h=>by
   obtain ⟨t,e⟩:=Value.isInt_shape (k:=i) (v:=v) h
   exact .inl ⟨i,t,rfl,e⟩
 | .inr x,v,h=>by
   obtain ⟨t,e⟩:=Value.isStrOf_shape (x:=x) (v:=v) h;exact .inr ⟨x,t,rfl,e⟩
theorem LP (a b:Int):decide ((Sum.inl a:Key) = Sum.inl b) = (a == b):=by
 by_cases e:a = b
 . subst e;simp
 . have h:¬ (Sum.inl a:Key) = Sum.inl b:=fun q=>e (Sum.inl.inj q);rw [decide_eq_false h];exact (beq_eq_false_iff_ne.mpr e).symm
theorem LM (a b:Str):decide ((Sum.inr a:Key) = Sum.inr b) = decide (a = b):=by
 by_cases e:a = b
 . subst e;simp
 . have h:¬ (Sum.inr a:Key) = Sum.inr b:=fun q=>e (Sum.inr.inj q);rw [decide_eq_false h,decide_eq_false e]
theorem LO (a:Int) (b:Str):decide ((Sum.inl a:Key) = Sum.inr b) = false:=decide_eq_false (fun q=>nomatch q)
theorem LN (a:Str) (b:Int):decide ((Sum.inr a:Key) = Sum.inl b) = false:=decide_eq_false (fun q=>nomatch q)
noncomputable def sr (prog:Program) (w:World):PySem.KeyKind prog w Key where
 is:=Ju
 hash:=OF w
 inj:=fun v a b ha hb=>by
  rcases dB ha with ⟨i,t,rfl,rfl⟩ | ⟨x,t,rfl,rfl⟩
  . rcases dB hb with ⟨j,u,rfl,e⟩ | ⟨y,u,rfl,e⟩
    . injection e with e1 _;rw [e1]
    . exact nomatch e
  . rcases dB hb with ⟨j,u,rfl,e⟩ | ⟨y,u,rfl,e⟩
    . exact nomatch e
    . injection e with e1 _;rw [e1]
 byValue:=fun k v h=>by
  rcases dB h with ⟨i,t,rfl,rfl⟩ | ⟨x,t,rfl,rfl⟩<;>rfl
 pyHash:=fun hv h=>by
  rcases dB hv with ⟨i,t,rfl,rfl⟩ | ⟨x,t,rfl,rfl⟩
  . exact wpAny_pyHash_int h
  . exact wpAny_pyHash_str h
 eqBool:=fun hu hv h=>by
  rcases dB hu with ⟨i,t,rfl,rfl⟩ | ⟨x,t,rfl,rfl⟩
  . rcases dB hv with ⟨j,u,rfl,rfl⟩ | ⟨y,u,rfl,rfl⟩
    . rw [LP] at h;exact wpAny_eqBool_int h
    . rw [LO] at h;exact SeqAt.EqAt.int_str i t y u _ _ _ _ h
  . rcases dB hv with ⟨j,u,rfl,rfl⟩ | ⟨y,u,rfl,rfl⟩
    . rw [LN] at h;exact SeqAt.EqAt.str_int x t j u _ _ _ _ h
    . rw [LM] at h;exact wpAny_eqBool_str h
 «strs»:=fun k x t v h=>by
  rcases dB h with ⟨i,u,rfl,e⟩ | ⟨y,u,rfl,e⟩
  . exact nomatch e
  . injection e with e1 _;subst e1;cases v<;>rfl
end L2
namespace L2
open PySem PySem.Spec PyProof.Rows
set_option genInjectivity true in
inductive V where
 | non | bl (b:Bool) | int (i:Int) | str (x:Str) | byt (b:Array UInt8) | flt (b:UInt64) | ref (a:Addr) | ty (n:String)
 deriving DecidableEq
noncomputable def RelV:V->Value->Prop
 | .non,u=>u = Value.none
 | .bl b,u=>u = Value.bool b
 | .int i,u=>∃ t,u = Value.int i t
 | .str x,u=>∃ t,u = Value.str x t
 | .byt b,u=>∃ t,u = Value.bytes b t
 | .flt b,u=>∃ t,u = Value.float b t
 | .ref a,u=>u = Value.ref a
 | .ty n,u=>u = Value.type n
abbrev Vals:List V->List Value->Prop:=Paired RelV
theorem Vals.length {xs:List V} {us:List Value} (r:Vals xs us):xs.length = us.length:=Paired.length r
theorem Vals.get:∀ {xs:List V} {us:List Value} {i:Nat} {x:V},Vals xs us->xs[i]? = some x->∃ u,us[i]? = some u/\RelV x u
 | _,_,_,_,.nil,e=>by simp at e
 | _,_,0,_,.cons r _,e=>by simp at e;subst e;exact ⟨_,rfl,r⟩
 | _,_,i+1,x,.cons _ t,e=>by
   obtain ⟨u,h1,h2⟩:=Vals.get (i:=i) (x:=x) t (by simpa using e);exact ⟨u,by simpa using h1,h2⟩
theorem Vals.set {x:V} {u:Value} (r:RelV x u):∀ {xs:List V} {us:List Value} (i:Nat),Vals xs us->Vals (xs.set i x) (us.set i u)
 | _,_,_,.nil=>.nil
 | _,_,0,.cons _ t=>.cons r t
 | _,_,i+1,.cons q t=>.cons q (Vals.set r i t)
theorem Vals.append:∀ {xs ys:List V} {us ws:List Value},Vals xs us->Vals ys ws->Vals (xs++ys) (us++ws)
 | _,_,_,_,.nil,s=>s
 | _,_,_,_,.cons r t,s=>.cons r (Vals.append t s)
theorem Vals.take:∀ {xs:List V} {us:List Value} (n:Nat),Vals xs us->Vals (xs.take n) (us.take n)
 | _,_,0,_=>.nil
 | _,_,_+1,.nil=>.nil
 | _,_,n+1,.cons r t=>.cons r (Vals.take n t)
theorem Vals.drop:∀ {xs:List V} {us:List Value} (n:Nat),Vals xs us->Vals (xs.drop n) (us.drop n)
 | _,_,0,r=>r
 | _,_,_+1,.nil=>.nil
 | _,_,n+1,.cons _ t=>Vals.drop n t
noncomputable def fP:Option V->Option Value->Prop
 | some v,some u=>RelV v u
 | none,none=>True
 | _,_=>False
noncomputable def KV {κ:Type}:List (κ × V)->List (κ × Value)->Prop:=Paired fun (p:κ × V) (q:κ × Value)=>p.1 = q.1/\RelV p.2 q.2
noncomputable def kV:Key->V
 | .inl i=>.int i
 | .inr x=>.str x
inductive HO where
 | lst (xs:List V)
 | tup (xs:List V)
 | dK (kvs:List (Key × V)) | dT (kvs:List (List Key × V))
 | set (S:Int->Bool) (n:Nat)
 | ins (C dx:Addr) (fs:List (Str × V))
 | own (x:Addr)
 | xd (fs:List (Str × V))
 | met (f x:Addr)
 | rng (lo hi:Int)
 | frz (o:Obj) (u:HO)
 | tbl (ps:Array Value)
 | ext (φ:Heap->Prop)
abbrev Hp:=Addr->Option HO
noncomputable def upd (H:Hp) (a:Addr) (o:HO):Hp:=fun b=>if b = a then some o else H b
theorem cg {H:Hp} {a:Addr} {o:HO}:upd H a o a = some o:=by unfold upd;rw [if_pos rfl]
theorem bw {H:Hp} {a b:Addr} {o:HO} (h:b≠a):upd H a o b = H b:=by unfold upd;rw [if_neg h]
theorem fN {H:Hp} {a b:Addr} {o:HO} (h:H a = some o) (h':H b = none):a≠b:=by
 intro e;subst e;rw [h] at h';cases h'
section
variable (P:Program) (w:World)
noncomputable def fJ (H:Hp) (h:Heap) (a:Addr):HO->Prop
 | .lst xs=>xs.length<=sizeLine/\∃ (its:List Value) (n:Nat),Vals xs its/\h.get? a = some { cls:=.type "list",data:=.seq its.toArray n }
 | .tup xs=>xs.length<=sizeLine/\∃ its:List Value,Vals xs its/\IsTup h a its.toArray
 | .dK kvs=>kvs.length<=sizeLine/\(a == sysModules) = false/\∃ vs,KV kvs vs/\h.DictOf (sr P w) a vs
 | .dT kvs=>kvs.length<=sizeLine/\(a == sysModules) = false/\∃ xs:List (List Key × Addr × Value),
    Paired (fun (p:List Key × V) (q:List Key × Addr × Value)=>p.1 = q.1/\H q.2.1 = some (.tup (p.1.map kV))/\RelV p.2 q.2.2) kvs xs /\
    ∃ o es ep,h.get? a = some o/\o.ExactDict/\o.data = .dict es ep/\es.toList = xs.map (entryOfKey (tupleKind (sr P w)))/\(xs.map (·.1)).Nodup
 | .set S n=>h.SetOf (intKind P w) a S n
 | .ins C dx fs=>H dx = some (.own a)/\fs.length<=1000/\dx≠a/\h.get? a = some (PySem.W.instObj C dx) /\
    ∃ mA,h.Ns1 dx mA/\(∀ f,fP (fs.lookup f) (mA f))/\PySem.Within mA (fs.map (·.1))
 | .own _=>∃ o,h.get? a = some o
 | .xd fs=>∃ mA,h.Ns1 a mA/\∀ f,fP (fs.lookup f) (mA f)
 | .rng lo hi=>∃ t u v,h.get? a = some { cls:=.type "range",data:=.fields #[.int lo t,.int hi u,.int 1 v] }
 | .frz o u=>h.get? a = some o/\fJ H h a u
 | .tbl ps=>h.get? a = some { cls:=.none,data:=.fields ps }
 | .met f x=>h.get? a = some (PySem.W.methodObj (.ref f) (.ref x))
 | .ext φ=>φ h/\(∃ o,h.get? a = some o)/\∀ h1 h2:Heap,φ h1->(∀ o,h1.get? a = some o->h2.get? a = some o)->φ h2
noncomputable def HOk (H:Hp) (h:Heap):Prop:=∀ a o,H a = some o->fJ P w H h a o
end
section
variable {P:Program} {w:World} {H H':Hp} {h h':Heap} {a:Addr} {o:HO}
theorem fJ.lt (x:fJ P w H h a o):a < h.objs.size:=by
 cases o with
 | lst xs=>obtain ⟨_,_,_,_,e⟩:=x;exact ar e
 | tup xs=>obtain ⟨_,_,_,p⟩:=x;exact p.lt
 | dK kvs=>obtain ⟨_,_,_,_,o,_,_,e,_⟩:=x;exact ar e
 | dT kvs=>obtain ⟨_,_,_,_,o,_,_,e,_⟩:=x;exact ar e
 | set S n=>obtain ⟨o,_,_,_,e,_⟩:=x;exact ar e
 | ins C dx fs=>obtain ⟨_,_,_,e,_⟩:=x;exact ar e
 | own y=>obtain ⟨_,e⟩:=x;exact ar e
 | xd fs=>obtain ⟨_,⟨_,_,_,e,_⟩,_⟩:=x;exact ar e
 | rng lo hi=>obtain ⟨_,_,_,e⟩:=x;exact ar e
 | frz ob u=>obtain ⟨e,_⟩:=x;exact ar e
 | tbl ps=>exact ar (show h.get? a = some _ from x)
 | met f y=>exact ar (show h.get? a = some _ from x)
 | ext φ=>obtain ⟨_,⟨_,e⟩,_⟩:=x;exact ar e
theorem Paired.mapP {α β:Type} {F G:α->β->Prop}:∀ {l₁:List α} {l₂:List β},Paired F l₁ l₂->(∀ a b,F a b->G a b)->Paired G l₁ l₂
 | _,_,.nil,_=>.nil
 | _,_,.cons r t,f=>.cons (f _ _ r) (Paired.mapP t f)
theorem fJ.stay (x:fJ P w H h a o) (k:∀ b u,(b = a\/H b = some (.own a))->h.get? b = some u->h'.get? b = some u)
 (ho:∀ b,H b = some (.own a)->H' b = some (.own a)) (ht:∀ b xs,H b = some (.tup xs)->H' b = some (.tup xs)):fJ P w H' h' a o:=by
 induction o with
 | lst xs=>obtain ⟨z,its,n,r,e⟩:=x;exact ⟨z,its,n,r,k _ _ (.inl rfl) e⟩
 | tup xs=>obtain ⟨z,its,r,ob,e,c⟩:=x;exact ⟨z,its,r,ob,k _ _ (.inl rfl) e,c⟩
 | dK kvs=>obtain ⟨z,y,vs,r,ob,es,ep,e,c⟩:=x;exact ⟨z,y,vs,r,ob,es,ep,k _ _ (.inl rfl) e,c⟩
 | dT kvs =>
   obtain ⟨z,y,xs,r,ob,es,ep,e,c⟩:=x
   exact ⟨z,y,xs,Paired.mapP r fun p q z=>⟨z.1,ht _ _ z.2.1,z.2.2⟩,ob,es,ep,k _ _ (.inl rfl) e,c⟩
 | set S n=>obtain ⟨ob,es,ep,t,e,c⟩:=x;exact ⟨ob,es,ep,t,k _ _ (.inl rfl) e,c⟩
 | ins C dx fs =>
   obtain ⟨d,z,ne,e,mA,⟨od,es,ep,e2,c⟩,r⟩:=x
   exact ⟨ho _ d,z,ne,k _ _ (.inl rfl) e,mA,⟨od,es,ep,k _ _ (.inr d) e2,c⟩,r⟩
 | own y=>obtain ⟨ob,e⟩:=x;exact ⟨ob,k _ _ (.inl rfl) e⟩
 | xd fs=>obtain ⟨mA,⟨od,es,ep,e,c⟩,r⟩:=x;exact ⟨mA,⟨od,es,ep,k _ _ (.inl rfl) e,c⟩,r⟩
 | rng lo hi=>obtain ⟨t,u,v,e⟩:=x;exact ⟨t,u,v,k _ _ (.inl rfl) e⟩
 | frz ob u ih=>obtain ⟨e,q⟩:=x;exact ⟨k _ _ (.inl rfl) e,ih q⟩
 | tbl ps =>
   have e:h.get? a = some { cls:=.none,data:=.fields ps }:=x;show h'.get? a = some { cls:=.none,data:=.fields ps }
   exact k a _ (.inl rfl) e
 | met f y =>
   have e:h.get? a = some (PySem.W.methodObj (.ref f) (.ref y)):=x;show h'.get? a = some (PySem.W.methodObj (.ref f) (.ref y))
   exact k a _ (.inl rfl) e
 | ext φ=>obtain ⟨p,⟨o,e⟩,st⟩:=x;exact ⟨st _ _ p fun o q=>k _ _ (.inl rfl) q,⟨o,k _ _ (.inl rfl) e⟩,st⟩
theorem HOk.lt (x:HOk P w H h) (e:H a = some o):a < h.objs.size:=(x a o e).lt
theorem HOk.fresh (x:HOk P w H h) (e:h.objs.size<=a):H a = none:=by
 cases q:H a with
 | none=>rfl
 | some u=>exact absurd (aK (x.lt q) e) (bU _)
theorem HOk.kept (x:HOk P w H h) (k:∀ b u,h.get? b = some u->h'.get? b = some u):HOk P w H h':=fun a o e =>
 (x a o e).stay (fun b u _ q=>k b u q) (fun _ q=>q) fun _ _ q=>q
theorem HOk.laid (x:HOk P w H h) (k:∀ b u,h.get? b = some u->h'.get? b = some u) (hp:h.objs.size<=a) (new:fJ P w (upd H a o) h' a o):HOk P w (upd H a o) h':=fun b u e=>by
 have hn:=x.fresh hp;by_cases hb:b = a
 . subst hb;rw [cg] at e;cases e;exact new
 . rw [bw hb] at e;exact (x b u e).stay (fun c v _ q=>k c v q) (fun c q=>by rw [bw (fN q hn)];exact q) fun c xs q=>by rw [bw (fN q hn)];exact q
end
noncomputable def Rd (H:Hp) (a:Addr) (u:HO):Prop:=H a = some u\/∃ o,H a = some (.frz o u)
theorem Rd.ok {P:Program} {w:World} {H:Hp} {h:Heap} {a:Addr} {u:HO} (r:Rd H a u) (x:HOk P w H h):fJ P w H h a u:=by
 rcases r with r | ⟨o,r⟩
 . exact x a u r
 . obtain ⟨_,q⟩:=x a _ r;exact q
noncomputable def Mut:Option HO->Prop
 | some (.lst _)=>True
 | some (.dK _)=>True
 | some (.dT _)=>True
 | some (.set _ _)=>True
 | some (.ins _ _ _)=>True
 | some (.ext _)=>True
 | _=>False
section
variable {P:Program} {w:World} {H:Hp} {h h':Heap} {x e:Addr} {o':HO}
theorem HOk.write (ok:HOk P w H h) (mu:Mut (H x)) (he:e = x\/H e = some (.own x)) (k:∀ b u,b≠e->h.get? b = some u->h'.get? b = some u) (heo:∃ u,h'.get? e = some u)
 (new:fJ P w (upd H x o') h' x o'):HOk P w (upd H x o') h':=fun b u q=>by
 have nown:∀ c y,H c = some (.own y)->c≠x:=fun c y r z=>by subst z;rw [r] at mu;exact mu
 have ntup:∀ c xs,H c = some (.tup xs)->c≠x:=fun c xs r z=>by subst z;rw [r] at mu;exact mu
 by_cases hb:b = x
 . subst hb;rw [cg] at q;cases q;exact new
 . rw [bw hb] at q;by_cases hbe:b = e
   . have q':H b = some (.own x):=by
      rcases he with z | z
      . exact absurd (hbe.trans z) hb
      . rw [hbe];exact z
     rw [q] at q';cases q';obtain ⟨v,hv⟩:=heo;exact ⟨v,by rw [hbe];exact hv⟩
   . refine (ok b u q).stay (fun c v hc r=>k c v ?_ r) (fun c r=>by rw [bw (nown c b r)];exact r) fun c xs r=>by rw [bw (ntup c xs r)];exact r
     rcases hc with rfl | hc
     . exact hbe
     . rintro rfl;rcases he with z | z
       . exact nown c b hc z
       . rw [hc] at z;cases z;exact hb rfl
end
structure Un (fs ex:List Addr) (H H':Hp) (h h':Heap):Prop where
 keep:∀ b o,h.get? b = some o->H b = none->b∉fs->b∉ex->h'.get? b = some o
 slot:∀ b o,h.get? b = some o->H b = none->b∈fs->b∉ex->∃ sl,h'.get? b = some { o with slots:=sl }
 free:∀ b o,h.get? b = some o->H b = none->b∉ex->H' b = none
 there:∀ b o,h.get? b = some o->b∉ex->∃ o',h'.get? b = some o'
 tups:∀ b xs,H b = some (.tup xs)->H' b = some (.tup xs)
 frzs:∀ b o u,H b = some (.frz o u)->H' b = some (.frz o u)
 tbls:∀ b ps,H b = some (.tbl ps)->∃ more,H' b = some (.tbl (ps++more))
section
variable {fs fs' ex ex':List Addr} {H H1 H2:Hp} {h h1 h2 h':Heap} {a x e:Addr} {o:HO}
theorem Un.any (u:Un fs ex H H1 h h1) {b:Addr} {ob:Obj} (q:h.get? b = some ob) (n:H b = none) (hx:b∉ex):∃ sl,h1.get? b = some { ob with slots:=sl }:=by
 by_cases hb:b∈fs
 . exact u.slot b ob q n hb hx
 . exact ⟨ob.slots,u.keep b ob q n hb hx⟩
theorem Un.kept (k:∀ b u,h.get? b = some u->h'.get? b = some u):Un fs ex H H h h' :=
 ⟨fun b ob q _ _ _=>k b ob q,fun b ob q _ _ _=>⟨ob.slots,k b ob q⟩,fun _ _ _ n _=>n,fun b ob q _=>⟨ob,k b ob q⟩,fun _ _ q=>q,fun _ _ _ q=>q,fun _ ps q=>⟨#[],by rw [q];simp⟩⟩
theorem Un.refl:Un fs ex H H h h:=Un.kept fun _ _ q=>q
theorem Un.laid (k:∀ b u,h.get? b = some u->h'.get? b = some u) (hp:h.objs.size<=a) (hn:H a = none):Un fs ex H (upd H a o) h h' where
 keep:=fun b u q _ _ _=>k b u q
 slot:=fun b u q _ _ _=>⟨u.slots,k b u q⟩
 free:=fun b u q n _=>by rw [bw (aC (aK (ar q) hp))];exact n
 there:=fun b u q _=>⟨u,k b u q⟩
 tups:=fun b xs q=>by rw [bw (fN q hn)];exact q
 frzs:=fun b u xs q=>by rw [bw (fN q hn)];exact q
 tbls:=fun b ps q=>⟨#[],by rw [bw (fN q hn),q];simp⟩
theorem Un.write (mu:Mut (H x)) (he:e = x\/H e = some (.own x)) (k:∀ b u,b≠e->h.get? b = some u->h'.get? b = some u) (heo:∃ u,h'.get? e = some u):Un fs ex H (upd H x o) h h':=by
 have hx:∀ b,H b = none->b≠x:=fun b n z=>by subst z;rw [n] at mu;exact mu
 have hb:∀ b,H b = none->b≠e:=fun b n z=>by
  subst z;rcases he with r | r
  . exact hx b n r
  . rw [n] at r;cases r
 have hm:∀ b u,H b = some u->¬ Mut (some u)->b≠x:=fun b u q nm z=>by subst z;rw [q] at mu;exact nm mu
 refine ⟨fun b u q n _ _=>k b u (hb b n) q,fun b u q n _ _=>⟨u.slots,k b u (hb b n) q⟩,fun b u q n _=>by rw [bw (hx b n)];exact n,fun b u q _=>?_,
  fun b xs q=>by rw [bw (hm b _ q fun z=>z)];exact q,fun b u xs q=>by rw [bw (hm b _ q fun z=>z)];exact q,fun b ps q=>⟨#[],by rw [bw (hm b _ q fun z=>z),q];simp⟩⟩
 by_cases hbe:b = e
 . subst hbe;exact heo
 . exact ⟨u,k b u hbe q⟩
end
noncomputable def trk (h:Heap) (H:Hp):List Addr:=(List.range h.objs.size).filter fun a=>(H a).isSome
noncomputable def pP (h:Heap) (H:Hp):Heap:=PySem.W.hideAll h (trk h H)
theorem AA (h:Heap) (H:Hp):(pP h H).objs.size = h.objs.size:=PySem.W.hideAll_size _ _
theorem EJ {h:Heap} {H:Hp} {b:Addr} {o:Obj} (e:h.get? b = some o) (n:H b = none):(pP h H).get? b = some o :=
 PySem.W.hideAll_get _ e fun hm=>by
  have q:(H b).isSome = true:=(pF.mp hm).2;rw [n] at q;simp at q
theorem HZ {h:Heap} {H:Hp} {b:Addr} {o:Obj} (e:(pP h H).get? b = some o):h.get? b = some o/\H b = none:=by
 have e':h.get? b = some o:=PySem.W.of_hideAll (trk h H) e;refine ⟨e',?_⟩
 cases q:H b with
 | none=>rfl
 | some x =>
   have hm:b∈trk h H:=pF.mpr ⟨fK.mpr (ar e'),by simp [q]⟩;have z:(pP h H).get? b = none:=PySem.W.hideAll_none (trk h H) hm;rw [z] at e;cases e
end L2
namespace L2
open PySem PySem.Spec PyProof.Rows
structure Mod (K:PySem.W.Frag) (mg:Str->Option Value) (base:Heap):Prop where
 kin:K.In base
 glob:base.Ns mainGlobals mg
 blt:∃ mb,base.Ns builtinsNs mb/\∀ x:Str,x≠"__name__"->mb x = bootBuiltins x
 nolimit:base.NoLimit
structure Cx where
 prog:Program
 w:World
 K:PySem.W.Frag
 mg:Str->Option Value
 base:Heap
 A:Around
 N:List Str
 s₀:Shared
 H₀:Hp
 env:Env
 outer:List Env
 stack:List Env
 ex:List Addr
 fn:Str->Bool
 calm:Bool
 pn:List (Addr × Obj)
 xe:Value->Shared->Prop
noncomputable def frs (l:List Env):List Addr:=l.filterMap (·.frame)
noncomputable abbrev Cx.fs (X:Cx):List Addr:=frs X.outer
noncomputable def Vis (sc:Scope) (x:Str):Prop:=sc.names.lookup x = some .local\/sc.names.lookup x = some .cell\/sc.names.lookup x = some .free
noncomputable def Loc (sc:Scope) (x:Str):Prop:=sc.names.lookup x = some .local\/sc.names.lookup x = some .cell
noncomputable def Look (env:Env) (h:Heap) (m:Str->Option Value) (x:Str) (u:Value):Prop :=
 (env.kindOf x = some .local/\m x = some u)\/((env.kindOf x = some .cell\/env.kindOf x = some .free)/\∃ c,env.cells.lookup x = some c/\h.IsCell c (some u))
structure Cx.Ok (X:Cx):Prop where
 mod:Mod X.K X.mg X.base
 kind:X.env.scope.kind = .function
 glob:X.env.globals = mainGlobals
 blt:X.env.builtins = builtinsNs
 above:X.s₀.heap.objs.size<=X.env.locals
 inj:∀ x y c,X.env.cells.lookup x = some c->X.env.cells.lookup y = some c->x = y
 has:∀ x,(X.env.kindOf x = some .cell\/X.env.kindOf x = some .free)->∃ c,X.env.cells.lookup x = some c
 cab:∀ x c,X.fn x = true->X.env.cells.lookup x = some c->X.s₀.heap.objs.size<=c
 hd:X.calm = true->X.A.handled = none
 frames:X.A.frames = some X.stack
 stk:X.stack = X.outer\/(X.stack = X.env::X.outer/\X.env.frame = some X.env.locals)
 exf:∀ b∈X.ex,b≠X.env.locals/\∀ x c,X.env.cells.lookup x = some c->c≠b
 bs:∀ b o,X.base.get? b = some o->X.s₀.heap.get? b = some o/\X.H₀ b = none
 bsz:X.base.objs.size<=X.s₀.heap.objs.size
 noex:∀ b o,X.base.get? b = some o->b∉X.ex
 exfs:∀ b∈X.ex,b∉X.fs
 funs:X.s₀.heap.FunFrames X.base X.outer
 frf:∀ b∈X.fs,X.H₀ b = none
structure Inv (X:Cx) (pins:List (Addr × Obj)) (σ:List (Option V)) (H:Hp) (s:Shared):Prop where
 ok:X.Ok
 os:s.os = X.s₀.os
 bare:AllBare s.gens
 base:Un X.fs X.ex X.H₀ H X.s₀.heap s.heap
 loc:∃ m,s.heap.Ns X.env.locals m/\∀ (i:Nat) (x:Str) (v:V),X.N[i]? = some x->σ[i]? = some (some v)->Vis X.env.scope x->∃ u,RelV v u/\Look X.env s.heap m x u
 cell:∀ x c,X.env.cells.lookup x = some c->∃ v,s.heap.IsCell c v
 free:H X.env.locals = none
 freeC:∀ x c,X.env.cells.lookup x = some c->H c = none
 pin:∀ p∈X.pn++pins,s.heap.get? p.1 = some p.2/\H p.1 = none/\p.1≠X.env.locals/\p.1∉X.fs/\∀ v,p.2.data≠.cell v
 hok:HOk X.prog X.w H s.heap
 len:σ.length = X.N.length
section
variable {X:Cx} {pins:List (Addr × Obj)} {σ:List (Option V)} {H H':Hp} {s:Shared} {h':Heap}
theorem Cx.Ok.nofr (ok:X.Ok) {b:Addr} {o:Obj} (e:X.base.get? b = some o):b∉X.fs:=fun hb=>by
 have:=(ok.funs.mem hb).1;rw [e] at this;cases this
theorem Inv.bs (I:Inv X pins σ H s):∀ b o,X.base.get? b = some o->s.heap.get? b = some o/\H b = none:=fun b o e =>
 ⟨I.base.keep b o (I.ok.bs b o e).1 (I.ok.bs b o e).2 (I.ok.nofr e) (I.ok.noex b o e),I.base.free b o (I.ok.bs b o e).1 (I.ok.bs b o e).2 (I.ok.noex b o e)⟩
theorem Inv.bk (I:Inv X pins σ H s):∀ b o,X.base.get? b = some o->s.heap.get? b = some o:=fun b o e=>(I.bs b o e).1
theorem Inv.mod (I:Inv X pins σ H s):Mod X.K X.mg X.base:=I.ok.mod
theorem Inv.kIn (I:Inv X pins σ H s):X.K.In s.heap:=I.ok.mod.kin.keeps I.bk
theorem Inv.lt (I:Inv X pins σ H s):X.env.locals < s.heap.objs.size:=let ⟨_,hn,_⟩:=I.loc;hn.lt
theorem Inv.sz (I:Inv X pins σ H s):X.s₀.heap.objs.size<=s.heap.objs.size:=aY I.ok.above (mE I.lt)
theorem Inv.nofs (I:Inv X pins σ H s) {a:Addr} (h:s.heap.objs.size<=a):a∉X.fs:=fun hb=>by
 obtain ⟨_,o,ho,_⟩:=I.ok.funs.mem hb;exact absurd (aK (ar ho) (aY I.sz h)) (bU _)
theorem Inv.cne (I:Inv X pins σ H s):∀ x c,X.env.cells.lookup x = some c->c≠X.env.locals:=fun x c e z=>by
 obtain ⟨v,o,ho,hd⟩:=I.cell x c e;obtain ⟨m,⟨o',es,ep,ho',hd',_⟩,_⟩:=I.loc;rw [z,ho'] at ho;cases ho;rw [hd'] at hd;cases hd
theorem Inv.funs (I:Inv X pins σ H s):s.heap.FunFrames X.base X.outer:=by
 have all:∀ (l:List Env),(∀ b∈frs l,b∈X.fs)->X.s₀.heap.FunFrames X.base l->s.heap.FunFrames X.base l:=by
  intro l
  induction l with
  | nil=>intro _ _;trivial
  | cons env r ih =>
    intro hs hl;obtain ⟨hk,⟨L,o,hf,hn,ho,hd⟩,hr⟩:=hl;have hL:L∈X.fs:=hs L (by unfold frs;rw [cK,hf];exact ao);obtain ⟨sl,e⟩:=I.base.slot L o ho (I.ok.frf L hL) hL fun z=>I.ok.exfs L z hL;exact ⟨hk,⟨L,_,hf,hn,e,hd⟩,ih (fun b hb=>hs b (by unfold frs;rw [cK,hf];exact ak _ hb)) hr⟩
 exact all X.outer (fun _ hb=>hb) I.ok.funs
theorem Inv.stack (I:Inv X pins σ H s):s.heap.FunFrames X.base X.stack:=by
 rcases I.ok.stk with e | ⟨e,hf⟩
 . rw [e];exact I.funs
 . rw [e];obtain ⟨m,hn,_⟩:=I.loc;refine .cons (by rw [I.ok.kind];decide) hf hn ?_ I.funs;exact zi (aY I.ok.bsz I.ok.above)
theorem Inv.stkSub (I:Inv X pins σ H s):∀ b∈frs X.stack,b∈X.env.locals::X.fs:=fun b hb=>by
 rcases I.ok.stk with e | ⟨e,hf⟩
 . rw [e] at hb;exact ak _ hb
 . rw [e] at hb;unfold frs at hb;rw [cK,hf] at hb;exact hb
theorem Inv.stkFree (I:Inv X pins σ H s):∀ b∈frs X.stack,H b = none:=fun b hb=>by
 rcases aD.mp (I.stkSub b hb) with e | hb
 . rw [e];exact I.free
 . obtain ⟨_,o,ho,_⟩:=I.ok.funs.mem hb;exact I.base.free b o ho (I.ok.frf b hb) fun z=>I.ok.exfs b z hb
theorem Inv.step {g':Array GenState} {t':Nat} {d':Drawn} {ch:List Addr} (I:Inv X pins σ H s)
 (hch:∀ b∈ch,(b∈X.ex\/X.s₀.heap.objs.size<=b)/\b≠X.env.locals/\(∀ x c,X.env.cells.lookup x = some c->c≠b)/\∀ p∈X.pn++pins,p.1≠b)
 (keep:∀ b o,b≠X.env.locals->b∉X.fs->b∉ch->s.heap.get? b = some o->H b = none->h'.get? b = some o)
 (slot:∀ b o,b≠X.env.locals->b∈X.fs->b∉ch->s.heap.get? b = some o->H b = none->∃ sl,h'.get? b = some { o with slots:=sl }) (free:∀ b o,b∉ch->s.heap.get? b = some o->H b = none->H' b = none)
 (there:∀ b o,b∉ch->s.heap.get? b = some o->∃ o',h'.get? b = some o')
 (tups:∀ b xs,H b = some (.tup xs)->H' b = some (.tup xs)) (frzs:∀ b o u,H b = some (.frz o u)->H' b = some (.frz o u)) (tbls:∀ b ps,H b = some (.tbl ps)->∃ more,H' b = some (.tbl (ps++more)))
 (ns:∀ m,s.heap.Ns X.env.locals m->h'.Ns X.env.locals m) (hok:HOk X.prog X.w H' h') (hg:AllBare g') :
 Inv X pins σ H' { s with heap:=h',gens:=g',drawn:=d',toks:=t' }:=by
 have neL:∀ b o,X.s₀.heap.get? b = some o->b≠X.env.locals:=fun b o e=>aC (aK (ar e) I.ok.above)
 have neC:∀ b o,X.s₀.heap.get? b = some o->b∉X.ex->b∉ch:=fun b o e hx hb=>by
  rcases (hch b hb).1 with z | z
  . exact hx z
  . exact absurd (aK (ar e) z) (bU _)
 have cellK:∀ x c,X.env.cells.lookup x = some c->∀ v,s.heap.IsCell c v->h'.IsCell c v:=fun x c e v zz=>by
  obtain ⟨o,ho,hd⟩:=zz;have nch:c∉ch:=fun z=>(hch c z).2.2.1 x c e rfl;by_cases hc:c∈X.fs
  . obtain ⟨sl,q⟩:=slot c o (I.cne x c e) hc nch ho (I.freeC x c e);exact ⟨_,q,hd⟩
  . exact ⟨o,keep c o (I.cne x c e) hc nch ho (I.freeC x c e),hd⟩
 refine ⟨I.ok,I.os,hg,⟨fun b o e n hb hx=>?_,fun b o e n hb hx=>?_,fun b o e n hx=>?_,fun b o e hx=>?_,fun b xs e=>tups b xs (I.base.tups b xs e),fun b o xs e=>frzs b o xs (I.base.frzs b o xs e),fun b ps e=>?_⟩,?_,fun x c e=>?_,?_,fun x c e=>?_,fun p hp=>?_,hok,I.len⟩
 . exact keep b o (neL b o e) hb (neC b o e hx) (I.base.keep b o e n hb hx) (I.base.free b o e n hx)
 . obtain ⟨sl,e1⟩:=I.base.slot b o e n hb hx;obtain ⟨sl',e2⟩:=slot b _ (neL b o e) hb (neC b o e hx) e1 (I.base.free b o e n hx);exact ⟨sl',e2⟩
 . obtain ⟨o',e1⟩:=I.base.there b o e hx;exact free b o' (neC b o e hx) e1 (I.base.free b o e n hx)
 . obtain ⟨o',e1⟩:=I.base.there b o e hx;exact there b o' (neC b o e hx) e1
 . obtain ⟨m1,e1⟩:=I.base.tbls b ps e;obtain ⟨m2,e2⟩:=tbls b _ e1;exact ⟨m1++m2,by rw [e2,Array.append_assoc]⟩
 . obtain ⟨m,hn,hl⟩:=I.loc;refine ⟨m,ns m hn,fun i x v e1 e2 e3=>?_⟩;obtain ⟨u,r,l⟩:=hl i x v e1 e2 e3;refine ⟨u,r,?_⟩;rcases l with l | ⟨k,c,e,z⟩
   . exact .inl l
   . exact .inr ⟨k,c,e,cellK x c e _ z⟩
 . obtain ⟨v,z⟩:=I.cell x c e;exact ⟨v,cellK x c e v z⟩
 . obtain ⟨m,⟨o,_,_,ho,_⟩,_⟩:=I.loc;exact free _ o (fun z=>(hch _ z).2.1 rfl) ho I.free
 . obtain ⟨v,o,ho,hd⟩:=I.cell x c e;exact free c o (fun z=>(hch c z).2.2.1 x c e rfl) ho (I.freeC x c e)
 . obtain ⟨e,n,ne,nf,d⟩:=I.pin p hp;have nch:p.1∉ch:=fun z=>(hch p.1 z).2.2.2 p hp rfl;exact ⟨keep p.1 p.2 ne nf nch e n,free p.1 p.2 nch e n,ne,nf,d⟩
theorem Inv.un {t':Nat} (I:Inv X pins σ H s) (u:Un X.fs [] H H' s.heap h') (hok:HOk X.prog X.w H' h'):Inv X pins σ H' { s with heap:=h',toks:=t' }:=by
 obtain ⟨m,⟨o,es,ep,ho,r⟩,_⟩:=id I.loc;obtain ⟨sl,hL⟩:=u.any ho I.free (by simp)
 exact I.step (g':=s.gens) (d':=s.drawn) (ch:=[]) (fun _ z=>nomatch z) (fun b o _ hb _ e n=>u.keep b o e n hb (by simp)) (fun b o _ hb _ e n=>u.slot b o e n hb (by simp)) (fun b o _ e n=>u.free b o e n (by simp)) (fun b o _ e=>u.there b o e (by simp)) u.tups u.frzs u.tbls (fun m' hm=>by
  obtain ⟨o',es',ep',ho',r'⟩:=hm;rw [ho] at ho';cases ho';exact ⟨_,es',ep',hL,r'⟩) hok I.bare
theorem Inv.call {g':Array GenState} {t':Nat} {d':Drawn} {ch:List Addr} (I:Inv X pins σ H s) (u:Un (frs X.stack) ch H H' s.heap h') (hok:HOk X.prog X.w H' h') (hg:AllBare g')
 (hch:∀ b∈ch,(b∈X.ex\/X.s₀.heap.objs.size<=b)/\b≠X.env.locals/\(∀ x c,X.env.cells.lookup x = some c->c≠b)/\∀ p∈X.pn++pins,p.1≠b) :
 Inv X pins σ H' { s with heap:=h',gens:=g',drawn:=d',toks:=t' }:=by
 obtain ⟨m,⟨o,es,ep,ho,r⟩,_⟩:=id I.loc;obtain ⟨sl,hL⟩:=u.any ho I.free fun z=>(hch _ z).2.1 rfl
 exact I.step (ch:=ch) hch (fun b o hL hb hc e n=>u.keep b o e n (fun z=>(aD.mp (I.stkSub b z)).elim hL hb) hc) (fun b o _ _ hc e n=>u.any e n hc) (fun b o hc e n=>u.free b o e n hc) (fun b o hc e=>u.there b o e hc) u.tups u.frzs u.tbls (fun m' hm=>by
  obtain ⟨o',es',ep',ho',r'⟩:=hm;rw [ho] at ho';cases ho';exact ⟨_,es',ep',hL,r'⟩) hok hg
theorem Inv.turned {t':Nat} {it:Addr} (I:Inv X pins σ H s) (k:∀ b o,b≠it->s.heap.get? b = some o->h'.get? b = some o) (hn:H it = none) (hL:it≠X.env.locals)
 (h1:it∈X.ex\/X.s₀.heap.objs.size<=it) (h2:∀ x c,X.env.cells.lookup x = some c->c≠it) (h3:∀ p∈X.pn++pins,p.1≠it):Inv X pins σ H { s with heap:=h',toks:=t' }:=by
 have nit:∀ b u,H b = some u->b≠it:=fun b u e z=>by rw [z,hn] at e;cases e
 refine I.step (g':=s.gens) (d':=s.drawn) (ch:=[it]) (fun b hb=>?_) (fun b o _ _ hc e _=>k b o (fun z=>hc (by simp [z])) e) (fun b o _ _ hc e _=>⟨o.slots,k b o (fun z=>hc (by simp [z])) e⟩) (fun _ _ _ _ n=>n)
  (fun b o hc e=>⟨o,k b o (fun z=>hc (by simp [z])) e⟩) (fun _ _ e=>e) (fun _ _ _ e=>e) (fun b ps e=>⟨#[],by rw [e];simp⟩) (fun m hm=>?_) (fun b u e=>?_) I.bare
 . have e:b = it:=by simpa using hb
   subst e;exact ⟨h1,hL,h2,h3⟩
 . obtain ⟨o,es,ep,ho,r⟩:=hm;exact ⟨o,es,ep,k _ o (Ne.symm hL) ho,r⟩
 . refine (I.hok b u e).stay (fun c v hc q=>k c v ?_ q) (fun _ q=>q) fun _ _ q=>q;rcases hc with z | z
   . rw [z];exact nit b u e
   . exact nit c _ z
theorem Inv.tok (I:Inv X pins σ H s) (t:Nat):Inv X pins σ H { s with toks:=t }:=I.un (h':=s.heap) (t':=t) Un.refl I.hok
theorem Inv.kept {t':Nat} (I:Inv X pins σ H s) (k:∀ b u,s.heap.get? b = some u->h'.get? b = some u):Inv X pins σ H { s with heap:=h',toks:=t' }:=I.un (Un.kept k) (I.hok.kept k)
theorem Inv.laid {a:Addr} {o:HO} {t':Nat} (I:Inv X pins σ H s) (k:∀ b u,s.heap.get? b = some u->h'.get? b = some u) (hp:s.heap.objs.size<=a) (new:fJ X.prog X.w (upd H a o) h' a o) :
 Inv X pins σ (upd H a o) { s with heap:=h',toks:=t' }:=I.un (Un.laid k hp (I.hok.fresh hp)) (I.hok.laid k hp new)
theorem Inv.write {x e:Addr} {o:HO} {t':Nat} (I:Inv X pins σ H s) (mu:Mut (H x)) (he:e = x\/H e = some (.own x)) (k:∀ b u,b≠e->s.heap.get? b = some u->h'.get? b = some u) (heo:∃ u,h'.get? e = some u)
 (new:fJ X.prog X.w (upd H x o) h' x o):Inv X pins σ (upd H x o) { s with heap:=h',toks:=t' }:=I.un (Un.write mu he k heo) (I.hok.write mu he k heo new)
theorem Inv.pins_of {pins':List (Addr × Obj)} (I:Inv X pins σ H s) (h:∀ p∈pins',s.heap.get? p.1 = some p.2/\H p.1 = none/\p.1≠X.env.locals/\p.1∉X.fs/\∀ v,p.2.data≠.cell v):Inv X pins' σ H s :=
 ⟨I.ok,I.os,I.bare,I.base,I.loc,I.cell,I.free,I.freeC,fun p hp=>(bI.mp hp).elim (fun z=>I.pin p (aU _ z)) (h p),I.hok,I.len⟩
theorem uK {N:List Str} (hN:N.Nodup) {i j:Nat} {x:Str} (a:N[i]? = some x) (b:N[j]? = some x):i = j:=by
 obtain ⟨h1,e1⟩:=aB.mp a;obtain ⟨h2,e2⟩:=aB.mp b;exact (List.getElem_inj hN).mp (e1.trans e2.symm)
theorem zX {M:Model} {A:Around} {E:Value->Shared->Prop} {i:Nat} {x:Str} {v:V} {u:Value} {Q:Unit->Shared->Prop} (I:Inv X pins σ H s) (hN:X.N.Nodup) (hi:X.N[i]? = some x) (hx:Loc X.env.scope x) (r:RelV v u)
 (h:∀ s',Inv X pins (σ.set i (some v)) H s'->(∃ a,Heap.SameBut a s.heap s'.heap/\(a = X.env.locals\/X.env.cells.lookup x = some a))->Q () s') (hf:X.fn x = true\/X.env.scope.names.lookup x = some .local:=by first | exact .inl rfl | exact .inr rfl | assumption):wpAny M A (storeName X.env x u) Q E s:=by
 obtain ⟨m,hn,hl⟩:=id I.loc;have hcls:(X.env.scope.kind == .class || (X.env.scope.kind == .module && X.env.locals != X.env.globals)) = false:=by rw [I.ok.kind];rfl
 have hiσ:i < σ.length:=by rw [I.len];exact (aB.mp hi).1
 have cne:=I.cne
 have tracked:∀ {a:Addr} {h':Heap},(∃ o,s.heap.get? a = some o/\H a = none)->Heap.SameBut a s.heap h'->HOk X.prog X.w H h':=fun {a h'} ha hs b ob e=>by
  obtain ⟨_,_,hfree⟩:=ha;refine (I.hok b ob e).stay (fun c w' hc q=>(hs.2 c ?_).trans q) (fun _ q=>q) fun _ _ q=>q;rintro rfl;rcases hc with rfl | hc
  . rw [hfree] at e;cases e
  . rw [hfree] at hc;cases hc
 rcases hx with hk | hk
 . refine wpAny_storeName_local hk hn (fun h' hn' hs=>?_) hcls;obtain ⟨oL,_,_,hoL,_⟩:=id hn;refine h _ ⟨I.ok,I.os,I.bare,⟨fun b o e n hb hx=>?_,fun b o e n hb hx=>?_,I.base.free,fun b o e hx=>?_,I.base.tups,I.base.frzs,I.base.tbls⟩,⟨_,hn',fun j y v' e1 e2 e3=>?_⟩,fun y c e=>?_,I.free,I.freeC,fun p hp=>?_,tracked ⟨oL,hoL,I.free⟩ hs,by simpa using I.len⟩ ⟨_,hs,.inl rfl⟩
   . exact (hs.2 b (aC (aK (ar e) I.ok.above))).trans (I.base.keep b o e n hb hx)
   . obtain ⟨sl,e1⟩:=I.base.slot b o e n hb hx;exact ⟨sl,(hs.2 b (aC (aK (ar e) I.ok.above))).trans e1⟩
   . obtain ⟨o',e1⟩:=I.base.there b o e hx;exact ⟨o',(hs.2 b (aC (aK (ar e) I.ok.above))).trans e1⟩
   . by_cases hj:j = i
     . subst hj;rw [hi] at e1;cases e1;rw [bX hiσ] at e2;cases e2;exact ⟨u,r,.inl ⟨hk,by simp⟩⟩
     . rw [aI (Ne.symm hj)] at e2;obtain ⟨u',r',q⟩:=hl j y v' e1 e2 e3;refine ⟨u',r',?_⟩;rcases q with ⟨k,e⟩ | ⟨k,c,e,z⟩
       . refine .inl ⟨k,?_⟩;have:y≠x:=fun e=>hj (uK hN e1 (e▸hi));simp [this,e]
       . exact .inr ⟨k,c,e,z.sameBut hs (cne y c e)⟩
   . obtain ⟨w',z⟩:=I.cell y c e;exact ⟨w',z.sameBut hs (cne y c e)⟩
   . obtain ⟨e,n,ne,nf,d⟩:=I.pin p hp;exact ⟨(hs.2 p.1 ne).trans e,n,ne,nf,d⟩
 . have hfn:X.fn x = true:=by
    rcases hf with z | z
    . exact z
    . rw [z] at hk;cases hk
   obtain ⟨c,hc⟩:=I.ok.has x (.inl hk);obtain ⟨w',z⟩:=I.cell x c hc;refine wpAny_storeName_cell I.ok.kind hk hc z (fun h' hc' hs=>?_);obtain ⟨oc,hoc,hocd⟩:=id z;refine h { s with heap:=h' } ⟨I.ok,I.os,I.bare,⟨fun b o e n hb hx=>?_,fun b o e n hb hx=>?_,I.base.free,fun b o e hx=>?_,I.base.tups,I.base.frzs,I.base.tbls⟩,⟨m,hn.sameBut hs (Ne.symm (cne x c hc)),fun j y v' e1 e2 e3=>?_⟩,fun y c' e=>?_,I.free,I.freeC,fun p hp=>?_,tracked ⟨oc,hoc,I.freeC x c hc⟩ hs,by simpa using I.len⟩ ⟨c,hs,.inr hc⟩
   . exact (hs.2 b (aC (aK (ar e) (I.ok.cab x c hfn hc)))).trans (I.base.keep b o e n hb hx)
   . obtain ⟨sl,e1⟩:=I.base.slot b o e n hb hx;exact ⟨sl,(hs.2 b (aC (aK (ar e) (I.ok.cab x c hfn hc)))).trans e1⟩
   . obtain ⟨o',e1⟩:=I.base.there b o e hx;exact ⟨o',(hs.2 b (aC (aK (ar e) (I.ok.cab x c hfn hc)))).trans e1⟩
   . by_cases hj:j = i
     . subst hj;rw [hi] at e1;cases e1;rw [bX hiσ] at e2;cases e2;exact ⟨u,r,.inr ⟨.inl hk,c,hc,hc'⟩⟩
     . rw [aI (Ne.symm hj)] at e2;obtain ⟨u',r',q⟩:=hl j y v' e1 e2 e3;refine ⟨u',r',?_⟩;rcases q with q | ⟨k,c',e,z'⟩
       . exact .inl q
       . refine .inr ⟨k,c',e,z'.sameBut hs ?_⟩;rintro rfl;exact hj (uK hN e1 (I.ok.inj _ _ _ e hc▸hi))
   . by_cases hcc:c' = c
     . subst hcc;exact ⟨_,hc'⟩
     . obtain ⟨w2,z2⟩:=I.cell y c' e;exact ⟨w2,z2.sameBut hs hcc⟩
   . obtain ⟨e,n,ne,nf,d⟩:=I.pin p hp;refine ⟨(hs.2 p.1 ?_).trans e,n,ne,nf,d⟩;intro q;rw [q,hoc] at e;have q':oc = p.2:=aM e;exact d w' (by rw [<- q'];exact hocd)
theorem gA {M:Model} {A:Around} {E:Value->Shared->Prop} {i:Nat} {x:Str} {v:V} {u:Value} {Q:Unit->Shared->Prop} (I:Inv X pins σ H s) (hN:X.N.Nodup) (hi:X.N[i]? = some x) (hx:Loc X.env.scope x) (r:RelV v u)
 (h:∀ s',Inv X pins (σ.set i (some v)) H s'->Q () s') (hf:X.fn x = true\/X.env.scope.names.lookup x = some .local:=by first | exact .inl rfl | exact .inr rfl | assumption):wpAny M A (storeName X.env x u) Q E s :=
 zX I hN hi hx r (fun s' I' _=>h s' I') hf
theorem Inv.call' {s':Shared} {ch:List Addr} (I:Inv X pins σ H s) (ho:s'.os = s.os) (u:Un (frs X.stack) ch H H' s.heap s'.heap) (hok:HOk X.prog X.w H' s'.heap) (hg:AllBare s'.gens)
 (hch:∀ b∈ch,(b∈X.ex\/X.s₀.heap.objs.size<=b)/\b≠X.env.locals/\(∀ x c,X.env.cells.lookup x = some c->c≠b)/\∀ p∈X.pn++pins,p.1≠b):Inv X pins σ H' s':=by
 obtain ⟨h',g',d',t',o'⟩:=s';have e:o' = s.os:=ho;subst e;exact I.call (g':=g') (t':=t') (d':=d') u hok hg hch
end
abbrev XK:=Value->Option Addr->Hp->Prop
abbrev St:=List (Option V)
abbrev VK:=V->Hp->Prop
abbrev TE:=St->Hp->VK->Prop
abbrev TT:=St->Hp->(Bool->Hp->Prop)->Prop
abbrev TA:=St->Hp->(List V->Hp->Prop)->Prop
structure Ends where
 nx:St->Hp->Prop
 rt:VK
 bk:St->Hp->Prop:=fun _ _=>False
 ct:St->Hp->Prop:=fun _ _=>False
abbrev TS:=Ends->St->Hp->Prop
noncomputable def EP (X:Cx) (pins:List (Addr × Obj)) (σ:St) (Q:VK) (u:Value) (s':Shared):Prop:=∃ v H',Inv X pins σ H' s'/\RelV v u/\Q v H'
noncomputable def TP (X:Cx) (pins:List (Addr × Obj)) (σ:St) (Q:Bool->Hp->Prop) (b:Bool) (s':Shared):Prop:=∃ H',Inv X pins σ H' s'/\Q b H'
noncomputable def AP (X:Cx) (pins:List (Addr × Obj)) (σ:St) (Q:List V->Hp->Prop) (us:List Value) (s':Shared):Prop:=∃ vs H',Inv X pins σ H' s'/\Vals vs us/\Q vs H'
noncomputable def SP (X:Cx) (pins:List (Addr × Obj)) (D:Ends) (f:Flow) (s':Shared):Prop :=
 match f with
 | .next=>∃ σ' H',Inv X pins σ' H' s'/\D.nx σ' H'
 | .brk=>∃ σ' H',Inv X pins σ' H' s'/\D.bk σ' H'
 | .cont=>∃ σ' H',Inv X pins σ' H' s'/\D.ct σ' H'
 | .ret u=>∃ v σ' H',Inv X pins σ' H' s'/\RelV v u/\D.rt v H'
noncomputable def PE (X:Cx) (e:Expr) (t:TE):Prop :=
 ∀ (pins:List (Addr × Obj)) (s:Shared) (σ:St) (H:Hp) (Q:VK),Inv X pins σ H s->t σ H Q->wpAny (model X.prog X.w) X.A (eval e X.env) (EP X pins σ Q) X.xe s
noncomputable def PT (X:Cx) (e:Expr) (t:TT):Prop :=
 ∀ (pins:List (Addr × Obj)) (s:Shared) (σ:St) (H:Hp) (Q:Bool->Hp->Prop),Inv X pins σ H s->t σ H Q->wpAny (model X.prog X.w) X.A (isTrue e X.env (eval e X.env)) (TP X pins σ Q) X.xe s
noncomputable def PW (X:Cx) (e:Expr) (t:TT):Prop :=
 ∀ (whole:Sem Value) (pins:List (Addr × Obj)) (s:Shared) (σ:St) (H:Hp) (Q:Bool->Hp->Prop),Inv X pins σ H s->t σ H Q->wpAny (model X.prog X.w) X.A (isTrue e X.env whole) (TP X pins σ Q) X.xe s
theorem PW.pt {X:Cx} {e:Expr} {t:TT} (h:PW X e t):PT X e t:=h _
noncomputable def PA (X:Cx) (es:List Expr) (t:TA):Prop :=
 ∀ (pos:Pos) (pins:List (Addr × Obj)) (s:Shared) (σ:St) (H:Hp) (Q:List V->Hp->Prop),Inv X pins σ H s->t σ H Q->wpAny (model X.prog X.w) X.A (spliced (backTo pos (starEach es X.env))) (AP X pins σ Q) X.xe s
noncomputable def PS (X:Cx) (st:Stmt) (t:TS):Prop :=
 ∀ (pins:List (Addr × Obj)) (s:Shared) (σ:St) (H:Hp) (D:Ends),Inv X pins σ H s->t D σ H->wpAny (model X.prog X.w) X.A (exec st X.env) (SP X pins D) X.xe s
noncomputable def PSs (X:Cx) (st:List Stmt) (t:TS):Prop :=
 ∀ (pins:List (Addr × Obj)) (s:Shared) (σ:St) (H:Hp) (D:Ends),Inv X pins σ H s->t D σ H->wpAny (model X.prog X.w) X.A (execs st X.env) (SP X pins D) X.xe s
theorem thn {α:Type} {t:Sem α} {Q Q':α->Shared->Prop} {M:Model} {A:Around} {E:Value->Shared->Prop} {s:Shared} (h:wpAny M A t Q E s) (hQ:∀ a s,Q a s->Q' a s):wpAny M A t Q' E s:=cN h hQ fun _ _ x=>x
end L2
namespace L2
open PySem PySem.Spec PyProof.Rows
section
variable {X:Cx}
noncomputable def vX (i:Nat):TE:=fun σ H Q=>∃ v,σ[i]? = some (some v)/\Q v H
noncomputable def tC (v:V):TE:=fun _ H Q=>Q v H
theorem jj {i:Nat} {x:Str} {pos:Pos} (hN:X.N[i]? = some x) (hv:Vis X.env.scope x) (hd:(x == ("__debug__":Str)) = false:=by decide) (hcd:(x == ("__classdict__":Str)) = false:=by decide):PE X (.Name x pos) (vX i):=by
 intro pins s σ H Q I h;obtain ⟨v,e,h⟩:=h;obtain ⟨m,hn,hl⟩:=I.loc;obtain ⟨u,r,l⟩:=hl i x v hN e hv;have fin:EP X pins σ Q u s:=⟨v,H,I,r,h⟩;rcases l with ⟨hk,hm⟩ | ⟨hk,c,hc,hcell⟩
 . exact MH (IY I.ok.kind hk hn hm fin) hd
 . rcases hk with hk | hk
   . exact MH (JF I.ok.kind hk hc hcell fin) hd
   . exact MH (wpAny_loadName_free I.ok.kind hk hc hcell fin hcd) hd
theorem DI {i j pos}:PE X (.Constant (.int i) j pos) (tC (.int i)):=fun _ _ _ H _ I h=>wpAny_Constant_int ⟨.int i,H,I.tok _,⟨_,rfl⟩,h⟩
theorem Jn {b j pos}:PE X (.Constant (.bool b) j pos) (tC (.bl b)):=fun _ _ _ H _ I h=>Constant_bool ⟨.bl b,H,I,rfl,h⟩
theorem Li {j pos}:PE X (.Constant .none j pos) (tC .non):=fun _ _ _ H _ I h=>Constant_none ⟨.non,H,I,rfl,h⟩
theorem DD {x j pos}:PE X (.Constant (.str x) j pos) (tC (.str x)):=fun _ _ _ H _ I h=>Calls.Constant_str ⟨.str x,H,I.tok _,⟨_,rfl⟩,h⟩
noncomputable def Gl (X:Cx) (x:Str):Prop:=X.env.kindOf x = some .globalImplicit
theorem jH {E:Value->Shared->Prop} {pins:List (Addr × Obj)} {s:Shared} {σ:St} {H:Hp} {x:Str} {u:Value} {pos:Pos} {Q:Value->Shared->Prop} (I:Inv X pins σ H s) (hg:Gl X x) (hm:X.mg x = some u) (h:Q u s)
 (hd:(x == ("__debug__":Str)) = false:=by decide):wpAny (model X.prog X.w) X.A (eval (.Name x pos) X.env) Q E s :=
 qb I.ok.kind hg (Calls.loadGlobal_global (by rw [I.ok.glob];exact I.mod.glob.keeps I.bk) hm h) hd
theorem lr {E:Value->Shared->Prop} {pins:List (Addr × Obj)} {s:Shared} {σ:St} {H:Hp} {x:Str} {u:Value} {pos:Pos} {Q:Value->Shared->Prop} (I:Inv X pins σ H s) (hg:Gl X x) (hm:X.mg x = none) (hv:bootBuiltins x = some u) (h:Q u s)
 (hn:x≠"__name__":=by decide) (hd:(x == ("__debug__":Str)) = false:=by decide):wpAny (model X.prog X.w) X.A (eval (.Name x pos) X.env) Q E s:=by
 obtain ⟨mb,h1,h2⟩:=I.mod.blt;exact qb I.ok.kind hg (Calls.loadGlobal_builtin (by rw [I.ok.glob];exact I.mod.glob.keeps I.bk) hm (by rw [I.ok.blt];exact h1.keeps I.bk) ((h2 x hn).trans hv) h) hd
theorem HI {x:Str} {v:V} {u:Value} {pos:Pos} (hg:Gl X x) (hm:X.mg x = some u) (r:RelV v u) (hd:(x == ("__debug__":Str)) = false:=by decide):PE X (.Name x pos) (tC v) :=
 fun _ _ _ H _ I h=>jH I hg hm ⟨v,H,I,r,h⟩ hd
theorem yc {x:Str} {v:V} {u:Value} {pos:Pos} (hg:Gl X x) (hm:X.mg x = none) (hv:bootBuiltins x = some u) (r:RelV v u) (hn:x≠"__name__":=by decide) (hd:(x == ("__debug__":Str)) = false:=by decide):PE X (.Name x pos) (tC v) :=
 fun _ _ _ H _ I h=>lr I hg hm hv ⟨v,H,I,r,h⟩ hn hd
variable {a b:Expr} {ta tb:TE} {pos:Pos}
noncomputable def tB (t:TE):TT:=fun σ H Q=>t σ H fun x H1=>∃ c,x = .bl c/\Q c H1
theorem Dr {e:Expr} {t:TE} (h:PE X e t) (he:∀ whole,isTrue e X.env whole = (do let v <- whole;standAt e.pos;holding [v] (truthy v)):=by intro _;rfl):PT X e (tB t):=by
 intro pins s σ H Q I hw;refine isTrue_plain (thn (h pins s σ H _ I hw) fun v s1 ⟨x,H1,I1,r1,q1⟩=>?_) (he _);obtain ⟨d,rfl,q⟩:=q1;cases r1;exact dn ⟨H1,I1,q⟩
variable {tA tB':TT} {rest:List Expr}
noncomputable def Nn (t u:TT):TT:=fun σ H Q=>t σ H fun c H1=>if c = true then u σ H1 Q else Q false H1
noncomputable def tOr (t u:TT):TT:=fun σ H Q=>t σ H fun c H1=>if c = true then Q true H1 else u σ H1 Q
noncomputable def Oj (t:TT):TT:=fun σ H Q=>t σ H fun c H1=>Q (!c) H1
theorem xW (ha:PT X a tA):PW X (.BoolOp .And [a] pos) tA:=by
 intro wh pins s σ H Q I h;refine isTrue_and (thn (ha pins s σ H Q I h) fun c s1 e=>?_)
 cases c with
 | true=>exact isTrue_and_nil e
 | false=>exact e
theorem Dp (ha:PT X a tA):PW X (.BoolOp .Or [a] pos) tA:=by
 intro wh pins s σ H Q I h;refine isTrue_or (thn (ha pins s σ H Q I h) fun c s1 e=>?_)
 cases c with
 | false=>exact isTrue_or_nil e
 | true=>exact e
theorem wB (ha:PT X a tA) (hb:PW X (.BoolOp .And (b::rest) pos) tB'):PW X (.BoolOp .And (a::b::rest) pos) (Nn tA tB'):=by
 intro wh pins s σ H Q I h;refine isTrue_and (thn (ha pins s σ H _ I h) fun c s1 ⟨H1,I1,q1⟩=>?_)
 cases c with
 | true=>exact hb wh pins s1 σ H1 Q I1 q1
 | false=>exact ⟨H1,I1,q1⟩
theorem Dq (ha:PT X a tA) (hb:PW X (.BoolOp .Or (b::rest) pos) tB'):PW X (.BoolOp .Or (a::b::rest) pos) (tOr tA tB'):=by
 intro wh pins s σ H Q I h;refine isTrue_or (thn (ha pins s σ H _ I h) fun c s1 ⟨H1,I1,q1⟩=>?_)
 cases c with
 | true=>exact ⟨H1,I1,q1⟩
 | false=>exact hb wh pins s1 σ H1 Q I1 q1
theorem Ds (ha:PT X a tA):PT X (.UnaryOp .Not a pos) (Oj tA):=by
 intro pins s σ H Q I h;exact isTrue_not (ha pins s σ H (fun c H1=>Q (!c) H1) I h)
noncomputable def Nm (ta tb:TE):TE:=fun σ H Q=>ta σ H fun x H1=>∃ c,x = .bl c/\if c = true then tb σ H1 Q else Q (.bl false) H1
noncomputable def Oi (ta tb:TE):TE:=fun σ H Q=>ta σ H fun x H1=>∃ c,x = .bl c/\if c = true then Q (.bl true) H1 else tb σ H1 Q
noncomputable def Ni (ta:TE):TE:=fun σ H Q=>ta σ H fun x H1=>∃ c,x = .bl c/\Q (.bl (!c)) H1
theorem se {op} {t:TE} (h:PE X a t):PE X (.BoolOp op [a] pos) t:=fun pins s σ H Q I hw=>BoolOp_one (h pins s σ H Q I hw)
theorem DL (ha:PE X a ta) (hb:PE X (.BoolOp .And (b::rest) pos) tb):PE X (.BoolOp .And (a::b::rest) pos) (Nm ta tb):=by
 intro pins s σ H Q I h;refine BoolOp_and (thn (ha pins s σ H _ I h) fun v s1 ⟨x,H1,I1,r1,q1⟩=>?_);obtain ⟨c,rfl,q1⟩:=q1;cases r1;refine dn ?_
 cases c with
 | true=>exact hb pins s1 σ H1 Q I1 q1
 | false=>exact ⟨.bl false,H1,I1,rfl,q1⟩
theorem Jl (ha:PE X a ta) (hb:PE X (.BoolOp .Or (b::rest) pos) tb):PE X (.BoolOp .Or (a::b::rest) pos) (Oi ta tb):=by
 intro pins s σ H Q I h;refine BoolOp_or (thn (ha pins s σ H _ I h) fun v s1 ⟨x,H1,I1,r1,q1⟩=>?_);obtain ⟨c,rfl,q1⟩:=q1;cases r1;refine dn ?_
 cases c with
 | false=>exact hb pins s1 σ H1 Q I1 q1
 | true=>exact ⟨.bl true,H1,I1,rfl,q1⟩
theorem DF (ha:PE X a ta):PE X (.UnaryOp .Not a pos) (Ni ta):=by
 intro pins s σ H Q I h;refine UnaryOp_ (thn (ha pins s σ H _ I h) fun v s1 ⟨x,H1,I1,r1,q1⟩=>?_);obtain ⟨c,rfl,q1⟩:=q1;cases r1;exact not_of (dn ⟨.bl (!c),H1,I1,rfl,q1⟩)
noncomputable def tIf (t:TT) (ta tb:TE):TE:=fun σ H Q=>t σ H fun c H1=>if c = true then ta σ H1 Q else tb σ H1 Q
theorem DJ {c:Expr} (hc:PT X c tA) (ha:PE X a ta) (hb:PE X b tb):PE X (.IfExp c a b pos) (tIf tA ta tb):=by
 intro pins s σ H Q I h;refine wpAny_IfExp (thn (hc pins s σ H _ I h) fun d s1 ⟨H1,I1,q1⟩=>?_)
 cases d with
 | true=>exact ha pins s1 σ H1 Q I1 q1
 | false=>exact hb pins s1 σ H1 Q I1 q1
end
end L2
namespace L2
open PySem PySem.Spec PyProof.Rows
noncomputable def SqL (K:PySem.W.Frag) (H:Hp) (a:Addr) (xs:List V):Prop :=
 Rd H a (.lst xs) \/
  ∃ (o:Obj) (its:Array Value) (n:Nat),K.lookup a = some o/\o.cls = .type "list"/\o.dict = none/\o.data = .seq its n/\its.size<=sizeLine/\Vals xs its.toList
noncomputable def SqT (K:PySem.W.Frag) (H:Hp) (a:Addr) (xs:List V):Prop :=
 Rd H a (.tup xs) \/
  ∃ (o:Obj) (its:Array Value) (n:Nat),K.lookup a = some o/\o.cls = .type "tuple"/\o.data = .seq its n/\its.size<=sizeLine/\Vals xs its.toList
noncomputable def OQ:Value->Option V
 | .none=>some .non
 | .bool b=>some (.bl b)
 | .int i _=>some (.int i)
 | .str x _=>some (.str x)
 | .bytes b _=>some (.byt b)
 | .float b _=>some (.flt b)
 | .ref a=>some (.ref a)
 | .type n=>some (.ty n)
 | _=>none
theorem RelV.abs {x:V} {u:Value} (r:RelV x u):OQ u = some x:=by
 cases x with
 | non=>cases r;rfl
 | bl _=>cases r;rfl
 | int _=>obtain ⟨t,rfl⟩:=r;rfl
 | str _=>obtain ⟨t,rfl⟩:=r;rfl
 | byt _=>obtain ⟨t,rfl⟩:=r;rfl
 | flt _=>obtain ⟨t,rfl⟩:=r;rfl
 | ref _=>cases r;rfl
 | ty _=>cases r;rfl
theorem RelV.inj {x y:V} {u:Value} (r:RelV x u) (q:RelV y u):x = y:=aM (r.abs.symm.trans q.abs)
theorem Vals.inj:∀ {xs ys:List V} {us:List Value},Vals xs us->Vals ys us->xs = ys
 | _,_,_,.nil,.nil=>rfl
 | _,_,_,.cons r t,.cons r' t'=>by rw [r.inj r',Vals.inj t t']
section
variable {X:Cx} {pins:List (Addr × Obj)} {σ:St} {H:Hp} {s:Shared} {a:Addr} {xs ys:List V}
theorem SqT.of {K:PySem.W.Frag} (h:H a = some (.tup xs)):SqT K H a xs:=.inl (.inl h)
theorem Inv.list (I:Inv X pins σ H s) (h:SqL X.K H a xs):∃ its:List Value,Vals xs its/\PlainL s.heap a its.toArray/\xs.length<=sizeLine:=by
 rcases h with h | ⟨o,its,n,hk,hc,hd,hs,hz,r⟩
 . obtain ⟨z,its,n,r,e⟩:=h.ok I.hok;exact ⟨its,r,⟨_,n,e,rfl,rfl,rfl⟩,z⟩
 . refine ⟨its.toList,r,⟨o,n,I.kIn a o hk,hc,hd,by simpa using hs⟩,?_⟩;have e:=r.length;simp only [aV] at e
   lia
theorem Inv.tuple (I:Inv X pins σ H s) (h:SqT X.K H a xs):∃ its:List Value,Vals xs its/\IsTup s.heap a its.toArray/\xs.length<=sizeLine:=by
 rcases h with h | ⟨o,its,n,hk,hc,hs,hz,r⟩
 . obtain ⟨z,its,r,p⟩:=h.ok I.hok;exact ⟨its,r,p,z⟩
 . refine ⟨its.toList,r,⟨o,I.kIn a o hk,hc,n,by simpa using hs⟩,?_⟩;have e:=r.length;simp only [aV] at e
   lia
theorem Inv.list_inj (I:Inv X pins σ H s) (h:SqL X.K H a xs) (h':SqL X.K H a ys):xs = ys:=by
 obtain ⟨its,r,⟨o,n,e,_,_,d⟩,_⟩:=I.list h;obtain ⟨its',r',⟨o',n',e',_,_,d'⟩,_⟩:=I.list h';rw [e] at e';cases e';rw [d] at d';injection d' with d1 _;have:its = its':=by simpa using congrArg Array.toList d1
 subst this;exact r.inj r'
theorem Inv.tuple_inj (I:Inv X pins σ H s) (h:SqT X.K H a xs) (h':SqT X.K H a ys):xs = ys:=by
 obtain ⟨its,r,⟨o,e,_,n,d⟩,_⟩:=I.tuple h;obtain ⟨its',r',⟨o',e',_,n',d'⟩,_⟩:=I.tuple h';rw [e] at e';cases e';rw [d] at d';injection d' with d1 _;have:its = its':=by simpa using congrArg Array.toList d1
 subst this;exact r.inj r'
end
abbrev Cx.wish (X:Cx) (E:Value->Shared->Prop):Cx:={ X with xe:=E }
abbrev Cx.nox (X:Cx):Cx:=X.wish fun _ _=>False
theorem Cx.Ok.wish {X:Cx} (ok:X.Ok) (E:Value->Shared->Prop):(X.wish E).Ok :=
 ⟨ok.mod,ok.kind,ok.glob,ok.blt,ok.above,ok.inj,ok.has,ok.cab,ok.hd,ok.frames,ok.stk,ok.exf,ok.bs,ok.bsz,ok.noex,ok.exfs,ok.funs,ok.frf⟩
theorem Cx.Ok.unwish {X:Cx} {E:Value->Shared->Prop} (ok:(X.wish E).Ok):X.Ok :=
 ⟨ok.mod,ok.kind,ok.glob,ok.blt,ok.above,ok.inj,ok.has,ok.cab,ok.hd,ok.frames,ok.stk,ok.exf,ok.bs,ok.bsz,ok.noex,ok.exfs,ok.funs,ok.frf⟩
section
variable {X:Cx} {pins:List (Addr × Obj)} {σ:St} {H:Hp} {s:Shared} {E:Value->Shared->Prop}
theorem Inv.wish (I:Inv X pins σ H s) (E:Value->Shared->Prop):Inv (X.wish E) pins σ H s:=⟨I.ok.wish E,I.os,I.bare,I.base,I.loc,I.cell,I.free,I.freeC,I.pin,I.hok,I.len⟩
theorem Inv.unwish (I:Inv (X.wish E) pins σ H s):Inv X pins σ H s:=⟨I.ok.unwish,I.os,I.bare,I.base,I.loc,I.cell,I.free,I.freeC,I.pin,I.hok,I.len⟩
theorem SP.unwish {D:Ends} {f:Flow} {s':Shared} (h:SP (X.wish E) pins D f s'):SP X pins D f s':=by
 cases f with
 | next=>obtain ⟨σ',H',I,q⟩:=h;exact ⟨σ',H',I.unwish,q⟩
 | brk=>obtain ⟨σ',H',I,q⟩:=h;exact ⟨σ',H',I.unwish,q⟩
 | cont=>obtain ⟨σ',H',I,q⟩:=h;exact ⟨σ',H',I.unwish,q⟩
 | ret u=>obtain ⟨v,σ',H',I,r,q⟩:=h;exact ⟨v,σ',H',I.unwish,r,q⟩
theorem PT.nox {e:Expr} {t:TT} (h:PT X.nox e t):PT X e t:=fun pins s σ H Q I hw =>
 cN (h pins s σ H Q (I.wish _) hw) (fun _ _ ⟨H',I',q⟩=>⟨H',I'.unwish,q⟩) fun _ _ z=>False.elim z
theorem PSs.nox {st:List Stmt} {t:TS} (h:PSs X.nox st t):PSs X st t:=fun pins s σ H D I hw =>
 cN (h pins s σ H D (I.wish _) hw) (fun _ _ q=>q.unwish) fun _ _ z=>False.elim z
end
section
variable {X:Cx} {st:Stmt} {rest:List Stmt} {t u:TS} {e:Expr} {te:TE} {pos:Pos}
noncomputable def Jh:TS:=fun D σ H=>D.nx σ H
noncomputable def Of (t u:TS):TS:=fun D σ H=>t { D with nx:=u D } σ H
theorem kC:PSs X [] Jh:=fun _ _ σ H _ I h=>kh ⟨σ,H,I,h⟩
theorem ji (h1:PS X st t) (h2:PSs X rest u):PSs X (st::rest) (Of t u):=by
 intro pins s σ H D I h;refine wpAny_execs_cons (thn (h1 pins s σ H { D with nx:=u D } I h) fun f s1 q=>?_)
 cases f with
 | next =>
   obtain ⟨σ',H',I',q⟩:=q
   exact h2 pins s1 σ' H' D I' q
 | ret v=>exact q
 | brk=>exact q
 | cont=>exact q
noncomputable def Kx:TS:=fun D σ H=>D.bk σ H
noncomputable def Nk:TS:=fun D σ H=>D.ct σ H
theorem HB:PS X (.Pass pos) Jh:=fun _ _ σ H _ I h=>wpAny_Pass ⟨σ,H,I,h⟩
theorem Dy:PS X (.Break pos) Kx:=fun _ _ σ H _ I h=>wpAny_Break ⟨σ,H,I,h⟩
theorem uz:PS X (.Continue pos) Nk:=fun _ _ σ H _ I h=>wpAny_Continue ⟨σ,H,I,h⟩
theorem Inv.quiet {pins:List (Addr × Obj)} {σ:St} {H:Hp} {s:Shared} (I:Inv X pins σ H s):interactive X.env = false:=by simp [interactive,I.ok.kind]
noncomputable def Nj (te:TE):TS:=fun D σ H=>te σ H fun _ H1=>D.nx σ H1
theorem rX (he:PE X e te) (hs:swapsWith e none pos.line X.env = pure false:=by rfl):PS X (.Expr e pos) (Nj te):=by
 intro pins s σ H D I h;exact wpAny_Expr_any (thn (he pins s σ H _ I h) fun v s1 ⟨x,H1,I1,r1,q1⟩=>⟨σ,H1,I1,q1⟩) I.quiet hs
noncomputable def Og (te:TE):TS:=fun D σ H=>te σ H D.rt
theorem KZ (he:PE X e te):PS X (.Return (some e) pos) (Og te):=by
 intro pins s σ H D I h;exact wpAny_Return_some (thn (he pins s σ H _ I h) fun v s1 ⟨x,H1,I1,r1,q1⟩=>⟨x,σ,H1,I1,r1,q1⟩)
noncomputable def Ng:TS:=fun D _ H=>D.rt .non H
theorem HA:PS X (.Return none pos) Ng:=fun _ _ σ H _ I h=>wpAny_Return_none ⟨.non,σ,H,I,rfl,h⟩
noncomputable def Om (c:TT) (t u:TS):TS:=fun D σ H=>c σ H fun b H1=>if b = true then t D σ H1 else u D σ H1
theorem Dw {c:Expr} {a b:List Stmt} {tc:TT} (hc:PT X c tc) (ha:PSs X a t) (hb:PSs X b u):PS X (.If c a b pos) (Om tc t u):=by
 intro pins s σ H D I h;refine wpAny_If (thn (hc pins s σ H _ I h) fun d s1 ⟨H1,I1,q1⟩=>?_)
 cases d with
 | true=>exact ha pins s1 σ H1 D I1 q1
 | false=>exact hb pins s1 σ H1 D I1 q1
noncomputable def Kw:TS:=fun _ _ _=>False
theorem Du:PS X st Kw:=fun _ _ _ _ _ _ h=>h.elim
end
abbrev TG:=V->St->Hp->(St->Hp->Prop)->Prop
abbrev TGs:=List V->St->Hp->(St->Hp->Prop)->Prop
noncomputable def PG (X:Cx) (target:Expr) (t:TG):Prop :=
 ∀ (pins:List (Addr × Obj)) (s:Shared) (σ:St) (H:Hp) (v:V) (u:Value) (Q:St->Hp->Prop),Inv X pins σ H s->RelV v u->t v σ H Q ->
  wpAny (model X.prog X.w) X.A (assign target X.env u) (fun _ s'=>∃ σ' H',Inv X pins σ' H' s'/\Q σ' H') X.xe s
noncomputable def PGs (X:Cx) (ts:List Expr) (t:TGs):Prop :=
 ∀ (pins:List (Addr × Obj)) (s:Shared) (σ:St) (H:Hp) (vs:List V) (us:List Value) (Q:St->Hp->Prop),Inv X pins σ H s->Vals vs us->t vs σ H Q ->
  wpAny (model X.prog X.w) X.A (assignInOrder ((assignEach ts X.env).map (·.2)) us) (fun _ s'=>∃ σ' H',Inv X pins σ' H' s'/\Q σ' H') X.xe s
abbrev MC:=V->V->V->Hp->(Hp->Prop)->Prop
noncomputable def NX (X:Cx) (t:MC):Prop :=
 ∀ (pins:List (Addr × Obj)) (s:Shared) (σ:St) (H:Hp) (o i v:V) (ov iv u:Value) (Q:Hp->Prop),Inv X pins σ H s->RelV o ov->RelV i iv->RelV v u->t o i v H Q ->
  wpAny (model X.prog X.w) X.A (setItem ov iv u) (fun _ s'=>∃ H',Inv X pins σ H' s'/\Q H') X.xe s
abbrev TIp:=V->V->Hp->VK->Prop
noncomputable def PIp (X:Cx) (op:Operator) (t:TIp):Prop :=
 ∀ (pins:List (Addr × Obj)) (s:Shared) (σ:St) (H:Hp) (x y:V) (v u:Value) (Q:VK),Inv X pins σ H s->RelV x v->RelV y u->t x y H Q ->
  wpAny (model X.prog X.w) X.A (inplaceOp op v u) (EP X pins σ Q) X.xe s
section
variable {X:Cx} {pos:Pos}
noncomputable def qE (i:Nat):TG:=fun v σ H Q=>Q (σ.set i (some v)) H
theorem rZ {i:Nat} {x:Str} (hN:X.N.Nodup) (hi:X.N[i]? = some x) (hx:Loc X.env.scope x) (hf:X.fn x = true\/X.env.scope.names.lookup x = some .local:=by first | exact .inl rfl | exact .inr rfl | assumption):PG X (.Name x pos) (qE i):=by
 intro pins s σ H v u Q I r h;exact ML (gA I hN hi hx r (fun s' I'=>⟨_,H,I',h⟩) hf)
noncomputable def Ma:TGs:=fun vs σ H Q=>vs = []/\Q σ H
noncomputable def yN (t:TG) (u:TGs):TGs:=fun vs σ H Q=>∃ v r,vs = v::r/\t v σ H fun σ' H'=>u r σ' H' Q
theorem xZ:PGs X [] Ma:=by
 intro pins s σ H vs us Q I r h;obtain ⟨e,h⟩:=h;subst e;cases r;exact MO ⟨σ,H,I,h⟩
theorem og {e:Expr} {es:List Expr} {t:TG} {u:TGs} (h1:PG X e t) (h2:PGs X es u)
 (hs:(assignEach (e::es) X.env).map (·.2) = assign e X.env::(assignEach es X.env).map (·.2):=by rfl):PGs X (e::es) (yN t u):=by
 intro pins s σ H vs us Q I r h;obtain ⟨v,vr,e1,h⟩:=h;subst e1
 cases r with
 | cons r rr =>
   rw [hs];refine pB (thn (h1 pins s σ H _ _ _ I r h) fun _ s1 ⟨σ1,H1,I1,q1⟩=>?_);exact h2 pins s1 σ1 H1 _ _ Q I1 rr q1
noncomputable def OJ (K:PySem.W.Frag) (n:Nat) (t:TGs):TG:=fun v σ H Q=>∃ a xs,v = .ref a/\SqT K H a xs/\xs.length = n/\t xs σ H Q
theorem Lf {es:List Expr} {k:Nat} {t:TGs} {n:Nat} (hc:X.calm = true) (h:PGs X es t)
 (hn:(assignEach es X.env).length = n:=by rfl) (hst:(assignEach es X.env).findIdx? (·.1) = none:=by rfl):PG X (.Tuple es k pos) (OJ X.K n t):=by
 intro pins s σ H v u Q I r hw;obtain ⟨a,xs,e1,hq,hl,hw⟩:=hw;subst e1;cases r;obtain ⟨its,rv,ht,hz⟩:=I.tuple hq;refine assign_Tuple_tuple (I.ok.hd hc) ht (by simp [hn,<- hl,rv.length]) hst fun h' hx=>?_;have I1:Inv X pins σ H { s with heap:=h' }:=I.kept (t':=s.toks) fun b o e=>hx b o (aC (ar e)) e;exact h pins _ σ H xs _ Q I1 (by simpa using rv) hw
noncomputable def OK (to ti:TE) (t:MC):TG:=fun v σ H Q=>to σ H fun o H1=>ti σ H1 fun i H2=>t o i v H2 fun H3=>Q σ H3
theorem Lg {o i:Expr} {to ti:TE} {t:MC} (ho:PE X o to) (hi:PE X i ti) (hs:NX X t)
 (ha:∀ v,assign (.Subscript o i pos) X.env v = (do
   let ov <- holding [v] (eval o X.env)
   let iv <- holding [v,ov] (eval i X.env)
   standAt pos
   holding [v,ov,iv] (setItem ov iv v)
   release [v,ov,iv] []):=by intro _;rfl):PG X (.Subscript o i pos) (OK to ti t):=by
 intro pins s σ H v u Q I r h;rw [ha];refine ae (bN (thn (ho pins s σ H _ I h) fun ov s1 ⟨x,H1,I1,r1,q1⟩=>?_));refine ae (bN (thn (hi pins s1 σ H1 _ I1 q1) fun iv s2 ⟨y,H2,I2,r2,q2⟩=>?_));refine ae (gN (ae (bN (thn (hs pins s2 σ H2 x y v ov iv u _ I2 r1 r2 r q2) fun _ s3 ⟨H3,I3,q3⟩=>?_))));exact wpAny_release ⟨σ,H3,I3,q3⟩
noncomputable def GK (te:TE) (g:TG):TS:=fun D σ H=>te σ H fun x H1=>g x σ H1 D.nx
theorem DA {tg e:Expr} {te:TE} {g:TG} (he:PE X e te) (hg:PG X tg g) (hs:swapsWithSole [tg] e pos.line X.env = pure false:=by rfl) (hw:swappedStores [tg] e X.env = pure none:=by rfl)
 (h1:(assignEach [tg] X.env).map (·.2) = [assign tg X.env]:=by rfl):PS X (.Assign [tg] e pos) (GK te g):=by
 intro pins s σ H D I h;refine wpAny_Assign_stores (thn (he pins s σ H _ I h) fun v s1 ⟨x,H1,I1,r1,q1⟩=>?_) hs hw;rw [h1];exact thn (hg pins s1 σ H1 x v _ I1 r1 q1) fun _ s2 q=>q
theorem rW {i:Nat} {x:Str} {e:Expr} {te:TE} {pos':Pos} (hN:X.N.Nodup) (hi:X.N[i]? = some x) (hx:Loc X.env.scope x) (he:PE X e te) (hs:swapsWith e (some (.Name x pos')) pos.line X.env = pure false:=by rfl) (hf:X.fn x = true\/X.env.scope.names.lookup x = some .local:=by first | exact .inl rfl | exact .inr rfl | assumption) :
 PS X (.Assign [.Name x pos'] e pos) (GK te (qE i)):=by
 intro pins s σ H D I h;refine wpAny_Assign_Name (thn (he pins s σ H _ I h) fun v s1 ⟨y,H1,I1,r1,q1⟩=>?_) hs;exact gA I1 hN hi hx r1 (fun s2 I2=>⟨_,H1,I2,q1⟩) hf
noncomputable def Oh (i j:Nat) (ta:TA):TS:=fun D σ H=>ta σ H fun vs H1=>∃ v w,vs = [v,w]/\D.nx ((σ.set i (some v)).set j (some w)) H1
theorem La {i j:Nat} {x y:Str} {a b:Expr} {ta:TA} {px py pt:Pos} {kt k2 pt2} (hc:X.calm = true) (hN:X.N.Nodup) (hi:X.N[i]? = some x) (hj:X.N[j]? = some y) (hij:i≠j)
 (hx:X.env.scope.names.lookup x = some .local) (hy:X.env.scope.names.lookup y = some .local) (ha:PA X [a,b] ta)
 (hw:swappedStores [.Tuple [.Name x px,.Name y py] kt pt] (.Tuple [a,b] k2 pt2) X.env = pure (some [x,y]))
 (hs:swapsWithSole [.Tuple [.Name x px,.Name y py] kt pt] (.Tuple [a,b] k2 pt2) pos.line X.env = pure false:=by rfl) :
 PS X (.Assign [.Tuple [.Name x px,.Name y py] kt pt] (.Tuple [a,b] k2 pt2) pos) (Oh i j ta):=by
 intro pins s σ H D I h;rw [exec_Assign_arm];refine ae (gN ?_);rw [hs];refine ae (ai ?_);rw [if_neg (by decide)];refine ae (Tuple_ (thn (ha _ pins s σ H _ I h) fun us s1 ⟨vs,H1,I1,r1,q1⟩=>?_));obtain ⟨v,w,e1,q1⟩:=q1;subst e1
 obtain ⟨u1,u2,rfl,rv,rw'⟩:∃ u1 u2,us = [u1,u2]/\RelV v u1/\RelV w u2:=by
  cases r1 with
  | cons p q =>
    cases q with
    | cons p' q' =>
      cases q';exact ⟨_,_,rfl,p,p'⟩
 refine aS ?_ (by show 2<=sizeLine;decide);have I2:Inv X pins σ H1 { s1 with heap:=s1.heap.push { cls:=.type "tuple",data:=.seq [u1,u2].toArray } }:=I1.kept (t':=s1.toks) fun b o e=>af _ e;rw [hw];refine ae (ai ?_);show wpAny (model X.prog X.w) X.A (do rule "assign.swapped-stores";let items <- unpackItems (.ref s1.heap.objs.size) 2 none;assignInOrder [fun v=>bindName X.env y v,fun v=>bindName X.env x v] items.reverse;pure Flow.next) _ _ _;refine ae (iO (ae (unpackItems_tuple (items := #[u1,u2]) (I.ok.hd hc) (mF s1.heap _) fun h' hx'=>?_)));have I3:=I2.kept (h':=h') (t':=s1.toks) fun b o e=>hx' b o (aC (ar e)) e;show wpAny _ _ (assignInOrder [fun v=>bindName X.env y v,fun v=>bindName X.env x v] [u2,u1] >>= fun _=>pure Flow.next) _ _ _;refine ae (pB (wpAny_bindName (gA I3 hN hj (.inl hy) rw' (fun s2 I4=>?_) (.inr hy))));refine pB (wpAny_bindName (gA I4 hN hi (.inl hx) rv (fun s3 I5=>MO (ai ?_)) (.inr hx)));rw [List.set_comm _ _ (Ne.symm hij)] at I5;exact ⟨_,H1,I5,q1⟩
noncomputable def Ot (i:Nat) (te:TE) (ti:TIp):TS:=fun D σ H=>∃ x,σ[i]? = some (some x)/\te σ H fun y H1=>ti x y H1 fun z H2=>D.nx (σ.set i (some z)) H2
theorem Dz {i:Nat} {x:Str} {e:Expr} {te:TE} {op:Operator} {ti:TIp} {pos':Pos} (hN:X.N.Nodup) (hi:X.N[i]? = some x) (hx:Loc X.env.scope x) (he:PE X e te) (ho:PIp X op ti) (hf:X.fn x = true\/X.env.scope.names.lookup x = some .local:=by first | exact .inl rfl | exact .inr rfl | assumption) :
 PS X (.AugAssign (.Name x pos') op e pos) (Ot i te ti):=by
 intro pins s σ H D I h;obtain ⟨v,e1,h⟩:=h;obtain ⟨m,hn,hl⟩:=I.loc;have vis:Vis X.env.scope x:=by rcases hx with k | k;exact .inl k;exact .inr (.inl k)
 obtain ⟨u,r,l⟩:=hl i x v hi e1 vis;refine wpAny_AugAssign_Name ?_
 have go:wpAny (model X.prog X.w) X.A (eval e X.env) (fun w s₂=>wpAny (model X.prog X.w) X.A (inplaceOp op u w) (fun r s₃=>wpAny (model X.prog X.w) X.A (storeName X.env x r) (fun _=>SP X pins D .next) X.xe s₃) X.xe s₂) X.xe s:=by
  refine thn (he pins s σ H _ I h) fun w s1 zz=>?_;obtain ⟨y,H1,I1,r1,q1⟩:=zz;refine thn (ho pins s1 σ H1 v y u w _ I1 r r1 q1) fun z s2 zz=>?_;obtain ⟨zv,H2,I2,r2,q2⟩:=zz;exact gA I2 hN hi hx r2 (fun s3 I3=>⟨_,H2,I3,q2⟩) hf
 rcases l with ⟨hk,hm⟩ | ⟨hk,c,hc,hcell⟩
 . exact IY I.ok.kind hk hn hm go
 . rcases hk with hk | hk
   . exact JF I.ok.kind hk hc hcell go
   . rcases hx with k | k
     . have:X.env.scope.names.lookup x = some .free:=hk;rw [k] at this;cases this
     . have:X.env.scope.names.lookup x = some .free:=hk;rw [k] at this;cases this
noncomputable def ipI (f:Int->Int->Int):TIp:=fun x y H Q=>∃ i j,x = .int i/\y = .int j/\Q (.int (f i j)) H
theorem LY:PIp X .Add (ipI fun i j=>i+j):=by
 intro pins s σ H x y v u Q I r1 r2 h;obtain ⟨i,j,e1,e2,q⟩:=h;subst e1;subst e2;obtain ⟨t,rfl⟩:=r1;obtain ⟨t',rfl⟩:=r2;exact iadd_int ⟨.int _,H,I.tok _,⟨_,rfl⟩,q⟩
theorem LX:PIp X .Sub (ipI fun i j=>i - j):=by
 intro pins s σ H x y v u Q I r1 r2 h;obtain ⟨i,j,e1,e2,q⟩:=h;subst e1;subst e2;obtain ⟨t,rfl⟩:=r1;obtain ⟨t',rfl⟩:=r2;exact isub_int ⟨.int _,H,I.tok _,⟨_,rfl⟩,q⟩
end
section
variable {X:Cx} {pos:Pos}
noncomputable def Kv (c:TT) (tb:TS):TS:=fun D σ H=>∃ W:Nat->St->Hp->Prop,(∃ m,W m σ H)/\∀ m σ H,W m σ H ->
 c σ H fun b H1=>if b = true then ∃ N:St->Hp->Prop,(∀ σ' H',N σ' H'->∃ m',m' < m/\W m' σ' H')/\tb { D with nx:=N,ct:=N,bk:=D.nx } σ H1 else D.nx σ H1
theorem uy {c:Expr} {body:List Stmt} {tc:TT} {tb:TS} (hp:PassesOwn (model X.prog X.w) X.A X.env X.xe) (hc:PT X c tc) (hb:PSs X body tb):PS X (.While c body [] pos) (Kv tc tb):=by
 intro pins s σ H D I h;obtain ⟨W,⟨m0,w0⟩,turn⟩:=h;refine wpAny_While (codeAny_whileLoop (fun n s'=>∃ σ' H',Inv X pins σ' H' s'/\W n σ' H') ?_ m0 ⟨σ,H,I,w0⟩);rintro n s1 ⟨σ1,H1,I1,w1⟩;refine eM hp (thn (hc pins s1 σ1 H1 _ I1 (turn n σ1 H1 w1)) fun b s2 ⟨H2,I2,q2⟩=>?_)
 cases b with
 | true =>
   obtain ⟨N,hN,q2⟩:=q2;rw [if_pos rfl];refine eM hp (thn (hb pins s2 σ1 H2 _ I2 q2) fun f s3 q3=>?_)
   cases f with
   | next =>
     obtain ⟨σ3,H3,I3,n3⟩:=q3;obtain ⟨m',hm,w3⟩:=hN σ3 H3 n3
     exact ⟨m',hm,σ3,H3,I3,w3⟩
   | cont =>
     obtain ⟨σ3,H3,I3,n3⟩:=q3;obtain ⟨m',hm,w3⟩:=hN σ3 H3 n3
     exact ⟨m',hm,σ3,H3,I3,w3⟩
   | brk=>exact q3
   | ret v=>exact q3
 | false =>
   rw [if_neg ah];exact kh ⟨σ1,H2,I2,q2⟩
end
structure It where
 go:Nat->Hp->Prop
 yld:Nat->Hp->V->Hp->Prop
 stop:Nat->Hp->Prop
noncomputable def iU (X:Cx) (pins:List (Addr × Obj)) (H:Hp) (b:Addr):Prop :=
 H b = none/\b≠X.env.locals/\b∉X.fs/\(b∈X.ex\/X.s₀.heap.objs.size<=b)/\(∀ x c,X.env.cells.lookup x = some c->c≠b)/\∀ p∈X.pn++pins,p.1≠b
theorem Inv.fpOk {X:Cx} {pins:List (Addr × Obj)} {σ:St} {H H':Hp} {s:Shared} {b:Addr} (I:Inv X pins σ H s) (hb:s.heap.objs.size<=b) (hn:H' b = none):iU X pins H' b:=by
 refine ⟨hn,en (aK I.lt hb),I.nofs hb,.inr (aY I.sz hb),fun x c e z=>?_,fun p hp z=>?_⟩
 . obtain ⟨v,q⟩:=I.cell x c e;exact absurd (aK q.lt (by rw [z];exact hb)) (bU _)
 . exact absurd (aK (ar (I.pin p hp).1) (by rw [z];exact hb)) (bU _)
structure Turn (P:Program) (w:World) (K:PySem.W.Frag) (tg:Expr) (J:It) (fp:List Addr) (it:Addr) (tn:Nat->Heap->Prop):Prop where
 mem:it∈fp
 obj:∀ i h,tn i h->∀ b∈fp,∃ o,h.get? b = some o/\∀ v,o.data≠.cell v
 keep:∀ i h h',tn i h->(∀ b∈fp,∀ o,h.get? b = some o->h'.get? b = some o)->tn i h'
 item:∀ (X:Cx),X.prog = P->X.w = w->X.K = K->X.calm = true->∀ (i:Nat) (pins:List (Addr × Obj)) (s:Shared) (σ:St) (H:Hp) (E:Value->Shared->Prop),Inv X pins σ H s->(∀ b∈fp,iU X pins H b)->tn i s.heap->J.go i H ->
  wpAny (model P w) X.A (pyNext (.ref it)) (fun r s1=>∃ u,r = some u /\
   wpAny (model P w) X.A (letOwnedTupleGo tg (.ref it) u) (fun _ s2=>∃ x H',Inv X pins σ H' s2/\RelV x u/\J.yld i H x H'/\tn (i+1) s2.heap/\∀ b∈fp,H' b = none) E s1) E s
 done:∀ (X:Cx),X.prog = P->X.w = w->X.K = K->X.calm = true->∀ (i:Nat) (pins:List (Addr × Obj)) (s:Shared) (σ:St) (H:Hp) (E:Value->Shared->Prop),Inv X pins σ H s->(∀ b∈fp,iU X pins H b)->tn i s.heap->J.stop i H ->
  wpAny (model P w) X.A (pyNext (.ref it)) (fun r s1=>r = none/\Inv X pins σ H s1) E s
 self:∀ (A:Around) (i:Nat) (s:Shared) (Q:Value->Shared->Prop) (E:Value->Shared->Prop),tn i s.heap->Q (.ref it) s->wpAny (model P w) A (pyIter (.ref it)) Q E s
abbrev TI:=St->Hp->(It->Hp->Prop)->Prop
noncomputable def PIE (X:Cx) (pins:List (Addr × Obj)) (σ:St) (tg:Expr) (R:It->Hp->Prop) (itv:Value) (s2:Shared):Prop :=
 ∃ (it:Addr) (fp:List Addr) (tn:Nat->Heap->Prop) (J:It) (H':Hp),itv = .ref it/\Inv X pins σ H' s2/\Turn X.prog X.w X.K tg J fp it tn/\tn 0 s2.heap/\(∀ b∈fp,iU X pins H' b)/\R J H'
noncomputable def PI (X:Cx) (tg iter:Expr) (wi:TI):Prop :=
 ∀ (pins:List (Addr × Obj)) (s:Shared) (σ:St) (H:Hp) (R:It->Hp->Prop),Inv X pins σ H s->wi σ H R ->
  wpAny (model X.prog X.w) X.A (eval iter X.env) (fun v s1=>wpAny (model X.prog X.w) X.A (pyIter v) (PIE X pins σ tg R) X.xe s1) X.xe s
theorem yM {M:Model} {A:Around} {E:Value->Shared->Prop} {s:Shared} {tg:Expr} {it:Addr} {u:Value} {o:Obj} {n:String} {vs:Array Value} {Q:Unit->Shared->Prop} (ho:s.heap.get? it = some o) (hc:o.cls = .type n) (hd:o.data = .fields vs)
 (hn:["enumerate","zip","dict_itemiterator","dict_reverseitemiterator","odict_iterator","itertools.zip_longest","itertools.pairwise"].contains n = false) (hQ:Q () s):wpAny M A (letOwnedTupleGo tg (.ref it) u) Q E s:=by
 unfold letOwnedTupleGo
 cases tg<;>first
  | exact ai hQ
  | (cases u<;>first
      | exact ai hQ
      | (refine ae (wpAny_load ho ?_)
         rw [hc,hd];show wpAny M A (if (["enumerate","zip","dict_itemiterator","dict_reverseitemiterator","odict_iterator","itertools.zip_longest","itertools.pairwise"].contains n && vs[0]? == some (rawInt _)) = true then _ else _) Q E s;rw [if_neg (by intro h;rw [hn,Bool.false_and] at h;cases h)];exact ai hQ))
noncomputable def Itl (K:PySem.W.Frag) (a:Addr):It :=
 ⟨fun i H=>∃ xs x,SqL K H a xs/\xs[i]? = some x,fun i H x H'=>H' = H/\∀ xs,SqL K H a xs->xs[i]? = some x,fun i H=>∃ xs,SqL K H a xs/\xs.length<=i⟩
noncomputable def Itt (K:PySem.W.Frag) (a:Addr):It :=
 ⟨fun i H=>∃ xs x,SqT K H a xs/\xs[i]? = some x,fun i H x H'=>H' = H/\∀ xs,SqT K H a xs->xs[i]? = some x,fun i H=>∃ xs,SqT K H a xs/\xs.length<=i⟩
noncomputable def Itr (lo:Int) (n:Nat):It:=⟨fun i _=>i < n,fun i H x H'=>H' = H/\x = .int (lo+i),fun i _=>n<=i⟩
theorem zR {P:Program} {w:World} {K:PySem.W.Frag} {tg:Expr} (a it:Addr):Turn P w K tg (Itl K a) [it] it (fun i h=>h.IsListIter it a i) where
 mem:=by simp
 obj:=fun i h st b hb=>by
  have e:b = it:=by simpa using hb
  subst e;obtain ⟨o,e,c,d⟩:=st;exact ⟨o,e,fun v z=>by rw [d] at z;cases z⟩
 keep:=fun i h h' st k=>st.at fun o e=>k it (by simp) o e
 item:=by
  intro X hP hw hK hc i pins s σ H E I hf st hg;subst hP hw hK;obtain ⟨xs,x,hq,hx⟩:=hg;obtain ⟨its,rv,p,hz⟩:=I.list hq;obtain ⟨u,hu,ru⟩:=rv.get hx;obtain ⟨f0,f1,f2,f3,f4,f5⟩:=hf it (by simp);refine wpAny_pyNext_list_item st p.isList (x:=u) (by simpa using hu) fun h' st' sb=>?_;have I1:Inv X pins σ H { s with heap:=h' }:=I.turned (t':=s.toks) (fun b o hb e=>(sb.2 b hb).trans e) f0 f1 f3 f4 f5;obtain ⟨o,e,c,d⟩:=id st';exact ⟨u,rfl,yM (s:={ s with heap:=h' }) e c d (by decide) ⟨x,H,I1,ru,⟨rfl,fun ys hy=>by rw [I.list_inj hy hq];exact hx⟩,st',fun b hb=>(hf b hb).1⟩⟩
 done:=by
  intro X hP hw hK hc i pins s σ H E I hf st hg;subst hP hw hK;obtain ⟨xs,hq,hx⟩:=hg;obtain ⟨its,rv,p,hz⟩:=I.list hq;obtain ⟨f0,f1,f2,f3,f4,f5⟩:=hf it (by simp);have hl:=rv.length;exact wpAny_pyNext_list_end (I.ok.hd hc) st p.isList (by simp;lia) fun h' eb=>⟨rfl,I.turned (t':=s.toks) (fun b o hb e=>eb b o hb e) f0 f1 f3 f4 f5⟩
 self:=fun _ _ _ _ _ st h=>wpAny_pyIter_listiter st h
theorem vU {P:Program} {w:World} {K:PySem.W.Frag} {tg:Expr} (a it:Addr):Turn P w K tg (Itt K a) [it] it (fun i h=>h.IsTupleIter it a i) where
 mem:=by simp
 obj:=fun i h st b hb=>by
  have e:b = it:=by simpa using hb
  subst e;obtain ⟨o,e,c,d⟩:=st;exact ⟨o,e,fun v z=>by rw [d] at z;cases z⟩
 keep:=fun i h h' st k=>st.at fun o e=>k it (by simp) o e
 item:=by
  intro X hP hw hK hc i pins s σ H E I hf st hg;subst hP hw hK;obtain ⟨xs,x,hq,hx⟩:=hg;obtain ⟨its,rv,p,hz⟩:=I.tuple hq;obtain ⟨u,hu,ru⟩:=rv.get hx;obtain ⟨f0,f1,f2,f3,f4,f5⟩:=hf it (by simp);refine wpAny_pyNext_tuple_item st (show s.heap.IsTuple a its.toArray from p) (x:=u) (by simpa using hu) fun h' st' sb=>?_;have I1:Inv X pins σ H { s with heap:=h' }:=I.turned (t':=s.toks) (fun b o hb e=>(sb.2 b hb).trans e) f0 f1 f3 f4 f5;obtain ⟨o,e,c,d⟩:=id st';exact ⟨u,rfl,yM (s:={ s with heap:=h' }) e c d (by decide) ⟨x,H,I1,ru,⟨rfl,fun ys hy=>by rw [I.tuple_inj hy hq];exact hx⟩,st',fun b hb=>(hf b hb).1⟩⟩
 done:=by
  intro X hP hw hK hc i pins s σ H E I hf st hg;subst hP hw hK;obtain ⟨xs,hq,hx⟩:=hg;obtain ⟨its,rv,p,hz⟩:=I.tuple hq;obtain ⟨f0,f1,f2,f3,f4,f5⟩:=hf it (by simp);have hl:=rv.length;exact wpAny_pyNext_tuple_end (I.ok.hd hc) st (show s.heap.IsTuple a its.toArray from p) (by simp;lia) fun h' eb=>⟨rfl,I.turned (t':=s.toks) (fun b o hb e=>eb b o hb e) f0 f1 f3 f4 f5⟩
 self:=fun _ _ _ _ _ st h=>wpAny_pyIter_tupleiter st h
theorem vV {P:Program} {w:World} {K:PySem.W.Frag} {tg:Expr} (it:Addr) (lo:Int) (n:Nat):Turn P w K tg (Itr lo n) [it] it (fun i h=>IsRangeIter h it (lo+(i:Nat) * 1) ((n:Int) - (i:Nat)) 1) where
 mem:=by simp
 obj:=fun i h st b hb=>by
  have e:b = it:=by simpa using hb
  subst e
  exact ⟨_,st,fun v z=>by
   have z':Data.fields _ = Data.cell v:=z;cases z'⟩
 keep:=fun i h h' st k=>k it (by simp) _ st
 item:=by
  intro X hP hw hK hc i pins s σ H E I hf st hg;subst hP hw hK;obtain ⟨f0,f1,f2,f3,f4,f5⟩:=hf it (by simp);have W:=Walks.range (prog:=X.prog) (w:=X.w) (I.ok.hd hc) it lo 1 n;refine W.item i s _ _ hg st fun v h' tk hv st' kk=>?_;obtain ⟨t,rfl⟩:=hv;have I1:Inv X pins σ H { s with heap:=h',toks:=tk }:=I.turned (fun b o hb e=>kk b o (by simpa using hb) e) f0 f1 f3 f4 f5;refine ⟨_,rfl,yM (s:={ s with heap:=h',toks:=tk }) (n:="range_iterator") st' rfl rfl (by decide) ⟨.int (lo+i),H,I1,⟨t,?_⟩,⟨rfl,rfl⟩,st',fun b hb=>(hf b hb).1⟩⟩;rw [Int.mul_one]
 done:=by
  intro X hP hw hK hc i pins s σ H E I hf st hg;subst hP hw hK;obtain ⟨f0,f1,f2,f3,f4,f5⟩:=hf it (by simp);exact wpAny_pyNext_range_end (I.ok.hd hc) st (by have:n<=i:=hg;lia) fun h' eb=>⟨rfl,I.turned (t':=s.toks) (fun b o hb e=>eb b o hb e) f0 f1 f3 f4 f5⟩
 self:=fun _ _ _ _ _ st h=>wpAny_pyIter_rangeiter st h
end L2
namespace L2
open PySem PySem.Spec PyProof.Rows
section
variable {X:Cx} {tg:Expr}
theorem Dj {pins:List (Addr × Obj)} {σ:St} {H:Hp} {s:Shared} {R:It->Hp->Prop} {E:Value->Shared->Prop} {lo hi:Int} {t u v:Tok} {tk:Nat} (I:Inv X pins σ H s) (h1:-(2 ^ 62)<=lo) (h2:lo < 2 ^ 62) (h3:-(2 ^ 62)<=hi) (h4:hi < 2 ^ 62)
 (q:R (Itr lo (hi - lo).toNat) H):wpAny (model X.prog X.w) X.A (pyIter (.ref s.heap.objs.size)) (PIE X pins σ tg R) E { s with heap:=s.heap.push { cls:=.type "range",data:=.fields #[.int lo t,.int hi u,.int 1 v] },toks:=tk }:=by
 refine wpAny_pyIter_range (IsRange.new ..) (small_one h1 h2 h3 h4) ?_;have I1:Inv X pins σ H { s with heap:=s.heap.push { cls:=.type "range",data:=.fields #[.int lo t,.int hi u,.int 1 v] },toks:=tk }:=I.kept fun b o e=>af _ e
 refine ⟨(s.heap.push { cls:=.type "range",data:=.fields #[.int lo t,.int hi u,.int 1 v] }).objs.size,[(s.heap.push { cls:=.type "range",data:=.fields #[.int lo t,.int hi u,.int 1 v] }).objs.size],_,_,H,rfl,
  I1.kept (t':=tk) fun b o e=>af _ e,vV _ lo (hi - lo).toNat,?_,fun b hb=>?_,q⟩
 . have e1:lo+((0:Nat):Int) * 1 = lo:=by simp
   have e2:(((hi - lo).toNat:Nat):Int) - ((0:Nat):Int) = Builtin.Range.rangeSize lo hi 1:=by rw [rangeSize_one];split<;>lia
   show IsRangeIter _ _ (lo+((0:Nat):Int) * 1) ((((hi - lo).toNat:Nat):Int) - ((0:Nat):Int)) 1;rw [e1,e2];exact aA _ rfl
 . have e:b = (s.heap.push { cls:=.type "range",data:=.fields #[.int lo t,.int hi u,.int 1 v] }).objs.size:=by simpa using hb
   subst e;exact I1.fpOk (av _) (I1.hok.fresh (av _))
noncomputable def NQ (ta:TA):TI:=fun σ H R=>ta σ H fun vs H1=>∃ j:Int,vs = [.int j]/\-(2 ^ 62)<=j/\j < 2 ^ 62/\R (Itr 0 j.toNat) H1
theorem An {a:Expr} {ta:TA} {p pos:Pos} (hg:Gl X "range") (hm:X.mg "range" = none) (ha:PA X [a] ta) (hs:starEach [a] X.env = [(false,eval a X.env)]:=by rfl):PI X tg (.Call (.Name "range" p) [a] [] pos) (NQ ta):=by
 intro pins s σ H R I h;refine Call_ (lr I hg hm boot_range (fV (thn (ha pos pins s σ H _ I h) fun us s1 ⟨vs,H1,I1,r1,q1⟩=>?_) hs rfl));obtain ⟨j,e,q1,q2,q⟩:=q1;subst e
 cases r1 with
 | cons r rr =>
   cases rr;obtain ⟨t,rfl⟩:=r;exact call_range_1 (Dj I1 (by lia) (by lia) q1 q2 (by simpa using q))
noncomputable def Oo (wi:TI) (g:TG) (tb:TS):TS:=fun D σ H=>wi σ H fun J H1=>∃ W:Nat->Nat->St->Hp->Prop,(∃ m,W 0 m σ H1)/\∀ i m σ H,W i m σ H ->
 (J.stop i H/\D.nx σ H)\/(J.go i H/\∃ N:St->Hp->Prop,(∀ σ' H',N σ' H'->∃ m',m' < m/\W (i+1) m' σ' H')/\∀ x H',J.yld i H x H'->g x σ H' fun σ2 H2=>tb { D with nx:=N,ct:=N,bk:=D.nx } σ2 H2)
noncomputable def oa (fp:List Addr) (h:Heap):List (Addr × Obj):=fp.filterMap fun b=>(h.get? b).map fun o=>(b,o)
theorem iK {fp:List Addr} {h:Heap} {b:Addr} {o:Obj} (hb:b∈fp) (e:h.get? b = some o):(b,o)∈oa fp h:=kQ.mpr ⟨b,hb,by rw [e];rfl⟩
theorem Av {fp:List Addr} {h:Heap} {p:Addr × Obj} (hp:p∈oa fp h):p.1∈fp/\h.get? p.1 = some p.2:=by
 obtain ⟨b,hb,e⟩:=kQ.mp hp
 cases q:h.get? b with
 | none=>rw [q] at e;cases e
 | some o =>
   rw [q] at e;have e':(b,o) = p:=aM e;subst e';exact ⟨hb,q⟩
theorem Inv.pinned {pins:List (Addr × Obj)} {σ:St} {H:Hp} {s:Shared} {fp:List Addr} (I:Inv X pins σ H s) (hf:∀ b∈fp,iU X pins H b) (ho:∀ b∈fp,∃ o,s.heap.get? b = some o/\∀ v,o.data≠.cell v):Inv X (pins++oa fp s.heap) σ H s :=
 I.pins_of fun p hp=>(bI.mp hp).elim (fun z=>I.pin p (aL _ z)) fun z=>by
  obtain ⟨hb,e⟩:=Av z;obtain ⟨f0,f1,f2,_⟩:=hf p.1 hb;obtain ⟨o,e',d⟩:=ho p.1 hb;rw [e] at e';cases e';exact ⟨e,f0,f1,f2,d⟩
theorem Inv.unpinned {pins pl:List (Addr × Obj)} {σ:St} {H:Hp} {s:Shared} (I:Inv X (pins++pl) σ H s):Inv X pins σ H s:=I.pins_of fun p hp=>I.pin p (aL _ (aU _ hp))
theorem Dx {iter:Expr} {body:List Stmt} {wi:TI} {g:TG} {tb:TS} {pos:Pos} (hp:PassesOwn (model X.prog X.w) X.A X.env X.xe) (hc:X.calm = true) (hi:PI X tg iter wi) (hg:PG X tg g) (hb:PSs X body tb)
 (hs:∀ x,foldedSetIterable iter X.env x = pure x:=by intro _;rfl):PS X (.For tg iter body [] pos) (Oo wi g tb):=by
 intro pins s σ H D I h;refine wpAny_For (thn (hi pins s σ H _ I h) fun v s1 h1=>thn h1 fun itv s2 h2=>?_) hs;obtain ⟨it,fp,tn,J,H2,e,I2,T,st2,f2,W,⟨m0,w0⟩,turn⟩:=h2;subst e
 -- what stays true of the iterator's objects through the loop
 have stat:∀ {H':Hp},(∀ b∈fp,H' b = none)->∀ b∈fp,iU X pins H' b:=fun hn b hb=>⟨hn b hb,(f2 b hb).2⟩;refine codeAny_forLoop_any (fun n s'=>∃ i σ' H',Inv X pins σ' H' s'/\tn i s'.heap/\(∀ b∈fp,H' b = none)/\W i n σ' H') ?_ m0 ⟨0,σ,H2,I2,st2,fun b hb=>(f2 b hb).1,w0⟩;rintro n s3 ⟨i,σ3,H3,I3,st3,fr3,w3⟩;rcases turn i n σ3 H3 w3 with ⟨stop,qn⟩ | ⟨go,N,hN,step⟩
 . refine eM hp (thn (T.done X rfl rfl rfl hc i pins s3 σ3 H3 X.xe I3 (stat fr3) st3 stop) fun r s4 ⟨hr,I4⟩=>?_);subst hr;exact kh ⟨σ3,H3,I4,qn⟩
 . refine eM hp (thn (T.item X rfl rfl rfl hc i pins s3 σ3 H3 X.xe I3 (stat fr3) st3 go) fun r s4 ⟨u,hr,h4⟩=>?_);subst hr;refine eM hp (thn h4 fun _ s5 ⟨x,H5,I5,r5,y5,st5,fr5⟩=>?_);have I5':=I5.pinned (stat fr5) (T.obj _ _ st5);refine eM hp (thn (hg _ s5 σ3 H5 x u _ I5' r5 (step x H5 y5)) fun _ s6 ⟨σ6,H6,I6,q6⟩=>?_);refine eM hp (thn (hb _ s6 σ6 H6 _ I6 q6) fun f s7 q7=>?_)
   have again:∀ {σ7:St} {H7:Hp},Inv X (pins++oa fp s5.heap) σ7 H7 s7->N σ7 H7->∃ m,m < n/\∃ i σ' H',Inv X pins σ' H' s7/\tn i s7.heap/\(∀ b∈fp,H' b = none)/\W i m σ' H':=fun {σ7 H7} I7 n7=>by
    obtain ⟨m',hm,w7⟩:=hN σ7 H7 n7;refine ⟨m',hm,i+1,σ7,H7,I7.unpinned,T.keep _ _ _ st5 fun b hb o e=>(I7.pin (b,o) (aL _ (aL _ (iK hb e)))).1,fun b hb=>?_,w7⟩;obtain ⟨o,e,d⟩:=T.obj _ _ st5 b hb;exact (I7.pin (b,o) (aL _ (aL _ (iK hb e)))).2.1
   cases f with
   | next=>obtain ⟨σ7,H7,I7,n7⟩:=q7;exact again I7 n7
   | cont=>obtain ⟨σ7,H7,I7,n7⟩:=q7;exact again I7 n7
   | brk=>obtain ⟨σ7,H7,I7,q7⟩:=q7;exact ⟨σ7,H7,I7.unpinned,q7⟩
   | ret v=>obtain ⟨x7,σ7,H7,I7,r7,q7⟩:=q7;exact ⟨x7,σ7,H7,I7.unpinned,r7,q7⟩
end
end L2
namespace L2
open PySem PySem.Spec PyProof.Rows
abbrev R2:=V->V->Hp->VK->Prop
noncomputable def OpR (X:Cx) (f:Value->Value->Sem Value) (r:R2):Prop :=
 ∀ (pins:List (Addr × Obj)) (s:Shared) (σ:St) (H:Hp) (x y:V) (v u:Value) (Q:VK),Inv X pins σ H s->RelV x v->RelV y u->r x y H Q ->
  wpAny (model X.prog X.w) X.A (f v u) (EP X pins σ Q) X.xe s
noncomputable def UnR (X:Cx) (f:Value->Sem Value) (r:V->Hp->VK->Prop):Prop :=
 ∀ (pins:List (Addr × Obj)) (s:Shared) (σ:St) (H:Hp) (x:V) (v:Value) (Q:VK),Inv X pins σ H s->RelV x v->r x H Q ->
  wpAny (model X.prog X.w) X.A (f v) (EP X pins σ Q) X.xe s
noncomputable def cm (X:Cx) (f:Value) (r:List V->Hp->VK->Prop):Prop :=
 ∀ (pins:List (Addr × Obj)) (s:Shared) (σ:St) (H:Hp) (xs:List V) (us:List Value) (Q:VK),Inv X pins σ H s->Vals xs us->r xs H Q ->
  wpAny (model X.prog X.w) X.A (call f us) (EP X pins σ Q) X.xe s
noncomputable def OS (X:Cx) (r:V->Hp->(Bool->Hp->Prop)->Prop):Prop :=
 ∀ (pins:List (Addr × Obj)) (s:Shared) (σ:St) (H:Hp) (x:V) (v:Value) (Q:Bool->Hp->Prop),Inv X pins σ H s->RelV x v->r x H Q ->
  wpAny (model X.prog X.w) X.A (truthy v) (TP X pins σ Q) X.xe s
noncomputable def tOp (r:R2) (ta tb:TE):TE:=fun σ H Q=>ta σ H fun x H1=>tb σ H1 fun y H2=>r x y H2 Q
noncomputable def tUn (r:V->Hp->VK->Prop) (ta:TE):TE:=fun σ H Q=>ta σ H fun x H1=>r x H1 Q
noncomputable def rI (C:Int->Int->Prop) (g:Int->Int->V):R2:=fun x y H Q=>∃ i j,x = .int i/\y = .int j/\C i j/\Q (g i j) H
noncomputable def rI0 (g:Int->Int->V):R2:=fun x y H Q=>∃ i j,x = .int i/\y = .int j/\Q (g i j) H
noncomputable def rU (g:Int->V):V->Hp->VK->Prop:=fun x H Q=>∃ i,x = .int i/\Q (g i) H
section
variable {X:Cx} {a b c:Expr} {ta tb tc:TE} {pos:Pos}
theorem Mx (ha:PE X a ta) (hb:PE X b tb) {pins:List (Addr × Obj)} {s:Shared} {σ:St} {H:Hp} {R:V->V->Hp->Prop} (I:Inv X pins σ H s)
 (h:ta σ H fun x H1=>tb σ H1 fun y H2=>R x y H2) {Q:Value->Shared->Prop} {f:Value->Value->Sem Value}
 (hf:∀ v u s2 x y H2,Inv X pins σ H2 s2->RelV x v->RelV y u->R x y H2->wpAny (model X.prog X.w) X.A (f v u) Q X.xe s2) :
 wpAny (model X.prog X.w) X.A (eval a X.env) (fun v s₁=>wpAny (model X.prog X.w) X.A (eval b X.env) (fun u s₂=>wpAny (model X.prog X.w) X.A (f v u) Q X.xe s₂) X.xe s₁) X.xe s:=by
 refine thn (ha pins s σ H _ I h) fun v s1 zz=>?_;obtain ⟨x,H1,I1,r1,q1⟩:=zz;refine thn (hb pins s1 σ H1 _ I1 q1) fun u s2 zz=>?_;obtain ⟨y,H2,I2,r2,q2⟩:=zz;exact hf v u s2 x y H2 I2 r1 r2 q2
theorem uD {op:Operator} {r:R2} (ho:OpR X (binaryOp op) r) (ha:PE X a ta) (hb:PE X b tb):PE X (.BinOp a op b pos) (tOp r ta tb):=by
 intro pins s σ H Q I h;exact wpAny_BinOp (Mx ha hb I h fun v u s2 x y H2 I2 rx ry q=>ho pins s2 σ H2 x y v u Q I2 rx ry q)
theorem Nz {op:UnaryOp} {r:V->Hp->VK->Prop} (ho:UnR X (unaryOp op) r) (ha:PE X a ta):PE X (.UnaryOp op a pos) (tUn r ta):=by
 intro pins s σ H Q I h;exact UnaryOp_ (thn (ha pins s σ H _ I h) fun v s1 ⟨x,H1,I1,r1,q1⟩=>ho pins s1 σ H1 x v Q I1 r1 q1)
theorem opI {f:Value->Value->Sem Value} {C:Int->Int->Prop} {g:Int->Int->Int}
 (rule:∀ (i j:Int) (t u:Tok) (s:Shared) (Q:Value->Shared->Prop) (E:Value->Shared->Prop),C i j->Q (.int (g i j) s.toks) { s with toks:=s.toks+1 }->wpAny (model X.prog X.w) X.A (f (.int i t) (.int j u)) Q E s) :
 OpR X f (rI C fun i j=>.int (g i j)):=by
 intro pins s σ H x y v u Q I rx ry h;obtain ⟨i,j,rfl,rfl,hc,q⟩:=h;obtain ⟨t,rfl⟩:=rx;obtain ⟨t',rfl⟩:=ry;exact rule i j t t' s _ _ hc ⟨.int (g i j),H,I.tok _,⟨_,rfl⟩,q⟩
theorem NG {f:Value->Value->Sem Value} {g:Int->Int->Int}
 (rule:∀ (i j:Int) (t u:Tok) (s:Shared) (Q:Value->Shared->Prop) (E:Value->Shared->Prop),Q (.int (g i j) s.toks) { s with toks:=s.toks+1 }->wpAny (model X.prog X.w) X.A (f (.int i t) (.int j u)) Q E s) :
 OpR X f (rI0 fun i j=>.int (g i j)):=by
 intro pins s σ H x y v u Q I rx ry h;obtain ⟨i,j,rfl,rfl,q⟩:=h;obtain ⟨t,rfl⟩:=rx;obtain ⟨t',rfl⟩:=ry;exact rule i j t t' s _ _ ⟨.int (g i j),H,I.tok _,⟨_,rfl⟩,q⟩
theorem OB {f:Value->Value->Sem Value} {g:Int->Int->Bool}
 (rule:∀ (i j:Int) (t u:Tok) (s:Shared) (Q:Value->Shared->Prop) (E:Value->Shared->Prop),Q (.bool (g i j)) s->wpAny (model X.prog X.w) X.A (f (.int i t) (.int j u)) Q E s) :
 OpR X f (rI0 fun i j=>.bl (g i j)):=by
 intro pins s σ H x y v u Q I rx ry h;obtain ⟨i,j,rfl,rfl,q⟩:=h;obtain ⟨t,rfl⟩:=rx;obtain ⟨t',rfl⟩:=ry;exact rule i j t t' s _ _ ⟨.bl (g i j),H,I,rfl,q⟩
theorem Lv:OpR X (binaryOp .Add) (rI0 fun i j=>.int (i+j)):=NG fun _ _ _ _ _ _ _ q=>add_int q
theorem Ln:OpR X (binaryOp .Sub) (rI0 fun i j=>.int (i - j)):=NG fun _ _ _ _ _ _ _ q=>sub_int q
theorem Lp:OpR X (binaryOp .Mod) (rI (fun _ j=>0 < j) fun i j=>.int (i % j)):=opI fun i j _ _ _ _ _ hc q=>by
 have h1:(0:Int) < j:=hc;exact mod_int' (by lia) (by rw [Int.fmod_eq_emod_of_nonneg i (by lia)];exact q)
theorem unI {f:Value->Sem Value} {g:Int->Int}
 (rule:∀ (i:Int) (t:Tok) (s:Shared) (Q:Value->Shared->Prop) (E:Value->Shared->Prop),Q (.int (g i) s.toks) { s with toks:=s.toks+1 }->wpAny (model X.prog X.w) X.A (f (.int i t)) Q E s) :
 UnR X f (rU fun i=>.int (g i)):=by
 intro pins s σ H x v Q I rx h;obtain ⟨i,rfl,q⟩:=h;obtain ⟨t,rfl⟩:=rx;exact rule i t s _ _ ⟨.int (g i),H,I.tok _,⟨_,rfl⟩,q⟩
theorem Kq:UnR X (unaryOp .USub) (rU fun i=>.int (-i)):=unI fun _ _ _ _ _ q=>neg_int q
end
noncomputable def Ox:V->V->Bool
 | .non,.non=>true | .non,.int _=>true | .int _,.non=>true | .non,.bl _=>true | .bl _,.non=>true | .non,.str _=>true | .str _,.non=>true
 | .int _,.int _=>true | .bl _,.bl _=>true | .str _,.str _=>true | .byt _,.byt _=>true
 | .int _,.str _=>true | .str _,.int _=>true | .bl _,.str _=>true | .str _,.bl _=>true
 | _,_=>false
noncomputable def rEq:R2:=fun x y H Q=>Ox x y = true/\Q (.bl (decide (x = y))) H
theorem IF {i j:Int}:decide (V.int i = V.int j) = (i == j):=by
 rw [eF];simp
theorem Mf {i j:Bool}:decide (V.bl i = V.bl j) = (i == j):=by
 rw [eF];simp
theorem IE {i j:Str}:decide (V.str i = V.str j) = (i == j):=by
 rw [eF];simp
theorem IG {i j:Array UInt8}:decide (V.byt i = V.byt j) = (i.toList == j.toList):=by
 rw [eF];cases i;cases j;simp
section
variable {X:Cx} {a b c:Expr} {ta tb tc:TE} {pos:Pos}
theorem eP {pins:List (Addr × Obj)} {σ:St} {H:Hp} {s:Shared} {Q:VK} {k k':Bool} (I:Inv X pins σ H s) (q:Q (.bl k) H) (e:k = k'):EP X pins σ Q (.bool k') s:=by
 subst e;exact ⟨.bl k,H,I,rfl,q⟩
theorem NF:OpR X (compareOp .Eq) rEq:=by
 intro pins s σ H x y v u Q I rx ry h;obtain ⟨hs,q⟩:=h
 cases x with
 | non =>
   cases rx
   cases y with
   | non=>cases ry;exact PySem.EqNone.eq_none_none (eP I q (by simp))
   | bl j=>cases ry;exact PySem.EqNone.eq_none_bool (eP I q (by simp))
   | int j=>obtain ⟨t',rfl⟩:=ry;exact PySem.EqNone.eq_none_int (eP I q (by simp))
   | str j=>obtain ⟨t',rfl⟩:=ry;exact PySem.EqNone.eq_none_str (eP I q (by simp))
   | _=>exact absurd (show false = true from hs) ah
 | bl i =>
   cases rx
   cases y with
   | non=>cases ry;exact PySem.EqNone.eq_bool_none (eP I q (by simp))
   | bl j=>cases ry;exact eq_bool (eP I q Mf)
   | str j=>obtain ⟨t',rfl⟩:=ry;exact PySem.EqMixed.eq_bool_str (eP I q (by simp))
   | _=>exact absurd (show false = true from hs) ah
 | int i =>
   obtain ⟨t,rfl⟩:=rx
   cases y with
   | non=>cases ry;exact PySem.EqNone.eq_int_none (eP I q (by simp))
   | int j=>obtain ⟨t',rfl⟩:=ry;exact eq_int (eP I q IF)
   | str j=>obtain ⟨t',rfl⟩:=ry;exact PySem.EqMixed.eq_int_str (eP I q (by simp))
   | _=>exact absurd (show false = true from hs) ah
 | str i =>
   obtain ⟨t,rfl⟩:=rx
   cases y with
   | non=>cases ry;exact PySem.EqNone.eq_str_none (eP I q (by simp))
   | bl j=>cases ry;exact PySem.EqMixed.eq_str_bool (eP I q (by simp))
   | int j=>obtain ⟨t',rfl⟩:=ry;exact PySem.EqMixed.eq_str_int (eP I q (by simp))
   | str j=>obtain ⟨t',rfl⟩:=ry;exact eq_str (eP I q IE)
   | _=>exact absurd (show false = true from hs) ah
 | byt i =>
   obtain ⟨t,rfl⟩:=rx
   cases y with
   | byt j=>obtain ⟨t',rfl⟩:=ry;exact PySem.W.eq_bytes (eP I q IG)
   | _=>exact absurd (show false = true from hs) ah
 | _=>cases y<;>exact absurd (show false = true from hs) ah
theorem ND:OpR X (compareOp .Gt) (rI0 fun i j=>.bl (decide (j < i))):=OB fun _ _ _ _ _ _ _ q=>gt_int q
theorem Ar:OpR X (compareOp .In) (fun x y H Q=>∃ i j,x = .str i/\y = .str j/\Q (.bl (!(Builtin.Str.occurrences j i 0 j.length 1).isEmpty)) H):=by
 intro pins s σ H x y v u Q I rx ry h;obtain ⟨i,j,rfl,rfl,q⟩:=h;obtain ⟨t,rfl⟩:=rx;obtain ⟨t',rfl⟩:=ry;exact in_str (eP I q rfl)
theorem OpR.or {f:Value->Value->Sem Value} {r r':R2} (h:OpR X f r) (h':OpR X f r'):OpR X f (fun x y H Q=>r x y H Q\/r' x y H Q):=by
 intro pins s σ H x y v u Q I rx ry q;rcases q with q | q
 . exact h pins s σ H x y v u Q I rx ry q
 . exact h' pins s σ H x y v u Q I rx ry q
theorem HJ {op:CmpOp} {r:R2} (ho:OpR X (compareOp op) r) (ha:PE X a ta) (hb:PE X b tb) (hm:behindInMarks op b = false):PE X (.Compare a [op] [b] pos) (tOp r ta tb):=by
 intro pins s σ H Q I h;exact wpAny_Compare1 (Mx ha hb I h fun v u s2 x y H2 I2 rx ry q=>ho pins s2 σ H2 x y v u Q I2 rx ry q) hm
noncomputable def Nf (t:TE):TT:=fun σ H Q=>t σ H fun x H'=>∃ k,x = .bl k/\Q k H'
theorem Hz {op:CmpOp} {r:R2} (ho:OpR X (compareOp op) r) (ha:PE X a ta) (hb:PE X b tb) (hm:behindInMarks op b = false):PT X (.Compare a [op] [b] pos) (Nf (tOp r ta tb)):=by
 intro pins s σ H Q I h
 refine wpAny_isTrue_Compare1 (thn (ha pins s σ H _ I h) fun v s1 ⟨x,H1,I1,r1,q1⟩=>thn (hb pins s1 σ H1 _ I1 q1) fun u s2 ⟨y,H2,I2,r2,q2⟩ =>
  thn (ho pins s2 σ H2 x y v u _ I2 r1 r2 q2) fun c s3 ⟨z,H3,I3,r3,k,e,q3⟩=>?_) hm
 subst e;cases r3;exact dn ⟨H3,I3,q3⟩
noncomputable def MB (K:PySem.W.Frag) (x:V) (H:Hp) (k:Bool):Prop :=
 match x with
 | .non=>k = false
 | .bl b=>k = b
 | .int i=>k = (i != 0)
 | .str y=>y.length<=sizeLine/\k = ((y.length:Int) != 0)
 | .byt y=>y.size<=sizeLine/\k = ((y.size:Int) != 0)
 | .ref p=>(∃ xs,SqL K H p xs/\k = !xs.isEmpty)\/(∃ xs,SqT K H p xs/\k = !xs.isEmpty)\/∃ kvs,H p = some (.dK kvs)/\k = !kvs.isEmpty
 | _=>False
theorem wQ {κ:Type} {kvs:List (κ × V)} {vs:List (κ × Value)} (r:KV kvs vs):(!vs.isEmpty) = !kvs.isEmpty:=by
 cases r<;>rfl
theorem oD {xs:List V} {its:List Value} (r:Vals xs its):(!its.toArray.isEmpty) = !xs.isEmpty:=by
 cases r<;>simp
theorem jZ:(sizeLine:Nat) < 2 ^ 63:=by rw [bP];decide
theorem Kt:OS X (fun x H Q=>∃ k,MB X.K x H k/\Q k H):=by
 intro pins s σ H x v Q I rx h;obtain ⟨k,e,q⟩:=h;have hl:=jZ;have hs:sizeLine = 16777216:=bP
 cases x with
 | non =>
   cases rx;have e':k = false:=e;subst e'
   exact truthy_none ⟨H,I,q⟩
 | bl b =>
   cases rx;have e':k = b:=e;subst e'
   exact dn ⟨H,I,q⟩
 | int i =>
   obtain ⟨t,rfl⟩:=rx;have e':k = (i != 0):=e;subst e'
   exact PySem.P.truthy_int ⟨H,I,q⟩
 | str y =>
   obtain ⟨t,rfl⟩:=rx;obtain ⟨hy,e'⟩:y.length<=sizeLine/\k = ((y.length:Int) != 0):=e;subst e'
   exact PySem.P.truthy_str (by lia) ⟨H,I.tok _,q⟩
 | byt y =>
   obtain ⟨t,rfl⟩:=rx;obtain ⟨hy,e'⟩:y.size<=sizeLine/\k = ((y.size:Int) != 0):=e;subst e'
   exact PySem.W.truthy_bytes (by lia) ⟨H,I.tok _,q⟩
 | ref p =>
   cases rx;have e':(∃ xs,SqL X.K H p xs/\k = !xs.isEmpty)\/(∃ xs,SqT X.K H p xs/\k = !xs.isEmpty)\/∃ kvs,H p = some (.dK kvs)/\k = !kvs.isEmpty:=e;rcases e' with ⟨xs,hx,e'⟩ | ⟨xs,hx,e'⟩ | ⟨kvs,hx,e'⟩
   . subst e';obtain ⟨its,r,pl,hz⟩:=I.list hx;have hlen:=r.length;exact wpAny_truthy_list pl.isList (by simp only [az];lia) ⟨H,I.tok _,by rw [oD r];exact q⟩
   . subst e';obtain ⟨its,r,pl,hz⟩:=I.tuple hx;have hlen:=r.length;exact truthy_tuple pl (by simp only [az];lia) ⟨H,I.tok _,by rw [oD r];exact q⟩
   . subst e';obtain ⟨hz,hS,vs,r,m⟩:kvs.length<=sizeLine/\(p == sysModules) = false/\∃ vs,KV kvs vs/\s.heap.DictOf (sr X.prog X.w) p vs:=I.hok p _ hx;have hlen:kvs.length = vs.length:=Paired.length r
     exact wpAny_truthy_dict hS m (by lia) ⟨H,I.tok _,by rw [wQ r];exact q⟩
 | _=>exact (show False from e).elim
theorem ux (ha:PE X a ta) (he:∀ whole,isTrue a X.env whole = (do let v <- whole;standAt a.pos;holding [v] (truthy v))) :
 PT X a (fun σ H Q=>ta σ H fun x H'=>∃ k,MB X.K x H' k/\Q k H'):=by
 intro pins s σ H Q I h;exact isTrue_plain (thn (ha pins s σ H _ I h) fun v s1 ⟨x,H1,I1,r1,q1⟩=>Kt pins s1 σ H1 x v Q I1 r1 q1) (he _)
theorem wF:OpR X (binaryOp .Add) (fun x y H Q=>∃ i j,x = .str i/\y = .str j/\i.length+j.length<=sizeLine/\Q (.str (i++j)) H):=by
 intro pins s σ H x y v u Q I rx ry h;obtain ⟨i,j,rfl,rfl,hz,q⟩:=h;obtain ⟨t,rfl⟩:=rx;obtain ⟨t',rfl⟩:=ry;exact add_str (fun t' tk=>⟨.str (i++j),H,I.tok _,⟨_,rfl⟩,q⟩) hz
theorem vals1 {x:V} {us:List Value} (r:Vals [x] us):∃ u,us = [u]/\RelV x u:=by
 cases r with
 | cons r1 r2=>cases r2;exact ⟨_,rfl,r1⟩
theorem vals2 {x y:V} {us:List Value} (r:Vals [x,y] us):∃ u w',us = [u,w']/\RelV x u/\RelV y w':=by
 cases r with
 | cons r1 r2 =>
   cases r2 with
   | cons r3 r4=>cases r4;exact ⟨_,_,rfl,r1,r3⟩
theorem AS:cm X (.type "int") (fun xs H Q=>(∃ i,xs = [.int i]/\Q (.int i) H)\/∃ k,xs = [.bl k]/\Q (.int (if k then 1 else 0)) H):=by
 intro pins s σ H xs us Q I r h;rcases h with ⟨i,rfl,q⟩ | ⟨k,rfl,q⟩
 . obtain ⟨u,rfl,t,rfl⟩:=vals1 r;exact call_int_int ⟨.int i,H,I,⟨_,rfl⟩,q⟩
 . obtain ⟨u,rfl,r1⟩:=vals1 r;cases r1;exact call_int_bool ⟨.int (if k then 1 else 0),H,I.tok _,⟨_,rfl⟩,q⟩
end
end L2
namespace L2
open PySem PySem.Spec PyProof.Rows
structure OU (h:Heap) (x dx C:Addr) (mA:Str->Option Value):Prop where
 obj:h.get? x = some (PySem.W.instObj C dx)
 ns:h.Ns1 dx mA
 ne:dx≠x
section
variable {prog:Program} {w:World} {A:Around} {E:Value->Shared->Prop} {s:Shared} {K:PySem.W.Frag} {x dx C f:Addr} {mA:Str->Option Value} {name:Str} {v:Value}
end
section
variable {P:Program} {w:World} {H H':Hp} {h h':Heap} {a C dx:Addr} {fs fs':List (Str × V)}
end
structure Cls (K:PySem.W.Frag) (C:Addr):Prop where
 pg:PySem.W.plainGet K C Str.empty = true
 hd:PySem.W.hasDictIn K C = true
 po:PySem.W.plainOver K C = true
 sa:PySem.W.findIn K (.ref C) "__setattr__" = some (some (.builtin "object.__setattr__"))
structure Con (K:PySem.W.Frag) (C:Addr) (f:Str) (v:V) (u:Value):Prop where
 at_:PySem.W.findIn K (.ref C) f = some (some u)
 rel:RelV v u
 get:PySem.W.specialIn K u "__get__" = some none
 cp:PySem.W.copiedNames.contains f = false
structure Meth (K:PySem.W.Frag) (C:Addr) (m:Str) (f:Addr):Prop where
 at_:PySem.W.findIn K (.ref C) m = some (some (.ref f))
 fn:PySem.W.isFn K (.ref f) = true
 kp:PySem.W.keepIn K (.ref f) = true
section
variable {X:Cx} {pins:List (Addr × Obj)} {σ:St} {H:Hp} {s:Shared} {a C dx:Addr} {fs:List (Str × V)} {f:Str} {v:V} {A:Around} {E:Value->Shared->Prop}
end
section
variable {X:Cx} {o e value:Expr} {f:Str} {pos pos' tpos:Pos} {ta tv:TE}
end
section
variable {X:Cx} {pins:List (Addr × Obj)} {σ:St} {H:Hp} {s:Shared} {A:Around} {E:Value->Shared->Prop} {Q:Value->Shared->Prop} {c:Value} {b:Bool}
inductive pf (K:PySem.W.Frag) (H:Hp):V->Value->Prop where
 | non:pf K H .non (.type "NoneType")
 | bl (x:Bool):pf K H (.bl x) (.type "bool")
 | int (i:Int):pf K H (.int i) (.type "int")
 | str (x:Str):pf K H (.str x) (.type "str")
 | flt (x:UInt64):pf K H (.flt x) (.type "float")
 | lst {a:Addr} {xs:List V} (e:H a = some (.lst xs)):pf K H (.ref a) (.type "list")
 | frz {a:Addr} {o:Obj} {xs:List V} (e:H a = some (.frz o (.lst xs))):pf K H (.ref a) (.type "list")
 | tup {a:Addr} {xs:List V} (e:H a = some (.tup xs)):pf K H (.ref a) (.type "tuple")
 | dK {a:Addr} {kvs:List (Key × V)} (e:H a = some (.dK kvs)):pf K H (.ref a) (.type "dict")
 | dT {a:Addr} {kvs:List (List Key × V)} (e:H a = some (.dT kvs)):pf K H (.ref a) (.type "dict")
 | ins {a C dx:Addr} {fs:List (Str × V)} (e:H a = some (.ins C dx fs)) (cl:Cls K C) (ha:PySem.W.findIn K (.ref C) "__class__" = some (some (.builtin "object.__class__")))
    (hn:PySem.W.specialIn K (.builtin "object.__class__") "__get__" = some (some (.builtin "getset_descriptor.__get__"))) (htk:PySem.W.takesIn K (.builtin "object.__class__") = some true)
    (hm:PySem.W.mroIn K C (.type "object") = some true):pf K H (.ref a) (.ref C)
end
end L2
namespace L2
open PySem PySem.Spec PyProof.Rows
structure iT (k:Nat) (A:Around):Prop where
 hd:A.handled = none
 dp:A.depth+3 * k+5 < recursionLimit
 un:A.units+16 * k+200 < cLine
theorem iT.deeper {k:Nat} {A:Around} (r:iT (k+1) A) (env:Env):iT k (A.deeper env) :=
 ⟨r.hd,by have:=r.dp;show A.depth+1+3 * k+5 < _;lia,by have:=r.un;show A.units+3+16 * k+200 < _;lia⟩
theorem iT.depth {k:Nat} {A:Around} (r:iT k A):A.depth < recursionLimit:=by have:=r.dp;lia
noncomputable def zV:TA:=fun _ H Q=>Q [] H
noncomputable def kv (ta:TE) (tr:TA):TA:=fun σ H Q=>ta σ H fun x H1=>tr σ H1 fun xs H2=>Q (x::xs) H2
section
variable {X:Cx} {e:Expr} {es:List Expr} {te:TE} {t:TA} {pos:Pos}
theorem iI:PA X [] zV:=fun _ _ _ _ H Q I h=>Calls.spliced_nil ⟨[],H,I,.nil,h⟩
theorem fb (ha:PE X e te) (hr:PA X es t) (hs:starEach (e::es) X.env = (false,eval e X.env)::starEach es X.env:=by rfl):PA X (e::es) (kv te t):=by
 intro pos pins s σ H Q I h;rw [hs];show wpAny _ _ (spliced ((false,eval e X.env)::backTo pos (starEach es X.env))) _ _ s;refine Calls.spliced_cons (thn (ha pins s σ H _ I h) fun u s1 ⟨x,H1,I1,r1,q1⟩=>?_);exact thn (hr pos pins s1 σ H1 _ I1 q1) fun us s2 ⟨xs,H2,I2,r2,q2⟩=>⟨x::xs,H2,I2,.cons r1 r2,q2⟩
noncomputable def Oe (t:TA):TE:=fun σ H Q=>t σ H fun xs H1=>xs.length<=sizeLine/\∀ p,H1 p = none->Q (.ref p) (upd H1 p (.tup xs))
noncomputable def Ol (t:TA):TE:=fun σ H Q=>t σ H fun xs H1=>xs.length<=sizeLine/\∀ p,H1 p = none->Q (.ref p) (upd H1 p (.lst xs))
theorem Lh {x1} (h:PA X es t):PE X (.Tuple es x1 pos) (Oe t):=by
 intro pins s σ H Q I hq;refine wpAny_Tuple_spliced (thn (h pos pins s σ H _ I hq) fun us s1 ⟨xs,H1,I1,r,z,q⟩=>⟨by rw [<- r.length];exact z,?_⟩);have hf:H1 s1.heap.objs.size = none:=I1.hok.fresh (av _);refine ⟨.ref s1.heap.objs.size,upd H1 s1.heap.objs.size (.tup xs),I1.laid (t':=s1.toks) (fun b u e=>af _ e) (av _) ?_,rfl,q _ hf⟩;exact ⟨z,us,r,⟨_,aA _ rfl,rfl,_,rfl⟩⟩
theorem DG (h:PA X es t):PE X (.List es pos) (Ol t):=by
 intro pins s σ H Q I hq;refine wpAny_List_spliced (thn (h pos pins s σ H _ I hq) fun us s1 ⟨xs,H1,I1,r,z,q⟩=>⟨by rw [<- r.length];exact z,?_⟩);have hf:H1 s1.heap.objs.size = none:=I1.hok.fresh (av _);refine ⟨.ref s1.heap.objs.size,upd H1 s1.heap.objs.size (.lst xs),I1.laid (t':=s1.toks) (fun b u e=>af _ e) (av _) ?_,rfl,q _ hf⟩;exact ⟨z,us,0,r,aA _ rfl⟩
end
abbrev Sp:=List V->Hp->VK->XK->Prop
abbrev CXT:=List Env->Hp->Shared->XK->Value->Shared->Prop
structure IW (P:Program) (w:World) (K:PySem.W.Frag) (mg:Str->Option Value) (base:Heap) (A:Around) (outer:List Env) (s:Shared) (H:Hp):Prop where
 frames:A.frames = some outer
 mod:Mod K mg base
 bs:∀ b o,base.get? b = some o->s.heap.get? b = some o/\H b = none
 bsz:base.objs.size<=s.heap.objs.size
 funs:s.heap.FunFrames base outer
 frf:∀ b∈frs outer,H b = none
 hok:HOk P w H s.heap
 bare:AllBare s.gens
noncomputable def CE (outer:List Env) (P:Program) (w:World) (H:Hp) (s:Shared) (Q:VK) (u:Value) (s':Shared):Prop :=
 ∃ v H',s'.os = s.os/\AllBare s'.gens/\Un (frs outer) [] H H' s.heap s'.heap/\HOk P w H' s'.heap/\RelV v u/\Q v H'
noncomputable def CR (CX:CXT) (outer:List Env) (P:Program) (w:World) (H:Hp) (s:Shared) (Q:VK) (E:XK) (r:Result) (s':Shared):Prop :=
 match r with
 | .ok (.ret u)=>CE outer P w H s Q u s'
 | .ok _=>False
 | .error e=>CX outer H s E e s'
structure gf (P:Program) (w:World) (K:PySem.W.Frag) (mg:Str->Option Value) (base:Heap) (CX:CXT) (k:Nat) (f:Addr) (fd:FuncData) (ps:List Str) (sp:Sp):Prop where
 len:∀ vs H Q E,sp vs H Q E->vs.length = ps.length
 run:∀ (A:Around) (outer:List Env) (s:Shared) (H:Hp) (args:Args) (us:List Value) (vs:List V) (Q:VK) (E:XK),iT k A->IW P w K mg base A outer s H->BindsTo s fd args (ps.zip us)->Vals vs us->sp vs H Q E ->
  codeAny (model P w) A (.call (.ref f) args) (CR CX outer P w H s Q E) s
section
variable {X:Cx} {pins:List (Addr × Obj)} {σ:St} {H:Hp} {s s':Shared}
theorem Inv.env0 (I:Inv X pins σ H s):IW X.prog X.w X.K X.mg X.base X.A X.stack s H :=
 ⟨I.ok.frames,I.ok.mod,I.bs,aY I.ok.bsz I.sz,I.stack,I.stkFree,I.hok,I.bare⟩
theorem Inv.after {Q:VK} {u:Value} (I:Inv X pins σ H s) (h:CE X.stack X.prog X.w H s Q u s'):EP X pins σ Q u s':=by
 obtain ⟨v,H',os,bare,un,hok,r,q⟩:=h;obtain ⟨hh,g,d,t,os'⟩:=s';obtain rfl:os' = s.os:=os;exact ⟨v,H',I.call (h':=hh) (g':=g) (d':=d) (t':=t) (ch:=[]) un hok bare (fun b z=>absurd z (by simp)),r,q⟩
end
noncomputable def Nl (sp:Sp) (dvs:List V) (E:XK) (t:TA):TE:=fun σ H Q=>t σ H fun vs H1=>sp (vs++dvs) H1 Q E
noncomputable def Binds (K:PySem.W.Frag) (fd:FuncData) (ps:List Str) (ds:List Value):Prop :=
 ∀ (s:Shared) (us:List Value),K.In s.heap->(us++ds).length = ps.length->BindsTo s fd ⟨us,[]⟩ (ps.zip (us++ds))
theorem Binds.all {K:PySem.W.Frag} {fd:FuncData} {ps:List Str} (h:∀ us:List Value,us.length = ps.length->bindArgs fd ⟨us,[]⟩ = pure (ps.zip us)):Binds K fd ps []:=fun s us _ hl=>by
 rw [cc] at hl ⊢;exact .of_eq (h us hl)
noncomputable def Passes (CX:CXT) (X:Cx) (E:XK):Prop:=∀ (pins:List (Addr × Obj)) (σ:St) (H:Hp) (s:Shared) (e:Value) (s':Shared),Inv X pins σ H s->CX X.stack H s E e s'->X.xe e s'
section
variable {X:Cx} {CX:CXT} {k:Nat} {f C:Addr} {fd:FuncData} {ps:List Str} {sp:Sp} {dvs:List V} {ds:List Value} {E:XK} {x m:Str} {p pos apos:Pos} {e o:Expr} {es:List Expr} {ta:TE} {t:TA}
theorem KU {pins:List (Addr × Obj)} {σ:St} {H:Hp} {s:Shared} {Q:VK} {us:List Value} {vs:List V} (F:gf X.prog X.w X.K X.mg X.base CX k f fd ps sp) (hr:iT k X.A) (hb:Binds X.K fd ps ds) (hd:Vals dvs ds) (hx:Passes CX X E)
 (I:Inv X pins σ H s) (r:Vals vs us) (h:sp (vs++dvs) H Q E):wpAny (model X.prog X.w) X.A (call (.ref f) us) (EP X pins σ Q) X.xe s:=by
 have r2:Vals (vs++dvs) (us++ds):=r.append hd;have hl:(us++ds).length = ps.length:=by rw [<- r2.length];exact F.len _ _ _ _ h
 refine MG (ir (F.run X.A X.stack s H ⟨us,[]⟩ (us++ds) (vs++dvs) Q E hr I.env0 (hb s us I.kIn hl) r2 h) fun r s' hq=>?_)
 cases r with
 | error e=>exact hx pins σ H s e s' I hq
 | ok fl =>
   cases fl with
   | ret u=>exact I.after hq
   | next=>exact False.elim hq
   | brk=>exact False.elim hq
   | cont=>exact False.elim hq
theorem HK (F:gf X.prog X.w X.K X.mg X.base CX k f fd ps sp) (hr:iT k X.A) (hg:Gl X x) (hm:X.mg x = some (.ref f)) (hk:PySem.W.keepIn X.K (.ref f) = true) (hb:Binds X.K fd ps ds) (hd:Vals dvs ds) (hx:Passes CX X E)
 (ha:PA X (e::es) t) (hdb:(x == ("__debug__":Str)) = false:=by decide) (he:starEach (e::es) X.env = (false,eval e X.env)::starEach es X.env:=by rfl) (hpl:(backTo pos (starEach es X.env)).any (·.1) = false:=by rfl) :
 PE X (.Call (.Name x p) (e::es) [] pos) (Nl sp dvs E t):=by
 intro pins s σ H Q I h;refine fR (jH I hg hm ?_ hdb);refine PySem.W.callWith_K (h₀:=X.base) I.ok.mod.kin hk (thn (ha pos pins s σ H _ I h) fun us s1 ⟨vs,H1,I1,r,q⟩=>⟨I1.kIn,?_⟩) he hpl;exact KU F hr hb hd hx I1 r q
structure Mk (K:PySem.W.Frag) (C f:Addr):Prop where
 makes:PySem.W.makesIn K C = true
 init:PySem.W.findIn K (.ref C) "__init__" = some (some (.ref f))
 fn:PySem.W.isFn K (.ref f) = true
 kp:PySem.W.keepIn K (.ref C) = true
end
noncomputable def PK (X:Cx) (kws:List Keyword) (t:TA):Prop :=
 ∀ (pos:Pos) (pins:List (Addr × Obj)) (s:Shared) (σ:St) (H:Hp) (Q:List V->Hp->Prop),Inv X pins σ H s->t σ H Q->wpAny (model X.prog X.w) X.A (evalAll ((backToKw pos (keywordEach kws X.env)).map (·.2))) (AP X pins σ Q) X.xe s
section
variable {X:Cx} {CX:CXT} {k:Nat} {f C:Addr} {fd:FuncData} {ps ks:List Str} {sp:Sp} {E:XK} {x m:Str} {p pos apos kpos:Pos} {e o:Expr} {es:List Expr} {kws:List Keyword} {te ta:TE} {t tk:TA} {nm:Option Str}
theorem Lb:PK X [] zV:=fun _ _ _ _ H Q I h=>wpAny_evalAll_nil ⟨[],H,I,.nil,h⟩
theorem HE (ha:PE X e te) (hr:PK X kws t):PK X (⟨nm,e,kpos⟩::kws) (kv te t):=by
 intro pos pins s σ H Q I h;show wpAny _ _ (evalAll ((do let v <- eval e X.env;standAt pos;pure v)::(backToKw pos (keywordEach kws X.env)).map (·.2))) _ _ s;refine wpAny_evalAll_cons (ae (thn (ha pins s σ H _ I h) fun u s1 ⟨x,H1,I1,r1,q1⟩=>ae (gN (ai ?_))));exact thn (hr pos pins s1 σ H1 _ I1 q1) fun us s2 ⟨xs,H2,I2,r2,q2⟩=>⟨x::xs,H2,I2,.cons r1 r2,q2⟩
structure OT (K:PySem.W.Frag) (fd:FuncData) (ps ks:List Str) (g:List Value->List Value->List Value) (gV:List V->List V->List V):Prop where
 to:∀ (s:Shared) (us ws:List Value),K.In s.heap->(g us ws).length = ps.length->BindsTo s fd ⟨us,ks.zip ws⟩ (ps.zip (g us ws))
 rel:∀ {vs:List V} {us:List Value} {zs:List V} {ws:List Value},Vals vs us->Vals zs ws->Vals (gV vs zs) (g us ws)
variable {g:List Value->List Value->List Value} {gV:List V->List V->List V}
end
structure bA (N P:List Str) (sc:Scope):Prop where
 kind:sc.kind = .function
 co:sc.isCoroutine = false
 gen:sc.isGenerator = false
 nd:N.Nodup
 pre:N.take P.length = P
 par:∀ x∈P,sc.names.lookup x = some .local\/sc.names.lookup x = some .cell
 nofree:∀ y∈sc.names,y.2≠.free
theorem qL {kindOf:Str->Option NameKind} {x:Str}:∀ {binds:List (Str × Value)} {m:Str->Option Value},(∀ v,(x,v)∉binds)->bindL kindOf binds m x = m x
 | [],_,_=>rfl
 | (n,v)::r,m,h=>by
   unfold bindL;rw [qL fun w hw=>h w (ak _ hw)];split
   . have:x≠n:=by rintro rfl;exact h v ao
     simp [this]
   . rfl
theorem qN {kindOf:Str->Option NameKind} {x:Str}:∀ {binds:List (Str × Value)} {m:Str->Option Value},(∀ v,(x,v)∉binds)->bindC kindOf binds m x = m x
 | [],_,_=>rfl
 | (n,v)::r,m,h=>by
   unfold bindC;rw [qN fun w hw=>h w (ak _ hw)];split
   . rfl
   . have:x≠n:=by rintro rfl;exact h v ao
     simp [this]
theorem qM {kindOf:Str->Option NameKind} {x:Str} {v:Value}:∀ {P:List Str} {vs:List Value} {i:Nat} {m:Str->Option Value},P.Nodup->P[i]? = some x->vs[i]? = some v->kindOf x = some .local ->
 bindL kindOf (P.zip vs) m x = some v
 | [],_,_,_,_,h,_,_=>by simp at h
 | _::_,[],_,_,_,_,h,_=>by simp at h
 | p::P,w::vs,0,m,nd,h1,h2,hk=>by
   simp at h1 h2;subst h1;subst h2;show bindL kindOf ((p,w)::P.zip vs) m p = _;unfold bindL;rw [qL fun v hv=>(fy.mp nd).1 (pD hv).1,if_pos hk]
   simp
 | p::P,w::vs,i+1,m,nd,h1,h2,hk=>by
   show bindL kindOf ((p,w)::P.zip vs) m x = _;unfold bindL;exact qM (i:=i) (fy.mp nd).2 (by simpa using h1) (by simpa using h2) hk
theorem qO {kindOf:Str->Option NameKind} {x:Str} {v:Value}:∀ {P:List Str} {vs:List Value} {i:Nat} {m:Str->Option Value},P.Nodup->P[i]? = some x->vs[i]? = some v->kindOf x≠some .local ->
 bindC kindOf (P.zip vs) m x = some v
 | [],_,_,_,_,h,_,_=>by simp at h
 | _::_,[],_,_,_,_,h,_=>by simp at h
 | p::P,w::vs,0,m,nd,h1,h2,hk=>by
   simp at h1 h2;subst h1;subst h2;show bindC kindOf ((p,w)::P.zip vs) m p = _;unfold bindC;rw [qN fun v hv=>(fy.mp nd).1 (pD hv).1,if_neg hk]
   simp
 | p::P,w::vs,i+1,m,nd,h1,h2,hk=>by
   show bindC kindOf ((p,w)::P.zip vs) m x = _;unfold bindC;exact qO (i:=i) (fy.mp nd).2 (by simpa using h1) (by simpa using h2) hk
noncomputable def start (N:List Str) (vs:List V):St:=vs.map some++List.replicate (N.length - vs.length) none
noncomputable def jt (CX:CXT) (P:Program) (w:World) (K:PySem.W.Frag) (mg:Str->Option Value) (base:Heap) (N:List Str) (qual:Str) (scope:Scope) (f:Addr) (cd:Value) (A:Around) (outer:List Env) (s:Shared) (H:Hp) (E:XK):Cx where
 prog:=P
 w:=w
 K:=K
 mg:=mg
 base:=base
 A:=A.deeper (envOfC qual scope s.heap.objs.size f cd)
 N:=N
 s₀:=s
 H₀:=H
 env:=envOfC qual scope s.heap.objs.size f cd
 outer:=outer
 stack:=envOfC qual scope s.heap.objs.size f cd::outer
 ex:=[]
 calm:=true
 fn:=fun _=>true
 pn:=[]
 xe:=fun e s'=>wpAny (model P w) (A.deeper (envOfC qual scope s.heap.objs.size f cd)) (leaving (envOfC qual scope s.heap.objs.size f cd) e) (fun _ s''=>CX outer H s E e s'') (fun e' s''=>CX outer H s E e' s'') s'
theorem vi {sc:Scope} {n:Nat} {x:Str} (h:sc.names.lookup x = some .cell):∃ c,(cellsFrom n sc.names []).lookup x = some c:=by
 have q:=PySem.W.cellsFrom_some sc.names n [] (.inl h);exact fh.mp q
theorem Az {CX:CXT} {P:Program} {w:World} {K:PySem.W.Frag} {mg:Str->Option Value} {base:Heap} {N ps:List Str} {qual:Str} {scope:Scope} {f:Addr} {cd:Value} {A:Around} {outer:List Env} {s s1:Shared} {H:Hp} {E:XK} {us:List Value} {vs:List V}
 (S:bA N ps scope) (hd:A.handled = none) (e0:IW P w K mg base A outer s H) (hl:vs.length = ps.length) (r:Vals vs us)
 (x:InCallC s s.heap.objs.size (bindL (envOfC qual scope s.heap.objs.size f cd).kindOf (ps.zip us) fun _=>none) (cellsFrom (s.heap.objs.size+1) scope.names []) (bindC (envOfC qual scope s.heap.objs.size f cd).kindOf (ps.zip us) fun _=>none) s1) :
 Inv (jt CX P w K mg base N qual scope f cd A outer s H E) [] (start N vs) H s1:=by
 have hpl:ps.length<=N.length:=by have:=congrArg List.length S.pre;rw [bj] at this;lia
 obtain ⟨h1,tk,rfl,hk⟩:=x.done;have noA:∀ b:Addr,b∉(jt CX P w K mg base N qual scope f cd A outer s H E).ex:=fun b z=>absurd (show b∈([]:List Addr) from z) (by simp)
 refine ⟨⟨e0.mod,S.kind,rfl,rfl,av _,fun y z c h1 h2=>?_,fun y hy=>?_,fun y c _ h=>?_,fun _=>hd,Around.frames_deeper e0.frames,.inr ⟨rfl,rfl⟩,fun b z=>absurd z (noA b),e0.bs,e0.bsz,fun b _ _=>noA b,fun b z=>absurd z (noA b),e0.funs,e0.frf⟩,
  rfl,e0.bare,Un.kept hk,⟨_,x.toInCall.ns,fun i y v h1 h2 h3=>?_⟩,fun y c h=>⟨_,x.cell y c h⟩,e0.hok.fresh (av _),fun y c h=>?_,fun p hp=>absurd (show p∈([]:List (Addr × Obj)) from hp) (by simp),e0.hok.kept hk,?_⟩
 . exact name_of_addr x.apart (PySem.mem_of_lookup h1) (PySem.mem_of_lookup h2)
 . have hy:scope.names.lookup y = some .cell\/scope.names.lookup y = some .free:=hy;rcases hy with hy | hy
   . exact vi hy
   . exact absurd rfl (S.nofree _ (PySem.mem_of_lookup hy))
 . exact mE (x.above y c (PySem.mem_of_lookup h))
 . have hi:i < vs.length:=by
    unfold start at h2;by_cases hi:i < vs.length
    . exact hi
    . rw [aZ (by simpa using hi)] at h2;rw [fI] at h2;split at h2<;>cases h2
   have ha:vs[i]? = some v:=by
    unfold start at h2;rw [aO (by simpa using hi),aQ] at h2
    cases e:vs[i]? with
    | none=>rw [e] at h2;cases h2
    | some a=>rw [e] at h2;cases h2;rfl
   obtain ⟨u,hu,rv⟩:=r.get ha
   have hp:ps[i]? = some y:=by
    rw [<- S.pre,cW (by lia)];exact h1
   have ndP:ps.Nodup:=by rw [<- S.pre];exact S.nd.sublist (List.take_sublist _ _)
   refine ⟨u,rv,?_⟩;rcases S.par y (bu hp) with k | k
   . exact .inl ⟨k,qM ndP hp hu k⟩
   . obtain ⟨c,e⟩:=vi (n:=s.heap.objs.size+1) k;refine .inr ⟨.inl k,c,e,?_⟩;have q:=x.cell y c e;rw [qO ndP hp hu (by show scope.names.lookup y≠_;rw [k];decide)] at q;exact q
 . exact e0.hok.fresh (mE (x.above y c (PySem.mem_of_lookup h)))
 . unfold start;show _ = N.length;rw [au,aq,fX]
   lia
theorem Jy {CX:CXT} {P:Program} {w:World} {K:PySem.W.Frag} {mg:Str->Option Value} {base:Heap} {k:Nat} {f:Addr} {name qual:Str} {params:Arguments} {body:List Stmt} {scope:Scope} {dV kV doc pm cdv ct oc:Value} {an od:Option Addr}
 {osl:Array (Option Value)} {N ps:List Str} {sp:Sp} (lk:K.lookup f = some ⟨oc,od,.func (PySem.W.fnOf name qual params body scope dV kV doc pm an cdv ct),osl⟩) (hcd:PySem.W.codeIn K cdv qual = true) (S:bA N ps scope)
 (len:∀ vs H Q E,sp vs H Q E->vs.length = ps.length)
 (hbody:∀ (A:Around) (outer:List Env) (s:Shared) (H:Hp) (vs:List V) (Q:VK) (E:XK),iT k (A.deeper (envOfC qual scope s.heap.objs.size f cdv))->sp vs H Q E ->
   ∃ t,PSs (jt CX P w K mg base N qual scope f cdv A outer s H E) body t/\t { nx:=fun _ H'=>Q .non H',rt:=Q } (start N vs) H) :
 gf P w K mg base CX (k+1) f (PySem.W.fnOf name qual params body scope dV kV doc pm an cdv ct) ps sp:=by
 refine ⟨len,fun A outer s H args us vs Q E hr e0 hb r hsp=>?_⟩;have hl:=len _ _ _ _ hsp;have KX:K.In s.heap:=e0.mod.kin.keeps fun b o e=>(e0.bs b o e).1;have lim:s.heap.NoLimit:=e0.mod.nolimit.keeps fun b o e=>(e0.bs b o e).1
 have hkind:∀ y∈ps.zip us,scope.names.lookup y.1 = some .local\/(scope.names.lookup y.1 = some .cell/\((cellsFrom (s.heap.objs.size+1) scope.names []).lookup y.1).isSome = true):=fun ⟨n,v⟩ hy=>by
  rcases S.par n (pD hy).1 with q | q
  . exact .inl q
  . exact .inr ⟨q,PySem.W.cellsFrom_some _ _ _ (.inl q)⟩
 refine codeAny_call_function hr.depth (KX _ _ lk) rfl S.co S.gen rfl (PySem.W.codeRec_of KX hcd) (hb _ _ _ _ ?_);refine wpAny_newFunctionEnv_cells S.kind hkind fun env he s1 x=>?_;subst he;refine ⟨lim.keeps x.toInCall.keep,codeAny_func ?_⟩;obtain ⟨t,ht,hq⟩:=hbody A outer s H vs Q E (hr.deeper _) hsp;have I:Inv (jt CX P w K mg base N qual scope f cdv A outer s H E) [] (start N vs) H s1:=Az S hr.hd e0 hl r x;refine cN (ht [] s1 (start N vs) H _ I hq) (fun fl s' hs=>?_) fun e s' hs=>hs
 have fin:∀ {σ':St} {H':Hp} {v:V} {u:Value},Inv (jt CX P w K mg base N qual scope f cdv A outer s H E) [] σ' H' s'->RelV v u->Q v H'->CE outer P w H s Q u s' :=
  fun {σ' H' v u} J rv q=>⟨v,H',J.os,J.bare,J.base,J.hok,rv,q⟩
 cases fl with
 | ret u =>
   obtain ⟨v,σ',H',J,rv,q⟩:=hs
   exact fin J rv q
 | next =>
   obtain ⟨σ',H',J,q⟩:=hs
   exact fin (v:=V.non) (u:=Value.none) J rfl q
 | brk =>
   obtain ⟨_,_,_,q⟩:=hs
   exact False.elim q
 | cont =>
   obtain ⟨_,_,_,q⟩:=hs;exact False.elim q
end L2
namespace L2
open PySem PySem.Spec PyProof.Rows
section
variable {X:Cx} {x:Str} {p pos:Pos} {e:Expr} {es:List Expr} {t:TA} {id T:String} {r:List V->Hp->VK->Prop}
noncomputable def tCB (r:List V->Hp->VK->Prop) (t:TA):TE:=fun σ H Q=>t σ H fun vs H1=>r vs H1 Q
theorem fW (hc:cm X (.builtin id) r) (hg:Gl X x) (hm:X.mg x = none) (hv:bootBuiltins x = some (.builtin id)) (ha:PA X (e::es) t) (hn:x≠"__name__":=by decide) (hdb:(x == ("__debug__":Str)) = false:=by decide)
 (he:starEach (e::es) X.env = (false,eval e X.env)::starEach es X.env:=by rfl) (hpl:(backTo pos (starEach es X.env)).any (·.1) = false:=by rfl):PE X (.Call (.Name x p) (e::es) [] pos) (tCB r t):=by
 intro pins s σ H Q I h;refine fR (lr I hg hm hv ?_ hn hdb);exact PyProof.Rows.callWith_builtin1 (thn (ha pos pins s σ H _ I h) fun us s1 ⟨vs,H1,I1,r1,q1⟩=>hc pins s1 σ H1 vs us Q I1 r1 q1) he hpl
theorem ig (hc:cm X (.type T) r) (hg:Gl X x) (hm:X.mg x = none) (hv:bootBuiltins x = some (.type T)) (ha:PA X (e::es) t) (hn:x≠"__name__":=by decide) (hdb:(x == ("__debug__":Str)) = false:=by decide)
 (he:starEach (e::es) X.env = (false,eval e X.env)::starEach es X.env:=by rfl) (hpl:(backTo pos (starEach es X.env)).any (·.1) = false:=by rfl):PE X (.Call (.Name x p) (e::es) [] pos) (tCB r t):=by
 intro pins s σ H Q I h;refine fR (lr I hg hm hv ?_ hn hdb);exact fV (thn (ha pos pins s σ H _ I h) fun us s1 ⟨vs,H1,I1,r1,q1⟩=>hc pins s1 σ H1 vs us Q I1 r1 q1) he hpl
end
end L2
namespace HT
open PySem PyProof.Rows
section
open PySem.SeqAt
open PySem.AutoSeq1 (wpAny_loadPart')
open PySem.MeetsSeq PySem.MeetsSeq2 PySem.MeetsSeq3
end
section
variable {prog:Program} {w:World} {A:Around} {E:Value->Shared->Prop} {s:Shared}
theorem cat_tup {t b:Addr} {vs ws:List Value} {Q:Value->Shared->Prop} (ht:IsTup s.heap t vs.toArray) (hb:IsTup s.heap b ws.toArray) (hv:vs≠[])
 (h1:ws = []->Q (.ref t) s) (h2:ws≠[]->Q (.ref s.heap.objs.size) { s with heap:=s.heap.push { cls:=.type "tuple",data:=.seq (vs++ws).toArray } })
 (hsz:vs.length+ws.length<=sizeLine):wpAny (model prog w) A (binaryOp .Add (.ref t) (.ref b)) Q E s:=by
 obtain ⟨⟨cls,dd,data,sl⟩,ho,hc,n,hd⟩:=id ht;obtain ⟨⟨cls2,dd2,data2,sl2⟩,ho2,hc2,n2,hd2⟩:=id hb;simp only at hc hd hc2 hd2;subst hc hd hc2 hd2;have e:vs.toArray++ws.toArray = (vs++ws).toArray:=by simp
 by_cases hw:ws = []
 . exact FG ⟨_,ho,rfl⟩ ⟨_,ho2,rfl⟩ jP nh PySem.F.slot_tuple_add PySem.F.entry_tuple_add (PySem.F.args_tuple_add_2 _ _)
    (tuple_addW1 t b vs.toArray ws.toArray n n2 dd dd2 sl sl2 (by simpa using hv) (by simp [hw])) ⟨ho,ho2,h1 hw⟩
 . refine FG ⟨_,ho,rfl⟩ ⟨_,ho2,rfl⟩ jP nh PySem.F.slot_tuple_add PySem.F.entry_tuple_add (PySem.F.args_tuple_add_2 _ _)
    (tuple_addW2 t b vs.toArray ws.toArray n n2 dd dd2 sl sl2 (by simpa using hv) (by simpa using hw) (by rw [az,az];exact hsz)) ⟨ho,ho2,?_⟩
   rw [e];exact h2 hw
noncomputable def sIx (n d:Nat):Option Int->Nat
 | none=>d
 | some v=>if v < 0 then (v+(n:Int)).toNat else min v.toNat n
theorem sIx_nat (n d k:Nat):sIx n d (some (k:Int)) = min k n:=by
 show (if (k:Int) < 0 then ((k:Int)+(n:Int)).toNat else min (k:Int).toNat n) = min k n;rw [if_neg (by lia),iC]
theorem KS (n d:Nat) (hd:d<=n) (o:Option Int):sIx n d o<=n:=by
 cases o with
 | none=>exact hd
 | some v =>
   show (if v < 0 then (v+(n:Int)).toNat else min v.toNat n)<=n;by_cases hv:v < 0
   . rw [if_pos hv];lia
   . rw [if_neg hv];exact iV _ _
theorem yW (v:Int) (n d:Nat):(if v < 0 then max (v+(n:Int)) 0 else min v (n:Int)) = ((sIx n d (some v):Nat):Int):=by
 show (if v < 0 then max (v+(n:Int)) 0 else min v (n:Int)) = (((if v < 0 then (v+(n:Int)).toNat else min v.toNat n):Nat):Int);by_cases hv:v < 0
 . simp only [if_pos hv];lia
 . simp only [if_neg hv];lia
theorem xm (lo hi:Option Int) (n:Nat):Builtin.Slice.sliceAdjust lo hi 1 (n:Int) = (((sIx n 0 lo:Nat):Int),((sIx n n hi:Nat):Int)):=by
 have h1:¬ ((1:Int) < 0):=by lia
 unfold Builtin.Slice.sliceAdjust;simp only [h1,if_false];refine Prod.ext ?_ ?_
 . cases lo with
   | none=>rfl
   | some v=>exact yW v n 0
 . cases hi with
   | none=>rfl
   | some v=>exact yW v n n
theorem wC (i j:Nat):Builtin.Slice.slicePlaces (i:Int) (j:Int) 1 = j - i:=by
 unfold Builtin.Slice.slicePlaces;have h1:(1:Int) > 0:=by lia
 simp only [h1,if_true,Int.ediv_one];split<;>lia
theorem nN {v:Value} {o:Option Int} {Q:Option Int->Shared->Prop} (p:IsPart v o) (h:Q o s):wpAny (model prog w) A (Builtin.Slice.slicePartIndex v) Q E s:=by
 cases p with
 | none=>exact slicePart_none h
 | int i t=>exact slicePart_int h
theorem kY {sl:Addr} {vl vu:Value} {lo hi:Option Int} {n:Nat} {Q:Int × Int × Nat->Shared->Prop} (hs:s.heap.IsSliceOf sl vl vu .none) (pl:IsPart vl lo) (pu:IsPart vu hi)
 (h:Q (((sIx n 0 lo:Nat):Int),1,sIx n n hi - sIx n 0 lo) s):wpAny (model prog w) A (Builtin.Slice.sliceApplied (.ref sl) (pure (n:Int))) Q E s:=by
 obtain ⟨os,hos,hcs,hds⟩:=id hs;unfold Builtin.Slice.sliceApplied Builtin.Slice.sliceFields;refine ae (ae (cA hos hds (x:=vl) rfl (ae (cA hos hds (x:=vu) rfl (ae (cA hos hds (x:=.none) rfl (ai ?_)))))));refine ae (slicePart_none ?_);show wpAny _ _ (if ((1:Int) == 0) = true then _ else _) _ _ s;rw [if_neg (by decide)];refine ae (nN pl (ae (nN pu (ae (ai ?_)))));show wpAny _ _ (match Builtin.Slice.sliceAdjust lo hi 1 (n:Int) with | (lo,hi)=>pure (lo,(1:Int),Builtin.Slice.slicePlaces lo hi 1)) _ _ s;rw [xm lo hi n];show wpAny _ _ (pure (((sIx n 0 lo:Nat):Int),(1:Int),Builtin.Slice.slicePlaces ((sIx n 0 lo:Nat):Int) ((sIx n n hi:Nat):Int) 1)) _ _ s;rw [wC];exact ai h
theorem DC (xs:Array Value) (i k:Nat):((List.range k).filterMap fun (m:Nat)=>xs[((i:Int)+(m:Int) * 1).toNat]?).toArray = ((xs.toList.drop i).take k).toArray:=by
 have e:(fun (m:Nat)=>xs[((i:Int)+(m:Int) * 1).toNat]?) = fun m=>xs[i+m]? := by
  funext m
  have:((i:Int)+(m:Int) * 1).toNat = i+m:=by lia
  rw [this]
 rw [e];have:=pick_run xs i k;rw [List.filterMap_map] at this;have e2:((fun x=>xs[x]?) ∘ fun x=>i+x) = fun m=>xs[i+m]? := rfl;rw [e2] at this;rw [this]
theorem getItem_tuple_cut {t sl:Addr} {items:Array Value} {vl vu:Value} {lo hi:Option Int} {Q:Value->Shared->Prop} (ht:IsTup s.heap t items) (hs:s.heap.IsSliceOf sl vl vu .none) (pl:IsPart vl lo) (pu:IsPart vu hi)
 (hw:¬ (sIx items.size 0 lo = 0/\sIx items.size items.size hi = items.size))
 (h:Q (.ref s.heap.objs.size) { s with heap:=s.heap.push { cls:=.type "tuple",data:=.seq ((items.toList.drop (sIx items.size 0 lo)).take (sIx items.size items.size hi - sIx items.size 0 lo)).toArray } })
 (hsz:items.size<=sizeLine):wpAny (model prog w) A (getItem (.ref t) (.ref sl)) Q E s:=by
 have htake:sizeOk (.seq ((items.toList.drop (sIx items.size 0 lo)).take (sIx items.size items.size hi - sIx items.size 0 lo)).toArray):=by
  show ((items.toList.drop (sIx items.size 0 lo)).take (sIx items.size items.size hi - sIx items.size 0 lo)).toArray.size<=sizeLine;rw [az,bj,fY,aV];omega
 have hj:sIx items.size items.size hi<=items.size:=KS _ _ (av _) hi;obtain ⟨os,hos,hcs,hds⟩:=id hs;have hTs:s.TypeIs (.ref sl) "slice":=⟨os,hos,hcs⟩;unfold getItem
 try with_reducible refine bN ?_
 first | refine ae (ai ?_) | skip
 refine ae (wpAny_sequenceKey ht.typeIs (by decide) ?_)
 refine ae (cC (name:=Str.ofString "__getitem__") ht.typeIs jQ
  (bO jQ ht.typeIs entry_tuple_getitem ?_ (args_tuple_getitem _ _)))
 show wpAny _ _ (Builtin.Tuple.tupleItemsOf (.ref t) >>= _) _ _ s;refine ae (tupleItemsOf_ ht ?_);refine ae (pX hTs ?_);rw [if_pos (by decide)];refine ae (kY hs pl pu ?_)
 have hno:¬ ((((sIx items.size 0 lo:Nat):Int) == 0 && (1:Int) == 1 && (sIx items.size items.size hi - sIx items.size 0 lo) == items.size) = true):=by
  intro q;rw [aa,aa] at q;have q1:((sIx items.size 0 lo:Nat):Int) = 0:=eq_of_beq q.1.1;have q2:sIx items.size items.size hi - sIx items.size 0 lo = items.size:=eq_of_beq q.2;exact hw ⟨by omega,by omega⟩
 show wpAny _ _ (if (((sIx items.size 0 lo:Nat):Int) == 0 && (1:Int) == 1 && (sIx items.size items.size hi - sIx items.size 0 lo) == items.size) = true then _ else _) _ _ s;rw [if_neg hno,DC]
 first
  | exact ae (m:=Builtin.Tuple.tupleExact _) (aS (ai ⟨_,rfl,ai h⟩) htake)
  | exact ae (m:=Builtin.Tuple.tupleExact _) (aS (ae (ai (ai ⟨_,rfl,ai h⟩))) htake)
  | exact ae (ae (m:=Builtin.Tuple.tupleExact _) (aS (ai (ai ⟨_,rfl,ai h⟩)) htake))
  | exact ae (ae (m:=Builtin.Tuple.tupleExact _) (aS (ai ⟨_,rfl,ai h⟩) htake))
end
end HT
namespace L2
open PySem PySem.Spec PyProof.Rows
abbrev TO:=St->Hp->(Option Int->Hp->Prop)->Prop
noncomputable def PO (X:Cx) (e:Option Expr) (t:TO):Prop :=
 ∀ (pins:List (Addr × Obj)) (s:Shared) (σ:St) (H:Hp) (Q:Option Int->Hp->Prop),Inv X pins σ H s->t σ H Q ->
  wpAny (model X.prog X.w) X.A (evalPart e X.env) (fun u s'=>∃ o H',Inv X pins σ H' s'/\IsPart u o/\Q o H') X.xe s
noncomputable def GJ:TO:=fun _ H Q=>Q none H
noncomputable def Nh (t:TE):TO:=fun σ H Q=>t σ H fun x H1=>∃ i,x = .int i/\Q (some i) H1
section
variable {X:Cx} {e:Expr} {te:TE} {lo hi:Option Expr} {tl th:TO} {pos p2:Pos}
theorem HD:PO X none GJ:=by
 intro pins s σ H Q I h;rw [evalPart_none];exact ai ⟨none,H,I,.none,h⟩
theorem HC (h:PE X e te):PO X (some e) (Nh te):=by
 intro pins s σ H Q I hw;rw [evalPart_some];refine thn (h pins s σ H _ I hw) fun u s1 zz=>?_;obtain ⟨x,H1,I1,r1,q1⟩:=zz;obtain ⟨i,rfl,q⟩:=q1;obtain ⟨t,rfl⟩:=r1;exact ⟨some i,H1,I1,.int i t,q⟩
noncomputable def SlR (X:Cx) (r:V->Option Int->Option Int->Hp->VK->Prop):Prop :=
 ∀ (pins:List (Addr × Obj)) (s:Shared) (σ:St) (H:Hp) (x:V) (v vl vu:Value) (lo hi:Option Int) (sl:Addr) (Q:VK),Inv X pins σ H s->RelV x v->s.heap.IsSliceOf sl vl vu .none->IsPart vl lo->IsPart vu hi->r x lo hi H Q ->
  ∃ T id,typeLookup (.type T) "__getitem__" = pure (some (.builtin id))/\s.TypeIs v T/\wpAny (model X.prog X.w) X.A (getItem v (.ref sl)) (EP X pins σ Q) X.xe s
theorem SlR.or {r r':V->Option Int->Option Int->Hp->VK->Prop} (h:SlR X r) (h':SlR X r'):SlR X (fun x lo hi H Q=>r x lo hi H Q\/r' x lo hi H Q):=by
 intro pins s σ H x v vl vu lo hi sl Q I rx hs pl pu q;rcases q with q | q
 . exact h pins s σ H x v vl vu lo hi sl Q I rx hs pl pu q
 . exact h' pins s σ H x v vl vu lo hi sl Q I rx hs pl pu q
noncomputable def tSl (r:V->Option Int->Option Int->Hp->VK->Prop) (te:TE) (tl th:TO):TE:=fun σ H Q=>te σ H fun x H1=>tl σ H1 fun l H2=>th σ H2 fun u H3=>r x l u H3 Q
theorem uC {r:V->Option Int->Option Int->Hp->VK->Prop} (hr:SlR X r) (he:PE X e te) (hl:PO X lo tl) (hu:PO X hi th):PE X (.Subscript e (.Slice lo hi none p2) pos) (tSl r te tl th):=by
 intro pins s σ H Q I h;refine Subscript_ (thn (he pins s σ H _ I h) fun v s1 ⟨x,H1,I1,r1,q1⟩=>?_);refine wpAny_Slice (thn (hl pins s1 σ H1 _ I1 q1) fun vl s2 ⟨l,H2,I2,pl,q2⟩=>thn (hu pins s2 σ H2 _ I2 q2) fun vu s3 ⟨u,H3,I3,pu,q3⟩=>?_);rw [evalPart_none];refine ai ?_;have I4:Inv X pins σ H3 { s3 with heap:=s3.heap.push { cls:=.type "slice",data:=.fields #[vl,vu,.none] } }:=I3.kept (t':=s3.toks) fun b ob q=>af _ q;obtain ⟨T,id,hT,ht,hg⟩:=hr pins { s3 with heap:=s3.heap.push { cls:=.type "slice",data:=.fields #[vl,vu,.none] } } σ H3 x v vl vu l u s3.heap.objs.size Q I4 r1 (Heap.IsSliceOf.new ..) pl pu q3;show wpAny (model X.prog X.w) X.A (subscriptTail e (.Slice lo hi none p2) v (.ref s3.heap.objs.size)) (EP X pins σ Q) X.xe { s3 with heap:=s3.heap.push { cls:=.type "slice",data:=.fields #[vl,vu,.none] } };exact tail_any (ops:=[.ref s3.heap.objs.size,v]) ht hT hg (by with_unfolding_all rfl)
noncomputable def pR (xs:List V) (lo hi:Option Int):List V:=(xs.drop (HT.sIx xs.length 0 lo)).take (HT.sIx xs.length xs.length hi - HT.sIx xs.length 0 lo)
theorem lP (xs:List V) (lo hi:Option Int):(pR xs lo hi).length<=xs.length:=by
 unfold pR;rw [bj,fY]
 lia
noncomputable def Oy (K:PySem.W.Frag):V->Option Int->Option Int->Hp->VK->Prop:=fun x lo hi H Q=>∃ a xs,x = .ref a/\SqT K H a xs /\
 ¬ (HT.sIx xs.length 0 lo = 0/\HT.sIx xs.length xs.length hi = xs.length)/\∀ p,H p = none->Q (.ref p) (upd H p (.tup (pR xs lo hi)))
theorem KN:SlR X (Oy X.K):=by
 intro pins s σ H x v vl vu lo hi sl Q I rx hs pl pu h;obtain ⟨a,xs,rfl,hx,hw,q⟩:=h;cases rx;obtain ⟨its,r,ht,hz⟩:=I.tuple hx;have hlen:its.toArray.size = xs.length:=by rw [az];exact r.length.symm
 refine ⟨"tuple",_,PyProof.Rows.slot_tuple_getitem.lookup,ht.typeIs,?_⟩;refine HT.getItem_tuple_cut ht hs pl pu (by rw [hlen];exact hw) ?_ (by rw [hlen];exact hz);rw [hlen];refine ⟨.ref s.heap.objs.size,_,I.laid (t':=s.toks) (o:=.tup (pR xs lo hi)) (fun b ob q=>af _ q) (av _) ?_,rfl,q _ (I.hok.fresh (av _))⟩;exact ⟨aY (lP xs lo hi) hz,_,(r.drop (HT.sIx xs.length 0 lo)).take (HT.sIx xs.length xs.length hi - HT.sIx xs.length 0 lo),mF _ _⟩
noncomputable def Jk (K:PySem.W.Frag):R2:=fun x y H Q=>∃ a b xs ys,x = .ref a/\y = .ref b/\SqT K H a xs/\SqT K H b ys/\xs≠[]/\xs.length+ys.length<=sizeLine /\
 (ys = []->Q (.ref a) H)/\(ys≠[]->∀ p,H p = none->Q (.ref p) (upd H p (.tup (xs++ys))))
theorem Vals.nil_iff {xs:List V} {us:List Value} (r:Vals xs us):us = []↔xs = []:=by
 cases r with
 | nil=>simp
 | cons _ _=>simp
theorem HQ:OpR X (binaryOp .Add) (Jk X.K):=by
 intro pins s σ H x y v u Q I rx ry h;obtain ⟨a,b,xs,ys,rfl,rfl,ha,hb,hx,hz,q1,q2⟩:=h;cases rx;cases ry;obtain ⟨its,r1,p1,_⟩:=I.tuple ha;obtain ⟨its2,r2,p2,_⟩:=I.tuple hb;refine HT.cat_tup p1 p2 (fun z=>hx (r1.nil_iff.mp z)) (fun z=>⟨.ref a,H,I,rfl,q1 (r2.nil_iff.mp z)⟩) (fun z=>?_) (by rw [<- r1.length,<- r2.length];exact hz);refine ⟨.ref s.heap.objs.size,_,I.laid (t':=s.toks) (o:=.tup (xs++ys)) (fun b ob q=>af _ q) (av _) ?_,rfl,q2 (fun w=>z (r2.nil_iff.mpr w)) _ (I.hok.fresh (av _))⟩;exact ⟨by rw [au];exact hz,_,r1.append r2,mF _ _⟩
end
end L2
namespace L2
open PySem PySem.Spec PyProof.Rows
noncomputable def ixN (n:Nat) (i:Int):Option Nat:=if 0<=i then (if i < n then some i.toNat else none) else if -(n:Int)<=i then some (i+n).toNat else none
noncomputable def atI {α:Type} (xs:List α) (i:Int):Option α:=(ixN xs.length i).bind fun j=>xs[j]?
theorem yE {n:Nat} {i:Int} {j:Nat} (h:ixN n i = some j):seqIndex? i n = some j/\j < n/\-(n:Int)<=i/\i < n:=by
 unfold ixN at h;by_cases h0:0<=i
 . rw [if_pos h0] at h;by_cases h1:i < n
   . rw [if_pos h1] at h;have e:i.toNat = j:=aM h;exact ⟨by rw [IZ h0 h1,e],by lia,by lia,h1⟩
   . rw [if_neg h1] at h;cases h
 . rw [if_neg h0] at h;by_cases h1:-(n:Int)<=i
   . rw [if_pos h1] at h;have e:(i+n).toNat = j:=aM h;exact ⟨by rw [FF (by lia) h1,e],by lia,h1,by lia⟩
   . rw [if_neg h1] at h;cases h
theorem tD {α:Type} {xs:List α} {i:Int} {v:α} (h:atI xs i = some v):∃ j,seqIndex? i xs.length = some j/\xs[j]? = some v/\j < xs.length/\-(xs.length:Int)<=i/\i < xs.length:=by
 unfold atI at h
 cases e:ixN xs.length i with
 | none=>rw [e] at h;cases h
 | some j =>
   rw [e] at h;obtain ⟨h1,h2,h3,h4⟩:=yE e;exact ⟨j,h1,h,h2,h3,h4⟩
theorem atI_nat {α:Type} {xs:List α} {j:Nat} {v:α} (h:xs[j]? = some v):atI xs (j:Int) = some v:=by
 have hj:j < xs.length:=(aB.mp h).1
 have e:ixN xs.length (j:Int) = some j:=by
  unfold ixN;rw [if_pos (by lia),if_pos (by lia)];simp
 unfold atI;rw [e];exact h
noncomputable def PlainIx (b:Expr):Prop:=∀ o i,subscripted b false o i = operate [o,i] (getItem o i)
noncomputable def IxR (X:Cx) (r:R2):Prop :=
 ∀ (value slice:Expr) (pins:List (Addr × Obj)) (s:Shared) (σ:St) (H:Hp) (x y:V) (v u:Value) (Q:VK),Inv X pins σ H s->RelV x v->RelV y u->r x y H Q ->
  subscripted slice false v u = operate [v,u] (getItem v u)->wpAny (model X.prog X.w) X.A (subscriptTail value slice v u) (EP X pins σ Q) X.xe s
noncomputable def MtR (X:Cx) (id:String) (r:V->List V->Hp->VK->Prop):Prop :=
 ∀ (pins:List (Addr × Obj)) (s:Shared) (σ:St) (H:Hp) (x:V) (xs:List V) (v:Value) (us:List Value) (Q:VK),Inv X pins σ H s->RelV x v->Vals xs us->r x xs H Q ->
  wpAny (model X.prog X.w) X.A (call (.builtin id) (v::us)) (EP X pins σ Q) X.xe s
section
variable {X:Cx} {a b:Expr} {ta tb:TE} {pos:Pos}
theorem IxR.or {r r':R2} (h:IxR X r) (h':IxR X r'):IxR X (fun x y H Q=>r x y H Q\/r' x y H Q):=by
 intro value slice pins s σ H x y v u Q I rx ry q hs;rcases q with q | q
 . exact h value slice pins s σ H x y v u Q I rx ry q hs
 . exact h' value slice pins s σ H x y v u Q I rx ry q hs
theorem NA {r:R2} (hr:IxR X r) (ha:PE X a ta) (hb:PE X b tb) (hs:PlainIx b):PE X (.Subscript a b pos) (tOp r ta tb):=by
 intro pins s σ H Q I h;exact Subscript_ (Mx ha hb I h fun v u s2 x y H2 I2 rx ry q=>hr a b pins s2 σ H2 x y v u Q I2 rx ry q (hs _ _))
noncomputable def Nx (K:PySem.W.Frag):R2:=fun x y H Q=>∃ p xs i v,x = .ref p/\y = .int i/\SqL K H p xs/\atI xs i = some v/\Q v H
noncomputable def Nv (K:PySem.W.Frag):R2:=fun x y H Q=>∃ p xs i v,x = .ref p/\y = .int i/\SqT K H p xs/\atI xs i = some v/\Q v H
noncomputable def Nw:R2:=fun x y H Q=>∃ z i c,x = .str z/\y = .int i/\z.length<=sizeLine/\atI z.cps.toList i = some c/\Q (.str ⟨#[c]⟩) H
theorem Im:IxR X (Nx X.K):=by
 intro value slice pins s σ H x y v u Q I rx ry h hs;obtain ⟨p,xs,i,z,rfl,rfl,hq,he,q⟩:=h;cases rx;obtain ⟨t,rfl⟩:=ry;obtain ⟨its,r,pl,hz⟩:=I.list hq;obtain ⟨j,h1,h2,h3,h4,h5⟩:=tD he;obtain ⟨w,ew,rw'⟩:=r.get h2;have hl:=r.length;have hn:=jZ;have fin:EP X pins σ Q w s:=⟨z,H,I,rw',q⟩;by_cases h0:0<=i
 . have hj:i.toNat = j:=by
    rw [IZ h0 h5] at h1;exact aM h1
   exact item_listR pl.isList h0 (by lia) (by rw [hj];simpa using ew) fin hs
 . have hj:(i+(its.toArray.size:Int)).toNat = j:=by
    rw [FF (by lia) h4] at h1;rw [az,<- hl];exact aM h1
   exact FE (x:=w) pl.isList.typeIs slot_list_getitem.lookup
    (wpAny_getItem_list_neg (Q:=fun r s'=>r = w/\EP X pins σ Q r s') pl.isList (by lia) (by rw [az]<;>lia) (by lia) (by rw [hj];simpa using ew) ⟨rfl,fin⟩) hs
theorem LQ:IxR X (Nv X.K):=by
 intro value slice pins s σ H x y v u Q I rx ry h hs;obtain ⟨p,xs,i,z,rfl,rfl,hq,he,q⟩:=h;cases rx;obtain ⟨t,rfl⟩:=ry;obtain ⟨its,r,pl,hz⟩:=I.tuple hq;obtain ⟨j,h1,h2,h3,h4,h5⟩:=tD he;obtain ⟨w,ew,rw'⟩:=r.get h2;have hl:=r.length;have hn:=jZ;have fin:EP X pins σ Q w s:=⟨z,H,I,rw',q⟩
 exact FE (x:=w) pl.typeIs slot_tuple_getitem.lookup
  (getItem_tuple (j:=j) (Q:=fun r s'=>r = w/\EP X pins σ Q r s') pl (by lia) (by lia) (by rw [az,<- hl];exact h1) (by simpa using ew) ⟨rfl,fin⟩) hs
theorem LR:IxR X Nw:=by
 intro value slice pins s σ H x y v u Q I rx ry h hs;obtain ⟨z,i,c,rfl,rfl,hz,he,q⟩:=h;obtain ⟨t,rfl⟩:=rx;obtain ⟨t',rfl⟩:=ry;obtain ⟨j,h1,h2,h3,h4,h5⟩:=tD he;have hl:z.cps.toList.length = z.length:=by simp [Str.length]
 rw [hl] at h1 h4 h5;have hn:=jZ
 exact tail_any (MI s z t) slot_str_getitem.lookup (getItem_str (c:=c) (by
  have e1:decide (i < -(2 ^ 63:Int)) = false:=decide_eq_false (by lia);have e2:decide (i ≥ 2 ^ 63) = false:=decide_eq_false (by lia);rw [e1,e2,Bool.or_false]) (by rw [h1];simpa using h2) ⟨.str ⟨#[c]⟩,H,I.tok _,⟨_,rfl⟩,q⟩) hs
noncomputable def rIx (K:PySem.W.Frag):R2:=fun x y H Q=>Nx K x y H Q\/Nv K x y H Q\/Nw x y H Q
theorem LS:IxR X (rIx X.K):=Im.or (LQ.or LR)
theorem wM (its:List Value) (n j:Nat) (u:Value):Obj.mapSeq (·.setIfInBounds j u) { cls:=.type "list",data:=.seq its.toArray n } = { cls:=.type "list",data:=.seq (its.set j u).toArray n }:=by
 simp [Obj.mapSeq]
theorem Inv.lst {pins:List (Addr × Obj)} {σ:St} {H:Hp} {s:Shared} {p:Addr} {xs:List V} (I:Inv X pins σ H s) (h:H p = some (.lst xs)) :
 ∃ (its:List Value) (n:Nat),Vals xs its/\s.heap.get? p = some { cls:=.type "list",data:=.seq its.toArray n }/\xs.length<=sizeLine:=by
 obtain ⟨z,its,n,r,e⟩:=I.hok p _ h;exact ⟨its,n,r,e,z⟩
theorem Inv.lstUpd {pins:List (Addr × Obj)} {σ:St} {H:Hp} {s:Shared} {p:Addr} {xs ys:List V} {its its':List Value} {n n':Nat} {f:Obj->Obj} (I:Inv X pins σ H s) (h:H p = some (.lst xs))
 (ho:s.heap.get? p = some { cls:=.type "list",data:=.seq its.toArray n }) (hf:f { cls:=.type "list",data:=.seq its.toArray n } = { cls:=.type "list",data:=.seq its'.toArray n' }) (r:Vals ys its') (hz:ys.length<=sizeLine) (t:Nat) :
 Inv X pins σ (upd H p (.lst ys)) { s with heap:=s.heap.update p f,toks:=t }:=by
 have e:(s.heap.update p f).get? p = some { cls:=.type "list",data:=.seq its'.toArray n' }:=by
  rw [cP f ho (by rw [hf]<;>rfl),hf]
 refine I.write (x:=p) (e:=p) (by rw [h];trivial) (.inl rfl) (fun b u hb q=>(dq _ _ (Ne.symm hb)).trans q) ⟨_,e⟩ ?_;exact ⟨hz,its',n',r,e⟩
noncomputable def Nu:V->V->V->Hp->(Hp->Prop)->Prop:=fun o i v H Q=>∃ p xs k j,o = .ref p/\i = .int k/\H p = some (.lst xs)/\ixN xs.length k = some j/\Q (upd H p (.lst (xs.set j v)))
theorem set_list:NX X Nu:=by
 intro pins s σ H o i v ov iv u Q I ro ri rv h;obtain ⟨p,xs,k,j,rfl,rfl,hp,hj,q⟩:=h;cases ro;obtain ⟨t,rfl⟩:=ri;obtain ⟨its,n,r,ho,hz⟩:=I.lst hp;obtain ⟨h1,h2,h3,h4⟩:=yE hj;have hl:=r.length;have hn:=jZ
 have I':Inv X pins σ (upd H p (.lst (xs.set j v))) { s with heap:=s.heap.update p (Obj.mapSeq (·.setIfInBounds j u)) } :=
  I.lstUpd hp ho (wM its n j u) (r.set rv j) (by rw [aW];exact hz) s.toks
 by_cases h0:0<=k
 . have hk:k.toNat = j:=by
    rw [IZ h0 h4] at h1;exact aM h1
   exact PySem.W.ki_setAt ho h0 (by lia) (by rw [az,<- hl];exact h4) (by rw [hk];exact ⟨_,I',q⟩)
 . have hk:(k+(its.toArray.size:Int)).toNat = j:=by
    rw [FF (by lia) h3] at h1;rw [az,<- hl];exact aM h1
   exact PySem.W.ki_setBack ho (by lia) (by rw [az,<- hl];exact h3) (by lia) (by rw [hk];exact ⟨_,I',q⟩)
theorem rD (lo hi:Option Int) (n:Nat):(sliceBounds lo hi none n).1 = ((HT.sIx n 0 lo:Nat):Int)/\(sliceBounds lo hi none n).2.1 = ((HT.sIx n n hi:Nat):Int)/\(sliceBounds lo hi none n).2.2 = 1:=by
 refine ⟨?_,?_,rfl⟩
 . cases lo with
   | none=>simp [sliceBounds,HT.sIx]
   | some i =>
     simp only [sliceBounds,HT.sIx,Bh,show (1:Int) > 0 by decide,if_true];by_cases h:i < 0
     . simp only [h,if_true]<;>lia
     . simp only [h,if_false]<;>lia
 . cases hi with
   | none=>simp [sliceBounds,HT.sIx]
   | some i =>
     simp only [sliceBounds,HT.sIx,Bh,show (1:Int) > 0 by decide,if_true];by_cases h:i < 0
     . simp only [h,if_true]<;>lia
     . simp only [h,if_false]<;>lia
theorem pI (its:List Value) (lo hi:Option Int):slicePick its.toArray lo hi none = ((its.drop (HT.sIx its.length 0 lo)).take (HT.sIx its.length its.length hi - HT.sIx its.length 0 lo)).toArray:=by
 obtain ⟨h1,h2,h3⟩:=rD lo hi its.toArray.size;unfold slicePick;rw [h1,h2,h3];simp only [sliceRange_one,pick_run,az]<;>rfl
noncomputable def OA (K:PySem.W.Frag):V->Option Int->Option Int->Hp->VK->Prop:=fun x lo hi H Q=>∃ a xs,x = .ref a/\SqL K H a xs/\∀ p,H p = none->Q (.ref p) (upd H p (.lst (pR xs lo hi)))
theorem xN:SlR X (OA X.K):=by
 intro pins s σ H x v vl vu lo hi sl Q I rx hs pl pu h;obtain ⟨a,xs,rfl,hx,q⟩:=h;cases rx;obtain ⟨its,r,ht,hz⟩:=I.list hx;have hlen:=r.length;refine ⟨"list",_,slot_list_getitem.lookup,ht.isList.typeIs,?_⟩;refine wpAny_getItem_list_slice ht.isList hs pl pu .none (by simp) ?_ (by rw [az]<;>lia);rw [pI,<- hlen];refine ⟨.ref s.heap.objs.size,_,I.laid (t':=s.toks) (o:=.lst (pR xs lo hi)) (fun b ob q=>af _ q) (av _) ?_,rfl,q _ (I.hok.fresh (av _))⟩;exact ⟨aY (lP xs lo hi) hz,_,0,(r.drop (HT.sIx xs.length 0 lo)).take (HT.sIx xs.length xs.length hi - HT.sIx xs.length 0 lo),aA _ rfl⟩
theorem tw:cm X (.builtin "len") (fun xs H Q=>∃ p ys,xs = [.ref p]/\(SqL X.K H p ys\/SqT X.K H p ys)/\Q (.int ys.length) H):=by
 intro pins s σ H xs us Q I r h;obtain ⟨p,ys,rfl,hq,q⟩:=h;obtain ⟨u,rfl,rx⟩:=vals1 r;cases rx;have hn:=jZ;rcases hq with hq | hq
 . obtain ⟨its,r',pl,hz⟩:=I.list hq;have hlen:=r'.length;exact Calls.call_len_list pl.isList (by simp only [az]<;>lia) ⟨.int ys.length,H,I.tok _,⟨s.toks+1,by rw [az,hlen]⟩,q⟩
 . obtain ⟨its,r',pl,hz⟩:=I.tuple hq;have hlen:=r'.length;exact len_tuple pl (by simp only [az]<;>lia) ⟨.int ys.length,H,I.tok _,⟨s.toks+1,by rw [az,hlen]⟩,q⟩
theorem tu:cm X (.builtin "len") (fun xs H Q=>∃ z,xs = [.str z]/\z.length<=sizeLine/\Q (.int z.length) H):=by
 intro pins s σ H xs us Q I r h;obtain ⟨z,rfl,hz,q⟩:=h;obtain ⟨u,rfl,t,rfl⟩:=vals1 r;have hn:=jZ;exact len_str (by lia) ⟨.int z.length,H,I.tok _,⟨_,rfl⟩,q⟩
theorem cm.or {f:Value} {r r':List V->Hp->VK->Prop} (h:cm X f r) (h':cm X f r'):cm X f (fun xs H Q=>r xs H Q\/r' xs H Q):=by
 intro pins s σ H xs us Q I rs q;rcases q with q | q
 . exact h pins s σ H xs us Q I rs q
 . exact h' pins s σ H xs us Q I rs q
theorem kL:cm X (.type "list") (fun xs H Q=>∃ p ys,xs = [.ref p]/\(SqL X.K H p ys\/SqT X.K H p ys)/\∀ l,H l = none->Q (.ref l) (upd H l (.lst ys))):=by
 intro pins s σ H xs us Q I r h;obtain ⟨p,ys,rfl,hq,q⟩:=h;obtain ⟨u,rfl,rx⟩:=vals1 r;cases rx
 have fin:∀ (its:List Value),Vals ys its->ys.length<=sizeLine->∀ (h':Heap) (c':Nat),(∀ b o',s.heap.get? b = some o'->h'.get? b = some o') ->
  h'.get? s.heap.objs.size = some { cls:=.type "list",dict:=none,data:=.seq its.toArray c',slots := #[] }->EP X pins σ Q (.ref s.heap.objs.size) { s with heap:=h' }:=fun its r' hz h' c' kp e =>
  ⟨.ref s.heap.objs.size,_,I.laid (t':=s.toks) kp (av _) (show fJ X.prog X.w _ h' _ (.lst ys) from ⟨hz,its,c',r',e⟩),rfl,q _ (I.hok.fresh (av _))⟩
 rcases hq with hq | hq
 . obtain ⟨its,r',pl,hz⟩:=I.list hq;have hlen:=r'.length;obtain ⟨o,ho,hc,n,hd⟩:=pl.isList;exact call_list_seq p (.inl rfl) ho hc hd (fun h' c' kp e=>fin its r' hz h' c' kp e) (by simp only [az]<;>lia)
 . obtain ⟨its,r',pl,hz⟩:=I.tuple hq;have hlen:=r'.length;obtain ⟨o,ho,hc,n,hd⟩:=pl;exact call_list_seq p (.inr rfl) ho hc hd (fun h' c' kp e=>fin its r' hz h' c' kp e) (by simp only [az]<;>lia)
theorem pV:cm X (.type "tuple") (fun xs H Q=>∃ p ys,xs = [.ref p]/\((SqL X.K H p ys/\∀ l,H l = none->Q (.ref l) (upd H l (.tup ys)))\/(SqT X.K H p ys/\Q (.ref p) H))):=by
 intro pins s σ H xs us Q I r h;obtain ⟨p,ys,rfl,h⟩:=h;obtain ⟨u,rfl,rx⟩:=vals1 r;cases rx;rcases h with ⟨hq,q⟩ | ⟨hq,q⟩
 . obtain ⟨its,r',pl,hz⟩:=I.list hq;have hlen:=r'.length;refine call_tuple_list pl.isList (fun h' kp=>?_) (by simp only [az]<;>lia);have I1:Inv X pins σ H { s with heap:=h' }:=I.kept (t':=s.toks) kp
   have I2:Inv X pins σ (upd H h'.objs.size (.tup ys)) { s with heap:=h'.push { cls:=.type "tuple",data:=.seq its.toArray } } :=
    I1.laid (t':=s.toks) (fun b o e=>af _ e) (av _) (show fJ X.prog X.w _ _ _ (.tup ys) from ⟨hz,its,r',mF _ _⟩)
   exact ⟨.ref h'.objs.size,_,I2,rfl,q _ (I1.hok.fresh (av _))⟩
 . obtain ⟨its,r',pl,hz⟩:=I.tuple hq;exact call_tuple_same pl ⟨.ref p,H,I,rfl,q⟩
noncomputable def tyV (K:PySem.W.Frag) (T:String) (x:V) (H:Hp):Prop:=match x with
 | .str _=>T = "str"
 | .int _=>T = "int"
 | .ref p=>(T = "list"/\∃ xs,SqL K H p xs)\/(T = "tuple"/\∃ o,K.lookup p = some o/\o.cls = .type "tuple"/\o.dict = none) \/
    (T = "dict"/\((∃ kvs,H p = some (.dK kvs))\/∃ kvs,H p = some (.dT kvs)))\/(T = "set"/\∃ S n,H p = some (.set S n))
 | _=>False
theorem Kr {pins:List (Addr × Obj)} {σ:St} {H:Hp} {s:Shared} {T:String} {x:V} {v:Value} (I:Inv X pins σ H s) (r:RelV x v) (ty:tyV X.K T x H) :
 s.TypeIs v T/\∀ a,v = .ref a->∃ ob,s.heap.get? a = some ob/\ob.dict = none:=by
 cases x with
 | str z =>
   obtain ⟨t,rfl⟩:=r;cases (show T = "str" from ty)
   exact ⟨MI s z t,fun _ e=>nomatch e⟩
 | int i =>
   obtain ⟨t,rfl⟩:=r;cases (show T = "int" from ty)
   exact ⟨typeIs_int s i t,fun _ e=>nomatch e⟩
 | ref p =>
   cases r;rcases ty with ⟨rfl,xs,hq⟩ | ⟨rfl,o,hk,hc,hd⟩ | ⟨rfl,hk⟩ | ⟨rfl,S,n,hk⟩
   . obtain ⟨its,_,pl,_⟩:=I.list hq;refine ⟨pl.isList.typeIs,fun a e=>?_⟩;cases e;obtain ⟨o,n,e,c,hd,_⟩:=pl;exact ⟨o,e,hd⟩
   . refine ⟨⟨o,I.kIn p o hk,hc⟩,fun a e=>?_⟩;cases e;exact ⟨o,I.kIn _ o hk,hd⟩
   . have z:∃ o,s.heap.get? p = some o/\o.ExactDict:=by
      rcases hk with ⟨kvs,hk⟩ | ⟨kvs,hk⟩
      . obtain ⟨_,_,_,_,o,_,_,e,ex,_⟩:=I.hok p _ hk;exact ⟨o,e,ex⟩
      . obtain ⟨_,_,_,_,o,_,_,e,ex,_⟩:=I.hok p _ hk;exact ⟨o,e,ex⟩
     obtain ⟨o,e,ex⟩:=z;refine ⟨⟨o,e,ex.1⟩,fun a e2=>?_⟩;cases e2;exact ⟨o,e,ex.2.1⟩
   . obtain ⟨o,_,_,_,e,ex,_⟩:=I.hok p _ hk;refine ⟨⟨o,e,ex.1⟩,fun a e2=>?_⟩;cases e2
     exact ⟨o,e,ex.2.1⟩
 | _=>exact False.elim ty
noncomputable def tBM (K:PySem.W.Frag) (T:String) (r:V->List V->Hp->VK->Prop) (to:TE) (t:TA):TE:=fun σ H Q=>to σ H fun x H1=>tyV K T x H1/\t σ H1 fun xs H2=>r x xs H2 Q
variable {o e:Expr} {es:List Expr} {to:TE} {t:TA} {name:Str} {apos cpos:Pos} {T id:String} {r:V->List V->Hp->VK->Prop}
theorem Jm (pa:PlainAttrs T) (slot:Slot T name id) (hty:typeOf (.builtin id) = pure (.type "method_descriptor")) (hm:MtR X id r) (ho:PE X o to) (ha:PA X (e::es) t)
 (hbase:attributeBase o name X.env (eval o X.env) = eval o X.env:=by rfl)
 (hfew:((backTo cpos (starEach (e::es) X.env)).all (fun x=>!x.1) && (backToKw cpos (keywordEach [] X.env)).all (fun x=>x.1.isSome)
   && decide ((e::es).length+([]:List Keyword).length+(if ([]:List Keyword).isEmpty then 0 else 1) < 30)) = true:=by rfl)
 (hline:(apos.endLine == cpos.line) = true:=by rfl) (hs:starEach (e::es) X.env = (false,eval e X.env)::starEach es X.env:=by rfl) (hplain:(backTo cpos (starEach es X.env)).any (·.1) = false:=by rfl) :
 PE X (.Call (.Attribute o name apos) (e::es) [] cpos) (tBM X.K T r to t):=by
 intro pins s σ H Q I h;refine wpAny_Call_method_late hbase hfew hline rfl (thn (ho pins s σ H _ I h) fun v s1 ⟨x,H1,I1,r1,ty,q1⟩=>?_);obtain ⟨h1,h2⟩:=Kr I1 r1 ty;refine ⟨T,id,pa,slot,hty,h1,h2,?_⟩;have hA:=ha cpos pins s1 σ H1 _ I1 q1;rw [hs] at hA ⊢;refine Calls.callWith_builtin (by show (false || (backTo cpos (starEach es X.env)).any (·.1)) = false;rw [hplain]<;>rfl) (xy ?_);exact thn hA fun us s2 ⟨vs,H2,I2,r2,q2⟩=>hm pins s2 σ H2 x vs v us Q I2 r1 r2 q2
end
end L2
namespace L2
open PySem PySem.Spec PyProof.Rows
noncomputable def MtM (X:Cx) (id:String) (r:V->List V->Hp->VK->Prop):Prop :=
 ∀ (pins:List (Addr × Obj)) (s:Shared) (σ:St) (H:Hp) (x:V) (xs:List V) (v:Value) (us:List Value) (Q:VK),Inv X pins σ H s->RelV x v->Vals xs us->r x xs H Q ->
  wpAny (model X.prog X.w) X.A (call (.builtin id) (v::us)) (EP X pins σ Q) X.xe s
theorem Vals.one:∀ {x:V} {us:List Value},Vals [x] us->∃ u,us = [u]/\RelV x u
 | _,_,.cons r .nil=>⟨_,rfl,r⟩
theorem Vals.two {x y:V} {us:List Value} (h:Vals [x,y] us):∃ u v,us = [u,v]/\RelV x u/\RelV y v:=by
 cases h with
 | cons r t =>
   obtain ⟨u,rfl,q⟩:=Vals.one t;exact ⟨_,_,rfl,r,q⟩
section
variable {X:Cx} {pins:List (Addr × Obj)} {σ:St} {H:Hp} {s:Shared} {l b:Addr} {xs ys zs:List V}
theorem Inv.lset {its its':List Value} {n:Nat} {f:Array Value->Array Value} {t':Nat} (I:Inv X pins σ H s) (hH:H l = some (.lst xs))
 (e:s.heap.get? l = some { cls:=.type "list",data:=.seq its.toArray n }) (hf:f its.toArray = its'.toArray) (hv:Vals ys its') (hz:ys.length<=sizeLine) :
 Inv X pins σ (upd H l (.lst ys)) { s with heap:=s.heap.update l (Obj.mapSeq f),toks:=t' }:=by
 have q:=PySem.IsL.update e f;rw [hf] at q;refine I.write (x:=l) (e:=l) (by rw [hH];exact trivial) (.inl rfl) (fun b' u hb hu=>(dq s.heap (Obj.mapSeq f) (Ne.symm hb)).trans hu) ⟨_,q⟩ ?_;exact ⟨hz,its',_,hv,q⟩
theorem Inv.lnew {its:List Value} {t':Nat} (I:Inv X pins σ H s) (hv:Vals ys its) (hz:ys.length<=sizeLine) :
 Inv X pins σ (upd H s.heap.objs.size (.lst ys)) { s with heap:=s.heap.push { cls:=.type "list",data:=.seq its.toArray },toks:=t' } :=
 I.laid (fun _ _ q=>af _ q) (av _) ⟨hz,its,0,hv,aA _ rfl⟩
theorem Inv.fresh (I:Inv X pins σ H s):H s.heap.objs.size = none:=I.hok.fresh (av _)
theorem Inv.lstM (I:Inv X pins σ H s) (hH:H l = some (.lst xs)):xs.length<=sizeLine/\∃ (its:List Value) (n:Nat),Vals xs its/\xs.length = its.length/\s.heap.get? l = some { cls:=.type "list",data:=.seq its.toArray n }:=by
 obtain ⟨z,its,n,r,e⟩:=I.hok l _ hH;exact ⟨z,its,n,r,r.length,e⟩
theorem Eb {n:Nat} (h:n<=sizeLine):Builtin.List.listTooLong n = false:=by
 unfold Builtin.List.listTooLong;exact decide_eq_false (by lia)
end
section
variable {X:Cx}
noncomputable def Hv:V->List V->Hp->VK->Prop:=fun x vs H Q=>∃ l xs y,x = .ref l/\vs = [y]/\H l = some (.lst xs)/\xs.length < sizeLine/\Q .non (upd H l (.lst (xs++[y])))
theorem qy:MtM X "list.append" Hv:=by
 intro pins s σ H x vs v us Q I rx rv h;obtain ⟨l,xs,y,rfl,rfl,hH,hz,q⟩:=h;cases rx;obtain ⟨u,rfl,ru⟩:=rv.one;obtain ⟨z,its,n,r,hl,e⟩:=I.lstM hH;refine xu F.slot_list_append ⟨_,e,rfl⟩ F.entry_list_append (F.args_list_append_2 _ _) (PySem.list_append l its.toArray n u (by rw [az];lia)) ⟨e,?_⟩;refine ⟨.non,_,I.lset (its':=its++[u]) hH e (by simp) (r.append (.cons ru .nil)) ?_,rfl,q⟩;rw [au,bL]
 lia
end
section
variable {prog:Program} {w:World} {A:Around} {E:Value->Shared->Prop} {s:Shared}
end
section
variable {X:Cx}
end
end L2
namespace Att
open PySem PySem.W PySem.Calls PyProof.Rows
theorem mj {P:Params} {h:Heap}:∀ (ns:List Int) (vs:List Value),WellAll P h vs (ns.map WData.int)->IntsAre vs ns:=by
 intro ns
 induction ns with
 | nil =>
   intro vs w;rw [lV] at w;cases w
   exact .nil
 | cons n ns ih =>
   intro vs w;rw [aX] at w
   cases w with
   | cons a b =>
     cases a;exact .cons _ _ (ih _ b)
theorem Ah {l:OpenLaw} {n:Nat} (hn:l.most = some n) {P:Params} {h:Heap} {args:List WData} {vals:List Value}
 (hpre:l.row.toRowW.claim.pre args = true) (hwl:WellAll P h vals args) :
 ∃ a vs ns,vals = [Value.ref a]/\args = [WData.list (ns.map WData.int)]/\h.get? a = some { cls:=.type "list",data:=.seq vs.toArray }/\IntsAre vs ns/\ns.length<=n:=by
 have hsh:WShape.hasAll [] args [.list .int] = true:=(pre_splitW hpre).1;have hc:l.pre.holds [] { args:=args } = true:=(pre_splitW hpre).2;obtain ⟨d,r,rfl,h1,h2⟩:=hasAllW_cons hsh;obtain rfl:=hasAllW_nil h2;obtain ⟨xs,rfl,h3⟩:=hasW_list h1;obtain ⟨ns,rfl⟩:=items_int h3
 have hlen:ns.length<=n:=by
  unfold OpenLaw.pre at hc
  have h4:(WTm.not (.lt (.lit (.int (n:Int))) (.len (.arg 0)))).holds [] { args:=[.list (ns.map .int)] } = true:=by
   have h4:=(holds_andW hc).1;rw [hn] at h4;exact h4
  have h5:=condW_of h4 (w_not (w_lt w_lit (w_len_list (w_arg rfl))));rw [aq] at h5;refine Nat.le_of_not_lt fun q=>?_;have q':(n:Int) < ((ns.length:Nat):Int):=by lia
  first
   | (rw [decide_eq_true q'] at h5;exact absurd h5 (by decide))
   | (simp at h5;lia)
 cases hwl with
 | cons w1 w2 =>
   cases w2
   cases w1 with
   | list ho hall=>exact ⟨_,_,ns,rfl,rfl,ho,mj ns _ hall,hlen⟩
theorem Am (l:OpenLaw) (args:List WData):l.row.toRowW.claim.post args (.bool true) args = true :=
 postW_of (r:=l.row.toRowW) (X:=(true == true))
  (show WShape.has [] (.bool true) .bool = true by first | rfl | decide | simp [WShape.has,WShape.arms,WShape.armsAll])
  (show (WTm.eq .res (.lit (.bool true))).value [] { args:=args,res:=some (.bool true),after:=args } = some (.bool (true == true)) from w_eq_bool (w_res rfl) w_lit) rfl
theorem attach_call {l:OpenLaw} {n:Nat} {q:Program} {loose:List Str} {XP:(Str->Option Value)->Heap->Prop} {YP:World->Heap->Prop} {d:DefRec}
 (hn:l.most = some n) (hdf:d.params.defaults = [])
 (call:∀ (w:World) (s₀ s₁:Shared) (mg mb:Str->Option Value) (fa:Addr) (o:Obj) (pm cd doc:Value) (a:Addr) (vs:List Value) (ns:List Int),
   Ground q loose [] XP w s₀ mg mb s₁.heap->YP w s₁.heap ->
   s₁.heap.get? fa = some o->o.data = .func (docDef d.name d.params d.body d.scope pm cd doc)->s₁.heap.CodeRec cd d.name->mg d.name = some (.ref fa) ->
   s₁.heap.get? a = some { cls:=.type "list",data:=.seq vs.toArray }->IntsAre vs ns->ns.length<=n->s₁.gens = #[] ->
   codeAny (model l.prog w) callerA (.call (.ref fa) ⟨[.ref a],[]⟩) (fun r s'=>r = .ok (.ret (.bool true))/\OldK s₁.heap s'.heap/\s'.os = s₁.os/\AllBare s'.gens) s₁) :
 WalkO q loose XP YP l.row.toRowW d [] (fun f vs=>PySem.call f vs):=by
 intro w s₀ s₁ mg mb G Y fa o pm cd doc dV kV ho hd hcd hD hmg hg args vals as hpre hlay hrd hwl hlo;obtain rfl:dV = .none:=Dflts.none hD hdf;obtain rfl:kV = .none:=Dflts.noKw hD;obtain ⟨a,vs,ns,rfl,rfl,hobj,hints,hlen⟩:=Ah hn hpre hwl;refine enter_call (ir (call w s₀ s₁ mg mb fa o pm cd doc a vs ns G Y ho (fd_plain hd) hcd hmg hobj hints hlen hg) fun r s' hq=>?_);obtain ⟨rfl,h2,h3,h4⟩:=hq;exact ⟨.inl ⟨.bool true,.bool true,[],rfl,fun _=>rfl,.bool true,Am l _,fun _=>⟨List.Pairwise.nil,fun _ hm=>(nomatch hm)⟩⟩,h2,h3,h4⟩
section
variable {prog:Program} {w:World} {A:Around} {E:Value->Shared->Prop} {s:Shared} {K:Frag}
end
end Att
namespace L2
open PySem PySem.Spec PyProof.Rows
theorem qi:∀ {vs:List Value} {ns:List Int},IntsAre vs ns->Vals (ns.map V.int) vs
 | _,_,.nil=>.nil
 | _,_,.cons n t h=>.cons ⟨t,rfl⟩ (qi h)
end L2
namespace L2
open PySem PySem.Spec PyProof.Rows
end L2
namespace L2
open PySem PySem.Spec PyProof.Rows
noncomputable def jJ (s:Stmt):Arguments:=match s with
 | .FunctionDef _ a _ _ _ _ _ _ _ _=>a
 | _=>{ posonlyargs:=[],args:=[],vararg:=none,kwonlyargs:=[],kw_defaults:=[],kwarg:=none,defaults:=[] }
noncomputable def ba (s:Stmt):List Stmt:=match s with
 | .FunctionDef _ _ b _ _ _ _ _ _ _=>b
 | _=>[]
noncomputable def ay (s:Stmt):Scope:=match s with
 | .FunctionDef _ _ _ _ _ _ sc _ _ _=>sc
 | _=>{ kind:=.function,names:=[],isGenerator:=false,isCoroutine:=false }
abbrev CX0:CXT:=fun _ _ _ _ _ _=>False
abbrev E0:XK:=fun _ _ _=>False
theorem NB {X:Cx}:Passes CX0 X E0:=fun _ _ _ _ _ _ _ h=>h.elim
structure Fun (K:PySem.W.Frag) (x qual:Str) (st:Stmt) (f:Addr) (fd:FuncData):Prop where
 ex:∃ (oc:Value) (od:Option Addr) (kV doc pm:Value) (an:Option Addr) (cdv ct:Value) (osl:Array (Option Value)),
  fd = PySem.W.fnOf x qual (jJ st) (ba st) (ay st) .none kV doc pm an cdv ct/\K.lookup f = some ⟨oc,od,.func fd,osl⟩/\PySem.W.codeIn K cdv qual = true
 kp:PySem.W.keepIn K (.ref f) = true
section
variable {P:Program} {w:World} {K:PySem.W.Frag} {mg:Str->Option Value} {base:Heap}
theorem Fun.binds {x qual:Str} {st:Stmt} {f:Addr} {fd:FuncData} {ps:List Str} (F:Fun K x qual st f fd)
 (h:∀ (kV doc pm:Value) (an:Option Addr) (cdv ct:Value) (us:List Value),us.length = ps.length->bindArgs (PySem.W.fnOf x qual (jJ st) (ba st) (ay st) .none kV doc pm an cdv ct) ⟨us,[]⟩ = pure (ps.zip us)):Binds K fd ps []:=by
 obtain ⟨oc,od,kV,doc,pm,an,cdv,ct,osl,rfl,lk,hcd⟩:=F.ex;exact .all (h kV doc pm an cdv ct)
theorem fun_mk {x qual:Str} {st:Stmt} {f:Addr} {oc:Value} {od an:Option Addr} {osl:Array (Option Value)} {kV doc pm cdv ct:Value} (l:K.lookup f = some ⟨oc,od,.func (PySem.W.fnOf x qual (jJ st) (ba st) (ay st) .none kV doc pm an cdv ct),osl⟩)
 (c:PySem.W.codeIn K cdv qual = true) (k:PySem.W.keepIn K (.ref f) = true):Fun K x qual st f (PySem.W.fnOf x qual (jJ st) (ba st) (ay st) .none kV doc pm an cdv ct):=⟨⟨oc,od,kV,doc,pm,an,cdv,ct,osl,rfl,l,c⟩,k⟩
end
section
variable {X:Cx}
end
theorem pO {A B:Prop} (h:B):if false = true then A else B:=by
 rw [if_neg ah];exact h
theorem oz {A B:Prop} (h:A):if true = true then A else B:=by
 rw [if_pos rfl];exact h
noncomputable def hJ (H H':Hp):Prop:=∀ b o,H b = some o->H' b = some o
theorem hJ.refl (H:Hp):hJ H H:=fun _ _ h=>h
end L2
end
section
namespace L2
open PySem PySem.Spec PyProof.Rows
section
variable {κ:Type} [DecidableEq κ]
end
section
variable {P:Program} {w:World} {H:Hp} {h:Heap} {a:Addr}
end
section
variable {X:Cx} {pins:List (Addr × Obj)} {σ:St} {H:Hp} {s:Shared} {a:Addr} {y v:V} {u r:Value} {o:Option V} {A:Around} {E:Value->Shared->Prop}
end
section
variable {X:Cx} {pins:List (Addr × Obj)} {σ:St} {H:Hp} {s:Shared} {a:Addr} {kvs:List (Key × V)} {k:Key} {u:Value} {A:Around} {E:Value->Shared->Prop}
end
section
variable {X:Cx} {o i e value:Expr} {pos pos' tpos:Pos} {td ty tv:TE}
end
section
variable {X:Cx} {pos:Pos}
end
structure M1 (X:Cx) (o:Expr) (m:Str) (apos:Pos) (e:Expr) (cpos:Pos):Prop where
 base:attributeBase o m X.env (eval o X.env) = eval o X.env
 few:((backTo cpos (starEach [e] X.env)).all (fun x=>!x.1) && (backToKw cpos (keywordEach [] X.env)).all (fun x=>x.1.isSome)
  && decide (([e]:List Expr).length+([]:List Keyword).length+(if ([]:List Keyword).isEmpty then 0 else 1) < 30)) = true
 line:(apos.endLine == cpos.line) = true
 trees:backTo cpos (starEach [e] X.env) = [(false,eval e X.env)]
structure M2 (X:Cx) (o:Expr) (m:Str) (apos:Pos) (e f:Expr) (cpos:Pos):Prop where
 base:attributeBase o m X.env (eval o X.env) = eval o X.env
 few:((backTo cpos (starEach [e,f] X.env)).all (fun x=>!x.1) && (backToKw cpos (keywordEach [] X.env)).all (fun x=>x.1.isSome)
  && decide (([e,f]:List Expr).length+([]:List Keyword).length+(if ([]:List Keyword).isEmpty then 0 else 1) < 30)) = true
 line:(apos.endLine == cpos.line) = true
 trees:backTo cpos (starEach [e,f] X.env) = [(false,eval e X.env),(false,eval f X.env)]
section
variable {X:Cx} {pins:List (Addr × Obj)} {σ:St} {H:Hp} {s:Shared} {a:Addr} {y d:V} {u r:Value} {o:Option V} {A:Around} {E:Value->Shared->Prop}
end
section
variable {X:Cx} {o e f:Expr} {apos cpos:Pos} {td ty tx:TE}
end
section
variable {X:Cx} {pins:List (Addr × Obj)} {σ:St} {H:Hp} {s:Shared} {a:Addr} {kvs:List (Key × V)} {A:Around} {E:Value->Shared->Prop}
end
section
variable {X:Cx} {pins:List (Addr × Obj)} {σ:St} {H:Hp} {s:Shared} {a:Addr} {y:V} {u:Value} {A:Around} {E:Value->Shared->Prop}
end
abbrev TU:=St->Hp->(St->Hp->Prop)->Prop
noncomputable def PU (X:Cx) (m:Sem Unit) (t:TU):Prop :=
 ∀ (pins:List (Addr × Obj)) (s:Shared) (σ:St) (H:Hp) (Q:St->Hp->Prop),Inv X pins σ H s->t σ H Q ->
  wpAny (model X.prog X.w) X.A m (fun _ s'=>∃ σ' H',Inv X pins σ' H' s'/\Q σ' H') X.xe s
noncomputable def PTs (X:Cx) (ifs:List Expr) (t:TT):Prop :=
 ∀ (pins:List (Addr × Obj)) (s:Shared) (σ:St) (H:Hp) (Q:Bool->Hp->Prop),Inv X pins σ H s->t σ H Q ->
  wpAny (model X.prog X.w) X.A (forIn ifs true fun c r=>if r = true then do let ok <- isTrue c X.env (eval c X.env);pure (ForInStep.yield ok) else pure (ForInStep.yield r)) (TP X pins σ Q) X.xe s
section
variable {X:Cx}
theorem Hy:PTs X [] (fun _ H Q=>Q true H):=fun pins s σ H Q I h=>wpAny_tests_nil ⟨H,I,h⟩
theorem Hx {c:Expr} {t:TT} (hc:PT X c t):PTs X [c] t:=fun pins s σ H Q I h=>wpAny_tests_one (hc pins s σ H Q I h)
noncomputable def tLp (J:It) (g:TG) (tt:TT) (tb:TU):TU:=fun σ H Q=>∃ W:Nat->Nat->St->Hp->Prop,(∃ m,W 0 m σ H)/\∀ i m σ H,W i m σ H ->
 (J.stop i H/\Q σ H)\/(J.go i H/\∀ x H',J.yld i H x H'->g x σ H' fun σ2 H2=>tt σ2 H2 fun b H3 =>
   if b = true then tb σ2 H3 fun σ4 H4=>∃ m',m' < m/\W (i+1) m' σ4 H4 else ∃ m',m' < m/\W (i+1) m' σ2 H3)
theorem JA {e tg:Expr} {d:Nat} {ifs:List Expr} {ip:Pos} {it:Addr} {acc:Value} {body:Sem Unit} {J:It} {fp:List Addr} {tn:Nat->Heap->Prop} {g:TG} {tt:TT} {tb:TU}
 (hx:X.xe = fun _ _=>False) (hc:X.calm = true)
 (hq:(Code.compLoop e d (.ref it) acc X.env).quiet = true)
 (hden:(model X.prog X.w).den (.compLoop e d (.ref it) acc X.env) = (compTurn e d (.ref it) acc X.env).onRaise (fun x=>do noteFrame x X.env;theTreesLotGoes x))
 (hund:X.A.under (.compLoop e d (.ref it) acc X.env) = X.A)
 (hturn:compTurn e d (.ref it) acc X.env = (do
   standAt ip
   match <- pyNext (.ref it) with
   | none=>pure (.done .next)
   | some v =>
     letOwnedTupleGo tg (.ref it) v
     assign tg X.env v
     let mut ok:=true
     for c in ifs do
      if ok then ok <- isTrue c X.env (eval c X.env)
     if ok then body
     again (.compLoop e d (.ref it) acc X.env)))
 (T:Turn X.prog X.w X.K tg J fp it tn) (hg:PG X tg g) (ht:PTs X ifs tt) (hb:PU X body tb) {R:Result->Shared->Prop}
 {pins:List (Addr × Obj)} {s:Shared} {σ:St} {H:Hp} {Q:St->Hp->Prop} (I:Inv X pins σ H s) (st:tn 0 s.heap) (f:∀ b∈fp,iU X pins H b) (h:tLp J g tt tb σ H Q)
 (hR:∀ s' σ' H',Inv X pins σ' H' s'->Q σ' H'->R (.ok .next) s'):codeAny (model X.prog X.w) X.A (.compLoop e d (.ref it) acc X.env) R s:=by
 obtain ⟨W,⟨m0,w0⟩,turn⟩:=h;have stat:∀ {H':Hp},(∀ b∈fp,H' b = none)->∀ b∈fp,iU X pins H' b:=fun hn b hb=>⟨hn b hb,(f b hb).2⟩;refine codeAny_loop hq (fun n s'=>∃ i σ' H',Inv X pins σ' H' s'/\tn i s'.heap/\(∀ b∈fp,H' b = none)/\W i n σ' H') ?_ m0 ⟨0,σ,H,I,st,fun b hb=>(f b hb).1,w0⟩;rintro n s3 ⟨i,σ3,H3,I3,st3,fr3,w3⟩;rw [hden,hund,hturn];refine wpAny_noted ?_
 have cut:∀ {α:Type} {m:Sem α} {Q:α->Shared->Prop} {s:Shared} {E':Value->Shared->Prop},wpAny (model X.prog X.w) X.A m Q X.xe s->wpAny (model X.prog X.w) X.A m Q E' s:=fun z=>by
  rw [hx] at z;exact wpAny_noRaise z
 refine ae (gN (ae ?_));rcases turn i n σ3 H3 w3 with ⟨stop,qn⟩ | ⟨go,step⟩
 . refine cut (thn (T.done X rfl rfl rfl hc i pins s3 σ3 H3 X.xe I3 (stat fr3) st3 stop) fun r s4 ⟨hr,I4⟩=>?_);subst hr;exact ai (hR s4 σ3 H3 I4 qn)
 . refine cut (thn (T.item X rfl rfl rfl hc i pins s3 σ3 H3 X.xe I3 (stat fr3) st3 go) fun r s4 ⟨u,hr,h4⟩=>?_);subst hr;refine ae (cut (thn h4 fun _ s5 ⟨x,H5,I5,r5,y5,st5,fr5⟩=>?_));have I5':=I5.pinned (stat fr5) (T.obj _ _ st5);refine ae (cut (thn (hg _ s5 σ3 H5 x u _ I5' r5 (step x H5 y5)) fun _ s6 ⟨σ6,H6,I6,q6⟩=>?_))
   have again:∀ {σ7:St} {H7:Hp} {s7:Shared},Inv X (pins++oa fp s5.heap) σ7 H7 s7->(∃ m',m' < n/\W (i+1) m' σ7 H7)->∃ m,m < n/\∃ i σ' H',Inv X pins σ' H' s7/\tn i s7.heap/\(∀ b∈fp,H' b = none)/\W i m σ' H':=fun {σ7 H7 s7} I7 n7=>by
    obtain ⟨m',hm,w7⟩:=n7;refine ⟨m',hm,i+1,σ7,H7,I7.unpinned,T.keep _ _ _ st5 fun b hb o e=>(I7.pin (b,o) (aL _ (aL _ (iK hb e)))).1,fun b hb=>?_,w7⟩;obtain ⟨o,e,d⟩:=T.obj _ _ st5 b hb;exact (I7.pin (b,o) (aL _ (aL _ (iK hb e)))).2.1
   refine ae (cut (thn (ht _ s6 σ6 H6 _ I6 q6) fun ok s7 ⟨H7,I7,q7⟩=>?_))
   cases ok with
   | false =>
     rw [if_neg ah] at q7
     exact ai ⟨rfl,again I7 q7⟩
   | true =>
     rw [if_pos rfl] at q7;refine ae (cut (thn (hb _ s7 σ6 H7 _ I7 q7) fun _ s8 ⟨σ8,H8,I8,q8⟩=>?_));exact ai ⟨rfl,again I8 q8⟩
end
noncomputable def gK (env:Env):List (Str × NameKind)->List (Str × Addr)->List (Str × Addr)
 | [],cs=>cs
 | (n,k)::r,cs=>gK env r (if k == .free then (n,(env.cells.lookup n).getD 0)::cs else cs)
theorem yV {env:Env}:∀ (names:List (Str × NameKind)) (cs:List (Str × Addr)),(∀ x,(x,NameKind.free)∈names->∃ c,env.cells.lookup x = some c) ->
 (forIn names cs fun x r=>match x with | (name,kind)=>(do
   if (kind == NameKind.free) = true then do
    let y <- cellOf env name
    pure (ForInStep.yield ((name,y)::r))
   else pure (ForInStep.yield r):Sem (ForInStep (List (Str × Addr))))) = (pure (gK env names cs):Sem (List (Str × Addr)))
 | [],cs,_=>rfl
 | (n,k)::r,cs,h=>by
   have ih:=fun cs=>yV (env:=env) r cs fun x hx=>h x (ak _ hx);rw [eE];by_cases hk:k = .free
   . subst hk;obtain ⟨c,e⟩:=h n ao;have e2:cellOf env n = pure c:=by unfold cellOf;rw [e]
     simp only [beq_self_eq_true,if_true,e2,pure_bind,gK,e,Bg];exact ih _
   . have hb:(k == NameKind.free) = false:=by simpa using hk
     simp only [hb,aG,if_false,pure_bind,gK];exact ih _
theorem Ff {env:Env} {scope:Scope} (h:∀ x,(x,NameKind.free)∈scope.names->∃ c,env.cells.lookup x = some c):closureFor scope env = pure (gK env scope.names []):=by
 have q:=yV (env:=env) scope.names [] h;unfold closureFor;rw [<- bind_pure (pure (gK env scope.names []):Sem _),<- q]
theorem sQ {env:Env}:∀ (names:List (Str × NameKind)) (cs:List (Str × Addr)),(∀ x,(x,NameKind.free)∈names->∃ c,env.cells.lookup x = some c)->∀ p∈gK env names cs,p∈cs\/env.cells.lookup p.1 = some p.2
 | [],cs,_,p,hp=>.inl hp
 | (n,k)::r,cs,h,p,hp=>by
   unfold gK at hp;have ih:=sQ (env:=env) r _ (fun x hx=>h x (ak _ hx)) p hp;rcases ih with ih | ih
   . by_cases hk:k = .free
     . subst hk;rw [if_pos (by simp)] at ih;rcases aD.mp ih with rfl | ih
       . obtain ⟨c,e⟩:=h n ao;right;rw [e];rfl
       . exact .inl ih
     . rw [if_neg (by simpa using hk)] at ih;exact .inl ih
   . exact .inr ih
theorem sR {env:Env}:∀ (names:List (Str × NameKind)) (cs:List (Str × Addr)) (x:Str),((x,NameKind.free)∈names\/∃ c,(x,c)∈cs)->∃ c,(x,c)∈gK env names cs
 | [],cs,x,h=>by
   rcases h with h | h
   . cases h
   . exact h
 | (n,k)::r,cs,x,h=>by
   unfold gK;refine sR (env:=env) r _ x ?_;rcases h with h | ⟨c,h⟩
   . rcases aD.mp h with e | h
     . cases e;right;rw [if_pos (by simp)];exact ⟨_,ao⟩
     . exact .inl h
   . right;split
     . exact ⟨c,ak _ h⟩
     . exact ⟨c,h⟩
theorem gZ {α:Type}:∀ {l:List (Str × α)} {x:Str} {c:α},(x,c)∈l->∃ d,l.lookup x = some d
 | [],_,_,h=>by cases h
 | (y,d)::r,x,c,h=>by
   rw [eS]
   cases e:x == y with
   | true=>exact ⟨d,rfl⟩
   | false =>
     rcases aD.mp h with q | q
     . cases q;simp at e
     . exact gZ q
structure pj (X:Cx) (scope:Scope):Prop where
 kind:scope.kind = .function
 nocell:∀ y∈scope.names,y.2≠.cell
 names:∀ y∈scope.names,y.2 = .local->scope.names.lookup y.1 = some .local
 free:∀ x,(x,NameKind.free)∈scope.names->X.env.kindOf x = some .cell\/X.env.kindOf x = some .free
noncomputable def cxC (X:Cx) (scope:Scope) (cl:List (Str × Addr)) (C:Addr) (Nc:List Str) (s:Shared) (H:Hp) (fp:List Addr):Cx :=
 { X with N:=Nc,s₀:=s,H₀:=H,env:=compEnvC scope cl C X.env,outer:=X.stack,ex:=fp,fn:=fun _=>false,pn:=[],xe:=fun _ _=>False }
theorem gC {scope:Scope} {env:Env}:∀ (names:List (Str × NameKind)) (x:Str),
 (names.map fun (n,k)=>if (k == NameKind.free && env.scope.kind == .function && env.kindOf n == some .cell) then (n,NameKind.cell) else (n,k)).lookup x =
   (names.lookup x).map fun k=>if (k == NameKind.free && env.scope.kind == .function && env.kindOf x == some .cell) then NameKind.cell else k
 | [],x=>rfl
 | (n,k)::r,x=>by
   have ih:=gC (scope:=scope) (env:=env) r x;rw [aX]
   cases hx:x == n with
   | true =>
     have e:x = n:=by simpa using hx
     subst e;by_cases hc:(k == NameKind.free && env.scope.kind == .function && env.kindOf x == some .cell) = true
     . simp only [hc,if_true,eS,beq_self_eq_true,cJ]
     . simp only [hc,if_false,eS,beq_self_eq_true,cJ,aG]
   | false =>
     by_cases hc:(k == NameKind.free && env.scope.kind == .function && env.kindOf n == some .cell) = true
     . simp only [hc,if_true,eS,hx];exact ih
     . simp only [hc,if_false,eS,hx,aG];exact ih
theorem lB {scope:Scope} {env:Env} {cl:List (Str × Addr)} {C:Addr} (x:Str):(compEnvC scope cl C env).kindOf x =
 (scope.names.lookup x).map fun k=>if (k == NameKind.free && env.scope.kind == .function && env.kindOf x == some .cell) then NameKind.cell else k:=gC (scope:=scope) (env:=env) scope.names x
theorem pS {scope:Scope} {env:Env} {cl:List (Str × Addr)} {C:Addr} {x:Str} (nc:∀ y∈scope.names,y.2≠.cell) (h:(compEnvC scope cl C env).kindOf x = some .cell\/(compEnvC scope cl C env).kindOf x = some .free) :
 scope.names.lookup x = some .free:=by
 rw [lB] at h
 cases e:scope.names.lookup x with
 | none=>rw [e] at h;simp at h
 | some k =>
   rw [e] at h;have hm:=PySem.mem_of_lookup e;have:=nc _ hm;simp only [cJ] at h;cases k<;>simp_all
theorem qB {X:Cx} {scope:Scope} {C:Addr} {Nc:List Str} {s:Shared} {h1:Heap} {t1:Nat} {H:Hp} {fp:List Addr} {pins:List (Addr × Obj)} {σ:St}
 (S:pj X scope) (I:Inv X pins σ H s) (hf:∀ b∈fp,iU X pins H b) (hfl:∀ b∈fp,b < s.heap.objs.size) (hC:C = s.heap.objs.size) (hns:h1.Ns C fun _=>none) (hk:∀ b o,s.heap.get? b = some o->h1.get? b = some o)
 (hN:∀ i x,i < X.N.length->Nc[i]? = some x->Vis scope x->X.N[i]? = some x/\scope.names.lookup x = some .free) (hl:X.N.length<=Nc.length) :
 Inv (cxC X scope (gK X.env scope.names []) C Nc s H fp) [] (σ++List.replicate (Nc.length - X.N.length) none) H { s with heap:=h1,toks:=t1 }:=by
 have hcl:∀ x,(x,NameKind.free)∈scope.names->∃ c,X.env.cells.lookup x = some c:=fun x hx=>I.ok.has x (S.free x hx)
 have hlk:∀ x c,(gK X.env scope.names []).lookup x = some c->X.env.cells.lookup x = some c:=fun x c e=>by
  have:=sQ scope.names [] hcl _ (PySem.mem_of_lookup e);rcases this with z | z
  . cases z
  . exact z
 subst hC
 have neC:∀ x c,(gK X.env scope.names []).lookup x = some c->c < s.heap.objs.size:=fun x c e=>by
  obtain ⟨v,z⟩:=I.cell x c (hlk x c e);exact z.lt
 refine ⟨⟨I.ok.mod,S.kind,I.ok.glob,I.ok.blt,av _,fun x y c e1 e2=>I.ok.inj x y c (hlk x c e1) (hlk y c e2),fun x hx=>?_,fun x c z _=>absurd z ah,I.ok.hd,I.ok.frames,.inl rfl,fun b hb=>⟨aC (hfl b hb),fun x c e=>(hf b hb).2.2.2.2.1 x c (hlk x c e)⟩,
  I.bs,aY I.ok.bsz I.sz,fun b o e hb=>?_,fun b hb hz=>?_,I.stack,I.stkFree⟩,rfl,I.bare,Un.kept hk,⟨_,hns,fun i x v e1 e2 e3=>?_⟩,fun x c e=>?_,I.hok.fresh (av _),fun x c e=>I.freeC x c (hlk x c e),fun p hp=>absurd (show p∈([]:List (Addr × Obj)) from hp) (by simp),I.hok.kept hk,?_⟩
 . have q:=pS (cl:=gK X.env scope.names []) (C:=s.heap.objs.size) S.nocell hx;obtain ⟨c,hm⟩:=sR (env:=X.env) scope.names [] x (.inl (PySem.mem_of_lookup q));exact gZ hm
 . obtain ⟨_,_,_,f3,_⟩:=hf b hb;rcases f3 with z | z
   . exact I.ok.noex b o e z
   . exact absurd (aK (ar e) (aY I.ok.bsz z)) (bU _)
 . obtain ⟨_,f1,f2,_⟩:=hf b hb;rcases aD.mp (I.stkSub b hz) with q | q
   . exact f1 q
   . exact f2 q
 . have e1:Nc[i]? = some x:=e1
   have hi:i < X.N.length:=by
    by_cases hi:i < X.N.length
    . exact hi
    . rw [aZ (by rw [I.len];omega),fI] at e2;split at e2<;>cases e2
   rw [aO (by rw [I.len];exact hi)] at e2
   have vis:Vis scope x:=by
    have e3:Vis (relabel scope X.env) x:=e3;unfold Vis relabel at e3;rw [gC (scope:=scope)] at e3;unfold Vis
    cases q:scope.names.lookup x with
    | none=>rw [q] at e3;simp at e3
    | some k =>
      rw [q] at e3;simp only [cJ] at e3;have:=S.nocell _ (PySem.mem_of_lookup q);cases k<;>simp_all
   obtain ⟨n1,n2⟩:=hN i x hi e1 vis;obtain ⟨m,hn,hl'⟩:=I.loc;have kd:=S.free x (PySem.mem_of_lookup n2)
   have visX:Vis X.env.scope x:=by
    rcases kd with z | z
    . exact .inr (.inl z)
    . exact .inr (.inr z)
   obtain ⟨u,r,l⟩:=hl' i x v n1 e2 visX;refine ⟨u,r,.inr ?_⟩;rcases l with ⟨k,_⟩ | ⟨k,c,ec,z⟩
   . rcases kd with z | z
     . rw [z] at k;cases k
     . rw [z] at k;cases k
   . obtain ⟨c',hm⟩:=sR (env:=X.env) scope.names [] x (.inl (PySem.mem_of_lookup n2));obtain ⟨c2,hc2⟩:=gZ hm;have:=hlk x c2 hc2;rw [ec] at this;cases this;refine ⟨?_,c,hc2,?_⟩
     . show (compEnvC scope (gK X.env scope.names []) s.heap.objs.size X.env).kindOf x = some .cell\/(compEnvC scope (gK X.env scope.names []) s.heap.objs.size X.env).kindOf x = some .free;rw [lB,n2];simp only [cJ];split
       . exact .inl rfl
       . exact .inr rfl
     . obtain ⟨o,ho,hd⟩:=z;exact ⟨o,hk _ _ ho,hd⟩
 . obtain ⟨v,o,ho,hd⟩:=I.cell x c (hlk x c e);exact ⟨v,o,hk _ _ ho,hd⟩
 . show _ = Nc.length;rw [au,fX,I.len];omega
noncomputable def Cv (D:Addr) (te:TE):TU:=fun σ H Q=>te σ H fun y H'=>∃ xs,H' D = some (.lst xs)/\xs.length < sizeLine/\Q σ (upd H' D (.lst (xs++[y])))
theorem xX {X:Cx} {elt:Expr} {te:TE} {D:Addr} (he:PE X elt te):PU X (do let _ <- call (.builtin "list.append") [.ref D,<- eval elt X.env]) (Cv D te):=by
 intro pins s σ H Q I h;refine ae (thn (he pins s σ H _ I h) fun u s1 ⟨y,H1,I1,r1,xs,hD,hz,q⟩=>?_);refine ae (thn (qy pins s1 σ H1 (.ref D) [y] (.ref D) [u] (fun _ H'=>Q σ H') I1 rfl (.cons r1 .nil) ⟨D,xs,y,rfl,rfl,hD,hz,q⟩) fun _ s2 ⟨_,H2,I2,_,q2⟩=>?_);exact ai ⟨σ,H2,I2,q2⟩
noncomputable def tLC (k:Nat) (wi:TI) (g:TG) (tt:TT) (te:TE):TE:=fun σ H Q=>wi σ H fun J H1=>∀ D,H1 D = none ->
 tLp J g tt (Cv D te) (σ++List.replicate k none) (upd H1 D (.lst [])) fun _ H2=>Q (.ref D) H2
theorem oE {X:Cx} {scope:Scope} {cl:List (Str × Addr)} {C:Addr} {Nc:List Str} {s s':Shared} {h2:Heap} {H H':Hp} {fp:List Addr} {pins:List (Addr × Obj)} {σ σ':St}
 (I:Inv X pins σ H s) (hf:∀ b∈fp,iU X pins H b) (hC:C = s.heap.objs.size) (J:Inv (cxC X scope cl C Nc s H fp) [] σ' H' s') (hs:Heap.SameBut C s'.heap h2):Inv X pins σ H' { s' with heap:=h2 }:=by
 have hok:HOk X.prog X.w H' h2:=fun b ob e=>by
  refine (J.hok b ob e).stay (fun c w' hc q=>(hs.2 c ?_).trans q) (fun _ q=>q) fun _ _ q=>q;rintro rfl;have fr:H' c = none:=J.free;rcases hc with rfl | hc
  . rw [fr] at e;cases e
  . rw [fr] at hc;cases hc
 have neC:∀ b o,s.heap.get? b = some o->b≠C:=fun b o e=>by rw [hC];exact aC (ar e)
 refine I.call' (s':={ s' with heap:=h2 }) (ch:=fp) J.os ⟨fun b o e n hb hx=>?_,fun b o e n hb hx=>?_,fun b o e n hx=>J.base.free b o e n hx,fun b o e hx=>?_,J.base.tups,J.base.frzs,J.base.tbls⟩ hok J.bare fun b hb=>?_
 . exact (hs.2 b (neC b o e)).trans (J.base.keep b o e n hb hx)
 . obtain ⟨sl,z⟩:=J.base.slot b o e n hb hx;exact ⟨sl,(hs.2 b (neC b o e)).trans z⟩
 . obtain ⟨o',z⟩:=J.base.there b o e hx;exact ⟨o',(hs.2 b (neC b o e)).trans z⟩
 . obtain ⟨f0,f1,f2,f3,f4,f5⟩:=hf b hb;exact ⟨f3,f1,f4,f5⟩
theorem oI {X:Cx} {scope:Scope} {C:Addr} {Nc:List Str} {s:Shared} {H H':Hp} {fp:List Addr} {pins:List (Addr × Obj)} {σ:St}
 (S:pj X scope) (I:Inv X pins σ H s) (hf:∀ b∈fp,iU X pins H b) (hfl:∀ b∈fp,b < s.heap.objs.size) (hC:C = s.heap.objs.size) (hn:∀ b∈fp,H' b = none) :
 ∀ b∈fp,iU (cxC X scope (gK X.env scope.names []) C Nc s H fp) [] H' b:=fun b hb=>by
 have hcl:∀ x,(x,NameKind.free)∈scope.names->∃ c,X.env.cells.lookup x = some c:=fun x hx=>I.ok.has x (S.free x hx);obtain ⟨f0,f1,f2,f3,f4,f5⟩:=hf b hb;refine ⟨hn b hb,?_,fun z=>?_,.inl hb,fun x c e=>?_,fun p hp=>absurd (show p∈([]:List (Addr × Obj)) from hp) (by simp)⟩
 . show b≠C;rw [hC];exact aC (hfl b hb)
 . rcases aD.mp (I.stkSub b z) with q | q
   . exact f1 q
   . exact f2 q
 . have:=sQ scope.names [] hcl _ (PySem.mem_of_lookup e);rcases this with z | z
   . cases z
   . exact f4 x c z
theorem DH {X:Cx} {elt tg iter:Expr} {ifs:List Expr} {scope:Scope} {pos:Pos} {Nc:List Str} {wi:TI} {g:TG} {tt:TT} {te:TE}
 (hx:X.xe = fun _ _=>False) (hc:X.calm = true) (S:pj X scope) (hN:∀ i x,i < X.N.length->Nc[i]? = some x->Vis scope x->X.N[i]? = some x/\scope.names.lookup x = some .free) (hl:X.N.length<=Nc.length)
 (hi:PI X tg iter wi) (hg:∀ cl C s H fp,PG (cxC X scope cl C Nc s H fp) tg g) (ht:∀ cl C s H fp,PTs (cxC X scope cl C Nc s H fp) ifs tt) (he:∀ cl C s H fp,PE (cxC X scope cl C Nc s H fp) elt te)
 (hs:∀ x,foldedSetIterable iter X.env x = pure x):PE X (.ListComp elt [⟨tg,iter,ifs,0⟩] scope pos) (tLC (Nc.length - X.N.length) wi g tt te):=by
 intro pins s σ H Q I h;rw [eval_ListComp]
 have cutE:∀ {α:Type} {m:Sem α} {Q:α->Shared->Prop} {s:Shared} {E':Value->Shared->Prop},wpAny (model X.prog X.w) X.A m Q X.xe s->wpAny (model X.prog X.w) X.A m Q E' s:=fun z=>by
  rw [hx] at z;exact wpAny_noRaise z
 refine AY (use:=none) rfl hs (Ff fun x hz=>I.ok.has x (S.free x hz)) S.kind S.names (thn (hi pins s σ H _ I h) fun v s1 h1=>thn h1 fun itv s2 h2=>?_);obtain ⟨it,fp,tn,J,H2,e,I2,T,st2,f2,q⟩:=h2;subst e;refine aS (hd:=by size_fits) ?_;have hfr:=I2.fresh;have I3:Inv X pins σ (upd H2 s2.heap.objs.size (.lst [])) { s2 with heap:=s2.heap.push { cls:=.type "list",data:=.seq ([]:List Value).toArray } }:=I2.lnew (t':=s2.toks) (its:=[]) .nil (bC _);have st3:tn 0 (s2.heap.push { cls:=.type "list",data:=.seq ([]:List Value).toArray }):=T.keep _ _ _ st2 fun b _ o e=>af _ e
 have fl3:∀ b∈fp,b < s2.heap.objs.size:=fun b hb=>by
  obtain ⟨o,e,_⟩:=T.obj _ _ st2 b hb;exact ar e
 have ne3:∀ b∈fp,upd H2 s2.heap.objs.size (.lst []) b = none:=fun b hb=>by rw [bw (aC (fl3 b hb))];exact (f2 b hb).1
 have f3:∀ b∈fp,iU X pins (upd H2 s2.heap.objs.size (.lst [])) b:=fun b hb=>⟨ne3 b hb,(f2 b hb).2⟩;have q3:=q s2.heap.objs.size hfr;generalize hH3:upd H2 s2.heap.objs.size (.lst []) = H3 at I3 ne3 f3 q3;generalize hs3:({ s2 with heap:=s2.heap.push { cls:=.type "list",data:=.seq ([]:List Value).toArray } }:Shared) = s3 at I3;have hs3h:s3.heap = s2.heap.push { cls:=.type "list",data:=.seq ([]:List Value).toArray }:=by rw [<- hs3]
 rw [<- hs3h] at st3;have fl4:∀ b∈fp,b < s3.heap.objs.size:=fun b hb=>by rw [hs3h,bf];exact bc (fl3 b hb)
 refine IX S.nocell (by intro y hy;simp at hy) (fun h1 hns hsb=>?_) S.kind;have keep1:∀ b o,s3.heap.get? b = some o->h1.get? b = some o:=fun b o e=>hsb.extBut b o (aC (ar e)) (af _ e);have J0:=qB (h1:=h1) (t1:=s3.toks+([]:List (Str × Value)).length) S I3 f3 fl4 rfl (by simpa using hns) keep1 hN hl;have st4:tn 0 h1:=T.keep _ _ _ st3 fun b _ o e=>keep1 b o e
 have loop:∀ s4:Shared,s4 = { s3 with heap:=h1,toks:=s3.toks+([]:List (Str × Value)).length } ->
  codeAny (model X.prog X.w) X.A (.compLoop (.ListComp elt [⟨tg,iter,ifs,0⟩] scope pos) 0 (.ref it) (.ref s2.heap.objs.size) (compEnvC scope (gK X.env scope.names []) s3.heap.objs.size X.env))
   (compPost (model X.prog X.w) X.A X.xe none (EP X pins σ Q) (.ref s2.heap.objs.size) s3.heap.objs.size) s4:=by
  rintro s4 rfl
  refine JA (X:=cxC X scope (gK X.env scope.names []) s3.heap.objs.size Nc s3 H3 fp) (ip:=iter.pos) (body:=(do let _ <- call (.builtin "list.append") [.ref s2.heap.objs.size,<- eval elt (compEnvC scope (gK X.env scope.names []) s3.heap.objs.size X.env)]))
   rfl hc rfl rfl rfl (by rw [compTurn_list]<;>rfl) T (hg _ _ _ _ _) (ht _ _ _ _ _) (xX (he _ _ _ _ _)) J0 st4 (oI S I3 f3 fl4 rfl ne3) q3 ?_
  intro s' σ' H' J' q';obtain ⟨m,hn,_⟩:=J'.loc;exact ⟨m,hn,fun h2 hs2=>⟨.ref s2.heap.objs.size,H',oE I3 f3 rfl J' hs2,rfl,q'⟩⟩
 exact FH (loop _ rfl) (T.self _ _ _ _ _ st4 (loop _ rfl))
theorem Dv {X:Cx} {elt tg iter:Expr} {ifs:List Expr} {scope:Scope} {pos spos py:Pos} {Nc:List Str} {wi:TI} {g:TG} {tt:TT} {te:TE} {i:Nat} {y:Str}
 (hx:X.xe = fun _ _=>False) (hc:X.calm = true) (S:pj X scope) (hN:∀ i x,i < X.N.length->Nc[i]? = some x->Vis scope x->X.N[i]? = some x/\scope.names.lookup x = some .free) (hl:X.N.length<=Nc.length)
 (hi:PI X tg iter wi) (hg:∀ cl C s H fp,PG (cxC X scope cl C Nc s H fp) tg g) (ht:∀ cl C s H fp,PTs (cxC X scope cl C Nc s H fp) ifs tt) (he:∀ cl C s H fp,PE (cxC X scope cl C Nc s H fp) elt te)
 (hs:∀ x,foldedSetIterable iter X.env x = pure x)
 (hNd:X.N.Nodup) (hy:X.N[i]? = some y) (hv:Loc X.env.scope y) (hf:X.fn y = true\/X.env.scope.names.lookup y = some .local)
 (hsw:swapsWith (.ListComp elt [⟨tg,iter,ifs,0⟩] scope pos) (some (.Name y py)) spos.line X.env = pure true) :
 PS X (.Assign [.Name y py] (.ListComp elt [⟨tg,iter,ifs,0⟩] scope pos) spos) (GK (tLC (Nc.length - X.N.length) wi g tt te) (qE i)):=by
 intro pins s σ H Q I h;rw [exec_Assign_Name_used _ _ _ _ hsw];refine ae (gN (ae ?_));show wpAny _ X.A (do let _ <- comprehension (.ListComp elt [⟨tg,iter,ifs,0⟩] scope pos) scope X.env _ (newList []) false (eval iter X.env) (some (assign (.Name y py) X.env))) _ _ s
 refine ae (cN (AY (use:=some (assign (.Name y py) X.env)) (Q:=fun _ s'=>SP X pins Q .next s') rfl hs (Ff fun x hz=>I.ok.has x (S.free x hz)) S.kind S.names
  (thn (hi pins s σ H _ I h) fun v s1 h1=>thn h1 fun itv s2 h2=>?_)) (fun _ s' hq=>ai (ai hq)) fun _ _ e=>e)
 obtain ⟨it,fp,tn,J,H2,e,I2,T,st2,f2,q⟩:=h2;subst e;refine aS (hd:=by size_fits) ?_;have hfr:=I2.fresh;have I3:Inv X pins σ (upd H2 s2.heap.objs.size (.lst [])) { s2 with heap:=s2.heap.push { cls:=.type "list",data:=.seq ([]:List Value).toArray } }:=I2.lnew (t':=s2.toks) (its:=[]) .nil (bC _);have st3:tn 0 (s2.heap.push { cls:=.type "list",data:=.seq ([]:List Value).toArray }):=T.keep _ _ _ st2 fun b _ o e=>af _ e
 have fl3:∀ b∈fp,b < s2.heap.objs.size:=fun b hb=>by
  obtain ⟨o,e,_⟩:=T.obj _ _ st2 b hb;exact ar e
 have ne3:∀ b∈fp,upd H2 s2.heap.objs.size (.lst []) b = none:=fun b hb=>by rw [bw (aC (fl3 b hb))];exact (f2 b hb).1
 have f3:∀ b∈fp,iU X pins (upd H2 s2.heap.objs.size (.lst [])) b:=fun b hb=>⟨ne3 b hb,(f2 b hb).2⟩;have q3:=q s2.heap.objs.size hfr;generalize hH3:upd H2 s2.heap.objs.size (.lst []) = H3 at I3 ne3 f3 q3;generalize hs3:({ s2 with heap:=s2.heap.push { cls:=.type "list",data:=.seq ([]:List Value).toArray } }:Shared) = s3 at I3;have hs3h:s3.heap = s2.heap.push { cls:=.type "list",data:=.seq ([]:List Value).toArray }:=by rw [<- hs3]
 rw [<- hs3h] at st3;have fl4:∀ b∈fp,b < s3.heap.objs.size:=fun b hb=>by rw [hs3h,bf];exact bc (fl3 b hb)
 refine IX S.nocell (by intro y hy;simp at hy) (fun h1 hns hsb=>?_) S.kind;have keep1:∀ b o,s3.heap.get? b = some o->h1.get? b = some o:=fun b o e=>hsb.extBut b o (aC (ar e)) (af _ e);have J0:=qB (h1:=h1) (t1:=s3.toks+([]:List (Str × Value)).length) S I3 f3 fl4 rfl (by simpa using hns) keep1 hN hl;have st4:tn 0 h1:=T.keep _ _ _ st3 fun b _ o e=>keep1 b o e
 have loop:∀ s4:Shared,s4 = { s3 with heap:=h1,toks:=s3.toks+([]:List (Str × Value)).length } ->
  codeAny (model X.prog X.w) X.A (.compLoop (.ListComp elt [⟨tg,iter,ifs,0⟩] scope pos) 0 (.ref it) (.ref s2.heap.objs.size) (compEnvC scope (gK X.env scope.names []) s3.heap.objs.size X.env))
   (compPost (model X.prog X.w) X.A X.xe (some (assign (.Name y py) X.env)) (fun _ s'=>SP X pins Q .next s') (.ref s2.heap.objs.size) s3.heap.objs.size) s4:=by
  rintro s4 rfl
  refine JA (X:=cxC X scope (gK X.env scope.names []) s3.heap.objs.size Nc s3 H3 fp) (ip:=iter.pos) (body:=(do let _ <- call (.builtin "list.append") [.ref s2.heap.objs.size,<- eval elt (compEnvC scope (gK X.env scope.names []) s3.heap.objs.size X.env)]))
   rfl hc rfl rfl rfl (by rw [compTurn_list]<;>rfl) T (hg _ _ _ _ _) (ht _ _ _ _ _) (xX (he _ _ _ _ _)) J0 st4 (oI S I3 f3 fl4 rfl ne3) q3 ?_
  intro s' σ' H' J' q';have hC:H' s3.heap.objs.size = none:=J'.free;obtain ⟨m,hn,_⟩:=J'.loc;have hn:s'.heap.Ns s3.heap.objs.size m:=hn
  -- the frame's state,the block's own names still there
  have I4:Inv X pins σ H' s':=oE I3 f3 rfl J' (Heap.SameBut.refl _ _);obtain ⟨oc,es,ep,ho,hd,hr⟩:=id hn;have above:X.s₀.heap.objs.size<=s3.heap.objs.size:=I3.sz;have hL:s3.heap.objs.size≠X.env.locals:=en I3.lt;have hfs:s3.heap.objs.size∉X.fs:=I3.nofs (av _)
  have I5:Inv X (pins++[(s3.heap.objs.size,oc)]) σ H' s':=I4.pins_of fun p hp=>by
   rcases bI.mp hp with hp | hp
   . exact I4.pin p (aL _ hp)
   . have:p = (s3.heap.objs.size,oc):=by simpa using hp
     subst this;exact ⟨ho,hC,hL,hfs,fun v z=>by rw [hd] at z;cases z⟩
  show wpAny _ _ (assign (.Name y py) X.env (.ref s2.heap.objs.size)) _ _ _;refine ML (gA (v:=.ref s2.heap.objs.size) I5 hNd hy hv rfl (fun s5 I6=>?_) hf);have hp6:=I6.pin (s3.heap.objs.size,oc) (aL _ (aL _ (by simp)));refine ⟨m,⟨oc,es,ep,hp6.1,hd,hr⟩,fun h' hsb'=>?_⟩;have I7:Inv X pins (σ.set i (some (.ref s2.heap.objs.size))) H' s5:=I6.unpinned;refine ⟨_,H',I7.turned (h':=h') (t':=s5.toks) (it:=s3.heap.objs.size) (fun b o hb e=>(hsb'.2 b hb).trans e) hC hL (.inr above) (fun x c e z=>?_) (fun p hp z=>?_),q'⟩
  . obtain ⟨v,o,hoc,hdc⟩:=I3.cell x c e;have:=ar hoc;rw [z] at this;exact absurd this (bU _)
  . have hq:=(I3.pin p hp).1;have:=ar hq;rw [z] at this;exact absurd this (bU _)
 exact FH (loop _ rfl) (T.self _ _ _ _ _ st4 (loop _ rfl))
section
variable {X:Cx}
noncomputable def Oz:V->Option Int->Option Int->Hp->VK->Prop:=fun x lo hi H Q=>∃ t,x = .str t/\t.length<=sizeLine/\Q (.str (Txt.slice t lo hi)) H
theorem part_of {v:Value} {lo:Option Int} (h:IsPart v lo):∃ l:Option (Int × Tok),v = partValue l/\l.map (·.1) = lo:=by
 cases h with
 | none=>exact ⟨none,rfl,rfl⟩
 | int i t=>exact ⟨some (i,t),rfl,rfl⟩
theorem KO:SlR X Oz:=by
 intro pins s σ H x v vl vu lo hi sl Q I rx hs pl pu h;obtain ⟨t,rfl,hz,q⟩:=h;obtain ⟨k,rfl⟩:=rx;obtain ⟨l,rfl,rfl⟩:=part_of pl;obtain ⟨u,rfl,rfl⟩:=part_of pu;refine ⟨"str",_,PySem.F.slot_str_getitem.lookup,MI _ _ _,wpAny_getItem_str_slice (l:=l) (u:=u) (st:=none) hs rfl ?_⟩;exact post_val_or_str ⟨aY (Txt.slice_le t _ _) hz,fun t' k=>⟨.str _,H,I.tok _,⟨_,rfl⟩,q⟩⟩
theorem pN:typeLookup (.type "tuple") (dunderI "add") = pure none:=by rw [kl,gx];kernel_rfl
theorem Iz:PIp X .Add (Jk X.K):=by
 intro pins s σ H x y v u Q I rx ry h;obtain ⟨a,b,xs,ys,rfl,rfl,ha,hb,hx,hz,q1,q2⟩:=h;cases rx;cases ry;obtain ⟨its,r1,p1,_⟩:=I.tuple ha;obtain ⟨its2,r2,p2,_⟩:=I.tuple hb;obtain ⟨⟨cls,dd,data,sl⟩,ho,hc,n,hd⟩:=id p1;obtain ⟨⟨cls2,dd2,data2,sl2⟩,ho2,hc2,n2,hd2⟩:=id p2;simp only at hc hd hc2 hd2;subst hc hd hc2 hd2;have e:its.toArray++its2.toArray = (its++its2).toArray:=by simp
 have hv:its≠[]:=fun z=>hx (r1.nil_iff.mp z);refine wpAny_inplaceOp_concat ⟨_,ho,rfl⟩ ⟨_,ho2,rfl⟩ pN jP nh ?_;by_cases hw:its2 = []
 . exact xu PySem.F.slot_tuple_add ⟨_,ho,rfl⟩ PySem.F.entry_tuple_add (PySem.F.args_tuple_add_2 _ _)
    (tuple_addW1 a b its.toArray its2.toArray n n2 dd dd2 sl sl2 (by simpa using hv) (by simp [hw])) ⟨ho,ho2,⟨.ref a,H,I,rfl,q1 (r2.nil_iff.mp hw)⟩⟩
 . refine xu PySem.F.slot_tuple_add ⟨_,ho,rfl⟩ PySem.F.entry_tuple_add (PySem.F.args_tuple_add_2 _ _)
    (tuple_addW2 a b its.toArray its2.toArray n n2 dd dd2 sl sl2 (by simpa using hv) (by simpa using hw) (by rw [az,az,<- r1.length,<- r2.length];exact hz)) ⟨ho,ho2,?_⟩
   rw [e];refine ⟨.ref s.heap.objs.size,_,I.laid (t':=s.toks) (o:=.tup (xs++ys)) (fun b ob q=>af _ q) (av _) ?_,rfl,q2 (fun w=>hw (r2.nil_iff.mpr w)) _ (I.hok.fresh (av _))⟩;exact ⟨by rw [au];exact hz,_,r1.append r2,mF _ _⟩
end
end L2
end
section
namespace PP
open PySem PySem.W PyProof.Rows
noncomputable def ans {α:Type} (lt:Nat->Nat->Bool):KasT α->α
 | .ret a=>a
 | .ask i j k=>ans lt (k (lt i j))
theorem dD {α β:Type} (lt:Nat->Nat->Bool) (f:α->KasT β):∀ t:KasT α,ans lt (t.bind f) = ans lt (f (ans lt t))
 | .ret a=>rfl
 | .ask i j k=>by
   show ans lt ((k (lt i j)).bind f) = _;rw [dD lt f (k (lt i j))];rfl
theorem eL {α:Type} (lt:Nat->Nat->Bool) (i j:Nat) (k:Bool->KasT α):ans lt (.ask i j k) = ans lt (k (lt i j)):=rfl
theorem gp {α:Type} (lt:Nat->Nat->Bool) (a:α):ans lt (.ret a) = a:=rfl
structure Ord (lt:Nat->Nat->Bool):Prop where
 as:∀ a b,lt a b = true->lt b a = false
 tr:∀ a b c,lt b a = false->lt c b = false->lt c a = false
section
variable {lt:Nat->Nat->Bool} (O:Ord lt)
noncomputable def Up (lt:Nat->Nat->Bool) (p:Array Nat) (m:Nat):Prop:=∀ i j,i<=j->j < m->lt (p.getD j 0) (p.getD i 0) = false
noncomputable def Dn' (lt:Nat->Nat->Bool) (p:Array Nat) (m:Nat):Prop:=∀ i j,i<=j->j < m->lt (p.getD i 0) (p.getD j 0) = false
include O
theorem Ord.refl (a:Nat):lt a a = false:=by
 cases h:lt a a with
 | false=>rfl
 | true=>have:=O.as a a h;rw [h] at this;cases this
theorem Up.one (p:Array Nat):Up lt p 1:=fun i j h1 h2=>by
 have e1:j = 0:=by lia
 have e2:i = 0:=by lia
 subst e1;subst e2;exact O.refl _
theorem Up.more {p:Array Nat} {n:Nat} (h:Up lt p n) (hn:1<=n) (h2:lt (p.getD n 0) (p.getD (n - 1) 0) = false):Up lt p (n+1):=fun i j h3 h4=>by
 by_cases e:j = n
 . subst e;by_cases e':i = j
   . subst e';exact O.refl _
   . exact O.tr _ _ _ (h i (j - 1) (by lia) (by lia)) h2
 . exact h i j h3 (by lia)
theorem Dn'.more {p:Array Nat} {n:Nat} (h:Dn' lt p n) (hn:1<=n) (h2:lt (p.getD (n - 1) 0) (p.getD n 0) = false):Dn' lt p (n+1):=fun i j h3 h4=>by
 by_cases e:j = n
 . subst e;by_cases e':i = j
   . subst e';exact O.refl _
   . exact O.tr _ _ _ h2 (h i (j - 1) (by lia) (by lia))
 . exact h i j h3 (by lia)
theorem xk (p:Array Nat):∀ (f n:Nat),1<=n->Up lt p n->n<=ans lt (kas_asc p f n)/\ans lt (kas_asc p f n)<=n+f/\Up lt p (ans lt (kas_asc p f n))/\(ans lt (kas_asc p f n) < n+f->lt (p.getD (ans lt (kas_asc p f n)) 0) (p.getD (ans lt (kas_asc p f n) - 1) 0) = true)
 | 0,n,_,h=>⟨av _,av _,h,fun z=>absurd z (bU _)⟩
 | f+1,n,hn,h=>by
   unfold kas_asc;rw [eL]
   cases c:lt (p.getD n 0) (p.getD (n - 1) 0) with
   | true =>
     rw [if_pos rfl,gp]
     exact ⟨av _,by lia,h,fun _=>c⟩
   | false =>
     rw [if_neg ah];obtain ⟨a1,a2,a3,a4⟩:=xk p f (n+1) (by lia) (h.more O hn c);exact ⟨by lia,by lia,a3,fun z=>a4 (by lia)⟩
omit O in
theorem getD_eq (p:Array Nat) (k:Nat):p.getD k 0 = (p[k]?).getD 0:=by
 simp [Array.getD_eq_getD_getElem?]
omit O in
theorem gQ {p:Array Nat} {i j:Nat} (hj:j<=p.size) (k:Nat):(kas_rev p i j).getD k 0 = if i<=k/\k < j then p.getD (i+j - 1 - k) 0 else p.getD k 0:=by
 rw [getD_eq,kas_rev,getElem?_mirror hj ((j - i) / 2) (by lia) k];by_cases h:i<=k/\k < j
 . rw [if_pos h];by_cases h2:(i<=k/\k < i+(j - i) / 2)\/(j - (j - i) / 2<=k/\k < j)
   . rw [if_pos h2,getD_eq]
   . rw [if_neg h2,getD_eq];have:i+j - 1 - k = k:=by lia
     rw [this]
 . rw [if_neg h];by_cases h2:(i<=k/\k < i+(j - i) / 2)\/(j - (j - i) / 2<=k/\k < j)
   . exfalso;lia
   . rw [if_neg h2,getD_eq]
omit O in
theorem gB (p:Array Nat) (i j:Nat):(kas_rev p i j).size = p.size:=mirror_size _ _ _ _
omit O in
theorem dS (p:Array Nat) (i j:Nat):(kas_rev p i j).Perm p:=mirror_perm _ _ _ _
theorem Dn'.rev {p:Array Nat} {n:Nat} (h:Dn' lt p n) (hn:n<=p.size):Up lt (kas_rev p 0 n) n:=fun i j h1 h2=>by
 rw [gQ hn,gQ hn,if_pos ⟨by lia,h2⟩,if_pos ⟨by lia,by lia⟩];exact h _ _ (by lia) (by lia)
noncomputable def Eqv (lt:Nat->Nat->Bool) (p:Array Nat) (a b:Nat):Prop:=∀ i j,a<=i->i < b->a<=j->j < b->lt (p.getD i 0) (p.getD j 0) = false
theorem Dn'.turn {p:Array Nat} {n a:Nat} (h:Dn' lt p n) (hn:n<=p.size) (e:Eqv lt p a n):Dn' lt (kas_rev p a n) n:=fun i j h1 h2=>by
 rw [gQ hn,gQ hn];by_cases hi:a<=i
 . rw [if_pos ⟨hi,by lia⟩,if_pos ⟨by lia,h2⟩];exact e _ _ (by lia) (by lia) (by lia) (by lia)
 . rw [if_neg (by lia)];by_cases hj:a<=j
   . rw [if_pos ⟨hj,h2⟩];exact h _ _ (by lia) (by lia)
   . rw [if_neg (by lia)];exact h _ _ h1 h2
theorem mW:∀ (f:Nat) (p:Array Nat) (n q:Nat),1<=n->q < n->n+f<=p.size->Dn' lt p n->Eqv lt p (n - (q+1)) n ->
 let r:=ans lt (kas_desc f p n q)
 r.1.size = p.size/\r.1.Perm p/\n<=r.2.1/\r.2.1<=n+f/\r.2.2 < r.2.1/\Dn' lt r.1 r.2.1/\Eqv lt r.1 (r.2.1 - (r.2.2+1)) r.2.1
 | 0,p,n,q,hn,hq,hz,h,e=>⟨rfl,cz _,av _,av _,hq,h,e⟩
 | f+1,p,n,q,hn,hq,hz,h,e=>by
   unfold kas_desc;rw [eL]
   cases c:lt (p.getD n 0) (p.getD (n - 1) 0) with
   | true =>
     rw [if_pos rfl];have c':=O.as _ _ c
     have one:∀ p':Array Nat,Eqv lt p' (n+1 - (0+1)) (n+1):=fun p' i j h1 h2 h3 h4=>by
      have e1:i = j:=by lia
      rw [e1];exact O.refl _
     by_cases hq0:q > 0
     . rw [if_pos hq0]
       have hT:Dn' lt (kas_rev p (n - (q+1)) n) (n+1):=by
        refine (h.turn O (by lia) e).more O hn ?_;rw [gQ (by lia),gQ (by lia),if_pos ⟨by lia,by lia⟩,if_neg (by lia)];exact O.tr _ _ _ c' (e _ _ (by lia) (by lia) (by lia) (by lia))
       obtain ⟨a1,a2,a3,a4,a5,a6,a7⟩:=mW f (kas_rev p (n - (q+1)) n) (n+1) 0 (by lia) (by lia) (by rw [gB];lia) hT (one _);exact ⟨by rw [a1,gB],a2.trans (dS _ _ _),by lia,by lia,a5,a6,a7⟩
     . rw [if_neg hq0];obtain ⟨a1,a2,a3,a4,a5,a6,a7⟩:=mW f p (n+1) 0 (by lia) (by lia) (by lia) (h.more O hn c') (one _)
       exact ⟨a1,a2,by lia,by lia,a5,a6,a7⟩
   | false =>
     rw [if_neg ah,eL]
     cases d:lt (p.getD (n - 1) 0) (p.getD n 0) with
     | true =>
       rw [if_pos rfl,gp]
       exact ⟨rfl,cz _,av _,eX _ _,hq,h,e⟩
     | false =>
       rw [if_neg ah]
       have hE:Eqv lt p (n+1 - (q+1+1)) (n+1):=fun i j h1 h2 h3 h4=>by
        by_cases ei:i = n
        . subst ei;by_cases ej:j = i
          . subst ej;exact O.refl _
          . exact O.tr _ _ _ (e _ _ (by lia) (by lia) (by lia) (by lia)) c
        . by_cases ej:j = n
          . subst ej;exact O.tr _ _ _ d (e _ _ (by lia) (by lia) (by lia) (by lia))
          . exact e _ _ (by lia) (by lia) (by lia) (by lia)
       obtain ⟨a1,a2,a3,a4,a5,a6,a7⟩:=mW f p (n+1) (q+1) (by lia) (by lia) (by lia) (h.more O hn d) hE;exact ⟨a1,a2,by lia,by lia,a5,a6,a7⟩
theorem tX (p:Array Nat) (n m:Nat) (hn:1<=n) (hm:n<=m) (hz:m<=p.size) (h:Dn' lt p n) :
 let r:=ans lt (kas_tail3 n m p)
 r.2.size = p.size/\r.2.Perm p/\1<=r.1/\r.1<=m/\Up lt r.2 r.1:=by
 unfold kas_tail3;rw [dD,gp];obtain ⟨a1,a2,a3,_⟩:=xk O (kas_rev p 0 n) (m - n) n hn (h.rev O (by lia));exact ⟨gB _ _ _,dS _ _ _,by lia,by lia,a3⟩
theorem lN (p:Array Nat) (n m:Nat) (hn:1<=n) (hm:n < m) (hz:m<=p.size) (h:Dn' lt p (n+1)) :
 let r:=ans lt (kas_descPart n m p)
 r.2.size = p.size/\r.2.Perm p/\1<=r.1/\r.1<=m/\Up lt r.2 r.1:=by
 unfold kas_descPart;rw [dD]
 have one:Eqv lt p (n+1 - (0+1)) (n+1):=fun i j h1 h2 h3 h4=>by
  have e1:i = j:=by lia
  rw [e1];exact O.refl _
 obtain ⟨a1,a2,a3,a4,a5,a6,a7⟩:=mW O (m - (n+1)) p (n+1) 0 (by lia) (by lia) (by lia) h one;generalize ans lt (kas_desc (m - (n+1)) p (n+1) 0) = r at a1 a2 a3 a4 a5 a6 a7;by_cases hq:r.2.2 > 0
 . rw [if_pos hq];obtain ⟨b1,b2,b3,b4,b5⟩:=tX O (kas_rev r.1 (r.2.1 - (r.2.2+1)) r.2.1) r.2.1 m (by lia) (by lia) (by rw [gB];lia) (a6.turn O (by lia) a7);exact ⟨by rw [b1,gB,a1],(b2.trans (dS _ _ _)).trans a2,b3,b4,b5⟩
 . rw [if_neg hq];obtain ⟨b1,b2,b3,b4,b5⟩:=tX O r.1 r.2.1 m (by lia) (by lia) (by lia) a6;exact ⟨by rw [b1,a1],b2.trans a2,b3,b4,b5⟩
theorem Fb (p:Array Nat) (m:Nat) (hm:1<=m) (hz:m<=p.size) :
 let r:=ans lt (kas_count m p)
 r.2.size = p.size/\r.2.Perm p/\1<=r.1/\r.1<=m/\Up lt r.2 r.1:=by
 unfold kas_count;rw [dD];obtain ⟨a1,a2,a3,a4⟩:=xk O p (m - 1) 1 (av _) (Up.one O p);generalize ans lt (kas_asc p (m - 1) 1) = n at a1 a2 a3 a4;by_cases e:(n == m) = true
 . rw [if_pos e,gp];exact ⟨rfl,cz _,a1,by lia,a3⟩
 . rw [if_neg e];have ne:n≠m:=fun z=>e (by rw [z];simp);have c:=a4 (by lia);by_cases h1:n > 1
   . rw [if_pos h1,eL]
     cases d:lt (p.getD 0 0) (p.getD (n - 1) 0) with
     | true =>
       rw [if_pos rfl,gp]
       exact ⟨rfl,cz _,a1,by lia,a3⟩
     | false =>
       rw [if_neg ah]
       have hE:Eqv lt p 0 n:=fun i j _ hi _ hj=>by
        have x1:lt (p.getD 0 0) (p.getD j 0) = false:=O.tr _ _ _ (a3 j (n - 1) (by lia) (by lia)) d;exact O.tr _ _ _ x1 (a3 0 i (by lia) hi)
       have hD:Dn' lt (kas_rev p 0 n) (n+1):=by
        refine (Dn'.turn O (p:=p) (n:=n) (a:=0) (fun i j hi hj=>hE i j (by lia) (by lia) (by lia) (by lia)) (by lia) hE).more O a1 ?_;rw [gQ (by lia),gQ (by lia),if_pos ⟨by lia,by lia⟩,if_neg (by lia)];exact O.tr _ _ _ (O.as _ _ c) (hE _ _ (by lia) (by lia) (by lia) (by lia))
       obtain ⟨b1,b2,b3,b4,b5⟩:=lN O (kas_rev p 0 n) n m a1 (by lia) (by rw [gB];lia) hD;exact ⟨by rw [b1,gB],b2.trans (dS _ _ _),b3,b4,b5⟩
   . rw [if_neg h1];have e1:n = 1:=by lia
     subst e1
     have hD:Dn' lt p (1+1):=by
      refine Dn'.more O (n:=1) (fun i j h1 h2=>?_) (av _) (O.as _ _ c);have e1:i = j:=by lia
      rw [e1];exact O.refl _
     exact lN O p 1 m (av _) (by lia) hz hD
theorem nY (p:Array Nat) (k:Nat) (h:Up lt p k):∀ (f l r:Nat),l<=r->r<=k->r - l<=f->(∀ i,i < l->lt (p.getD k 0) (p.getD i 0) = false)->(∀ i,r<=i->i < k->lt (p.getD i 0) (p.getD k 0) = false) ->
 let x:=ans lt (kas_place p k f l r)
 x<=k/\(∀ i,i < x->lt (p.getD k 0) (p.getD i 0) = false)/\∀ i,x<=i->i < k->lt (p.getD i 0) (p.getD k 0) = false
 | 0,l,r,h1,h2,h3,h4,h5=>by
   have e:l = r:=by lia
   subst e
   exact ⟨h2,h4,h5⟩
 | f+1,l,r,h1,h2,h3,h4,h5=>by
   unfold kas_place;by_cases hlr:l ≥ r
   . rw [if_pos hlr,gp];have e:l = r:=by lia
     subst e;exact ⟨h2,h4,h5⟩
   . rw [if_neg hlr,eL]
     cases c:lt (p.getD k 0) (p.getD ((l+r) / 2) 0) with
     | true =>
       rw [if_pos rfl];refine nY p k h f l ((l+r) / 2) (by lia) (by lia) (by lia) h4 fun i hi hk=>?_
       exact O.tr _ _ _ (O.as _ _ c) (h _ i (by lia) hk)
     | false =>
       rw [if_neg ah];refine nY p k h f ((l+r) / 2+1) r (by lia) h2 (by lia) (fun i hi=>?_) h5;exact O.tr _ _ _ (h i ((l+r) / 2) (by lia) (by lia)) c
theorem Fn:∀ (f:Nat) (p:Array Nat) (k:Nat),k+f<=p.size->Up lt p k ->
 let r:=ans lt (kas_bin f p k)
 r.size = p.size/\r.Perm p/\Up lt r (k+f)
 | 0,p,k,_,h=>⟨rfl,cz _,h⟩
 | f+1,p,k,hz,h=>by
   unfold kas_bin;rw [dD];obtain ⟨a1,a2,a3⟩:=nY O p k h k 0 k (by lia) (by lia) (by lia) (fun i hi=>by lia) (fun i h1 h2=>by lia);generalize ans lt (kas_place p k k 0 k) = l at a1 a2 a3
   have bg:∀ t,(bubble p k (k - l)).getD t 0 = if t = l then p.getD k 0 else if l < t/\t<=k then p.getD (t - 1) 0 else p.getD t 0:=fun t=>by
    rw [getD_eq,getElem?_bubble (by lia) (k - l) (by lia) t];have e1:k - (k - l) = l:=by lia
    rw [e1];by_cases h1:t = l
    . rw [if_pos h1,if_pos h1,getD_eq]
    . rw [if_neg h1,if_neg h1];by_cases h2:l < t/\t<=k
      . rw [if_pos h2,if_pos h2,getD_eq]
      . rw [if_neg h2,if_neg h2,getD_eq]
   have hU:Up lt (bubble p k (k - l)) (k+1):=fun i j h1 h2=>by
    rw [bg i,bg j];by_cases i1:i = l
    . rw [if_pos i1];by_cases j1:j = l
      . rw [if_pos j1];exact O.refl _
      . rw [if_neg j1,if_pos ⟨by lia,by lia⟩];exact a3 _ (by lia) (by lia)
    . rw [if_neg i1];by_cases i2:l < i/\i<=k
      . rw [if_pos i2,if_neg (by lia),if_pos ⟨by lia,by lia⟩];exact h _ _ (by lia) (by lia)
      . rw [if_neg i2];by_cases j1:j = l
        . rw [if_pos j1];exact a2 i (by lia)
        . rw [if_neg j1];by_cases j2:l < j/\j<=k
          . rw [if_pos j2];exact h _ _ (by lia) (by lia)
          . rw [if_neg j2];exact h _ _ h1 (by lia)
   obtain ⟨b1,b2,b3⟩:=Fn f (bubble p k (k - l)) (k+1) (by rw [bubble_size];lia) hU;exact ⟨by rw [b1,bubble_size],b2.trans (Jb _ _ _),by rw [show k+(f+1) = k+1+f by lia];exact b3⟩
theorem GO (n:Nat) (hn:1<=n) :
 let r:=ans lt (kas_sort n)
 r.size = n/\r.Perm (List.toArray (List.range n))/\Up lt r n:=by
 unfold kas_sort;rw [dD];have hs:(List.toArray (List.range n)).size = n:=by simp
 obtain ⟨a1,a2,a3,a4,a5⟩:=Fb O (List.toArray (List.range n)) n hn (by lia);generalize ans lt (kas_count n (List.toArray (List.range n))) = r at a1 a2 a3 a4 a5;by_cases h:r.1 < n
 . rw [if_pos h];have e:max r.1 1 = r.1:=by lia
   rw [e];obtain ⟨b1,b2,b3⟩:=Fn O (n - r.1) r.2 r.1 (by lia) a5;have e2:r.1+(n - r.1) = n:=by lia
   rw [e2] at b3;exact ⟨by lia,b2.trans a2,b3⟩
 . rw [if_neg h,gp];have e:r.1 = n:=by lia
   exact ⟨by lia,a2,by rw [<- e];exact a5⟩
end
end PP
end
section
namespace PP
open PySem
set_option genInjectivity true in
inductive D where
 | non | bl (b:Bool) | int (i:Int) | str (x:Str) | lst (ds:List D) | tup (ds:List D) | fn (k:Nat) (ds:List D) | dct (ks:List Str) (ds:List D)
 deriving Inhabited
mutual
noncomputable def eqD:D->D->Bool
 | .non,.non=>true
 | .bl a,.bl b=>a == b
 | .bl a,.int b=>(if a then 1 else 0) == b
 | .int a,.bl b=>a == (if b then 1 else 0)
 | .int a,.int b=>a == b
 | .str a,.str b=>a == b
 | .lst a,.lst b=>fF a b
 | .tup a,.tup b=>fF a b
 | _,_=>false
noncomputable def fF:List D->List D->Bool
 | [],[]=>true
 | x::xs,y::ys=>eqD x y && fF xs ys
 | _,_=>false
end
mutual
noncomputable def ltD:D->D->Option Bool
 | .int a,.int b=>some (decide (a < b))
 | .str a,.str b=>some (decide (a.cps.toList < b.cps.toList))
 | .tup a,.tup b=>dJ a b
 | _,_=>none
noncomputable def dJ:List D->List D->Option Bool
 | [],[]=>some false
 | [],_::_=>some true
 | _::_,[]=>some false
 | x::xs,y::ys=>if eqD x y = true then dJ xs ys else ltD x y
end
mutual
noncomputable def dep:D->Nat
 | .lst ds | .tup ds=>bM ds+1
 | .fn _ _=>100000
 | .dct _ _=>100000
 | _=>0
noncomputable def bM:List D->Nat
 | []=>0
 | x::xs=>max (dep x) (bM xs)
end
mutual
noncomputable def lf:D->Bool
 | .lst _=>false
 | .fn _ _=>false
 | .dct _ _=>false
 | .tup ds=>lfL ds
 | _=>true
noncomputable def lfL:List D->Bool
 | []=>true
 | x::xs=>lf x && lfL xs
end
noncomputable def flat:D->Bool
 | .non | .bl _ | .int _ | .str _=>true
 | _=>false
noncomputable def tv:D->Option Bool
 | .non=>some false
 | .bl b=>some b
 | .int i=>some (i != 0)
 | .str x=>if x.length<=sizeLine then some ((x.length:Int) != 0) else none
 | .lst ds | .tup ds=>some (!ds.isEmpty)
 | .fn _ _=>none
 | .dct _ _=>none
inductive Op where
 | add | sub | mul | mod | fdiv
 deriving DecidableEq
inductive Cop where
 | lt | gt | eq | ne | isin | notin
 deriving DecidableEq
inductive Blt where
 | len | toInt | toTup | toLst | any | sum | sorted | isList
 deriving DecidableEq
noncomputable def qx (i j:Int):Bool:=(decide (-(2 ^ 64) < i) && decide (i < 2 ^ 64)) || (decide (-(2 ^ 64) < j) && decide (j < 2 ^ 64)) || (decide (i.natAbs < 2 ^ 200) && decide (j.natAbs < 2 ^ 200))
noncomputable def Al (x:Str) (n:Nat):Str:=⟨(List.replicate n x.cps.toList).flatten.toArray⟩
noncomputable def MA:D->D->Option D
 | .int a,.int b=>some (.int (a+b))
 | .str a,.str b=>if a.length+b.length<=sizeLine then some (.str (a++b)) else none
 | .tup [],.tup b=>some (.tup b)
 | .tup (x::a),.tup b=>if (x::a).length+b.length<=sizeLine then some (.tup (x::a++b)) else none
 | .lst a,.lst b=>if a.length+b.length<=sizeLine then some (.lst (a++b)) else none
 | _,_=>none
noncomputable def AW:D->D->Option D
 | .int a,.int b=>some (.int (a+b))
 | .tup (x::a),.tup b=>if (x::a).length+b.length<=sizeLine then some (.tup (x::a++b)) else none
 | _,_=>none
noncomputable def zW:D->D->Option D
 | .int a,.int b=>some (.int (a - b))
 | _,_=>none
noncomputable def LD:D->D->Option D
 | .int a,.int b=>if qx a b then some (.int (a * b)) else none
 | .str a,.int b=>if 0<=b/\b<=1000/\a.length<=1000 then some (.str (Al a b.toNat)) else none
 | _,_=>none
noncomputable def LF:D->D->Option D
 | .int a,.int b=>if 0 < b then some (.int (a % b)) else none
 | _,_=>none
noncomputable def ES:D->D->Option D
 | .int a,.int b=>if 0 < b/\b < 1000000000000000000000000000000000000000000000000000000000000 then some (.int (a / b)) else none
 | _,_=>none
noncomputable def opD:Op->D->D->Option D
 | .add=>MA | .sub=>zW | .mul=>LD | .mod=>LF | .fdiv=>ES
noncomputable def kin:D->D->Bool
 | .bl _,.bl _ | .int _,.int _ | .str _,.str _ | .lst _,.lst _ | .tup _,.tup _=>true
 | _,_=>false
noncomputable def gJ (a b:D):Bool:=kin a b && decide (min (dep a) (dep b)<=150) && decide (max (dep a) (dep b) < 100000)
noncomputable def NI:D->D->Bool
 | .int _,.str _=>true
 | .str _,.int _=>true
 | _,_=>false
noncomputable def Lm (p:Int->Int->Bool):D->D->Option Bool
 | .int a,.int b=>some (p a b)
 | _,_=>none
noncomputable def LA (y x:Str):Bool:=!(Builtin.Str.occurrences y x 0 y.length 1).isEmpty
noncomputable def inD (a:D):D->Option Bool
 | .lst ds=>if dep a<=150/\bM ds < 99999 then some (ds.any fun y=>eqD y a) else none
 | .tup ds=>if dep a<=150/\bM ds < 99999 then some (ds.any fun y=>eqD y a) else none
 | .str y=>match a with
   | .str x=>some (LA y x)
   | _=>none
 | _=>none
noncomputable def jN (a b:D):Option Bool:=if min (dep a) (dep b)<=150/\max (dep a) (dep b) < 100000 then ltD a b else none
noncomputable def gY (ds:List D) (i j:Nat):Bool:=(jN (ds.getD i .non) (ds.getD j .non)).getD false
noncomputable def eU (ds:List D):List D:=if ds.length < 2 then ds else (ans (gY ds) (PySem.W.kas_sort ds.length)).toList.map fun i=>ds.getD i .non
noncomputable def bo:D->Nat
 | .str _=>1
 | .int _=>2
 | .tup (.str _::_)=>3
 | .tup (.int _::_)=>4
 | _=>0
noncomputable def sortable (ds:List D):Bool:=decide (ds.length < 64) && (ds.all fun x=>bo x != 0 && bo x == bo (ds.getD 0 .non)) && ds.all fun x=>ds.all fun y=>(jN x y).isSome
mutual
noncomputable def hb:D->Bool
 | .str _ | .int _=>true
 | .tup ds=>hbL ds
 | _=>false
noncomputable def hbL:List D->Bool
 | []=>true
 | d::ds=>hb d && hbL ds
end
noncomputable def hok:D->Bool
 | .tup (.str x::ds)=>hbL ds && decide (bM ds<=7)
 | _=>false
noncomputable def mB (ds:List D) (d:D):List D:=if ds.any (fun y=>eqD y d) then ds else ds++[d]
noncomputable def iS (ds:List D):List D:=ds.foldl mB []
noncomputable def ltB (a b:D):Bool:=(jN a b).getD false
noncomputable def tot (ds:List D):Bool:=ds.all fun a=>ds.all fun b=>!(ltB a b && ltB b a) && (ltB a b || ltB b a || eqD a b) && ds.all fun c=>ltB b a || ltB c b || !ltB c a
noncomputable def wZ:Cop->D->D->Option Bool
 | .lt,x,y=>jN x y
 | .gt,x,y=>Lm (fun a b=>decide (b < a)) x y
 | .eq,a,b=>if gJ a b then some (eqD a b) else if NI a b = true then some false else none
 | .ne,a,b=>if gJ a b then some (!eqD a b) else none
 | .isin,a,y=>inD a y
 | .notin,a,y=>(inD a y).map (!·)
noncomputable def ixD:D->D->Option D
 | .lst ds,.int i=>L2.atI ds i
 | .tup ds,.int i=>L2.atI ds i
 | .str x,.int i=>if x.length<=sizeLine then (L2.atI x.cps.toList i).map fun c=>.str ⟨#[c]⟩ else none
 | _,_=>none
noncomputable def cutD (ds:List D) (lo hi:Option Int):List D:=(ds.drop (HT.sIx ds.length 0 lo)).take (HT.sIx ds.length ds.length hi - HT.sIx ds.length 0 lo)
noncomputable def slD:D->Option Int->Option Int->Option D
 | .lst ds,lo,hi=>some (.lst (cutD ds lo hi))
 | .tup ds,lo,hi=>if HT.sIx ds.length 0 lo = 0/\HT.sIx ds.length ds.length hi = ds.length then none else some (.tup (cutD ds lo hi))
 | .str x,lo,hi=>if x.length<=sizeLine then some (.str (Txt.slice x lo hi)) else none
 | _,_,_=>none
noncomputable def qC:List D->Option (List Int)
 | []=>some []
 | .int i::r=>(qC r).map (i::·)
 | _=>none
noncomputable def Ii:List D->Option D
 | [.str x]=>if x.length<=sizeLine then some (.int x.length) else none
 | [.lst ds]=>some (.int ds.length)
 | [.tup ds]=>some (.int ds.length)
 | _=>none
noncomputable def nA:List Int->Int
 | []=>0
 | n::ns=>ns.foldl (fun a b=>if b > a then b else a) n
noncomputable def qZ:List D->Option D
 | [.int i]=>some (.int i)
 | [.bl b]=>some (.int (if b then 1 else 0))
 | [.str x]=>if x.length<=640 then (PySem.intText? x).map .int else none
 | _=>none
noncomputable def qY:List D->Option D
 | [.lst ds]=>some (.tup ds)
 | [.tup ds]=>some (.tup ds)
 | _=>none
noncomputable def kU:List D->Option D
 | [.lst ds]=>some (.lst ds)
 | [.tup ds]=>some (.lst ds)
 | _=>none
noncomputable def GL:List D->Option D
 | [.lst ds]=>(qC ds).map fun ns=>.int ns.sum
 | _=>none
noncomputable def ke:List D->Option (List Bool)
 | []=>some []
 | .bl i::r=>(ke r).map (i::·)
 | _=>none
noncomputable def IV:List D->Option D
 | [.lst ds]=>(ke ds).map fun bs=>.bl (bs.any id)
 | _=>none
noncomputable def mL:List D->Option D
 | [.lst ds]=>if sortable ds = true then some (.lst (eU ds)) else none
 | _=>none
noncomputable def fS:List D->Option D
 | [.lst _]=>some (.bl true)
 | [.fn _ _]=>none
 | [.dct _ _]=>none
 | [_]=>some (.bl false)
 | _=>none
noncomputable def ju:Blt->List D->Option D
 | .len=>Ii | .toInt=>qZ | .toTup=>qY | .toLst=>kU | .any=>IV | .sum=>GL | .sorted=>mL
 | .isList=>fS
inductive Sl where
 | no | val (d:D) | own (ds:List D) | fnc (k:Nat) (cs:List D) | odc (ks:List Str) (ds:List D)
 deriving Inhabited
abbrev Loc:=List Sl
inductive Tg where
 | nm (i:Nat)
 | tp (is:List Nat)
 | pr (i:Nat) (is:List Nat)
inductive Mt | split | part | ends | join | index
mutual
inductive E where
 | var (i:Nat)
 | pk (i:Nat)
 | glob (g:Nat)
 | int (i:Int) | bl (b:Bool) | non | str (x:Str)
 | bin (op:Op) (a b:E)
 | cmp (op:Cop) (a b:E)
 | and (a b:E) | or (a b:E) | not (a:E) | neg (a:E)
 | ite (c a b:E)
 | tup (es:Es) | lst (es:Es)
 | ix (a b:E)
 | sl (a:E) (lo hi:Eo)
 | call (f:Nat) (es:Es)
 | blt (f:Blt) (es:Es)
 | bad
 | maxd (a:E) (n:Int)
 | ssd (a:E)
 | comp (k:Nat) (tg:Tg) (src:It) (ifs:Eo) (elt:E)
inductive Es where
 | nil | cons (e:E) (es:Es)
inductive Eo where
 | no | yes (e:E)
inductive It where
 | rng (e:E) | sq (e:E)
end
noncomputable def get (δ:Loc) (i:Nat):Option D:=match δ[i]? with
 | some (.val d)=>some d
 | some (.own ds)=>some (.lst ds)
 | _=>none
noncomputable def EN (δ:Loc) (i:Nat):Option D:=match δ[i]? with
 | some (.odc ks ds)=>some (.dct ks ds)
 | _=>get δ i
noncomputable def demote (δ:Loc) (i:Nat):Loc:=match δ[i]? with
 | some (.own ds)=>δ.set i (.val (.lst ds))
 | some (.odc ks ds)=>δ.set i (.val (.dct ks ds))
 | _=>δ
noncomputable def eV (δ:Loc):Tg->D->Option Loc
 | .nm i,d=>if i < δ.length then some (δ.set i (.val d)) else none
 | .tp is,.tup ds=>if is.length = ds.length/\is.all (· < δ.length) = true then some ((is.zip ds).foldl (fun δ p=>δ.set p.1 (.val p.2)) δ) else none
 | .tp is,.lst ds=>if is.length = ds.length/\is.all (· < δ.length) = true then some ((is.zip ds).foldl (fun δ p=>δ.set p.1 (.val p.2)) δ) else none
 | .pr i is,.tup [a,.tup ds]=>if i < δ.length/\is.length = ds.length/\is.all (· < δ.length) = true then some ((is.zip ds).foldl (fun δ p=>δ.set p.1 (.val p.2)) (δ.set i (.val a))) else none
 | _,_=>none
noncomputable def items:D->Option (List D)
 | .lst ds=>some ds
 | .tup ds=>some ds
 | .str x=>if x.length<=sizeLine then some (x.cps.toList.map fun c=>.str ⟨#[c]⟩) else none
 | _=>none
noncomputable def uq (lo:Int) (n:Nat):List D:=(List.range n).map fun (i:Nat)=>D.int (lo+i)
noncomputable def kK (f:D->Loc->Option (Option D × Loc)):List D->Loc->Option (List D × Loc)
 | [],δ=>some ([],δ)
 | x::xs,δ=>do
   let (o,δ1) <- f x δ
   let (ys,δ2) <- kK f xs δ1
   return (match o with | some y=>y::ys | none=>ys,δ2)
structure Cl where
 call:Nat->List D->Option D
 gl:List D
 hf:Nat->Bool
section
variable (cx:Cl)
mutual
noncomputable def evE:E->Loc->Option (D × Loc)
 | .var i,δ=>do return (<- EN δ i,demote δ i)
 | .pk i,δ=>do return (<- get δ i,δ)
 | .glob g,δ=>do return (<- cx.gl[g]?,δ)
 | .int i,δ=>some (.int i,δ)
 | .bl b,δ=>some (.bl b,δ)
 | .non,δ=>some (.non,δ)
 | .str x,δ=>some (.str x,δ)
 | .bin op a b,δ=>do
   let (x,δ1) <- evE a δ
   let (y,δ2) <- evE b δ1
   return (<- opD op x y,δ2)
 | .cmp op a b,δ=>do
   let (x,δ1) <- evE a δ
   let (y,δ2) <- evE b δ1
   return (.bl (<- wZ op x y),δ2)
 | .and a b,δ=>do
   match <- evE a δ with
   | (.bl true,δ1)=>evE b δ1
   | (.bl false,δ1)=>some (.bl false,δ1)
   | _=>none
 | .or a b,δ=>do
   match <- evE a δ with
   | (.bl true,δ1)=>some (.bl true,δ1)
   | (.bl false,δ1)=>evE b δ1
   | _=>none
 | .not a,δ=>do
   match <- evE a δ with
   | (.bl b,δ1)=>some (.bl (!b),δ1)
   | _=>none
 | .neg a,δ=>do
   match <- evE a δ with
   | (.int i,δ1)=>some (.int (-i),δ1)
   | _=>none
 | .ssd a,δ=>do
   match <- evE a δ with
   | (.lst ds,δ1)=>if (ds.all hok && sortable (iS ds) && tot (iS ds)) = true then some (.lst (eU (iS ds)),δ1) else none
   | _=>none
 | .maxd a n,δ=>do
   match <- evE a δ with
   | (.lst ds,δ1)=>(qC ds).map fun ns=>(.int (if ns = [] then n else nA ns),δ1)
   | _=>none
 | .ite c a b,δ=>do
   let (k,δ1) <- evT c δ
   if k then evE a δ1 else evE b δ1
 | .tup es,δ=>do
   let (ds,δ1) <- gI es δ
   if ds.length<=sizeLine then return (.tup ds,δ1) else none
 | .lst es,δ=>do
   let (ds,δ1) <- gI es δ
   if ds.length<=sizeLine then return (.lst ds,δ1) else none
 | .ix a b,δ=>do
   let (x,δ1) <- evE a δ
   let (y,δ2) <- evE b δ1
   return (<- ixD x y,δ2)
 | .sl a lo hi,δ=>do
   let (x,δ1) <- evE a δ
   let (l,δ2) <- evO lo δ1
   let (h,δ3) <- evO hi δ2
   return (<- slD x l h,δ3)
 | .call f es,δ=>do
   let (ds,δ1) <- gI es δ
   return (<- cx.call f ds,δ1)
 | .blt f es,δ=>do
   let (ds,δ1) <- gI es δ
   return (<- ju f ds,δ1)
 | .bad,_=>none
 | .comp k tg src ifs elt,δ=>do
   let (ds,δ1) <- evI src δ
   let (ys,δ2) <- kK (fun x δ0=>do
    let δ2 <- eV (δ0++List.replicate k .no) tg x
    let (b,δ3) <- evG ifs δ2
    if b then do
     let (y,δ4) <- evE elt δ3
     return (some y,δ4.take δ0.length)
    else return (none,δ3.take δ0.length)) ds δ1
   if ys.length<=sizeLine then return (.lst ys,δ2) else none
noncomputable def evT:E->Loc->Option (Bool × Loc)
 | .and a b,δ=>do
   let (k,δ1) <- evT a δ
   if k then evT b δ1 else some (false,δ1)
 | .or a b,δ=>do
   let (k,δ1) <- evT a δ
   if k then some (true,δ1) else evT b δ1
 | .not a,δ=>do
   let (k,δ1) <- evT a δ
   return (!k,δ1)
 | .cmp op a b,δ=>do
   let (x,δ1) <- evE a δ
   let (y,δ2) <- evE b δ1
   return (<- wZ op x y,δ2)
 | .var i,δ=>do
   let d <- get δ i
   return (<- tv d,δ)
 | .pk i,δ=>do
   let d <- get δ i
   return (<- tv d,δ)
 | .call f es,δ=>do
   let (ds,δ1) <- gI es δ
   let d <- cx.call f ds
   return (<- tv d,δ1)
 | .blt f es,δ=>do
   let (ds,δ1) <- gI es δ
   let d <- ju f ds
   return (<- tv d,δ1)
 | _,_=>none
noncomputable def gI:Es->Loc->Option (List D × Loc)
 | .nil,δ=>some ([],δ)
 | .cons e es,δ=>do
   let (d,δ1) <- evE e δ
   let (ds,δ2) <- gI es δ1
   return (d::ds,δ2)
noncomputable def evO:Eo->Loc->Option (Option Int × Loc)
 | .no,δ=>some (none,δ)
 | .yes e,δ=>do
   match <- evE e δ with
   | (.int i,δ1)=>some (some i,δ1)
   | _=>none
noncomputable def evG:Eo->Loc->Option (Bool × Loc)
 | .no,δ=>some (true,δ)
 | .yes e,δ=>evT e δ
noncomputable def evI:It->Loc->Option (List D × Loc)
 | .rng e,δ=>do
   match <- evE e δ with
   | (.int j,δ1)=>if -(2 ^ 62)<=j/\j < 2 ^ 62 then some (uq 0 j.toNat,δ1) else none
   | _=>none
 | .sq e,δ=>do
   let (d,δ1) <- evE e δ
   return (<- items d,δ1)
end
end
inductive Out where
 | nx (δ:Loc) | rt (d:D) (δ:Loc) | bk (δ:Loc) | ct (δ:Loc) | ro (d:D) (δ:Loc)
mutual
inductive S where
 | asg (tg:Tg) (e:E)
 | new (i:Nat) (e:E)
 | cmp (own:Bool) (i:Nat) (e:E)
 | aug (i:Nat) (op:Op) (e:E)
 | ret (e:E) | retN
 | ifs (c:E) (a b:Ss)
 | for_ (tg:Tg) (src:It) (body:Ss)
 | forZ (tg:Tg) (es:Es) (body:Ss)
 | while_ (c:E) (body:Ss)
 | append (i:Nat) (e:E)
 | extend (i:Nat) (e:E)
 | setix (i:Nat) (j e:E)
 | opq (f:Cl->Loc->Option Out)
 | bad
 | pass | brk | cont
inductive Ss where
 | nil | cons (s:S) (ss:Ss)
end
noncomputable def forL (f:D->Loc->Option Out):List D->Loc->Option Out
 | [],δ=>some (.nx δ)
 | x::xs,δ=>match f x δ with
   | some (.nx δ1)=>forL f xs δ1
   | some (.ct δ1)=>forL f xs δ1
   | some (.bk δ1)=>some (.nx δ1)
   | some (.rt d δ1)=>some (.rt d δ1)
   | some (.ro ds δ1)=>some (.ro ds δ1)
   | none=>none
noncomputable def ja (c:Loc->Option (Bool × Loc)) (f:Loc->Option Out):Nat->Loc->Option Out
 | 0,_=>none
 | n+1,δ=>match c δ with
   | some (true,δ1)=>match f δ1 with
     | some (.nx δ2)=>ja c f n δ2
     | some (.ct δ2)=>ja c f n δ2
     | some (.bk δ2)=>some (.nx δ2)
     | some (.rt d δ2)=>some (.rt d δ2)
     | some (.ro ds δ2)=>some (.ro ds δ2)
     | none=>none
   | some (false,δ1)=>some (.nx δ1)
   | none=>none
noncomputable def Dg:D->Option (List D)
 | .lst ds=>some ds
 | .tup ds=>some ds
 | _=>none
noncomputable def iY (xs ys:List D):List D:=(xs.zip ys).map fun p=>.tup [p.1,p.2]
noncomputable def uE:Nat:=1000000
section
variable (cx:Cl)
mutual
noncomputable def evS:S->Loc->Option Out
 | .asg tg e,δ=>do
   let (d,δ1) <- evE cx e δ
   return .nx (<- eV δ1 tg d)
 | .new i e,δ=>do
   match <- evE cx e δ with
   | (.lst ds,δ1)=>if i < δ1.length then some (.nx (δ1.set i (.own ds))) else none
   | _=>none
 | .cmp own i e,δ=>do
   match <- evE cx e δ with
   | (.lst ds,δ1)=>if i < δ1.length then some (.nx (δ1.set i (if own then .own ds else .val (.lst ds)))) else none
   | _=>none
 | .aug i op e,δ=>do
   match δ[i]? with
   | some (.val x)=>do
     let (y,δ1) <- evE cx e δ
     match op with
     | .add=>(AW x y).map fun z=>.nx (δ1.set i (.val z))
     | .sub=>(zW x y).map fun z=>.nx (δ1.set i (.val z))
     | _=>none
   | _=>none
 | .ret e,δ=>do
   let (d,δ1) <- evE cx e δ
   return .rt d δ1
 | .retN,δ=>some (.rt .non δ)
 | .ifs c a b,δ=>do
   let (k,δ1) <- evT cx c δ
   if k then dk a δ1 else dk b δ1
 | .for_ tg src body,δ=>do
   let (ds,δ1) <- evI cx src δ
   forL (fun x δ0=>match eV δ0 tg x with
    | some δ2=>dk body δ2
    | none=>none) ds δ1
 | .forZ tg es body,δ=>do
   let (ds,δ1) <- gI cx es δ
   match ds with
   | [x,y]=>(match Dg x,Dg y with
     | some xs,some ys=>(forL (fun p δ0=>(match eV δ0 tg p with
       | some δ2=>dk body δ2
       | none=>none)) (iY xs ys) δ1)
     | _,_=>none)
   | _=>none
 | .while_ c body,δ=>ja (fun δ0=>evT cx c δ0) (fun δ0=>dk body δ0) 1000 δ
 | .append i e,δ=>match δ[i]? with
   | some (.own _)=>do
     let (d,δ1) <- evE cx e δ
     match δ1[i]? with
     | some (.own ds)=>if ds.length < sizeLine then some (.nx (δ1.set i (.own (ds++[d])))) else none
     | _=>none
   | _=>none
 | .extend i e,δ=>match δ[i]? with
   | some (.own _)=>do
     match <- evE cx e δ with
     | (.lst ys,δ1)=>match δ1[i]? with
       | some (.own ds)=>if ds.length+ys.length<=sizeLine then some (.nx (δ1.set i (.own (ds++ys)))) else none
       | _=>none
     | _=>none
   | _=>none
 | .setix i j e,δ=>do
   let (d,δ1) <- evE cx e δ
   match δ1[i]? with
   | some (.own _)=>do
     match <- evE cx j δ1 with
     | (.int k,δ2)=>match δ2[i]? with
       | some (.own ds)=>match L2.ixN ds.length k with
         | some m=>some (.nx (δ2.set i (.own (ds.set m d))))
         | none=>none
       | _=>none
     | _=>none
   | _=>none
 | .opq f,δ=>f cx δ
 | .bad,_=>none
 | .pass,δ=>some (.nx δ)
 | .brk,δ=>some (.bk δ)
 | .cont,δ=>some (.ct δ)
noncomputable def dk:Ss->Loc->Option Out
 | .nil,δ=>some (.nx δ)
 | .cons s ss,δ=>match evS s δ with
   | some (.nx δ1)=>dk ss δ1
   | o=>o
end
end
structure Fd where
 name:Str
 ps:List Str
 loc:List Str
 body:Ss
 hf:Bool:=false
noncomputable def outD:Option Out->Option D
 | some (.rt d _)=>some d
 | some (.ro d _)=>some d
 | some (.nx _)=>some .non
 | _=>none
noncomputable def Lk:Option Out->Option D
 | some (.ro d _)=>some d
 | _=>none
noncomputable def init (n:Nat) (ds:List D):Loc:=ds.map .val++List.replicate (n - ds.length) .no
noncomputable def hfs (G:List Fd) (f:Nat):Bool:=match G[f]? with
 | some fd=>fd.hf
 | none=>false
noncomputable def NO (n:Nat) (ds:List D) (k:Nat) (cs:List D):Loc:=ds.map .val++Sl.fnc k cs::List.replicate (n - (ds.length+1)) .no
noncomputable def entry (hf:Bool) (n:Nat) (ds:List D):Option Loc:=match hf with
 | false=>some (init n ds)
 | true=>match ds.getLast? with
   | some (.fn k cs)=>some (NO n ds.dropLast k cs)
   | _=>none
noncomputable def run (G:List Fd) (gl:List D):Nat->Nat->List D->Option D
 | 0,_,_=>none
 | n+1,f,ds=>match G[f]? with
   | some fd=>if ds.length = fd.ps.length then (match entry fd.hf (fd.ps++fd.loc).length ds with
     | some δ=>outD (dk ⟨run G gl n,gl,hfs G⟩ fd.body δ)
     | none=>none) else none
   | none=>match G[f - uE]? with
     | some fd=>if uE<=f/\ds.length = fd.ps.length then (match entry fd.hf (fd.ps++fd.loc).length ds with
       | some δ=>Lk (dk ⟨run G gl n,gl,hfs G⟩ fd.body δ)
       | none=>none) else none
     | none=>none
noncomputable def bJ:E->Bool
 | .pk _=>true
 | _=>false
mutual
noncomputable def np:E->Bool
 | .bin _ a b | .cmp _ a b | .and a b | .or a b | .ix a b=>np a && np b
 | .not a=>np a
 | .neg a=>np a
 | .maxd a _=>np a
 | .ssd a=>np a
 | .ite c a b=>np c && np a && np b
 | .tup es | .lst es | .call _ es | .blt _ es=>npS es
 | .sl a lo hi=>np a && npO lo && npO hi
 | .comp _ _ src ifs elt=>npI src && npO ifs && np elt
 | _=>true
noncomputable def npS:Es->Bool
 | .nil=>true
 | .cons e es=>np e && npS es
noncomputable def npO:Eo->Bool
 | .no=>true
 | .yes e=>np e
noncomputable def npI:It->Bool
 | .rng e=>np e
 | .sq e=>np e
end
end PP
example:PP.evE ⟨fun _ _=>none,[],fun _=>false⟩ (.bin .add (.int 1) (.int 2)) [] = some (.int 3,[]):=rfl
end
section
namespace PP
open PySem L2
noncomputable def KLs (K:PySem.W.Frag) (a:Addr) (xs:List V):Prop:=∃ (its:Array Value) (n:Nat),K.lookup a = some ⟨.type "list",none,.seq its n,#[]⟩/\its.size<=sizeLine/\Vals xs its.toList
noncomputable def Ls (K:PySem.W.Frag) (H:Hp) (F:Addr->Prop) (a:Addr) (xs:List V):Prop:=(Rd H a (.lst xs)/\¬ F a)\/KLs K a xs
noncomputable def LsB (K:PySem.W.Frag) (H:Hp) (a:Addr) (xs:List V):Prop:=Rd H a (.lst xs)\/KLs K a xs
theorem Ls.b {K:PySem.W.Frag} {H:Hp} {F:Addr->Prop} {a:Addr} {xs:List V} (h:Ls K H F a xs):LsB K H a xs:=h.imp (·.1) id
theorem LsB.sq {K:PySem.W.Frag} {H:Hp} {a:Addr} {xs:List V} (h:LsB K H a xs):SqL K H a xs:=by
 rcases h with h | ⟨its,n,h1,h2,h3⟩
 . exact .inl h
 . exact .inr ⟨_,its,n,h1,rfl,rfl,rfl,h2,h3⟩
theorem Ls.sq {K:PySem.W.Frag} {H:Hp} {F:Addr->Prop} {a:Addr} {xs:List V} (h:Ls K H F a xs):SqL K H a xs:=h.b.sq
theorem LsB.obj {X:Cx} {pins:List (Addr × Obj)} {σ:St} {H:Hp} {s:Shared} {a:Addr} {xs:List V} (I:Inv X pins σ H s) (h:LsB X.K H a xs) :
 ∃ (its:List Value) (n:Nat),Vals xs its/\s.heap.get? a = some { cls:=.type "list",data:=.seq its.toArray n }/\xs.length<=sizeLine:=by
 rcases h with h | ⟨its,n,h1,h2,h3⟩
 . obtain ⟨z,its,n,r,e⟩:=h.ok I.hok;exact ⟨its,n,r,e,z⟩
 . refine ⟨its.toList,n,h3,?_,?_⟩
   . have:=I.kIn a _ h1;simpa using this
   . have:=h3.length;rw [this];simpa using h2
noncomputable def zk:List Str->List V->List (Key × V)
 | k::ks,v::vs=>(.inr k,v)::zk ks vs
 | _,_=>[]
mutual
noncomputable def Rel (K:PySem.W.Frag) (H:Hp) (F:Addr->Prop):D->V->Prop
 | .non,v=>v = .non
 | .bl b,v=>v = .bl b
 | .int i,v=>v = .int i
 | .str x,v=>v = .str x
 | .lst ds,v=>∃ a xs,v = .ref a/\Ls K H F a xs/\aF K H F ds xs
 | .tup ds,v=>∃ a xs,v = .ref a/\SqT K H a xs/\aF K H F ds xs
 | .fn _ _,_=>False
 | .dct ks ds,v=>∃ a vs,v = .ref a/\Rd H a (.dK (zk ks vs))/\¬ F a/\ks.Nodup/\ks.length = ds.length/\aF K H F ds vs
noncomputable def aF (K:PySem.W.Frag) (H:Hp) (F:Addr->Prop):List D->List V->Prop
 | [],xs=>xs = []
 | d::ds,xs=>∃ y ys,xs = y::ys/\Rel K H F d y/\aF K H F ds ys
end
noncomputable def NT:HO->Prop
 | .tbl _=>False
 | _=>True
structure Sim (H H':Hp):Prop where
 nt:∀ b o,NT o->H b = some o->H' b = some o
 tb:∀ b ps,H b = some (.tbl ps)->∃ qs,H' b = some (.tbl qs)
theorem Sim.of {H H':Hp} (h:hJ H H'):Sim H H':=⟨fun b o _ e=>h b o e,fun b ps e=>⟨ps,h b _ e⟩⟩
theorem Sim.refl (H:Hp):Sim H H:=⟨fun b o _ e=>e,fun b ps e=>⟨ps,e⟩⟩
theorem Sim.trans {H H1 H2:Hp} (a:Sim H H1) (b:Sim H1 H2):Sim H H2:=⟨fun x o n e=>b.nt x o n (a.nt x o n e),fun x ps e=>by
 obtain ⟨qs,e⟩:=a.tb x ps e;exact b.tb x qs e⟩
noncomputable def Fz (H:Hp) (a:Addr) (o:Obj):Prop:=H a = some (.frz o (.ext fun h=>h.get? a = some o))
structure Lam where
 qual:Str
 params:Arguments
 body:Expr
 scope:Scope
 ps:List Str
 caps:List Str
class Tbs where
 ts:List (Addr × Str)
 lams:List (Nat × Lam)
 gds:List (Str × List (Str × Int))
variable [Tbs]
noncomputable def Mo:HO->Prop
 | .lst _=>True
 | .ext _=>True
 | .dK _=>True
 | _=>False
noncomputable def flV:D->V
 | .bl b=>.bl b
 | .int i=>.int i
 | .str x=>.str x
 | _=>.non
noncomputable def lC (H:Hp):List Addr->List D->Prop
 | [],ds=>ds = []
 | c::r,ds=>∃ d ds' o u,ds = d::ds'/\flat d = true/\Fz H c o/\o.data = .cell (some u)/\RelV (flV d) u/\lC H r ds'
noncomputable def FnV (H:Hp) (k:Nat) (cs:List D) (a:Addr):Prop:=∃ (L:Lam) (pm ctv:Value) (c':Addr) (oc:Obj) (vs:Array Value) (tk:Tok) (cells:List Addr),
 Tbs.lams.lookup k = some L/\Fz H a (PySem.W.kla_obj "<lambda>" L.qual L.params L.body L.scope (L.caps.zip cells) pm c' ctv)/\Fz H c' oc/\oc.data = .fields vs/\vs[1]? = some (.str L.qual tk)/\cells.Nodup/\cells.length = L.caps.length/\lC H cells cs
theorem lC.keep {H H':Hp} (k:∀ a o,Fz H a o->Fz H' a o):∀ {cells:List Addr} {cs:List D},lC H cells cs->lC H' cells cs
 | [],_,h=>h
 | c::r,cs,h=>by
   obtain ⟨d,ds',o,u,e,h1,h2,h3,h4,h5⟩:=h;exact ⟨d,ds',o,u,e,h1,k _ _ h2,h3,h4,lC.keep k h5⟩
theorem FnV.keep {H H':Hp} (k:∀ a o,Fz H a o->Fz H' a o) {n:Nat} {cs:List D} {a:Addr} (h:FnV H n cs a):FnV H' n cs a:=by
 obtain ⟨L,pm,ctv,c',oc,vs,tk,cells,h1,h2,h3,h4,h5,h6,h7,h8⟩:=h;exact ⟨L,pm,ctv,c',oc,vs,tk,cells,h1,k _ _ h2,k _ _ h3,h4,h5,h6,h7,h8.keep k⟩
noncomputable def kf (H:Hp):Prop:=∀ t∈Tbs.ts,∃ ps,H t.1 = some (.tbl ps)/\TriplesOk ps.toList/\∀ pos cv,codeAmong pos ps.toList = some cv->∃ c o vs tk,cv = .ref c/\Fz H c o/\o.data = .fields vs/\vs[1]? = some (.str t.2 tk)
theorem kf.keep {H H':Hp} (h:kf H) (k:∀ b o,¬ Mo o->H b = some o->H' b = some o):kf H':=fun t ht=>by
 obtain ⟨ps,h1,h2,h3⟩:=h t ht;refine ⟨ps,k _ _ (fun z=>z) h1,h2,fun pos cv e=>?_⟩;obtain ⟨c,o,vs,tk,e1,e2,e3⟩:=h3 pos cv e;exact ⟨c,o,vs,tk,e1,k _ _ (fun z=>z) e2,e3⟩
noncomputable def FD (F:Addr->Prop) (H:Hp):Prop:=∀ b,F b->∃ o,H b = some o/\(Mo o\/(∃ ps,o = .tbl ps)/\∃ t∈Tbs.ts,t.1 = b)
theorem FD.not {F:Addr->Prop} {H:Hp} (fd:FD F H) {a:Addr} {o:HO} (e:H a = some o) (n:¬ Mo o) (t:NT o):¬ F a:=fun z=>by
 obtain ⟨u,e2,h⟩:=fd a z;rw [e] at e2;cases e2;rcases h with h | ⟨⟨ps,rfl⟩,_⟩
 . exact n h
 . exact t
theorem FD.none {F:Addr->Prop} {H:Hp} (fd:FD F H) {a:Addr} (e:H a = Option.none):¬ F a:=fun z=>by
 obtain ⟨u,e2,_⟩:=fd a z;rw [e] at e2;cases e2
noncomputable def TF (F:Addr->Prop):Prop:=∀ t∈Tbs.ts,F t.1
structure Gh where
 h:Hp
 R:Addr->Prop
noncomputable def Gh.free (G:Gh) (a:Addr):Prop:=G.h a = none/\¬ G.R a
noncomputable def g0:Gh:=⟨fun _=>none,fun _=>False⟩
structure Step (G:Gh) (F:Addr->Prop) (H:Hp) (F':Addr->Prop) (H':Hp):Prop where
 keep:∀ b o,NT o->H b = some o->¬ F b->H' b = some o
 grow:∀ b,F' b->F b\/H b = none
 res:∀ b o,G.R b->F b->H b = some o->F' b/\H' b = some o
 tb:∀ b ps,H b = some (.tbl ps)->∃ qs,H' b = some (.tbl qs)
theorem Step.refl {G:Gh} {F:Addr->Prop} {H:Hp}:Step G F H F H:=⟨fun _ _ _ h _=>h,fun _ h=>.inl h,fun _ _ _ h e=>⟨h,e⟩,fun _ ps e=>⟨ps,e⟩⟩
theorem Step.trans {G:Gh} {H H1 H2:Hp} {F F1 F2:Addr->Prop} (a:Step G F H F1 H1) (b:Step G F1 H1 F2 H2):Step G F H F2 H2 where
 keep:=fun x o t h n=>b.keep x o t (a.keep x o t h n) fun z=>by
  rcases a.grow x z with q | q
  . exact n q
  . rw [h] at q;cases q
 grow:=fun x h=>by
  rcases b.grow x h with q | q
  . exact a.grow x q
  . by_cases f:F x
    . exact .inl f
    . right
      cases e:H x with
      | none=>rfl
      | some o =>
        by_cases t:NT o
        . rw [a.keep x o t e f] at q;cases q
        . cases o<;>first | (exact absurd trivial t) | skip
          obtain ⟨qs,z⟩:=a.tb x _ e;rw [z] at q;cases q
 res:=fun x o r h e=>by
  obtain ⟨h1,e1⟩:=a.res x o r h e;exact b.res x o r h1 e1
 tb:=fun x ps e=>by
  obtain ⟨qs,e⟩:=a.tb x ps e;exact b.tb x qs e
theorem Step.of_same {G:Gh} {H H':Hp} {F:Addr->Prop} (h:hJ H H'):Step G F H F H':=⟨fun b o _ e _=>h b o e,fun _ h=>.inl h,fun b o _ f e=>⟨f,h b o e⟩,fun b ps e=>⟨ps,h b _ e⟩⟩
section
variable {K:PySem.W.Frag} {G:Gh} {H H':Hp} {F F':Addr->Prop}
theorem xR {a:Addr} {u:HO} (t:NT u) (k:∀ b o,NT o->H b = some o->¬ F b->H' b = some o) (n:¬ F a) (h:Rd H a u):Rd H' a u:=by
 rcases h with h | ⟨o,h⟩
 . exact .inl (k a _ t h n)
 . exact .inr ⟨o,k a _ trivial h n⟩
theorem tZ {a:Addr} {xs:List V} (fd:FD F H) (k:∀ b o,NT o->H b = some o->¬ F b->H' b = some o) (h:SqT K H a xs):SqT K H' a xs:=by
 rcases h with h | h
 . refine .inl (xR trivial k (fun z=>?_) h);rcases h with h | ⟨o,h⟩
   . exact fd.not h (fun z=>z) trivial z
   . exact fd.not h (fun z=>z) trivial z
 . exact .inr h
theorem Ls.step {a:Addr} {xs:List V} (s:Step G F H F' H') (h:Ls K H F a xs):Ls K H' F' a xs:=by
 rcases h with ⟨h1,h2⟩ | h
 . refine .inl ⟨xR trivial s.keep h2 h1,fun z=>?_⟩;rcases s.grow a z with q | q
   . exact h2 q
   . rcases h1 with h | ⟨o,h⟩
     . rw [h] at q;cases q
     . rw [h] at q;cases q
 . exact .inr h
theorem sI (fd:FD F H) (k:∀ b o,NT o->H b = some o->¬ F b->H' b = some o):∀ a o,Fz H a o->Fz H' a o:=fun a o h=>by
 exact k a _ trivial h (fd.not h (fun z=>z) trivial)
mutual
theorem Rel.step (fd:FD F H) (s:Step G F H F' H'):∀ (d:D) (v:V),Rel K H F d v->Rel K H' F' d v
 | .non,v,h=>by unfold Rel at h ⊢;exact h
 | .bl b,v,h=>by unfold Rel at h ⊢;exact h
 | .int i,v,h=>by unfold Rel at h ⊢;exact h
 | .str x,v,h=>by unfold Rel at h ⊢;exact h
 | .lst ds,v,h=>by
   unfold Rel at h ⊢;obtain ⟨a,xs,e,h1,h3⟩:=h
   exact ⟨a,xs,e,h1.step s,aF.step fd s ds xs h3⟩
 | .tup ds,v,h=>by
   unfold Rel at h ⊢;obtain ⟨a,xs,e,h1,h3⟩:=h
   exact ⟨a,xs,e,tZ fd s.keep h1,aF.step fd s ds xs h3⟩
 | .fn _ _,v,h=>by unfold Rel at h;exact h.elim
 | .dct ks ds,v,h=>by
   unfold Rel at h ⊢;obtain ⟨a,vs,e,h1,h2,h3,h4,h5⟩:=h;refine ⟨a,vs,e,h1.elim (fun h1=>.inl (s.keep a _ trivial h1 h2)) fun ⟨o,h1⟩=>.inr ⟨o,s.keep a _ trivial h1 h2⟩,fun z=>?_,h3,h4,aF.step fd s ds vs h5⟩;rcases s.grow a z with q | q
   . exact h2 q
   . rcases h1 with h1 | ⟨o,h1⟩<;>(rw [h1] at q;cases q)
theorem aF.step (fd:FD F H) (s:Step G F H F' H'):∀ (ds:List D) (xs:List V),aF K H F ds xs->aF K H' F' ds xs
 | [],xs,h=>by unfold aF at h ⊢;exact h
 | d::ds,xs,h=>by
   unfold aF at h ⊢;obtain ⟨y,ys,e,h1,h2⟩:=h;exact ⟨y,ys,e,Rel.step fd s d y h1,aF.step fd s ds ys h2⟩
end
theorem Rel.less (fd:FD F H) (hs:∀ b,F' b->F b) {d:D} {v:V} (h:Rel K H F d v):Rel K H F' d v :=
 Rel.step (G:=g0) fd ⟨fun _ _ _ h _=>h,fun b z=>.inl (hs b z),fun _ _ r _ _=>r.elim,fun _ ps e=>⟨ps,e⟩⟩ d v h
theorem aF.less (fd:FD F H) (hs:∀ b,F' b->F b) {ds:List D} {xs:List V} (h:aF K H F ds xs):aF K H F' ds xs :=
 aF.step (G:=g0) fd ⟨fun _ _ _ h _=>h,fun b z=>.inl (hs b z),fun _ _ r _ _=>r.elim,fun _ ps e=>⟨ps,e⟩⟩ ds xs h
mutual
theorem Rel.free (fd:FD F' H):∀ (d:D) (v:V),lf d = true->Rel K H F d v->Rel K H F' d v
 | .non,v,_,h=>by unfold Rel at h ⊢;exact h
 | .bl b,v,_,h=>by unfold Rel at h ⊢;exact h
 | .int i,v,_,h=>by unfold Rel at h ⊢;exact h
 | .str x,v,_,h=>by unfold Rel at h ⊢;exact h
 | .lst ds,v,l,h=>by unfold lf at l;cases l
 | .tup ds,v,l,h=>by
   unfold lf at l;unfold Rel at h ⊢;obtain ⟨a,xs,e,h1,h3⟩:=h
   exact ⟨a,xs,e,h1,aF.free fd ds xs l h3⟩
 | .fn _ _,v,l,h=>by unfold lf at l;cases l
 | .dct _ _,v,l,h=>by unfold lf at l;cases l
theorem aF.free (fd:FD F' H):∀ (ds:List D) (xs:List V),lfL ds = true->aF K H F ds xs->aF K H F' ds xs
 | [],xs,_,h=>by unfold aF at h ⊢;exact h
 | d::ds,xs,l,h=>by
   unfold lfL at l;rw [aa] at l;unfold aF at h ⊢;obtain ⟨y,ys,e,h1,h2⟩:=h;exact ⟨y,ys,e,Rel.free fd d y l.1 h1,aF.free fd ds ys l.2 h2⟩
end
theorem aF.length:∀ {ds:List D} {xs:List V},aF K H F ds xs->xs.length = ds.length
 | [],xs,h=>by unfold aF at h;subst h;rfl
 | d::ds,xs,h=>by
   unfold aF at h;obtain ⟨y,ys,e,_,h2⟩:=h;subst e;rw [ax,ax,aF.length h2]
theorem aF.get:∀ {ds:List D} {xs:List V} {i:Nat} {d:D},aF K H F ds xs->ds[i]? = some d->∃ v,xs[i]? = some v/\Rel K H F d v
 | [],_,_,_,_,e=>by simp at e
 | d::ds,xs,i,d',h,e=>by
   unfold aF at h;obtain ⟨y,ys,q,h1,h2⟩:=h;subst q
   cases i with
   | zero=>simp at e;subst e;exact ⟨y,rfl,h1⟩
   | succ i =>
     obtain ⟨v,h3,h4⟩:=aF.get (i:=i) h2 (by simpa using e);exact ⟨v,by simpa using h3,h4⟩
theorem aF.append:∀ {ds es:List D} {xs ys:List V},aF K H F ds xs->aF K H F es ys->aF K H F (ds++es) (xs++ys)
 | [],es,xs,ys,h,h'=>by unfold aF at h;subst h;exact h'
 | d::ds,es,xs,ys,h,h'=>by
   unfold aF at h;obtain ⟨y,zs,q,h1,h2⟩:=h;subst q;show aF K H F (d::(ds++es)) (y::(zs++ys));unfold aF;exact ⟨y,zs++ys,rfl,h1,aF.append h2 h'⟩
theorem aF.one {d:D} {v:V} (h:Rel K H F d v):aF K H F [d] [v]:=by
 unfold aF;exact ⟨v,[],rfl,h,by unfold aF;rfl⟩
theorem aF.nil:aF K H F [] []:=by unfold aF;rfl
theorem aF.cons {d:D} {v:V} {ds:List D} {xs:List V} (h:Rel K H F d v) (t:aF K H F ds xs):aF K H F (d::ds) (v::xs):=by
 unfold aF;exact ⟨v,xs,rfl,h,t⟩
theorem aF.take:∀ {ds:List D} {xs:List V} (n:Nat),aF K H F ds xs->aF K H F (ds.take n) (xs.take n)
 | [],xs,n,h=>by unfold aF at h;subst h;simp;exact aF.nil
 | d::ds,xs,0,h=>by simp;exact aF.nil
 | d::ds,xs,n+1,h=>by
   unfold aF at h;obtain ⟨y,ys,q,h1,h2⟩:=h;subst q;rw [Ba,Ba];exact aF.cons h1 (aF.take n h2)
theorem aF.drop:∀ {ds:List D} {xs:List V} (n:Nat),aF K H F ds xs->aF K H F (ds.drop n) (xs.drop n)
 | [],xs,n,h=>by unfold aF at h;subst h;simp;exact aF.nil
 | d::ds,xs,0,h=>h
 | d::ds,xs,n+1,h=>by
   unfold aF at h;obtain ⟨y,ys,q,h1,h2⟩:=h;subst q;rw [Be,Be];exact aF.drop n h2
theorem aF.set {d:D} {v:V} (r:Rel K H F d v):∀ {ds:List D} {xs:List V} (n:Nat),aF K H F ds xs->aF K H F (ds.set n d) (xs.set n v)
 | [],xs,n,h=>by unfold aF at h;subst h;simp;exact aF.nil
 | e::ds,xs,0,h=>by
   unfold aF at h;obtain ⟨y,ys,q,h1,h2⟩:=h;subst q
   exact aF.cons r h2
 | e::ds,xs,n+1,h=>by
   unfold aF at h;obtain ⟨y,ys,q,h1,h2⟩:=h;subst q;exact aF.cons h1 (aF.set r n h2)
theorem aF.cut {ds:List D} {xs:List V} (lo hi:Option Int) (h:aF K H F ds xs):aF K H F (cutD ds lo hi) (pR xs lo hi):=by
 unfold cutD pR;rw [h.length];exact (h.drop _).take _
end
noncomputable def dt (K:PySem.W.Frag) (H:Hp) (F:Addr->Prop) (d:D) (v:V):Prop:=Rel K H F d v\/∃ a xs ds,d = .lst ds/\v = .ref a/\H a = some (.lst xs)/\aF K H F ds xs
noncomputable def RelM (m:Bool) (K:PySem.W.Frag) (H:Hp) (F:Addr->Prop) (d:D) (v:V):Prop:=if m = true then dt K H F d v else Rel K H F d v
theorem RelM.b {m:Bool} {K:PySem.W.Frag} {H:Hp} {F:Addr->Prop} {d:D} {v:V} (h:RelM m K H F d v):dt K H F d v:=by
 unfold RelM at h;split at h
 . exact h
 . exact .inl h
theorem dt.same {K:PySem.W.Frag} {G:Gh} {H H':Hp} {F F':Addr->Prop} {d:D} {v:V} (fd:FD F H) (s:Step G F H F' H') (k:Sim H H') (h:dt K H F d v):dt K H' F' d v:=by
 rcases h with h | ⟨a,xs,ds,e1,e2,h1,h2⟩
 . exact .inl (Rel.step fd s d v h)
 . exact .inr ⟨a,xs,ds,e1,e2,k.nt _ _ trivial h1,aF.step fd s ds xs h2⟩
theorem RelM.step {m:Bool} {K:PySem.W.Frag} {G:Gh} {H H':Hp} {F F':Addr->Prop} {d:D} {v:V} (fd:FD F H) (s:Step G F H F' H') (k:m = true->Sim H H') (h:RelM m K H F d v):RelM m K H' F' d v:=by
 cases m with
 | true=>exact dt.same fd s (k rfl) h
 | false=>exact Rel.step fd s d v h
noncomputable def eK (K:PySem.W.Frag) (G:Gh) (F:Addr->Prop) (H:Hp) (o:Option (Option V)):Sl->Prop
 | .no=>True
 | .val d=>∃ v,o = some (some v)/\Rel K H F d v
 | .own ds=>∃ a xs,o = some (some (.ref a))/\F a/\G.free a/\H a = some (.lst xs)/\aF K H F ds xs
 | .fnc k cs=>∃ a,o = some (some (.ref a))/\FnV H k cs a
 | .odc ks ds=>∃ a vs,o = some (some (.ref a))/\F a/\G.free a/\H a = some (.dK (zk ks vs))/\ks.Nodup/\ks.length = ds.length/\aF K H F ds vs
noncomputable def ow:Sl->Bool
 | .own _=>true
 | .odc _ _=>true
 | _=>false
structure Ok (K:PySem.W.Frag) (G:Gh) (F:Addr->Prop) (σ:St) (H:Hp) (δ:Loc):Prop where
 same:Sim G.h H
 fd:FD F H
 rf:∀ b,G.R b->F b
 rl:∀ b,G.R b->∃ o,H b = some o/\Mo o
 tf:TF F
 tabs:kf H
 len:δ.length = σ.length
 sl:∀ (i:Nat) (s:Sl),δ[i]? = some s->eK K G F H σ[i]? s
 apart:∀ (i j:Nat) (s t:Sl) (a:Addr),δ[i]? = some s->δ[j]? = some t->ow s = true->ow t = true->σ[i]? = some (some (.ref a))->σ[j]? = some (some (.ref a))->i = j
section
variable {K:PySem.W.Frag} {G:Gh} {H H':Hp} {F F':Addr->Prop} {σ:St} {δ:Loc}
theorem eK.same {o:Option (Option V)} (fd:FD F H) (k:hJ H H'):∀ {s:Sl},eK K G F H o s->eK K G F H' o s
 | .no,_=>trivial
 | .val d,h=>by
   obtain ⟨v,e,h⟩:=h
   exact ⟨v,e,Rel.step (G:=G) fd (Step.of_same k) d v h⟩
 | .own ds,h=>by
   obtain ⟨a,xs,e,h1,h2,h3,h4⟩:=h
   exact ⟨a,xs,e,h1,h2,k _ _ h3,aF.step (G:=G) fd (Step.of_same k) ds xs h4⟩
 | .fnc n cs,h=>by
   obtain ⟨a,e,h⟩:=h
   exact ⟨a,e,h.keep fun a o z=>k _ _ z⟩
 | .odc ks ds,h=>by
   obtain ⟨a,xs,e,h1,h2,h3,h4,h5,h6⟩:=h;exact ⟨a,xs,e,h1,h2,k _ _ h3,h4,h5,aF.step (G:=G) fd (Step.of_same k) ds xs h6⟩
theorem FD.same (fd:FD F H) (k:hJ H H'):FD F H':=fun b h=>by
 obtain ⟨o,e,q⟩:=fd b h;exact ⟨o,k _ _ e,q⟩
theorem xQ {P:Addr->Prop} (h:∀ b,P b->∃ o,H b = some o/\Mo o) (k:hJ H H'):∀ b,P b->∃ o,H' b = some o/\Mo o:=fun b z=>by
 obtain ⟨o,e,q⟩:=h b z;exact ⟨o,k _ _ e,q⟩
theorem Ok.same' (h:Ok K G F σ H δ) (k:hJ H H'):Ok K G F σ H' δ :=
 ⟨h.same.trans (.of k),h.fd.same k,h.rf,xQ h.rl k,h.tf,h.tabs.keep fun b o _ e=>k b o e,h.len,fun i s e=>(h.sl i s e).same h.fd k,h.apart⟩
theorem cj {H:Hp} {p:Addr} (h:H p = none) (o:HO):hJ H (upd H p o):=fun b u q=>by rw [bw (fN q h)];exact q
theorem eK.less {o:Option (Option V)} (fd:FD F H) (hs:∀ b,F' b->F b):∀ {s:Sl},(∀ a,ow s = true->o = some (some (.ref a))->F' a)->eK K G F H o s->eK K G F' H o s
 | .no,_,_=>trivial
 | .val d,_,h=>by
   obtain ⟨v,e,h⟩:=h
   exact ⟨v,e,Rel.less fd hs h⟩
 | .own ds,q,h=>by
   obtain ⟨a,xs,e,h1,h2,h3,h4⟩:=h
   exact ⟨a,xs,e,q a rfl e,h2,h3,aF.less fd hs h4⟩
 | .fnc n cs,_,h=>h
 | .odc ks ds,q,h=>by
   obtain ⟨a,xs,e,h1,h2,h3,h4,h5,h6⟩:=h;exact ⟨a,xs,e,q a rfl e,h2,h3,h4,h5,aF.less fd hs h6⟩
inductive fP (K:PySem.W.Frag) (H:Hp) (F:Addr->Prop):D->HO->Prop
 | lst {ds:List D} {xs:List V}:aF K H F ds xs->fP K H F (.lst ds) (.lst xs)
 | dct {ks:List Str} {ds:List D} {vs:List V}:ks.Nodup->ks.length = ds.length->aF K H F ds vs->fP K H F (.dct ks ds) (.dK (zk ks vs))
noncomputable def owS:D->Sl
 | .lst ds=>.own ds
 | .dct ks ds=>.odc ks ds
 | _=>.no
theorem HM {d d':D} (h:ow (owS d) = true) (e:owS d = owS d'):d = d':=by
 cases d<;>first | (cases h;done) | skip
 . cases d'<;>first | (cases e;rfl) | cases e
 . cases d'<;>first | (cases e;rfl) | cases e
theorem fP.mo {d:D} {o:HO} (h:fP K H F d o):Mo o/\ow (owS d) = true:=by
 cases h<;>exact ⟨trivial,rfl⟩
theorem fP.step (fd:FD F H) (s:Step G F H F' H') {d:D} {o:HO} (h:fP K H F d o):fP K H' F' d o:=by
 cases h with
 | lst h=>exact .lst (aF.step fd s _ _ h)
 | dct h1 h2 h3=>exact .dct h1 h2 (aF.step fd s _ _ h3)
theorem fP.sl {o:Option (Option V)} {a:Addr} {d:D} {u:HO} (e:o = some (some (.ref a))) (hF:F a) (hg:G.free a) (h:H a = some u) (r:fP K H F d u):eK K G F H o (owS d):=by
 cases r with
 | lst r=>exact ⟨a,_,e,hF,hg,h,r⟩
 | dct h1 h2 h3=>exact ⟨a,_,e,hF,hg,h,h1,h2,h3⟩
theorem eK.ow {o:Option (Option V)} {s:Sl} (h:eK K G F H o s) (q:ow s = true):∃ a u d,o = some (some (.ref a))/\F a/\G.free a/\H a = some u/\fP K H F d u/\s = owS d:=by
 cases s with
 | own ds =>
   obtain ⟨a,xs,e,h1,h2,h3,h4⟩:=h
   exact ⟨a,_,.lst ds,e,h1,h2,h3,.lst h4,rfl⟩
 | odc ks ds =>
   obtain ⟨a,xs,e,h1,h2,h3,h4,h5,h6⟩:=h
   exact ⟨a,_,.dct ks ds,e,h1,h2,h3,.dct h4 h5 h6,rfl⟩
 | _=>cases q
theorem eK.stay0 {G':Gh} {o:Option (Option V)} (fd:FD F H) (st:Step G' F H F' H') (k:∀ a u,o = some (some (.ref a))->F a->G.free a->H a = some u->F' a/\H' a = some u):∀ {s:Sl},eK K G F H o s->eK K G F' H' o s
 | .no,_=>trivial
 | .fnc n cs,h=>by
   obtain ⟨v,e,z⟩:=h
   exact ⟨v,e,z.keep (sI fd st.keep)⟩
 | .val d,h=>by
   obtain ⟨v,e,z⟩:=h
   exact ⟨v,e,Rel.step fd st d v z⟩
 | .own ds,h=>by
   obtain ⟨a,u,d,e,h1,h2,h3,h4,e5⟩:=eK.ow h rfl;rw [e5];obtain ⟨k1,k2⟩:=k a u e h1 h2 h3
   exact fP.sl e k1 h2 k2 (h4.step fd st)
 | .odc ks ds,h=>by
   obtain ⟨a,u,d,e,h1,h2,h3,h4,e5⟩:=eK.ow h rfl;rw [e5];obtain ⟨k1,k2⟩:=k a u e h1 h2 h3;exact fP.sl e k1 h2 k2 (h4.step fd st)
theorem eK.stay {o:Option (Option V)} (fd:FD F H) (st:Step G F H F' H') (k:∀ a u,o = some (some (.ref a))->F a->G.free a->H a = some u->F' a/\H' a = some u) {s:Sl} (h:eK K G F H o s):eK K G F' H' o s:=eK.stay0 fd st k h
theorem eK.free {G':Gh} {o:Option (Option V)} (k:∀ a,F a->G.free a->G'.free a):∀ {s:Sl},eK K G F H o s->eK K G' F H o s
 | .no,_=>trivial
 | .fnc n cs,h=>h
 | .val d,h=>h
 | .own ds,h=>by
   obtain ⟨a,xs,e,h1,h2,h3⟩:=h
   exact ⟨a,xs,e,h1,k a h1 h2,h3⟩
 | .odc ks ds,h=>by
   obtain ⟨a,xs,e,h1,h2,h3⟩:=h;exact ⟨a,xs,e,h1,k a h1 h2,h3⟩
theorem fP.rel (fd:FD F H) (hs:∀ b,F' b->F b) {a:Addr} (n:¬ F' a) {d:D} {u:HO} (h:H a = some u) (r:fP K H F d u):Rel K H F' d (.ref a):=by
 cases r with
 | lst r =>
   unfold Rel
   exact ⟨a,_,rfl,.inl ⟨.inl h,n⟩,aF.less fd hs r⟩
 | dct h1 h2 h3 =>
   unfold Rel;exact ⟨a,_,rfl,.inl h,n,h1,h2,aF.less fd hs h3⟩
theorem eZ {α:Type} {l:List α} {i j:Nat} {x y:α} (hi:i < l.length) (q:(l.set i x)[j]? = some y):(j = i/\y = x)\/(j≠i/\l[j]? = some y):=by
 by_cases hj:j = i
 . subst hj;rw [bX hi] at q;cases q;exact .inl ⟨rfl,rfl⟩
 . rw [aI (Ne.symm hj)] at q;exact .inr ⟨hj,q⟩
theorem Ok.demote (h:Ok K G F σ H δ) {i:Nat} {d:D} {a:Addr} (e:δ[i]? = some (owS d)) (eo:ow (owS d) = true) (ea:σ[i]? = some (some (.ref a))) :
 Ok K G (fun b=>F b/\b≠a) σ H (δ.set i (.val d))/\Rel K H (fun b=>F b/\b≠a) d (.ref a):=by
 have hi:i < δ.length:=(aB.mp e).1;obtain ⟨a',u,d',e1,h1,h2,h3,h4,ed⟩:=eK.ow (h.sl i _ e) eo;rw [ea] at e1;cases e1;have ed:=HM eo ed;subst ed;have hs:∀ b,(F b/\b≠a)->F b:=fun b z=>z.1;have r:Rel K H (fun b=>F b/\b≠a) d (.ref a):=fP.rel h.fd hs (fun z=>z.2 rfl) h3 h4
 have tf':TF fun b=>F b/\b≠a:=fun t ht=>⟨h.tf t ht,fun w=>by
  obtain ⟨ps,e2,_⟩:=h.tabs t ht;rw [w,h3] at e2;cases e2;exact h4.mo.1⟩
 refine ⟨⟨h.same,fun b z=>h.fd b z.1,fun b z=>⟨h.rf b z,fun w=>h2.2 (by rw [<- w];exact z)⟩,h.rl,tf',h.tabs,by rw [aW];exact h.len,fun j s q=>?_,fun j k s t b q1 q2 o1 o2 p1 p2=>?_⟩,r⟩
 . rcases eZ hi q with ⟨rfl,rfl⟩ | ⟨hj,q⟩
   . exact ⟨.ref a,ea,r⟩
   . refine (h.sl j s q).less h.fd hs fun b z zb=>?_;obtain ⟨b',u',d',e1,f1,_⟩:=eK.ow (h.sl j _ q) z;rw [zb] at e1;cases e1;exact ⟨f1,fun w=>hj (h.apart j i _ _ a q e z eo (by rw [zb,w]) ea)⟩
 . rcases eZ hi q1 with ⟨rfl,rfl⟩ | ⟨hj,q1⟩
   . cases o1
   . rcases eZ hi q2 with ⟨rfl,rfl⟩ | ⟨hk,q2⟩
     . cases o2
     . exact h.apart j k s t b q1 q2 o1 o2 p1 p2
theorem Ok.set (h:Ok K G F σ H δ) {i:Nat} {d:D} {v:V} (hi:i < δ.length) (r:Rel K H F d v):Ok K G F (σ.set i (some v)) H (δ.set i (.val d)):=by
 have hi':i < σ.length:=by rw [<- h.len];exact hi
 refine ⟨h.same,h.fd,h.rf,h.rl,h.tf,h.tabs,by rw [aW,aW];exact h.len,fun j s q=>?_,fun j k s t b q1 q2 o1 o2 p1 p2=>?_⟩
 . rcases eZ hi q with ⟨rfl,rfl⟩ | ⟨hj,q⟩
   . exact ⟨v,by rw [bX hi'],r⟩
   . rw [aI (Ne.symm hj)];exact h.sl j s q
 . rcases eZ hi q1 with ⟨rfl,rfl⟩ | ⟨hj,q1⟩
   . cases o1
   . rcases eZ hi q2 with ⟨rfl,rfl⟩ | ⟨hk,q2⟩
     . cases o2
     . rw [aI (Ne.symm hj)] at p1;rw [aI (Ne.symm hk)] at p2;exact h.apart j k s t b q1 q2 o1 o2 p1 p2
theorem Ok.ownO (h:Ok K G F σ H δ) {i:Nat} {d:D} {u:HO} {p:Addr} (hi:i < δ.length) (hp:F p) (hg:G.free p) (e:H p = some u) (r:fP K H F d u)
 (hn:∀ (j:Nat) s,δ[j]? = some s->ow s = true->σ[j]?≠some (some (.ref p))):Ok K G F (σ.set i (some (.ref p))) H (δ.set i (owS d)):=by
 have hi':i < σ.length:=by rw [<- h.len];exact hi
 refine ⟨h.same,h.fd,h.rf,h.rl,h.tf,h.tabs,by rw [aW,aW];exact h.len,fun j s q=>?_,fun j k s t b q1 q2 o1 o2 p1 p2=>?_⟩
 . rcases eZ hi q with ⟨rfl,rfl⟩ | ⟨hj,q⟩
   . exact fP.sl (by rw [bX hi']) hp hg e r
   . rw [aI (Ne.symm hj)];exact h.sl j s q
 . rcases eZ hi q1 with ⟨rfl,rfl⟩ | ⟨hj,q3⟩
   . rcases eZ hi q2 with ⟨rfl,rfl⟩ | ⟨hk,q2⟩
     . rfl
     . rw [bX hi'] at p1;rw [aI (Ne.symm hk)] at p2;cases p1;exact (hn k t q2 o2 p2).elim
   . rw [aI (Ne.symm hj)] at p1;rcases eZ hi q2 with ⟨rfl,rfl⟩ | ⟨hk,q2⟩
     . rw [bX hi'] at p2;cases p2;exact (hn j s q3 o1 p1).elim
     . rw [aI (Ne.symm hk)] at p2;exact h.apart j k s t b q3 q2 o1 o2 p1 p2
theorem Ok.own (h:Ok K G F σ H δ) {i:Nat} {ds:List D} {xs:List V} {p:Addr} (hi:i < δ.length) (hp:F p) (hg:G.free p) (e:H p = some (.lst xs)) (r:aF K H F ds xs)
 (hn:∀ (j:Nat) s,δ[j]? = some s->ow s = true->σ[j]?≠some (some (.ref p))):Ok K G F (σ.set i (some (.ref p))) H (δ.set i (.own ds)):=h.ownO (d:=.lst ds) hi hp hg e (.lst r) hn
theorem Ok.writeO (h:Ok K G F σ H δ) {i:Nat} {d d':D} {a:Addr} {u:HO} (e:δ[i]? = some (owS d)) (eo:ow (owS d) = true) (ea:σ[i]? = some (some (.ref a))) (r:fP K H F d' u) :
 Ok K G F σ (upd H a u) (δ.set i (owS d'))/\Step G F H F (upd H a u):=by
 have hi:i < δ.length:=(aB.mp e).1;have e':=e;obtain ⟨a',x,d0,e1,h1,h2,h3,h4,_⟩:=eK.ow (h.sl i _ e) eo;rw [ea] at e1;cases e1
 have nt:NT x:=by
  have m:=h4.mo.1;cases x<;>first | trivial | exact m
 have st:Step G F H F (upd H a u):=⟨fun b o _ q n=>by
  rw [bw (fun z:b = a=>n (by rw [z];exact h1))];exact q,fun b z=>.inl z,fun b o r z e=>⟨z,by rw [bw (fun w:b = a=>h2.2 (by rw [<- w];exact r))];exact e⟩,fun b ps e=>⟨ps,by rw [bw (fun w:b = a=>by rw [w,h3] at e;cases e;exact nt)];exact e⟩⟩
 have tb':kf (upd H a u):=h.tabs.keep fun b o n e=>by rw [bw (fun w:b = a=>by rw [w,h3] at e;cases e;exact n h4.mo.1)];exact e
 refine ⟨⟨⟨fun b o t q=>?_,fun b ps q=>?_⟩,fun b z=>?_,h.rf,fun b z=>?_,h.tf,tb',by rw [aW];exact h.len,fun j s q=>?_,fun j k s t b q1 q2 o1 o2 p1 p2=>?_⟩,st⟩
 . have:=h.same.nt b o t q;rw [bw (fun z:b = a=>by rw [z,h2.1] at q;cases q)];exact this
 . rw [bw (fun z:b = a=>by rw [z,h2.1] at q;cases q)];exact h.same.tb b ps q
 . by_cases hb:b = a
   . subst hb;exact ⟨u,cg,.inl r.mo.1⟩
   . rw [bw hb];exact h.fd b z
 . by_cases hb:b = a
   . subst hb;exact ⟨u,cg,r.mo.1⟩
   . rw [bw hb];exact h.rl b z
 . rcases eZ hi q with ⟨rfl,rfl⟩ | ⟨hj,q⟩
   . exact fP.sl ea h1 h2 cg (r.step h.fd st)
   . cases eq:ow s with
     | true =>
       refine eK.stay h.fd st (fun b v e f1 f2 f3=>⟨f1,?_⟩) (h.sl j s q);rw [bw (fun w:b = a=>hj (h.apart j i _ _ a q e' eq eo (by rw [e,w]) ea))]
       exact f3
     | false =>
       have z:=h.sl j s q
       cases s with
       | no=>trivial
       | fnc n cs =>
         obtain ⟨v,e,z⟩:=z
         exact ⟨v,e,z.keep (sI h.fd st.keep)⟩
       | val d =>
         obtain ⟨v,e,z⟩:=z
         exact ⟨v,e,Rel.step h.fd st d v z⟩
       | own _=>cases eq
       | odc _ _=>cases eq
 . have un:∀ (m:Nat) (g:Sl),(δ.set i (owS d'))[m]? = some g->ow g = true->∃ g',δ[m]? = some g'/\ow g' = true:=fun m g q o=>by
    rcases eZ hi q with ⟨rfl,rfl⟩ | ⟨hj,q⟩
    . exact ⟨_,e,eo⟩
    . exact ⟨g,q,o⟩
   obtain ⟨g1,q1,o1⟩:=un j _ q1 o1;obtain ⟨g2,q2,o2⟩:=un k _ q2 o2;exact h.apart j k g1 g2 b q1 q2 o1 o2 p1 p2
theorem Ok.write (h:Ok K G F σ H δ) {i:Nat} {ds es:List D} {a:Addr} {ys:List V} (e:δ[i]? = some (.own ds)) (ea:σ[i]? = some (some (.ref a))) (r:aF K H F es ys) :
 Ok K G F σ (upd H a (.lst ys)) (δ.set i (.own es))/\Step G F H F (upd H a (.lst ys)):=h.writeO (d:=.lst ds) (d':=.lst es) e rfl ea (.lst r)
theorem Mo.nt {o:HO} (m:Mo o):NT o:=by
 cases o<;>first | trivial | exact m
theorem Step.of_sim (rl:∀ b,G.R b->∃ o,H b = some o/\Mo o) (k:Sim H H'):Step G F H F H':=⟨fun b o t e _=>k.nt b o t e,fun b z=>.inl z,fun b o r f e=>⟨f,by
 obtain ⟨u,e2,m⟩:=rl b r;rw [e] at e2;cases e2;exact k.nt b _ m.nt e⟩,k.tb⟩
theorem Ok.call (h:Ok K G F σ H δ) (k:Sim H H') (t:kf H'):Ok K G F σ H' δ/\Step G F H F H':=by
 have st:Step G F H F H':=Step.of_sim h.rl k;refine ⟨⟨h.same.trans k,fun b z=>?_,h.rf,fun b z=>?_,h.tf,t,h.len,fun i s e=>?_,h.apart⟩,st⟩
 . obtain ⟨o,e,m⟩:=h.fd b z;rcases m with m | ⟨⟨ps,rfl⟩,t⟩
   . exact ⟨o,k.nt _ _ m.nt e,.inl m⟩
   . obtain ⟨qs,e⟩:=k.tb b ps e;exact ⟨_,e,.inr ⟨⟨qs,rfl⟩,t⟩⟩
 . obtain ⟨o,e,m⟩:=h.rl b z;exact ⟨o,k.nt _ _ m.nt e,m⟩
 . cases eq:ow s with
   | true =>
     obtain ⟨_,_,_,_,_,_,h3,h4,_⟩:=eK.ow (h.sl i s e) eq;refine eK.stay h.fd st (fun b v e2 f1 f2 f3=>⟨f1,?_⟩) (h.sl i s e);obtain ⟨o,e3,m⟩:=h.fd b f1;rw [f3] at e3;cases e3;rcases m with m | ⟨⟨ps,rfl⟩,t,ht,eb⟩
     . exact k.nt _ _ m.nt f3
     . exfalso;obtain ⟨c,w,d,e5,_,_,e7,r7,_⟩:=eK.ow (h.sl i s e) eq;rw [e2] at e5;cases e5;rw [f3] at e7;cases e7
       exact r7.mo.1
   | false =>
     have q:=h.sl i s e
     cases s with
     | no=>trivial
     | fnc n cs =>
       obtain ⟨v,e,r⟩:=q
       exact ⟨v,e,r.keep (sI h.fd st.keep)⟩
     | val d =>
       obtain ⟨v,e,r⟩:=q
       exact ⟨v,e,Rel.step h.fd st d v r⟩
     | own _=>cases eq
     | odc _ _=>cases eq
end
end PP
end
section
namespace PP
open PySem L2 PyProof.Rows PySem.SeqAt
variable [Tbs]
theorem AE (xs:List (Array Nat)):∀ a:Array Nat,(xs.foldl (·++·) a).toList = a.toList++(xs.map (·.toList)).flatten:=by
 induction xs with
 | nil=>intro a;simp
 | cons x r ih=>intro a;rw [fA,ih];simp
theorem Ib (x:Str) (n:Int) (h:0<=n):Txt.mul x n = Al x n.toNat:=by
 unfold Txt.mul Al;by_cases h1:n < 1
 . have:n = 0:=by lia
   subst this;rfl
 . rw [if_neg h1];by_cases h2:(n == 1 || x.length == 0) = true
   . rw [if_pos h2];rw [df] at h2;rcases h2 with h2 | h2
     . have:n = 1:=by simpa using h2
       subst this;simp
     . have e:x.cps = #[]:=by
        have:x.cps.size = 0:=by simpa [Str.length] using h2
        exact Array.eq_empty_of_size_eq_zero this
       cases x;simp at e;subst e;simp
   . rw [if_neg h2];congr 1;apply Array.ext';rw [AE];simp
theorem HN {X:Cx}:OpR X (binaryOp .Mult) (fun x y H Q=>∃ i n,x = .str i/\y = .int n/\(0<=n/\n<=1000/\i.length<=1000)/\Q (.str (Al i n.toNat)) H):=by
 intro pins s σ H x y v u Q I rx ry h;obtain ⟨i,n,rfl,rfl,⟨h1,h2,h3⟩,q⟩:=h;obtain ⟨t,rfl⟩:=rx;obtain ⟨t',rfl⟩:=ry;refine SB.mul ⟨?_,fun a _ b=>?_,fun a _=>?_⟩ fun t' k=>?_
 . simp;lia
 . have:(1000:Int)<=(2 ^ 63 - 1) / n:=by rw [Int.le_ediv_iff_mul_le (by lia)];lia
   lia
 . have:i.length * n.toNat<=1000 * 1000:=Nat.mul_le_mul h3 (by lia);have z:=bP;unfold Builtin.Str.tooLong;simp
   lia
 . rw [Ib i n h1];exact ⟨.str _,H,I.tok _,⟨_,rfl⟩,q⟩
mutual
noncomputable def RdV (h:Heap):D->Value->Prop
 | .non,u=>u = .none
 | .bl b,u=>u = .bool b
 | .int i,u=>∃ t,u = .int i t
 | .str x,u=>∃ t,u = .str x t
 | .lst ds,u=>∃ a its,u = .ref a/\h.IsList a its/\RdL h ds its.toList
 | .tup ds,u=>∃ a its,u = .ref a/\h.IsTuple a its/\RdL h ds its.toList
 | .fn _ _,_=>False
 | .dct _ _,_=>False
noncomputable def RdL (h:Heap):List D->List Value->Prop
 | [],us=>us = []
 | d::ds,us=>∃ w ws,us = w::ws/\RdV h d w/\RdL h ds ws
end
mutual
theorem wt {X:Cx} {pins:List (Addr × Obj)} {σ:L2.St} {H:Hp} {s:Shared} {F:Addr->Prop} (I:Inv X pins σ H s):∀ (d:D) (v:V) (u:Value),Rel X.K H F d v->RelV v u->dep d < 100000->RdV s.heap d u
 | .non,v,u,h,r,_=>by unfold Rel at h;subst h;unfold RdV;exact r
 | .bl b,v,u,h,r,_=>by unfold Rel at h;subst h;unfold RdV;exact r
 | .int b,v,u,h,r,_=>by unfold Rel at h;subst h;unfold RdV;exact r
 | .str b,v,u,h,r,_=>by unfold Rel at h;subst h;unfold RdV;exact r
 | .lst ds,v,u,h,r,hd=>by
   unfold dep at hd;unfold Rel at h;obtain ⟨a,xs,e,h1,h3⟩:=h;subst e;cases (show u = Value.ref a from r);obtain ⟨its,rv,p,hz⟩:=I.list h1.sq;unfold RdV
   exact ⟨a,its.toArray,rfl,p.isList,kZ I ds xs its h3 rv (by lia)⟩
 | .tup ds,v,u,h,r,hd=>by
   unfold dep at hd;unfold Rel at h;obtain ⟨a,xs,e,h1,h3⟩:=h;subst e;cases (show u = Value.ref a from r);obtain ⟨its,rv,p,hz⟩:=I.tuple h1;unfold RdV
   exact ⟨a,its.toArray,rfl,p,kZ I ds xs its h3 rv (by lia)⟩
 | .fn _ _,v,u,h,r,_=>by unfold Rel at h;exact h.elim
 | .dct _ _,v,u,h,r,hd=>by unfold dep at hd;exact absurd hd (bU _)
theorem kZ {X:Cx} {pins:List (Addr × Obj)} {σ:L2.St} {H:Hp} {s:Shared} {F:Addr->Prop} (I:Inv X pins σ H s):∀ (ds:List D) (xs:List V) (us:List Value),aF X.K H F ds xs->Vals xs us->bM ds < 100000->RdL s.heap ds us
 | [],xs,us,h,r,_=>by unfold aF at h;subst h;cases r;unfold RdL;rfl
 | d::ds,xs,us,h,r,hd=>by
   unfold bM at hd;unfold aF at h;obtain ⟨y,ys,e,h1,h2⟩:=h;subst e
   cases r with
   | cons r1 r2 =>
     unfold RdL;exact ⟨_,_,rfl,wt I d y _ h1 r1 (by lia),kZ I ds ys _ h2 r2 (by lia)⟩
end
theorem eO {X:Cx} {pins:List (Addr × Obj)} {σ:L2.St} {H:Hp} {s:Shared} {F:Addr->Prop} (I:Inv X pins σ H s) {d:D} {v:V} {u:Value} (h:dt X.K H F d v) (r:RelV v u) (hd:dep d < 100000):RdV s.heap d u:=by
 rcases h with h | ⟨a,xs,ds,rfl,rfl,h1,h2⟩
 . exact wt I d v u h r hd
 . cases (show u = Value.ref a from r);obtain ⟨its,rv,p,hz⟩:=I.list (.inl (.inl h1));unfold RdV;unfold dep at hd;exact ⟨a,its.toArray,rfl,p.isList,kZ I ds xs its h2 rv (by lia)⟩
mutual
theorem RdV.inj {h:Heap}:∀ (d e:D) (u:Value),RdV h d u->RdV h e u->d = e
 | .non,e,u,a,b=>by
   unfold RdV at a;subst a
   cases e<;>unfold RdV at b<;>first | rfl | (obtain ⟨_,_,b,_⟩:=b;cases b;done) | (obtain ⟨_,b⟩:=b;cases b;done) | (cases b;done)
 | .bl x,e,u,a,b=>by
   unfold RdV at a;subst a
   cases e<;>unfold RdV at b<;>first | (cases b;rfl) | (obtain ⟨_,_,b,_⟩:=b;cases b;done) | (obtain ⟨_,b⟩:=b;cases b;done) | (cases b;done)
 | .int x,e,u,a,b=>by
   unfold RdV at a;obtain ⟨t,a⟩:=a;subst a
   cases e<;>unfold RdV at b<;>first | (obtain ⟨_,_,b,_⟩:=b;cases b;done) | (obtain ⟨_,b⟩:=b;cases b;rfl) | (obtain ⟨_,b⟩:=b;cases b;done) | (cases b;done)
 | .str x,e,u,a,b=>by
   unfold RdV at a;obtain ⟨t,a⟩:=a;subst a
   cases e<;>unfold RdV at b<;>first | (obtain ⟨_,_,b,_⟩:=b;cases b;done) | (obtain ⟨_,b⟩:=b;cases b;rfl) | (obtain ⟨_,b⟩:=b;cases b;done) | (cases b;done)
 | .lst ds,e,u,a,b=>by
   unfold RdV at a;obtain ⟨l,its,a,h1,h2⟩:=a;subst a
   cases e with
   | lst es =>
     unfold RdV at b;obtain ⟨l',its',b,k1,k2⟩:=b;cases b;obtain ⟨o,g1,g2,n,g3⟩:=h1;obtain ⟨o',f1,f2,n',f3⟩:=k1;rw [g1] at f1;cases f1;rw [g3] at f3;cases f3
     rw [RdL.inj ds es _ h2 k2]
   | tup es =>
     unfold RdV at b;obtain ⟨l',its',b,k1,k2⟩:=b;cases b;obtain ⟨o,g1,g2,_⟩:=h1;obtain ⟨o',f1,f2,_⟩:=k1;rw [g1] at f1;cases f1
     rw [g2] at f2;injection f2 with f2;exact absurd f2 (by decide)
   | _=>unfold RdV at b;first | (obtain ⟨_,b⟩:=b;cases b) | cases b
 | .tup ds,e,u,a,b=>by
   unfold RdV at a;obtain ⟨l,its,a,h1,h2⟩:=a;subst a
   cases e with
   | tup es =>
     unfold RdV at b;obtain ⟨l',its',b,k1,k2⟩:=b;cases b;obtain ⟨o,g1,g2,n,g3⟩:=h1;obtain ⟨o',f1,f2,n',f3⟩:=k1;rw [g1] at f1;cases f1;rw [g3] at f3;cases f3
     rw [RdL.inj ds es _ h2 k2]
   | lst es =>
     unfold RdV at b;obtain ⟨l',its',b,k1,k2⟩:=b;cases b;obtain ⟨o,g1,g2,_⟩:=h1;obtain ⟨o',f1,f2,_⟩:=k1;rw [g1] at f1;cases f1
     rw [g2] at f2;injection f2 with f2;exact absurd f2 (by decide)
   | _=>unfold RdV at b;first | (obtain ⟨_,b⟩:=b;cases b) | cases b
 | .fn _ _,e,u,a,b=>by unfold RdV at a;exact a.elim
 | .dct _ _,e,u,a,b=>by unfold RdV at a;exact a.elim
theorem RdL.inj {h:Heap}:∀ (ds es:List D) (us:List Value),RdL h ds us->RdL h es us->ds = es
 | [],es,us,a,b=>by
   unfold RdL at a;subst a
   cases es with
   | nil=>rfl
   | cons e es=>unfold RdL at b;obtain ⟨_,_,b,_⟩:=b;cases b
 | d::ds,es,us,a,b=>by
   unfold RdL at a;obtain ⟨w,ws,a,h1,h2⟩:=a;subst a
   cases es with
   | nil=>unfold RdL at b;cases b
   | cons e es =>
     unfold RdL at b;obtain ⟨_,_,b,k1,k2⟩:=b;cases b;rw [RdV.inj d e w h1 k1,RdL.inj ds es ws h2 k2]
end
mutual
theorem kI:∀ d:D,dep d < 100000->eqD d d = true
 | .non,_=>by unfold eqD;rfl
 | .bl b,_=>by unfold eqD;simp
 | .int b,_=>by unfold eqD;simp
 | .str b,_=>by unfold eqD;simp
 | .lst ds,h=>by unfold eqD;exact ly ds (by unfold dep at h;lia)
 | .tup ds,h=>by unfold eqD;exact ly ds (by unfold dep at h;lia)
 | .fn _ _,h=>by unfold dep at h;lia
 | .dct _ _,h=>by unfold dep at h;lia
theorem ly:∀ ds:List D,bM ds < 100000->fF ds ds = true
 | [],_=>by unfold fF;rfl
 | d::ds,h=>by
   unfold bM at h;unfold fF;rw [kI d (by lia),ly ds (by lia)];rfl
end
noncomputable def pairD (ds es:List D) (j:Nat):Bool:=match ds[j]?,es[j]? with
 | some x,some y=>eqD x y
 | _,_=>false
theorem jE:∀ (ds es:List D),(List.range (min ds.length es.length)).all (pairD ds es) = true/\ds.length = es.length↔fF ds es = true
 | [],[]=>by unfold fF;simp
 | [],_::_=>by unfold fF;simp
 | _::_,[]=>by unfold fF;simp
 | d::ds,e::es=>by
   have ih:=jE ds es;have e1:min (d::ds).length (e::es).length = min ds.length es.length+1:=by simp only [ax];lia
   rw [e1,List.range_succ_eq_map,eH,List.all_map];have e2:(pairD (d::ds) (e::es) ∘ Nat.succ) = pairD ds es:=by funext j;simp [pairD]
   rw [e2];unfold fF;rw [aa,aa,<- ih];have e3:pairD (d::ds) (e::es) 0 = eqD d e:=rfl;rw [e3];simp only [ax];constructor
   . rintro ⟨⟨a,b⟩,c⟩;exact ⟨a,b,by lia⟩
   . rintro ⟨a,b,c⟩;exact ⟨⟨a,b⟩,by lia⟩
theorem oK {ds es:List D} (h:ds.length = es.length):(List.range ds.length).all (pairD ds es) = fF ds es:=by
 have q:=jE ds es;rw [<- h,xx] at q;rw [eF];rw [<- q];simp
theorem sL {ds es:List D} (h:ds.length≠es.length):fF ds es = false:=by
 have q:=jE ds es;rw [iw];intro z;exact h (q.mpr z).2
theorem lz (ds es:List D):((List.range (min ds.length es.length)).all (pairD ds es) && ds.length == es.length) = fF ds es:=by
 have q:=jE ds es;rw [eF,aa,<- q];simp
theorem RdL.length {h:Heap}:∀ {ds:List D} {us:List Value},RdL h ds us->us.length = ds.length
 | [],us,a=>by unfold RdL at a;subst a;rfl
 | d::ds,us,a=>by
   unfold RdL at a;obtain ⟨w,ws,a,_,h2⟩:=a;subst a;rw [ax,ax,RdL.length h2]
theorem mm1 (a b c d:Nat):min a c<=min (max a b) (max c d):=FJ.mpr ⟨aY (qa _ _) (jK _ _),aY (iV _ _) (jK _ _)⟩
theorem mm2 (a b c d:Nat):min b d<=min (max a b) (max c d):=FJ.mpr ⟨aY (qa _ _) (iW _ _),aY (iV _ _) (iW _ _)⟩
mutual
theorem oM:∀ (a b:D) (A:Around) (s:Shared) (u v:Value),RdV s.heap a u->RdV s.heap b v->A.units+min (dep a) (dep b) < cLine->EqAt A s u v (eqD a b)
 | .non,b,A,s,u,v,ra,rb,hu=>by
   unfold RdV at ra;subst ra
   cases b with
   | non=>unfold RdV at rb;subst rb;unfold eqD;exact FU _
   | bl b=>unfold RdV at rb;subst rb;unfold eqD;exact EqAt.none_bool b
   | int b=>unfold RdV at rb;obtain ⟨t,rfl⟩:=rb;unfold eqD;exact EqAt.none_int b t
   | str b=>unfold RdV at rb;obtain ⟨t,rfl⟩:=rb;unfold eqD;exact EqAt.none_str b t
   | lst ds=>unfold RdV at rb;obtain ⟨l,its,rfl,h1,h2⟩:=rb;unfold eqD;exact EqAt.none_list h1 (by lia)
   | tup ds=>unfold RdV at rb;obtain ⟨l,its,rfl,h1,h2⟩:=rb;unfold eqD;exact EqAt.none_tuple h1 (by lia)
   | fn _ _=>unfold RdV at rb;exact rb.elim
   | dct _ _=>unfold RdV at rb;exact rb.elim
 | .bl a,b,A,s,u,v,ra,rb,hu=>by
   unfold RdV at ra;subst ra
   cases b with
   | non=>unfold RdV at rb;subst rb;unfold eqD;exact EqAt.bool_none a
   | bl b=>unfold RdV at rb;subst rb;unfold eqD;exact EqAt.bool_bool a b
   | int b=>unfold RdV at rb;obtain ⟨t,rfl⟩:=rb;unfold eqD;exact EqAt.bool_int a b t
   | str b=>unfold RdV at rb;obtain ⟨t,rfl⟩:=rb;unfold eqD;exact EqAt.bool_str a b t
   | lst ds=>unfold RdV at rb;obtain ⟨l,its,rfl,h1,h2⟩:=rb;unfold eqD;exact EqAt.bool_list a h1 (by lia)
   | tup ds=>unfold RdV at rb;obtain ⟨l,its,rfl,h1,h2⟩:=rb;unfold eqD;exact EqAt.bool_tuple a h1 (by lia)
   | fn _ _=>unfold RdV at rb;exact rb.elim
   | dct _ _=>unfold RdV at rb;exact rb.elim
 | .int a,b,A,s,u,v,ra,rb,hu=>by
   unfold RdV at ra;obtain ⟨t',rfl⟩:=ra
   cases b with
   | non=>unfold RdV at rb;subst rb;unfold eqD;exact EqAt.int_none a t'
   | bl b=>unfold RdV at rb;subst rb;unfold eqD;exact EqAt.int_bool a t' b
   | int b=>unfold RdV at rb;obtain ⟨t,rfl⟩:=rb;unfold eqD;exact EqAt.int_int a t' b t
   | str b=>unfold RdV at rb;obtain ⟨t,rfl⟩:=rb;unfold eqD;exact EqAt.int_str a t' b t
   | lst ds=>unfold RdV at rb;obtain ⟨l,its,rfl,h1,h2⟩:=rb;unfold eqD;exact EqAt.int_list a t' h1 (by lia)
   | tup ds=>unfold RdV at rb;obtain ⟨l,its,rfl,h1,h2⟩:=rb;unfold eqD;exact EqAt.int_tuple a t' h1 (by lia)
   | fn _ _=>unfold RdV at rb;exact rb.elim
   | dct _ _=>unfold RdV at rb;exact rb.elim
 | .str a,b,A,s,u,v,ra,rb,hu=>by
   unfold RdV at ra;obtain ⟨t',rfl⟩:=ra
   cases b with
   | non=>unfold RdV at rb;subst rb;unfold eqD;exact EqAt.str_none a t'
   | bl b=>unfold RdV at rb;subst rb;unfold eqD;exact EqAt.str_bool a t' b
   | int b=>unfold RdV at rb;obtain ⟨t,rfl⟩:=rb;unfold eqD;exact EqAt.str_int a t' b t
   | str b=>unfold RdV at rb;obtain ⟨t,rfl⟩:=rb;unfold eqD;exact EqAt.str_str a t' b t
   | lst ds=>unfold RdV at rb;obtain ⟨l,its,rfl,h1,h2⟩:=rb;unfold eqD;exact EqAt.str_list a t' h1 (by lia)
   | tup ds=>unfold RdV at rb;obtain ⟨l,its,rfl,h1,h2⟩:=rb;unfold eqD;exact EqAt.str_tuple a t' h1 (by lia)
   | fn _ _=>unfold RdV at rb;exact rb.elim
   | dct _ _=>unfold RdV at rb;exact rb.elim
 | .lst ds,b,A,s,u,v,ra,rb,hu=>by
   have ra':=ra;unfold RdV at ra;obtain ⟨l,its,rfl,h1,h2⟩:=ra
   cases b with
   | non=>unfold RdV at rb;subst rb;unfold eqD;exact EqAt.list_none h1 (by lia)
   | bl b=>unfold RdV at rb;subst rb;unfold eqD;exact EqAt.list_bool b h1 (by lia)
   | int b=>unfold RdV at rb;obtain ⟨t,rfl⟩:=rb;unfold eqD;exact EqAt.list_int b t h1 (by lia)
   | str b=>unfold RdV at rb;obtain ⟨t,rfl⟩:=rb;unfold eqD;exact EqAt.list_str b t h1 (by lia)
   | tup es=>unfold RdV at rb;obtain ⟨l',its',rfl,k1,k2⟩:=rb;unfold eqD;exact EqAt.list_tuple h1 k1 (by lia)
   | lst es =>
     have rb':=rb;unfold RdV at rb;obtain ⟨l',its',rfl,k1,k2⟩:=rb;by_cases hl:l = l'
     . subst hl;have e:=RdV.inj _ _ _ ra' rb';cases e;have hd:dep (.lst ds) < 100000:=by rw [xx] at hu;have:cLine = 9900:=rfl;lia
       rw [kI _ hd];exact FU _
     . unfold eqD;have n1:its.size = ds.length:=by simpa using h2.length
       have n2:its'.size = es.length:=by simpa using k2.length
       have he:∀ j (j1:j < its.size) (j2:j < its'.size),EqAt A.in1 s its[j] its'[j] (pairD ds es j):=fun j j1 j2=>by
        have q:=iM ds es A.in1 s its.toList its'.toList h2 k2 (by show A.units+1+_ < _;unfold dep at hu;lia) j (by simpa using j1) (by simpa using j2);simpa using q
       refine EqAt.of_refs hl ?_;by_cases hsz:its.size = its'.size
       . rw [<- oK (by lia:ds.length = es.length),<- n1];exact RcAt.lists h1 k1 hsz (by lia) he
       . rw [sL (by lia:ds.length≠es.length)]
         exact RcAt.lists_lengths h1 k1 (by simpa using hsz) (by lia)
   | fn _ _=>unfold RdV at rb;exact rb.elim
   | dct _ _=>unfold RdV at rb;exact rb.elim
 | .tup ds,b,A,s,u,v,ra,rb,hu=>by
   have ra':=ra;unfold RdV at ra;obtain ⟨l,its,rfl,h1,h2⟩:=ra
   cases b with
   | non=>unfold RdV at rb;subst rb;unfold eqD;exact EqAt.tuple_none h1 (by lia)
   | bl b=>unfold RdV at rb;subst rb;unfold eqD;exact EqAt.tuple_bool b h1 (by lia)
   | int b=>unfold RdV at rb;obtain ⟨t,rfl⟩:=rb;unfold eqD;exact EqAt.tuple_int b t h1 (by lia)
   | str b=>unfold RdV at rb;obtain ⟨t,rfl⟩:=rb;unfold eqD;exact EqAt.tuple_str b t h1 (by lia)
   | lst es=>unfold RdV at rb;obtain ⟨l',its',rfl,k1,k2⟩:=rb;unfold eqD;exact EqAt.tuple_list h1 k1 (by lia)
   | tup es =>
     have rb':=rb;unfold RdV at rb;obtain ⟨l',its',rfl,k1,k2⟩:=rb;by_cases hl:l = l'
     . subst hl;have e:=RdV.inj _ _ _ ra' rb';cases e;have hd:dep (.tup ds) < 100000:=by rw [xx] at hu;have:cLine = 9900:=rfl;lia
       rw [kI _ hd];exact FU _
     . unfold eqD;have n1:its.size = ds.length:=by simpa using h2.length
       have n2:its'.size = es.length:=by simpa using k2.length
       have he:∀ j (j1:j < its.size) (j2:j < its'.size),EqAt A.in1 s its[j] its'[j] (pairD ds es j):=fun j j1 j2=>by
        have q:=iM ds es A.in1 s its.toList its'.toList h2 k2 (by show A.units+1+_ < _;unfold dep at hu;lia) j (by simpa using j1) (by simpa using j2);simpa using q
       refine EqAt.of_refs hl ?_;rw [<- lz,<- n1,<- n2]
       exact RcAt.tuples h1 k1 (by lia) he
   | fn _ _=>unfold RdV at rb;exact rb.elim
   | dct _ _=>unfold RdV at rb;exact rb.elim
 | .fn _ _,b,A,s,u,v,ra,rb,hu=>by unfold RdV at ra;exact ra.elim
 | .dct _ _,b,A,s,u,v,ra,rb,hu=>by unfold RdV at ra;exact ra.elim
theorem iM:∀ (ds es:List D) (A:Around) (s:Shared) (us vs:List Value),RdL s.heap ds us->RdL s.heap es vs->A.units+min (bM ds) (bM es) < cLine->∀ j (h1:j < us.length) (h2:j < vs.length),EqAt A s us[j] vs[j] (pairD ds es j)
 | [],_,_,_,us,_,ra,_,_,j,h1,_=>by unfold RdL at ra;subst ra;exact absurd h1 (JG _)
 | _::_,[],_,_,_,vs,_,rb,_,j,_,h2=>by unfold RdL at rb;subst rb;exact absurd h2 (JG _)
 | d::ds,e::es,A,s,us,vs,ra,rb,hu,j,h1,h2=>by
   unfold RdL at ra rb;obtain ⟨w,ws,rfl,a1,a2⟩:=ra;obtain ⟨w',ws',rfl,b1,b2⟩:=rb;unfold bM at hu
   cases j with
   | zero=>exact oM d e A s w w' a1 b1 (cV (fk (mm1 _ _ _ _) _) hu)
   | succ j =>
     have q:=iM ds es A s ws ws' a2 b2 (cV (fk (mm2 _ _ _ _) _) hu) j (by simpa using h1) (by simpa using h2);simpa [pairD] using q
end
theorem yY {i:Int} (h:i.natAbs < 2 ^ 200):Builtin.Int.intBits i<=2 ^ 20:=by
 unfold Builtin.Int.intBits;split
 . exact bC _
 . rename_i h0;have:i.natAbs.log2 < 200:=(Nat.log2_lt (by simpa using h0)).mpr h;have:(200:Nat)<=2 ^ 20:=by decide
   lia
theorem Ic {i j:Int} (h:qx i j = true):IntMulOk i j:=by
 unfold qx at h;simp only [df,aa,decide_eq_true_eq] at h;rcases h with (h | h) | h
 . exact .of_left (intBits_le_64 h.1 h.2)
 . exact .of_right (intBits_le_64 h.1 h.2)
 . exact .of_bits (yY h.1) (yY h.2)
theorem HP {X:Cx}:OpR X (binaryOp .Mult) (rI IntMulOk fun i j=>.int (i * j)):=opI fun _ _ _ _ _ _ _ hc q=>PyProof.Rows.mul_int q hc
theorem DM {X:Cx}:OpR X (binaryOp .FloorDiv) (rI (fun _ j=>0 < j/\j < 1000000000000000000000000000000000000000000000000000000000000) fun i j=>.int (i / j)):=opI fun i j _ _ _ _ _ hc q=>by
 have h1:(0:Int) < j:=hc.1;have h2:j < 1000000000000000000000000000000000000000000000000000000000000:=hc.2;refine PyProof.Rows.floordiv_int (by lia) (by rw [Int.fdiv_eq_ediv_of_nonneg i (by lia)];exact q) (.inl (PyProof.noPylong_of_log2 ?_));exact Nat.lt_trans ((Nat.log2_lt (k:=200) (by lia)).mpr (aK (show j.natAbs < 1000000000000000000000000000000000000000000000000000000000000 by lia) (by decide +kernel))) (by decide)
section
variable {X:Cx}
theorem Lu (hu:X.A.units+200 < cLine):OpR X (compareOp .Eq) (fun x y H Q=>∃ F a b,dt X.K H F a x/\dt X.K H F b y/\gJ a b = true/\Q (.bl (eqD a b)) H):=by
 intro pins s σ H x y v u Q I rx ry h;obtain ⟨F,a,b,ha,hb,hk,q⟩:=h;unfold gJ at hk;rw [aa,aa] at hk;obtain ⟨⟨hk,hd⟩,hm⟩:=hk;replace hd:=of_decide_eq_true hd;replace hm:=of_decide_eq_true hm;have ra:=eO I ha rx (by lia);have rb:=eO I hb ry (by lia);have fin:∀ k:Bool,k = eqD a b->EP X pins σ Q (.bool k) s:=fun k e=>⟨.bl k,H,I,rfl,by rw [e];exact q⟩
 cases a<;>cases b<;>first
  | (exact absurd (show false = true from hk) ah)
  | skip
 . unfold RdV at ra rb;subst ra;subst rb;exact RcAt.bool_bool _ _ _ _ _ _ (fin _ (by unfold eqD;rfl))
 . unfold RdV at ra rb;obtain ⟨t,rfl⟩:=ra;obtain ⟨t',rfl⟩:=rb;exact RcAt.int_int _ _ _ _ _ _ _ _ (fin _ (by unfold eqD;rfl))
 . unfold RdV at ra rb;obtain ⟨t,rfl⟩:=ra;obtain ⟨t',rfl⟩:=rb;exact RcAt.str_str _ _ _ _ _ _ _ _ (fin _ (by unfold eqD;rfl))
 . rename_i ds es;unfold RdV at ra rb;obtain ⟨l,its,rfl,h1,h2⟩:=ra;obtain ⟨l',its',rfl,k1,k2⟩:=rb;have n1:its.size = ds.length:=by simpa using h2.length
   have n2:its'.size = es.length:=by simpa using k2.length
   have he:∀ j (j1:j < its.size) (j2:j < its'.size),EqAt X.A.in1 s its[j] its'[j] (pairD ds es j):=fun j j1 j2=>by
    have q:=iM ds es X.A.in1 s its.toList its'.toList h2 k2 (by show X.A.units+1+_ < _;unfold dep at hd;lia) j (by simpa using j1) (by simpa using j2);simpa using q
   by_cases hsz:its.size = its'.size
   . refine eq_listAt h1 k1 hsz (by lia) he (fin _ ?_);unfold eqD;rw [n1];exact oK (by lia)
   . refine eq_list_lengthsAt h1 k1 (by simpa using hsz) (by lia) (fin _ ?_);unfold eqD;exact (sL (by lia)).symm
 . rename_i ds es;unfold RdV at ra rb;obtain ⟨l,its,rfl,h1,h2⟩:=ra;obtain ⟨l',its',rfl,k1,k2⟩:=rb;have n1:its.size = ds.length:=by simpa using h2.length
   have n2:its'.size = es.length:=by simpa using k2.length
   have he:∀ j (j1:j < its.size) (j2:j < its'.size),EqAt X.A.in1 s its[j] its'[j] (pairD ds es j):=fun j j1 j2=>by
    have q:=iM ds es X.A.in1 s its.toList its'.toList h2 k2 (by show X.A.units+1+_ < _;unfold dep at hd;lia) j (by simpa using j1) (by simpa using j2);simpa using q
   refine eq_tupleAt h1 k1 (by lia) he (fin _ ?_);unfold eqD;rw [n1,n2];exact lz ds es
theorem Lo (hu:X.A.units+200 < cLine):OpR X (compareOp .NotEq) (fun x y H Q=>∃ F a b,dt X.K H F a x/\dt X.K H F b y/\gJ a b = true/\Q (.bl (!eqD a b)) H):=by
 intro pins s σ H x y v u Q I rx ry h;obtain ⟨F,a,b,ha,hb,hk,q⟩:=h;unfold gJ at hk;rw [aa,aa] at hk;obtain ⟨⟨hk,hd⟩,hm⟩:=hk;replace hd:=of_decide_eq_true hd;replace hm:=of_decide_eq_true hm;have ra:=eO I ha rx (by lia);have rb:=eO I hb ry (by lia);have fin:∀ k:Bool,k = (!eqD a b)->EP X pins σ Q (.bool k) s:=fun k e=>⟨.bl k,H,I,rfl,by rw [e];exact q⟩
 cases a<;>cases b<;>first
  | (exact absurd (show false = true from hk) ah)
  | skip
 . unfold RdV at ra rb;subst ra;subst rb;exact RcNeAt.bool_bool _ _ _ _ _ _ (fin _ (by unfold eqD;rfl))
 . unfold RdV at ra rb;obtain ⟨t,rfl⟩:=ra;obtain ⟨t',rfl⟩:=rb;exact RcNeAt.int_int _ _ _ _ _ _ _ _ (fin _ (by unfold eqD;rfl))
 . unfold RdV at ra rb;obtain ⟨t,rfl⟩:=ra;obtain ⟨t',rfl⟩:=rb;exact RcNeAt.str_str _ _ _ _ _ _ _ _ (fin _ (by unfold eqD;rfl))
 . rename_i ds es;unfold RdV at ra rb;obtain ⟨l,its,rfl,h1,h2⟩:=ra;obtain ⟨l',its',rfl,k1,k2⟩:=rb;have n1:its.size = ds.length:=by simpa using h2.length
   have n2:its'.size = es.length:=by simpa using k2.length
   have he:∀ j (j1:j < its.size) (j2:j < its'.size),EqAt X.A.in1 s its[j] its'[j] (pairD ds es j):=fun j j1 j2=>by
    have q:=iM ds es X.A.in1 s its.toList its'.toList h2 k2 (by show X.A.units+1+_ < _;unfold dep at hd;lia) j (by simpa using j1) (by simpa using j2);simpa using q
   by_cases hsz:its.size = its'.size
   . refine RcNeAt.lists h1 k1 hsz (by lia) he _ _ _ _ (fin _ ?_);unfold eqD;rw [n1,oK (by lia)]
   . refine RcNeAt.lists_lengths h1 k1 (by simpa using hsz) (by lia) _ _ _ _ (fin _ ?_);unfold eqD;rw [sL (by lia)];rfl
 . rename_i ds es;unfold RdV at ra rb;obtain ⟨l,its,rfl,h1,h2⟩:=ra;obtain ⟨l',its',rfl,k1,k2⟩:=rb;have n1:its.size = ds.length:=by simpa using h2.length
   have n2:its'.size = es.length:=by simpa using k2.length
   have he:∀ j (j1:j < its.size) (j2:j < its'.size),EqAt X.A.in1 s its[j] its'[j] (pairD ds es j):=fun j j1 j2=>by
    have q:=iM ds es X.A.in1 s its.toList its'.toList h2 k2 (by show X.A.units+1+_ < _;unfold dep at hd;lia) j (by simpa using j1) (by simpa using j2);simpa using q
   refine RcNeAt.tuples h1 k1 (by lia) he _ _ _ _ (fin _ ?_);unfold eqD;rw [n1,n2,lz ds es]
open Classical in
noncomputable def isEq (h:Heap) (a:D) (u:Value):Bool:=if ∃ d,RdV h d u/\eqD d a = true then true else false
theorem yG {h:Heap} {a d:D} {u:Value} (r:RdV h d u):isEq h a u = eqD d a:=by
 unfold isEq
 cases e:eqD d a with
 | true=>rw [if_pos ⟨d,r,e⟩]
 | false =>
   rw [if_neg];rintro ⟨d',r',e'⟩;rw [RdV.inj d d' u r r',e'] at e;cases e
theorem jv {h:Heap} {a:D}:∀ {ds:List D} {us:List Value},RdL h ds us->us.any (isEq h a) = ds.any fun d=>eqD d a
 | [],us,r=>by unfold RdL at r;subst r;rfl
 | d::ds,us,r=>by
   unfold RdL at r;obtain ⟨w,ws,rfl,h1,h2⟩:=r;rw [tH,tH,yG h1,jv h2]
theorem jn {A:Around} {s:Shared} {a:D} {v:Value} (rv:RdV s.heap a v) (hu:A.units+dep a < cLine):∀ {ds:List D} {us:List Value},RdL s.heap ds us->∀ u∈us,EqAt A s u v (isEq s.heap a u)
 | [],us,r=>fun u hm=>by unfold RdL at r;subst r;cases hm
 | d::ds,us,r=>fun u hm=>by
   unfold RdL at r;obtain ⟨w,ws,rfl,h1,h2⟩:=r;rcases aD.mp hm with rfl | hm
   . rw [yG h1];exact oM d a A s u v h1 rv (by lia)
   . exact jn rv hu h2 u hm
theorem Lr (hu:X.A.units+200 < cLine):OpR X (compareOp .In) (fun x y H Q=>∃ F a ds,dt X.K H F a x/\(dt X.K H F (.lst ds) y\/dt X.K H F (.tup ds) y)/\(dep a<=150/\bM ds < 99999)/\Q (.bl (ds.any fun d=>eqD d a)) H):=by
 intro pins s σ H x y v u Q I rx ry h;obtain ⟨F,a,ds,ha,hb,⟨hd,hm⟩,q⟩:=h;have ra:=eO I ha rx (by lia);have fin:∀ k:Bool,k = (ds.any fun d=>eqD d a)->EP X pins σ Q (.bool k) s:=fun k e=>⟨.bl k,H,I,rfl,by rw [e];exact q⟩;rcases hb with hb | hb
 . have rb:=eO I hb ry (by unfold dep;lia);unfold RdV at rb;obtain ⟨l',its',rfl,k1,k2⟩:=rb;refine in_listAt (isEq s.heap a) k1 (fun w hw=>jn ra (by show X.A.units+1+_ < _;lia) k2 w (by simpa using hw)) (fin _ ?_);rw [show its'.any (isEq s.heap a) = its'.toList.any (isEq s.heap a) by simp,jv k2]
 . have rb:=eO I hb ry (by unfold dep;lia);unfold RdV at rb;obtain ⟨l',its',rfl,k1,k2⟩:=rb;refine in_tupleAt (isEq s.heap a) k1 (fun w hw=>jn ra (by show X.A.units+1+_ < _;lia) k2 w (by simpa using hw)) (fin _ ?_);rw [show its'.any (isEq s.heap a) = its'.toList.any (isEq s.heap a) by simp,jv k2]
theorem Aq (hu:X.A.units+200 < cLine):OpR X (compareOp .NotIn) (fun x y H Q=>∃ F a ds,dt X.K H F a x/\(dt X.K H F (.lst ds) y\/dt X.K H F (.tup ds) y)/\(dep a<=150/\bM ds < 99999)/\Q (.bl (!ds.any fun d=>eqD d a)) H):=by
 intro pins s σ H x y v u Q I rx ry h;obtain ⟨F,a,ds,ha,hb,⟨hd,hm⟩,q⟩:=h;have ra:=eO I ha rx (by lia);have fin:∀ k:Bool,k = (!ds.any fun d=>eqD d a)->EP X pins σ Q (.bool k) s:=fun k e=>⟨.bl k,H,I,rfl,by rw [e];exact q⟩;rcases hb with hb | hb
 . have rb:=eO I hb ry (by unfold dep;lia);unfold RdV at rb;obtain ⟨l',its',rfl,k1,k2⟩:=rb;refine notIn_listAt (isEq s.heap a) k1 (fun w hw=>jn ra (by show X.A.units+1+_ < _;lia) k2 w (by simpa using hw)) (fin _ ?_);rw [show its'.any (isEq s.heap a) = its'.toList.any (isEq s.heap a) by simp,jv k2]
 . have rb:=eO I hb ry (by unfold dep;lia);unfold RdV at rb;obtain ⟨l',its',rfl,k1,k2⟩:=rb;refine notIn_tupleAt (isEq s.heap a) k1 (fun w hw=>jn ra (by show X.A.units+1+_ < _;lia) k2 w (by simpa using hw)) (fin _ ?_);rw [show its'.any (isEq s.heap a) = its'.toList.any (isEq s.heap a) by simp,jv k2]
theorem nX (ns:List Int):∀ j,preSum (fun i=>ns.getD i 0) j = (ns.take j).sum
 | 0=>by simp [preSum]
 | j+1=>by
   rw [preSum,nX ns j,FL,List.sum_append]
   cases e:ns[j]? with
   | none=>simp [e]
   | some v=>simp [e]
theorem tU {ns:List Int}:∀ {xs:List V} {us:List Value},xs = ns.map V.int->Vals xs us->∀ i v,us[i]? = some v->∃ t,v = Value.int (ns.getD i 0) t:=by
 induction ns with
 | nil=>intro xs us e r i v h;subst e;cases r;simp at h
 | cons n ns ih =>
   intro xs us e r i v h;subst e
   cases r with
   | cons r1 r2 =>
     cases i with
     | zero=>simp at h;subst h;obtain ⟨t,e⟩:=r1;exact ⟨t,by simpa using e⟩
     | succ i =>
       obtain ⟨t,e⟩:=ih rfl r2 i v (by simpa using h);exact ⟨t,by simpa using e⟩
theorem GF {ns:List Bool}:∀ {xs:List V} {us:List Value},xs = ns.map V.bl->Vals xs us->∀ i v,us[i]? = some v->v = Value.bool (ns.getD i false):=by
 induction ns with
 | nil=>intro xs us e r i v h;subst e;cases r;simp at h
 | cons n ns ih =>
   intro xs us e r i v h;subst e
   cases r with
   | cons r1 r2 =>
     cases i with
     | zero=>simp at h;subst h;have e:_ = Value.bool n:=r1;simpa using e
     | succ i=>simpa using ih rfl r2 i v (by simpa using h)
theorem wu (bs:List Bool):((List.range bs.length).any fun i=>bs.getD i false) = bs.any id:=by
 rw [eF,du,du];constructor
 . rintro ⟨i,hi,e⟩;have hi':=fK.mp hi;refine ⟨bs[i],iQ hi',?_⟩;simpa [List.getD,aw hi'] using e
 . rintro ⟨b,hb,e⟩;obtain ⟨i,hi,rfl⟩:=List.getElem_of_mem hb;exact ⟨i,fK.mpr hi,by simpa [List.getD,aw hi] using e⟩
theorem AU (hc:X.calm = true):cm X (.builtin "any") (fun xs H Q=>∃ (p:Addr) (ns:List Bool),xs = [.ref p]/\SqL X.K H p (ns.map V.bl)/\Q (.bl (ns.any id)) H):=by
 intro pins s σ H xs us Q I r h;obtain ⟨p,ns,rfl,hq,q⟩:=h;obtain ⟨u,rfl,rx⟩:=vals1 r;cases rx;obtain ⟨its,rv,pl,hz⟩:=I.list hq;have hlt:p < s.heap.objs.size:=by obtain ⟨o,e,_⟩:=pl.isList;exact ar e
 refine call_any_walk (eR pl.isList ?_)
 refine ⟨s.heap.objs.size,[s.heap.objs.size,p],[s.heap.objs.size],its.toArray.size,_,_,fun i=>ns.getD i false,rfl,pZ (A:=X.A.in1) (I.ok.hd hc) s.heap.objs.size p (aC hlt) its.toArray,
  ⟨⟨_,aA _ rfl,rfl,rfl⟩,?_⟩,fun i v s' Q' E' hP hQ=>?_,fun h' tk hk=>?_⟩
 . obtain ⟨o,e,r⟩:=pl.isList;exact ⟨o,af _ e,r⟩
 . rw [GF rfl rv i v (by simpa using hP)];exact dn hQ
 . have e:its.toArray.size = ns.length:=by rw [az,<- rv.length,aq]
   rw [e,wu];exact ⟨.bl (ns.any id),H,I.kept (h':=h') (t':=tk) (fun b o e=>hk b o (by simp;exact aC (ar e)) (af _ e)),rfl,q⟩
theorem AN (hc:X.calm = true):cm X (.builtin "sum") (fun xs H Q=>∃ (p:Addr) (ns:List Int),xs = [.ref p]/\SqL X.K H p (ns.map V.int)/\Q (.int ns.sum) H):=by
 intro pins s σ H xs us Q I r h;obtain ⟨p,ns,rfl,hq,q⟩:=h;obtain ⟨u,rfl,rx⟩:=vals1 r;cases rx;obtain ⟨its,rv,pl,hz⟩:=I.list hq;have hlt:p < s.heap.objs.size:=by obtain ⟨o,e,_⟩:=pl.isList;exact ar e
 refine call_sum_walkG (eR pl.isList ?_)
 refine ⟨s.heap.objs.size,[s.heap.objs.size,p],[s.heap.objs.size],its.toArray.size,_,_,fun i=>ns.getD i 0,rfl,pZ (A:=X.A.in1) (I.ok.hd hc) s.heap.objs.size p (aC hlt) its.toArray,
  ⟨⟨_,aA _ rfl,rfl,rfl⟩,?_⟩,fun b hb=>?_,fun i v e=>?_,fun h' tk t' hk=>?_⟩
 . obtain ⟨o,e,r⟩:=pl.isList;exact ⟨o,af _ e,r⟩
 . have:b = s.heap.objs.size\/b = p:=by simpa using hb
   show b < (s.heap.push _).objs.size;rw [bf];rcases this with rfl | rfl
   . exact cU _
   . exact bc hlt
 . exact tU rfl rv i v (by simpa using e)
 . refine ⟨.int ns.sum,H,I.kept (h':=h') (t':=tk) fun b o e=>?_,⟨t',?_⟩,q⟩
   . exact hk b o (by simp;exact aC (ar e)) (af _ e)
   . rw [nX];have e:its.toArray.size = ns.length:=by rw [az,<- rv.length,aq]
     rw [e,FQ]
theorem zT {ns:List Int} {v:Int} (h:ns≠[]):nA (ns++[v]) = if v > nA ns then v else nA ns:=by
 cases ns with
 | nil=>exact absurd rfl h
 | cons n ns =>
   show (ns++[v]).foldl _ n = _;rw [List.foldl_append];rfl
theorem vk (ns:List Int):∀ k,k < ns.length->ns.getD (argBest (fun i j=>decide (ns.getD i 0 > ns.getD j 0)) k) 0 = nA (ns.take (k+1))
 | 0,h=>by
   cases ns with
   | nil=>cases h
   | cons n ns=>simp [argBest,nA]
 | k+1,h=>by
   have ih:=vk ns k (by lia);have e:ns[k+1]? = some (ns.getD (k+1) 0):=by rw [eN,aw h];rfl
   have e2:ns.take (k+1+1) = ns.take (k+1)++[ns.getD (k+1) 0]:=by rw [FL,e];rfl
   rw [e2,zT (by cases ns with
    | nil=>cases h
    | cons _ _=>simp),<- ih]
   show ns.getD (if decide (ns.getD (k+1) 0 > ns.getD (argBest (fun i j=>decide (ns.getD i 0 > ns.getD j 0)) k) 0) = true then k+1 else argBest (fun i j=>decide (ns.getD i 0 > ns.getD j 0)) k) 0 = _;by_cases hb:ns.getD (k+1) 0 > ns.getD (argBest (fun i j=>decide (ns.getD i 0 > ns.getD j 0)) k) 0
   . rw [if_pos (decide_eq_true hb),if_pos hb]
   . rw [if_neg (by simpa using hb),if_neg hb]
theorem Fi {prog:Program} {w:World} {A:Around} {E:Value->Shared->Prop} {s:Shared} {t b:Addr} {ws:List Value} {Q:Value->Shared->Prop} (ht:IsTup s.heap t ([]:List Value).toArray) (hb:IsTup s.heap b ws.toArray) (h:Q (.ref b) s):wpAny (model prog w) A (binaryOp .Add (.ref t) (.ref b)) Q E s:=by
 obtain ⟨⟨cls,dd,data,sl⟩,ho,hc,n,hd⟩:=id ht;obtain ⟨⟨cls2,dd2,data2,sl2⟩,ho2,hc2,n2,hd2⟩:=id hb;simp only at hc hd hc2 hd2;subst hc hd hc2 hd2;exact FG ⟨_,ho,rfl⟩ ⟨_,ho2,rfl⟩ jP nh PySem.F.slot_tuple_add PySem.F.entry_tuple_add (PySem.F.args_tuple_add_2 _ _) (tuple_addW0 t b _ ws.toArray n n2 dd dd2 sl sl2 rfl) ⟨ho,ho2,h⟩
theorem HS:OpR X (binaryOp .Add) (fun x y H Q=>∃ a b ys,x = .ref a/\y = .ref b/\SqT X.K H a []/\SqT X.K H b ys/\Q (.ref b) H):=by
 intro pins s σ H x y v u Q I rx ry h;obtain ⟨a,b,ys,rfl,rfl,ha,hb,q⟩:=h;cases rx;cases ry;obtain ⟨its,r1,p1,_⟩:=I.tuple ha;obtain ⟨its2,r2,p2,_⟩:=I.tuple hb;cases r1;exact Fi p1 p2 ⟨.ref b,H,I,rfl,q⟩
noncomputable def tyName:Blt->Option String
 | .isList=>some "list"
 | _=>none
theorem LV {pins:List (Addr × Obj)} {σ:L2.St} {H:Hp} {s:Shared} {F:Addr->Prop} (I:Inv X pins σ H s) {ds:List D} {v:V} {u:Value} (h:dt X.K H F (.lst ds) v) (r:RelV v u):∃ l its,u = .ref l/\s.heap.IsList l its:=by
 rcases h with h | ⟨a,xs,_,_,rfl,h1,_⟩
 . unfold Rel at h;obtain ⟨a,xs,rfl,h1,_⟩:=h;obtain ⟨its,_,p,_⟩:=I.list h1.sq;exact ⟨a,_,r,p.isList⟩
 . obtain ⟨its,_,p,_⟩:=I.list (.inl (.inl h1));exact ⟨a,_,r,p.isList⟩
theorem LU {pins:List (Addr × Obj)} {σ:L2.St} {H:Hp} {s:Shared} {F:Addr->Prop} (I:Inv X pins σ H s) {ds:List D} {v:V} {u:Value} (h:dt X.K H F (.tup ds) v) (r:RelV v u):∃ l its,u = .ref l/\s.heap.IsTuple l its:=by
 rcases h with h | ⟨a,xs,_,e,_⟩
 . unfold Rel at h;obtain ⟨a,xs,rfl,h1,_⟩:=h;obtain ⟨its,_,p,_⟩:=I.tuple h1;exact ⟨a,_,r,p⟩
 . cases e
theorem Fj {f:Blt} {T:String} (hT:tyName f = some T):cm X (.builtin "isinstance") (fun xs H Q=>∃ F d x b,dt X.K H F d x/\xs = [x,.ty T]/\ju f [d] = some (.bl b)/\Q (.bl b) H):=by
 intro pins s σ H xs us Q I r h;obtain ⟨F,d,x,b,hr,rfl,hb,q⟩:=h;obtain ⟨u,w',rfl,ru,rw'⟩:=vals2 r;cases (show w' = Value.type T from rw');have fin:∀ tk,EP X pins σ Q (.bool b) { s with toks:=tk }:=fun tk=>⟨.bl b,H,I.tok tk,rfl,q⟩
 cases d with
 | non=>have rd:=eO I hr ru (by unfold dep;lia);unfold RdV at rd;subst rd;cases f<;>simp [tyName] at hT<;>subst hT<;>simp [ju,fS] at hb<;>subst hb<;>exact PySem.W.kia_one PySem.W.kitx_none I.kIn True.intro rfl (fun z=>nomatch z) fin
 | bl y=>have rd:=eO I hr ru (by unfold dep;lia);unfold RdV at rd;subst rd;cases f<;>simp [tyName] at hT<;>subst hT<;>simp [ju,fS] at hb<;>subst hb<;>exact PySem.W.kia_one PySem.W.kitx_bool I.kIn True.intro rfl (fun z=>nomatch z) fin
 | int y=>have rd:=eO I hr ru (by unfold dep;lia);unfold RdV at rd;obtain ⟨t,rfl⟩:=rd;cases f<;>simp [tyName] at hT<;>subst hT<;>simp [ju,fS] at hb<;>subst hb<;>exact PySem.W.kia_one PySem.W.kitx_int I.kIn True.intro rfl (fun z=>nomatch z) fin
 | str y=>have rd:=eO I hr ru (by unfold dep;lia);unfold RdV at rd;obtain ⟨t,rfl⟩:=rd;cases f<;>simp [tyName] at hT<;>subst hT<;>simp [ju,fS] at hb<;>subst hb<;>exact PySem.W.kia_one PySem.W.kitx_str I.kIn True.intro rfl (fun z=>nomatch z) fin
 | lst y =>
   obtain ⟨l,its,rfl,⟨o,h1,h2,_⟩⟩:=LV I hr ru
   cases f<;>simp [tyName] at hT<;>subst hT<;>simp [ju,fS] at hb<;>subst hb<;>exact PySem.W.kia_one PySem.W.kitx_list I.kIn ⟨o,h1,h2⟩ rfl (fun z=>nomatch z) fin
 | tup y =>
   obtain ⟨l,its,rfl,⟨o,h1,h2,_⟩⟩:=LU I hr ru
   cases f<;>simp [tyName] at hT<;>subst hT<;>simp [ju,fS] at hb<;>subst hb<;>exact PySem.W.kia_one PySem.W.kitx_tuple I.kIn ⟨o,h1,h2⟩ rfl (fun z=>nomatch z) fin
 | fn _ _=>cases f<;>simp [tyName] at hT<;>simp [ju,fS] at hb
 | dct _ _=>cases f<;>simp [tyName] at hT<;>simp [ju,fS] at hb
noncomputable def Its (x:Str):L2.It:=⟨fun i _=>i < x.cps.size,fun i H v H'=>H' = H/\∃ c,x.cps[i]? = some c/\v = .str ⟨#[c]⟩,fun i _=>i = x.cps.size⟩
theorem nv {P:Program} {w:World} {K:PySem.W.Frag} {tg:Expr} {it:Addr} {n:Nat} {PV:Nat->Value->Prop} {St:Nat->Heap->Prop} {J:L2.It} {ty:String}
 (W:∀ A:Around,A.handled = none->Walks P w A it [it] [it] n PV St) (hst:∀ i h,St i h->∃ (o:Obj) (vs:Array Value),h.get? it = some o/\o.cls = .type ty/\o.data = .fields vs)
 (hn:["enumerate","zip","dict_itemiterator","dict_reverseitemiterator","odict_iterator","itertools.zip_longest","itertools.pairwise"].contains ty = false)
 (go:∀ i H,J.go i H->i < n) (stop:∀ i H,J.stop i H->i = n) (yld:∀ i v H,PV i v->∃ x,RelV x v/\J.yld i H x H)
 (self:∀ (A:Around) (i:Nat) (s:Shared) (Q:Value->Shared->Prop) (E:Value->Shared->Prop),St i s.heap->Q (.ref it) s->wpAny (model P w) A (pyIter (.ref it)) Q E s) :
 Turn P w K tg J [it] it St where
 mem:=by simp
 obj:=fun i h st b hb=>by
  have e:b = it:=by simpa using hb
  subst e;obtain ⟨o,vs,e,c,d⟩:=hst i h st;exact ⟨o,e,fun v z=>by rw [d] at z;cases z⟩
 keep:=fun i h h' st k=>(W { } rfl).frame i h h' st k
 item:=by
  intro X hP hw hK hc i pins s σ H E I hf st hg;subst hP hw hK;obtain ⟨f0,f1,f2,f3,f4,f5⟩:=hf it (by simp);refine (W X.A (I.ok.hd hc)).item i s _ _ (go i H hg) st fun v h' tk hv st' kk=>?_;have I1:Inv X pins σ H { s with heap:=h',toks:=tk }:=I.turned (fun b o hb e=>kk b o (by simpa using hb) e) f0 f1 f3 f4 f5;obtain ⟨o,vs,e,c,d⟩:=hst _ _ st';obtain ⟨x,r,y⟩:=yld i v H hv;exact ⟨v,rfl,yM (s:={ s with heap:=h',toks:=tk }) e c d hn ⟨x,H,I1,r,y,st',fun b hb=>(hf b hb).1⟩⟩
 done:=by
  intro X hP hw hK hc i pins s σ H E I hf st hg;subst hP hw hK;obtain ⟨f0,f1,f2,f3,f4,f5⟩:=hf it (by simp);have e:=stop i H hg;subst e;exact (W X.A (I.ok.hd hc)).done s _ _ st fun h' tk kk=>⟨rfl,I.turned (fun b o hb e=>kk b o (by simpa using hb) e) f0 f1 f3 f4 f5⟩
 self:=self
theorem Cp {P:Program} {w:World} {K:PySem.W.Frag} {tg:Expr} (it:Addr) (x:Str) (t:Tok):Turn P w K tg (Its x) [it] it (fun i h=>h.IsStrIter it (strIterType x) x t i):=by
 unfold strIterType;split
 . exact nv (ty:="str_ascii_iterator") (fun A hA=>Walks.strAscii hA it x t) (fun i h ⟨o,e,c,d⟩=>⟨o,_,e,c,d⟩) (by decide) (fun i H z=>z) (fun i H z=>z) (fun i v H ⟨c,u,h1,h2⟩=>⟨.str ⟨#[c]⟩,⟨u,h2⟩,rfl,c,h1,rfl⟩) fun _ _ _ _ _ st h=>wpAny_pyIter_striter_ascii st h
 . exact nv (ty:="str_iterator") (fun A hA=>Walks.strWide hA it x t) (fun i h ⟨o,e,c,d⟩=>⟨o,_,e,c,d⟩) (by decide) (fun i H z=>z) (fun i H z=>z) (fun i v H ⟨c,u,h1,h2⟩=>⟨.str ⟨#[c]⟩,⟨u,h2⟩,rfl,c,h1,rfl⟩) fun _ _ _ _ _ st h=>wpAny_pyIter_striter_wide st h
end
end PP
end
section
namespace PP
open PySem L2 PyProof.Rows PySem.SeqAt PySem.Calls
noncomputable def Kept (P:Nat->Value->Prop) (bt:Nat->Nat->Bool):Nat->List Value->Prop
 | 0,l=>l = []
 | j+1,l=>∃ v,l = [v,v]/\P (argBest bt j) v
noncomputable def Given (P:Nat->Value->Prop) (bt:Nat->Nat->Bool) (d:Value):Nat->Value->Prop
 | 0,v=>v = d
 | j+1,v=>P (argBest bt j) v
section
variable {prog:Program} {w:World} {A:Around} {R:Result->Shared->Prop} {I:Addr} {fp wr:List Addr} {n:Nat} {P:Nat->Value->Prop} {St:Nat->Heap->Prop}
theorem sk:(toString "max"++toString ".loop":String) = "max.loop":=by decide
theorem Ia {d:Value} (W:Walks prog w A.in1 I fp wr n P St) {bt:Nat->Nat->Bool} (hcmp:CmpOf prog w A.in1 .Gt P bt) {S:Addr} (hSf:S∉fp):∀ (k j:Nat) (s:Shared) (l:List Value) (c:Nat),j+k = n->St j s.heap->Kept P bt j l ->
 s.heap.get? S = some { cls:=.type "list",dict:=none,data:=.seq l.toArray c,slots := #[] } ->
 (∀ v h' tk,Given P bt d n v->(∀ b o,b∉wr->b≠S->s.heap.get? b = some o->h'.get? b = some o)->R (.ok (.ret v)) { s with heap:=h',toks:=tk }) ->
 codeAny (model prog w) A (.builtin "max.loop" ⟨[.ref I,.none,.ref S],[(("default":Str),d)]⟩) R s:=by
 have hSw:S∉wr:=fun h=>hSf (W.sub _ h);have up:∀ {h:Heap} {f:Obj->Obj} {b:Addr} {o:Obj},b≠S->h.get? b = some o->(h.update S f).get? b = some o:=fun hb e=>(dq _ _ (Ne.symm hb)).trans e;intro k
 induction k with
 | zero =>
   intro j s l c hk hst hl hS hR;obtain rfl:j = n:=by lia
   refine dN F.entry_max_loop ?_;rw [dE F.plain_max_loop _];show wpAny _ A.in1 (seqItems? (.ref S) >>= _) _ _ s;refine ae (cq hS rfl ?_);show wpAny _ A.in1 (tryCatch (pyNext (.ref I)) _ >>= _) _ _ s;refine ae (xo (W.done s _ _ hst fun h' tk hk'=>?_))
   cases j with
   | zero =>
     cases hl
     exact ae (iO (ai (hR d h' tk rfl fun b o hbw _ e=>hk' b o hbw e)))
   | succ j =>
     obtain ⟨v,rfl,hv⟩:=hl;show wpAny _ A.in1 (updateSeq S (fun _ => #[]) >>= _) _ _ _
     exact ae (vx (hk' S _ hSw hS) rfl (ae (gO (ai (hR v _ tk hv fun b o hbw hbS e=>up hbS (hk' b o hbw e))))))
 | succ k ih =>
   intro j s l c hk hst hl hS hR;refine dN F.entry_max_loop ?_;rw [dE F.plain_max_loop _];show wpAny _ A.in1 (seqItems? (.ref S) >>= _) _ _ s;refine ae (cq hS rfl ?_);show wpAny _ A.in1 (tryCatch (pyNext (.ref I)) _ >>= _) _ _ s;refine ae (xo (W.item j s _ _ (by lia) hst fun v h' tk hP hst' hk'=>?_));have hS':=hk' S _ hSw hS
   have again:∀ (h2:Heap) (l2:List Value) (c2:Nat),(∀ b o,b≠S->h'.get? b = some o->h2.get? b = some o)->h2.get? S = some { cls:=.type "list",dict:=none,data:=.seq l2.toArray c2,slots := #[] }->Kept P bt (j+1) l2 ->
    codeAny (model prog w) A (.builtin "max.loop" ⟨[.ref I,.none,.ref S],[(("default":Str),d)]⟩) R { s with heap:=h2,toks:=tk }:=fun h2 l2 c2 hk2 hS2 hl2 =>
    ih (j+1) _ l2 c2 (by lia) (W.frame _ _ _ hst' fun b hbf o e=>hk2 b o (fun z=>hSf (z▸hbf)) e) hl2 hS2 fun v' h'' tk'' hP' hk''=>hR v' h'' tk'' hP' fun b o hbw hbS e=>hk'' b o hbw hbS (hk2 b o hbS (hk' b o hbw e))
   cases j with
   | zero =>
     cases hl;show wpAny _ A.in1 (updateSeq S (fun _ => #[v,v]) >>= _) _ _ _;refine ae (vx hS' rfl ?_);rw [sk]
     exact ai ⟨dR F.plain_max_loop _,again _ [v,v] _ (fun b o hb e=>up hb e) (cP _ hS' rfl) ⟨v,rfl,hP⟩⟩
   | succ j =>
     obtain ⟨u,rfl,hu⟩:=hl;show wpAny _ A.in1 (tryCatch (holding [v,v] (richCompare .Gt v u >>= _)) _ >>= _) _ _ _;refine ae (xo (bN (ae (hcmp (j+1) (argBest bt j) v u _ _ _ hP hu ?_))));refine ae (bN (dn (ae (gO (ai ?_)))))
     cases hb:bt (j+1) (argBest bt j) with
     | true =>
       rw [if_pos rfl];refine ae (vx hS' rfl (ae (gO ?_)));rw [sk]
       exact ai ⟨dR F.plain_max_loop _,again _ [v,v] _ (fun b o hb e=>up hb e) (cP _ hS' rfl) ⟨v,rfl,by simp only [argBest,hb,if_true];exact hP⟩⟩
     | false =>
       rw [if_neg (by decide)];refine ae (gO ?_);rw [sk];exact ai ⟨dR F.plain_max_loop _,again _ [u,u] c (fun b o _ e=>e) hS' ⟨u,rfl,by simp only [argBest,hb,aG,if_false];exact hu⟩⟩
end
theorem LC (a d:Value):argsOk "max" ⟨[a],[(Str.ofString "default",d)]⟩:=by unfold argsOk;kernel_rfl
theorem pW {prog:Program} {w:World} {A:Around} {E:Value->Shared->Prop} {s:Shared} {x d:Value} {Q:Value->Shared->Prop}
 (h:wpAny (model prog w) A.in1 (pyIter x) (fun it s₂=>∃ I fp wr n P St bt,it = .ref I/\Walks prog w A.in1 I fp wr n P St/\St 0 s₂.heap/\(∀ b∈fp,b < s₂.heap.objs.size)/\CmpOf prog w A.in1 .Gt P bt /\
   ∀ v h' tk,Given P bt d n v->(∀ b o,b∉wr->s₂.heap.get? b = some o->h'.get? b = some o)->Q v { s₂ with heap:=h',toks:=tk }) E s) :
 wpAny (model prog w) A (call (.builtin "max") [x] [(("default":Str),d)]) Q E s:=by
 refine PyProof.Rows.kmb_tree F.kind_max F.plain_max F.entry_max (LC x d) ?_;show wpAny _ A.in1 (Builtin.Builtins.bindParams "max" ["key","default"] 0 ⟨[],[(("default":Str),d)]⟩ >>= _) _ _ s;refine ae (fU (show Builtin.Builtins.bindParams "max" ["key","default"] 0 ⟨[],[(("default":Str),d)]⟩ = pure [none,some d] from rfl) ?_);refine ae (ai (ae (cN h (fun it s₂ h₂=>?_) fun _ _ e=>e)));obtain ⟨I,fp,wr,n,P,St,bt,rfl,W,hst,hfp,hcmp,hQ⟩:=h₂;refine ae (aS ?_);have hSf:s₂.heap.objs.size∉fp:=fun hm=>bU _ (hfp _ hm);rw [sk];refine ai ⟨dR F.plain_max_loop _,Ia W hcmp hSf n 0 _ [] _ (by lia) (W.frame _ _ _ hst fun b _ o e=>af _ e) rfl (aA _ rfl) fun v h' tk hP hk=>?_⟩;exact hQ v h' tk hP fun b o hbw e=>hk b o hbw (aC (ar e)) (af _ e)
noncomputable def JE (X:Cx) (f:Value) (ks:List Str) (r:List V->List V->Hp->VK->Prop):Prop :=
 ∀ (pins:List (Addr × Obj)) (s:Shared) (σ:L2.St) (H:Hp) (xs zs:List V) (us ws:List Value) (Q:VK),Inv X pins σ H s->Vals xs us->Vals zs ws->r xs zs H Q ->
  wpAny (model X.prog X.w) X.A (call f us (ks.zip ws)) (EP X pins σ Q) X.xe s
variable {X:Cx} [Tbs]
theorem AQ (hc:X.calm = true):JE X (.builtin "max") [Str.ofString "default"] (fun xs zs H Q=>∃ (p:Addr) (ns:List Int) (z:V),xs = [.ref p]/\zs = [z]/\SqL X.K H p (ns.map V.int)/\Q (if ns = [] then z else .int (nA ns)) H):=by
 intro pins s σ H xs zs us ws Q I r rz h;obtain ⟨p,ns,z,rfl,rfl,hq,q⟩:=h;obtain ⟨u,rfl,rx⟩:=vals1 r;obtain ⟨d,rfl,rd⟩:=vals1 rz;cases rx;obtain ⟨its,rv,pl,hz⟩:=I.list hq;have hlt:p < s.heap.objs.size:=by obtain ⟨o,e,_⟩:=pl.isList;exact ar e
 have hlen:its.toArray.size = ns.length:=by rw [az,<- rv.length,aq]
 have hval:∀ i v,its.toArray[i]? = some v->∃ t,v = Value.int (ns.getD i 0) t:=fun i v e=>tU rfl rv i v (by simpa using e);refine pW (eR pl.isList ?_)
 refine ⟨s.heap.objs.size,[s.heap.objs.size,p],[s.heap.objs.size],its.toArray.size,_,_,fun i j=>decide (ns.getD i 0 > ns.getD j 0),rfl,pZ (A:=X.A.in1) (I.ok.hd hc) s.heap.objs.size p (aC hlt) its.toArray,
  ⟨⟨_,aA _ rfl,rfl,rfl⟩,?_⟩,fun b hb=>?_,CmpOf.ints_gt (fun i=>ns.getD i 0) hval,fun v h' tk hv hk=>?_⟩
 . obtain ⟨o,e,r⟩:=pl.isList;exact ⟨o,af _ e,r⟩
 . have:b = s.heap.objs.size\/b = p:=by simpa using hb
   show b < (s.heap.push _).objs.size;rw [bf];rcases this with rfl | rfl
   . exact cU _
   . exact bc hlt
 . refine ⟨_,H,I.kept (h':=h') (t':=tk) fun b o e=>hk b o (by simp;exact aC (ar e)) (af _ e),?_,q⟩;rw [hlen] at hv
   cases ns with
   | nil=>rw [if_pos rfl];cases hv;exact rd
   | cons n ns =>
     rw [if_neg (by simp)];obtain ⟨t,rfl⟩:=hval _ _ hv;refine ⟨t,?_⟩;rw [vk (n::ns) _ (cU _),show ns.length+1 = (n::ns).length from rfl,FQ]
noncomputable def Oq (r:List V->List V->Hp->VK->Prop) (t tk:TA):TE:=fun σ H Q=>t σ H fun vs H1=>tk σ H1 fun zs H2=>r vs zs H2 Q
theorem Ao {id:String} {ks:List Str} {r:List V->List V->Hp->VK->Prop} {x:Str} {e:Expr} {es:List Expr} {kws:List Keyword} {p pos:Pos} {t tk:TA} (hc:JE X (.builtin id) ks r) (hg:Gl X x) (hm:X.mg x = none) (hv:bootBuiltins x = some (.builtin id)) (ha:PA X (e::es) t) (hkw:PK X kws tk)
 (hn:x≠"__name__") (hdb:(x == ("__debug__":Str)) = false) (he:starEach (e::es) X.env = (false,eval e X.env)::starEach es X.env) (hpl:(backTo pos (starEach es X.env)).any (·.1) = false)
 (hall:(backToKw pos (keywordEach kws X.env)).all (·.1.isSome) = true:=by rfl) (hks:(backToKw pos (keywordEach kws X.env)).filterMap (·.1) = ks:=by rfl) (hno:(backToKw pos (keywordEach kws X.env)).any (·.1.isNone) = false:=by rfl) :
 PE X (.Call (.Name x p) (e::es) kws pos) (Oq r t tk):=by
 intro pins s σ H Q I h;refine fR (lr I hg hm hv ?_ hn hdb)
 have h2:wpAny (model X.prog X.w) X.A (spliced (backTo pos (starEach (e::es) X.env))) (fun vs s₁=>wpAny (model X.prog X.w) X.A (evalAll ((backToKw pos (keywordEach kws X.env)).map (·.2)))
  (fun kvs s₂=>wpAny (model X.prog X.w) X.A (call (.builtin id) vs (((backToKw pos (keywordEach kws X.env)).filterMap (·.1)).zip kvs)) (EP X pins σ Q) X.xe s₂) X.xe s₁) X.xe s:=by
  refine thn (ha pos pins s σ H _ I h) fun us s1 zz=>?_;obtain ⟨vs,H1,I1,r1,q1⟩:=zz;refine thn (hkw pos pins s1 σ H1 _ I1 q1) fun ws s2 zz=>?_;obtain ⟨zs,H2,I2,rz,q2⟩:=zz;rw [hks];exact hc pins s2 σ H2 vs zs us ws Q I2 r1 rz q2
 refine callWith_kw h2 (by rw [he];rfl) ?_ hall hno;rw [he];show (false || (backTo pos (starEach es X.env)).any (·.1)) = false;rw [hpl];rfl
end PP
end
section
namespace PP
open PySem L2 PySem.SeqAt PyProof.Rows PySem.W
open AutoSeq1 (wpAny_loadPart')
open MeetsSeq MeetsSeq2 MeetsSeq3 SeqRoads2
variable [Tbs]
noncomputable def FC (A:Around) (s:Shared) (u v:Value) (b:Bool):Prop:=∀ (prog:Program) (w:World) (E:Value->Shared->Prop) (Q:Value->Shared->Prop),Q (.bool b) s->wpAny (model prog w) A (richCompare .Lt u v) Q E s
noncomputable def vw (A:Around) (s:Shared) (last:Bool):List (Value × Value)->Bool->Prop
 | [],b=>b = last
 | (p,q)::r,b=>∃ e,EqAt A s p q e/\if e = true then vw A s last r b else FC A s p q b
theorem vW (l m:Addr) (xs ys:Array Value) (n n2:Nat) (dd dd2:Option Addr) (sl sl2:Array (Option Value)) (b:Bool) :
 Meets (Builtin.«tuple.__lt__» ⟨[.ref l,.ref m],[]⟩)
  (fun A R s=>s.heap.get? l = some ⟨.type "tuple",dd,.seq xs n,sl⟩/\s.heap.get? m = some ⟨.type "tuple",dd2,.seq ys n2,sl2⟩ /\
    vw A.in1 s (decide (xs.size < ys.size)) (xs.toList.zip ys.toList) b/\R (.ok (.ret (.bool b))) s) :=
 .of_wp fun prog w A R s h=>by
  obtain ⟨h0,g0,d0,t0,o0⟩:=s;obtain ⟨hx,hy,hlex,hR⟩:=h;have sub:=AutoSeq1.sub_tuple_tuple
  wp_walk using kg hx,kg hy,wpAny_forIn_list _ (fun rest st s'=>st.1 = none/\s' = ⟨h0,g0,d0,t0,o0⟩/\vw A.in1 ⟨h0,g0,d0,t0,o0⟩ (decide (xs.size < ys.size)) rest b) _
  case turn =>
   rintro ⟨y,x⟩ rest st s' ⟨hst,rfl,e,he,hr⟩;refine ae (he prog w _ _ ?_)
   cases e with
   | true =>
     rw [if_pos rfl] at hr
     wp_walk
     exact ⟨rfl,rfl,hr⟩
   | false =>
     rw [if_neg ah] at hr;have hr':∀ {Q:Value->Shared->Prop} {E:Value->Shared->Prop},Q (.bool b) ⟨h0,g0,d0,t0,o0⟩->wpAny (model prog w) A.in1 (richCompare .Lt y x) Q E ⟨h0,g0,d0,t0,o0⟩:=fun {Q E} h=>hr prog w E Q h
     wp_walk using hr'
     exact ⟨_,rfl,hR⟩
  case fin =>
   rintro ⟨b1,b2⟩ s' ⟨hst,rfl,hl⟩;simp only at hst;subst hst;have hl:b = decide (xs.size < ys.size):=hl
   wp_walk
   refine ⟨_,rfl,?_⟩;have:Builtin.Tuple.tupleCompareSizes .Lt xs.size ys.size = .bool b:=by rw [hl];rfl
   rw [this];exact hR
  case h=>exact ⟨rfl,rfl,hlex⟩
theorem FC.tuples {A:Around} {s:Shared} {l m:Addr} {xs ys:Array Value} {b:Bool} (hx:s.heap.IsTuple l xs) (hy:s.heap.IsTuple m ys) (hu:A.units < cLine) (h:vw A.in1 s (decide (xs.size < ys.size)) (xs.toList.zip ys.toList) b):FC A s (.ref l) (.ref m) b:=by
 intro prog w E Q q;obtain ⟨⟨c1,d1,t1,s1⟩,e1,k1,n1,f1⟩:=hx;obtain ⟨⟨c2,d2,t2,s2⟩,e2,k2,n2,f2⟩:=hy;have k1:c1 = _:=k1;have f1:t1 = _:=f1;have k2:c2 = _:=k2;have f2:t2 = _:=f2;subst k1 f1 k2 f2;have nn:Value.bool b≠Value.notImplemented:=fun z=>nomatch z;exact richCompare_meets_room (op:=.Lt) ⟨_,e1,rfl⟩ ⟨_,e2,rfl⟩ F.slot_tuple_lt F.entry_tuple_lt (F.args_tuple_lt_2 _ _) (vW l m xs ys n1 n2 d1 d2 s1 s2 b) ⟨e1,e2,h,(show Value.bool b≠Value.notImplemented/\Q (.bool b) s from ⟨nn,q⟩)⟩ hu
mutual
theorem wN:∀ (a b:D) (A:Around) (s:Shared) (u v:Value) (k:Bool),RdV s.heap a u->RdV s.heap b v->A.units+min (dep a) (dep b)+1 < cLine->ltD a b = some k->FC A s u v k
 | .int a,b,A,s,u,v,k,ra,rb,hu,h=>by
   cases b with
   | int b =>
     unfold ltD at h;cases h;unfold RdV at ra rb;obtain ⟨t,rfl⟩:=ra;obtain ⟨t',rfl⟩:=rb;intro prog w E Q q
     exact lt_int q
   | _=>unfold ltD at h;cases h
 | .str a,b,A,s,u,v,k,ra,rb,hu,h=>by
   cases b with
   | str b =>
     unfold ltD at h;cases h;unfold RdV at ra rb;obtain ⟨t,rfl⟩:=ra;obtain ⟨t',rfl⟩:=rb;intro prog w E Q q
     exact lt_str q
   | _=>unfold ltD at h;cases h
 | .tup a,b,A,s,u,v,k,ra,rb,hu,h=>by
   cases b with
   | tup b =>
     unfold ltD at h;unfold RdV at ra rb;obtain ⟨l,xs,rfl,h1,h2⟩:=ra;obtain ⟨m,ys,rfl,k1,k2⟩:=rb;have n1:xs.size = a.length:=by simpa using h2.length
     have n2:ys.size = b.length:=by simpa using k2.length
     refine FC.tuples h1 k1 (by omega) ?_;rw [n1,n2];unfold dep at hu
     exact uQ a b A.in1 s xs.toList ys.toList k h2 k2 (by show A.units+1+_+1 < _;omega) h
   | _=>unfold ltD at h;cases h
 | .non,b,A,s,u,v,k,ra,rb,hu,h=>by cases b<;>(unfold ltD at h;cases h)
 | .bl x,b,A,s,u,v,k,ra,rb,hu,h=>by cases b<;>(unfold ltD at h;cases h)
 | .lst x,b,A,s,u,v,k,ra,rb,hu,h=>by cases b<;>(unfold ltD at h;cases h)
 | .fn x y,b,A,s,u,v,k,ra,rb,hu,h=>by cases b<;>(unfold ltD at h;cases h)
 | .dct x y,b,A,s,u,v,k,ra,rb,hu,h=>by cases b<;>(unfold ltD at h;cases h)
theorem uQ:∀ (as bs:List D) (A:Around) (s:Shared) (us vs:List Value) (k:Bool),RdL s.heap as us->RdL s.heap bs vs->A.units+min (bM as) (bM bs)+1 < cLine->dJ as bs = some k->vw A s (decide (as.length < bs.length)) (us.zip vs) k
 | [],[],A,s,us,vs,k,ra,rb,hu,h=>by
   unfold RdL at ra rb;subst ra;subst rb;unfold dJ at h;cases h
   rfl
 | [],y::ys,A,s,us,vs,k,ra,rb,hu,h=>by
   unfold RdL at ra;subst ra;unfold dJ at h;cases h;show true = decide _
   simp
 | x::xs,[],A,s,us,vs,k,ra,rb,hu,h=>by
   unfold RdL at rb;subst rb;unfold dJ at h;cases h;rw [Bj];show false = decide _
   simp
 | x::xs,y::ys,A,s,us,vs,k,ra,rb,hu,h=>by
   unfold RdL at ra rb;obtain ⟨u,us',rfl,ra1,ra2⟩:=ra;obtain ⟨v,vs',rfl,rb1,rb2⟩:=rb;unfold dJ at h;unfold bM at hu;refine ⟨eqD x y,oM x y A s u v ra1 rb1 (cV (aY (fk (mm1 _ _ _ _) _) (eX _ 1)) hu),?_⟩
   cases e:eqD x y with
   | true =>
     rw [e,if_pos rfl] at h;rw [if_pos rfl];have:=uQ xs ys A s us' vs' k ra2 rb2 (cV (gq (fk (mm2 _ _ _ _) _) 1) hu) h;have e1:decide ((x::xs).length < (y::ys).length) = decide (xs.length < ys.length):=by simp
     rw [e1]
     exact this
   | false =>
     rw [e,if_neg ah] at h;rw [if_neg ah];exact wN x y A s u v k ra1 rb1 (cV (gq (fk (mm1 _ _ _ _) _) 1) hu) h
end
theorem Lq {X:Cx} (hu:X.A.units+200 < cLine):OpR X (compareOp .Lt) (fun x y H Q=>∃ F a b k,dt X.K H F a x/\dt X.K H F b y/\jN a b = some k/\Q (.bl k) H):=by
 intro pins s σ H x y v u Q I rx ry h;obtain ⟨F,a,b,k,ha,hb,e,q⟩:=h;unfold jN at e;split at e
 . exact wN a b X.A s v u k (eO I ha rx (by omega)) (eO I hb ry (by omega)) (by omega) e X.prog X.w X.xe _ ⟨.bl k,H,I,rfl,q⟩
 . cases e
theorem HR {X:Cx}:OpR X (binaryOp .Add) (fun x y H Q=>∃ l b xs zs,x = .ref l/\y = .ref b/\LsB X.K H l xs/\LsB X.K H b zs/\xs.length+zs.length<=sizeLine/\∀ p,H p = none->Q (.ref p) (upd H p (.lst (xs++zs)))):=by
 intro pins s σ H x y v u Q I rx ry h;obtain ⟨l,b,xs,zs,rfl,rfl,h1,h2,hz,q⟩:=h;cases rx;cases ry;obtain ⟨i1,n1,r1,e1,z1⟩:=h1.obj I;obtain ⟨i2,n2,r2,e2,z2⟩:=h2.obj I;have l1:=r1.length;have l2:=r2.length;refine PySem.P.add_list e1 e2 ?_ (by simp only [az];omega);rw [show i1.toArray++i2.toArray = (i1++i2).toArray by simp];exact ⟨.ref _,_,I.lnew (t':=s.toks) (r1.append r2) (by rw [au];omega),rfl,q _ I.fresh⟩
end PP
end
section
namespace PP
open PySem PySem.W PyProof.Rows
noncomputable def inR {α:Type} (lt:Nat->Nat->Bool) (n:Nat):KasT α->Prop
 | .ret _=>True
 | .ask i j k=>i < n/\j < n/\inR lt n (k (lt i j))
theorem ij {α β:Type} {lt:Nat->Nat->Bool} {n:Nat} {f:α->KasT β}:∀ {t:KasT α},inR lt n t->inR lt n (f (ans lt t))->inR lt n (t.bind f)
 | .ret a,_,h=>h
 | .ask i j k,⟨h1,h2,h3⟩,h=>⟨h1,h2,ij h3 h⟩
theorem gG {α:Type} {lt:Nat->Nat->Bool} {n:Nat} {c:Prop} [Decidable c] {a b:KasT α} (h1:inR lt n a) (h2:inR lt n b):inR lt n (if c then a else b):=by
 by_cases h:c
 . rw [if_pos h];exact h1
 . rw [if_neg h];exact h2
noncomputable def All (p:Array Nat) (n:Nat):Prop:=0 < n/\∀ x∈p,x < n
theorem All.at {p:Array Nat} {n:Nat} (h:All p n) (k:Nat):p.getD k 0 < n:=by
 rw [getD_eq]
 cases e:p[k]? with
 | none=>exact h.1
 | some x=>exact h.2 x (vI e)
theorem All.perm {p q:Array Nat} {n:Nat} (h:All p n) (e:q.Perm p):All q n:=⟨h.1,fun x hx=>h.2 x (e.mem_iff.mp hx)⟩
section
variable {lt:Nat->Nat->Bool} {n:Nat}
theorem xl {p:Array Nat} (h:All p n):∀ f k,inR lt n (kas_asc p f k)
 | 0,k=>trivial
 | f+1,k=>⟨h.at _,h.at _,gG trivial (xl h f (k+1))⟩
theorem mX:∀ (f:Nat) (p:Array Nat) (k q:Nat),All p n->inR lt n (kas_desc f p k q)/\All (ans lt (kas_desc f p k q)).1 n
 | 0,p,k,q,h=>⟨trivial,h⟩
 | f+1,p,k,q,h=>by
   unfold kas_desc;have r1:=mX f (kas_rev p (k - (q+1)) k) (k+1) 0 (h.perm (dS _ _ _));have r2:=mX f p (k+1) 0 h;have r3:=mX f p (k+1) (q+1) h;refine ⟨⟨h.at _,h.at _,gG (gG r1.1 r2.1) ⟨h.at _,h.at _,gG trivial r3.1⟩⟩,?_⟩;rw [eL]
   cases lt (p.getD k 0) (p.getD (k - 1) 0) with
   | true =>
     rw [if_pos rfl];by_cases hq:q > 0
     . rw [if_pos hq];exact r1.2
     . rw [if_neg hq];exact r2.2
   | false =>
     rw [if_neg ah,eL]
     cases lt (p.getD (k - 1) 0) (p.getD k 0) with
     | true=>rw [if_pos rfl];exact h
     | false=>rw [if_neg ah];exact r3.2
theorem tY {p:Array Nat} (h:All p n) (a m:Nat):inR lt n (kas_tail3 a m p)/\All (ans lt (kas_tail3 a m p)).2 n:=by
 unfold kas_tail3;have h':=h.perm (dS p 0 a);refine ⟨ij (xl h' _ _) trivial,?_⟩;rw [dD,gp];exact h'
theorem lO {p:Array Nat} (h:All p n) (a m:Nat):inR lt n (kas_descPart a m p)/\All (ans lt (kas_descPart a m p)).2 n:=by
 unfold kas_descPart;obtain ⟨d1,d2⟩:=mX (lt:=lt) (m - (a+1)) p (a+1) 0 h;rw [dD];generalize hr:ans lt (kas_desc (m - (a+1)) p (a+1) 0) = r at d2;have t1:=tY (lt:=lt) (d2.perm (dS r.1 (r.2.1 - (r.2.2+1)) r.2.1)) r.2.1 m;have t2:=tY (lt:=lt) d2 r.2.1 m;refine ⟨ij d1 (by rw [hr];exact gG t1.1 t2.1),?_⟩;by_cases hq:r.2.2 > 0
 . rw [if_pos hq];exact t1.2
 . rw [if_neg hq];exact t2.2
theorem Fc {p:Array Nat} (h:All p n) (m:Nat):inR lt n (kas_count m p)/\All (ans lt (kas_count m p)).2 n:=by
 unfold kas_count;rw [dD];have a1:=xl (lt:=lt) h (m - 1) 1;generalize hk:ans lt (kas_asc p (m - 1) 1) = k;have t1:=lO (lt:=lt) (h.perm (dS p 0 k)) k m;have t2:=lO (lt:=lt) h k m;refine ⟨ij a1 (by rw [hk];exact gG trivial (gG ⟨h.at _,h.at _,gG trivial t1.1⟩ t2.1)),?_⟩;by_cases e:(k == m) = true
 . rw [if_pos e];exact h
 . rw [if_neg e];by_cases h1:k > 1
   . rw [if_pos h1,eL]
     cases lt (p.getD 0 0) (p.getD (k - 1) 0) with
     | true=>rw [if_pos rfl];exact h
     | false=>rw [if_neg ah];exact t1.2
   . rw [if_neg h1];exact t2.2
theorem nZ {p:Array Nat} (h:All p n) (k:Nat):∀ f l r,inR lt n (kas_place p k f l r)
 | 0,l,r=>trivial
 | f+1,l,r=>by
   unfold kas_place;exact gG trivial ⟨h.at _,h.at _,gG (nZ h k f _ _) (nZ h k f _ _)⟩
theorem Fo:∀ (f:Nat) (p:Array Nat) (k:Nat),All p n->inR lt n (kas_bin f p k)
 | 0,p,k,h=>trivial
 | f+1,p,k,h=>by
   unfold kas_bin;exact ij (nZ h k _ _ _) (Fo f _ _ (h.perm (Jb _ _ _)))
theorem xK (hn:0 < n):inR lt n (kas_sort n):=by
 unfold kas_sort;have h:All (List.toArray (List.range n)) n:=⟨hn,fun x hx=>by simpa using hx⟩;obtain ⟨c1,c2⟩:=Fc (lt:=lt) h n;exact ij c1 (gG (Fo _ _ _ c2) trivial)
end
theorem yC {α:Type} {prog:Program} {w:World} {A:Around} {κ:SortKind} {vs:List Value} {lt:Nat->Nat->Bool} {n:Nat} {s:Shared} {Q:α->Shared->Prop}
 (ha:∀ i j,i < n->j < n->∀ C:Bool->Shared->Prop,C (lt i j) s->kas_ask prog w A κ vs i j C s):∀ t:KasT α,inR lt n t->Q (ans lt t) s->t.kasWp (kas_ask prog w A κ vs) Q s
 | .ret a,_,q=>q
 | .ask i j k,⟨h1,h2,h3⟩,q=>ha i j h1 h2 _ (yC ha (k (lt i j)) h3 q)
noncomputable def ft (lt:Nat->Nat->Bool) (vs:List Value):List Value:=if vs.length < 2 then vs else (ans lt (kas_sort vs.length)).toList.map fun i=>vs.getD i Value.none
section
variable {prog:Program} {w:World} {A:Around} {E:Value->Shared->Prop} {s:Shared}
theorem kD {a:Addr} {vs:List Value} {n:Nat} {lt:Nat->Nat->Bool} {κ:SortKind} {P:PySem.Fin->Shared->Prop} (ho:s.heap.get? a = some (seqObj "list" vs.toArray n)) (h64:vs.length < 64)
 (hlen:(ft lt vs).length = vs.length)
 (hk:2<=vs.length->∀ h':Heap,(∀ b o,b≠a->s.heap.get? b = some o->h'.get? b = some o)->∀ C:SortKind->Shared->Prop,C κ { s with heap:=h' }->wpAny (model prog w) A (keyKind' vs.toArray) C (fun _ _=>False) { s with heap:=h' })
 (ha:∀ h':Heap,(∀ b o,b≠a->s.heap.get? b = some o->h'.get? b = some o)->∀ i j,i < vs.length->j < vs.length->∀ C:Bool->Shared->Prop,C (lt i j) { s with heap:=h' }->kas_ask prog w A κ vs i j C { s with heap:=h' })
 (q:P (.done (.ret .none)) { s with heap:=sortedHeap s.heap a vs (ft lt vs).toArray }):wpAny (model prog w) A (Builtin.«list.sort» ⟨[.ref a],[]⟩) P E s:=by
 have la:a < s.heap.objs.size:=ar ho;obtain ⟨e1,o1⟩:∃ e1,(s.heap.update a (Obj.mapSeq fun _=>(#[]:Array Value))).get? a = some (seqObj "list" #[] e1):=⟨_,vz ho fun _ => #[]⟩;have o3:(((s.heap.update a (Obj.mapSeq fun _=>(#[]:Array Value))).push (seqObj "tuple" vs.toArray 0)).push (seqObj "list" #[] 0)).get? a = some (seqObj "list" #[] e1):=af _ (af _ o1)
 have keep:∀ b o,b≠a->s.heap.get? b = some o->(((s.heap.update a (Obj.mapSeq fun _=>(#[]:Array Value))).push (seqObj "tuple" vs.toArray 0)).push (seqObj "list" #[] 0)).get? b = some o:=fun b o hb e =>
  af _ (af _ ((dq _ _ (Ne.symm hb)).trans e))
 have sz:(ft lt vs).toArray.size<=sizeLine:=by rw [az,hlen,bP];lia
 rw [list_sort_plain];refine ae (listItems_at ho rfl (ae (jw ho rfl ?_ (by rw [az,bP];lia) (bC _))));refine ae (Ja o1 rfl (ae (wpAny_newTuple ?_ (by show vs.length<=_;rw [bP];lia))));refine ae (AX (bN ?_) (bC _));show wpAny (model prog w) A _ P E { s with heap:=((s.heap.update a (Obj.mapSeq fun _=>(#[]:Array Value))).push (seqObj "tuple" vs.toArray 0)).push (seqObj "list" #[] 0) };dsimp only;by_cases h2:vs.toArray.size < 2
 . have hv:vs.length < 2:=by simpa using h2
   have eo:ft lt vs = vs:=by unfold ft;rw [if_pos hv]
   rw [if_pos h2,if_pos h2];refine ae (ai ?_);rw [StateT.run_pure];refine ae (ai ?_);dsimp only;refine ae (Ja o3 rfl ?_)
   have em:(arrOf (SortSt.mk' general' (vs.toArray.zip vs.toArray) #[] 7 none)).map (·.2) = (ft lt vs).toArray:=by
    rw [eo];show (vs.toArray.zip vs.toArray).map (·.2) = vs.toArray;apply Array.ext
    . simp
    . intro i h1 h2;simp
   rw [em];refine ae (jw o3 rfl ?_ (bC _) (FO sz));simp only [bne_self_eq_false,aG,if_false];exact ai q
 . have hv:¬ vs.length < 2:=by simpa using h2
   have eo:ft lt vs = (ans lt (kas_sort vs.length)).toList.map fun i=>vs.getD i Value.none:=by unfold ft;rw [if_neg hv]
   rw [if_neg h2,if_neg h2];refine ae (cN (hk (by lia) _ keep (fun κ' s'=>κ' = κ/\s' = { s with heap:=((s.heap.update a (Obj.mapSeq fun _=>(#[]:Array Value))).push (seqObj "tuple" vs.toArray 0)).push (seqObj "list" #[] 0) }) ⟨rfl,rfl⟩) (fun κ' s0 hk=>?_) fun _ _ x=>x.elim);obtain ⟨rfl,rfl⟩:=hk
   refine ae (cN (kat_run (Q:=fun st' s'=>s' = { s with heap:=((s.heap.update a (Obj.mapSeq fun _=>(#[]:Array Value))).push (seqObj "tuple" vs.toArray 0)).push (seqObj "list" #[] 0) }/\∃ p:Array Nat,arrOf st' = p.map (kas_item (vs.toArray.zip vs.toArray))/\failedOf st' = none/\p = ans lt (kas_sort vs.length))
    (G:=fun p s'=>s' = { s with heap:=((s.heap.update a (Obj.mapSeq fun _=>(#[]:Array Value))).push (seqObj "tuple" vs.toArray 0)).push (seqObj "list" #[] 0) }/\p = ans lt (kas_sort vs.length)) rfl (by lia) h64 (fun p st' s' a1 a2 a3 a4=>⟨a4.1,p,a2,a3,a4.2⟩)
    (yC (lt:=lt) (n:=vs.length) (fun i j h1 h2 C hc=>ha _ keep i j h1 h2 C hc) _ (xK (by lia)) ⟨rfl,rfl⟩)) ?_ fun _ _ e=>e)
   rintro ⟨⟨⟩,st'⟩ s' ⟨rfl,p,har,hf,rfl⟩;dsimp only;rw [kat_snds rfl har,<- eo];refine ae (Ja o3 rfl (ae (jw o3 rfl ?_ (bC _) (FO sz))));rw [hf];simp only [bne_self_eq_false,aG,if_false];exact ai q
theorem zY {l:Addr} {vs:List Value} {lt:Nat->Nat->Bool} {κ:SortKind} {Q:Value->Shared->Prop} (hl:s.heap.IsList l vs.toArray) (h64:vs.length < 64) (hlen:(ft lt vs).length = vs.length)
 (hk:2<=vs.length->∀ (A':Around) (h':Heap),A'.units<=A.units+2->(∀ b o,s.heap.get? b = some o->h'.get? b = some o)->∀ C:SortKind->Shared->Prop,C κ { s with heap:=h' }->wpAny (model prog w) A' (keyKind' vs.toArray) C (fun _ _=>False) { s with heap:=h' })
 (ha:∀ (A':Around) (h':Heap),A'.units<=A.units+2->(∀ b o,s.heap.get? b = some o->h'.get? b = some o)->∀ i j,i < vs.length->j < vs.length->∀ C:Bool->Shared->Prop,C (lt i j) { s with heap:=h' }->kas_ask prog w A' κ vs i j C { s with heap:=h' })
 (q:Q (.ref (s.heap.objs.size+1)) { s with heap:=sortedAll s.heap vs (ft lt vs).toArray }):wpAny (model prog w) A (call (.builtin "sorted") [.ref l]) Q E s:=by
 refine qV kind_sorted plain_sorted entry_sorted (args_sorted1 _) ?_;unfold Builtin.«sorted»;refine ae (m:=checkCount "sorted" 1 1 _) (ai ?_);refine ae (collect_list hl (ae (AX ?_ (by rw [bP];lia))) (by rw [bP];lia));have hs:((s.heap.push (seqObj "list" #[] 0)).update s.heap.objs.size (Obj.mapSeq (·++vs.toArray))).objs.size = s.heap.objs.size+1:=by rw [Heap.size_update,size_push']
 have hL:(((s.heap.push (seqObj "list" #[] 0)).update s.heap.objs.size (Obj.mapSeq (·++vs.toArray))).push (seqObj "list" vs.toArray 0)).get? (s.heap.objs.size+1) = some (seqObj "list" vs.toArray 0):=by
  rw [<- hs];exact aA _ rfl
 have keep:∀ b o,s.heap.get? b = some o->b≠s.heap.objs.size+1/\(((s.heap.push (seqObj "list" #[] 0)).update s.heap.objs.size (Obj.mapSeq (·++vs.toArray))).push (seqObj "list" vs.toArray 0)).get? b = some o:=fun b o e=>by
  have hlt:b < s.heap.objs.size:=ar e;exact ⟨aC (bc hlt),af _ ((dq _ _ (en hlt)).trans (af _ e))⟩
 show wpAny _ _ _ _ _ { s with heap:=((s.heap.push (seqObj "list" #[] 0)).update s.heap.objs.size (Obj.mapSeq (·++vs.toArray))).push (seqObj "list" vs.toArray 0) };rw [hs];refine ae (bN (bO slot_list_sort ⟨_,hL,rfl⟩ entry_list_sort ?body (args_list_sort _)))
 case body =>
  refine kD (lt:=lt) (κ:=κ) hL h64 hlen (fun h2 h' kp=>hk h2 _ h' ?_ fun b o e=>kp b o (keep b o e).1 (keep b o e).2) (fun h' kp=>ha _ h' ?_ fun b o e=>kp b o (keep b o e).1 (keep b o e).2) ?_
  . exact av _
  . exact av _
  . exact ⟨_,rfl,ai ⟨_,rfl,q⟩⟩
end
end PP
end
section
namespace PP
open PySem L2 PySem.SeqAt PyProof.Rows PySem.W
variable [Tbs]
section
variable {lt:Nat->Nat->Bool}
theorem jI:∀ (f:Nat) (p:Array Nat) (k q:Nat),(ans lt (kas_desc f p k q)).1.Perm p
 | 0,p,k,q=>cz _
 | f+1,p,k,q=>by
   unfold kas_desc;rw [eL]
   cases lt (p.getD k 0) (p.getD (k - 1) 0) with
   | true =>
     rw [if_pos rfl];by_cases hq:q > 0
     . rw [if_pos hq];exact (jI f _ _ _).trans (dS _ _ _)
     . rw [if_neg hq];exact jI f _ _ _
   | false =>
     rw [if_neg ah,eL]
     cases lt (p.getD (k - 1) 0) (p.getD k 0) with
     | true=>rw [if_pos rfl];exact cz _
     | false=>rw [if_neg ah];exact jI f _ _ _
theorem nC (a m:Nat) (p:Array Nat):(ans lt (kas_tail3 a m p)).2.Perm p:=by
 unfold kas_tail3;rw [dD,gp];exact dS _ _ _
theorem jU (a m:Nat) (p:Array Nat):(ans lt (kas_descPart a m p)).2.Perm p:=by
 unfold kas_descPart;rw [dD];have d:=jI (lt:=lt) (m - (a+1)) p (a+1) 0;generalize ans lt (kas_desc (m - (a+1)) p (a+1) 0) = r at d;by_cases hq:r.2.2 > 0
 . rw [if_pos hq];exact ((nC _ _ _).trans (dS _ _ _)).trans d
 . rw [if_neg hq];exact (nC _ _ _).trans d
theorem wW (m:Nat) (p:Array Nat):(ans lt (kas_count m p)).2.Perm p:=by
 unfold kas_count;rw [dD];generalize ans lt (kas_asc p (m - 1) 1) = k;by_cases e:(k == m) = true
 . rw [if_pos e];exact cz _
 . rw [if_neg e];by_cases h1:k > 1
   . rw [if_pos h1,eL]
     cases lt (p.getD 0 0) (p.getD (k - 1) 0) with
     | true=>rw [if_pos rfl];exact cz _
     | false=>rw [if_neg ah];exact (jU _ _ _).trans (dS _ _ _)
   . rw [if_neg h1];exact jU _ _ _
theorem vj:∀ (f:Nat) (p:Array Nat) (k:Nat),(ans lt (kas_bin f p k)).Perm p
 | 0,p,k=>cz _
 | f+1,p,k=>by
   unfold kas_bin;rw [dD];exact (vj f _ _).trans (Jb _ _ _)
theorem zZ (n:Nat):(ans lt (kas_sort n)).Perm (List.toArray (List.range n)):=by
 unfold kas_sort;rw [dD];have c:=wW (lt:=lt) n (List.toArray (List.range n));generalize ans lt (kas_count n (List.toArray (List.range n))) = r at c;by_cases h:r.1 < n
 . rw [if_pos h];exact (vj _ _ _).trans c
 . rw [if_neg h];exact c
theorem fL (n:Nat):(ans lt (kas_sort n)).toList.Perm (List.range n):=by
 have:=(zZ (lt:=lt) n).toList;simpa using this
end
mutual
theorem RdV.keep {h h':Heap} (k:∀ b o,h.get? b = some o->h'.get? b = some o):∀ (d:D) (u:Value),RdV h d u->RdV h' d u
 | .non,u,r=>by unfold RdV at r ⊢;exact r
 | .bl _,u,r=>by unfold RdV at r ⊢;exact r
 | .int _,u,r=>by unfold RdV at r ⊢;exact r
 | .str _,u,r=>by unfold RdV at r ⊢;exact r
 | .lst ds,u,r=>by
   unfold RdV at r ⊢;obtain ⟨a,its,e,⟨o,h1,h2⟩,h3⟩:=r
   exact ⟨a,its,e,⟨o,k _ _ h1,h2⟩,RdL.keep k ds _ h3⟩
 | .tup ds,u,r=>by
   unfold RdV at r ⊢;obtain ⟨a,its,e,⟨o,h1,h2⟩,h3⟩:=r
   exact ⟨a,its,e,⟨o,k _ _ h1,h2⟩,RdL.keep k ds _ h3⟩
 | .fn _ _,u,r=>by unfold RdV at r;exact r.elim
 | .dct _ _,u,r=>by unfold RdV at r;exact r.elim
theorem RdL.keep {h h':Heap} (k:∀ b o,h.get? b = some o->h'.get? b = some o):∀ (ds:List D) (us:List Value),RdL h ds us->RdL h' ds us
 | [],us,r=>by unfold RdL at r ⊢;exact r
 | d::ds,us,r=>by
   unfold RdL at r ⊢;obtain ⟨w,ws,e,r1,r2⟩:=r;exact ⟨w,ws,e,RdV.keep k d w r1,RdL.keep k ds ws r2⟩
end
theorem RdL.nth {h:Heap}:∀ {ds:List D} {us:List Value} (i:Nat),RdL h ds us->i < ds.length->RdV h (ds.getD i .non) (us.getD i Value.none)
 | [],us,i,r,hi=>by simp at hi
 | d::ds,us,i,r,hi=>by
   unfold RdL at r;obtain ⟨w,ws,rfl,r1,r2⟩:=r
   cases i with
   | zero=>exact r1
   | succ i=>exact RdL.nth i r2 (by simpa using hi)
section
variable {prog:Program} {w:World} {s:Shared}
theorem Jq {A:Around} {E:Value->Shared->Prop} {a b:D} {u v:Value} {k:Bool} {Q:Bool->Shared->Prop} (ra:RdV s.heap a u) (rb:RdV s.heap b v) (hk:(bo a = 1/\bo b = 1)\/(bo a = 2/\bo b = 2)) (h:ltD a b = some k) (q:Q k s):wpAny (model prog w) A (oneLt' true u v) Q E s:=by
 rcases hk with ⟨h1,h2⟩ | ⟨h1,h2⟩
 . cases a<;>first | (simp [bo] at h1;done) | skip
   . cases b<;>first | (simp [bo] at h2;done) | skip
     . unfold RdV at ra rb;obtain ⟨t,rfl⟩:=ra;obtain ⟨t',rfl⟩:=rb;unfold ltD at h;cases h;exact oneLt_str q
     . rename_i l;cases l with
       | nil=>simp [bo] at h2
       | cons x r=>cases x<;>simp [bo] at h2
   . rename_i l;cases l with
     | nil=>simp [bo] at h1
     | cons x r=>cases x<;>simp [bo] at h1
 . cases a<;>first | (simp [bo] at h1;done) | skip
   . cases b<;>first | (simp [bo] at h2;done) | skip
     . unfold RdV at ra rb;obtain ⟨t,rfl⟩:=ra;obtain ⟨t',rfl⟩:=rb;unfold ltD at h;cases h;exact oneLt_int q
     . rename_i l;cases l with
       | nil=>simp [bo] at h2
       | cons x r=>cases x<;>simp [bo] at h2
   . rename_i l;cases l with
     | nil=>simp [bo] at h1
     | cons x r=>cases x<;>simp [bo] at h1
theorem uS {A:Around} {fin:Bool} {Q:Bool->Shared->Prop} {k:Bool}:∀ (as bs:List D) (us vs:List Value) (i:Nat),RdL s.heap as us->RdL s.heap bs vs->A.units+min (bM as) (bM bs)+1 < cLine->dJ as bs = some k->fin = decide (as.length < bs.length) ->
 (i = 0->∀ x y,as.head? = some x->bs.head? = some y->(bo x = 1/\bo y = 1)\/(bo x = 2/\bo y = 2))->Q k s->KatLex prog w A true fin Q (us.zip vs) i s
 | [],[],us,vs,i,ra,rb,hu,h,hf,hh,q=>by
   unfold RdL at ra rb;subst ra;subst rb;unfold dJ at h;cases h;subst hf
   exact kat_nil q
 | [],y::ys,us,vs,i,ra,rb,hu,h,hf,hh,q=>by
   unfold RdL at ra;subst ra;unfold dJ at h;cases h;have:fin = true:=by rw [hf];simp
   subst this
   exact kat_nil q
 | x::xs,[],us,vs,i,ra,rb,hu,h,hf,hh,q=>by
   unfold RdL at rb;subst rb;unfold dJ at h;cases h;have:fin = false:=by rw [hf];simp
   subst this;rw [Bj]
   exact kat_nil q
 | x::xs,y::ys,us,vs,i,ra,rb,hu,h,hf,hh,q=>by
   unfold RdL at ra rb;obtain ⟨u,us',rfl,ra1,ra2⟩:=ra;obtain ⟨v,vs',rfl,rb1,rb2⟩:=rb;unfold dJ at h;unfold bM at hu;rw [List.zip_cons_cons];refine kat_cons (oM x y A s u v ra1 rb1 (by lia) prog w _ _ ?_)
   cases e:eqD x y with
   | true =>
     rw [e,if_pos rfl] at h
     exact kat_yes (uS xs ys us' vs' (i+1) ra2 rb2 (by lia) h (by rw [hf];simp) (fun z=>by lia) q)
   | false =>
     rw [e,if_neg ah] at h;refine kat_no ?_;by_cases hi:i = 0
     . subst hi;exact Jq ra1 rb1 (hh rfl x y rfl rfl) h q
     . have e0:(true && i == 0) = false:=by simp [hi]
       rw [e0];exact kat_one u v (wN x y A s u v k ra1 rb1 (by lia) h prog w _ _ q)
end
end PP
end
section
namespace PP
open PySem
structure Ck where
 N:List Str
 sc:Scope
 fns:List (Str × List Str)
 gn:List Str
noncomputable def zQ (sc:Scope) (x:Str):Bool:=match sc.names.lookup x with
 | some .local=>true | some .cell=>true | some .free=>true | _=>false
noncomputable def LK (sc:Scope) (x:Str):Bool:=match sc.names.lookup x with
 | some .local=>true | some .cell=>true | _=>false
noncomputable def glB (sc:Scope) (x:Str):Bool:=match sc.names.lookup x with
 | some .globalImplicit=>true | _=>false
noncomputable def Ec (x:Str):Bool:=!(x == ("__debug__":Str)) && !(x == ("__classdict__":Str)) && !(x == ("__name__":Str))
noncomputable def fZ (c:Ck) (i:Nat) (x:Str):Bool:=decide (c.N[i]? = some x) && zQ c.sc x && Ec x
noncomputable def fj (c:Ck) (i:Nat) (x:Str):Bool:=decide (c.N[i]? = some x) && LK c.sc x && Ec x
noncomputable def dM (c:Ck) (x:Str):Bool:=glB c.sc x && Ec x
noncomputable def HU:Op->Operator->Bool
 | .add,.Add=>true | .sub,.Sub=>true | .mul,.Mult=>true | .mod,.Mod=>true | .fdiv,.FloorDiv=>true
 | _,_=>false
noncomputable def yU:Cop->CmpOp->Bool
 | .lt,.Lt=>true | .gt,.Gt=>true | .eq,.Eq=>true | .ne,.NotEq=>true | .isin,.In=>true | .notin,.NotIn=>true
 | _,_=>false
noncomputable def qK:Blt->Str
 | .len=>"len" | .toInt=>"int" | .toTup=>"tuple" | .toLst=>"list" | .any=>"any" | .sum=>"sum" | .sorted=>"sorted"
 | .isList=>"isinstance"
noncomputable def iq:List Str:=["len","min","max","int","str","tuple","list","dict","sum","isinstance","bool","range","sorted","set","zip","any","divmod","reversed","all"]
noncomputable def iJ:Es->Bool
 | .nil=>true
 | .cons e es=>!bJ e && iJ es
noncomputable def pM:Es->Bool
 | .nil=>true
 | .cons e es=>(!bJ e || npS es) && pM es
noncomputable def ET:Es->Nat
 | .nil=>0
 | .cons _ es=>ET es+1
noncomputable def st (x:Expr):Str:=match x with
 | .Name y _=>y
 | .Attribute _ m _=>m
 | _=>""
noncomputable def cst (x:Expr):Const:=match x with
 | .Constant v _ _=>v
 | _=>.none
noncomputable def e1 (x:Expr):Expr:=match x with
 | .BinOp y _ _ _=>y
 | .Compare y _ _ _=>y
 | .UnaryOp _ y _=>y
 | .IfExp t _ _ _=>t
 | .Subscript y _ _=>y
 | .Call f _ _ _=>f
 | .Attribute y _ _=>y
 | .ListComp e _ _ _=>e
 | .SetComp e _ _ _=>e
 | _=>x
noncomputable def bop (x:Expr):Operator:=match x with
 | .BinOp _ o _ _=>o
 | _=>.Add
noncomputable def e2 (x:Expr):Expr:=match x with
 | .BinOp _ _ z _=>z
 | .IfExp _ y _ _=>y
 | .Subscript _ z _=>z
 | _=>x
noncomputable def OM (x:Expr):List CmpOp:=match x with
 | .Compare _ os _ _=>os
 | _=>[]
noncomputable def ls (x:Expr):List Expr:=match x with
 | .Compare _ _ zs _=>zs
 | .BoolOp _ vs _=>vs
 | .Tuple es _ _=>es
 | .List es _=>es
 | .Call _ as _ _=>as
 | _=>[]
noncomputable def OO (x:Expr):PySem.BoolOp:=match x with
 | .BoolOp o _ _=>o
 | _=>.And
noncomputable def po (x:Expr):Pos:=match x with
 | .Name _ p=>p
 | .BoolOp _ _ p=>p
 | .Call _ _ _ p=>p
 | .Attribute _ _ p=>p
 | .ListComp _ _ _ p=>p
 | _=>⟨0,0,0,0⟩
noncomputable def uop (x:Expr):PySem.UnaryOp:=match x with
 | .UnaryOp o _ _=>o
 | _=>.Not
noncomputable def e3 (x:Expr):Expr:=match x with
 | .IfExp _ _ z _=>z
 | _=>x
noncomputable def o1 (x:Expr):Option Expr:=match x with
 | .Slice l _ _ _=>l
 | _=>none
noncomputable def o2 (x:Expr):Option Expr:=match x with
 | .Slice _ h _ _=>h
 | _=>none
noncomputable def o3 (x:Expr):Option Expr:=match x with
 | .Slice _ _ s _=>s
 | _=>none
noncomputable def kws (x:Expr):List Keyword:=match x with
 | .Call _ _ ks _=>ks
 | _=>[]
noncomputable def gns (x:Expr):List Comprehension:=match x with
 | .ListComp _ gs _ _=>gs
 | .SetComp _ gs _ _=>gs
 | _=>[]
noncomputable def scp (x:Expr) (d:Scope):Scope:=match x with
 | .ListComp _ _ sc _=>sc
 | .SetComp _ _ sc _=>sc
 | _=>d
noncomputable def iF:Expr->Nat
 | .Name .. => 0
 | .Constant .. => 1
 | .BinOp .. => 2
 | .Compare .. => 3
 | .BoolOp .. => 4
 | .UnaryOp .. => 5
 | .IfExp .. => 6
 | .Tuple .. => 7
 | .List .. => 8
 | .Subscript .. => 9
 | .Slice .. => 10
 | .Call .. => 11
 | .Attribute .. => 12
 | .ListComp .. => 13
 | .SetComp .. => 14
 | .JoinedStr .. => 15
 | .FormattedValue .. => 16
 | _=>99
noncomputable def NN (x:Expr):Nat->Prop
 | 0=>∃ y p,x = .Name y p
 | 1=>∃ v n p,x = .Constant v n p
 | 2=>∃ y o z p,x = .BinOp y o z p
 | 3=>∃ y os zs p,x = .Compare y os zs p
 | 4=>∃ o vs p,x = .BoolOp o vs p
 | 5=>∃ o y p,x = .UnaryOp o y p
 | 6=>∃ t y z p,x = .IfExp t y z p
 | 7=>∃ es n p,x = .Tuple es n p
 | 8=>∃ es p,x = .List es p
 | 9=>∃ y z p,x = .Subscript y z p
 | 10=>∃ l u s p,x = .Slice l u s p
 | 11=>∃ f as ks p,x = .Call f as ks p
 | 12=>∃ y m p,x = .Attribute y m p
 | 13=>∃ e gs sc p,x = .ListComp e gs sc p
 | 14=>∃ e gs sc p,x = .SetComp e gs sc p
 | 15=>∃ vs p,x = .JoinedStr vs p
 | 16=>∃ y cv sp p,x = .FormattedValue y cv sp p
 | _=>True
theorem EI (x:Expr):NN x (iF x):=by
 cases x<;>first | trivial | exact ⟨_,_,rfl⟩ | exact ⟨_,_,_,rfl⟩ | exact ⟨_,_,_,_,rfl⟩ | exact ⟨_,_,_,_,_,rfl⟩
theorem dQ {x:Expr} {n:Nat} {b:Bool} (h:((iF x == n) && b) = true):NN x n/\b = true:=by
 rw [aa] at h;exact ⟨eq_of_beq h.1▸EI x,h.2⟩
@[irreducible] noncomputable def cS (x:Expr) (k:Str->Bool):Bool:=(iF x == 0) && k (st x)
theorem bp {x:Expr} {k:Str->Bool} (h:cS x k = true):∃ y p,x = .Name y p/\k y = true:=by
 unfold cS at h;obtain ⟨⟨y,p,rfl⟩,h⟩:=dQ h;exact ⟨y,p,rfl,h⟩
@[irreducible] noncomputable def onC (x:Expr) (k:Const->Bool):Bool:=(iF x == 1) && k (cst x)
theorem jm {x:Expr} {k:Const->Bool} (h:onC x k = true):∃ v n p,x = .Constant v n p/\k v = true:=by
 unfold onC at h;obtain ⟨⟨v,n,p,rfl⟩,h⟩:=dQ h;exact ⟨v,n,p,rfl,h⟩
@[irreducible] noncomputable def DV (x:Expr) (k:Expr->Operator->Expr->Bool):Bool:=(iF x == 2) && k (e1 x) (bop x) (e2 x)
theorem uJ {x:Expr} {k:Expr->Operator->Expr->Bool} (h:DV x k = true):∃ y o z p,x = .BinOp y o z p/\k y o z = true:=by
 unfold DV at h;obtain ⟨⟨y,o,z,p,rfl⟩,h⟩:=dQ h;exact ⟨y,o,z,p,rfl,h⟩
@[irreducible] noncomputable def DU (x:Expr) (k:Expr->List CmpOp->List Expr->Bool):Bool:=(iF x == 3) && k (e1 x) (OM x) (ls x)
theorem ot {x:Expr} {k:Expr->List CmpOp->List Expr->Bool} (h:DU x k = true):∃ y os zs p,x = .Compare y os zs p/\k y os zs = true:=by
 unfold DU at h;obtain ⟨⟨y,os,zs,p,rfl⟩,h⟩:=dQ h;exact ⟨y,os,zs,p,rfl,h⟩
@[irreducible] noncomputable def wH (x:Expr) (k:PySem.BoolOp->List Expr->Pos->Bool):Bool:=(iF x == 4) && k (OO x) (ls x) (po x)
theorem gh {x:Expr} {k:PySem.BoolOp->List Expr->Pos->Bool} (h:wH x k = true):∃ o vs p,x = .BoolOp o vs p/\k o vs p = true:=by
 unfold wH at h;obtain ⟨⟨o,vs,p,rfl⟩,h⟩:=dQ h;exact ⟨o,vs,p,rfl,h⟩
@[irreducible] noncomputable def As (x:Expr) (k:PySem.UnaryOp->Expr->Bool):Bool:=(iF x == 5) && k (uop x) (e1 x)
theorem jF {x:Expr} {k:PySem.UnaryOp->Expr->Bool} (h:As x k = true):∃ o y p,x = .UnaryOp o y p/\k o y = true:=by
 unfold As at h;obtain ⟨⟨o,y,p,rfl⟩,h⟩:=dQ h;exact ⟨o,y,p,rfl,h⟩
@[irreducible] noncomputable def Lx (x:Expr) (k:Expr->Expr->Expr->Bool):Bool:=(iF x == 6) && k (e1 x) (e2 x) (e3 x)
theorem yj {x:Expr} {k:Expr->Expr->Expr->Bool} (h:Lx x k = true):∃ t y z p,x = .IfExp t y z p/\k t y z = true:=by
 unfold Lx at h;obtain ⟨⟨t,y,z,p,rfl⟩,h⟩:=dQ h;exact ⟨t,y,z,p,rfl,h⟩
@[irreducible] noncomputable def lL (x:Expr) (k:List Expr->Bool):Bool:=(iF x == 7) && k (ls x)
theorem fD {x:Expr} {k:List Expr->Bool} (h:lL x k = true):∃ es n p,x = .Tuple es n p/\k es = true:=by
 unfold lL at h;obtain ⟨⟨es,n,p,rfl⟩,h⟩:=dQ h;exact ⟨es,n,p,rfl,h⟩
@[irreducible] noncomputable def DR (x:Expr) (k:List Expr->Bool):Bool:=(iF x == 8) && k (ls x)
theorem om {x:Expr} {k:List Expr->Bool} (h:DR x k = true):∃ es p,x = .List es p/\k es = true:=by
 unfold DR at h;obtain ⟨⟨es,p,rfl⟩,h⟩:=dQ h;exact ⟨es,p,rfl,h⟩
@[irreducible] noncomputable def qu (x:Expr) (k:Expr->Expr->Bool):Bool:=(iF x == 9) && k (e1 x) (e2 x)
theorem jk {x:Expr} {k:Expr->Expr->Bool} (h:qu x k = true):∃ y z p,x = .Subscript y z p/\k y z = true:=by
 unfold qu at h;obtain ⟨⟨y,z,p,rfl⟩,h⟩:=dQ h;exact ⟨y,z,p,rfl,h⟩
@[irreducible] noncomputable def Lw (x:Expr) (k:Option Expr->Option Expr->Option Expr->Bool):Bool:=(iF x == 10) && k (o1 x) (o2 x) (o3 x)
theorem yg {x:Expr} {k:Option Expr->Option Expr->Option Expr->Bool} (h:Lw x k = true):∃ l u s p,x = .Slice l u s p/\k l u s = true:=by
 unfold Lw at h;obtain ⟨⟨l,u,s,p,rfl⟩,h⟩:=dQ h;exact ⟨l,u,s,p,rfl,h⟩
@[irreducible] noncomputable def ou (x:Expr) (k:Expr->List Expr->List Keyword->Pos->Bool):Bool:=(iF x == 11) && k (e1 x) (ls x) (kws x) (po x)
theorem ll {x:Expr} {k:Expr->List Expr->List Keyword->Pos->Bool} (h:ou x k = true):∃ f as ks p,x = .Call f as ks p/\k f as ks p = true:=by
 unfold ou at h;obtain ⟨⟨f,as,ks,p,rfl⟩,h⟩:=dQ h;exact ⟨f,as,ks,p,rfl,h⟩
@[irreducible] noncomputable def Ly (x:Expr) (k:Expr->Str->Pos->Bool):Bool:=(iF x == 12) && k (e1 x) (st x) (po x)
theorem HY {x:Expr} {k:Expr->Str->Pos->Bool} (h:Ly x k = true):∃ y m p,x = .Attribute y m p/\k y m p = true:=by
 unfold Ly at h;obtain ⟨⟨y,m,p,rfl⟩,h⟩:=dQ h;exact ⟨y,m,p,rfl,h⟩
@[irreducible] noncomputable def HW (x:Expr) (k:Expr->List Comprehension->Scope->Pos->Bool):Bool:=(iF x == 13) && k (e1 x) (gns x) (scp x default) (po x)
theorem mP {x:Expr} {k:Expr->List Comprehension->Scope->Pos->Bool} (h:HW x k = true):∃ e gs sc p,x = .ListComp e gs sc p/\k e gs sc p = true:=by
 unfold HW at h;obtain ⟨⟨e,gs,sc,p,rfl⟩,h⟩:=dQ h;exact ⟨e,gs,sc,p,rfl,h⟩
noncomputable def sls (x:Stmt):List Expr:=match x with
 | .Assign ts _ _=>ts
 | _=>[]
noncomputable def s1 (x:Stmt):Expr:=match x with
 | .Assign _ y _=>y
 | .AugAssign t _ _ _=>t
 | .If t _ _ _=>t
 | .For t _ _ _ _=>t
 | .While t _ _ _=>t
 | .Expr y _=>y
 | _=>.Constant .none 0 ⟨0,0,0,0⟩
noncomputable def sop (x:Stmt):Operator:=match x with
 | .AugAssign _ o _ _=>o
 | _=>.Add
noncomputable def s2 (x:Stmt):Expr:=match x with
 | .AugAssign _ _ y _=>y
 | .For _ it _ _ _=>it
 | _=>.Constant .none 0 ⟨0,0,0,0⟩
noncomputable def so (x:Stmt):Option Expr:=match x with
 | .Return y _=>y
 | _=>none
noncomputable def sb (x:Stmt):List Stmt:=match x with
 | .If _ y _ _=>y
 | .For _ _ y _ _=>y
 | .While _ y _ _=>y
 | _=>[]
noncomputable def sc2 (x:Stmt):List Stmt:=match x with
 | .If _ _ z _=>z
 | .For _ _ _ z _=>z
 | .While _ _ z _=>z
 | _=>[]
noncomputable def rh:Stmt->Nat
 | .Assign .. => 0
 | .AugAssign .. => 1
 | .Return .. => 2
 | .If .. => 3
 | .For .. => 4
 | .While .. => 5
 | .Expr .. => 6
 | _=>99
noncomputable def NM (x:Stmt):Nat->Prop
 | 0=>∃ ts y p,x = .Assign ts y p
 | 1=>∃ t o y p,x = .AugAssign t o y p
 | 2=>∃ y p,x = .Return y p
 | 3=>∃ t y z p,x = .If t y z p
 | 4=>∃ t it y z p,x = .For t it y z p
 | 5=>∃ t y z p,x = .While t y z p
 | 6=>∃ y p,x = .Expr y p
 | _=>True
theorem EH (x:Stmt):NM x (rh x):=by
 cases x<;>first | trivial | exact ⟨_,_,rfl⟩ | exact ⟨_,_,_,rfl⟩ | exact ⟨_,_,_,_,rfl⟩ | exact ⟨_,_,_,_,_,rfl⟩
theorem iL {x:Stmt} {n:Nat} {b:Bool} (h:((rh x == n) && b) = true):NM x n/\b = true:=by
 rw [aa] at h;exact ⟨eq_of_beq h.1▸EH x,h.2⟩
@[irreducible] noncomputable def jS (x:Stmt) (k:List Expr->Expr->Bool):Bool:=(rh x == 0) && k (sls x) (s1 x)
theorem gE {x:Stmt} {k:List Expr->Expr->Bool} (h:jS x k = true):∃ ts y p,x = .Assign ts y p/\k ts y = true:=by
 unfold jS at h;obtain ⟨⟨ts,y,p,rfl⟩,h⟩:=iL h;exact ⟨ts,y,p,rfl,h⟩
@[irreducible] noncomputable def DY (x:Stmt) (k:Expr->Operator->Expr->Bool):Bool:=(rh x == 1) && k (s1 x) (sop x) (s2 x)
theorem DX {x:Stmt} {k:Expr->Operator->Expr->Bool} (h:DY x k = true):∃ t o y p,x = .AugAssign t o y p/\k t o y = true:=by
 unfold DY at h;obtain ⟨⟨t,o,y,p,rfl⟩,h⟩:=iL h;exact ⟨t,o,y,p,rfl,h⟩
@[irreducible] noncomputable def yh (x:Stmt) (k:Option Expr->Bool):Bool:=(rh x == 2) && k (so x)
theorem uG {x:Stmt} {k:Option Expr->Bool} (h:yh x k = true):∃ y p,x = .Return y p/\k y = true:=by
 unfold yh at h;obtain ⟨⟨y,p,rfl⟩,h⟩:=iL h;exact ⟨y,p,rfl,h⟩
@[irreducible] noncomputable def uH (x:Stmt) (k:Expr->List Stmt->List Stmt->Bool):Bool:=(rh x == 3) && k (s1 x) (sb x) (sc2 x)
theorem oo {x:Stmt} {k:Expr->List Stmt->List Stmt->Bool} (h:uH x k = true):∃ t y z p,x = .If t y z p/\k t y z = true:=by
 unfold uH at h;obtain ⟨⟨t,y,z,p,rfl⟩,h⟩:=iL h;exact ⟨t,y,z,p,rfl,h⟩
@[irreducible] noncomputable def yk (x:Stmt) (k:Expr->Expr->List Stmt->List Stmt->Bool):Bool:=(rh x == 4) && k (s1 x) (s2 x) (sb x) (sc2 x)
theorem uI {x:Stmt} {k:Expr->Expr->List Stmt->List Stmt->Bool} (h:yk x k = true):∃ t it y z p,x = .For t it y z p/\k t it y z = true:=by
 unfold yk at h;obtain ⟨⟨t,it,y,z,p,rfl⟩,h⟩:=iL h;exact ⟨t,it,y,z,p,rfl,h⟩
@[irreducible] noncomputable def HV (x:Stmt) (k:Expr->List Stmt->List Stmt->Bool):Bool:=(rh x == 5) && k (s1 x) (sb x) (sc2 x)
theorem yf {x:Stmt} {k:Expr->List Stmt->List Stmt->Bool} (h:HV x k = true):∃ t y z p,x = .While t y z p/\k t y z = true:=by
 unfold HV at h;obtain ⟨⟨t,y,z,p,rfl⟩,h⟩:=iL h;exact ⟨t,y,z,p,rfl,h⟩
@[irreducible] noncomputable def Au (x:Stmt) (k:Expr->Bool):Bool:=(rh x == 6) && k (s1 x)
theorem si {x:Stmt} {k:Expr->Bool} (h:Au x k = true):∃ y p,x = .Expr y p/\k y = true:=by
 unfold Au at h;obtain ⟨⟨y,p,rfl⟩,h⟩:=iL h;exact ⟨y,p,rfl,h⟩
section
variable {α:Type} {xs:List α}
@[irreducible] noncomputable def on0 (xs:List α) (k:Bool):Bool:=match xs with
 | []=>k
 | _=>false
theorem dI {k:Bool} (h:on0 xs k = true):xs = []/\k = true:=by
 unfold on0 at h;cases xs<;>first | exact ⟨rfl,h⟩ | cases h
@[irreducible] noncomputable def onS (xs:List α) (k:α->List α->Bool):Bool:=match xs with
 | y::ys=>k y ys
 | _=>false
theorem cM {k:α->List α->Bool} (h:onS xs k = true):∃ y ys,xs = y::ys/\k y ys = true:=by
 unfold onS at h;cases xs<;>first | exact ⟨_,_,rfl,h⟩ | cases h
@[irreducible] noncomputable def on1 (xs:List α) (k:α->Bool):Bool:=onS xs fun y ys=>on0 ys (k y)
theorem cY {k:α->Bool} (h:on1 xs k = true):∃ y,xs = [y]/\k y = true:=by
 unfold on1 at h;obtain ⟨y,ys,rfl,h1⟩:=cM h;obtain ⟨rfl,h2⟩:=dI h1;exact ⟨y,rfl,h2⟩
@[irreducible] noncomputable def on2 (xs:List α) (k:α->α->Bool):Bool:=onS xs fun y ys=>on1 ys (k y)
theorem jX {k:α->α->Bool} (h:on2 xs k = true):∃ y z,xs = [y,z]/\k y z = true:=by
 unfold on2 at h;obtain ⟨y,ys,rfl,h1⟩:=cM h;obtain ⟨z,rfl,h2⟩:=cY h1;exact ⟨y,z,rfl,h2⟩
end
@[irreducible] noncomputable def onI (v:Const) (k:Int->Bool):Bool:=match v with
 | .int i=>k i
 | _=>false
theorem DS {v:Const} {k:Int->Bool} (h:onI v k = true):∃ i,v = .int i/\k i = true:=by
 unfold onI at h;cases v<;>first | exact ⟨_,rfl,h⟩ | cases h
@[irreducible] noncomputable def onB (v:Const) (k:Bool->Bool):Bool:=match v with
 | .bool i=>k i
 | _=>false
theorem DW {v:Const} {k:Bool->Bool} (h:onB v k = true):∃ i,v = .bool i/\k i = true:=by
 unfold onB at h;cases v<;>first | exact ⟨_,rfl,h⟩ | cases h
@[irreducible] noncomputable def onT (v:Const) (k:Str->Bool):Bool:=match v with
 | .str i=>k i
 | _=>false
theorem DO {v:Const} {k:Str->Bool} (h:onT v k = true):∃ i,v = .str i/\k i = true:=by
 unfold onT at h;cases v<;>first | exact ⟨_,rfl,h⟩ | cases h
noncomputable def Jw:Const->Bool
 | .none=>true
 | _=>false
theorem EB {v:Const} (h:Jw v = true):v = .none:=by
 cases v<;>first | rfl | cases h
@[irreducible] noncomputable def mi (x:Expr) (k:Str->List Expr->Bool):Bool:=ou x fun f as ks _=>cS f fun n=>on0 ks (k n as)
theorem dP {x:Expr} {k:Str->List Expr->Bool} (h:mi x k = true):∃ n np as p,x = .Call (.Name n np) as [] p/\k n as = true:=by
 unfold mi at h;obtain ⟨f,as,ks,p,rfl,h1⟩:=ll h;obtain ⟨n,np,rfl,h2⟩:=bp h1;obtain ⟨rfl,h3⟩:=dI h2;exact ⟨n,np,as,p,rfl,h3⟩
@[irreducible] noncomputable def HX (x:Expr) (k:Str->Expr->Str->Const->Bool):Bool:=ou x fun f as ks _=>cS f fun n=>on1 as fun y=>on1 ks fun kw=>match kw.arg with
 | some a=>onC kw.value fun v=>k n y a v
 | none=>false
theorem ym {x:Expr} {k:Str->Expr->Str->Const->Bool} (h:HX x k = true):∃ n np y a v vn vp kp p,x = .Call (.Name n np) [y] [⟨some a,.Constant v vn vp,kp⟩] p/\k n y a v = true:=by
 unfold HX at h;obtain ⟨f,as,ks,p,rfl,h1⟩:=ll h;obtain ⟨n,np,rfl,h2⟩:=bp h1;obtain ⟨y,rfl,h3⟩:=cY h2;obtain ⟨⟨arg,value,kp⟩,rfl,h4⟩:=cY h3
 cases arg with
 | none=>cases h4
 | some a =>
   obtain ⟨v,vn,vp,e,h5⟩:=jm h4;subst e;exact ⟨n,np,y,a,v,vn,vp,kp,p,rfl,h5⟩
@[irreducible] noncomputable def onM (x:Expr) (k:Expr->Str->List Expr->Bool):Bool:=ou x fun f as ks cp=>Ly f fun y m ap=>on0 ks (decide (ap.endLine = cp.line) && k y m as)
theorem DQ {x:Expr} {k:Expr->Str->List Expr->Bool} (h:onM x k = true):∃ y m ap as cp,x = .Call (.Attribute y m ap) as [] cp/\ap.endLine = cp.line/\k y m as = true:=by
 unfold onM at h;obtain ⟨f,as,ks,cp,rfl,h1⟩:=ll h;obtain ⟨y,m,ap,rfl,h2⟩:=HY h1;obtain ⟨rfl,h3⟩:=dI h2;rw [aa] at h3;exact ⟨y,m,ap,as,cp,rfl,of_decide_eq_true h3.1,h3.2⟩
@[irreducible] noncomputable def onG (g:Comprehension) (k:Expr->Expr->List Expr->Bool):Bool:=decide (g.is_async = 0) && k g.target g.iter g.ifs
theorem DT {g:Comprehension} {k:Expr->Expr->List Expr->Bool} (h:onG g k = true):∃ t it il,g = ⟨t,it,il,0⟩/\k t it il = true:=by
 obtain ⟨t,it,il,a⟩:=g;unfold onG at h;rw [aa] at h;have e:a = 0:=of_decide_eq_true h.1;subst e;exact ⟨t,it,il,rfl,h.2⟩
noncomputable def GH:Expr->Option (List Str)
 | .Name x _=>some [x]
 | .Tuple es _ _=>es.mapM fun | .Name x _=>some x | _=>none
 | _=>none
noncomputable def IQ (c:Ck):List Nat->List Expr->Bool
 | [],es=>on0 es true
 | i::is,es=>onS es fun e r=>cS e (fun x=>fj c i x) && IQ c is r
noncomputable def sY (c:Ck):Tg->Expr->Bool
 | .nm i,x=>cS x fun y=>fj c i y
 | .tp is,x=>lL x fun es=>IQ c is es
 | .pr i is,x=>lL x fun es=>on2 es fun a b=>cS a (fun y=>fj c i y) && lL b fun es=>IQ c is es
noncomputable def zU (n:Nat):Tg->Bool
 | .nm i=>decide (n<=i)
 | .tp is=>is.all fun i=>decide (n<=i)
 | .pr i is=>decide (n<=i) && is.all fun i=>decide (n<=i)
noncomputable def oy (ts:List Str) (N:List Str):List Str:=N.map fun y=>if ts.contains y then y++(" ":Str) else y
noncomputable def ky (c:Ck) (sc:Scope):Bool :=
 decide (sc.kind = .function) && sc.names.all fun p=>decide (p.2≠.cell) && (!decide (p.2 = .local) || decide (sc.names.lookup p.1 = some .local)) &&
  (!decide (p.2 = .free) || (match c.sc.names.lookup p.1 with | some .cell=>true | some .free=>true | _=>false))
noncomputable def namesOk (c:Ck) (sc:Scope) (Nc:List Str):Bool :=
 decide Nc.Nodup && (List.range c.N.length).all fun i=>match Nc[i]? with
  | some x=>!zQ sc x || (decide (c.N[i]? = some x) && decide (sc.names.lookup x = some .free))
  | none=>false
noncomputable def EA:PySem.UnaryOp->Bool
 | .Not=>true
 | _=>false
noncomputable def isNeg:PySem.UnaryOp->Bool
 | .USub=>true
 | _=>false
theorem oB {o:PySem.UnaryOp} (h:EA o = true):o = .Not:=by cases o<;>first | rfl | cases h
theorem EC {o:PySem.UnaryOp} (h:isNeg o = true):o = .USub:=by cases o<;>first | rfl | cases h
@[irreducible] noncomputable def onO (x:Option Expr) (k:Expr->Bool):Bool:=match x with
 | some y=>k y
 | none=>false
theorem sg {x:Option Expr} {k:Expr->Bool} (h:onO x k = true):∃ y,x = some y/\k y = true:=by
 unfold onO at h
 cases x with
 | none=>cases h
 | some y=>exact ⟨y,rfl,h⟩
noncomputable def dY:Expr->Bool
 | .Name .. | .Constant .. | .BinOp .. | .Compare .. | .BoolOp .. | .UnaryOp .. | .IfExp .. | .Tuple .. | .List .. | .Subscript .. | .Call .. | .ListComp .. => true
 | .JoinedStr .. => true
 | _=>false
variable [Tbs]
mutual
noncomputable def ckE (c:Ck):E->Expr->Bool
 | .var i,x=>cS x fun y=>fZ c i y
 | .pk i,x=>cS x fun y=>fZ c i y
 | .glob g,x=>cS x fun y=>decide (c.gn[g]? = some y) && dM c y
 | .int i,x=>onC x fun v=>onI v fun j=>decide (i = j)
 | .bl b,x=>onC x fun v=>onB v fun j=>decide (b = j)
 | .non,x=>onC x Jw
 | .str t,x=>onC x fun v=>onT v fun u=>decide (t = u)
 | .bin op a b,x=>DV x fun y o z=>HU op o && ckE c a y && ckE c b z && (!bJ a || np b)
 | .cmp op a b,x=>DU x fun y os zs=>on1 os fun o=>on1 zs fun z=>yU op o && ckE c a y && ckE c b z && (!bJ a || np b)
 | .and a b,x=>wH x fun o vs p=>onS vs fun y r=>onS r fun z r2=>(match o with
   | .And=>true
   | .Or=>false) && ckE c a y && ckE c b (match r2 with
   | []=>z
   | _::_=>.BoolOp .And (z::r2) p) && !bJ a && !bJ b
 | .or a b,x=>wH x fun o vs p=>onS vs fun y r=>onS r fun z r2=>(match o with
   | .And=>false
   | .Or=>true) && ckE c a y && ckE c b (match r2 with
   | []=>z
   | _::_=>.BoolOp .Or (z::r2) p) && !bJ a && !bJ b
 | .not a,x=>As x fun o y=>EA o && ckE c a y && !bJ a
 | .neg a,x=>As x fun o y=>isNeg o && ckE c a y && !bJ a
 | .ssd a,x=>mi x fun f as=>on1 as fun w=>mi w fun g as=>on1 as fun y=>decide (f = ("sorted":Str)) && decide (g = ("set":Str)) && dM c f && dM c g && ckE c a y && !bJ a
 | .maxd a n,x=>HX x fun f y k v=>onI v fun i=>decide (f = ("max":Str)) && decide (k = Str.ofString "default") && decide (n = i) && dM c f && ckE c a y && !bJ a
 | .ite k a b,x=>Lx x fun t y z=>ckE c k t && ckE c a y && ckE c b z && !bJ a && !bJ b
 | .tup es,x=>lL x fun xs=>ik c es xs && iJ es
 | .lst es,x=>DR x fun xs=>ik c es xs && iJ es
 | .ix a b,x=>qu x fun y z=>ckE c a y && ckE c b z && (!bJ a || np b) && !bJ b
 | .sl a lo hi,x=>qu x fun y z=>Lw z fun l h s=>s.isNone && (ckE c a y && ckO c lo l && ckO c hi h && (!bJ a || (npO lo && npO hi)))
 | .call f es,x=>mi x fun n xs=>(match c.fns[f]? with
    | some (m,ps)=>decide (m = n) && dM c n && decide (ps.length = ET es) && ik c es xs && iJ es && !xs.isEmpty
    | none=>false)
 | .blt f es,x=>mi x fun n xs=>decide (qK f = n) && dM c n && (match tyName f with
    | some T=>on2 xs fun y w=>cS w fun t=>decide (t = (T:Str)) && dM c t && ik c es [y] && pM es
    | none=>!xs.isEmpty && ik c es xs && pM es)
 | .bad,x=>dY x
 | .comp k tg src ifs elt,x=>HW x fun ex gs sc _=>on1 gs fun g=>onG g fun t it il=>(match GH t with
    | some ts=>decide (ts.length = k) && zU c.N.length tg && ky c sc && namesOk c sc (oy ts c.N++ts) && sY ⟨oy ts c.N++ts,sc,c.fns,c.gn⟩ tg t && ckI c src it &&
       ckG ⟨oy ts c.N++ts,sc,c.fns,c.gn⟩ ifs il && ckE ⟨oy ts c.N++ts,sc,c.fns,c.gn⟩ elt ex && !bJ elt
    | none=>false)
noncomputable def ik (c:Ck):Es->List Expr->Bool
 | .nil,xs=>on0 xs true
 | .cons e es,xs=>onS xs fun y ys=>ckE c e y && ik c es ys
noncomputable def ckO (c:Ck):Eo->Option Expr->Bool
 | .no,x=>x.isNone
 | .yes e,x=>onO x fun y=>ckE c e y && !bJ e
noncomputable def ckG (c:Ck):Eo->List Expr->Bool
 | .no,x=>on0 x true
 | .yes e,x=>on1 x fun y=>ckE c e y
noncomputable def ckI (c:Ck):It->Expr->Bool
 | .rng e,x=>mi x fun n xs=>on1 xs fun y=>decide (n = ("range":Str)) && dM c n && ckE c e y && !bJ e
 | .sq e,x=>ckE c e x && !bJ e
end
theorem fO {c:Ck} {es:Es} {y:Expr} {ys:List Expr} (h:ik c es (y::ys) = true):∃ e es',es = .cons e es'/\ckE c e y = true/\ik c es' ys = true:=by
 cases es with
 | nil=>cases (dI h).1
 | cons e es =>
   obtain ⟨_,_,q,h'⟩:=cM h;cases q;rw [aa] at h';exact ⟨e,es,rfl,h'⟩
theorem nB {c:Ck} {tg:Tg} {t:Expr} (h:sY c tg t = true):(∃ x p,t = .Name x p)\/∃ es n p,t = .Tuple es n p:=by
 cases tg with
 | nm i=>obtain ⟨x,p,rfl,_⟩:=bp h;exact .inl ⟨x,p,rfl⟩
 | tp is=>obtain ⟨es,n,p,rfl,_⟩:=fD h;exact .inr ⟨es,n,p,rfl⟩
 | pr i is=>obtain ⟨es,n,p,rfl,_⟩:=fD h;exact .inr ⟨es,n,p,rfl⟩
theorem hdN {x:Expr} {k:Str->Bool} (h:cS x k = true):dY x = true:=by obtain ⟨_,_,rfl,_⟩:=bp h;rfl
theorem hdC {x:Expr} {k:Const->Bool} (h:onC x k = true):dY x = true:=by obtain ⟨_,_,_,rfl,_⟩:=jm h;rfl
theorem hdF {x:Expr} {k:Str->List Expr->Bool} (h:mi x k = true):dY x = true:=by obtain ⟨_,_,_,_,rfl,_⟩:=dP h;rfl
theorem hdK {x:Expr} {k:Str->Expr->Str->Const->Bool} (h:HX x k = true):dY x = true:=by obtain ⟨_,_,_,_,_,_,_,_,_,rfl,_⟩:=ym h;rfl
theorem hdB {x:Expr} {k:PySem.BoolOp->List Expr->Pos->Bool} (h:wH x k = true):dY x = true:=by obtain ⟨_,_,_,rfl,_⟩:=gh h;rfl
theorem hdU {x:Expr} {k:PySem.UnaryOp->Expr->Bool} (h:As x k = true):dY x = true:=by obtain ⟨_,_,_,rfl,_⟩:=jF h;rfl
theorem hdS {x:Expr} {k:Expr->Expr->Bool} (h:qu x k = true):dY x = true:=by obtain ⟨_,_,_,rfl,_⟩:=jk h;rfl
theorem cn {c:Ck} {e:E} {x:Expr} (h:ckE c e x = true):dY x = true:=by
 cases e with
 | var i=>exact hdN h
 | pk i=>exact hdN h
 | glob g=>exact hdN h
 | int i=>exact hdC h
 | bl b=>exact hdC h
 | non=>exact hdC h
 | str t=>exact hdC h
 | bin op a b=>obtain ⟨_,_,_,_,rfl,_⟩:=uJ h;rfl
 | cmp op a b=>obtain ⟨_,_,_,_,rfl,_⟩:=ot h;rfl
 | and a b=>exact hdB h
 | or a b=>exact hdB h
 | not a=>exact hdU h
 | neg a=>exact hdU h
 | ssd a=>exact hdF h
 | maxd a n=>exact hdK h
 | ite k a b=>obtain ⟨_,_,_,_,rfl,_⟩:=yj h;rfl
 | tup es=>obtain ⟨_,_,_,rfl,_⟩:=fD h;rfl
 | lst es=>obtain ⟨_,_,rfl,_⟩:=om h;rfl
 | ix a b=>exact hdS h
 | sl a lo hi=>exact hdS h
 | call f es=>exact hdF h
 | blt f es=>exact hdF h
 | bad=>exact h
 | comp k tg src ifs elt=>obtain ⟨_,_,_,_,rfl,_⟩:=mP h;rfl
theorem cX {x:Expr} (h:dY x = true) (xs:List Expr) (env:Env):starEach (x::xs) env = (false,eval x env)::starEach xs env:=by
 cases x<;>first | rfl | (exact absurd h ah)
theorem EK {x:Expr} (h:dY x = true) (env:Env) (v:Value):foldedSetIterable x env v = pure v:=by
 cases x<;>first | rfl | (exact absurd h ah)
theorem qD {x:Expr} (h:dY x = true) (op:CmpOp):behindInMarks op x = false:=by
 cases x<;>first | rfl | (exact absurd h ah)
theorem IA {x:Expr} (h:dY x = true):L2.PlainIx x:=by
 intro o i;cases x<;>first | rfl | (exact absurd h ah)
noncomputable def gF:Expr->Bool
 | .ListComp .. => true
 | _=>false
theorem gH {x:Expr} (h:dY x = true) (hc:gF x = false) (t:Option Expr) (n:Nat) (env:Env):swapsWith x t n env = pure false:=by
 cases x<;>first | rfl | (exact absurd h ah) | (exact absurd hc.symm ah)
noncomputable def EE:E->Bool
 | .comp .. => true
 | _=>false
@[irreducible] noncomputable def DP (x:Expr) (k:Str->Pos->Bool):Bool:=(iF x == 0) && k (st x) (po x)
theorem sh {x:Expr} {k:Str->Pos->Bool} (h:DP x k = true):∃ y p,x = .Name y p/\k y p = true:=by
 unfold DP at h;obtain ⟨⟨y,p,rfl⟩,h⟩:=dQ h;exact ⟨y,p,rfl,h⟩
noncomputable def Iu (x:Stmt) (n:Nat):Bool:=match x with
 | .Pass _=>n == 0
 | .Break _=>n == 1
 | .Continue _=>n == 2
 | _=>false
theorem sE {x:Stmt} {n:Nat} (h:Iu x n = true):∃ p,(n = 0/\x = .Pass p)\/(n = 1/\x = .Break p)\/(n = 2/\x = .Continue p):=by
 cases x<;>first | (cases h;done) | skip
 . exact ⟨_,.inl ⟨eq_of_beq h,rfl⟩⟩
 . exact ⟨_,.inr (.inl ⟨eq_of_beq h,rfl⟩)⟩
 . exact ⟨_,.inr (.inr ⟨eq_of_beq h,rfl⟩)⟩
noncomputable def newOk:E->Bool
 | .lst _=>true
 | .blt .toLst _=>true
 | .sl _ _ _=>true
 | _=>false
noncomputable def isNm (x:Expr):Bool:=iF x == 0
noncomputable def Ir (x:Expr):Bool:=iF x == 7
noncomputable def NC (c:Ck) (i j:Nat) (es:Es) (t y:Expr):Bool:=lL t fun us=>on2 us fun u v=>DP u fun x px=>DP v fun z pz=>lL y fun vs=>on2 vs fun a b =>
 decide (c.N[i]? = some x) && decide (c.N[j]? = some z) && decide (c.sc.names.lookup x = some .local) && decide (c.sc.names.lookup z = some .local) && decide (x≠z) && decide (px.line = pz.line) && ik c es [a,b] && iJ es && !(foldedForSure 8 a && foldedForSure 8 b) && !(constantsAlone 8 a && constantsAlone 8 b)
noncomputable def Jp (c:Ck) (tg:Tg) (e:E) (t y:Expr):Bool:=match tg,e with
 | .tp [i,j],.tup es=>NC c i j es t y
 | _,_=>false
mutual
noncomputable def ckS (c:Ck):S->Stmt->Bool
 | .asg tg e,x=>jS x fun ts y=>on1 ts fun t=>sY c tg t && ckE c e y && !bJ e && !gF y && (isNm t || !Ir y || Jp c tg e t y)
 | .new i e,x=>jS x fun ts y=>on1 ts fun t=>cS t fun t=>fj c i t && ckE c e y && !gF y && newOk e
 | .cmp _ i e,x=>EE e && jS x fun ts y=>on1 ts fun t=>DP t fun t tp=>HW y fun ex gs sc p=>fj c i t && ckE c e (.ListComp ex gs sc p) && decide (c.sc.names.lookup t = some .local) && decide (tp.line = p.line) && !(sc.names.any fun (n,k)=>n == t && (k == .local || k == .cell))
 | .aug i op e,x=>DY x fun t o y=>cS t fun t=>fj c i t && HU op o && ckE c e y && !bJ e
 | .ret e,x=>yh x fun y=>onO y fun y=>ckE c e y && !bJ e
 | .retN,x=>yh x fun y=>y.isNone
 | .ifs k a b,x=>uH x fun t y z=>ckE c k t && eQ c a y && eQ c b z
 | .for_ tg src body,x=>yk x fun t it y z=>on0 z (sY c tg t && ckI c src it && eQ c body y)
 | .forZ tg es body,x=>yk x fun t it y z=>on0 z (mi it fun n xs=>on2 xs fun u v=>Ir t && decide (n = ("zip":Str)) && dM c n && sY c tg t && ik c es [u,v] && iJ es && eQ c body y)
 | .while_ k body,x=>HV x fun t y z=>on0 z (ckE c k t && eQ c body y)
 | .append i e,x=>Au x fun w=>onM w fun y m as=>cS y fun y=>on1 as fun z=>decide (m = ("append":Str)) && fZ c i y && ckE c e z && !bJ e
 | .extend i e,x=>Au x fun w=>onM w fun y m as=>cS y fun y=>on1 as fun z=>decide (m = ("extend":Str)) && fZ c i y && ckE c e z && !bJ e
 | .setix i j e,x=>jS x fun ts y=>on1 ts fun t=>qu t fun w z=>cS w fun t=>fZ c i t && ckE c e y && !bJ e && !gF y && ckE c j z && !bJ j
 | .opq _,_=>false
 | .bad,_=>true
 | .pass,x=>Iu x 0
 | .brk,x=>Iu x 1
 | .cont,x=>Iu x 2
noncomputable def eQ (c:Ck):Ss->List Stmt->Bool
 | .nil,xs=>on0 xs true
 | .cons s ss,xs=>onS xs fun y ys=>ckS c s y && eQ c ss ys
end
end PP
end
section
namespace PP
open PySem L2 PyProof.Rows
variable [Tbs]
noncomputable def NW (K:PySem.W.Frag) (G:Gh) (F:Addr->Prop) (σ:L2.St) (H:Hp) (m nP:Bool) (d:D) (δ':Loc) (Q:VK):Prop :=
 ∀ v H' F',Step G F H F' H'->(nP = true->Sim H H')->Ok K G F' σ H' δ'->RelM m K H' F' d v->Q v H'
noncomputable def tE (K:PySem.W.Frag) (cx:Cl) (e:E):TE:=fun σ H Q=>∃ G F δ d δ',Ok K G F σ H δ/\evE cx e δ = some (d,δ')/\NW K G F σ H (bJ e) (np e) d δ' Q
noncomputable def tT (K:PySem.W.Frag) (cx:Cl) (e:E):TT:=fun σ H Q=>∃ G F δ b δ',Ok K G F σ H δ/\evT cx e δ = some (b,δ') /\
 ∀ H' F',Step G F H F' H'->(np e = true->Sim H H')->Ok K G F' σ H' δ'->Q b H'
noncomputable def lR (K:PySem.W.Frag) (H:Hp) (F:Addr->Prop):Es->List D->List V->Prop
 | .nil,ds,vs=>ds = []/\vs = []
 | .cons e es,ds,vs=>∃ d ds' v vs',ds = d::ds'/\vs = v::vs'/\RelM (bJ e) K H F d v/\lR K H F es ds' vs'
noncomputable def tEs (K:PySem.W.Frag) (cx:Cl) (es:Es):TA:=fun σ H Q=>∃ G F δ ds δ',Ok K G F σ H δ/\gI cx es δ = some (ds,δ') /\
 ∀ vs H' F',Step G F H F' H'->(npS es = true->Sim H H')->Ok K G F' σ H' δ'->lR K H' F' es ds vs->Q vs H'
noncomputable def tO (K:PySem.W.Frag) (cx:Cl) (o:Eo):TO:=fun σ H Q=>∃ G F δ d δ',Ok K G F σ H δ/\evO cx o δ = some (d,δ') /\
 ∀ H' F',Step G F H F' H'->(npO o = true->Sim H H')->Ok K G F' σ H' δ'->Q d H'
noncomputable def tG (K:PySem.W.Frag) (cx:Cl) (o:Eo):TT:=fun σ H Q=>∃ G F δ b δ',Ok K G F σ H δ/\evG cx o δ = some (b,δ') /\
 ∀ H' F',Step G F H F' H'->(npO o = true->Sim H H')->Ok K G F' σ H' δ'->Q b H'
noncomputable def Wk (K:PySem.W.Frag) (G:Gh) (F:Addr->Prop) (H:Hp) (J:L2.It) (ds:List D):Prop:=∀ F2 H2,Step G F H F2 H2->FD F2 H2->∀ i:Nat,
 (∀ d,ds[i]? = some d->J.go i H2/\∀ x H3,J.yld i H2 x H3->H3 = H2/\Rel K H2 F2 d x)/\(i = ds.length->J.stop i H2)
noncomputable def tI (K:PySem.W.Frag) (cx:Cl) (t:It):TI:=fun σ H R=>∃ G F δ ds δ',Ok K G F σ H δ/\evI cx t δ = some (ds,δ') /\
 ∀ J H' F',Step G F H F' H'->(npI t = true->Sim H H')->Ok K G F' σ H' δ'->(∀ G',Wk K G' F' H' J ds)->R J H'
section
variable {K:PySem.W.Frag} {cx:Cl} {X:Cx}
theorem PE.imp {e:Expr} {t t':TE} (h:PE X e t) (w:∀ σ H Q,t' σ H Q->t σ H Q):PE X e t':=fun pins s σ H Q I q=>h pins s σ H Q I (w σ H Q q)
theorem PT.imp {e:Expr} {t t':TT} (h:PT X e t) (w:∀ σ H Q,t' σ H Q->t σ H Q):PT X e t':=fun pins s σ H Q I q=>h pins s σ H Q I (w σ H Q q)
theorem two {a b:E} {σ:L2.St} {G:Gh} {H:Hp} {F:Addr->Prop} {δ δ1 δ2:Loc} {x y:D} (ok:Ok K G F σ H δ) (ea:evE cx a δ = some (x,δ1)) (eb:evE cx b δ1 = some (y,δ2)) (pc:(!bJ a || np b) = true) {R:V->V->Hp->Prop}
 (k:∀ v u H2 F2,Step G F H F2 H2->((np a && np b) = true->Sim H H2)->Ok K G F2 σ H2 δ2->RelM (bJ a) K H2 F2 x v->RelM (bJ b) K H2 F2 y u->R v u H2) :
 tE K cx a σ H fun v H1=>tE K cx b σ H1 fun u H2=>R v u H2:=by
 refine ⟨G,F,δ,x,δ1,ok,ea,fun v H1 F1 st1 sm1 ok1 r1=>⟨G,F1,δ1,y,δ2,ok1,eb,fun u H2 F2 st2 sm2 ok2 r2=>?_⟩⟩;refine k v u H2 F2 (st1.trans st2) (fun z=>?_) ok2 (RelM.step ok1.fd st2 (fun z=>sm2 (by rw [z] at pc;simpa using pc)) r1) r2;rw [aa] at z;exact (sm1 z.1).trans (sm2 z.2)
theorem dt.int {H:Hp} {F:Addr->Prop} {i:Int} {v:V} (h:dt K H F (.int i) v):v = .int i:=by
 rcases h with h | ⟨_,_,_,e,_⟩
 . unfold Rel at h;exact h
 . cases e
theorem dt.bl {H:Hp} {F:Addr->Prop} {i:Bool} {v:V} (h:dt K H F (.bl i) v):v = .bl i:=by
 rcases h with h | ⟨_,_,_,e,_⟩
 . unfold Rel at h;exact h
 . cases e
theorem dt.str {H:Hp} {F:Addr->Prop} {i:Str} {v:V} (h:dt K H F (.str i) v):v = .str i:=by
 rcases h with h | ⟨_,_,_,e,_⟩
 . unfold Rel at h;exact h
 . cases e
theorem dt.tup {H:Hp} {F:Addr->Prop} {ds:List D} {v:V} (h:dt K H F (.tup ds) v):∃ a xs,v = .ref a/\SqT K H a xs/\aF K H F ds xs:=by
 rcases h with h | ⟨_,_,_,e,_⟩
 . unfold Rel at h;exact h
 . cases e
theorem dt.lst {H:Hp} {F:Addr->Prop} {ds:List D} {v:V} (h:dt K H F (.lst ds) v):∃ a xs,v = .ref a/\LsB K H a xs/\aF K H F ds xs:=by
 rcases h with h | ⟨a,xs,_,e,e2,h1,h2⟩
 . unfold Rel at h;obtain ⟨a,xs,e,h1,h2⟩:=h;exact ⟨a,xs,e,h1.b,h2⟩
 . cases e;exact ⟨a,xs,e2,.inl (.inl h1),h2⟩
theorem dh {H:Hp} {F:Addr->Prop} (i:Int):Rel K H F (.int i) (.int i):=by unfold Rel;rfl
theorem jh {H:Hp} {F:Addr->Prop} (i:Bool):Rel K H F (.bl i) (.bl i):=by unfold Rel;rfl
theorem iH {H:Hp} {F:Addr->Prop} (i:Str):Rel K H F (.str i) (.str i):=by unfold Rel;rfl
theorem rP {H:Hp} {F:Addr->Prop}:Rel K H F .non .non:=by unfold Rel;rfl
theorem Ok.laid {σ:L2.St} {G:Gh} {H:Hp} {F:Addr->Prop} {δ:Loc} {p:Addr} (ok:Ok K G F σ H δ) (hp:H p = none) (o:HO):Ok K G F σ (upd H p o) δ/\Step G F H F (upd H p o)/\Sim H (upd H p o)/\¬ F p :=
 ⟨ok.same' (cj hp o),Step.of_same (cj hp o),.of (cj hp o),ok.fd.none hp⟩
theorem gD {σ:L2.St} {G:Gh} {H:Hp} {F:Addr->Prop} {δ:Loc} {p:Addr} {ds:List D} {xs:List V} (ok:Ok K G F σ H δ) (hp:H p = none) (r:aF K H F ds xs):Rel K (upd H p (.tup xs)) F (.tup ds) (.ref p):=by
 unfold Rel;exact ⟨p,xs,rfl,SqT.of cg,aF.step (G:=G) ok.fd (Step.of_same (cj hp _)) ds xs r⟩
theorem jW {σ:L2.St} {G:Gh} {H:Hp} {F:Addr->Prop} {δ:Loc} {p:Addr} {ds:List D} {xs:List V} (ok:Ok K G F σ H δ) (hp:H p = none) (r:aF K H F ds xs):Rel K (upd H p (.lst xs)) F (.lst ds) (.ref p):=by
 unfold Rel;exact ⟨p,xs,rfl,.inl ⟨.inl cg,(ok.laid hp (.lst xs)).2.2.2⟩,aF.step (G:=G) ok.fd (Step.of_same (cj hp _)) ds xs r⟩
theorem Hd {a b:E} {y z:Expr} {op:Op} {o:Operator} {pos:Pos} (ho:HU op o = true) (pc:(!bJ a || np b) = true) (ha:PE X y (tE X.K cx a)) (hb:PE X z (tE X.K cx b)):PE X (.BinOp y o z pos) (tE X.K cx (.bin op a b)):=by
 intro pins s σ H Q I h;obtain ⟨G,F,δ,d,δ',ok,ev,post⟩:=h;simp only [evE,aj,ag] at ev;obtain ⟨⟨x,δ1⟩,ea,⟨y',δ2⟩,eb,d',hd,e⟩:=ev;cases e;dsimp only at eb hd post;have fin:∀ v H2 F2,Step G F H F2 H2->((np a && np b) = true->Sim H H2)->Ok X.K G F2 σ H2 δ2->Rel X.K H2 F2 d v->Q v H2:=fun v H2 F2 st sm ok2 r=>post v H2 F2 st sm ok2 r;cases op<;>cases o<;>first | (exact absurd ho ah) | skip
 . refine uD (Lv.or (wF.or (HQ.or (HS.or HR)))) ha hb pins s σ H Q I (two ok ea eb pc fun v u H2 F2 st sm ok2 r1 r2=>?_);change MA x y' = some d at hd;unfold MA at hd;split at hd
   . cases hd;have e1:=r1.b.int;have e2:=r2.b.int;subst e1;subst e2;exact .inl ⟨_,_,rfl,rfl,fin _ _ _ st sm ok2 (dh _)⟩
   . split at hd
     . cases hd;have e1:=r1.b.str;have e2:=r2.b.str;subst e1;subst e2;exact .inr (.inl ⟨_,_,rfl,rfl,‹_›,fin _ _ _ st sm ok2 (iH _)⟩)
     . cases hd
   . cases hd;obtain ⟨p1,xs1,e1,s1,l1⟩:=r1.b.tup;obtain ⟨p2,xs2,e2,s2,l2⟩:=r2.b.tup;subst e1;subst e2;unfold aF at l1;subst l1;refine .inr (.inr (.inr (.inl ⟨p1,p2,xs2,rfl,rfl,s1,s2,fin _ _ _ st sm ok2 ?_⟩)));unfold Rel;exact ⟨p2,xs2,rfl,s2,l2⟩
   . split at hd
     . rename_i q;cases hd;obtain ⟨p1,xs1,e1,s1,l1⟩:=r1.b.tup;obtain ⟨p2,xs2,e2,s2,l2⟩:=r2.b.tup;subst e1;subst e2;refine .inr (.inr (.inl ⟨p1,p2,xs1,xs2,rfl,rfl,s1,s2,fun z=>?_,by rw [l1.length,l2.length];exact q,fun z=>?_,fun _ p hp=>?_⟩))
       . have:=l1.length;rw [z] at this;cases this
       . refine fin _ _ _ st sm ok2 ?_;have e:∀ {ys:List D},aF X.K H2 F2 ys xs2->ys = []:=fun {ys} r=>by have:=r.length;rw [z] at this;exact dc.mp this.symm
         have:=e l2;subst this;rw [cc];unfold Rel;exact ⟨p1,xs1,rfl,s1,l1⟩
       . obtain ⟨o1,o2,o3,o4⟩:=ok2.laid hp (.tup (xs1++xs2));exact fin _ _ _ (st.trans o2) (fun z=>(sm z).trans o3) o1 (gD ok2 hp (l1.append l2))
     . cases hd
   . split at hd
     . rename_i q;cases hd;obtain ⟨p1,xs1,e1,s1,l1⟩:=r1.b.lst;obtain ⟨p2,xs2,e2,s2,l2⟩:=r2.b.lst;subst e1;subst e2;refine .inr (.inr (.inr (.inr ⟨p1,p2,xs1,xs2,rfl,rfl,s1,s2,by rw [l1.length,l2.length];exact q,fun p hp=>?_⟩)));obtain ⟨o1,o2,o3,o4⟩:=ok2.laid hp (.lst (xs1++xs2));exact fin _ _ _ (st.trans o2) (fun z=>(sm z).trans o3) o1 (jW ok2 hp (l1.append l2))
     . cases hd
   . cases hd
 . refine uD Ln ha hb pins s σ H Q I (two ok ea eb pc fun v u H2 F2 st sm ok2 r1 r2=>?_);change zW x y' = some d at hd;unfold zW at hd;split at hd<;>first | (cases hd;done) | skip
   cases hd;have e1:=r1.b.int;have e2:=r2.b.int;subst e1;subst e2;exact ⟨_,_,rfl,rfl,fin _ _ _ st sm ok2 (dh _)⟩
 . refine uD (HP.or HN) ha hb pins s σ H Q I (two ok ea eb pc fun v u H2 F2 st sm ok2 r1 r2=>?_);change LD x y' = some d at hd;unfold LD at hd;split at hd<;>first | (cases hd;done) | skip
   . split at hd
     . rename_i q;cases hd;have e1:=r1.b.int;have e2:=r2.b.int;subst e1;subst e2;refine .inl ⟨_,_,rfl,rfl,?_,fin _ _ _ st sm ok2 (dh _)⟩;exact Ic q
     . cases hd
   . split at hd
     . rename_i q;cases hd;have e1:=r1.b.str;have e2:=r2.b.int;subst e1;subst e2;exact .inr ⟨_,_,rfl,rfl,q,fin _ _ _ st sm ok2 (iH _)⟩
     . cases hd
 . refine uD Lp ha hb pins s σ H Q I (two ok ea eb pc fun v u H2 F2 st sm ok2 r1 r2=>?_);change LF x y' = some d at hd;unfold LF at hd;split at hd<;>first | (cases hd;done) | skip
   split at hd
   . rename_i q;cases hd;have e1:=r1.b.int;have e2:=r2.b.int;subst e1;subst e2;exact ⟨_,_,rfl,rfl,q,fin _ _ _ st sm ok2 (dh _)⟩
   . cases hd
 . refine uD DM ha hb pins s σ H Q I (two ok ea eb pc fun v u H2 F2 st sm ok2 r1 r2=>?_);change ES x y' = some d at hd;unfold ES at hd;split at hd<;>first | (cases hd;done) | skip
   split at hd
   . rename_i q;cases hd;have e1:=r1.b.int;have e2:=r2.b.int;subst e1;subst e2;exact ⟨_,_,rfl,rfl,q,fin _ _ _ st sm ok2 (dh _)⟩
   . cases hd
end
end PP
end
section
namespace PP
open PySem L2 PySem.SeqAt PyProof.Rows PySem.W
variable [Tbs]
theorem dg {ds:List D} (h:sortable ds = true):ds.length < 64/\(∀ x∈ds,bo x≠0/\bo x = bo (ds.getD 0 .non))/\∀ x∈ds,∀ y∈ds,∃ k,jN x y = some k:=by
 unfold sortable at h;simp only [aa,bb,decide_eq_true_eq] at h;obtain ⟨⟨h1,h2⟩,h3⟩:=h;refine ⟨h1,fun x hx=>?_,fun x hx y hy=>fh.mp (h3 x hx y hy)⟩;have:=h2 x hx;exact ⟨by simpa using this.1,by simpa using this.2⟩
theorem qk (ds:List D):(eU ds).length = ds.length:=by
 unfold eU;by_cases h:ds.length < 2
 . rw [if_pos h]
 . rw [if_neg h,aq,(fL ds.length).length_eq,iu]
theorem ph {K:PySem.W.Frag} {H:Hp} {F:Addr->Prop} {ds:List D} {xs:List V} (r:aF K H F ds xs):∀ (is:List Nat),(∀ i∈is,i < ds.length)->aF K H F (is.map fun i=>ds.getD i .non) (is.map fun i=>xs.getD i .non)
 | [],_=>aF.nil
 | i::is,h=>by
   have hi:=h i ao;obtain ⟨v,hv,rv⟩:=r.get (i:=i) (d:=ds.getD i .non) (by simp [hi]);have e:xs.getD i .non = v:=by simp [hv]
   rw [aX,aX,e];exact aF.cons rv (ph r is fun j hj=>h j (ak _ hj))
theorem pb {xs:List V} {us:List Value} (r:Vals xs us):∀ (is:List Nat),(∀ i∈is,i < xs.length)->Vals (is.map fun i=>xs.getD i .non) (is.map fun i=>us.getD i Value.none)
 | [],_=>.nil
 | i::is,h=>by
   have hi:=h i ao;obtain ⟨u,hu,ru⟩:=r.get (i:=i) (x:=xs.getD i .non) (by simp [hi]);have e:us.getD i Value.none = u:=by simp [hu]
   rw [aX,aX,e];exact .cons ru (pb r is fun j hj=>h j (ak _ hj))
theorem Ew {M:Model} {A:Around} {E:Value->Shared->Prop} {s:Shared} {ds:List D} {us:List Value} (r:RdL s.heap ds us) (hk:∀ x∈ds,bo x≠0/\bo x = bo (ds.getD 0 .non)) (h2:2<=us.length) {Q:SortKind->Shared->Prop}
 (q:Q (if bo (ds.getD 0 .non) < 3 then oneType' else tuples' true) s):wpAny M A (keyKind' us.toArray) Q E s:=by
 have hl:=r.length
 have all:∀ v∈us,∃ d∈ds,RdV s.heap d v:=by
  have:∀ (ds:List D) (us:List Value),RdL s.heap ds us->∀ v∈us,∃ d∈ds,RdV s.heap d v:=by
   intro ds
   induction ds with
   | nil=>intro us r v hv;unfold RdL at r;subst r;cases hv
   | cons d ds ih =>
     intro us r v hv;unfold RdL at r;obtain ⟨w,ws,rfl,r1,r2⟩:=r;rcases aD.mp hv with rfl | hv
     . exact ⟨d,ao,r1⟩
     . obtain ⟨d',h1,h2⟩:=ih ws r2 v hv;exact ⟨d',ak _ h1,h2⟩
  exact this ds us r
 generalize hn:bo (ds.getD 0 .non) = n at hk q
 have tups:∀ (T:Value) (P:D->Prop),(∀ d,P d->∀ u,RdV s.heap d u->Looks M s.heap (typeOf u) T)->(∀ x∈ds,∃ y r,x = .tup (y::r)/\P y)->∃ fs,KatTups s.heap us fs/\fs.length = us.length/\∀ v∈fs,Looks M s.heap (typeOf v) T:=by
  intro T P hP hx
  have:∀ (ds:List D) (us:List Value),RdL s.heap ds us->(∀ x∈ds,∃ y r,x = .tup (y::r)/\P y)->∃ fs,KatTups s.heap us fs/\fs.length = us.length/\∀ v∈fs,Looks M s.heap (typeOf v) T:=by
   intro ds
   induction ds with
   | nil=>intro us r _;unfold RdL at r;subst r;exact ⟨[],KatTups.nil,rfl,fun v hv=>by cases hv⟩
   | cons d ds ih =>
     intro us r hx;unfold RdL at r;obtain ⟨w,ws,rfl,r1,r2⟩:=r;obtain ⟨fs,f1,f2,f3⟩:=ih ws r2 fun x h=>hx x (ak _ h);obtain ⟨y,rr,rfl,py⟩:=hx d ao;unfold RdV at r1;obtain ⟨a,its,rfl,⟨o,h1,hc,m,hd⟩,h3⟩:=r1;unfold RdL at h3;obtain ⟨f,fr,e,g1,g2⟩:=h3;refine ⟨f::fs,KatTups.cons h1 hc hd ?_ f1,by simp [f2],fun v hv=>?_⟩
     . have:its.toList[0]? = some f:=by rw [e];rfl
       simpa using this
     . rcases aD.mp hv with rfl | hv
       . exact hP y py _ g1
       . exact f3 v hv
  exact this ds us r hx
 match n,hk,q with
 | 0,hk,q =>
   obtain ⟨x,hx⟩:∃ x,x∈ds:=by
    cases ds with
    | nil=>rw [hl] at h2;simp at h2
    | cons x r=>exact ⟨x,ao⟩
   exact absurd (hk x hx).2 (hk x hx).1
 | 1,hk,q =>
   refine kas_kind (T:=.type "str") h2 (fun v hv=>?_) (by decide) (by decide) q;obtain ⟨d,hd,rd⟩:=all v hv;have:=(hk d hd).2;cases d<;>first | (simp [bo] at this;done) | skip
   . unfold RdV at rd;obtain ⟨t,rfl⟩:=rd;exact km rfl
   . rename_i l;cases l with
     | nil=>simp [bo] at this
     | cons x r=>cases x<;>simp [bo] at this
 | 2,hk,q =>
   refine kas_kind (T:=.type "int") h2 (fun v hv=>?_) (by decide) (by decide) q;obtain ⟨d,hd,rd⟩:=all v hv;have:=(hk d hd).2;cases d<;>first | (simp [bo] at this;done) | skip
   . unfold RdV at rd;obtain ⟨t,rfl⟩:=rd;exact km rfl
   . rename_i l;cases l with
     | nil=>simp [bo] at this
     | cons x r=>cases x<;>simp [bo] at this
 | 3,hk,q =>
   obtain ⟨fs,f1,f2,f3⟩:=tups (.type "str") (fun y=>∃ x,y = .str x) (fun d ⟨x,e⟩ u rd=>by subst e;unfold RdV at rd;obtain ⟨t,rfl⟩:=rd;exact km rfl) fun x hx=>by
    have:=(hk x hx).2;cases x<;>first | (simp [bo] at this;done) | skip
    rename_i l;cases l with
    | nil=>simp [bo] at this
    | cons x r=>cases x<;>first | (simp [bo] at this;done) | exact ⟨_,_,rfl,_,rfl⟩
   exact kat_kind f1 (by lia) f3 (by decide) q
 | 4,hk,q =>
   obtain ⟨fs,f1,f2,f3⟩:=tups (.type "int") (fun y=>∃ x,y = .int x) (fun d ⟨x,e⟩ u rd=>by subst e;unfold RdV at rd;obtain ⟨t,rfl⟩:=rd;exact km rfl) fun x hx=>by
    have:=(hk x hx).2;cases x<;>first | (simp [bo] at this;done) | skip
    rename_i l;cases l with
    | nil=>simp [bo] at this
    | cons x r=>cases x<;>first | (simp [bo] at this;done) | exact ⟨_,_,rfl,_,rfl⟩
   exact kat_kind f1 (by lia) f3 (by decide) q
 | m+5,hk,q =>
   obtain ⟨x,hx⟩:∃ x,x∈ds:=by
    cases ds with
    | nil=>rw [hl] at h2;simp at h2
    | cons x r=>exact ⟨x,ao⟩
   have:=(hk x hx).2;exfalso;cases x<;>first | (simp [bo] at this;done) | skip
   rename_i l;cases l with
   | nil=>simp [bo] at this
   | cons x r=>cases x<;>simp [bo] at this
theorem sN:∀ {ds:List D},(∀ x∈ds,dep x < 100000)->bM ds < 100000
 | [],_=>by unfold bM;lia
 | d::ds,h=>by
   have h1:=h d ao;have h2:=sN fun x hx=>h x (ak _ hx);unfold bM
   lia
theorem rm {ds:List D} (hs:sortable ds = true):bM ds < 100000:=by
 obtain ⟨_,_,hlt⟩:=dg hs;refine sN fun x hx=>?_;obtain ⟨b,hb⟩:=hlt x hx x hx;unfold jN at hb;split at hb
 . lia
 . cases hb
theorem JD {prog:Program} {w:World} {A A':Around} {s:Shared} {h':Heap} {ds:List D} {its:List Value} (hu:A.units+200 < cLine) (hA:A'.units<=A.units+2) (rd:RdL s.heap ds its) (l3:its.length = ds.length) (hs:sortable ds = true)
 (k:∀ b o,s.heap.get? b = some o->h'.get? b = some o) (i j:Nat) (hi:i < its.length) (hj:j < its.length) (C:Bool->Shared->Prop) (c:C (gY ds i j) { s with heap:=h' }) :
 kas_ask prog w A' (if bo (ds.getD 0 .non) < 3 then oneType' else tuples' true) its i j C { s with heap:=h' }:=by
 obtain ⟨h64,hk,hlt⟩:=dg hs
 have mem:∀ i,i < its.length->ds.getD i .non∈ds:=fun i hi=>by
  have:i < ds.length:=by lia
  rw [eN,aw this];exact iQ this
 obtain ⟨b,hb⟩:=hlt _ (mem i hi) _ (mem j hj);have eb:gY ds i j = b:=by unfold gY;rw [hb];rfl
 rw [eb] at c;have ri:=RdV.keep k _ _ (RdL.nth i rd (by lia));have rj:=RdV.keep k _ _ (RdL.nth j rd (by lia));have ki:=hk _ (mem i hi);have kj:=hk _ (mem j hj);unfold jN at hb;split at hb
 . rename_i hd;unfold kas_ask;generalize ds.getD i .non = x at ri hb hd ki;generalize ds.getD j .non = y at rj hb hd kj;generalize its.getD i Value.none = u at ri;generalize its.getD j Value.none = v at rj;generalize bo (ds.getD 0 .non) = n0 at ki kj;by_cases h3:n0 < 3
   . rw [if_pos h3,keyLt'_oneType];refine Jq (s:={ s with heap:=h' }) ri rj ?_ hb c;have:=ki.1;have k1:n0 = 1\/n0 = 2:=by lia
     rcases k1 with k1 | k1
     . exact .inl ⟨by lia,by lia⟩
     . exact .inr ⟨by lia,by lia⟩
   . rw [if_neg h3]
     have tx:∀ z:D,bo z = n0->∃ p r,z = .tup (p::r)/\((n0 = 3/\bo p = 1)\/(n0 = 4/\bo p = 2)):=fun z hz=>by
      cases z<;>first | (simp [bo] at hz;lia) | skip
      rename_i l
      cases l with
      | nil=>simp [bo] at hz;lia
      | cons p r=>cases p<;>first | (simp [bo] at hz;lia) | exact ⟨_,_,rfl,by simp [bo] at hz ⊢;lia⟩
     obtain ⟨p1,r1,rfl,w1⟩:=tx x ki.2;obtain ⟨p2,r2,rfl,w2⟩:=tx y kj.2;unfold RdV at ri rj;obtain ⟨a1,i1,rfl,⟨o1,g1,c1,m1,d1⟩,t1⟩:=ri;obtain ⟨a2,i2,rfl,⟨o2,g2,c2,m2,d2⟩,t2⟩:=rj;have z1:i1.size = (p1::r1).length:=by simpa using t1.length
     have z2:i2.size = (p2::r2).length:=by simpa using t2.length
     unfold ltD at hb;unfold dep at hd;refine kat_lt (s:={ s with heap:=h' }) g1 d1 g2 d2 (uS (s:={ s with heap:=h' }) (p1::r1) (p2::r2) i1.toList i2.toList 0 t1 t2 (by lia) hb (by rw [z1,z2]) (fun _ x y hx hy=>?_) c);cases hx;cases hy;rcases w1 with ⟨e,w1⟩ | ⟨e,w1⟩<;>rcases w2 with ⟨e',w2⟩ | ⟨e',w2⟩<;>first | (exact .inl ⟨w1,w2⟩) | (exact .inr ⟨w1,w2⟩) | lia
 . cases hb
theorem tq {X:Cx} (hu:X.A.units+200 < cLine):cm X (.builtin "sorted") (fun xs H Q=>∃ F ds v,xs = [v]/\dt X.K H F (.lst ds) v/\sortable ds = true/\∀ p ys,H p = none->aF X.K H F (eU ds) ys->Q (.ref p) (upd H p (.lst ys))):=by
 intro pins s σ H xs us Q I r h;obtain ⟨F,ds,v,rfl,rb,hs,q⟩:=h;obtain ⟨a,ws,rfl,hl,rl⟩:=rb.lst;obtain ⟨u,rfl,rx⟩:=vals1 r;cases rx;obtain ⟨its,n,rv,ho,hz⟩:=hl.obj I;obtain ⟨h64,hk,hlt⟩:=dg hs;have rd:=kZ I ds ws its rl rv (rm hs);have l1:=rl.length;have l2:=rv.length;have l3:its.length = ds.length:=by lia
 have isl:s.heap.IsList a its.toArray:=⟨_,ho,rfl,n,rfl⟩;have out:ft (gY ds) its = (if its.length < 2 then its else (ans (gY ds) (kas_sort its.length)).toList.map fun i=>its.getD i Value.none):=rfl
 have hlen:(ft (gY ds) its).length = its.length:=by
  rw [out];by_cases h:its.length < 2
  . rw [if_pos h]
  . rw [if_neg h,aq,(fL its.length).length_eq,iu]
 have small:∀ i∈(ans (gY ds) (kas_sort its.length)).toList,i < its.length:=fun i hi=>by simpa using (fL its.length).mem_iff.mp hi
 -- the values in their new places
 have hv:∃ ys,Vals ys (ft (gY ds) its)/\aF X.K H F (eU ds) ys:=by
  rw [out];unfold eU;by_cases h:its.length < 2
  . rw [if_pos h,if_pos (by lia)];exact ⟨ws,rv,rl⟩
  . rw [if_neg h,if_neg (by lia),<- l3];exact ⟨_,pb rv _ fun i hi=>by rw [l2];exact small i hi,ph rl _ fun i hi=>by rw [<- l3];exact small i hi⟩
 obtain ⟨ys,vy,ry⟩:=hv;refine zY (lt:=gY ds) (κ:=if bo (ds.getD 0 .non) < 3 then oneType' else tuples' true) isl (by lia) hlen (fun h2 A' h' hA k C c=>?_) (fun A' h' hA k i j hi hj C c=>?_) ?_
 . exact Ew (s:={ s with heap:=h' }) (RdL.keep k ds its rd) hk h2 c
 . exact JD hu hA rd l3 hs k i j hi hj C c
 . obtain ⟨e,he⟩:=sortedAll_at s.heap its (ft (gY ds) its).toArray;refine ⟨.ref (s.heap.objs.size+1),upd H (s.heap.objs.size+1) (.lst ys),I.laid (t':=s.toks) (fun b u hb=>sortedAll_old hb) (pC _) ⟨?_,_,e,vy,he⟩,rfl,q _ _ (I.hok.fresh (pC _)) ry⟩;rw [ry.length,qk,bP]
   lia
end PP
end
section
namespace PP
open PySem PySem.W PyProof.Rows
section
variable {prog:Program} {w:World} {A:Around} {E:Value->Shared->Prop} {s:Shared}
end
end PP
end
section
namespace PP
open PySem L2 PySem.SeqAt PyProof.Rows PySem.W
variable [Tbs]
end PP
end
section
namespace PP
open PySem L2 PyProof.Rows
variable [Tbs]
section
variable {K:PySem.W.Frag} {cx:Cl} {X:Cx}
theorem fM {H:Hp} {F:Addr->Prop} {d:D} {v:V} (r:Rel K H F d v):RelM false K H F d v:=r
noncomputable def rC (K:PySem.W.Frag) (op:Cop):R2:=fun x y H Q=>∃ F a b k,dt K H F a x/\dt K H F b y/\wZ op a b = some k/\Q (.bl k) H
theorem Ll {p:Int->Int->Bool} {a b:D} {k:Bool} (h:Lm p a b = some k):∃ i j,a = .int i/\b = .int j/\k = p i j:=by
 unfold Lm at h;split at h
 . cases h;exact ⟨_,_,rfl,rfl,rfl⟩
 . cases h
theorem Jx {a b:D} {k:Bool} (h:inD a b = some k):(∃ ds,(b = .lst ds\/b = .tup ds)/\(dep a<=150/\bM ds < 99999)/\k = ds.any fun y=>eqD y a)\/∃ x y,a = .str x/\b = .str y/\k = LA y x:=by
 unfold inD at h;split at h
 . split at h
   . cases h;exact .inl ⟨_,.inl rfl,‹_›,rfl⟩
   . cases h
 . split at h
   . cases h;exact .inl ⟨_,.inr rfl,‹_›,rfl⟩
   . cases h
 . split at h
   . cases h;exact .inr ⟨_,_,rfl,rfl,rfl⟩
   . cases h
 . cases h
theorem sf:OpR X (compareOp .NotIn) (fun x y H Q=>∃ i j,x = .str i/\y = .str j/\Q (.bl (!LA j i)) H):=by
 intro pins s σ H x y v u Q I rx ry h;obtain ⟨i,j,rfl,rfl,q⟩:=h;obtain ⟨t,rfl⟩:=rx;obtain ⟨t',rfl⟩:=ry;exact PySem.P.notIn_str ⟨.bl _,H,I,rfl,q⟩
theorem OpR.imp {f:Value->Value->Sem Value} {r r':R2} (h:OpR X f r) (w:∀ x y H Q,r' x y H Q->r x y H Q):OpR X f r':=fun pins s σ H x y v u Q I rx ry q=>h pins s σ H x y v u Q I rx ry (w _ _ _ _ q)
theorem opC (hu:X.A.units+200 < cLine) {op:Cop} {o:CmpOp} (ho:yU op o = true):OpR X (compareOp o) (rC X.K op):=by
 cases op<;>cases o<;>first | (exact absurd ho ah) | skip
 . exact OpR.imp (Lq hu) fun x y H Q ⟨F,a,b,k,ra,rb,e,q⟩=>⟨F,a,b,k,ra,rb,e,q⟩
 . refine OpR.imp ND fun x y H Q zz=>?_;obtain ⟨F,a,b,k,ra,rb,e,q⟩:=zz;obtain ⟨i,j,rfl,rfl,rfl⟩:=Ll e;exact ⟨i,j,ra.int,rb.int,q⟩
 . refine OpR.imp ((Lu hu).or NF) fun x y H Q zz=>?_;obtain ⟨F,a,b,k,ra,rb,e,q⟩:=zz;change (if gJ a b = true then some (eqD a b) else if NI a b = true then some false else none) = some k at e;split at e
   . cases e;exact .inl ⟨F,a,b,ra,rb,‹_›,q⟩
   . split at e
     . rename_i hm;cases e;cases a<;>cases b<;>first | (cases hm;done) | skip
       . rw [ra.int,rb.str];exact .inr ⟨rfl,q⟩
       . rw [ra.str,rb.int];exact .inr ⟨rfl,q⟩
     . cases e
 . refine OpR.imp (Lo hu) fun x y H Q zz=>?_;obtain ⟨F,a,b,k,ra,rb,e,q⟩:=zz;change (if gJ a b = true then some (!eqD a b) else none) = some k at e;split at e
   . cases e;exact ⟨F,a,b,ra,rb,‹_›,q⟩
   . cases e
 . intro pins s σ H x y v u Q I rx ry h;obtain ⟨F,a,b,k,ra,rb,e,q⟩:=h;rcases Jx e with ⟨ds,hb,hd,rfl⟩ | ⟨x',y',rfl,rfl,rfl⟩
   . refine Lr hu pins s σ H x y v u Q I rx ry ⟨F,a,ds,ra,?_,hd,q⟩;rcases hb with rfl | rfl
     . exact .inl rb
     . exact .inr rb
   . exact Ar pins s σ H x y v u Q I rx ry ⟨x',y',ra.str,rb.str,q⟩
 . intro pins s σ H x y v u Q I rx ry h;obtain ⟨F,a,b,k,ra,rb,e,q⟩:=h;change (inD a b).map (!·) = some k at e;rw [aE] at e;obtain ⟨k',e,rfl⟩:=e;rcases Jx e with ⟨ds,hb,hd,rfl⟩ | ⟨x',y',rfl,rfl,rfl⟩
   . refine Aq hu pins s σ H x y v u Q I rx ry ⟨F,a,ds,ra,?_,hd,q⟩;rcases hb with rfl | rfl
     . exact .inl rb
     . exact .inr rb
   . exact sf pins s σ H x y v u Q I rx ry ⟨x',y',ra.str,rb.str,q⟩
theorem Mj {op:Cop} {a b:E} {δ:Loc} {d:D} {δ':Loc} (ev:evE cx (.cmp op a b) δ = some (d,δ')):∃ x δ1 y k,evE cx a δ = some (x,δ1)/\evE cx b δ1 = some (y,δ')/\wZ op x y = some k/\d = .bl k:=by
 simp only [evE,aj,ag] at ev;obtain ⟨⟨x,δ1⟩,ea,⟨y',δ2⟩,eb,k,hd,e⟩:=ev;cases e;exact ⟨x,δ1,y',k,ea,eb,hd,rfl⟩
theorem IJ {op:Cop} {a b:E} {δ:Loc} {k:Bool} {δ':Loc} (ev:evT cx (.cmp op a b) δ = some (k,δ')):∃ x δ1 y,evE cx a δ = some (x,δ1)/\evE cx b δ1 = some (y,δ')/\wZ op x y = some k:=by
 simp only [evT,aj,ag] at ev;obtain ⟨⟨x,δ1⟩,ea,⟨y',δ2⟩,eb,k,hd,e⟩:=ev;cases e;exact ⟨x,δ1,y',ea,eb,hd⟩
theorem Hb {a b:E} {y z:Expr} {op:Cop} {o:CmpOp} {pos:Pos} (hu:X.A.units+200 < cLine) (ho:yU op o = true) (pc:(!bJ a || np b) = true) (ha:PE X y (tE X.K cx a)) (hb:PE X z (tE X.K cx b)) (hm:behindInMarks o z = false) :
 PE X (.Compare y [o] [z] pos) (tE X.K cx (.cmp op a b)):=by
 refine PE.imp (HJ (opC hu ho) ha hb hm) fun σ H Q h=>?_;obtain ⟨G,F,δ,d,δ',ok,ev,post⟩:=h;obtain ⟨x,δ1,y',k,ea,eb,hd,rfl⟩:=Mj ev;exact two ok ea eb pc fun v u H2 F2 st sm ok2 r1 r2=>⟨F2,x,y',k,r1.b,r2.b,hd,post _ H2 F2 st sm ok2 (fM (jh k))⟩
theorem CH {a b:E} {y z:Expr} {op:Cop} {o:CmpOp} {pos:Pos} (hu:X.A.units+200 < cLine) (ho:yU op o = true) (pc:(!bJ a || np b) = true) (ha:PE X y (tE X.K cx a)) (hb:PE X z (tE X.K cx b)) (hm:behindInMarks o z = false) :
 PT X (.Compare y [o] [z] pos) (tT X.K cx (.cmp op a b)):=by
 refine PT.imp (Hz (opC hu ho) ha hb hm) fun σ H Q h=>?_;obtain ⟨G,F,δ,k,δ',ok,ev,post⟩:=h;obtain ⟨x,δ1,y',ea,eb,hd⟩:=IJ ev;exact two ok ea eb pc fun v u H2 F2 st sm ok2 r1 r2=>⟨F2,x,y',k,r1.b,r2.b,hd,k,rfl,post H2 F2 st sm ok2⟩
theorem dX {e:E} {H:Hp} {F:Addr->Prop} {d:D} {v:V} (n:(!bJ e) = true) (h:RelM (bJ e) K H F d v):Rel K H F d v:=by
 have e1:bJ e = false:=by simpa using n
 rw [e1] at h;exact h
theorem snd_and {a b:E} {y z:Expr} {r:List Expr} {pos:Pos} (na:(!bJ a) = true) (nb:(!bJ b) = true) (ha:PE X y (tE X.K cx a)) (hb:PE X (.BoolOp .And (z::r) pos) (tE X.K cx b)):PE X (.BoolOp .And (y::z::r) pos) (tE X.K cx (.and a b)):=by
 refine PE.imp (DL ha hb) fun σ H Q h=>?_;obtain ⟨G,F,δ,d,δ',ok,ev,post⟩:=h;simp only [evE,aj,ag] at ev;obtain ⟨⟨x,δ1⟩,ea,ev⟩:=ev;refine ⟨G,F,δ,x,δ1,ok,ea,fun v H1 F1 st1 sm1 ok1 r1=>?_⟩;replace r1:=dX na r1;have np1:np (.and a b) = (np a && np b):=rfl
 cases x with
 | bl k =>
   unfold Rel at r1;refine ⟨k,r1,?_⟩
   cases k with
   | true =>
     rw [if_pos rfl];refine ⟨G,F1,δ1,d,δ',ok1,ev,fun u H2 F2 st2 sm2 ok2 r2=>post u H2 F2 (st1.trans st2) (fun n=>?_) ok2 (fM (dX nb r2))⟩;rw [np1,aa] at n
     exact (sm1 n.1).trans (sm2 n.2)
   | false =>
     rw [if_neg ah];cases ev
     exact post _ H1 F1 st1 (fun n=>by rw [np1,aa] at n;exact sm1 n.1) ok1 (fM (jh false))
 | _=>cases ev
theorem CA {a b:E} {y z:Expr} {r:List Expr} {pos:Pos} (na:(!bJ a) = true) (nb:(!bJ b) = true) (ha:PE X y (tE X.K cx a)) (hb:PE X (.BoolOp .Or (z::r) pos) (tE X.K cx b)):PE X (.BoolOp .Or (y::z::r) pos) (tE X.K cx (.or a b)):=by
 refine PE.imp (Jl ha hb) fun σ H Q h=>?_;obtain ⟨G,F,δ,d,δ',ok,ev,post⟩:=h;simp only [evE,aj,ag] at ev;obtain ⟨⟨x,δ1⟩,ea,ev⟩:=ev;refine ⟨G,F,δ,x,δ1,ok,ea,fun v H1 F1 st1 sm1 ok1 r1=>?_⟩;replace r1:=dX na r1;have np1:np (.or a b) = (np a && np b):=rfl
 cases x with
 | bl k =>
   unfold Rel at r1;refine ⟨k,r1,?_⟩
   cases k with
   | false =>
     rw [if_neg ah];refine ⟨G,F1,δ1,d,δ',ok1,ev,fun u H2 F2 st2 sm2 ok2 r2=>post u H2 F2 (st1.trans st2) (fun n=>?_) ok2 (fM (dX nb r2))⟩;rw [np1,aa] at n
     exact (sm1 n.1).trans (sm2 n.2)
   | true =>
     rw [if_pos rfl];cases ev
     exact post _ H1 F1 st1 (fun n=>by rw [np1,aa] at n;exact sm1 n.1) ok1 (fM (jh true))
 | _=>cases ev
theorem GV {a:E} {y:Expr} {pos:Pos} (na:(!bJ a) = true) (ha:PE X y (tE X.K cx a)):PE X (.UnaryOp .Not y pos) (tE X.K cx (.not a)):=by
 refine PE.imp (DF ha) fun σ H Q h=>?_;obtain ⟨G,F,δ,d,δ',ok,ev,post⟩:=h;simp only [evE,aj,ag] at ev;obtain ⟨⟨x,δ1⟩,ea,ev⟩:=ev;refine ⟨G,F,δ,x,δ1,ok,ea,fun v H1 F1 st1 sm1 ok1 r1=>?_⟩;replace r1:=dX na r1
 cases x with
 | bl k =>
   unfold Rel at r1;cases ev
   exact ⟨k,r1,post _ H1 F1 st1 sm1 ok1 (fM (jh _))⟩
 | _=>cases ev
theorem PT.pw {op:BoolOp} {vs:List Expr} {pos:Pos} {t:TT} (h:PT X (.BoolOp op vs pos) t):PW X (.BoolOp op vs pos) t:=fun _ pins s σ H Q I q=>h pins s σ H Q I q
theorem uc {a b:E} {y z:Expr} {r:List Expr} {pos:Pos} (ha:PT X y (tT X.K cx a)) (hb:PW X (.BoolOp .And (z::r) pos) (tT X.K cx b)):PT X (.BoolOp .And (y::z::r) pos) (tT X.K cx (.and a b)):=by
 refine PT.imp (wB ha hb).pt fun σ H Q h=>?_;obtain ⟨G,F,δ,d,δ',ok,ev,post⟩:=h;simp only [evT,aj,ag] at ev;obtain ⟨⟨k,δ1⟩,ea,ev⟩:=ev;have np1:np (.and a b) = (np a && np b):=rfl;refine ⟨G,F,δ,k,δ1,ok,ea,fun H1 F1 st1 sm1 ok1=>?_⟩
 cases k with
 | true =>
   rw [if_pos rfl];refine ⟨G,F1,δ1,d,δ',ok1,ev,fun H2 F2 st2 sm2 ok2=>post H2 F2 (st1.trans st2) (fun n=>?_) ok2⟩;rw [np1,aa] at n
   exact (sm1 n.1).trans (sm2 n.2)
 | false =>
   rw [if_neg ah];cases ev;exact post H1 F1 st1 (fun n=>by rw [np1,aa] at n;exact sm1 n.1) ok1
theorem xM {a b:E} {y z:Expr} {r:List Expr} {pos:Pos} (ha:PT X y (tT X.K cx a)) (hb:PW X (.BoolOp .Or (z::r) pos) (tT X.K cx b)):PT X (.BoolOp .Or (y::z::r) pos) (tT X.K cx (.or a b)):=by
 refine PT.imp (Dq ha hb).pt fun σ H Q h=>?_;obtain ⟨G,F,δ,d,δ',ok,ev,post⟩:=h;simp only [evT,aj,ag] at ev;obtain ⟨⟨k,δ1⟩,ea,ev⟩:=ev;have np1:np (.or a b) = (np a && np b):=rfl;refine ⟨G,F,δ,k,δ1,ok,ea,fun H1 F1 st1 sm1 ok1=>?_⟩
 cases k with
 | false =>
   rw [if_neg ah];refine ⟨G,F1,δ1,d,δ',ok1,ev,fun H2 F2 st2 sm2 ok2=>post H2 F2 (st1.trans st2) (fun n=>?_) ok2⟩;rw [np1,aa] at n
   exact (sm1 n.1).trans (sm2 n.2)
 | true =>
   rw [if_pos rfl];cases ev;exact post H1 F1 st1 (fun n=>by rw [np1,aa] at n;exact sm1 n.1) ok1
theorem CG {a:E} {y:Expr} {pos:Pos} (ha:PT X y (tT X.K cx a)):PT X (.UnaryOp .Not y pos) (tT X.K cx (.not a)):=by
 refine PT.imp (Ds ha) fun σ H Q h=>?_;obtain ⟨G,F,δ,d,δ',ok,ev,post⟩:=h;simp only [evT,aj,ag] at ev;obtain ⟨⟨k,δ1⟩,ea,ev⟩:=ev;cases ev;exact ⟨G,F,δ,k,δ1,ok,ea,fun H1 F1 st1 sm1 ok1=>post H1 F1 st1 sm1 ok1⟩
theorem GZ {c a b:E} {t y z:Expr} {pos:Pos} (na:(!bJ a) = true) (nb:(!bJ b) = true) (hc:PT X t (tT X.K cx c)) (ha:PE X y (tE X.K cx a)) (hb:PE X z (tE X.K cx b)):PE X (.IfExp t y z pos) (tE X.K cx (.ite c a b)):=by
 refine PE.imp (DJ hc ha hb) fun σ H Q h=>?_;obtain ⟨G,F,δ,d,δ',ok,ev,post⟩:=h;simp only [evE,aj,ag] at ev;obtain ⟨⟨k,δ1⟩,ea,ev⟩:=ev;have np1:np (.ite c a b) = (np c && np a && np b):=rfl;refine ⟨G,F,δ,k,δ1,ok,ea,fun H1 F1 st1 sm1 ok1=>?_⟩
 cases k with
 | true =>
   rw [if_pos rfl];refine ⟨G,F1,δ1,d,δ',ok1,ev,fun u H2 F2 st2 sm2 ok2 r2=>post u H2 F2 (st1.trans st2) (fun n=>?_) ok2 (fM (dX na r2))⟩;rw [np1,aa,aa] at n
   exact (sm1 n.1.1).trans (sm2 n.1.2)
 | false =>
   rw [if_neg ah];refine ⟨G,F1,δ1,d,δ',ok1,ev,fun u H2 F2 st2 sm2 ok2 r2=>post u H2 F2 (st1.trans st2) (fun n=>?_) ok2 (fM (dX nb r2))⟩;rw [np1,aa,aa] at n;exact (sm1 n.1.1).trans (sm2 n.2)
theorem Ok.look {σ:L2.St} {G:Gh} {H:Hp} {F:Addr->Prop} {δ:Loc} (ok:Ok K G F σ H δ) {i:Nat} {d:D} (e:get δ i = some d):∃ v,σ[i]? = some (some v)/\dt K H F d v/\∃ F',Step G F H F' H/\Ok K G F' σ H (PP.demote δ i)/\Rel K H F' d v:=by
 unfold get at e
 cases q:δ[i]? with
 | none=>rw [q] at e;cases e
 | some s =>
   rw [q] at e
   cases s with
   | no=>cases e
   | fnc _ _=>cases e
   | odc _ _=>cases e
   | val d' =>
     cases e;obtain ⟨v,e1,r⟩:=ok.sl i _ q;refine ⟨v,e1,.inl r,F,Step.refl,?_,r⟩
     unfold PP.demote;rw [q];exact ok
   | own ds =>
     cases e;obtain ⟨a,xs,e1,h1,h2,h3,h4⟩:=ok.sl i _ q;obtain ⟨o1,o2⟩:=ok.demote (d:=.lst ds) q rfl e1;refine ⟨.ref a,e1,.inr ⟨a,xs,ds,rfl,rfl,h3,h4⟩,fun b=>F b/\b≠a,⟨fun _ _ _ z _=>z,fun b z=>.inl z.1,fun b o r z e=>⟨⟨z,fun w=>h2.2 (by rw [<- w];exact r)⟩,e⟩,fun _ ps e=>⟨ps,e⟩⟩,?_,o2⟩;unfold PP.demote;rw [q];exact o1
theorem Ok.lookV {σ:L2.St} {G:Gh} {H:Hp} {F:Addr->Prop} {δ:Loc} (ok:Ok K G F σ H δ) {i:Nat} {d:D} (e:EN δ i = some d):∃ v,σ[i]? = some (some v)/\∃ F',Step G F H F' H/\Ok K G F' σ H (PP.demote δ i)/\Rel K H F' d v:=by
 unfold EN at e;split at e
 . rename_i ks ds q;cases e;obtain ⟨a,xs,e1,h1,h2,_⟩:=ok.sl i _ q;obtain ⟨o1,o2⟩:=ok.demote (d:=.dct ks ds) q rfl e1;refine ⟨.ref a,e1,fun b=>F b/\b≠a,⟨fun _ _ _ z _=>z,fun b z=>.inl z.1,fun b o r z e=>⟨⟨z,fun w=>h2.2 (by rw [<- w];exact r)⟩,e⟩,fun _ ps e=>⟨ps,e⟩⟩,?_,o2⟩;unfold PP.demote;rw [q];exact o1
 . obtain ⟨v,e1,_,h⟩:=ok.look e;exact ⟨v,e1,h⟩
theorem GP {i:Nat} {x:Str} {pos:Pos} (hN:X.N[i]? = some x) (hv:Vis X.env.scope x) (hd:(x == ("__debug__":Str)) = false) (hcd:(x == ("__classdict__":Str)) = false):PE X (.Name x pos) (tE X.K cx (.var i)):=by
 refine PE.imp (jj hN hv hd hcd) fun σ H Q h=>?_;obtain ⟨G,F,δ,d,δ',ok,ev,post⟩:=h;simp only [evE,aj,ag] at ev;obtain ⟨d',e1,e⟩:=ev;cases e;obtain ⟨v,ev,F',st,ok',r⟩:=ok.lookV e1;exact ⟨v,ev,post v H F' st (fun _=>Sim.refl H) ok' (fM r)⟩
theorem KC {i:Nat} {x:Str} {pos:Pos} (hN:X.N[i]? = some x) (hv:Vis X.env.scope x) (hd:(x == ("__debug__":Str)) = false) (hcd:(x == ("__classdict__":Str)) = false):PE X (.Name x pos) (tE X.K cx (.pk i)):=by
 refine PE.imp (jj hN hv hd hcd) fun σ H Q h=>?_;obtain ⟨G,F,δ,d,δ',ok,ev,post⟩:=h;simp only [evE,aj,ag] at ev;obtain ⟨d',e1,e⟩:=ev;cases e;obtain ⟨v,ev,rb,_⟩:=ok.look e1;exact ⟨v,ev,post v H F Step.refl (fun _=>Sim.refl H) ok rb⟩
theorem Cr {H:Hp} {F:Addr->Prop} {d:D} {v:V} {k:Bool} (r:dt K H F d v) (e:tv d = some k):MB K v H k:=by
 cases d with
 | non=>cases e;rcases r with r | ⟨_,_,_,z,_⟩;(unfold Rel at r;subst r;rfl);cases z
 | bl b=>cases e;have:=r.bl;subst this;rfl
 | int i=>cases e;have:=r.int;subst this;rfl
 | str x =>
   change (if x.length<=sizeLine then some ((x.length:Int) != 0) else none) = some k at e;split at e
   . cases e;have:=r.str;subst this;exact ⟨‹_›,rfl⟩
   . cases e
 | lst ds =>
   cases e;obtain ⟨a,xs,rfl,h1,h2⟩:=r.lst;refine .inl ⟨xs,h1.sq,?_⟩;have:=h2.length
   cases ds<;>cases xs<;>first | rfl | (simp at this)
 | tup ds =>
   cases e;obtain ⟨a,xs,rfl,h1,h2⟩:=r.tup;refine .inr (.inl ⟨xs,h1,?_⟩);have:=h2.length
   cases ds<;>cases xs<;>first | rfl | (simp at this)
 | fn _ _=>cases e
 | dct _ _=>cases e
theorem ub {i:Nat} {x:Str} {pos:Pos} {e:E} (he:e = .var i\/e = .pk i) (hN:X.N[i]? = some x) (hv:Vis X.env.scope x) (hd:(x == ("__debug__":Str)) = false) (hcd:(x == ("__classdict__":Str)) = false):PT X (.Name x pos) (tT X.K cx e):=by
 refine PT.imp (ux (jj hN hv hd hcd) fun _=>rfl) fun σ H Q h=>?_;obtain ⟨G,F,δ,k,δ',ok,ev,post⟩:=h
 have ev':∃ d,get δ i = some d/\tv d = some k/\δ = δ':=by
  rcases he with rfl | rfl
  . simp only [evT,aj,ag] at ev;obtain ⟨d,e1,k',e2,e⟩:=ev;cases e;exact ⟨d,e1,e2,rfl⟩
  . simp only [evT,aj,ag] at ev;obtain ⟨d,e1,k',e2,e⟩:=ev;cases e;exact ⟨d,e1,e2,rfl⟩
 obtain ⟨d,e1,e2,rfl⟩:=ev';obtain ⟨v,ev,rb,_⟩:=ok.look e1;exact ⟨v,ev,k,Cr rb e2,post H F Step.refl (fun _=>Sim.refl H) ok⟩
theorem Ha {i:Int} {j:Nat} {pos:Pos}:PE X (.Constant (.int i) j pos) (tE X.K cx (.int i)) :=
 PE.imp DI fun σ H Q ⟨G,F,δ,d,δ',ok,ev,post⟩=>by cases ev;exact post _ H F Step.refl (fun _=>Sim.refl H) ok (fM (dh i))
theorem KH {i:Bool} {j:Nat} {pos:Pos}:PE X (.Constant (.bool i) j pos) (tE X.K cx (.bl i)) :=
 PE.imp Jn fun σ H Q ⟨G,F,δ,d,δ',ok,ev,post⟩=>by cases ev;exact post _ H F Step.refl (fun _=>Sim.refl H) ok (fM (jh i))
theorem GR {i:Str} {j:Nat} {pos:Pos}:PE X (.Constant (.str i) j pos) (tE X.K cx (.str i)) :=
 PE.imp DD fun σ H Q ⟨G,F,δ,d,δ',ok,ev,post⟩=>by cases ev;exact post _ H F Step.refl (fun _=>Sim.refl H) ok (fM (iH i))
theorem GW {j:Nat} {pos:Pos}:PE X (.Constant .none j pos) (tE X.K cx .non) :=
 PE.imp Li fun σ H Q ⟨G,F,δ,d,δ',ok,ev,post⟩=>by cases ev;exact post _ H F Step.refl (fun _=>Sim.refl H) ok (fM rP)
theorem CC {g:Nat} {x:Str} {u:Value} {v:V} {pos:Pos} (hg:Gl X x) (hm:X.mg x = some u) (r:RelV v u) (hr:∀ d,cx.gl[g]? = some d->∀ H F,Rel X.K H F d v) (hd:(x == ("__debug__":Str)) = false):PE X (.Name x pos) (tE X.K cx (.glob g)):=by
 refine PE.imp (HI hg hm r hd) fun σ H Q h=>?_;obtain ⟨G,F,δ,d,δ',ok,ev,post⟩:=h;simp only [evE,aj,ag] at ev;obtain ⟨d',e1,e⟩:=ev;cases e;exact post v H F Step.refl (fun _=>Sim.refl H) ok (fM (hr d e1 H F))
theorem GX {a:E} {y:Expr} {pos:Pos} (n:(!bJ a) = true) (ha:PE X y (tE X.K cx a)):PE X (.UnaryOp .USub y pos) (tE X.K cx (.neg a)):=by
 refine PE.imp (Nz Kq ha) fun σ H Q h=>?_;obtain ⟨G,F,δ,d,δ',ok,ev,post⟩:=h;simp only [evE,aj,ag] at ev;obtain ⟨⟨x,δ1⟩,ea,ev⟩:=ev
 cases x with
 | int i =>
   cases ev;refine ⟨G,F,δ,_,_,ok,ea,fun v H1 F1 st sm ok1 r=>?_⟩;have:=r.b.int;subst this
   exact ⟨i,rfl,post _ H1 F1 st sm ok1 (fM (dh _))⟩
 | _=>cases ev
end
section
variable {K:PySem.W.Frag} {cx:Cl} {X:Cx}
theorem rA:PA X [] (tEs X.K cx .nil):=by
 refine fun pos pins s σ H Q I h=>iI pos pins s σ H Q I ?_;obtain ⟨G,F,δ,ds,δ',ok,ev,post⟩:=h;simp only [gI] at ev;cases ev;exact post [] H F Step.refl (fun _=>Sim.refl H) ok ⟨rfl,rfl⟩
theorem nI {a:E} {es:Es} {y:Expr} {ys:List Expr} (pc:(!bJ a || npS es) = true) (ha:PE X y (tE X.K cx a)) (hr:PA X ys (tEs X.K cx es)) (hs:starEach (y::ys) X.env = (false,eval y X.env)::starEach ys X.env):PA X (y::ys) (tEs X.K cx (.cons a es)):=by
 refine fun pos pins s σ H Q I h=>fb ha hr hs pos pins s σ H Q I ?_;obtain ⟨G,F,δ,ds,δ',ok,ev,post⟩:=h;simp only [gI,aj,ag] at ev;obtain ⟨⟨x,δ1⟩,ea,⟨ds',δ2⟩,eb,e⟩:=ev;cases e;refine ⟨G,F,δ,x,δ1,ok,ea,fun v H1 F1 st1 sm1 ok1 r1=>⟨G,F1,δ1,ds',δ2,ok1,eb,fun vs H2 F2 st2 sm2 ok2 r2=>?_⟩⟩;refine post (v::vs) H2 F2 (st1.trans st2) (fun z=>?_) ok2 ⟨x,ds',v,vs,rfl,rfl,RelM.step ok1.fd st2 (fun z=>sm2 (by rw [z] at pc;simpa using pc)) r1,r2⟩;have z':(np a && npS es) = true:=z;rw [aa] at z';exact (sm1 z'.1).trans (sm2 z'.2)
theorem lR.rl {H:Hp} {F:Addr->Prop}:∀ {es:Es} {ds:List D} {vs:List V},iJ es = true->lR K H F es ds vs->aF K H F ds vs
 | .nil,ds,vs,_,h=>by obtain ⟨rfl,rfl⟩:=h;exact aF.nil
 | .cons e es,ds,vs,n,h=>by
   obtain ⟨d,ds',v,vs',rfl,rfl,h1,h2⟩:=h;have n':(!bJ e && iJ es) = true:=n;rw [aa] at n';exact aF.cons (dX n'.1 h1) (lR.rl n'.2 h2)
noncomputable def vt (K:PySem.W.Frag) (H:Hp) (F:Addr->Prop):List D->List V->Prop
 | [],vs=>vs = []
 | d::ds,vs=>∃ v vs',vs = v::vs'/\dt K H F d v/\vt K H F ds vs'
theorem lR.bl {H:Hp} {F:Addr->Prop}:∀ {es:Es} {ds:List D} {vs:List V},lR K H F es ds vs->vt K H F ds vs
 | .nil,ds,vs,h=>by obtain ⟨rfl,rfl⟩:=h;rfl
 | .cons e es,ds,vs,h=>by
   obtain ⟨d,ds',v,vs',rfl,rfl,h1,h2⟩:=h;exact ⟨v,vs',rfl,h1.b,lR.bl h2⟩
theorem yQ {f:List D->Option D} {es:Es} {δ δ':Loc} {d:D} (ev:(do let (ds,δ1) <- gI cx es δ;return (<- f ds,δ1)) = some (d,δ')):∃ ds,gI cx es δ = some (ds,δ')/\f ds = some d:=by
 simp only [aj,ag] at ev;obtain ⟨⟨ds,δ1⟩,ea,d',hd,e⟩:=ev;cases e;exact ⟨ds,ea,hd⟩
theorem GQ {es:Es} {xs:List Expr} {k:Nat} {pos:Pos} (n:iJ es = true) (h:PA X xs (tEs X.K cx es)):PE X (.Tuple xs k pos) (tE X.K cx (.tup es)):=by
 refine PE.imp (Lh h) fun σ H Q h=>?_;obtain ⟨G,F,δ,d,δ',ok,ev,post⟩:=h;simp only [evE,aj,ag] at ev;obtain ⟨⟨ds,δ1⟩,ea,ev⟩:=ev;split at ev
 . rename_i hz;cases ev;refine ⟨G,F,δ,ds,δ1,ok,ea,fun vs H1 F1 st1 sm1 ok1 r1=>?_⟩;have r:=r1.rl n;refine ⟨by rw [r.length];exact hz,fun p hp=>?_⟩;obtain ⟨o1,o2,o3,o4⟩:=ok1.laid hp (.tup vs);exact post _ _ _ (st1.trans o2) (fun z=>(sm1 z).trans o3) o1 (fM (gD ok1 hp r))
 . cases ev
theorem GY {es:Es} {xs:List Expr} {pos:Pos} (n:iJ es = true) (h:PA X xs (tEs X.K cx es)):PE X (.List xs pos) (tE X.K cx (.lst es)):=by
 refine PE.imp (DG h) fun σ H Q h=>?_;obtain ⟨G,F,δ,d,δ',ok,ev,post⟩:=h;simp only [evE,aj,ag] at ev;obtain ⟨⟨ds,δ1⟩,ea,ev⟩:=ev;split at ev
 . rename_i hz;cases ev;refine ⟨G,F,δ,ds,δ1,ok,ea,fun vs H1 F1 st1 sm1 ok1 r1=>?_⟩;have r:=r1.rl n;refine ⟨by rw [r.length];exact hz,fun p hp=>?_⟩;obtain ⟨o1,o2,o3,o4⟩:=ok1.laid hp (.lst vs);exact post _ _ _ (st1.trans o2) (fun z=>(sm1 z).trans o3) o1 (fM (jW ok1 hp r))
 . cases ev
theorem aF.at {H:Hp} {F:Addr->Prop} {ds:List D} {xs:List V} {i:Int} {d:D} (h:aF K H F ds xs) (e:atI ds i = some d):∃ v,atI xs i = some v/\Rel K H F d v:=by
 unfold atI at e ⊢;rw [h.length]
 cases q:ixN ds.length i with
 | none=>rw [q] at e;cases e
 | some j =>
   rw [q] at e;exact h.get e
theorem KD {a b:E} {y z:Expr} {pos:Pos} (pc:(!bJ a || np b) = true) (ha:PE X y (tE X.K cx a)) (hb:PE X z (tE X.K cx b)) (hp:PlainIx z):PE X (.Subscript y z pos) (tE X.K cx (.ix a b)):=by
 refine PE.imp (NA LS ha hb hp) fun σ H Q h=>?_;obtain ⟨G,F,δ,d,δ',ok,ev,post⟩:=h;simp only [evE,aj,ag] at ev;obtain ⟨⟨x,δ1⟩,ea,⟨y',δ2⟩,eb,d',hd,e⟩:=ev;cases e;dsimp only at eb hd post;refine two ok ea eb pc fun v u H2 F2 st sm ok2 r1 r2=>?_;unfold ixD at hd;split at hd
 . have e2:=r2.b.int;obtain ⟨p,xs,e1,h1,h2⟩:=r1.b.lst;obtain ⟨w,hw,rw'⟩:=h2.at hd;exact .inl ⟨p,xs,_,w,e1,e2,h1.sq,hw,post _ _ _ st sm ok2 (fM rw')⟩
 . have e2:=r2.b.int;obtain ⟨p,xs,e1,h1,h2⟩:=r1.b.tup;obtain ⟨w,hw,rw'⟩:=h2.at hd;exact .inr (.inl ⟨p,xs,_,w,e1,e2,h1,hw,post _ _ _ st sm ok2 (fM rw')⟩)
 . have e2:=r2.b.int;have e1:=r1.b.str;split at hd
   . rename_i hz;rw [aE] at hd;obtain ⟨c,hc,rfl⟩:=hd;exact .inr (.inr ⟨_,_,c,e1,e2,hz,hc,post _ _ _ st sm ok2 (fM (iH _))⟩)
   . cases hd
 . cases hd
theorem Ji {o:Eo} {l:Option Expr} (h:∀ e,o = .yes e->∃ y,l = some y/\(!bJ e) = true/\PE X y (tE X.K cx e)) (hn:o = .no->l = none):PO X l (tO X.K cx o):=by
 cases o with
 | no =>
   rw [hn rfl];intro pins s σ H Q I q;refine HD pins s σ H Q I ?_;obtain ⟨G,F,δ,d,δ',ok,ev,post⟩:=q;simp only [evO] at ev;cases ev
   exact post H F Step.refl (fun _=>Sim.refl H) ok
 | yes e =>
   obtain ⟨y,rfl,n,hy⟩:=h e rfl;intro pins s σ H Q I q;refine HC hy pins s σ H Q I ?_;obtain ⟨G,F,δ,d,δ',ok,ev,post⟩:=q;simp only [evO,aj,ag] at ev;obtain ⟨⟨x,δ1⟩,ea,ev⟩:=ev
   cases x with
   | int i =>
     cases ev
     exact ⟨G,F,δ,.int i,δ',ok,ea,fun v H1 F1 st1 sm1 ok1 r1=>⟨i,by have:=dX n r1;unfold Rel at this;exact this,post H1 F1 st1 sm1 ok1⟩⟩
   | _=>cases ev
theorem KA {a:E} {lo hi:Eo} {y:Expr} {l h:Option Expr} {pos p2:Pos} (pc:(!bJ a || (npO lo && npO hi)) = true) (ha:PE X y (tE X.K cx a)) (hl:PO X l (tO X.K cx lo)) (hh:PO X h (tO X.K cx hi)):PE X (.Subscript y (.Slice l h none p2) pos) (tE X.K cx (.sl a lo hi)):=by
 refine PE.imp (uC (xN.or (KN.or KO)) ha hl hh) fun σ H Q h=>?_;obtain ⟨G,F,δ,d,δ',ok,ev,post⟩:=h;simp only [evE,aj,ag] at ev;obtain ⟨⟨x,δ1⟩,ea,⟨l',δ2⟩,eb,⟨h',δ3⟩,ec,d',hd,e⟩:=ev;cases e;dsimp only at eb ec hd post;refine ⟨G,F,δ,x,δ1,ok,ea,fun v H1 F1 st1 sm1 ok1 r1=>⟨G,F1,δ1,l',δ2,ok1,eb,fun H2 F2 st2 sm2 ok2=>⟨G,F2,δ2,h',δ3,ok2,ec,fun H3 F3 st3 sm3 ok3=>?_⟩⟩⟩;have st:=st2.trans st3
 have rb:dt X.K H3 F3 x v:=by
  refine (RelM.step ok1.fd st (fun z=>?_) r1).b;rw [z] at pc;have pc':(npO lo && npO hi) = true:=by simpa using pc
  rw [aa] at pc';exact (sm2 pc'.1).trans (sm3 pc'.2)
 have fin:∀ w H4,hJ H3 H4->Ok X.K G F3 σ H4 δ3->Rel X.K H4 F3 d w->Q w H4:=fun w H4 s4 o4 r4=>post w H4 F3 ((st1.trans st).trans (Step.of_same s4)) (fun z=>by
  have z':(np a && npO lo && npO hi) = true:=z;rw [aa,aa] at z';exact (((sm1 z'.1.1).trans (sm2 z'.1.2)).trans (sm3 z'.2)).trans (.of s4)) o4 (fM r4)
 unfold slD at hd;split at hd
 . cases hd;obtain ⟨p,xs,e1,h1,h2⟩:=rb.lst;refine .inl ⟨p,xs,e1,h1.sq,fun q hq=>?_⟩;obtain ⟨o1,o2,o3,o4⟩:=ok3.laid hq (.lst (pR xs l' h'));exact fin _ _ (cj hq _) o1 (jW ok3 hq (h2.cut l' h'))
 . split at hd
   . cases hd
   . rename_i hw;cases hd;obtain ⟨p,xs,e1,h1,h2⟩:=rb.tup;refine .inr (.inl ⟨p,xs,e1,h1,by rw [h2.length];exact hw,fun q hq=>?_⟩);obtain ⟨o1,o2,o3,o4⟩:=ok3.laid hq (.tup (pR xs l' h'));exact fin _ _ (cj hq _) o1 (gD ok3 hq (h2.cut l' h'))
 . split at hd
   . cases hd;have e1:=rb.str;subst e1;exact .inr (.inr ⟨_,rfl,‹_›,fin _ _ (fun b o e=>e) ok3 (iH _)⟩)
   . cases hd
 . cases hd
noncomputable def spF (K:PySem.W.Frag) (f:List D->Option D):Sp:=fun vs H Q _=>∃ F ds d,FD F H/\TF F/\kf H/\aF K H F ds vs/\f ds = some d/\∀ v H',Sim H H'->kf H'->Rel K H' F d v->Q v H'
theorem CF {f:Nat} {es:Es} {x:Str} {y:Expr} {ys:List Expr} {k:Nat} {a:Addr} {fd:FuncData} {ps:List Str} {p pos:Pos} (n:iJ es = true) (fn:gf X.prog X.w X.K X.mg X.base CX0 k a fd ps (spF X.K (cx.call f))) (hr:iT k X.A) (hg:Gl X x)
 (hm:X.mg x = some (.ref a)) (hk:PySem.W.keepIn X.K (.ref a) = true) (hb:Binds X.K fd ps []) (hA:PA X (y::ys) (tEs X.K cx es)) (hd:(x == ("__debug__":Str)) = false) (he:starEach (y::ys) X.env = (false,eval y X.env)::starEach ys X.env) (hpl:(backTo pos (starEach ys X.env)).any (·.1) = false) :
 PE X (.Call (.Name x p) (y::ys) [] pos) (tE X.K cx (.call f es)):=by
 refine PE.imp (HK fn hr hg hm hk hb .nil (NB) hA hd he hpl) fun σ H Q h=>?_;obtain ⟨G,F,δ,d,δ',ok,ev,post⟩:=h;simp only [evE] at ev;obtain ⟨ds,ea,hd⟩:=yQ ev;refine ⟨G,F,δ,ds,δ',ok,ea,fun vs H1 F1 st1 sm1 ok1 r1=>?_⟩;show spF X.K (cx.call f) (vs++[]) H1 Q E0;rw [cc];exact ⟨F1,ds,d,ok1.fd,ok1.tf,ok1.tabs,r1.rl n,hd,fun v H2 s2 t2 r2=>post v H2 F1 (st1.trans (ok1.call s2 t2).2) (fun z=>(sm1 z).trans s2) (ok1.call s2 t2).1 (fM r2)⟩
theorem mM {e:E} {x:Expr} {es:Es} {f:List D->Option D} (hE:PE X x (tE X.K cx e)) (he:∀ whole,isTrue x X.env whole = (do let v <- whole;standAt x.pos;holding [v] (truthy v))) (n:bJ e = false)
 (e1:∀ δ,evE cx e δ = (do let (ds,δ1) <- gI cx es δ;return (<- f ds,δ1))) (e2:∀ δ,evT cx e δ = (do let (ds,δ1) <- gI cx es δ;let d <- f ds;return (<- tv d,δ1))):PT X x (tT X.K cx e):=by
 refine PT.imp (ux hE he) fun σ H Q h=>?_;obtain ⟨G,F,δ,k,δ',ok,ev,post⟩:=h;rw [e2] at ev;simp only [aj,ag] at ev;obtain ⟨⟨ds,δ1⟩,ea,d,hd,k',hk,e⟩:=ev;cases e;refine ⟨G,F,δ,d,δ1,ok,?_,fun v H1 F1 st1 sm1 ok1 r1=>⟨k,Cr r1.b hk,post H1 F1 st1 sm1 ok1⟩⟩;rw [e1];simp only [aj,ag];exact ⟨(ds,δ1),ea,d,hd,rfl⟩
noncomputable def rB (K:PySem.W.Frag) (f:List D->Option D):List V->Hp->VK->Prop:=fun xs H Q=>∃ F ds d,FD F H/\vt K H F ds xs/\f ds = some d/\∀ v H',hJ H H'->Rel K H' F d v->Q v H'
theorem cm.imp {f:Value} {r r':List V->Hp->VK->Prop} (h:cm X f r) (w:∀ xs H Q,r' xs H Q->r xs H Q):cm X f r':=fun pins s σ H xs us Q I rv q=>h pins s σ H xs us Q I rv (w _ _ _ q)
theorem b1 {H:Hp} {F:Addr->Prop} {d:D} {xs:List V} (h:vt K H F [d] xs):∃ v,xs = [v]/\dt K H F d v:=by
 obtain ⟨v,vs,rfl,h1,h2⟩:=h;cases h2;exact ⟨v,rfl,h1⟩
theorem b2 {H:Hp} {F:Addr->Prop} {d e:D} {xs:List V} (h:vt K H F [d,e] xs):∃ v u,xs = [v,u]/\dt K H F d v/\dt K H F e u:=by
 obtain ⟨v,vs,rfl,h1,u,us,rfl,h2,h3⟩:=h;cases h3;exact ⟨v,u,rfl,h1,h2⟩
theorem qv {F:Addr->Prop} {H:Hp} {p:Addr} (fd:FD F H) (hp:H p = none):¬ F p:=fd.none hp
theorem Mr:cm X (.builtin "len") (rB X.K Ii):=by
 refine cm.imp (tw.or tu) fun xs H Q zz=>?_;obtain ⟨F,ds,d,fd,r,e,q⟩:=zz;unfold Ii at e;split at e
 . split at e
   . cases e;obtain ⟨v,rfl,rv⟩:=b1 r;exact .inr ⟨_,by rw [rv.str],‹_›,q _ _ (hJ.refl H) (dh _)⟩
   . cases e
 . cases e;obtain ⟨v,rfl,rv⟩:=b1 r;obtain ⟨a,ys,rfl,h1,h2⟩:=rv.lst;exact .inl ⟨a,ys,rfl,.inl h1.sq,by rw [h2.length];exact q _ _ (hJ.refl H) (dh _)⟩
 . cases e;obtain ⟨v,rfl,rv⟩:=b1 r;obtain ⟨a,ys,rfl,h1,h2⟩:=rv.tup;exact .inl ⟨a,ys,rfl,.inr h1,by rw [h2.length];exact q _ _ (hJ.refl H) (dh _)⟩
 . cases e
theorem AR:cm X (.type "int") (fun xs H Q=>∃ x n,xs = [.str x]/\PySem.intText? x = some n/\x.length<=640/\Q (.int n) H):=by
 intro pins s σ H xs us Q I rv h;obtain ⟨x,n,rfl,h1,h2,q⟩:=h;obtain ⟨u,rfl,ru⟩:=rv.one;obtain ⟨t,rfl⟩:=ru;exact PySem.W.KIN.call_text h1 h2 ⟨.int n,H,I.tok _,⟨_,rfl⟩,q⟩
theorem Ms:cm X (.type "int") (rB X.K qZ):=by
 refine cm.imp (AS.or AR) fun xs H Q zz=>?_;obtain ⟨F,ds,d,fd,r,e,q⟩:=zz;unfold qZ at e;split at e
 . cases e;obtain ⟨v,rfl,r1⟩:=b1 r;exact .inl (.inl ⟨_,by rw [r1.int],q _ _ (hJ.refl H) (dh _)⟩)
 . cases e;obtain ⟨v,rfl,r1⟩:=b1 r;exact .inl (.inr ⟨_,by rw [r1.bl],q _ _ (hJ.refl H) (dh _)⟩)
 . split at e
   . rw [aE] at e;obtain ⟨n,e1,rfl⟩:=e;obtain ⟨v,rfl,r1⟩:=b1 r;exact .inr ⟨_,n,by rw [r1.str],e1,‹_›,q _ _ (hJ.refl H) (dh _)⟩
   . cases e
 . cases e
theorem qj {F:Addr->Prop} {H H':Hp} (h:hJ H H'):Step g0 F H F H':=Step.of_same h
theorem Mn:cm X (.type "tuple") (rB X.K qY):=by
 refine cm.imp pV fun xs H Q zz=>?_;obtain ⟨F,ds,d,fd,r,e,q⟩:=zz;unfold qY at e;split at e
 . cases e;obtain ⟨v,rfl,r1⟩:=b1 r;obtain ⟨a,ys,rfl,h1,h2⟩:=r1.lst;refine ⟨a,ys,rfl,.inl ⟨h1.sq,fun l hl=>q _ _ (cj hl _) ?_⟩⟩;unfold Rel;exact ⟨l,ys,rfl,SqT.of cg,aF.step fd (qj (cj hl _)) _ _ h2⟩
 . cases e;obtain ⟨v,rfl,r1⟩:=b1 r;obtain ⟨a,ys,rfl,h1,h2⟩:=r1.tup;refine ⟨a,ys,rfl,.inr ⟨h1,q _ _ (hJ.refl H) ?_⟩⟩;unfold Rel;exact ⟨a,ys,rfl,h1,h2⟩
 . cases e
theorem Mq:cm X (.type "list") (rB X.K kU):=by
 refine cm.imp kL fun xs H Q zz=>?_;obtain ⟨F,ds,d,fd,r,e,q⟩:=zz;unfold kU at e;split at e
 . cases e;obtain ⟨v,rfl,r1⟩:=b1 r;obtain ⟨a,ys,rfl,h1,h2⟩:=r1.lst;refine ⟨a,ys,rfl,.inl h1.sq,fun l hl=>q _ _ (cj hl _) ?_⟩;unfold Rel;exact ⟨l,ys,rfl,.inl ⟨.inl cg,qv fd hl⟩,aF.step fd (qj (cj hl _)) _ _ h2⟩
 . cases e;obtain ⟨v,rfl,r1⟩:=b1 r;obtain ⟨a,ys,rfl,h1,h2⟩:=r1.tup;refine ⟨a,ys,rfl,.inr h1,fun l hl=>q _ _ (cj hl _) ?_⟩;unfold Rel;exact ⟨l,ys,rfl,.inl ⟨.inl cg,qv fd hl⟩,aF.step fd (qj (cj hl _)) _ _ h2⟩
 . cases e
theorem lx {H:Hp} {F:Addr->Prop}:∀ {ds:List D} {ns:List Int} {xs:List V},qC ds = some ns->aF K H F ds xs->xs = ns.map V.int
 | [],ns,xs,e,r=>by cases e;unfold aF at r;exact r
 | d::ds,ns,xs,e,r=>by
   unfold aF at r;obtain ⟨y,ys,rfl,h1,h2⟩:=r
   cases d with
   | int i =>
     unfold qC at e;rw [aE] at e;obtain ⟨ms,e,rfl⟩:=e;unfold Rel at h1
     rw [h1,lx e h2,aX]
   | _=>cases e
theorem oX {H:Hp} {F:Addr->Prop}:∀ {ds:List D} {ns:List Bool} {xs:List V},ke ds = some ns->aF K H F ds xs->xs = ns.map V.bl
 | [],ns,xs,e,r=>by cases e;unfold aF at r;exact r
 | d::ds,ns,xs,e,r=>by
   unfold aF at r;obtain ⟨y,ys,rfl,h1,h2⟩:=r
   cases d with
   | bl i =>
     unfold ke at e;rw [aE] at e;obtain ⟨ms,e,rfl⟩:=e;unfold Rel at h1
     rw [h1,oX e h2,aX]
   | _=>cases e
theorem Mu (hc:X.calm = true):cm X (.builtin "any") (rB X.K IV):=by
 refine cm.imp (AU hc) fun xs H Q zz=>?_;obtain ⟨F,ds,d,fd,r,e,q⟩:=zz;unfold IV at e;split at e
 . rw [aE] at e;obtain ⟨ns,e,rfl⟩:=e;obtain ⟨v,rfl,r1⟩:=b1 r;obtain ⟨a,ys,rfl,h1,h2⟩:=r1.lst;rw [oX e h2] at h1;exact ⟨a,ns,rfl,h1.sq,q _ _ (hJ.refl H) (jh _)⟩
 . cases e
theorem Mp (hc:X.calm = true):cm X (.builtin "sum") (rB X.K GL):=by
 refine cm.imp (AN hc) fun xs H Q zz=>?_;obtain ⟨F,ds,d,fd,r,e,q⟩:=zz;unfold GL at e;split at e
 . rw [aE] at e;obtain ⟨ns,e,rfl⟩:=e;obtain ⟨v,rfl,r1⟩:=b1 r;obtain ⟨a,ys,rfl,h1,h2⟩:=r1.lst;rw [lx e h2] at h1;exact ⟨a,ns,rfl,h1.sq,q _ _ (hJ.refl H) (dh _)⟩
 . cases e
theorem AK (hu:X.A.units+200 < cLine):cm X (.builtin "sorted") (rB X.K mL):=by
 refine cm.imp (tq hu) fun xs H Q zz=>?_;obtain ⟨F,ds,d,fd,r,e,q⟩:=zz;unfold mL at e;split at e
 . split at e
   . rename_i zs hs;cases e;obtain ⟨v,rfl,r1⟩:=b1 r;refine ⟨F,zs,v,rfl,r1,hs,fun p ys hp ry=>q _ _ (cj hp _) ?_⟩;unfold Rel;exact ⟨p,ys,rfl,.inl ⟨.inl cg,qv fd hp⟩,aF.step fd (qj (cj hp _)) _ _ ry⟩
   . cases e
 . cases e
theorem iG {f:Blt} {es:Es} {x:Str} {p pos:Pos} {xs:List Expr} (g:List D->Option D) (hg:ju f = g) (h:PE X (.Call (.Name x p) xs [] pos) (tCB (rB X.K g) (tEs X.K cx es))):PE X (.Call (.Name x p) xs [] pos) (tE X.K cx (.blt f es)):=by
 subst hg;refine PE.imp h fun σ H Q h=>?_;obtain ⟨G,F,δ,d,δ',ok,ev,post⟩:=h;simp only [evE] at ev;obtain ⟨ds,ea,hd⟩:=yQ ev;refine ⟨G,F,δ,ds,δ',ok,ea,fun vs H1 F1 st1 sm1 ok1 r1=>?_⟩;exact ⟨F1,ds,d,ok1.fd,r1.bl,hd,fun v H2 s2 r2=>post v H2 F1 (st1.trans (Step.of_same s2)) (fun z=>(sm1 z).trans (.of s2)) (ok1.same' s2) (fM r2)⟩
end
section
variable {K:PySem.W.Frag} {cx:Cl} {X:Cx}
theorem KG {f:Blt} {e:E} {T:String} {y:Expr} {t:Str} {p pos tp:Pos} (hT:tyName f = some T) (ht:t = (T:Str)) (hg:Gl X "isinstance") (hm:X.mg "isinstance" = none) (hgt:Gl X t) (hmt:X.mg t = none) (hy:PE X y (tE X.K cx e)) (hs:starEach [y,.Name t tp] X.env = [(false,eval y X.env),(false,eval (.Name t tp) X.env)]) :
 PE X (.Call (.Name "isinstance" p) [y,.Name t tp] [] pos) (tE X.K cx (.blt f (.cons e .nil))):=by
 have hb:bootBuiltins t = some (.type T):=by
  subst ht;cases f<;>simp [tyName] at hT<;>subst hT<;>rfl
 have hn:t≠"__name__":=by
  subst ht;cases f<;>simp [tyName] at hT<;>subst hT<;>decide +kernel
 have hdb:(t == ("__debug__":Str)) = false:=by
  subst ht;cases f<;>simp [tyName] at hT<;>subst hT<;>decide +kernel
 have hA:PA X [y,.Name t tp] (kv (tE X.K cx e) (kv (tC (.ty T)) zV)):=fb hy (fb (yc hgt hmt hb rfl hn hdb) iI rfl) hs;refine PE.imp (fW (Fj hT) hg hm rfl hA (by decide +kernel) (by decide +kernel) hs rfl) fun σ H Q h=>?_;obtain ⟨G,F,δ,d,δ',ok,ev,post⟩:=h;simp only [evE] at ev;obtain ⟨ds,ea,hd⟩:=yQ ev;simp only [gI,aj,ag] at ea;obtain ⟨⟨x,δ1⟩,ea,⟨ds',δ2⟩,eb,e2⟩:=ea;cases eb;cases e2
 obtain ⟨b,rfl⟩:∃ b,d = .bl b:=by
  cases f<;>simp [tyName] at hT<;>(cases x<;>simp [ju,fS] at hd<;>exact ⟨_,hd.symm⟩)
 refine ⟨G,F,δ,x,δ1,ok,ea,fun v H1 F1 st1 sm1 ok1 r1=>?_⟩;exact ⟨F1,x,v,b,r1.b,rfl,hd,post _ H1 F1 st1 (fun z=>sm1 (by have z':(np e && true) = true:=z;simpa using z')) ok1 (fM (jh b))⟩
theorem FV {G:Gh} {H:Hp} {F:Addr->Prop} {a:Addr} {xs:List V} {ds:List D} (fd:FD F H) (h1:Ls K H F a xs) (h3:aF K H F ds xs):Wk K G F H (Itl K a) ds:=by
 intro F2 H2 st fd2 i;have h4:=(h1.step st).sq;have h5:=aF.step fd st ds xs h3;refine ⟨fun d e=>?_,fun e=>⟨xs,h4,by rw [h5.length];lia⟩⟩;obtain ⟨v,hv,rv⟩:=h5.get e;refine ⟨⟨xs,v,h4,hv⟩,fun x H3 y=>?_⟩;obtain ⟨e3,y⟩:=y;refine ⟨e3,?_⟩;have:=y xs h4;rw [hv] at this;cases this;exact rv
theorem JJ {G:Gh} {H:Hp} {F:Addr->Prop} {a:Addr} {xs:List V} {ds:List D} (fd:FD F H) (h1:SqT K H a xs) (h3:aF K H F ds xs):Wk K G F H (Itt K a) ds:=by
 intro F2 H2 st fd2 i;have h4:=tZ fd st.keep h1;have h5:=aF.step fd st ds xs h3;refine ⟨fun d e=>?_,fun e=>⟨xs,h4,by rw [h5.length];lia⟩⟩;obtain ⟨v,hv,rv⟩:=h5.get e;refine ⟨⟨xs,v,h4,hv⟩,fun x H3 y=>?_⟩;obtain ⟨e3,y⟩:=y;refine ⟨e3,?_⟩;have:=y xs h4;rw [hv] at this;cases this;exact rv
theorem JK {G:Gh} {H:Hp} {F:Addr->Prop} {x:Str}:Wk K G F H (Its x) (x.cps.toList.map fun c=>D.str ⟨#[c]⟩):=by
 intro F2 H2 st fd2 i;refine ⟨fun d e=>?_,fun e=>by show i = x.cps.size;simpa using e⟩;rw [aQ,aE] at e;obtain ⟨c,hc,rfl⟩:=e;have hc':x.cps[i]? = some c:=by simpa using hc
 refine ⟨(dw.mp hc').1,fun v H3 y=>?_⟩;obtain ⟨e3,c',h1,h2⟩:=y;refine ⟨e3,?_⟩;rw [hc'] at h1;cases h1;rw [h2];exact iH _
theorem JL {G:Gh} {H:Hp} {F:Addr->Prop} {lo:Int} {n:Nat}:Wk K G F H (Itr lo n) (uq lo n):=by
 intro F2 H2 st fd2 i;unfold uq;refine ⟨fun d e=>?_,fun e=>by rw [e];simp;exact av n⟩;rw [aQ,aE] at e;obtain ⟨c,hc,rfl⟩:=e;have hl:i < n:=by have:=(aB.mp hc).1;simpa using this
 rw [List.getElem?_range hl] at hc;cases hc;refine ⟨hl,fun v H3 y=>?_⟩;obtain ⟨e3,h2⟩:=y;exact ⟨e3,by rw [h2];exact dh _⟩
noncomputable def OI (K:PySem.W.Frag) (tl:TE):TI:=fun σ H R=>tl σ H fun v H1=>(∃ a,v = .ref a/\(∃ xs,SqL K H1 a xs)/\R (Itl K a) H1)\/(∃ a,v = .ref a/\(∃ xs,SqT K H1 a xs)/\R (Itt K a) H1)\/∃ x,v = .str x/\R (Its x) H1
theorem Le {tg l:Expr} {tl:TE} (hl:PE X l tl):PI X tg l (OI X.K tl):=by
 intro pins s σ H R I h
 have key:∀ {v:Value} {s1:Shared} {x:V} {H1:Hp},Inv X pins σ H1 s1->RelV x v->((∃ a,x = .ref a/\(∃ xs,SqL X.K H1 a xs)/\R (Itl X.K a) H1)\/(∃ a,x = .ref a/\(∃ xs,SqT X.K H1 a xs)/\R (Itt X.K a) H1)\/∃ y,x = .str y/\R (Its y) H1) ->
  wpAny (model X.prog X.w) X.A (pyIter v) (PIE X pins σ tg R) X.xe s1:=by
  intro v s1 x H1 I1 r1 q1;rcases q1 with ⟨a,rfl,⟨xs,hq⟩,q⟩ | ⟨a,rfl,⟨xs,hq⟩,q⟩ | ⟨z,rfl,q⟩
  . cases r1;obtain ⟨its,rv,p,hz⟩:=I1.list hq;refine eR p.isList ?_;refine ⟨s1.heap.objs.size,[s1.heap.objs.size],_,_,H1,rfl,I1.kept (t':=s1.toks) fun b o e=>af _ e,zR a _,⟨_,aA _ rfl,rfl,rfl⟩,fun b hb=>?_,q⟩;have e:b = s1.heap.objs.size:=by simpa using hb
    subst e;exact I1.fpOk (av _) (I1.hok.fresh (av _))
  . cases r1;obtain ⟨its,rv,p,hz⟩:=I1.tuple hq;refine MF (show s1.heap.IsTuple a its.toArray from p) ?_;refine ⟨s1.heap.objs.size,[s1.heap.objs.size],_,_,H1,rfl,I1.kept (t':=s1.toks) fun b o e=>af _ e,vU a _,⟨_,aA _ rfl,rfl,rfl⟩,fun b hb=>?_,q⟩;have e:b = s1.heap.objs.size:=by simpa using hb
    subst e;exact I1.fpOk (av _) (I1.hok.fresh (av _))
  . obtain ⟨t,rfl⟩:=r1;refine wpAny_pyIter_strU ?_;refine ⟨s1.heap.objs.size,[s1.heap.objs.size],_,_,H1,rfl,I1.kept (t':=s1.toks) fun b o e=>af _ e,Cp s1.heap.objs.size z t,⟨_,aA _ rfl,rfl,rfl⟩,fun b hb=>?_,q⟩;have e:b = s1.heap.objs.size:=by simpa using hb
    subst e;exact I1.fpOk (av _) (I1.hok.fresh (av _))
 exact thn (hl pins s σ H _ I h) fun v s1 ⟨x,H1,I1,r1,q1⟩=>key I1 r1 q1
theorem PI.imp {tg l:Expr} {t t':TI} (h:PI X tg l t) (w:∀ σ H R,t' σ H R->t σ H R):PI X tg l t':=fun pins s σ H R I q=>h pins s σ H R I (w σ H R q)
theorem Kz {tg l:Expr} {e:E} (n:(!bJ e) = true) (hl:PE X l (tE X.K cx e)):PI X tg l (tI X.K cx (.sq e)):=by
 refine PI.imp (Le hl) fun σ H R h=>?_;obtain ⟨G,F,δ,ds,δ',ok,ev,post⟩:=h;simp only [evI,aj,ag] at ev;obtain ⟨⟨d,δ1⟩,ea,ds',hd,e2⟩:=ev;cases e2;dsimp only at hd post;refine ⟨G,F,δ,d,δ1,ok,ea,fun v H1 F1 st1 sm1 ok1 r1=>?_⟩;have r:=dX n r1;unfold items at hd;split at hd
 . cases hd;unfold Rel at r;obtain ⟨a,xs,e1,h1,h3⟩:=r;exact .inl ⟨a,e1,⟨xs,h1.sq⟩,post _ _ _ st1 sm1 ok1 (fun _=>FV ok1.fd h1 h3)⟩
 . cases hd;unfold Rel at r;obtain ⟨a,xs,e1,h1,h3⟩:=r;exact .inr (.inl ⟨a,e1,⟨xs,h1⟩,post _ _ _ st1 sm1 ok1 (fun _=>JJ ok1.fd h1 h3)⟩)
 . split at hd
   . cases hd;unfold Rel at r;exact .inr (.inr ⟨_,r,post _ _ _ st1 sm1 ok1 fun _=>JK⟩)
   . cases hd
 . cases hd
theorem GU {tg y:Expr} {e:E} {p pos:Pos} (n:(!bJ e) = true) (hg:Gl X "range") (hm:X.mg "range" = none) (hy:PE X y (tE X.K cx e)) (hs:starEach [y] X.env = [(false,eval y X.env)]):PI X tg (.Call (.Name "range" p) [y] [] pos) (tI X.K cx (.rng e)):=by
 refine PI.imp (An hg hm (fb hy iI hs) hs) fun σ H R h=>?_;obtain ⟨G,F,δ,ds,δ',ok,ev,post⟩:=h;simp only [evI,aj,ag] at ev;obtain ⟨⟨d,δ1⟩,ea,ev⟩:=ev
 cases d with
 | int j =>
   dsimp only at ev;split at ev
   . rename_i hj;cases ev;refine ⟨G,F,δ,.int j,_,ok,ea,fun v H1 F1 st1 sm1 ok1 r1=>?_⟩;have r:=dX n r1;unfold Rel at r;subst r;exact ⟨j,rfl,hj.1,hj.2,post _ _ _ st1 sm1 ok1 fun _=>JL⟩
   . cases ev
 | _=>cases ev
end
end PP
end
section
namespace PP
open PySem L2 PyProof.Rows Builtin.Str
variable [Tbs]
section
variable {X:Cx} {cx:Cl}
end
end PP
end
section
namespace PP
open PySem L2 PyProof.Rows
variable [Tbs]
section
variable {X:Cx} {cx:Cl}
noncomputable def GdK (w:World) (K:PySem.W.Frag) (a:Addr) (D:List (Str × Int)):Prop :=
 KTD.tabLook KTD.flatLooks (fun b=>K.lookup b) a (D.map fun p=>(p.1,PyData.int p.2)) = true/\(D.map (·.1)).Nodup/\KTD.hashesOf (fun b=>K.lookup b) a = D.map fun p=>hashStr w p.1
end
noncomputable def spO (K:PySem.W.Frag) (f:List D->Option D):Sp:=fun vs H Q _=>∃ F ds zs,FD F H/\TF F/\kf H/\aF K H F ds vs/\f ds = some zs/\∀ a u H',Sim H H'->kf H'->H a = none->H' a = some u->fP K H' (fun b=>F b\/b = a) zs u->Q (.ref a) H'
structure Cok (X:Cx) (c:Ck) (cx:Cl) (k:Nat):Prop where
 hN:X.N = c.N
 nd:c.N.Nodup
 vis:∀ x,Vis c.sc x->Vis X.env.scope x
 gl:∀ x,c.sc.names.lookup x = some .globalImplicit->Gl X x
 st:∀ x,L2.Loc c.sc x->L2.Loc X.env.scope x/\(X.fn x = true\/X.env.scope.names.lookup x = some .local)
 kc:∀ x,(c.sc.names.lookup x = some .cell\/c.sc.names.lookup x = some .free)->X.env.kindOf x = some .cell\/X.env.kindOf x = some .free
 calm:X.calm = true
 xe:X.xe = fun _ _=>False
 room:iT k X.A
 fns:∀ (f:Nat) (x:Str) (ps:List Str),c.fns[f]? = some (x,ps)->∃ a fd,X.mg x = some (.ref a)/\PySem.W.keepIn X.K (.ref a) = true/\Binds X.K fd ps []/\gf X.prog X.w X.K X.mg X.base CX0 k a fd ps (spF X.K (cx.call f))
 fnO:∀ (f:Nat) (x:Str) (ps:List Str),c.fns[f]? = some (x,ps)->∃ a fd,X.mg x = some (.ref a)/\PySem.W.keepIn X.K (.ref a) = true/\Binds X.K fd ps []/\gf X.prog X.w X.K X.mg X.base CX0 k a fd ps (spO X.K (cx.call (f+uE)))
 blt:∀ x,x∈iq->X.mg x = none
 glob:∀ (g:Nat) (x:Str) (d:D),c.gn[g]? = some x->cx.gl[g]? = some d->∃ u v,X.mg x = some u/\RelV v u/\∀ H F,Rel X.K H F d v
 gsome:∀ (g:Nat) (x:Str),c.gn[g]? = some x->∃ d,cx.gl[g]? = some d
 gds:∀ (n:Str) (l:List (Str × Int)),Tbs.gds.lookup n = some l->∃ a,X.mg n = some (.ref a)/\GdK X.w X.K a l
 pos:k = 0->∀ f ds,cx.call f ds = none
theorem Cm {sc:Scope} {x:Str} (h:zQ sc x = true):Vis sc x:=by
 unfold zQ at h;split at h
 . exact .inl ‹_›
 . exact .inr (.inl ‹_›)
 . exact .inr (.inr ‹_›)
 . cases h
theorem Er {sc:Scope} {x:Str} (h:LK sc x = true):L2.Loc sc x:=by
 unfold LK at h;split at h
 . exact .inl ‹_›
 . exact .inr ‹_›
 . cases h
theorem LZ {sc:Scope} {x:Str} (h:glB sc x = true):sc.names.lookup x = some .globalImplicit:=by
 unfold glB at h;split at h
 . assumption
 . cases h
theorem yp {x:Str} (h:Ec x = true):(x == ("__debug__":Str)) = false/\(x == ("__classdict__":Str)) = false/\x≠("__name__":Str):=by
 unfold Ec at h;rw [aa,aa] at h;refine ⟨by simpa using h.1.1,by simpa using h.1.2,?_⟩;have:=h.2;intro z;subst z
 revert this
 decide +kernel
section
variable {X:Cx} {c:Ck} {cx:Cl} {k:Nat}
theorem Cok.name (C:Cok X c cx k) {i:Nat} {x:Str} (h:fZ c i x = true):X.N[i]? = some x/\Vis X.env.scope x/\(x == ("__debug__":Str)) = false/\(x == ("__classdict__":Str)) = false:=by
 unfold fZ at h;rw [aa,aa] at h;obtain ⟨⟨h1,h2⟩,h3⟩:=h;obtain ⟨n1,n2,n3⟩:=yp h3;exact ⟨by rw [C.hN];exact of_decide_eq_true h1,C.vis x (Cm h2),n1,n2⟩
theorem Cok.to (C:Cok X c cx k) {i:Nat} {x:Str} (h:fj c i x = true):X.N[i]? = some x/\L2.Loc X.env.scope x/\(X.fn x = true\/X.env.scope.names.lookup x = some .local):=by
 unfold fj at h;rw [aa,aa] at h;obtain ⟨⟨h1,h2⟩,h3⟩:=h;obtain ⟨s1,s2⟩:=C.st x (Er h2);exact ⟨by rw [C.hN];exact of_decide_eq_true h1,s1,s2⟩
theorem Cok.global (C:Cok X c cx k) {x:Str} (h:dM c x = true):Gl X x/\(x == ("__debug__":Str)) = false/\x≠("__name__":Str):=by
 unfold dM at h;rw [aa] at h;obtain ⟨n1,n2,n3⟩:=yp h.2;exact ⟨C.gl x (LZ h.1),n1,n3⟩
theorem Cok.units (C:Cok X c cx k):X.A.units+200 < cLine:=by have:=C.room.un;lia
theorem Cok.nd' (C:Cok X c cx k):X.N.Nodup:=by rw [C.hN];exact C.nd
noncomputable def oG:List Nat->TGs
 | []=>Ma
 | i::is=>yN (qE i) (oG is)
noncomputable def IB (K:PySem.W.Frag) (n:Nat) (t:TGs):TG:=fun v σ H Q=>∃ a xs,v = .ref a/\(SqT K H a xs\/SqL K H a xs)/\xs.length = n/\t xs σ H Q
theorem kN {prog:Program} {w:World} {A:Around} {E:Value->Shared->Prop} {s:Shared} {env:Env} {elts:List Expr} {x1} {pos:Pos} {t:Addr} {items:Array Value} {Q:Unit->Shared->Prop} (hh:A.handled = none) (ht:s.heap.IsList t items)
 (hn:(assignEach elts env).length = items.size) (hstar:(assignEach elts env).findIdx? (·.1) = none)
 (h:∀ h',Heap.ExtBut s.heap.objs.size s.heap h'->wpAny (model prog w) A (assignInOrder ((assignEach elts env).map (·.2)) items.toList) Q E { s with heap:=h' }) :
 wpAny (model prog w) A (assign (.Tuple elts x1 pos) env (.ref t)) Q E s:=by
 rw [assign_Tuple];refine ae (gN ?_);unfold unpack;rw [hn,hstar];exact ae (bN (PySem.W.kun_itemsOf hh ht h))
theorem wD {X:Cx} {es:List Expr} {k:Nat} {t:TGs} {n:Nat} {pos:Pos} (hc:X.calm = true) (h:PGs X es t)
 (hn:(assignEach es X.env).length = n:=by rfl) (hst:(assignEach es X.env).findIdx? (·.1) = none:=by rfl):PG X (.Tuple es k pos) (IB X.K n t):=by
 intro pins s σ H v u Q I r hw;obtain ⟨a,xs,e1,hq,hl,hw⟩:=hw;rcases hq with hq | hq
 . exact Lf hc h hn hst pins s σ H v u Q I r ⟨a,xs,e1,hq,hl,hw⟩
 . subst e1;cases r;obtain ⟨its,rv,pl,hz⟩:=I.list hq;refine kN (I.ok.hd hc) pl.isList (by simp [hn,<- hl,rv.length]) hst fun h' hx=>?_;have I1:Inv X pins σ H { s with heap:=h' }:=I.kept (t':=s.toks) fun b o e=>hx b o (aC (ar e)) e;exact h pins _ σ H xs _ Q I1 (by simpa using rv) hw
noncomputable def gTg (K:PySem.W.Frag):Tg->TG
 | .nm i=>qE i
 | .tp is=>IB K is.length (oG is)
 | .pr i is=>IB K 2 (yN (qE i) (yN (IB K is.length (oG is)) Ma))
theorem lj (C:Cok X c cx k):∀ (is:List Nat) (es:List Expr),IQ c is es = true->PGs X es (oG is)/\(assignEach es X.env).length = is.length/\(assignEach es X.env).findIdx? (·.1) = none
 | [],es,h=>by
   obtain ⟨rfl,_⟩:=dI h
   exact ⟨xZ,rfl,rfl⟩
 | i::is,es,h=>by
   obtain ⟨e,r,rfl,hh⟩:=cM h;rw [aa] at hh;obtain ⟨x,p,rfl,h1⟩:=bp hh.1;obtain ⟨q1,q2,q3⟩:=lj C is r hh.2;obtain ⟨n1,n2,n3⟩:=C.to h1;refine ⟨og (rZ C.nd' n1 n2 n3) q1 rfl,?_,?_⟩
   . show (assignEach r X.env).length+1 = _;rw [q2];rfl
   . show List.findIdx? _ ((false,_)::assignEach r X.env) = none;rw [List.findIdx?_cons,q3];rfl
theorem nH (C:Cok X c cx k) {tg:Tg} {t:Expr} (h:sY c tg t = true):PG X t (gTg X.K tg):=by
 cases tg with
 | nm i =>
   obtain ⟨_,_,rfl,h1⟩:=bp h;obtain ⟨n1,n2,n3⟩:=C.to h1
   exact rZ C.nd' n1 n2 n3
 | tp is =>
   obtain ⟨_,_,_,rfl,h1⟩:=fD h;obtain ⟨q1,q2,q3⟩:=lj C _ _ h1
   exact wD C.calm q1 q2 q3
 | pr i is =>
   obtain ⟨_,_,_,rfl,h1⟩:=fD h;obtain ⟨_,_,rfl,h2⟩:=jX h1;rw [aa] at h2;obtain ⟨_,_,rfl,h3⟩:=bp h2.1;obtain ⟨_,_,_,rfl,h4⟩:=fD h2.2;obtain ⟨n1,n2,n3⟩:=C.to h3;obtain ⟨q1,q2,q3⟩:=lj C _ _ h4;exact wD C.calm (og (rZ C.nd' n1 n2 n3) (og (wD C.calm q1 q2 q3) xZ rfl) rfl) rfl rfl
theorem take_set {α:Type} (l:List α) (i n:Nat) (x:α) (h:n<=i):(l.set i x).take n = l.take n:=by
 apply List.ext_getElem?;intro j;by_cases hj:j < n
 . rw [cW hj,cW hj,aI (by lia)]
 . rw [cO (by rw [bj];lia),cO (by rw [bj];lia)]
theorem ku {K:PySem.W.Frag} {G:Gh} {H:Hp} {F:Addr->Prop} {Q:L2.St->Hp->Prop}:∀ (is:List Nat) (ds:List D) (xs:List V) (σ:L2.St) (δ:Loc),Ok K G F σ H δ->aF K H F ds xs->is.length = ds.length->is.all (· < δ.length) = true ->
 (∀ σ',Ok K G F σ' H ((is.zip ds).foldl (fun δ p=>δ.set p.1 (.val p.2)) δ)->(∀ n,(is.all fun i=>decide (n<=i)) = true->σ'.take n = σ.take n)->Q σ' H)->oG is xs σ H Q
 | [],ds,xs,σ,δ,ok,r,hl,_,q=>by
   have:ds = []:=dc.mp hl.symm;subst this;unfold aF at r
   exact ⟨r,q σ ok fun _ _=>rfl⟩
 | i::is,[],xs,σ,δ,ok,r,hl,_,q=>by simp at hl
 | i::is,d::ds,xs,σ,δ,ok,r,hl,ha,q=>by
   unfold aF at r;obtain ⟨y,ys,rfl,r1,r2⟩:=r;rw [eH,aa] at ha;refine ⟨y,ys,rfl,?_⟩;refine ku is ds ys (σ.set i (some y)) (δ.set i (.val d)) (ok.set (of_decide_eq_true ha.1) r1) r2 (by simpa using hl) ?_ fun σ' o t=>q σ' o fun n hn=>?_
   . rw [aW];exact ha.2
   . rw [eH,aa] at hn;rw [t n hn.2,take_set _ _ _ _ (of_decide_eq_true hn.1)]
theorem mJ {K:PySem.W.Frag} {G:Gh} {H:Hp} {F:Addr->Prop} {σ:L2.St} {δ δ':Loc} {tg:Tg} {d:D} {v:V} {Q:L2.St->Hp->Prop} (ok:Ok K G F σ H δ) (r:Rel K H F d v) (e:eV δ tg d = some δ') (q:∀ σ',Ok K G F σ' H δ'->(∀ n,zU n tg = true->σ'.take n = σ.take n)->Q σ' H):gTg K tg v σ H Q:=by
 unfold eV at e;split at e
 . split at e
   . cases e;exact q _ (ok.set ‹_› r) fun n hn=>take_set _ _ _ _ (of_decide_eq_true hn)
   . cases e
 . split at e
   . rename_i hh;cases e;unfold Rel at r;obtain ⟨a,xs,e1,h1,h2⟩:=r;exact ⟨a,xs,e1,.inl h1,by rw [h2.length];exact hh.1.symm,ku _ _ _ _ _ ok h2 hh.1 hh.2 q⟩
   . cases e
 . split at e
   . rename_i hh;cases e;unfold Rel at r;obtain ⟨a,xs,e1,h1,h2⟩:=r;exact ⟨a,xs,e1,.inr h1.b.sq,by rw [h2.length];exact hh.1.symm,ku _ _ _ _ _ ok h2 hh.1 hh.2 q⟩
   . cases e
 . split at e
   . rename_i hh;cases e;unfold Rel at r;obtain ⟨a,xs,e1,h1,h2⟩:=r;unfold aF at h2;obtain ⟨y,ys,rfl,r1,r2⟩:=h2;unfold aF at r2;obtain ⟨z,zs,rfl,r3,r4⟩:=r2;unfold aF at r4;subst r4;unfold Rel at r3;obtain ⟨b,ws,e2,h3,h4⟩:=r3;refine ⟨a,[y,z],e1,.inl h1,rfl,y,[z],rfl,z,[],rfl,b,ws,e2,.inl h3,by rw [h4.length];exact hh.2.1.symm,?_⟩;refine ku _ _ _ _ _ (ok.set hh.1 r1) h4 hh.2.1 (by rw [aW];exact hh.2.2) fun σ' o t=>⟨rfl,q σ' o fun n hn=>?_⟩;have hn':=(aa _ _).mp (show (decide (n<=_) && _) = true from hn);rw [t n hn'.2,take_set _ _ _ _ (of_decide_eq_true hn'.1)]
   . cases e
 . cases e
theorem Ok.ext {K:PySem.W.Frag} {G:Gh} {H:Hp} {F:Addr->Prop} {σ:L2.St} {δ:Loc} (h:Ok K G F σ H δ) (tl:L2.St):Ok K G F (σ++tl) H (δ++List.replicate tl.length .no):=by
 have low:∀ (j:Nat) (s:Sl),(δ++List.replicate tl.length .no)[j]? = some s->s = .no\/(δ[j]? = some s/\(σ++tl)[j]? = σ[j]?):=fun j s e=>by
  by_cases hj:j < δ.length
  . rw [aO hj] at e;exact .inr ⟨e,aO (by rw [<- h.len];exact hj)⟩
  . rw [aZ (by lia),fI] at e;split at e
    . cases e;exact .inl rfl
    . cases e
 refine ⟨h.same,h.fd,h.rf,h.rl,h.tf,h.tabs,by rw [au,au,fX,h.len],fun j s e=>?_,fun i j s t a e1 e2 o1 o2 p1 p2=>?_⟩
 . rcases low j s e with rfl | ⟨e1,e2⟩
   . trivial
   . rw [e2];exact h.sl j s e1
 . rcases low i _ e1 with z | ⟨a1,a2⟩
   . subst z;cases o1
   . rcases low j _ e2 with z | ⟨b1,b2⟩
     . subst z;cases o2
     . rw [a2] at p1;rw [b2] at p2;exact h.apart i j s t a a1 b1 o1 o2 p1 p2
theorem Ok.cut {K:PySem.W.Frag} {G:Gh} {H:Hp} {F:Addr->Prop} {σ:L2.St} {δ:Loc} (h:Ok K G F σ H δ) (n:Nat):Ok K G F (σ.take n) H (δ.take n):=by
 have low:∀ (j:Nat) (s:Sl),(δ.take n)[j]? = some s->δ[j]? = some s/\(σ.take n)[j]? = σ[j]? := fun j s e=>by
  by_cases hj:j < n
  . rw [cW hj] at e;exact ⟨e,cW hj⟩
  . rw [cO (by rw [bj];lia)] at e;cases e
 refine ⟨h.same,h.fd,h.rf,h.rl,h.tf,h.tabs,by rw [bj,bj,h.len],fun j s e=>?_,fun i j s t a e1 e2 o1 o2 p1 p2=>?_⟩
 . obtain ⟨e1,e2⟩:=low j s e;rw [e2];exact h.sl j s e1
 . obtain ⟨a1,a2⟩:=low i _ e1;obtain ⟨b1,b2⟩:=low j _ e2;rw [a2] at p1;rw [b2] at p2;exact h.apart i j s t a a1 b1 o1 o2 p1 p2
noncomputable def Gh.and (G:Gh) (D:Addr):Gh:=⟨G.h,fun b=>G.R b\/b = D⟩
theorem Ok.free {K:PySem.W.Frag} {G:Gh} {H:Hp} {F:Addr->Prop} {σ:L2.St} {δ:Loc} {p:Addr} (h:Ok K G F σ H δ) (hp:H p = none):G.free p:=by
 refine ⟨?_,fun z=>?_⟩
 . cases e:G.h p with
   | none=>rfl
   | some o =>
     by_cases t:NT o
     . rw [h.same.nt p o t e] at hp;cases hp
     . cases o<;>first | (exact absurd trivial t) | skip
       obtain ⟨qs,z⟩:=h.same.tb p _ e;rw [z] at hp;cases hp
 . obtain ⟨o,e,_⟩:=h.rl p z;rw [hp] at e;cases e
theorem Ok.enterO {K:PySem.W.Frag} {G:Gh} {H:Hp} {F:Addr->Prop} {σ:L2.St} {δ:Loc} {p:Addr} (h:Ok K G F σ H δ) (hp:H p = none) {u:HO} (hu:Mo u):Ok K (G.and p) (fun b=>F b\/b = p) σ (upd H p u) δ/\Step G F H (fun b=>F b\/b = p) (upd H p u):=by
 have nF:¬ F p:=qv h.fd hp;have sm:=cj hp u;have st:∀ G':Gh,Step G' F H (fun b=>F b\/b = p) (upd H p u):=fun G'=>⟨fun b o _ e _=>sm b o e,fun b z=>by rcases z with z | z;exact .inl z;exact .inr (by rw [z];exact hp),fun b o _ f e=>⟨.inl f,sm b o e⟩,fun b ps e=>⟨ps,sm b _ e⟩⟩;refine ⟨⟨h.same.trans (.of sm),fun b z=>?_,fun b z=>?_,fun b z=>?_,fun t ht=>.inl (h.tf t ht),h.tabs.keep fun b o _ e=>sm b o e,h.len,fun j s e=>?_,h.apart⟩,st G⟩
 . rcases z with z | z
   . exact h.fd.same sm b z
   . rw [z];exact ⟨u,cg,.inl hu⟩
 . rcases z with z | z
   . exact .inl (h.rf b z)
   . exact .inr z
 . rcases z with z | z
   . exact xQ h.rl sm b z
   . rw [z];exact ⟨u,cg,hu⟩
 . exact eK.stay0 h.fd (st G) (fun a v _ f1 _ f3=>⟨.inl f1,sm _ _ f3⟩) (eK.free (G:=G) (G':=G.and p) (fun a f1 f2=>⟨f2.1,fun z=>Or.elim z f2.2 fun w=>nF (w▸f1)⟩) (h.sl j s e))
theorem Ok.enter {K:PySem.W.Frag} {G:Gh} {H:Hp} {F:Addr->Prop} {σ:L2.St} {δ:Loc} {p:Addr} (h:Ok K G F σ H δ) (hp:H p = none) (xs:List V):Ok K (G.and p) (fun b=>F b\/b = p) σ (upd H p (.lst xs)) δ/\Step G F H (fun b=>F b\/b = p) (upd H p (.lst xs)):=h.enterO hp trivial
theorem Ok.pokeO {K:PySem.W.Frag} {G:Gh} {H:Hp} {F:Addr->Prop} {σ:L2.St} {δ:Loc} {p:Addr} {x u:HO} (h:Ok K (G.and p) F σ H δ) (hg:G.free p) (hP:H p = some x) (hx:Mo x) (hu:Mo u):Ok K (G.and p) F σ (upd H p u) δ:=by
 have hF:F p:=h.rf p (.inr rfl);have nt:=hx.nt;have st0:Step g0 F H F (upd H p u):=⟨fun b o _ e n=>by rw [bw (fun z:b = p=>n (by rw [z];exact hF))];exact e,fun b z=>.inl z,fun _ _ r _ _=>r.elim,fun b ps e=>⟨ps,by rw [bw (fun w:b = p=>by rw [w,hP] at e;cases e;exact nt)];exact e⟩⟩;refine ⟨⟨fun b o t e=>?_,fun b ps e=>?_⟩,fun b z=>?_,h.rf,fun b z=>?_,h.tf,h.tabs.keep fun b o n e=>?_,h.len,fun j s e=>?_,h.apart⟩
 . rw [bw (fun z:b = p=>by have e':G.h b = some o:=e;rw [z,hg.1] at e';cases e')];exact h.same.nt b o t e
 . rw [bw (fun z:b = p=>by have e':G.h b = some _:=e;rw [z,hg.1] at e';cases e')];exact h.same.tb b ps e
 . by_cases hb:b = p
   . rw [hb];exact ⟨u,cg,.inl hu⟩
   . rw [bw hb];exact h.fd b z
 . by_cases hb:b = p
   . rw [hb];exact ⟨u,cg,hu⟩
   . rw [bw hb];exact h.rl b z
 . rw [bw (fun w:b = p=>by rw [w,hP] at e;cases e;exact n hx)];exact e
 . exact eK.stay0 h.fd st0 (fun a v _ f1 f2 f3=>⟨f1,by rw [bw (fun z:a = p=>f2.2 (.inr z))];exact f3⟩) (h.sl j s e)
theorem Ok.poke {K:PySem.W.Frag} {G:Gh} {H:Hp} {F:Addr->Prop} {σ:L2.St} {δ:Loc} {p:Addr} {zs:List V} (h:Ok K (G.and p) F σ H δ) (hg:G.free p) (hP:H p = some (.lst zs)) (xs:List V):Ok K (G.and p) F σ (upd H p (.lst xs)) δ:=h.pokeO hg hP trivial trivial
theorem Ok.leave {K:PySem.W.Frag} {G:Gh} {H:Hp} {F:Addr->Prop} {σ:L2.St} {δ:Loc} {p:Addr} (h:Ok K (G.and p) F σ H δ) (hg:G.free p):Ok K G (fun b=>F b/\b≠p) σ H δ:=by
 have hs:∀ b,(F b/\b≠p)->F b:=fun b z=>z.1
 have tf':TF fun b=>F b/\b≠p:=fun t ht=>⟨h.tf t ht,fun w=>by
  obtain ⟨ps,e,_⟩:=h.tabs t ht;obtain ⟨o,hP,m⟩:=h.rl p (.inr rfl);rw [w,hP] at e;cases e;exact m⟩
 refine ⟨h.same,fun b z=>h.fd b z.1,fun b z=>⟨h.rf b (.inl z),fun w=>hg.2 (by rw [<- w];exact z)⟩,fun b z=>h.rl b (.inl z),tf',h.tabs,h.len,fun j s e=>?_,h.apart⟩;refine ((h.sl j s e).less h.fd hs fun a z za=>?_).free (G:=G.and p) (G':=G) fun b _ z=>⟨z.1,fun w=>z.2 (Or.inl w)⟩;obtain ⟨a',u,d,e1,f1,f2,_⟩:=eK.ow (h.sl j s e) z;rw [za] at e1;cases e1;exact ⟨f1,fun w=>f2.2 (.inr w)⟩
theorem Ok.keep {K:PySem.W.Frag} {G:Gh} {H:Hp} {F:Addr->Prop} {σ:L2.St} {δ:Loc} {p:Addr} (h:Ok K (G.and p) F σ H δ):Ok K G F σ H δ :=
 ⟨h.same,h.fd,fun b z=>h.rf b (.inl z),fun b z=>h.rl b (.inl z),h.tf,h.tabs,h.len,fun j s e=>(h.sl j s e).free (G:=G.and p) (G':=G) fun b _ z=>⟨z.1,fun w=>z.2 (Or.inl w)⟩,h.apart⟩
end
section
variable {K:PySem.W.Frag} {cx:Cl}
noncomputable def vf (cx:Cl) (k:Nat) (tg:Tg) (ifs:Eo) (elt:E):D->Loc->Option (Option D × Loc):=fun x δ0=>do
 let δ2 <- eV (δ0++List.replicate k .no) tg x
 let (b,δ3) <- evG cx ifs δ2
 if b then do
  let (y,δ4) <- evE cx elt δ3
  return (some y,δ4.take δ0.length)
 else return (none,δ3.take δ0.length)
theorem II {k:Nat} {tg:Tg} {src:It} {ifs:Eo} {elt:E} {δ δ':Loc} {d:D} (ev:evE cx (.comp k tg src ifs elt) δ = some (d,δ')) :
 ∃ ds δ1 ys,evI cx src δ = some (ds,δ1)/\kK (vf cx k tg ifs elt) ds δ1 = some (ys,δ')/\ys.length<=sizeLine/\d = .lst ys:=by
 simp only [evE,aj,ag] at ev;obtain ⟨⟨ds,δ1⟩,ea,⟨ys,δ2⟩,eb,ev⟩:=ev;split at ev
 . cases ev;exact ⟨ds,δ1,ys,ea,eb,‹_›,rfl⟩
 . cases ev
theorem AG {k:Nat} {tg:Tg} {ifs:Eo} {elt:E} {x:D} {δ0 δ1:Loc} {o:Option D} (h:vf cx k tg ifs elt x δ0 = some (o,δ1)):∃ δ2 b δ3,eV (δ0++List.replicate k .no) tg x = some δ2/\evG cx ifs δ2 = some (b,δ3) /\
 ((b = true/\∃ y δ4,evE cx elt δ3 = some (y,δ4)/\o = some y/\δ1 = δ4.take δ0.length)\/(b = false/\o = none/\δ1 = δ3.take δ0.length)):=by
 unfold vf at h;simp only [aj,ag] at h;obtain ⟨δ2,e1,⟨b,δ3⟩,e2,h⟩:=h;refine ⟨δ2,b,δ3,e1,e2,?_⟩
 cases b with
 | true =>
   simp only [if_true,ag] at h;obtain ⟨⟨y,δ4⟩,e3,h⟩:=h;cases h
   exact .inl ⟨rfl,y,δ4,e3,rfl,rfl⟩
 | false =>
   simp only [aG,if_false] at h;cases h;exact .inr ⟨rfl,rfl,rfl⟩
theorem wY {f:D->Loc->Option (Option D × Loc)} {x:D} {xs ys:List D} {δ δ':Loc} (h:kK f (x::xs) δ = some (ys,δ')):∃ o δ1 zs,f x δ = some (o,δ1)/\kK f xs δ1 = some (zs,δ')/\ys = (match o with | some y=>y::zs | none=>zs):=by
 unfold kK at h;simp only [aj,ag] at h;obtain ⟨⟨o,δ1⟩,e1,⟨zs,δ2⟩,e2,h⟩:=h;cases h;exact ⟨o,δ1,zs,e1,e2,rfl⟩
theorem Step.sub {G G':Gh} {F F':Addr->Prop} {H H':Hp} (h:Step G' F H F' H') (hs:∀ b,G.R b->G'.R b):Step G F H F' H':=⟨h.keep,h.grow,fun b o r=>h.res b o (hs b r),h.tb⟩
theorem oJ:∀ (ps:List (Nat × D)) (δ:Loc),(ps.foldl (fun δ p=>δ.set p.1 (Sl.val p.2)) δ).length = δ.length:=by
 intro ps
 induction ps with
 | nil=>intro δ;rfl
 | cons a r ih=>intro δ;rw [fA,ih,aW]
theorem Ag {δ δ':Loc} {tg:Tg} {d:D} (es:eV δ tg d = some δ'):δ'.length = δ.length:=by
 unfold eV at es;split at es
 . split at es
   . cases es;rw [aW]
   . cases es
 . split at es
   . cases es;rw [oJ]
   . cases es
 . split at es
   . cases es;rw [oJ]
   . cases es
 . split at es
   . cases es;rw [oJ,aW]
   . cases es
 . cases es
theorem wX {G:Gh} {F1:Addr->Prop} {H1:Hp} {σ:L2.St} {J:L2.It} {ds ys:List D} {δ1 δ2:Loc} {k:Nat} {tg:Tg} {ifs:Eo} {elt:E} {p:Addr} {Q:L2.St->Hp->Prop} (n:(!bJ elt) = true) (hge:zU σ.length tg = true)
 (ok1:Ok K G F1 σ H1 δ1) (wk:Wk K G F1 H1 J ds) (hp:H1 p = none) (ev:kK (vf cx k tg ifs elt) ds δ1 = some (ys,δ2)) (hz:ys.length<=sizeLine)
 (q:∀ σ' H2 F2 xs,Ok K (G.and p) F2 σ H2 δ2->H2 p = some (.lst xs)->aF K H2 F2 ys xs->Step G F1 H1 F2 H2->((npO ifs && np elt) = true->Sim H1 H2)->Q σ' H2) :
 tLp J (gTg K tg) (tG K cx ifs) (Cv p (tE K cx elt)) (σ++List.replicate k none) (upd H1 p (.lst [])) Q:=by
 have hg:=ok1.free hp;obtain ⟨ok2,st2⟩:=ok1.enter hp [];have hFs:∀ b,G.R b->(G.and p).R b:=fun b z=>.inl z
 refine ⟨fun i m σc Hc=>∃ F' δi zs xs yi,m = ds.length - i/\i<=ds.length/\(∃ tl:L2.St,σc = σ++tl/\tl.length = k)/\Ok K (G.and p) F' σ Hc δi/\kK (vf cx k tg ifs elt) (ds.drop i) δi = some (zs,δ2)/\yi++zs = ys/\Hc p = some (.lst xs)/\aF K Hc F' yi xs/\Step G F1 H1 F' Hc /\
  ((npO ifs && np elt) = true->Sim H1 Hc),⟨ds.length,fun b=>F1 b\/b = p,δ1,ys,[],[],by simp,bC _,⟨_,rfl,by simp⟩,ok2,ev,rfl,cg,aF.nil,st2,fun _=>.of (cj hp _)⟩,?_⟩
 rintro i m σc Hc ⟨F',δi,zs,xs,yi,rfl,hi,⟨tl,rfl,htl⟩,ok,el,ey,eD,rl,st,sm⟩;have hF:F' p:=ok.rf p (.inr rfl);by_cases hlt:i < ds.length
 . obtain ⟨d,hd⟩:∃ d,ds[i]? = some d:=⟨ds[i],by simp [hlt]⟩;obtain ⟨go,yl⟩:=(wk F' Hc st ok.fd i).1 d hd;refine .inr ⟨go,fun x H3 hy=>?_⟩;obtain ⟨e3,rx⟩:=yl x H3 hy;subst e3
   have edr:ds.drop i = d::ds.drop (i+1):=by
    rw [eY hlt];congr 1;rw [aw hlt] at hd;exact aM hd
   rw [edr] at el;obtain ⟨o,δ5,zs',ef,el',ez⟩:=wY el;obtain ⟨δ6,b,δ7,es,eg,alt⟩:=AG ef;have okx:Ok K (G.and p) F' (σ++tl) H3 (δi++List.replicate k .no):=by rw [<- htl];exact ok.ext tl
   refine mJ okx rx es fun σ2 ok6 htake=>?_;have t2:σ2.take σ.length = σ:=by rw [htake _ hge,List.take_left'];rfl
   have l2:σ2.length = σ.length+k:=by
    have a1:=okx.len;have a2:=ok6.len;have e1:=Ag es;have e2:(σ++tl).length = σ.length+k:=by rw [au,htl]
    lia
   have dl:δi.length = σ.length:=ok.len
   have tail:∃ tl':L2.St,σ2 = σ++tl'/\tl'.length = k:=by
    refine ⟨σ2.drop σ.length,?_,by rw [fY];lia⟩
    conv=>lhs;rw [<- jL σ.length σ2,t2]
   refine ⟨G.and p,F',δ6,b,δ7,ok6,eg,fun H7 F7 st7 sm7 ok7=>?_⟩;have keepD:∀ {F8:Addr->Prop} {H8:Hp},Step (G.and p) F' H3 F8 H8->H8 p = some (.lst xs):=fun s8=>(s8.res p _ (.inr rfl) hF eD).2;rcases alt with ⟨rfl,y,δ8,ee,rfl,rfl⟩ | ⟨rfl,rfl,rfl⟩
   . refine oz ?_;refine ⟨G.and p,F7,δ7,y,δ8,ok7,ee,fun u H8 F8 st8 sm8 ok8 r8=>?_⟩;have s78:=st7.trans st8;have eD8:=keepD s78;have ry:=dX n r8;have rl8:aF K H8 F8 yi xs:=aF.step ok.fd s78 yi xs rl;have hF8:F8 p:=ok8.rf p (.inr rfl);have pk:Step g0 F8 H8 F8 (upd H8 p (.lst (xs++[u]))):=⟨fun b o _ e nf=>by rw [bw (fun z:b = p=>nf (by rw [z];exact hF8))];exact e,fun b z=>.inl z,fun _ _ r _ _=>r.elim,fun b ps e=>⟨ps,by rw [bw (fun w:b = p=>by rw [w,eD8] at e;cases e)];exact e⟩⟩;subst ez
     have hyl:yi.length < sizeLine:=by
      have:=congrArg List.length ey;rw [au] at this;simp only [ax] at this
      lia
     refine ⟨xs,eD8,by rw [rl8.length];exact hyl,ds.length - (i+1),by lia,F8,δ8.take δi.length,zs',xs++[u],yi++[y],rfl,hlt,tail,?_,el',by rw [lW];exact ey,cg,?_,?_,fun z=>?_⟩
     . have:=(ok8.poke hg eD8 (xs++[u])).cut δi.length;rw [dl,t2] at this;rw [dl];exact this
     . exact aF.step ok8.fd pk _ _ (rl8.append (aF.one ry))
     . have s1:=st.trans (s78.sub hFs);refine ⟨fun b o t e nf=>?_,s1.grow,fun b o r f e=>?_,fun b ps e=>?_⟩
       . rw [bw (fun w:b = p=>by rw [w,hp] at e;cases e)];exact s1.keep b o t e nf
       . obtain ⟨a1,a2⟩:=s1.res b o r f e;refine ⟨a1,?_⟩;rw [bw (fun w:b = p=>by rw [w,hp] at e;cases e)];exact a2
       . rw [bw (fun w:b = p=>by rw [w,hp] at e;cases e)];exact s1.tb b ps e
     . have z':=z;rw [aa] at z';have s1:=((sm z).trans (sm7 z'.1)).trans (sm8 z'.2);refine ⟨fun b o t e=>?_,fun b ps e=>?_⟩
       . rw [bw (fun w:b = p=>by rw [w,hp] at e;cases e)];exact s1.nt b o t e
       . rw [bw (fun w:b = p=>by rw [w,hp] at e;cases e)];exact s1.tb b ps e
   . refine pO ?_;subst ez;refine ⟨ds.length - (i+1),by lia,F7,δ7.take δi.length,_,xs,yi,rfl,hlt,tail,?_,el',ey,keepD st7,aF.step ok.fd st7 yi xs rl,st.trans (st7.sub hFs),fun z=>?_⟩
     . have:=ok7.cut δi.length;rw [dl,t2] at this;rw [dl];exact this
     . have z':=z;rw [aa] at z';exact (sm z).trans (sm7 z'.1)
 . have hi':i = ds.length:=by lia
   subst hi';rw [nq] at el;cases el;rw [cc] at ey;subst ey;exact .inl ⟨(wk F' Hc st ok.fd ds.length).2 rfl,q _ Hc F' xs ok eD rl st sm⟩
end
end PP
end
section
namespace PP
open PySem
section
variable (cx:Cl)
noncomputable def wE (e:E) (δ:Loc) (Q:D->Loc->Prop):Prop:=∃ d δ',evE cx e δ = some (d,δ')/\Q d δ'
noncomputable def wT (e:E) (δ:Loc) (Q:Bool->Loc->Prop):Prop:=∃ d δ',evT cx e δ = some (d,δ')/\Q d δ'
noncomputable def wEs (e:Es) (δ:Loc) (Q:List D->Loc->Prop):Prop:=∃ d δ',gI cx e δ = some (d,δ')/\Q d δ'
noncomputable def wO (e:Eo) (δ:Loc) (Q:Option Int->Loc->Prop):Prop:=∃ d δ',evO cx e δ = some (d,δ')/\Q d δ'
noncomputable def wG (e:Eo) (δ:Loc) (Q:Bool->Loc->Prop):Prop:=∃ d δ',evG cx e δ = some (d,δ')/\Q d δ'
noncomputable def wI (e:It) (δ:Loc) (Q:List D->Loc->Prop):Prop:=∃ d δ',evI cx e δ = some (d,δ')/\Q d δ'
noncomputable def wS (s:S) (δ:Loc) (Q:Out->Prop):Prop:=∃ o,evS cx s δ = some o/\Q o
noncomputable def wSs (s:Ss) (δ:Loc) (Q:Out->Prop):Prop:=∃ o,dk cx s δ = some o/\Q o
noncomputable def wTg (δ:Loc) (tg:Tg) (d:D) (Q:Loc->Prop):Prop:=∃ δ',eV δ tg d = some δ'/\Q δ'
noncomputable def wOp (op:Op) (x y:D) (Q:D->Prop):Prop:=∃ z,opD op x y = some z/\Q z
noncomputable def iR (op:Cop) (x y:D) (Q:Bool->Prop):Prop:=∃ z,wZ op x y = some z/\Q z
noncomputable def kS (f:Blt) (ds:List D) (Q:D->Prop):Prop:=∃ z,ju f ds = some z/\Q z
noncomputable def Cj (f:Nat) (ds:List D) (Q:D->Prop):Prop:=∃ z,cx.call f ds = some z/\Q z
noncomputable def vS (δ:Loc) (i:Nat) (Q:D->Prop):Prop:=∃ z,PP.get δ i = some z/\Q z
noncomputable def wIx (x y:D) (Q:D->Prop):Prop:=∃ z,ixD x y = some z/\Q z
noncomputable def wSl (x:D) (lo hi:Option Int) (Q:D->Prop):Prop:=∃ z,slD x lo hi = some z/\Q z
noncomputable def wTv (x:D) (Q:Bool->Prop):Prop:=∃ z,tv x = some z/\Q z
noncomputable def wItems (x:D) (Q:List D->Prop):Prop:=∃ z,items x = some z/\Q z
noncomputable def Nd (k:Nat) (tg:Tg) (ifs:Eo) (elt:E):D->Loc->Option (Option D × Loc):=fun x δ0=>do
 let δ2 <- eV (δ0++List.replicate k .no) tg x
 let (b,δ3) <- evG cx ifs δ2
 if b then do
  let (y,δ4) <- evE cx elt δ3
  return (some y,δ4.take δ0.length)
 else return (none,δ3.take δ0.length)
noncomputable def kq (k:Nat) (tg:Tg) (ifs:Eo) (elt:E) (ds:List D) (δ:Loc) (Q:List D->Loc->Prop):Prop:=∃ ys δ',kK (Nd cx k tg ifs elt) ds δ = some (ys,δ')/\Q ys δ'
noncomputable def Mb (tg:Tg) (body:Ss):D->Loc->Option Out:=fun x δ0=>match eV δ0 tg x with
 | some δ2=>dk cx body δ2
 | none=>none
noncomputable def pG (tg:Tg) (body:Ss) (ds:List D) (δ:Loc) (Q:Out->Prop):Prop:=∃ o,forL (Mb cx tg body) ds δ = some o/\Q o
noncomputable def qW (c:E) (body:Ss) (n:Nat) (δ:Loc) (Q:Out->Prop):Prop:=∃ o,ja (fun δ0=>evT cx c δ0) (fun δ0=>dk cx body δ0) n δ = some o/\Q o
end
section
variable {α β γ:Type} {P P':α->Loc->Prop} {R R':α->Prop} {Q:β->Loc->Prop} {S:γ->Prop} {o:Option (α × Loc)} {u:Option α} {f:α × Loc->Option (β × Loc)} {g:α->Option (β × Loc)} {f':α × Loc->Option γ} {g':α->Option γ} {d:β} {r:γ} {δ:Loc} {c:Prop} [Decidable c]
theorem yb:(∃ r,o.bind f' = some r/\S r)↔∃ x δ1,o = some (x,δ1)/\∃ r,f' (x,δ1) = some r/\S r:=by
 cases o with
 | none=>exact ⟨fun ⟨_,e,_⟩=>(by cases e),fun ⟨_,_,e,_⟩=>(by cases e)⟩
 | some p=>exact ⟨fun h=>⟨p.1,p.2,rfl,h⟩,fun ⟨_,_,e,h⟩=>by cases e;exact h⟩
theorem ys:(∃ r,u.bind g' = some r/\S r)↔∃ x,u = some x/\∃ r,g' x = some r/\S r:=by
 cases u with
 | none=>exact ⟨fun ⟨_,e,_⟩=>(by cases e),fun ⟨_,e,_⟩=>(by cases e)⟩
 | some p=>exact ⟨fun h=>⟨p,rfl,h⟩,fun ⟨_,e,h⟩=>by cases e;exact h⟩
theorem yr:(∃ r',some r = some r'/\S r')↔S r:=⟨fun ⟨_,e,h⟩=>(by cases e;exact h),fun h=>⟨_,rfl,h⟩⟩
theorem yi:(∃ r',(if c then some r else none) = some r'/\S r')↔c/\S r:=by
 by_cases h:c
 . rw [if_pos h];exact yr.trans ⟨fun q=>⟨h,q⟩,fun q=>q.2⟩
 . rw [if_neg h];exact ⟨fun ⟨_,e,_⟩=>(by cases e),fun q=>absurd q.1 h⟩
theorem yn {A:Prop} (h:¬ A):(∃ r',(none:Option γ) = some r'/\S r')↔A:=⟨fun ⟨_,e,_⟩=>(by cases e),fun q=>absurd q h⟩
theorem xq {o:Option (β × Loc)}:(∃ d δ',o = some (d,δ')/\Q d δ')↔∃ r,o = some r/\Q r.1 r.2:=⟨fun ⟨_,_,e,q⟩=>⟨_,e,q⟩,fun ⟨r,e,q⟩=>⟨r.1,r.2,e,q⟩⟩
theorem xb:(∃ d δ',o.bind f = some (d,δ')/\Q d δ')↔∃ x δ1,o = some (x,δ1)/\∃ d δ',f (x,δ1) = some (d,δ')/\Q d δ':=xq.trans (yb.trans ⟨fun ⟨x,y,e,h⟩=>⟨x,y,e,xq.mpr h⟩,fun ⟨x,y,e,h⟩=>⟨x,y,e,xq.mp h⟩⟩)
theorem x1:(∃ d δ',u.bind g = some (d,δ')/\Q d δ')↔∃ x,u = some x/\∃ d δ',g x = some (d,δ')/\Q d δ':=xq.trans (ys.trans ⟨fun ⟨x,e,h⟩=>⟨x,e,xq.mpr h⟩,fun ⟨x,e,h⟩=>⟨x,e,xq.mp h⟩⟩)
theorem xr:(∃ d' δ',some (d,δ) = some (d',δ')/\Q d' δ')↔Q d δ:=xq.trans yr
theorem xi:(∃ d' δ',(if c then some (d,δ) else none) = some (d',δ')/\Q d' δ')↔c/\Q d δ:=xq.trans yi
theorem xn {A:Prop} (h:¬ A):(∃ d' δ',(none:Option (β × Loc)) = some (d',δ')/\Q d' δ')↔A:=xq.trans (yn h)
theorem xc (h:∀ x δ,P x δ↔P' x δ):(∃ x δ1,o = some (x,δ1)/\P x δ1)↔∃ x δ1,o = some (x,δ1)/\P' x δ1:=⟨fun ⟨x,δ,e,p⟩=>⟨x,δ,e,(h x δ).mp p⟩,fun ⟨x,δ,e,p⟩=>⟨x,δ,e,(h x δ).mpr p⟩⟩
theorem xd (h:∀ x,R x↔R' x):(∃ x,u = some x/\R x)↔∃ x,u = some x/\R' x:=⟨fun ⟨x,e,p⟩=>⟨x,e,(h x).mp p⟩,fun ⟨x,e,p⟩=>⟨x,e,(h x).mpr p⟩⟩
end
theorem ID {b:Bool} {P:Bool->Prop}:(∃ k,D.bl b = D.bl k/\P k)↔P b:=⟨fun ⟨_,e,q⟩=>by cases e;exact q,fun q=>⟨_,rfl,q⟩⟩
theorem yP {b:Int} {P:Int->Prop}:(∃ k,D.int b = D.int k/\P k)↔P b:=⟨fun ⟨_,e,q⟩=>by cases e;exact q,fun q=>⟨_,rfl,q⟩⟩
theorem uW {b:List D} {P:List D->Prop}:(∃ k,D.lst b = D.lst k/\P k)↔P b:=⟨fun ⟨_,e,q⟩=>by cases e;exact q,fun q=>⟨_,rfl,q⟩⟩
section
variable {cx:Cl} {δ:Loc}
theorem Kb {i:Nat} {Q:D->Loc->Prop}:wE cx (.var i) δ Q↔∃ d,EN δ i = some d/\Q d (demote δ i):=x1.trans (xd fun _=>xr)
theorem MW {i:Nat} {Q:D->Loc->Prop}:wE cx (.pk i) δ Q↔vS δ i fun d=>Q d δ:=x1.trans (xd fun _=>xr)
theorem mH {i:Nat} {Q:D->Loc->Prop}:wE cx (.glob i) δ Q↔∃ d,cx.gl[i]? = some d/\Q d δ:=x1.trans (xd fun _=>xr)
theorem Kj {i:Int} {Q:D->Loc->Prop}:wE cx (.int i) δ Q↔Q (.int i) δ:=xr
theorem Nb {i:Bool} {Q:D->Loc->Prop}:wE cx (.bl i) δ Q↔Q (.bl i) δ:=xr
theorem Kf {Q:D->Loc->Prop}:wE cx .non δ Q↔Q .non δ:=xr
theorem Kd {i:Str} {Q:D->Loc->Prop}:wE cx (.str i) δ Q↔Q (.str i) δ:=xr
theorem Km {op:Op} {a b:E} {Q:D->Loc->Prop}:wE cx (.bin op a b) δ Q↔wE cx a δ fun x δ1=>wE cx b δ1 fun y δ2=>wOp op x y fun z=>Q z δ2:=xb.trans (xc fun _ _=>xb.trans (xc fun _ _=>x1.trans (xd fun _=>xr)))
theorem Kk {op:Cop} {a b:E} {Q:D->Loc->Prop}:wE cx (.cmp op a b) δ Q↔wE cx a δ fun x δ1=>wE cx b δ1 fun y δ2=>iR op x y fun z=>Q (.bl z) δ2:=xb.trans (xc fun _ _=>xb.trans (xc fun _ _=>x1.trans (xd fun _=>xr)))
theorem JP {op:Cop} {a b:E} {Q:Bool->Loc->Prop}:wT cx (.cmp op a b) δ Q↔wE cx a δ fun x δ1=>wE cx b δ1 fun y δ2=>iR op x y fun z=>Q z δ2:=xb.trans (xc fun _ _=>xb.trans (xc fun _ _=>x1.trans (xd fun _=>xr)))
theorem Kn {a b:E} {Q:D->Loc->Prop}:wE cx (.and a b) δ Q↔wE cx a δ fun x δ1=>∃ k,x = .bl k/\if k = true then wE cx b δ1 Q else Q (.bl false) δ1:=xb.trans (xc fun x _=>by
 cases x with
 | bl k=>refine Iff.trans ?_ ID.symm;cases k;exact xr;exact aR
 | _=>exact xn fun ⟨_,e,_⟩=>by cases e)
theorem MX {a b:E} {Q:D->Loc->Prop}:wE cx (.or a b) δ Q↔wE cx a δ fun x δ1=>∃ k,x = .bl k/\if k = true then Q (.bl true) δ1 else wE cx b δ1 Q:=xb.trans (xc fun x _=>by
 cases x with
 | bl k=>refine Iff.trans ?_ ID.symm;cases k;exact aR;exact xr
 | _=>exact xn fun ⟨_,e,_⟩=>by cases e)
theorem Ke {a:E} {Q:D->Loc->Prop}:wE cx (.not a) δ Q↔wE cx a δ fun x δ1=>∃ k,x = .bl k/\Q (.bl (!k)) δ1:=xb.trans (xc fun x _=>by
 cases x with
 | bl k=>refine Iff.trans ?_ ID.symm;exact xr
 | _=>exact xn fun ⟨_,e,_⟩=>by cases e)
theorem Gz {a:E} {n:Int} {Q:D->Loc->Prop}:wE cx (.maxd a n) δ Q↔wE cx a δ fun x δ1=>∃ ds ns,x = .lst ds/\qC ds = some ns/\Q (.int (if ns = [] then n else nA ns)) δ1:=by
 unfold wE;simp only [evE,aj,ag,Prod.exists];constructor
 . rintro ⟨d,δ',⟨x,δ1,h1,e⟩,q⟩
   cases x with
   | lst ds =>
     dsimp only at e;rw [aE] at e;obtain ⟨ns,e1,e2⟩:=e;cases e2
     exact ⟨_,_,h1,_,_,rfl,e1,q⟩
   | _=>cases e
 . rintro ⟨x,δ1,h1,ds,ns,rfl,e,q⟩;exact ⟨_,_,⟨_,_,h1,by dsimp only;rw [e];rfl⟩,q⟩
theorem Kg {a:E} {Q:D->Loc->Prop}:wE cx (.neg a) δ Q↔wE cx a δ fun x δ1=>∃ i,x = .int i/\Q (.int (-i)) δ1:=xb.trans (xc fun x _=>by
 cases x with
 | int k=>refine Iff.trans ?_ yP.symm;exact xr
 | _=>exact xn fun ⟨_,e,_⟩=>by cases e)
theorem JR {a b:E} {Q:Bool->Loc->Prop}:wT cx (.and a b) δ Q↔wT cx a δ fun k δ1=>if k = true then wT cx b δ1 Q else Q false δ1:=xb.trans (xc fun k _=>by cases k;exact xr;exact aR)
theorem MR {a b:E} {Q:Bool->Loc->Prop}:wT cx (.or a b) δ Q↔wT cx a δ fun k δ1=>if k = true then Q true δ1 else wT cx b δ1 Q:=xb.trans (xc fun k _=>by cases k;exact aR;exact xr)
theorem JO {a:E} {Q:Bool->Loc->Prop}:wT cx (.not a) δ Q↔wT cx a δ fun k δ1=>Q (!k) δ1:=xb.trans (xc fun _ _=>xr)
theorem JN {i:Nat} {Q:Bool->Loc->Prop}:wT cx (.var i) δ Q↔vS δ i fun d=>wTv d fun b=>Q b δ:=x1.trans (xd fun _=>x1.trans (xd fun _=>xr))
theorem MQ {i:Nat} {Q:Bool->Loc->Prop}:wT cx (.pk i) δ Q↔vS δ i fun d=>wTv d fun b=>Q b δ:=x1.trans (xd fun _=>x1.trans (xd fun _=>xr))
theorem Gb {f:Nat} {es:Es} {Q:Bool->Loc->Prop}:wT cx (.call f es) δ Q↔wEs cx es δ fun ds δ1=>Cj cx f ds fun d=>wTv d fun b=>Q b δ1:=xb.trans (xc fun _ _=>x1.trans (xd fun _=>x1.trans (xd fun _=>xr)))
theorem JQ {f:Blt} {es:Es} {Q:Bool->Loc->Prop}:wT cx (.blt f es) δ Q↔wEs cx es δ fun ds δ1=>kS f ds fun d=>wTv d fun b=>Q b δ1:=xb.trans (xc fun _ _=>x1.trans (xd fun _=>x1.trans (xd fun _=>xr)))
theorem Ki {c a b:E} {Q:D->Loc->Prop}:wE cx (.ite c a b) δ Q↔wT cx c δ fun k δ1=>if k = true then wE cx a δ1 Q else wE cx b δ1 Q:=xb.trans (xc fun k _=>by cases k<;>exact aR)
theorem Kc {es:Es} {Q:D->Loc->Prop}:wE cx (.tup es) δ Q↔wEs cx es δ fun ds δ1=>ds.length<=sizeLine/\Q (.tup ds) δ1:=xb.trans (xc fun _ _=>xi)
theorem Kh {es:Es} {Q:D->Loc->Prop}:wE cx (.lst es) δ Q↔wEs cx es δ fun ds δ1=>ds.length<=sizeLine/\Q (.lst ds) δ1:=xb.trans (xc fun _ _=>xi)
theorem MY {a b:E} {Q:D->Loc->Prop}:wE cx (.ix a b) δ Q↔wE cx a δ fun x δ1=>wE cx b δ1 fun y δ2=>wIx x y fun z=>Q z δ2:=xb.trans (xc fun _ _=>xb.trans (xc fun _ _=>x1.trans (xd fun _=>xr)))
theorem MV {a:E} {lo hi:Eo} {Q:D->Loc->Prop}:wE cx (.sl a lo hi) δ Q↔wE cx a δ fun x δ1=>wO cx lo δ1 fun l δ2=>wO cx hi δ2 fun h δ3=>wSl x l h fun z=>Q z δ3:=xb.trans (xc fun _ _=>xb.trans (xc fun _ _=>xb.trans (xc fun _ _=>x1.trans (xd fun _=>xr))))
theorem GB {f:Nat} {es:Es} {Q:D->Loc->Prop}:wE cx (.call f es) δ Q↔wEs cx es δ fun ds δ1=>Cj cx f ds fun z=>Q z δ1:=xb.trans (xc fun _ _=>x1.trans (xd fun _=>xr))
theorem Kl {f:Blt} {es:Es} {Q:D->Loc->Prop}:wE cx (.blt f es) δ Q↔wEs cx es δ fun ds δ1=>kS f ds fun z=>Q z δ1:=xb.trans (xc fun _ _=>x1.trans (xd fun _=>xr))
theorem Gw {Q:List D->Loc->Prop}:wEs cx .nil δ Q↔Q [] δ:=xr
theorem Cc {e:E} {es:Es} {Q:List D->Loc->Prop}:wEs cx (.cons e es) δ Q↔wE cx e δ fun x δ1=>wEs cx es δ1 fun xs δ2=>Q (x::xs) δ2:=xb.trans (xc fun _ _=>xb.trans (xc fun _ _=>xr))
theorem MS {Q:Option Int->Loc->Prop}:wO cx .no δ Q↔Q none δ:=xr
theorem JY {e:E} {Q:Option Int->Loc->Prop}:wO cx (.yes e) δ Q↔wE cx e δ fun x δ1=>∃ i,x = .int i/\Q (some i) δ1:=xb.trans (xc fun x _=>by
 cases x with
 | int k=>refine Iff.trans ?_ yP.symm;exact xr
 | _=>exact xn fun ⟨_,e,_⟩=>by cases e)
theorem MU {Q:Bool->Loc->Prop}:wG cx .no δ Q↔Q true δ:=xr
theorem Ka {e:E} {Q:Bool->Loc->Prop}:wG cx (.yes e) δ Q↔wT cx e δ Q:=aR
theorem JZ {e:E} {Q:List D->Loc->Prop}:wI cx (.rng e) δ Q↔wE cx e δ fun x δ1=>∃ j,x = .int j/\(-(2 ^ 62)<=j/\j < 2 ^ 62)/\Q (uq 0 j.toNat) δ1:=xb.trans (xc fun x _=>by
 cases x with
 | int k=>refine Iff.trans ?_ yP.symm;exact xi
 | _=>exact xn fun ⟨_,e,_⟩=>by cases e)
theorem MT {e:E} {Q:List D->Loc->Prop}:wI cx (.sq e) δ Q↔wE cx e δ fun x δ1=>wItems x fun ds=>Q ds δ1:=xb.trans (xc fun _ _=>x1.trans (xd fun _=>xr))
theorem GA {k:Nat} {tg:Tg} {src:It} {ifs:Eo} {elt:E} {Q:D->Loc->Prop}:wE cx (.comp k tg src ifs elt) δ Q↔wI cx src δ fun ds δ1=>kq cx k tg ifs elt ds δ1 fun ys δ2=>ys.length<=sizeLine/\Q (.lst ys) δ2:=xb.trans (xc fun _ _=>xb.trans (xc fun _ _=>xi))
theorem gu {k:Nat} {tg:Tg} {ifs:Eo} {elt:E} {Q:List D->Loc->Prop}:kq cx k tg ifs elt [] δ Q↔Q [] δ:=xr
theorem gz {k:Nat} {tg:Tg} {ifs:Eo} {elt:E} {x:D} {xs:List D} {Q:List D->Loc->Prop}:kq cx k tg ifs elt (x::xs) δ Q↔wTg (δ++List.replicate k .no) tg x fun δ2=>wG cx ifs δ2 fun b δ3 =>
 if b = true then wE cx elt δ3 fun y δ4=>kq cx k tg ifs elt xs (δ4.take δ.length) fun ys δ5=>Q (y::ys) δ5 else kq cx k tg ifs elt xs (δ3.take δ.length) Q:=xb.trans (x1.trans (xd fun _=>xb.trans (xc fun b _=>by cases b;exact xr.trans (xb.trans (xc fun _ _=>xr));exact xb.trans (xc fun _ _=>xr.trans (xb.trans (xc fun _ _=>xr))))))
end
section
variable (cx:Cl)
noncomputable def tV (ss:Ss) (Q:Out->Prop):Out->Prop
 | .nx δ=>wSs cx ss δ Q
 | .rt d δ=>Q (.rt d δ)
 | .bk δ=>Q (.bk δ)
 | .ct δ=>Q (.ct δ)
 | .ro d δ=>Q (.ro d δ)
end
noncomputable def lM (next:Loc->Prop) (Q:Out->Prop):Out->Prop
 | .nx δ=>next δ
 | .ct δ=>next δ
 | .bk δ=>Q (.nx δ)
 | .rt d δ=>Q (.rt d δ)
 | .ro d δ=>Q (.ro d δ)
noncomputable def ib (δ:Loc) (i:Nat) (s:Sl) (Q:Loc->Prop):Prop:=i < δ.length/\Q (δ.set i s)
noncomputable def zp (pre δ:Loc) (i:Nat) (s:Sl) (Q:Loc->Prop):Prop:=i < δ.length/\Q (pre.reverse++δ.set i s)
noncomputable def Gr (δ:Loc) (i:Nat) (s:Sl) (Q:Loc->Prop):Prop:=Q (δ.set i s)
noncomputable def qf (pre δ:Loc) (i:Nat) (s:Sl) (Q:Loc->Prop):Prop:=Q (pre.reverse++δ.set i s)
noncomputable def tK (pre δ:Loc) (Q:Loc->Prop):Prop:=Q (pre.reverse++δ)
noncomputable def vL (δ0:Loc) (j:Nat) (δ:Loc) (i:Nat) (Q:D->Loc->Prop):Prop:=match δ[i]? with
 | some (.val d)=>Q d δ0
 | some (.own ds)=>Q (.lst ds) (δ0.set j (.val (.lst ds)))
 | some (.odc ks ds)=>Q (.dct ks ds) (δ0.set j (.val (.dct ks ds)))
 | _=>False
noncomputable def lZ (δ:Loc) (i:Nat) (Q:List D->Prop):Prop:=match δ[i]? with
 | some (.own ds)=>Q ds
 | _=>False
noncomputable def JX (δ:Loc) (i:Nat) (Q:List Str->List D->Prop):Prop:=match δ[i]? with
 | some (.odc ks ds)=>Q ks ds
 | _=>False
noncomputable def Bw (δ:Loc) (i:Nat) (Q:D->Prop):Prop:=match δ[i]? with
 | some (.val d)=>Q d
 | _=>False
section
variable {cx:Cl} {δ pre:Loc}
theorem jf {ss:Ss} {Q:Out->Prop}:tV cx ss Q (.nx δ)↔wSs cx ss δ Q:=aR
theorem Cs {ss:Ss} {Q:Out->Prop} {d:D}:tV cx ss Q (.rt d δ)↔Q (.rt d δ):=aR
theorem Cu {ss:Ss} {Q:Out->Prop}:tV cx ss Q (.bk δ)↔Q (.bk δ):=aR
theorem Ct {ss:Ss} {Q:Out->Prop}:tV cx ss Q (.ct δ)↔Q (.ct δ):=aR
theorem Ek {n:Loc->Prop} {Q:Out->Prop}:lM n Q (.nx δ)↔n δ:=aR
theorem El {n:Loc->Prop} {Q:Out->Prop}:lM n Q (.ct δ)↔n δ:=aR
theorem Em {n:Loc->Prop} {Q:Out->Prop}:lM n Q (.bk δ)↔Q (.nx δ):=aR
theorem Ej {n:Loc->Prop} {Q:Out->Prop} {d:D}:lM n Q (.rt d δ)↔Q (.rt d δ):=aR
theorem Bz {i:Nat} {s:Sl} {Q:Loc->Prop}:ib δ i s Q↔zp [] δ i s Q:=aR
theorem zo {i:Nat} {s t:Sl} {Q:Loc->Prop}:zp pre (t::δ) (i+1) s Q↔zp (t::pre) δ i s Q:=by simp [zp]
theorem zm {s t:Sl} {Q:Loc->Prop}:zp pre (t::δ) 0 s Q↔tK pre (s::δ) Q:=by simp [zp,tK]
theorem BI {i:Nat} {s:Sl} {Q:Loc->Prop}:Gr δ i s Q↔qf [] δ i s Q:=aR
theorem vO {i:Nat} {s t:Sl} {Q:Loc->Prop}:qf pre (t::δ) (i+1) s Q↔qf (t::pre) δ i s Q:=by simp [qf]
theorem vN {s t:Sl} {Q:Loc->Prop}:qf pre (t::δ) 0 s Q↔tK pre (s::δ) Q:=by simp [qf,tK]
theorem zx {t:Sl} {Q:Loc->Prop}:tK (t::pre) δ Q↔tK pre (t::δ) Q:=by simp [tK]
theorem BF {Q:Loc->Prop}:tK [] δ Q↔Q δ:=aR
theorem zq {δ0:Loc} {i j:Nat} {t:Sl} {Q:D->Loc->Prop}:vL δ0 j (t::δ) (i+1) Q↔vL δ0 j δ i Q:=aR
theorem Bs {δ0:Loc} {j:Nat} {d:D} {Q:D->Loc->Prop}:vL δ0 j (.val d::δ) 0 Q↔Q d δ0:=aR
theorem Bt {δ0:Loc} {j:Nat} {ds:List D} {Q:D->Loc->Prop}:vL δ0 j (.own ds::δ) 0 Q↔Gr δ0 j (.val (.lst ds)) fun δ1=>Q (.lst ds) δ1:=aR
theorem Bu {δ0:Loc} {j:Nat} {ks:List Str} {ds:List D} {Q:D->Loc->Prop}:vL δ0 j (.odc ks ds::δ) 0 Q↔Gr δ0 j (.val (.dct ks ds)) fun δ1=>Q (.dct ks ds) δ1:=aR
theorem zC {i:Nat} {t:Sl} {Q:List Str->List D->Prop}:JX (t::δ) (i+1) Q↔JX δ i Q:=aR
theorem BU {ks:List Str} {ds:List D} {Q:List Str->List D->Prop}:JX (.odc ks ds::δ) 0 Q↔Q ks ds:=aR
theorem zD {i:Nat} {t:Sl} {Q:D->Prop}:vS (t::δ) (i+1) Q↔vS δ i Q:=aR
theorem BY {d:D} {Q:D->Prop}:vS (.val d::δ) 0 Q↔Q d:=yr
theorem BZ {ds:List D} {Q:D->Prop}:vS (.own ds::δ) 0 Q↔Q (.lst ds):=yr
theorem zy {i:Nat} {t:Sl} {Q:List D->Prop}:lZ (t::δ) (i+1) Q↔lZ δ i Q:=aR
theorem BJ {ds:List D} {Q:List D->Prop}:lZ (.own ds::δ) 0 Q↔Q ds:=aR
theorem zt {i:Nat} {t:Sl} {Q:D->Prop}:Bw (t::δ) (i+1) Q↔Bw δ i Q:=aR
theorem Bv {d:D} {Q:D->Prop}:Bw (.val d::δ) 0 Q↔Q d:=aR
theorem Gx {i:Nat} {Q:D->Loc->Prop}:wE cx (.var i) δ Q↔vL δ i δ i Q:=by
 rw [Kb];unfold EN vL PP.get demote
 cases h:δ[i]? with
 | none=>simp
 | some s=>cases s<;>simp
theorem iE {Q:Out->Prop}:wSs cx .nil δ Q↔Q (.nx δ):=yr
theorem eT {s:S} {ss:Ss} {Q:Out->Prop}:wSs cx (.cons s ss) δ Q↔wS cx s δ (tV cx ss Q):=by
 unfold wSs wS;simp only [dk]
 cases evS cx s δ with
 | none=>exact yn (fun ⟨_,e,_⟩=>by cases e)
 | some o =>
   refine Iff.trans ?_ yr.symm
   cases o with
   | nx δ1=>exact aR
   | _=>exact yr
theorem BE {tg:Tg} {e:E} {Q:Out->Prop}:wS cx (.asg tg e) δ Q↔wE cx e δ fun d δ1=>wTg δ1 tg d fun δ2=>Q (.nx δ2):=yb.trans (xc fun _ _=>ys.trans (xd fun _=>yr))
theorem By {i:Nat} {d:D} {Q:Loc->Prop}:wTg δ (.nm i) d Q↔ib δ i (.val d) Q:=yi
theorem Bx {is:List Nat} {ds:List D} {Q:Loc->Prop}:wTg δ (.tp is) (.tup ds) Q↔(is.length = ds.length/\is.all (· < δ.length) = true)/\Q ((is.zip ds).foldl (fun δ p=>δ.set p.1 (.val p.2)) δ):=yi
theorem JU {i:Nat} {e:E} {Q:Out->Prop}:wS cx (.new i e) δ Q↔wE cx e δ fun d δ1=>∃ ds,d = .lst ds/\ib δ1 i (.own ds) fun δ2=>Q (.nx δ2):=yb.trans (xc fun x _=>by
 cases x with
 | lst k=>refine Iff.trans ?_ uW.symm;exact yi
 | _=>exact yn fun ⟨_,e,_⟩=>by cases e)
theorem BD {own:Bool} {i:Nat} {e:E} {Q:Out->Prop}:wS cx (.cmp own i e) δ Q↔wE cx e δ fun d δ1=>∃ ds,d = .lst ds/\ib δ1 i (bif own then .own ds else .val (.lst ds)) fun δ2=>Q (.nx δ2):=yb.trans (xc fun x _=>by
 cases x with
 | lst k=>refine Iff.trans ?_ uW.symm;cases own<;>exact yi
 | _=>exact yn fun ⟨_,e,_⟩=>by cases e)
theorem Gm {i:Nat} {e:E} {Q:Out->Prop}:wS cx (.cmp true i e) δ Q↔wE cx e δ fun d δ1=>∃ ds,d = .lst ds/\ib δ1 i (.own ds) fun δ2=>Q (.nx δ2):=BD
theorem Gn {i:Nat} {e:E} {Q:Out->Prop}:wS cx (.cmp false i e) δ Q↔wE cx e δ fun d δ1=>∃ ds,d = .lst ds/\ib δ1 i (.val (.lst ds)) fun δ2=>Q (.nx δ2):=BD
noncomputable def Kp (x y:D) (Q:D->Prop):Prop:=∃ z,AW x y = some z/\Q z
theorem Ko {a b:Int} {Q:D->Prop}:Kp (.int a) (.int b) Q↔Q (.int (a+b)):=yr
theorem Gp {i:Nat} {e:E} {Q:Out->Prop}:wS cx (.aug i .add e) δ Q↔Bw δ i fun x=>wE cx e δ fun y δ1=>Kp x y fun z=>Gr δ1 i (.val z) fun δ2=>Q (.nx δ2):=by
 unfold wS Bw;simp only [evS]
 cases δ[i]? with
 | none=>exact yn id
 | some s =>
   cases s with
   | val x =>
     refine yb.trans (xc fun y δ1=>?_);show (∃ o,(AW x y).map _ = some o/\Q o)↔_;unfold Kp
     cases AW x y with
     | none=>exact yn fun ⟨_,e,_⟩=>by cases e
     | some z=>exact yr.trans ⟨fun q=>⟨z,rfl,q⟩,fun ⟨_,e,q⟩=>by cases e;exact q⟩
   | _=>exact yn id
theorem JT {e:E} {Q:Out->Prop}:wS cx (.ret e) δ Q↔wE cx e δ fun d δ1=>Q (.rt d δ1):=yb.trans (xc fun _ _=>yr)
theorem Gf {Q:Out->Prop}:wS cx .retN δ Q↔Q (.rt .non δ):=yr
theorem Gg {Q:Out->Prop}:wS cx .pass δ Q↔Q (.nx δ):=yr
theorem JW {Q:Out->Prop}:wS cx .brk δ Q↔Q (.bk δ):=yr
theorem Gk {Q:Out->Prop}:wS cx .cont δ Q↔Q (.ct δ):=yr
theorem BB {c:E} {a b:Ss} {Q:Out->Prop}:wS cx (.ifs c a b) δ Q↔wT cx c δ fun k δ1=>if k = true then wSs cx a δ1 Q else wSs cx b δ1 Q:=yb.trans (xc fun k _=>by cases k<;>exact aR)
theorem JV {tg:Tg} {src:It} {body:Ss} {Q:Out->Prop}:wS cx (.for_ tg src body) δ Q↔wI cx src δ fun ds δ1=>pG cx tg body ds δ1 Q:=yb.trans (xc fun _ _=>aR)
theorem tJ {c:E} {body:Ss} {Q:Out->Prop}:wS cx (.while_ c body) δ Q↔qW cx c body 1000 δ Q:=aR
theorem zw {i:Nat} {e:E} {Q:Out->Prop}:wS cx (.append i e) δ Q↔lZ δ i fun _=>wE cx e δ fun d δ1=>lZ δ1 i fun ds=>ds.length < sizeLine/\ib δ1 i (.own (ds++[d])) fun δ2=>Q (.nx δ2):=by
 unfold wS lZ;simp only [evS]
 cases δ[i]? with
 | none=>exact yn id
 | some s =>
   cases s with
   | own ds0 =>
     refine yb.trans (xc fun d δ1=>?_);dsimp only
     cases h1:δ1[i]? with
     | none=>exact yn id
     | some s =>
       cases s with
       | own ds=>exact yi.trans ⟨fun q=>⟨q.1,(aB.mp h1).1,q.2⟩,fun q=>⟨q.1,q.2.2⟩⟩
       | _=>exact yn id
   | _=>exact yn id
theorem zu {i:Nat} {e:E} {Q:Out->Prop}:wS cx (.extend i e) δ Q↔lZ δ i fun _=>wE cx e δ fun d δ1=>∃ ys,d = .lst ys/\lZ δ1 i fun ds=>ds.length+ys.length<=sizeLine/\ib δ1 i (.own (ds++ys)) fun δ2=>Q (.nx δ2):=by
 unfold wS lZ;simp only [evS]
 cases δ[i]? with
 | none=>exact yn id
 | some s =>
   cases s with
   | own ds0 =>
     refine yb.trans (xc fun d δ1=>?_)
     cases d with
     | lst ys =>
       refine Iff.trans ?_ uW.symm;dsimp only
       cases h1:δ1[i]? with
       | none=>exact yn id
       | some s =>
         cases s with
         | own ds=>exact yi.trans ⟨fun q=>⟨q.1,(aB.mp h1).1,q.2⟩,fun q=>⟨q.1,q.2.2⟩⟩
         | _=>exact yn id
     | _=>exact yn fun ⟨_,e,_⟩=>by cases e
   | _=>exact yn id
theorem BA {i:Nat} {j e:E} {Q:Out->Prop}:wS cx (.setix i j e) δ Q↔wE cx e δ fun d δ1=>lZ δ1 i fun _=>wE cx j δ1 fun y δ2=>lZ δ2 i fun ds=>∃ k m,y = .int k/\L2.ixN ds.length k = some m/\ib δ2 i (.own (ds.set m d)) fun δ3=>Q (.nx δ3):=yb.trans (xc fun d δ1=>by
 unfold lZ;dsimp only
 cases δ1[i]? with
 | none=>exact yn id
 | some s =>
   cases s with
   | own ds0 =>
     refine yb.trans (xc fun y δ2=>?_)
     cases y with
     | int k =>
       dsimp only
       cases h2:δ2[i]? with
       | none=>exact yn id
       | some s =>
         cases s with
         | own ds =>
           dsimp only
           cases h3:L2.ixN ds.length k with
           | none=>exact yn fun ⟨_,_,e1,e2,_⟩=>by cases e1;rw [h3] at e2;cases e2
           | some m=>exact yr.trans ⟨fun q=>⟨_,_,rfl,h3,(aB.mp h2).1,q⟩,fun ⟨_,_,e1,e2,_,q⟩=>by cases e1;rw [h3] at e2;cases e2;exact q⟩
         | _=>exact yn id
     | _ =>
       refine yn ?_;split
       . exact fun ⟨_,_,e,_⟩=>by cases e
       . exact id
   | _=>exact yn id)
theorem jc {tg:Tg} {body:Ss} {Q:Out->Prop}:pG cx tg body [] δ Q↔Q (.nx δ):=yr
theorem jA {tg:Tg} {body:Ss} {x:D} {xs:List D} {Q:Out->Prop}:pG cx tg body (x::xs) δ Q↔wTg δ tg x fun δ2=>wSs cx body δ2 (lM (fun δ3=>pG cx tg body xs δ3 Q) Q):=by
 unfold pG wTg wSs;simp only [forL,Mb]
 cases eV δ tg x with
 | none=>exact yn (fun ⟨_,e,_⟩=>by cases e)
 | some δ2 =>
   refine Iff.trans ?_ yr.symm;dsimp only
   cases dk cx body δ2 with
   | none=>exact yn (fun ⟨_,e,_⟩=>by cases e)
   | some o =>
     refine Iff.trans ?_ yr.symm
     cases o with
     | nx δ1=>exact aR
     | ct δ1=>exact aR
     | _=>exact yr
theorem lI {c:E} {body:Ss} {n:Nat} {Q:Out->Prop}:qW cx c body (n+1) δ Q↔wT cx c δ fun k δ1=>if k = true then wSs cx body δ1 (lM (fun δ3=>qW cx c body n δ3 Q) Q) else Q (.nx δ1):=by
 unfold qW wT wSs;simp only [ja]
 cases evT cx c δ with
 | none=>exact yn (fun ⟨_,_,e,_⟩=>by cases e)
 | some p =>
   refine Iff.trans ?_ (xq.trans yr).symm;obtain ⟨k,δ1⟩:=p
   cases k with
   | false=>exact yr
   | true =>
     dsimp only
     cases dk cx body δ1 with
     | none=>exact yn (fun ⟨_,e,_⟩=>by cases e)
     | some o =>
       refine Iff.trans ?_ yr.symm
       cases o with
       | nx δ1=>exact aR
       | ct δ1=>exact aR
       | _=>exact yr
theorem jd {tg:Tg} {body:Ss} {Q:Out->Prop} (P:List D->Loc->Prop) (step:∀ x xs δ,P (x::xs) δ->wTg δ tg x fun δ2=>wSs cx body δ2 (lM (P xs) Q)) (fin:∀ δ,P [] δ->Q (.nx δ)):∀ (ds:List D) (δ:Loc),P ds δ->pG cx tg body ds δ Q
 | [],δ,h=>jc.mpr (fin δ h)
 | x::xs,δ,h=>by
   rw [jA];obtain ⟨δ2,e,o,e2,q⟩:=step x xs δ h;refine ⟨δ2,e,o,e2,?_⟩
   cases o with
   | nx δ1=>exact jd P step fin xs δ1 q
   | ct δ1=>exact jd P step fin xs δ1 q
   | rt d δ1=>exact q
   | ro d δ1=>exact q
   | bk δ1=>exact q
theorem nu {k:Nat} {tg:Tg} {ifs:Eo} {elt:E} {Q:List D->Loc->Prop} (P:D->D->Prop):∀ (ds:List D),(∀ x∈ds,wTg (δ++List.replicate k .no) tg x fun δ2=>wG cx ifs δ2 fun b δ3=>b = true/\wE cx elt δ3 fun y δ4=>P x y/\δ4.take δ.length = δ) ->
 (∀ ys,PySem.Paired P ds ys->Q ys δ)->kq cx k tg ifs elt ds δ Q
 | [],h,q=>gu.mpr (q [] .nil)
 | x::xs,h,q=>by
   rw [gz];obtain ⟨δ2,e,b,δ3,e2,rfl,y,δ4,e3,p,t⟩:=h x ao;refine ⟨δ2,e,true,δ3,e2,?_⟩;show if true = true then _ else _
   rw [if_pos rfl];refine ⟨y,δ4,e3,?_⟩;show kq cx k tg ifs elt xs (δ4.take δ.length) _;rw [t];exact nu P xs (fun z hz=>h z (ak _ hz)) fun ys r=>q (y::ys) (.cons p r)
end
theorem BS {a b:Int} {Q:D->Prop}:wOp .add (.int a) (.int b) Q↔Q (.int (a+b)):=yr
theorem BK {a b:Int} {Q:D->Prop}:wOp .sub (.int a) (.int b) Q↔Q (.int (a - b)):=yr
theorem BN {a b:Int} {Q:D->Prop}:wOp .mul (.int a) (.int b) Q↔qx a b = true/\Q (.int (a * b)):=yi
theorem BO {a b:Int} {Q:D->Prop}:wOp .mod (.int a) (.int b) Q↔0 < b/\Q (.int (a % b)):=yi
theorem zA {a b:Int} {Q:D->Prop}:wOp .fdiv (.int a) (.int b) Q↔(0 < b/\b < 1000000000000000000000000000000000000000000000000000000000000)/\Q (.int (a / b)):=yi
theorem BQ {a b:Str} {Q:D->Prop}:wOp .add (.str a) (.str b) Q↔a.length+b.length<=sizeLine/\Q (.str (a++b)):=yi
theorem BL {a:Str} {b:Int} {Q:D->Prop}:wOp .mul (.str a) (.int b) Q↔(0<=b/\b<=1000/\a.length<=1000)/\Q (.str (Al a b.toNat)):=yi
theorem BP {x:D} {a b:List D} {Q:D->Prop}:wOp .add (.tup (x::a)) (.tup b) Q↔(x::a).length+b.length<=sizeLine/\Q (.tup (x::a++b)):=yi
theorem zB {b:List D} {Q:D->Prop}:wOp .add (.tup []) (.tup b) Q↔Q (.tup b):=yr
theorem BR {a b:List D} {Q:D->Prop}:wOp .add (.lst a) (.lst b) Q↔a.length+b.length<=sizeLine/\Q (.lst (a++b)):=yi
theorem GC {a b:Int} {Q:Bool->Prop}:iR .lt (.int a) (.int b) Q↔Q (decide (a < b)):=yr
theorem Ce {a b:List D} {Q:Bool->Prop}:iR .lt (.tup a) (.tup b) Q↔∃ k,jN (.tup a) (.tup b) = some k/\Q k:=aR
theorem Cf {a b:Str} {Q:Bool->Prop}:iR .lt (.str a) (.str b) Q↔Q (decide (a.cps.toList < b.cps.toList)):=yr
theorem GD {a b:Int} {Q:Bool->Prop}:iR .gt (.int a) (.int b) Q↔Q (decide (b < a)):=yr
theorem Ci {a b:Int} {Q:Bool->Prop}:iR .eq (.int a) (.int b) Q↔Q (decide (a = b)):=yr
theorem Cg {a b:Str} {Q:Bool->Prop}:iR .eq (.str a) (.str b) Q↔Q (a == b):=yr
theorem zE {a:Int} {b:Str} {Q:Bool->Prop}:iR .eq (.int a) (.str b) Q↔Q false:=yr
theorem Cd {a:List D} {Q:Bool->Prop}:iR .ne (.lst a) (.lst []) Q↔bM a < 99999/\Q (!a.isEmpty):=by
 have h:gJ (.lst a) (.lst []) = decide (bM a < 99999):=by
  show (true && decide (min (bM a+1) 1<=150) && decide (max (bM a+1) 1 < 100000)) = _;rw [kP,decide_eq_true (show min (bM a+1) 1<=150 by omega),kP];exact decide_eq_decide.mpr (by omega)
 have e:wZ .ne (.lst a) (.lst []) = if bM a < 99999 then some (!a.isEmpty) else none:=by
  show (if gJ (.lst a) (.lst []) = true then _ else none) = _;rw [h];by_cases q:bM a < 99999
  . rw [if_pos (decide_eq_true q),if_pos q];cases a<;>rfl
  . rw [if_neg (by rw [decide_eq_false q];exact ah),if_neg q]
 unfold iR;rw [e];exact yi
theorem tM {a:D} {ds:List D} {Q:Bool->Prop}:iR .isin a (.tup ds) Q↔(dep a<=150/\bM ds < 99999)/\Q (ds.any fun y=>eqD y a):=yi
theorem zN {ds:List D} {Q:D->Prop}:kS .len [.lst ds] Q↔Q (.int ds.length):=yr
theorem zL {ds:List D} {Q:D->Prop}:kS .len [.tup ds] Q↔Q (.int ds.length):=yr
theorem zM {x:Str} {Q:D->Prop}:kS .len [.str x] Q↔x.length<=sizeLine/\Q (.int x.length):=yi
theorem zP {b:Bool} {Q:D->Prop}:kS .toInt [.bl b] Q↔Q (.int (if b then 1 else 0)):=yr
theorem zO {b:Int} {Q:D->Prop}:kS .toInt [.int b] Q↔Q (.int b):=yr
theorem zI {ds:List D} {Q:D->Prop}:kS .toTup [.lst ds] Q↔Q (.tup ds):=yr
theorem zG {ds:List D} {Q:D->Prop}:kS .toTup [.tup ds] Q↔Q (.tup ds):=yr
theorem zK {ds:List D} {Q:D->Prop}:kS .toLst [.lst ds] Q↔Q (.lst ds):=yr
theorem zJ {ds:List D} {Q:D->Prop}:kS .toLst [.tup ds] Q↔Q (.lst ds):=yr
theorem tP {ds:List D} {Q:D->Prop}:kS .sorted [.lst ds] Q↔sortable ds = true/\Q (.lst (eU ds)):=yi
theorem JM {b:Bool} {Q:Bool->Prop}:wTv (.bl b) Q↔Q b:=yr
theorem FW {ds:List D} {Q:Bool->Prop}:wTv (.lst ds) Q↔Q (!ds.isEmpty):=yr
theorem Gv {ds:List D} {i:Int} {Q:D->Prop}:wIx (.lst ds) (.int i) Q↔∃ d,L2.atI ds i = some d/\Q d:=aR
theorem BX {d:D} {ds:List D} {Q:D->Prop}:wIx (.tup (d::ds)) (.int 0) Q↔Q d:=by
 simp [wIx,ixD,L2.atI,L2.ixN]
theorem vR {ds:List D} {Q:List D->Prop}:wItems (.lst ds) Q↔Q ds:=yr
theorem vP {ds:List D} {Q:List D->Prop}:wItems (.tup ds) Q↔Q ds:=yr
theorem vQ {x:Str} {Q:List D->Prop}:wItems (.str x) Q↔x.length<=sizeLine/\Q (x.cps.toList.map fun c=>.str ⟨#[c]⟩):=yi
noncomputable def jb (G:List Fd) (gl:List D) (n i:Nat) (ds:List D) (Q:D->Prop):Prop:=∃ d,PP.run G gl n i ds = some d/\Q d
noncomputable def retS (Q:D->Prop):Out->Prop
 | .rt d _=>Q d
 | .nx _=>Q .non
 | .ro d _=>Q d
 | _=>False
theorem fo {G:List Fd} {gl:List D} {n i:Nat} {ds:List D} {P Q:D->Prop} (h:jb G gl n i ds P) (k:∀ d,P d->Q d):jb G gl n i ds Q:=by
 obtain ⟨d,e,p⟩:=h;exact ⟨d,e,k d p⟩
theorem bh {G:List Fd} {gl:List D} {n i:Nat} {ds:List D} {Q:D->Prop} (fd:Fd) (h:G[i]? = some fd) (hl:ds.length = fd.ps.length) (hf:fd.hf = false) (q:wSs ⟨PP.run G gl n,gl,hfs G⟩ fd.body (init (fd.ps++fd.loc).length ds) (retS Q)):jb G gl (n+1) i ds Q:=by
 obtain ⟨o,e,q⟩:=q;unfold jb
 have:PP.run G gl (n+1) i ds = outD (dk ⟨PP.run G gl n,gl,hfs G⟩ fd.body (init (fd.ps++fd.loc).length ds)):=by
  conv=>lhs;unfold PP.run
  rw [h];dsimp only;rw [if_pos hl,hf];rfl
 rw [this,e]
 cases o with
 | rt d δ=>exact ⟨d,rfl,q⟩
 | ro d δ=>exact ⟨d,rfl,q⟩
 | nx δ=>exact ⟨.non,rfl,q⟩
 | bk δ=>exact q.elim
 | ct δ=>exact q.elim
theorem zF {G:List Fd} {gl:List D} {n f:Nat} {ds:List D} {Q:D->Prop}:Cj ⟨PP.run G gl n,gl,hfs G⟩ f ds Q↔jb G gl n f ds Q:=aR
theorem Ho {Q:D->Prop} {d:D} {δ:Loc}:retS Q (.rt d δ)↔Q d:=aR
theorem Hq {Q:D->Prop} {δ:Loc}:retS Q (.nx δ)↔Q .non:=aR
theorem Gu {x:Str} {i:Int} {Q:D->Prop}:wIx (.str x) (.int i) Q↔x.length<=sizeLine/\∃ c,L2.atI x.cps.toList i = some c/\Q (.str ⟨#[c]⟩):=by
 unfold wIx ixD;dsimp only;constructor
 . rintro ⟨z,e,q⟩;split at e
   . rw [aE] at e;obtain ⟨c,e,rfl⟩:=e;exact ⟨‹_›,c,e,q⟩
   . cases e
 . rintro ⟨h,c,e,q⟩;exact ⟨_,by rw [if_pos h,e];rfl,q⟩
theorem aJ {G:List Fd} {gl:List D} {n i:Nat} {ds:List D} {d:D} {Q:D->Prop} (h:PP.run G gl n i ds = some d):jb G gl n i ds Q↔Q d:=by
 unfold jb;rw [h];exact ⟨fun ⟨_,e,q⟩=>by cases e;exact q,fun q=>⟨d,rfl,q⟩⟩
theorem bx {G:List Fd} {gl:List D} {n i:Nat} {ds:List D} {d:D} (h:jb G gl n i ds fun x=>x = d):PP.run G gl n i ds = some d:=by
 obtain ⟨x,e,rfl⟩:=h;exact e
theorem Fq {α:Type} {ds:List α} {j:Int} (h0:0<=j) (h1:j < ds.length):∃ d,d∈ds/\L2.atI ds j = some d:=by
 have hk:j.toNat < ds.length:=by omega
 refine ⟨ds[j.toNat],iQ hk,?_⟩;have:=L2.atI_nat (xs:=ds) (j:=j.toNat) (v:=ds[j.toNat]) (aw hk)
 rwa [show ((j.toNat:Nat):Int) = j by omega] at this
theorem mul_r {a b:Int} (h0:-(2 ^ 64) < b) (h1:b < 2 ^ 64):qx a b = true:=by
 unfold qx;simp only [decide_eq_true h0,decide_eq_true h1,dH,vH,vG]
theorem rN {lo:Int} {n:Nat} {x:D} (h:x∈uq lo n):∃ i:Nat,i < n/\x = .int (lo+i):=by
 unfold uq at h;rw [aP] at h;obtain ⟨i,hi,rfl⟩:=h;exact ⟨i,by simpa using hi,rfl⟩
theorem xP {lo:Int} {n:Nat}:(uq lo n).length = n:=by simp [uq]
theorem Md {a b:Int} {P:Int->Int->Prop}:(∃ i j,D.int a = D.int i/\D.int b = D.int j/\P i j)↔P a b:=⟨fun ⟨_,_,e,f,q⟩=>by cases e;cases f;exact q,fun q=>⟨_,_,rfl,rfl,q⟩⟩
theorem BW {a b:D} {ds:List D} {Q:D->Prop}:wIx (.tup (a::b::ds)) (.int 1) Q↔Q b:=by
 have:L2.atI (a::b::ds) 1 = some b:=L2.atI_nat (j:=1) rfl;simp [wIx,ixD,this]
theorem BV {a b c:D} {ds:List D} {Q:D->Prop}:wIx (.tup (a::b::c::ds)) (.int 2) Q↔Q c:=by
 have:L2.atI (a::b::c::ds) 2 = some c:=L2.atI_nat (j:=2) rfl;simp [wIx,ixD,this]
theorem xA {δ:Loc} {i j:Nat} {a b:D} {Q:Loc->Prop}:wTg δ (.tp [i,j]) (.tup [a,b]) Q↔ib δ i (.val a) fun δ1=>ib δ1 j (.val b) Q:=by
 rw [Bx];unfold ib;simp only [eH,iX,aW,iD,aa,decide_eq_true_eq];exact ⟨fun ⟨⟨_,h1,h2⟩,q⟩=>⟨h1,h2,q⟩,fun ⟨h1,h2,q⟩=>⟨⟨rfl,h1,h2⟩,q⟩⟩
theorem FZ {δ:Loc} {i j k:Nat} {a b c:D} {Q:Loc->Prop}:wTg δ (.tp [i,j,k]) (.tup [a,b,c]) Q↔ib δ i (.val a) fun δ1=>ib δ1 j (.val b) fun δ2=>ib δ2 k (.val c) Q:=by
 rw [Bx];unfold ib;simp only [eH,iX,aW,iD,aa,decide_eq_true_eq];exact ⟨fun ⟨⟨_,h1,h2,h3⟩,q⟩=>⟨h1,h2,h3,q⟩,fun ⟨h1,h2,h3,q⟩=>⟨⟨rfl,h1,h2,h3⟩,q⟩⟩
theorem FY {δ:Loc} {is:List Nat} {ds:List D} {Q:Loc->Prop}:wTg δ (.tp is) (.lst ds) Q↔wTg δ (.tp is) (.tup ds) Q:=aR
theorem Ga {δ:Loc} {i j k:Nat} {a b c:D} {Q:Loc->Prop}:wTg δ (.pr i [j,k]) (.tup [a,.tup [b,c]]) Q↔ib δ i (.val a) fun δ1=>ib δ1 j (.val b) fun δ2=>ib δ2 k (.val c) Q:=by
 unfold wTg ib eV;simp only [eH,iX,aW,iD,aa,decide_eq_true_eq,ax,aH,true_and];constructor
 . rintro ⟨δ',e,q⟩;split at e
   . rename_i h;cases e;exact ⟨h.1,h.2.1,h.2.2,q⟩
   . cases e
 . rintro ⟨h1,h2,h3,q⟩;exact ⟨_,if_pos ⟨h1,h2,h3⟩,q⟩
noncomputable def SI:=And.intro (@aX.{0,0}) (And.intro (@lV.{0,0}) (And.intro (@FT.{0}) (And.intro (@pE.{0}) (And.intro (@cc.{0}) (And.intro (@ax.{0}) (And.intro (@aH.{0}) (And.intro (@List.replicate_succ.{0}) (@List.replicate_zero.{0}))))))))
theorem WI:(∀ a b:Prop,(if True then a else b) = a)/\(∀ a b:Prop,(if False then a else b) = b)/\((false = true) = False)/\∀ (p:Prop) [Decidable p],(decide p = true) = p:=⟨fun _ _=>if_pos trivial,fun _ _=>if_neg id,by simp,fun p _=>by simp⟩
noncomputable def WS:=And.intro (@MW) (And.intro (@Kj) (And.intro (@Nb) (And.intro (@Kf) (And.intro (@Kd) (And.intro (@Km) (And.intro (@Kk) (And.intro (@JP) (And.intro (@Kn) (And.intro (@MX) (And.intro (@Ke) (And.intro (@Gz) (And.intro (@Kg) (And.intro (@JR) (And.intro (@MR) (And.intro (@JO) (And.intro (@JN) (And.intro (@MQ) (And.intro (@Gb) (And.intro (@JQ) (And.intro (@Ki) (And.intro (@Kc) (And.intro (@Kh) (And.intro (@MY) (And.intro (@MV) (And.intro (@GB) (And.intro (@Kl) (And.intro (@Gw) (And.intro (@Cc) (And.intro (@MS) (And.intro (@JY) (And.intro (@MU) (And.intro (@Ka) (And.intro (@JZ) (And.intro (@MT) (And.intro (@GA) (And.intro (@jf) (And.intro (@Cs) (And.intro (@Cu) (And.intro (@Ct) (And.intro (@Ek) (And.intro (@El) (And.intro (@Em) (And.intro (@Ej) (And.intro (@Bz) (And.intro (@zo) (And.intro (@zm) (And.intro (@BI) (And.intro (@vO) (And.intro (@vN) (And.intro (@zx) (And.intro (@BF) (And.intro (@zq) (And.intro (@Bs) (And.intro (@Bt) (And.intro (@zD) (And.intro (@BY) (And.intro (@BZ) (And.intro (@zy) (And.intro (@BJ) (And.intro (@zt) (And.intro (@Bv) (And.intro (@Gx) (And.intro (@iE) (And.intro (@eT) (And.intro (@BE) (And.intro (@By) (And.intro (@JU) (And.intro (@Gm) (And.intro (@Gn) (And.intro (@Gp) (And.intro (@Ko) (And.intro (@JT) (And.intro (@Gf) (And.intro (@Gg) (And.intro (@JW) (And.intro (@Gk) (And.intro (@BB) (And.intro (@JV) (And.intro (@tJ) (And.intro (@zw) (And.intro (@zu) (And.intro (@BA) (And.intro (@BS) (And.intro (@BK) (And.intro (@BN) (And.intro (@BO) (And.intro (@zA) (And.intro (@BQ) (And.intro (@BL) (And.intro (@BP) (And.intro (@BR) (And.intro (@GC) (And.intro (@Ce) (And.intro (@Cf) (And.intro (@GD) (And.intro (@Ci) (And.intro (@Cg) (And.intro (@Cd) (And.intro (@tM) (And.intro (@zN) (And.intro (@zL) (And.intro (@zM) (And.intro (@zP) (And.intro (@zO) (And.intro (@zI) (And.intro (@zG) (And.intro (@zK) (And.intro (@zJ) (And.intro (@tP) (And.intro (@JM) (And.intro (@FW) (And.intro (@Gv) (And.intro (@BX) (And.intro (@vR) (And.intro (@vP) (And.intro (@vQ) (And.intro (@zF) (And.intro (@Ho) (And.intro (@Hq) (And.intro (@Gu) (And.intro (@ID) (And.intro (@yP) (And.intro (@uW) (And.intro (@Md) (And.intro (@BW) (And.intro (@BV) (And.intro (@xA) (And.intro (@FZ) (And.intro (@FY) (And.intro (@Ga) (And.intro (@Bu) (And.intro (@zC) (And.intro (@BU) (And.intro (@zB) (And.intro (@zE) (True.intro))))))))))))))))))))))))))))))))))))))))))))))))))))))))))))))))))))))))))))))))))))))))))))))))))))))))))))))))))))))))))))))))))))))))
theorem qP {α:Type} {lt lt':Nat->Nat->Bool} {n:Nat} (e:∀ i j,i < n->j < n->lt i j = lt' i j):∀ (t:PySem.W.KasT α),inR lt n t->ans lt t = ans lt' t
 | .ret a,_=>rfl
 | .ask i j k,h=>by
   unfold inR at h;rw [eL,eL,<- e i j h.1 h.2.1];exact qP e _ h.2.2
theorem qp {α β:Type} (d:α) (f:α->β) (xs:List α):(List.range xs.length).map (fun i=>f (xs.getD i d)) = xs.map f:=by
 apply List.ext_getElem
 . simp
 . intro i h1 h2;simp only [aq] at h2;simp [List.getD,aw h2]
theorem Cz {α:Type} [Inhabited α] (g:α->D) (lt:α->α->Bool) (hlt:∀ x y,jN (g x) (g y) = some (lt x y)) (as:∀ a b,lt a b = true->lt b a = false) (tr:∀ a b c,lt b a = false->lt c b = false->lt c a = false) (xs:List α) :
 ∃ ys:List α,eU (xs.map g) = ys.map g/\ys.Perm xs/\∀ i j,i<=j->j < ys.length->lt (ys.getD j default) (ys.getD i default) = false:=by
 have rf:∀ a,lt a a = false:=fun a=>by
  cases e:lt a a with
  | false=>rfl
  | true=>rw [as a a e] at e;cases e
 unfold eU;rw [aq];split
 . rename_i h;refine ⟨xs,rfl,List.Perm.refl _,fun i j h1 h2=>?_⟩;have:i = j:=by omega
   subst this;exact rf _
 . rename_i h
   have hg:∀ i,i < xs.length->(xs.map g).getD i .non = g (xs.getD i default):=fun i hi=>by
    simp [List.getD,aw hi]
   have e:ans (gY (xs.map g)) (PySem.W.kas_sort xs.length) = ans (fun i j=>lt (xs.getD i default) (xs.getD j default)) (PySem.W.kas_sort xs.length):=by
    refine qP (n:=xs.length) (fun i j hi hj=>?_) _ (xK (by omega));unfold gY;rw [hg i hi,hg j hj,hlt];rfl
   rw [e];obtain ⟨z,p,u⟩:=GO (lt:=fun i j=>lt (xs.getD i default) (xs.getD j default)) ⟨fun a b=>as _ _,fun a b c=>tr _ _ _⟩ xs.length (by omega);have pl:(ans (fun i j=>lt (xs.getD i default) (xs.getD j default)) (PySem.W.kas_sort xs.length)).toList.Perm (List.range xs.length):=(letI:Tbs:=⟨[],[],[]⟩;fL _);generalize ans (fun i j=>lt (xs.getD i default) (xs.getD j default)) (PySem.W.kas_sort xs.length) = r at z p u pl ⊢;refine ⟨r.toList.map fun i=>xs.getD i default,?_,?_,fun i j h1 h2=>?_⟩
   . rw [vF];refine Bb fun i hi=>?_;exact hg i (by simpa using pl.mem_iff.mp hi)
   . have:=pl.map fun i=>xs.getD i default
     rwa [show (List.range xs.length).map (fun i=>xs.getD i default) = xs from by simpa using qp default id xs] at this
   . rw [aq,aV,z] at h2
     have hr:∀ k,k < xs.length->(r.toList.map fun i=>xs.getD i default).getD k default = xs.getD (r.getD k 0) default:=fun k hk=>by
      have hk':k < r.toList.length:=by rw [aV,z];exact hk
      have hk2:k < r.size:=by rw [z];exact hk
      simp [List.getD,hk2,Array.getD]
     rw [hr i (by omega),hr j h2];exact u i j h1 h2
section
variable {cx:Cl} {δ:Loc}
theorem jB {α:Type} {k:Nat} {tg:Tg} {ifs:Eo} {elt:E} {Q:List D->Loc->Prop} (g:α->D) (p:α->Bool) (h:α->D):∀ (xs:List α),(∀ x∈xs,wTg (δ++List.replicate k .no) tg (g x) fun δ2=>wG cx ifs δ2 fun b δ3=>b = p x/\if b = true then wE cx elt δ3 fun y δ4=>y = h x/\δ4.take δ.length = δ else δ3.take δ.length = δ) ->
 Q ((xs.filter p).map h) δ->kq cx k tg ifs elt (xs.map g) δ Q
 | [],_,q=>gu.mpr q
 | x::xs,hx,q=>by
   rw [aX,gz];obtain ⟨δ2,e,b,δ3,e2,rfl,e3⟩:=hx x ao;refine ⟨δ2,e,_,δ3,e2,?_⟩
   cases hp:p x with
   | true =>
     rw [hp,if_pos rfl] at e3;obtain ⟨y,δ4,e4,rfl,t⟩:=e3;rw [if_pos rfl];refine ⟨_,δ4,e4,?_⟩;show kq cx k tg ifs elt _ (δ4.take δ.length) _;rw [t];refine jB g p h xs (fun z hz=>hx z (ak _ hz)) ?_;rw [vB hp] at q
     exact q
   | false =>
     rw [hp,if_neg ah] at e3;rw [if_neg ah,e3];refine jB g p h xs (fun z hz=>hx z (ak _ hz)) ?_;rw [List.filter_cons_of_neg (by simp [hp])] at q;exact q
theorem Cb {α:Type} {tg:Tg} {body:Ss} {Q:Out->Prop} (g:α->D) (P:List α->Loc->Prop) (step:∀ x xs δ,P (x::xs) δ->wTg δ tg (g x) fun δ2=>wSs cx body δ2 (lM (P xs) Q)) (fin:∀ δ,P [] δ->Q (.nx δ)) (xs:List α) (δ:Loc) (h:P xs δ):pG cx tg body (xs.map g) δ Q:=by
 induction xs generalizing δ with
 | nil=>exact jc.mpr (fin δ h)
 | cons x xs ih =>
   rw [aX,jA];obtain ⟨δ2,e,o,e2,q⟩:=step x xs δ h;refine ⟨δ2,e,o,e2,?_⟩
   cases o with
   | nx δ3=>exact ih δ3 q
   | ct δ3=>exact ih δ3 q
   | bk δ3=>exact q
   | rt d δ3=>exact q
   | ro d δ3=>exact q
end
section
variable {cx:Cl} {δ:Loc}
end
section
variable {cx:Cl} {δ:Loc}
theorem Gj {tg:Tg} {es:Es} {body:Ss} {Q:Out->Prop}:wS cx (.forZ tg es body) δ Q↔wEs cx es δ fun ds δ1=>∃ x y xs ys,ds = [x,y]/\Dg x = some xs/\Dg y = some ys/\pG cx tg body (iY xs ys) δ1 Q:=by
 unfold wS wEs pG Mb;simp only [evS,aj,ag,Prod.exists];constructor
 . rintro ⟨o,⟨ds,δ1,h1,e⟩,q⟩;split at e
   . split at e
     . exact ⟨_,_,h1,_,_,_,_,rfl,‹_›,‹_›,o,e,q⟩
     . cases e
   . cases e
 . rintro ⟨ds,δ1,h1,x,y,xs,ys,rfl,e1,e2,o,e,q⟩;exact ⟨o,⟨_,_,h1,by dsimp only;rw [e1,e2];exact e⟩,q⟩
end
end PP
end
section
namespace PP
open PySem SetTable
noncomputable def lp (m:Nat) (x:Nat × Nat):Probe:={ j:=x.1,more:=runEnd m x.1 - x.1,i:=x.1,perturb:=x.2,dummy:=none }
noncomputable def adv (m:Nat) (p:Probe):Probe:=if p.more > 0 then { p with j:=p.j+1,more:=p.more - 1 } else
 { p with j:=(leap m p.i p.perturb).1,more:=runEnd m (leap m p.i p.perturb).1 - (leap m p.i p.perturb).1,i:=(leap m p.i p.perturb).1,perturb:=(leap m p.i p.perturb).2 }
theorem Fw (t:SetTable) (p:Probe):t.advance p = adv t.mask p:=rfl
noncomputable def sq (m:Nat) (h:Int):Nat->Probe
 | 0=>lp m (bits h % (m+1),bits h)
 | n+1=>adv m (sq m h n)
noncomputable abbrev ps (m:Nat) (h:Int) (n:Nat):Nat:=(sq m h n).j
noncomputable def itA (m:Nat):Nat->Probe->Probe
 | 0,p=>p
 | k+1,p=>itA m k (adv m p)
theorem uV (m:Nat):∀ (k:Nat) (p:Probe),itA m (k+1) p = adv m (itA m k p)
 | 0,p=>rfl
 | k+1,p=>uV m k (adv m p)
theorem rk (m:Nat) (h:Int) (n:Nat):∀ k,sq m h (n+k) = itA m k (sq m h n)
 | 0=>rfl
 | k+1=>by rw [uV,<- rk m h n k];rfl
theorem sD (m:Nat):∀ (a b:Nat) (p:Probe),itA m (a+b) p = itA m b (itA m a p)
 | 0,b,p=>by rw [xv];rfl
 | a+1,b,p=>by rw [lH];exact sD m a b (adv m p)
theorem ql {m i:Nat} (h:i<=m):runEnd m i<=m:=by unfold runEnd;split<;>lia
theorem uo (m i:Nat):runEnd m i - i<=9:=by unfold runEnd;split<;>lia
theorem qm (m i:Nat):i<=runEnd m i:=by unfold runEnd;split<;>lia
structure Pok (m:Nat) (p:Probe):Prop where
 i:p.i<=m
 m:p.j+p.more = runEnd m p.i
 n:p.more<=9
 q:p.perturb < 2 ^ 64
 d:p.dummy = none
theorem Pok.j {m:Nat} {p:Probe} (h:Pok m p):p.j<=m:=by have:=ql h.i;have:=h.m;lia
theorem Js {m:Nat} {x:Nat × Nat} (h:x.1<=m) (q:x.2 < 2 ^ 64):Pok m (lp m x):=⟨h,by show x.1+(runEnd m x.1 - x.1) = runEnd m x.1;have:=qm m x.1;lia,uo _ _,q,rfl⟩
theorem yy {m i q:Nat} (hq:q < 2 ^ 64):(leap m i q).1<=m/\(leap m i q).2 < 2 ^ 64:=by
 unfold leap;exact ⟨de (hZ _ (jx _)),cV (Nat.div_le_self _ _) hq⟩
theorem Mz {m:Nat} {p:Probe} (h:Pok m p):Pok m (adv m p):=by
 unfold adv;split
 . exact ⟨h.i,by have:=h.m;show p.j+1+(p.more - 1) = runEnd m p.i;lia,by have:=h.n;show p.more - 1<=9;lia,h.q,h.d⟩
 . have:=yy (m:=m) (i:=p.i) h.q;have:=Js this.1 this.2;exact ⟨this.i,this.m,this.n,this.q,h.d⟩
theorem yX (h:Int):bits h < 2 ^ 64:=by
 unfold bits;have h1:=bV h (show (2 ^ 64:Int)≠0 by decide);have h2:=bz h (show (0:Int) < 2 ^ 64 by decide)
 lia
theorem xI (m:Nat) (h:Int):∀ n,Pok m (sq m h n)
 | 0=>Js (de (hZ _ (jx _))) (yX h)
 | n+1=>Mz (xI m h n)
theorem kz (m:Nat):∀ (r:Nat) (p:Probe),p.more = r->p.dummy = none->itA m (r+1) p = lp m (leap m p.i p.perturb)
 | 0,p,h,d=>by
   show adv m p = _;unfold adv lp
   rw [if_neg (by lia),d]
 | r+1,p,h,d=>by
   show itA m (r+1) (adv m p) = _;unfold adv;rw [if_pos (by lia)];exact kz m r _ (by show p.more - 1 = r;lia) d
noncomputable def jo (m:Nat):Nat->Nat × Nat->Nat × Nat
 | 0,x=>x
 | k+1,x=>jo m k (leap m x.1 x.2)
theorem uN (m:Nat):∀ (a b:Nat) (x:Nat × Nat),jo m (a+b) x = jo m b (jo m a x)
 | 0,b,x=>by rw [xv];rfl
 | a+1,b,x=>by rw [lH];exact uN m a b _
theorem Jt (m:Nat):∀ (k:Nat) (x:Nat × Nat),∃ s,s<=10 * k/\itA m s (lp m x) = lp m (jo m k x)
 | 0,x=>⟨0,by lia,rfl⟩
 | k+1,x=>by
   obtain ⟨s,h1,h2⟩:=Jt m k (leap m x.1 x.2);have h9:=uo m x.1;refine ⟨(runEnd m x.1 - x.1+1)+s,by lia,?_⟩;rw [sD,kz m (runEnd m x.1 - x.1) (lp m x) rfl rfl];exact h2
theorem Ee (m:Nat):∀ (k:Nat) (x:Nat × Nat),(jo m k x).2 = x.2 / 32 ^ k
 | 0,x=>by simp [jo]
 | k+1,x=>by
   show (jo m k (leap m x.1 x.2)).2 = _;rw [Ee m k];show x.2 / 32 / 32 ^ k = _;rw [Nat.div_div_eq_div_mul,Nat.pow_succ,Nat.mul_comm]
theorem Ef (m:Nat):∀ (k:Nat) (x:Nat × Nat),x.1<=m->(jo m k x).1<=m
 | 0,x,h=>h
 | k+1,x,h=>Ef m k _ (de (hZ _ (jx _)))
noncomputable def fit (m:Nat):Nat->Nat->Nat
 | 0,i=>i
 | c+1,i=>fit m c ((i * 5+1) % (m+1))
theorem mU (m:Nat):∀ (a b i:Nat),fit m (a+b) i = fit m b (fit m a i)
 | 0,b,i=>by rw [xv];rfl
 | a+1,b,i=>by rw [lH];exact mU m a b _
theorem Eg (m:Nat):∀ (k i:Nat),jo m k (i,0) = (fit m k i,0)
 | 0,i=>rfl
 | k+1,i=>by
   show jo m k (leap m i 0) = _;unfold leap;exact Eg m k _
noncomputable def mk (m:Nat):Prop:=m = 7\/m = 31\/m = 127
theorem IC {m:Nat} (h:mk m):fit m (m+1) 0 = 0/\∀ T,T < m+1->∃ c,c < m+1/\fit m c 0 = T:=by
 rcases h with rfl | rfl | rfl<;>exact ⟨by decide +kernel,by decide +kernel⟩
theorem ER {m:Nat} (h:mk m) {i T:Nat} (hi:i<=m) (hT:T<=m):∃ c,c<=m/\fit m c i = T:=by
 obtain ⟨h0,ha⟩:=IC h;obtain ⟨a,a1,rfl⟩:=ha i (by lia);obtain ⟨b,b1,rfl⟩:=ha T (by lia);by_cases hab:a<=b
 . exact ⟨b - a,by lia,by rw [<- mU];congr 1;lia⟩
 . refine ⟨(m+1 - a)+b,by lia,?_⟩;rw [<- mU,show a+(m+1 - a+b) = (m+1)+b by lia,mU,h0]
theorem qz {m:Nat} (h:mk m) {x:Nat × Nat} (hi:x.1<=m) (hq:x.2 < 2 ^ 64) {T:Nat} (hT:T<=m):∃ c,c<=m+13/\(jo m c x).1 = T:=by
 have q0:(jo m 13 x).2 = 0:=by
  rw [Ee];exact Nat.div_eq_of_lt (aK hq (by decide))
 obtain ⟨c,c1,e⟩:=ER h (Ef m 13 x hi) hT;refine ⟨13+c,by lia,?_⟩;rw [uN,show jo m 13 x = ((jo m 13 x).1,0) by rw [<- q0],Eg];exact e
theorem cov {m:Nat} (hm:mk m) (h:Int) (n:Nat) {T:Nat} (hT:T<=m):∃ N,n<=N/\N < n+10 * turns m/\ps m h N = T:=by
 have ok:=xI m h n;have lo:=yy (m:=m) (i:=(sq m h n).i) ok.q;obtain ⟨c,c1,e⟩:=qz hm lo.1 lo.2 hT;obtain ⟨s,s1,e2⟩:=Jt m c (leap m (sq m h n).i (sq m h n).perturb);have hn:=ok.n;refine ⟨n+((sq m h n).more+1+s),by lia,by unfold turns;lia,?_⟩;show (sq m h _).j = T;rw [rk,sD,kz m _ _ rfl ok.d,e2];exact e
theorem oZ (xs:Array Nat) (hs:xs.toList.Pairwise (· < ·)) (j:Nat):∀ (f lo hi:Nat),hi - lo<=f->lo<=hi->hi<=xs.size->(∀ i (h:i < xs.size),i < lo->xs[i] < j)->(∀ i (h:i < xs.size),hi<=i->j<=xs[i]) ->
 below.go xs j f lo hi<=xs.size/\(∀ i (h:i < xs.size),i < below.go xs j f lo hi->xs[i] < j)/\∀ i (h:i < xs.size),below.go xs j f lo hi<=i->j<=xs[i]
 | 0,lo,hi,h1,h2,h3,h4,h5=>by
   have:hi = lo:=by omega
   subst this
   exact ⟨h3,h4,h5⟩
 | f+1,lo,hi,h1,h2,h3,h4,h5=>by
   have pw:=ia.mp hs;unfold below.go;by_cases hl:lo < hi
   . rw [if_pos hl];dsimp only;have hm:(lo+hi) / 2 < xs.size:=by omega
     have e:xs.getD ((lo+hi) / 2) j = xs[(lo+hi) / 2]:=by simp [Array.getD,hm]
     rw [e];by_cases hc:xs[(lo+hi) / 2] < j
     . rw [if_pos hc];refine oZ xs hs j f _ hi (by omega) (by omega) h3 (fun i h hi'=>?_) h5;rcases dG i ((lo+hi) / 2) with z | z
       . have:=pw i ((lo+hi) / 2) (by simpa using h) (by simpa using hm) z;simp at this;omega
       . have:i = (lo+hi) / 2:=by omega
         subst this;exact hc
     . rw [if_neg hc];refine oZ xs hs j f lo _ (by omega) (by omega) (by omega) h4 fun i h hi'=>?_;rcases dG ((lo+hi) / 2) i with z | z
       . have:=pw ((lo+hi) / 2) i (by simpa using hm) (by simpa using h) z;simp at this;omega
       . have:i = (lo+hi) / 2:=by omega
         subst this;omega
   . rw [if_neg hl];exact ⟨by omega,h4,fun i h hi'=>h5 i h (by omega)⟩
theorem oY (xs:Array Nat) (hs:xs.toList.Pairwise (· < ·)) (j:Nat):below xs j<=xs.size/\(∀ i (h:i < xs.size),i < below xs j->xs[i] < j)/\∀ i (h:i < xs.size),below xs j<=i->j<=xs[i] :=
 oZ xs hs j xs.size 0 xs.size (by lia) (by lia) (by lia) (fun i h z=>by lia) fun i h z=>by lia
theorem below_at {xs:Array Nat} (hs:xs.toList.Pairwise (· < ·)) {i j:Nat} (h:xs[i]? = some j):below xs j = i:=by
 obtain ⟨hi,e⟩:=dw.mp h;obtain ⟨b1,b2,b3⟩:=oY xs hs j;have pw:=ia.mp hs;rcases mD (below xs j) i with z | z | z
 . have q:=b3 (below xs j) (by lia) (av _);have:=pw (below xs j) i (by simp;lia) (by simpa using hi) z;simp at this
   lia
 . exact z
 . have:=b2 i hi z
   lia
structure TbI (t:SetTable) (hs:List Int):Prop where
 mok:mk t.mask
 dm:t.dummies = #[]
 srt:t.place.toList.Pairwise (· < ·)
 le:∀ j∈t.place.toList,j<=t.mask
 len:t.place.toList.length = hs.length
 few:hs.length<=t.mask
 rch:∀ (i j:Nat) (h:Int),t.place.toList[i]? = some j->hs[i]? = some h->∃ n,ps t.mask h n = j/\∀ k < n,ps t.mask h k∈t.place.toList
variable {t:SetTable} {hs:List Int}
theorem TbI.live (T:TbI t hs) {i j:Nat} (h:t.place.toList[i]? = some j):t.slot j = .live i:=by
 have h':t.place[i]? = some j:=by simpa using h
 unfold slot;rw [below_at T.srt h'];simp [h']
theorem TbI.empty (T:TbI t hs) {j:Nat} (h:j∉t.place.toList):t.slot j = .empty:=by
 unfold slot
 have:t.place[below t.place j]?≠some j:=fun e=>h (by
  have:=vI e;exact Array.mem_toList_iff.mpr this)
 dsimp only;rw [if_neg (by simpa using this),T.dm];rfl
theorem oH {P:List Nat} {m:Nat} (hl:P.length<=m):∃ j,j<=m/\j∉P:=by
 apply gM;intro hn
 have hall:∀ j∈List.range (m+1),j∈P:=fun j hj=>by
  apply gM;intro hp;exact hn ⟨j,by simpa using de (by simpa using hj),hp⟩
 have key:∀ (l:List Nat) (P:List Nat),l.Nodup->(∀ x∈l,x∈P)->l.length<=P.length:=fun l=>by
  induction l with
  | nil=>intro P _ _;exact bC _
  | cons x l ih =>
    intro P hnd hs;have hx:=hs x ao;rw [fy] at hnd;have:=ih (P.erase x) hnd.2 fun y hy=>(List.mem_erase_of_ne (fun e:y = x=>hnd.1 (by rw [<- e];exact hy))).mpr (hs y (ak _ hy));rw [List.length_erase_of_mem hx] at this;have:=List.length_pos_of_mem hx;simp only [ax]
    lia
 have:=key _ P FR hall;rw [iu] at this
 lia
theorem TbI.room (T:TbI t hs) (h:Int) (n:Nat):∃ N,n<=N/\N < n+10 * turns t.mask/\ps t.mask h N∉t.place.toList:=by
 obtain ⟨j,h1,h2⟩:=oH (P:=t.place.toList) (m:=t.mask) (by rw [T.len];exact T.few);obtain ⟨N,a,b,rfl⟩:=cov T.mok h n h1;exact ⟨N,a,b,h2⟩
inductive PR (t:SetTable) (hs:List Int) (h:Int) (n:Nat):Met->Prop
 | empty (N:Nat) (a:n<=N) (b:ps t.mask h N∉t.place.toList) (c:∀ k,n<=k->k < N->ps t.mask h k∈t.place.toList/\∀ (i:Nat),t.place.toList[i]? = some (ps t.mask h k)->hs[i]?≠some h):PR t hs h n (.empty (ps t.mask h N) none)
 | cand (N i:Nat) (a:n<=N) (b:t.place.toList[i]? = some (ps t.mask h N)) (d:hs[i]? = some h) (c:∀ k,n<=k->k < N->ps t.mask h k∈t.place.toList/\∀ (i:Nat),t.place.toList[i]? = some (ps t.mask h k)->hs[i]?≠some h):PR t hs h n (.candidate (ps t.mask h N) i (sq t.mask h (N+1)))
theorem uA (T:TbI t hs) (h:Int) {ha:Nat->Int} (hh:∀ i g,hs[i]? = some g->ha i = g):∀ (f n:Nat),(∃ N,n<=N/\N < n+f/\ps t.mask h N∉t.place.toList)->∃ r,probe.go t ha h f (sq t.mask h n) = some r/\PR t hs h n r
 | 0,n,⟨N,a,b,_⟩=>by lia
 | f+1,n,⟨N,a,b,c⟩=>by
   unfold probe.go;by_cases hp:ps t.mask h n∈t.place.toList
   . obtain ⟨i,hi⟩:=dF hp
     have hil:i < hs.length:=by
      have:=(aB.mp hi).1;rw [T.len] at this;exact this
     have eg:hs[i]? = some hs[i]:=aw hil;rw [T.live hi];dsimp only;rw [hh i _ eg];by_cases hc:hs[i] = h
     . rw [if_pos (by rw [hc];exact beq_self_eq_true h)];refine ⟨_,rfl,?_⟩;rw [Fw];exact .cand n i (av _) hi (by rw [eg,hc]) fun k h1 h2=>by lia
     . rw [if_neg (by simpa using hc),Fw];have hN:n≠N:=fun e=>c (by rw [<- e];exact hp);obtain ⟨r,e,pr⟩:=uA T h hh f (n+1) ⟨N,by lia,by lia,c⟩;refine ⟨r,e,?_⟩
       have first:∀ k,n = k->ps t.mask h k∈t.place.toList/\∀ (i':Nat),t.place.toList[i']? = some (ps t.mask h k)->hs[i']?≠some h:=by
        rintro _ rfl;refine ⟨hp,fun i' hi'=>?_⟩;have:t.slot (ps t.mask h n) = .live i':=T.live hi';rw [T.live hi] at this;cases this;rw [eg];intro z;exact hc (aM z)
       cases pr with
       | empty N' a b c'=>exact .empty N' (by lia) b fun k h1 h2=>if z:n = k then first k z else c' k (by lia) h2
       | cand N' i' a b d c'=>exact .cand N' i' (by lia) b d fun k h1 h2=>if z:n = k then first k z else c' k (by lia) h2
   . rw [T.empty hp];refine ⟨_,rfl,?_⟩;rw [(xI t.mask h n).d];exact .empty n (av _) hp fun k h1 h2=>by lia
theorem DB (T:TbI t hs) (h:Int) {ha:Nat->Int} (hh:∀ i g,hs[i]? = some g->ha i = g) (n:Nat):∃ r,t.probe ha h (sq t.mask h n) = some r/\PR t hs h n r:=uA T h hh _ n (T.room h n)
end PP
end
section
namespace PP
open PySem SetTable
variable {t:SetTable} {hs:List Int}
noncomputable def kH {α:Type} (l:List α) (p:Nat) (x:α):List α:=l.take p++x::l.drop p
theorem kG {α:Type} {l:List α} {p i:Nat} {x y:α} (hp:p<=l.length) (h:(kH l p x)[i]? = some y):(i < p/\l[i]? = some y)\/(i = p/\y = x)\/(p < i/\l[i - 1]? = some y):=by
 unfold kH at h;rcases mD i p with z | z | z
 . rw [aO (by rw [bj];lia),cW z] at h;exact .inl ⟨z,h⟩
 . subst z;rw [aZ (by rw [bj];lia),bj,JH hp,Nat.sub_self] at h;exact .inr (.inl ⟨rfl,by simpa using h.symm⟩)
 . rw [aZ (by rw [bj];lia),bj,JH hp] at h;obtain ⟨k,rfl⟩:∃ k,i = p+1+k:=⟨i - p - 1,by lia⟩;rw [show p+1+k - p = k+1 by lia,List.getElem?_cons_succ,List.getElem?_drop] at h;exact .inr (.inr ⟨z,by rw [show p+1+k - 1 = p+k by lia];exact h⟩)
theorem oF {α:Type} {l:List α} {p:Nat} {x y:α}:y∈kH l p x↔y∈l\/y = x:=by
 unfold kH;rw [bI,aD]
 conv=>rhs;rw [<- jL p l,bI]
 constructor
 . rintro (h | h | h)
   . exact .inl (.inl h)
   . exact .inr h
   . exact .inl (.inr h)
 . rintro ((h | h) | h)
   . exact .inl h
   . exact .inr (.inr h)
   . exact .inr (.inl h)
theorem kF {α:Type} (l:List α) (p:Nat) (x:α):(kH l p x).length = l.length+1:=by
 unfold kH;rw [au,ax,bj,fY]
 lia
theorem TbI.put (T:TbI t hs) {h:Int} {N:Nat} (hf:ps t.mask h N∉t.place.toList) (hr:∀ k < N,ps t.mask h k∈t.place.toList) (fw:hs.length+1<=t.mask) :
 TbI (t.put (ps t.mask h N)).1 (kH hs (t.put (ps t.mask h N)).2 h)/\(t.put (ps t.mask h N)).2<=hs.length/\(t.put (ps t.mask h N)).1.led = t.led/\(t.put (ps t.mask h N)).1.plain = t.plain/\(t.put (ps t.mask h N)).1.mask = t.mask:=by
 generalize hj:ps t.mask h N = j at *;have pl:(insertAt t.place (below t.place j) j).toList = kH t.place.toList (below t.place j) j:=toList_insertAt _ _ _;have dm:(if has t.dummies j = true then eraseAt t.dummies (below t.dummies j) else t.dummies) = #[]:=by rw [T.dm];rfl
 obtain ⟨b1,b2,b3⟩:=oY t.place T.srt j;have bl:below t.place j<=t.place.toList.length:=by simpa using b1
 have len:=T.len;refine ⟨⟨T.mok,dm,?_,?_,?_,?_,?_⟩,by rw [<- len];exact bl,rfl,rfl,rfl⟩
 . show (insertAt t.place (below t.place j) j).toList.Pairwise _;rw [pl];unfold kH;have pw:=T.srt;rw [<- jL (below t.place j) t.place.toList,ze] at pw;obtain ⟨p1,p2,p3⟩:=pw;refine ze.mpr ⟨p1,List.pairwise_cons.mpr ⟨fun y hy=>?_,p2⟩,fun x hx y hy=>?_⟩
   . obtain ⟨k,hk,e⟩:=zh.mp hy;rw [fY] at hk;rw [List.getElem_drop] at e;have:=b3 (below t.place j+k) (by simp at hk;lia) (by lia);have ne:j≠y:=fun z=>hf (by rw [z];exact zf hy);simp at e
     lia
   . obtain ⟨k,hk,e⟩:=zh.mp hx;rw [bj] at hk;rw [List.getElem_take] at e;have:=b2 k (by simp at hk;lia) (by lia);simp at e;rcases aD.mp hy with z | z
     . lia
     . exact p3 x hx y z
 . show ∀ y∈(insertAt t.place (below t.place j) j).toList,_;rw [pl];intro y hy;rcases oF.mp hy with z | z
   . exact T.le y z
   . rw [z,<- hj];exact (xI t.mask h N).j
 . show (insertAt t.place (below t.place j) j).toList.length = _;rw [pl,kF,kF,len]
 . rw [kF];exact fw
 . show ∀ (i j':Nat) (h':Int),(insertAt t.place (below t.place j) j).toList[i]? = some j'->(kH hs (below t.place j) h)[i]? = some h'->∃ n,ps t.mask h' n = j'/\∀ k < n,ps t.mask h' k∈(insertAt t.place (below t.place j) j).toList;rw [pl];intro i j' h' e1 e2
   have old:∀ i',t.place.toList[i']? = some j'->hs[i']? = some h'->∃ n,ps t.mask h' n = j'/\∀ k < n,ps t.mask h' k∈kH t.place.toList (below t.place j) j:=fun i' a b=>by
    obtain ⟨n,n1,n2⟩:=T.rch i' j' h' a b;exact ⟨n,n1,fun k hk=>oF.mpr (.inl (n2 k hk))⟩
   rcases kG bl e1 with ⟨z,a⟩ | ⟨z,a⟩ | ⟨z,a⟩
   . rcases kG (by rw [<- len];exact bl) e2 with ⟨_,b⟩ | ⟨z',b⟩ | ⟨z',b⟩
     . exact old i a b
     . lia
     . lia
   . rcases kG (by rw [<- len];exact bl) e2 with ⟨z',b⟩ | ⟨z',b⟩ | ⟨z',b⟩
     . lia
     . subst a b;exact ⟨N,hj,fun k hk=>oF.mpr (.inl (hr k hk))⟩
     . lia
   . rcases kG (by rw [<- len];exact bl) e2 with ⟨z',b⟩ | ⟨z',b⟩ | ⟨_,b⟩
     . lia
     . lia
     . exact old (i - 1) a b
end PP
end
section
namespace PP
open PySem SetTable
structure OW (m:Nat) (owner:Array (Option Nat)) (pre:List Int) (js:List Nat):Prop where
 sz:owner.size = m+1
 jl:js.length = pre.length
 own:∀ k j:Nat,js[k]? = some j->owner[j]? = some (some k)
 inv:∀ j k:Nat,owner[j]? = some (some k)->js[k]? = some j
 rch:∀ (i j:Nat) (h:Int),pre[i]? = some h->js[i]? = some j->∃ n,ps m h n = j/\∀ k < n,ps m h k∈js
theorem Eh (m:Nat):∀ (k:Nat) (p:Probe),k<=p.more->(itA m k p).j = p.j+k
 | 0,p,_=>rfl
 | k+1,p,h=>by
   show (itA m k (adv m p)).j = _;unfold adv;rw [if_pos (by lia),Eh m k _ (by show k<=p.more - 1;lia)];show p.j+1+k = _
   lia
theorem yO {m:Nat} {owner:Array (Option Nat)} (hz:owner.size = m+1) (h:Int):∀ (f n:Nat) (x:Nat × Nat),sq m h n = lp m x->x.1<=m->(∃ c,c < f/\owner[(jo m c x).1]? = some none) ->
 ∃ N,n<=N/\layClean.free m owner f x.1 x.2 = some (ps m h N)/\owner[ps m h N]? = some none/\∀ k,n<=k->k < N->∃ v,owner[ps m h k]? = some (some v)
 | 0,n,x,e,hx,⟨c,h1,_⟩=>by lia
 | f+1,n,x,e,hx,⟨c,h1,h2⟩=>by
   have rl:=ql hx;have rg:=qm m x.1
   have pos:∀ k,k < runEnd m x.1+1 - x.1->ps m h (n+k) = x.1+k:=fun k hk=>by
    show (sq m h (n+k)).j = _;rw [rk,e,Eh m k _ (by show k<=runEnd m x.1 - x.1;lia)];rfl
   have val:∀ k,k < runEnd m x.1+1 - x.1->owner[x.1+k]? = some (owner.getD (x.1+k) (some 0)):=fun k hk=>by
    have:x.1+k < owner.size:=by lia
    simp [Array.getD,this]
   unfold layClean.free
   cases q:(List.range (runEnd m x.1+1 - x.1)).find? fun k=>(owner.getD (x.1+k) (some 0)).isNone with
   | some k =>
     rw [List.find?_range_eq_some] at q;obtain ⟨q1,q2,q3⟩:=q;have hk:k < runEnd m x.1+1 - x.1:=by simpa using q2
     refine ⟨n+k,by lia,by rw [pos k hk],?_,fun k' h1 h2=>?_⟩
     . rw [pos k hk,val k hk,cL.mp q1]
     . obtain ⟨d,rfl⟩:∃ d,k' = n+d:=⟨k' - n,by lia⟩;have:=q3 d (by lia);rw [pos d (by lia),val d (by lia)]
       cases z:owner.getD (x.1+d) (some 0) with
       | none=>rw [z] at this;cases this
       | some v=>exact ⟨v,rfl⟩
   | none =>
     rw [List.find?_eq_none] at q
     have occ:∀ k,k < runEnd m x.1+1 - x.1->∃ v,owner[x.1+k]? = some (some v):=fun k hk=>by
      have:=q k (by simpa using hk);rw [val k hk]
      cases z:owner.getD (x.1+k) (some 0) with
      | none=>rw [z] at this;exact absurd rfl this
      | some v=>exact ⟨v,rfl⟩
     have nxt:sq m h (n+(runEnd m x.1 - x.1+1)) = lp m (leap m x.1 x.2):=by
      rw [rk,e];exact kz m _ (lp m x) rfl rfl
     cases c with
     | zero =>
       obtain ⟨v,hv⟩:=occ 0 (by lia);rw [show (jo m 0 x).1 = x.1+0 from rfl,hv] at h2
       cases h2
     | succ c =>
       obtain ⟨N,a1,a2,a3,a4⟩:=yO hz h f (n+(runEnd m x.1 - x.1+1)) (leap m x.1 x.2) nxt (de (hZ _ (jx _))) ⟨c,by lia,h2⟩;refine ⟨N,by lia,a2,a3,fun k h1 h2=>?_⟩;by_cases hk:k < n+(runEnd m x.1 - x.1+1)
       . obtain ⟨d,rfl⟩:∃ d,k = n+d:=⟨k - n,by lia⟩;rw [pos d (by lia)];exact occ d (by lia)
       . exact a4 k (by lia) h2
noncomputable def LL (m:Nat) (acc:Option (Array (Option Nat) × Nat)) (h:Int):Option (Array (Option Nat) × Nat):=do
 let (owner,k) <- acc
 let j <- layClean.free m owner (turns m) (bits h % (m+1)) (bits h)
 pure (owner.setIfInBounds j (some k),k+1)
theorem OW.js_le {m:Nat} {owner:Array (Option Nat)} {pre:List Int} {js:List Nat} (W:OW m owner pre js) {j:Nat} (h:j∈js):j<=m:=by
 obtain ⟨k,hk⟩:=dF h;have:=(dw.mp (W.own k j hk)).1;rw [W.sz] at this
 lia
theorem OW.occ {m:Nat} {owner:Array (Option Nat)} {pre:List Int} {js:List Nat} (W:OW m owner pre js) {j:Nat}:(∃ v,owner[j]? = some (some v))↔j∈js :=
 ⟨fun ⟨v,hv⟩=>bu (W.inv j v hv),fun h=>by
   obtain ⟨k,hk⟩:=dF h;exact ⟨k,W.own k j hk⟩⟩
theorem Eu {m:Nat} (hm:mk m) {owner:Array (Option Nat)} {pre:List Int} {js:List Nat} (W:OW m owner pre js) (hl:pre.length<=m) (h:Int):∃ owner' js',LL m (some (owner,pre.length)) h = some (owner',pre.length+1)/\OW m owner' (pre++[h]) js':=by
 obtain ⟨T,hT,hn⟩:=oH (P:=js) (m:=m) (by rw [W.jl];exact hl);have hx:(bits h % (m+1),bits h).1<=m:=de (hZ _ (jx _));obtain ⟨c,c1,c2⟩:=qz hm hx (yX h) hT
 have fr:owner[T]? = some none:=by
  have:T < owner.size:=by rw [W.sz];lia
  cases q:owner[T] with
  | none=>rw [bB this,q]
  | some v=>exact absurd (W.occ.mp ⟨v,by rw [bB this,q]⟩) hn
 obtain ⟨N,_,e,free,occ⟩:=yO W.sz h (turns m) 0 (bits h % (m+1),bits h) rfl hx ⟨c,by unfold turns;lia,by rw [c2];exact fr⟩;have hj:=(dw.mp free).1;refine ⟨owner.setIfInBounds (ps m h N) (some pre.length),js++[ps m h N],?_,⟨?_,?_,fun k j hk=>?_,fun j k hk=>?_,fun i j h' h1 h2=>?_⟩⟩
 . show (Option.bind (layClean.free m owner (turns m) (bits h % (m+1)) (bits h)) fun j=>some (owner.setIfInBounds j (some pre.length),pre.length+1)) = _;rw [e];rfl
 . rw [Array.size_setIfInBounds,W.sz]
 . rw [au,au,W.jl];rfl
 . rcases dG k js.length with z | z
   . rw [aO z] at hk;have ho:=W.own k j hk;rw [lY (fun e=>by rw [e,ho] at free;cases free)];exact ho
   . rw [aZ z] at hk
     have k0:k - js.length = 0:=by
      rcases FK (k - js.length) with q | q
      . exact q
      . rw [cO (by simp;lia)] at hk;cases hk
     rw [k0] at hk;have:ps m h N = j:=by simpa using hk
     rw [<- this,jM hj,show k = pre.length by have:=W.jl;lia]
 . by_cases z:ps m h N = j
   . rw [<- z,jM hj] at hk;have:pre.length = k:=aM (aM hk);rw [<- this,<- W.jl,<- z];simp
   . rw [lY z] at hk;have:=W.inv j k hk;rw [aO (aB.mp this).1];exact this
 . rcases dG i pre.length with z | z
   . rw [aO z] at h1;rw [aO (by rw [W.jl];exact z)] at h2;obtain ⟨n,n1,n2⟩:=W.rch i j h' h1 h2;exact ⟨n,n1,fun k hk=>aU _ (n2 k hk)⟩
   . rw [aZ z] at h1;rw [aZ (by rw [W.jl];exact z),W.jl] at h2
     have k0:i - pre.length = 0:=by
      rcases FK (i - pre.length) with q | q
      . exact q
      . rw [cO (by simp;lia)] at h1;cases h1
     rw [k0] at h1 h2;have a:h = h':=by simpa using h1
     have b:ps m h N = j:=by simpa using h2
     subst a b;exact ⟨N,rfl,fun k hk=>aU _ (W.occ.mp (occ k (bC _) hk))⟩
theorem yA {m:Nat} (hm:mk m):∀ (rest pre:List Int) (owner:Array (Option Nat)) (js:List Nat),OW m owner pre js->(pre++rest).length<=m->∃ owner' js',rest.foldl (LL m) (some (owner,pre.length)) = some (owner',(pre++rest).length)/\OW m owner' (pre++rest) js'
 | [],pre,owner,js,W,_=>⟨owner,js,by rw [cc];rfl,by rw [cc];exact W⟩
 | h::rest,pre,owner,js,W,hl=>by
   obtain ⟨o1,j1,e1,W1⟩:=Eu hm W (by rw [au] at hl;lia) h;have e:pre++h::rest = (pre++[h])++rest:=by simp
   rw [e] at hl ⊢;obtain ⟨o2,j2,e2,W2⟩:=yA hm rest (pre++[h]) o1 j1 W1 hl;refine ⟨o2,j2,?_,W2⟩;rw [fA,e1];rw [au,bL] at e2;exact e2
theorem EO {α β:Type} {f:α->Option β}:∀ {l:List α},(∀ k∈l,(f k).isSome = true)->∀ i:Nat,(l.filterMap f)[i]? = (l[i]?).bind f
 | [],_,i=>by simp
 | x::l,h,i=>by
   obtain ⟨y,hy⟩:=fh.mp (h x ao);rw [iB hy]
   cases i with
   | zero=>simp [hy]
   | succ i=>simpa using EO (fun k hk=>h k (ak _ hk)) i
theorem Il {m:Nat} (hm:mk m) (fg mv:Nat) (led pn:Bool) (hs:Array Int) (hl:hs.size<=m):∃ t order,laid m fg mv led pn hs = some (t,order)/\order.toList.Perm (List.range hs.size)/\TbI t (order.toList.filterMap (hs[·]?))/\t.led = led/\t.plain = pn/\t.mask = m:=by
 have W0:OW m (Array.replicate (m+1) none) [] []:=by
  refine ⟨by simp,rfl,fun k j h=>by simp at h,fun j k h=>?_,fun i j h a b=>by simp at a⟩;rw [Array.getElem?_replicate] at h;split at h
  . cases h
  . cases h
 obtain ⟨owner,js,e,W⟩:=yA hm hs.toList [] _ _ W0 (by simpa using hl);rw [pE] at W
 have ec:layClean m hs = some owner:=by
  unfold layClean;rw [<- Array.foldl_toList];show Option.map (·.1) (hs.toList.foldl (LL m) (some (Array.replicate (m+1) none,0))) = _;rw [show (0:Nat) = ([]:List Int).length from rfl,e];rfl
 generalize hg:(fun j:Nat=>(owner.getD j none).map (j,·)) = g
 have gi:∀ (j:Nat) (p:Nat × Nat),g j = some p->p.1 = j/\js[p.2]? = some j:=fun j p h=>by
  rw [<- hg] at h;obtain ⟨k,hk,rfl⟩:=aE.mp h;refine ⟨rfl,W.inv j k ?_⟩;by_cases z:j < owner.size
  . simp [Array.getD,z] at hk;rw [bB z,hk]
  . simp [Array.getD,z] at hk
 have gj:∀ (j k:Nat),js[k]? = some j->g j = some (j,k):=fun j k h=>by
  have:=W.own k j h;obtain ⟨z,e⟩:=dw.mp this;rw [<- hg];simp [Array.getD,z,e]
 have pl:((List.range (m+1)).filterMap g).Pairwise fun a b=>a.1 < b.1/\a.2≠b.2:=by
  refine List.Pairwise.filterMap g (R:=(· < ·)) (fun a a' h b hb b' hb'=>?_) List.pairwise_lt_range;obtain ⟨a1,a2⟩:=gi a b hb;obtain ⟨b1,b2⟩:=gi a' b' hb';refine ⟨by rw [a1,b1];exact h,fun z=>?_⟩;rw [z,b2] at a2;have:=aM a2
  lia
 generalize hL:(List.range (m+1)).filterMap g = L at pl
 have memL:∀ (j k:Nat),(j,k)∈L↔js[k]? = some j:=fun j k=>by
  rw [<- hL,kQ];constructor
  . rintro ⟨a,_,h⟩;obtain ⟨a1,a2⟩:=gi a _ h;rw [<- a1] at a2;exact a2
  . intro h;exact ⟨j,by have:=W.js_le (bu h);simp;lia,gj j k h⟩
 have po:(L.map (·.2)).Perm (List.range hs.size):=by
  refine (List.perm_ext_iff_of_nodup ?_ FR).mpr fun k=>?_
  . exact lU.mpr (pl.imp fun h=>h.2)
  . rw [aP,fK];have jl:js.length = hs.size:=by rw [W.jl];simp
    constructor
    . rintro ⟨⟨j,k'⟩,h,rfl⟩;have:=(aB.mp ((memL j k').mp h)).1
      lia
    . intro h;exact ⟨(js[k],k),(memL _ _).mpr (aw _),rfl⟩
 have len:L.length = hs.size:=by
  have:=po.length_eq;simpa using this
 have hsm:∀ k∈L.map (·.2),(hs[k]?).isSome = true:=fun k hk=>by
  have:=po.mem_iff.mp hk;rw [fK] at this;simp [this]
 have memP:∀ j,j∈L.map (·.1)↔j∈js:=fun j=>by
  rw [aP];constructor
  . rintro ⟨⟨j',k⟩,h,rfl⟩;exact bu ((memL _ _).mp h)
  . intro h;obtain ⟨k,hk⟩:=dF h;exact ⟨(j,k),(memL j k).mpr hk,rfl⟩
 refine ⟨{ mask:=m,place:=(L.map (·.1)).toArray,dummies := #[],finger:=fg,led:=led,moves:=mv,plain:=pn },(L.map (·.2)).toArray,?_,po,⟨hm,rfl,?_,fun j hj=>W.js_le ((memP j).mp hj),?_,?_,fun i j h h1 h2=>?_⟩,rfl,rfl,rfl⟩
 . unfold laid;rw [ec];show some _ = _;rw [hg,hL]
 . exact lU.mpr (pl.imp fun h=>h.1)
 . show (L.map (·.1)).length = _;rw [aq,len];have:=congrArg List.length (show (L.map (·.2)).filterMap (hs[·]?) = (L.map (·.2)).filterMap (hs[·]?) from rfl)
   have key:∀ l:List Nat,(∀ k∈l,(hs[k]?).isSome = true)->(l.filterMap (hs[·]?)).length = l.length:=fun l=>by
    induction l with
    | nil=>intro _;rfl
    | cons x l ih =>
      intro h;obtain ⟨y,hy⟩:=fh.mp (h x ao);rw [iB hy,ax,ax,ih fun k hk=>h k (ak _ hk)]
   rw [key _ hsm,aq,len]
 . have key:∀ l:List Nat,(l.filterMap (hs[·]?)).length<=l.length:=fun l=>List.length_filterMap_le _ _;have:=key (L.map (·.2));rw [aq,len] at this;exact aY this hl
 . have h1':(L.map (·.1))[i]? = some j:=h1;rw [EO hsm] at h2;rw [aQ] at h1' h2
   cases q:L[i]? with
   | none=>rw [q] at h1';cases h1'
   | some p =>
     rw [q] at h1' h2;obtain ⟨j',k⟩:=p;have e1:j' = j:=by simpa using h1'
     subst e1;have e2:hs[k]? = some h:=by simpa using h2
     obtain ⟨n,n1,n2⟩:=W.rch k j' h (by simpa using e2) ((memL j' k).mp (bu q));exact ⟨n,n1,fun k' hk'=>(memP _).mpr (n2 k' hk')⟩
end PP
end
section
namespace PP
open PySem L2 PyProof.Rows PySem.SeqAt
mutual
noncomputable def hD (w:World):D->Int
 | .str x=>hashStr w x
 | .int i=>hashInt i
 | .tup ds=>reduceHash (Builtin.Tuple.tupleHashOf (hDL w ds))
 | _=>0
noncomputable def hDL (w:World):List D->List Int
 | []=>[]
 | d::ds=>hD w d::hDL w ds
end
mutual
noncomputable def nD:D->Nat
 | .tup ds=>nDL ds+1
 | _=>1
noncomputable def nDL:List D->Nat
 | []=>0
 | d::ds=>nD d+nDL ds
end
variable [Tbs]
section
variable {prog:Program} {w:World}
theorem Cq {A:Around} {E:Value->Shared->Prop} {s:Shared} {a:Addr} {its:Array Value} {hs:List Int} {k:Nat} {Q:Int->Shared->Prop} (hu:A.units < cLine) (ht:s.heap.IsTuple a its)
 (loop:∀ (Q':Array Int->Shared->Prop) (E':Value->Shared->Prop),(∀ b:Array Int,b.toList = hs->Q' b { s with toks:=s.toks+k })->wpAny (model prog w) A.in1 (forIn its.toList (#[]:Array Int) fun x b=>do
   let h <- pyHash x
   pure (.yield (b.push h))) Q' E' s)
 (h:Q (reduceHash (Builtin.Tuple.tupleHashOf hs)) { s with toks:=s.toks+(k+1) }):wpAny (model prog w) A (pyHash (.ref a)) Q E s:=by
 obtain ⟨o,ho,hc,n,hd⟩:=ht;have hT:s.TypeIs (.ref a) "tuple":=⟨o,ho,hc⟩;unfold pyHash
 first | unfold pyHashByItsType | skip
 first | refine ae (wpAny_cRoomFor_or (.inr hu) ?_) | skip
 refine ae (hV hT PySem.F.slot_tuple_hash.lookup ?_);show wpAny _ _ (if (some (Value.builtin "tuple.__hash__") == some Value.none) = true then _ else _) Q E s;rw [if_neg (by rw [beq_builtin_none];exact ah)];refine ae (hV hT PySem.F.slot_tuple_hash.lookup ?_);show wpAny _ _ (callSpecialIfBoundUnlessNone? (.ref a) "__hash__" _ >>= _) Q E s;refine ae (wpAny_callSpecialIfBoundUnlessNone?_slot hT PySem.F.slot_tuple_hash (bO PySem.F.slot_tuple_hash hT PySem.F.entry_tuple_hash ?_ (PySem.F.args_tuple_hash_1 _)));show wpAny _ _ (Builtin.Tuple.tupleItemsOf (.ref a) >>= _) _ _ s;refine ae (wpAny_tupleItemsOf ho hd ?_);refine ae ?_;rw [<- gP];refine loop _ _ fun b hb=>?_;show wpAny _ _ (retInt (Builtin.Tuple.tupleHashOf b.toList)) _ _ _;rw [hb];refine wpAny_ret_mkInt ?_;show wpAny _ _ (if (decide (-(2:Int) ^ 63<=Builtin.Tuple.tupleHashOf hs) && decide (Builtin.Tuple.tupleHashOf hs < 2 ^ 63)) = true then _ else _) Q E _;unfold reduceHash at h;by_cases hr:(decide (-(2:Int) ^ 63<=Builtin.Tuple.tupleHashOf hs) && decide (Builtin.Tuple.tupleHashOf hs < 2 ^ 63)) = true
 . rw [if_pos hr];rw [if_pos hr] at h;exact ai (by simpa [vA] using h)
 . rw [if_neg hr];rw [if_neg hr] at h;exact ae (iO (ai (by simpa [vA] using h)))
mutual
theorem EL:∀ (d:D) (A:Around) (E:Value->Shared->Prop) (s:Shared) (v:Value) (Q:Int->Shared->Prop),hb d = true->RdV s.heap d v->A.units+dep d < cLine->Q (hD w d) { s with toks:=s.toks+nD d }->wpAny (model prog w) A (pyHash v) Q E s
 | .str x,A,E,s,v,Q,_,r,_,q=>by
   unfold RdV at r;obtain ⟨t,rfl⟩:=r;unfold hD nD at q
   exact wpAny_pyHash_str q
 | .int x,A,E,s,v,Q,_,r,_,q=>by
   unfold RdV at r;obtain ⟨t,rfl⟩:=r;unfold hD nD at q
   exact wpAny_pyHash_int q
 | .tup ds,A,E,s,v,Q,h,r,hu,q=>by
   unfold RdV at r;obtain ⟨a,its,rfl,ht,rl⟩:=r;unfold hb at h;unfold hD nD at q;unfold dep at hu;refine Cq (hs:=hDL w ds) (k:=nDL ds) (by lia) ht (fun Q' E' q'=>?_) q
   exact yL ds A.in1 E' s its.toList #[] Q' h rl (by show A.units+1+bM ds < cLine;lia) (by simpa using q')
 | .non,_,_,_,_,_,h,_,_,_=>by unfold hb at h;cases h
 | .bl _,_,_,_,_,_,h,_,_,_=>by unfold hb at h;cases h
 | .lst _,_,_,_,_,_,h,_,_,_=>by unfold hb at h;cases h
 | .fn _ _,_,_,_,_,_,h,_,_,_=>by unfold hb at h;cases h
 | .dct _ _,_,_,_,_,_,h,_,_,_=>by unfold hb at h;cases h
theorem yL:∀ (ds:List D) (A:Around) (E:Value->Shared->Prop) (s:Shared) (vs:List Value) (b0:Array Int) (Q:Array Int->Shared->Prop),hbL ds = true->RdL s.heap ds vs->A.units+bM ds < cLine ->
 (∀ b:Array Int,b.toList = b0.toList++hDL w ds->Q b { s with toks:=s.toks+nDL ds })->wpAny (model prog w) A (forIn vs b0 fun x b=>do
   let h <- pyHash x
   pure (.yield (b.push h))) Q E s
 | [],A,E,s,vs,b0,Q,_,r,_,q=>by
   unfold RdL at r;subst r;unfold hDL nDL at q
   exact ai (q b0 (by simp))
 | d::ds,A,E,s,vs,b0,Q,h,r,hu,q=>by
   unfold RdL at r;obtain ⟨u,us,rfl,r1,r2⟩:=r;unfold hbL at h;rw [aa] at h;unfold bM at hu;unfold hDL nDL at q;rw [eE];refine ae (ae (EL d A E s u _ h.1 r1 (by lia) (ai ?_)));refine yL ds A E _ us _ Q h.2 r2 (by lia) fun b hb=>?_;have:=q b (by rw [hb];simp);simpa [vA] using this
end
end
end PP
end
section
namespace PP
open PySem L2 PyProof.Rows PySem.SeqAt
variable [Tbs]
section
variable {prog:Program} {w:World} {A:Around} {E:Value->Shared->Prop}
theorem kT {s:Shared} {a:Addr} {its:Array Value} {Q:Option (Array Value)->Shared->Prop} (ht:s.heap.IsTuple a its) (h:Q (some its) s):wpAny (model prog w) A (seqItems? (.ref a)) Q E s:=by
 obtain ⟨o,ho,hc,n,hd⟩:=ht;exact cq ho hd h
mutual
theorem rT:∀ (d:D) (n:Nat) (s:Shared) (v:Value) (Q:Bool->Shared->Prop),hb d = true->RdV s.heap d v->dep d<=n->Q true s->wpAny (model prog w) A (eqIsQuiet n v) Q E s
 | .str x,n,s,v,Q,_,r,_,q=>by
   unfold RdV at r;obtain ⟨t,rfl⟩:=r;rw [MN n rfl]
   exact ai q
 | .int x,n,s,v,Q,_,r,_,q=>by
   unfold RdV at r;obtain ⟨t,rfl⟩:=r;rw [MN n rfl]
   exact ai q
 | .tup ds,0,s,v,Q,h,r,hu,q=>by unfold dep at hu;lia
 | .tup ds,n+1,s,v,Q,h,r,hu,q=>by
   unfold RdV at r;obtain ⟨a,its,rfl,ht,rl⟩:=r;unfold hb at h;unfold dep at hu;have ht':=ht;obtain ⟨o,ho,hc,k,hd⟩:=ht';have hT:s.TypeIs (.ref a) "tuple":=⟨o,ho,hc⟩;unfold eqIsQuiet;refine ae (hV hT PySem.F.slot_tuple_eq.lookup ?_);show wpAny _ _ (isInstance (.ref a) (.type "tuple") >>= _) _ _ s;refine ae (jO hT isSubtype_tuple_tuple ?_);simp only [bK,aG,if_false];refine ae (kT ht ?_);refine ae ?_;show wpAny _ _ (forIn its _ _) _ _ s;rw [<- gP];refine uv ds n s its.toList _ h rl (by lia) ?_
   exact ai q
 | .non,_,_,_,_,h,_,_,_=>by unfold hb at h;cases h
 | .bl _,_,_,_,_,h,_,_,_=>by unfold hb at h;cases h
 | .lst _,_,_,_,_,h,_,_,_=>by unfold hb at h;cases h
 | .fn _ _,_,_,_,_,h,_,_,_=>by unfold hb at h;cases h
 | .dct _ _,_,_,_,_,h,_,_,_=>by unfold hb at h;cases h
theorem uv:∀ (ds:List D) (n:Nat) (s:Shared) (vs:List Value) (Q:Option Bool × Unit->Shared->Prop),hbL ds = true->RdL s.heap ds vs->bM ds<=n->Q (none,()) s ->
 wpAny (model prog w) A (forIn vs ((none,()):Option Bool × Unit) fun y r=>do
  if (!(<- eqIsQuiet n y)) = true then pure (.done (some false,())) else pure (.yield (none,()))) Q E s
 | [],n,s,vs,Q,_,r,_,q=>by
   unfold RdL at r;subst r
   exact ai q
 | d::ds,n,s,vs,Q,h,r,hu,q=>by
   unfold RdL at r;obtain ⟨u,us,rfl,r1,r2⟩:=r;unfold hbL at h;rw [aa] at h;unfold bM at hu;rw [eE];refine ae (ae (rT d n s u _ h.1 r1 (by lia) ?_));simp only [bK,aG,if_false];exact ai (uv ds n s us Q h.2 r2 (by lia) q)
end
mutual
theorem rY:∀ (d:D) (n:Nat) (s:Shared) (v:Value) (Q:Bool->Shared->Prop),hb d = true->RdV s.heap d v->dep d<=n->Q false s->wpAny (model prog w) A (ofAClassStatement n v) Q E s
 | .str x,n,s,v,Q,_,r,_,q=>by
   unfold RdV at r;obtain ⟨t,rfl⟩:=r;unfold ofAClassStatement
   exact ai q
 | .int x,n,s,v,Q,_,r,_,q=>by
   unfold RdV at r;obtain ⟨t,rfl⟩:=r;unfold ofAClassStatement
   exact ai q
 | .tup ds,0,s,v,Q,h,r,hu,q=>by unfold dep at hu;lia
 | .tup ds,n+1,s,v,Q,h,r,hu,q=>by
   unfold RdV at r;obtain ⟨a,its,rfl,ht,rl⟩:=r;unfold hb at h;unfold dep at hu;have ht':=ht;obtain ⟨o,ho,hc,k,hd⟩:=ht';have hT:s.TypeIs (.ref a) "tuple":=⟨o,ho,hc⟩;unfold ofAClassStatement;refine ae (pX hT ?_);dsimp only;rw [if_pos (by decide)];refine ae (ai ?_);simp only [bK,aG,if_false];refine ae (kT ht ?_);dsimp only;refine ae ?_;show wpAny _ _ (forIn its _ _) _ _ s;rw [<- gP];refine uB ds n s its.toList _ h rl (by lia) ?_
   exact ai q
 | .non,_,_,_,_,h,_,_,_=>by unfold hb at h;cases h
 | .bl _,_,_,_,_,h,_,_,_=>by unfold hb at h;cases h
 | .lst _,_,_,_,_,h,_,_,_=>by unfold hb at h;cases h
 | .fn _ _,_,_,_,_,h,_,_,_=>by unfold hb at h;cases h
 | .dct _ _,_,_,_,_,h,_,_,_=>by unfold hb at h;cases h
theorem uB:∀ (ds:List D) (n:Nat) (s:Shared) (vs:List Value) (Q:Option Bool × Unit->Shared->Prop),hbL ds = true->RdL s.heap ds vs->bM ds<=n->Q (none,()) s ->
 wpAny (model prog w) A (forIn vs ((none,()):Option Bool × Unit) fun y r=>do
  if (<- ofAClassStatement n y) = true then pure (.done (some true,())) else pure (.yield (none,()))) Q E s
 | [],n,s,vs,Q,_,r,_,q=>by
   unfold RdL at r;subst r
   exact ai q
 | d::ds,n,s,vs,Q,h,r,hu,q=>by
   unfold RdL at r;obtain ⟨u,us,rfl,r1,r2⟩:=r;unfold hbL at h;rw [aa] at h;unfold bM at hu;rw [eE];refine ae (ae (rY d n s u _ h.1 r1 (by lia) ?_));simp only [aG,if_false];exact ai (uB ds n s us Q h.2 r2 (by lia) q)
end
theorem eB {d:D} (h:hok d = true):hb d = true/\dep d<=8/\∃ x ds,d = .tup (.str x::ds):=by
 unfold hok at h;split at h
 . rename_i x ds;rw [aa,decide_eq_true_eq] at h;refine ⟨by simp [hb,hbL,h.1],?_,x,ds,rfl⟩;have:dep (.str x) = 0:=by unfold dep;rfl
   unfold dep bM
   lia
 . cases h
theorem yJ {d:D} (h:hok d = true):dep d < 100000:=by
 obtain ⟨_,h2,_⟩:=eB h
 lia
theorem mS {h:Heap} {d:D} {v:Value} (k:hok d = true) (r:RdV h d v):∃ a,v = .ref a:=by
 obtain ⟨_,_,x,ds,rfl⟩:=eB k;unfold RdV at r;obtain ⟨a,its,rfl,_⟩:=r;exact ⟨a,rfl⟩
theorem AV {d:D} {s:Shared} {v:Value} {Q:Bool->Shared->Prop} (k:hok d = true) (r:RdV s.heap d v) (q:Q false s):wpAny (model prog w) A (hashByValue 8 v) Q E s:=by
 obtain ⟨_,_,x,ds,rfl⟩:=eB k;unfold RdV at r;obtain ⟨a,its,rfl,ht,rl⟩:=r;unfold RdL at rl;obtain ⟨u,us,eu,r1,_⟩:=rl;unfold RdV at r1;obtain ⟨t,rfl⟩:=r1;have ht':=ht;obtain ⟨o,ho,hc,n,hd⟩:=ht';have hT:s.TypeIs (.ref a) "tuple":=⟨o,ho,hc⟩;unfold hashByValue;refine ae (hV hT PySem.F.slot_tuple_hash.lookup ?_);show wpAny _ _ (seqItems? (.ref a) >>= _) _ _ s;refine ae (kT ht ?_);refine ae ?_;show wpAny _ _ (forIn its _ _) _ _ s;rw [<- gP,eu,eE];refine ae (ae (fU (a:=false) (by unfold hashByValue;rfl) ?_));simp only [Bool.not_false,if_true];exact ai (ai (ai q))
end
end PP
end
section
namespace PP
open PySem L2 PyProof.Rows
section
variable {prog:Program} {w:World} {A:Around} {E:Value->Shared->Prop} {s:Shared}
theorem xO {a:Addr} {es es':Array (Int × Value)} {ep:Nat} {t t':SetTable} {h:Heap} (g:h.get? a = some { cls:=.type "set",dict:=none,data:=.set es ep t,slots := #[] }) :
 (h.update a (Obj.putSet es' t')).get? a = some { cls:=.type "set",dict:=none,data:=.set es' (ep+1) t',slots := #[] }:=cP (Obj.putSet es' t') g rfl
end
end PP
end
section
namespace PP
open PySem L2 PyProof.Rows PySem.SeqAt
mutual
theorem fG:∀ (a b:D),hb a = true->hb b = true->(eqD a b = true↔a = b)
 | .str x,.str y,_,_=>by unfold eqD;simp
 | .int x,.int y,_,_=>by unfold eqD;simp
 | .tup xs,.tup ys,h1,h2=>by
   unfold hb at h1 h2;unfold eqD;rw [uX xs ys h1 h2]
   simp
 | .str _,.int _,_,_ | .str _,.tup _,_,_ | .int _,.str _,_,_ | .int _,.tup _,_,_ | .tup _,.str _,_,_ | .tup _,.int _,_,_=>by unfold eqD;simp
 | .non,_,h,_ | .bl _,_,h,_ | .lst _,_,h,_ | .fn _ _,_,h,_ | .dct _ _,_,h,_=>by unfold hb at h;cases h
 | _,.non,_,h | _,.bl _,_,h | _,.lst _,_,h | _,.fn _ _,_,h | _,.dct _ _,_,h=>by unfold hb at h;cases h
theorem uX:∀ (a b:List D),hbL a = true->hbL b = true->(fF a b = true↔a = b)
 | [],[],_,_=>by unfold fF;simp
 | [],_::_,_,_=>by unfold fF;simp
 | _::_,[],_,_=>by unfold fF;simp
 | x::xs,y::ys,h1,h2=>by
   unfold hbL at h1 h2;rw [aa] at h1 h2;unfold fF;rw [aa,fG x y h1.1 h2.1,uX xs ys h1.2 h2.2];simp
end
variable [Tbs]
noncomputable def ME (w:World) (h:Heap) (ds:List D) (es:List (Int × Value)):Prop:=Paired (fun (d:D) (e:Int × Value)=>e.1 = hD w d/\hok d = true/\RdV h d e.2) ds es
theorem oj {α β:Type} {R:α->β->Prop} {xs:List α} {ys:List β} (h:Paired R xs ys):∀ (i:Nat) (y:β),ys[i]? = some y->∃ x,xs[i]? = some x/\R x y:=by
 induction h with
 | nil=>intro i y e;simp at e
 | cons r _ ih =>
   intro i y e
   cases i with
   | zero=>simp at e;exact ⟨_,rfl,e▸r⟩
   | succ i=>exact ih i y (by simpa using e)
theorem oi {α β:Type} {R:α->β->Prop} {xs:List α} {ys:List β} (h:Paired R xs ys):∀ (i:Nat) (x:α),xs[i]? = some x->∃ y,ys[i]? = some y/\R x y:=by
 induction h with
 | nil=>intro i y e;simp at e
 | cons r _ ih =>
   intro i y e
   cases i with
   | zero=>simp at e;exact ⟨_,rfl,e▸r⟩
   | succ i=>exact ih i y (by simpa using e)
section
variable {prog:Program} {w:World} {A:Around} {E:Value->Shared->Prop} {s:Shared}
theorem KP {d:D} {x:Value} {Q:Bool->Shared->Prop} (hx:hok d = true) (rx:RdV s.heap d x) (q:Q false s):∀ (vs:List Value),(∀ v∈vs,∃ e,hok e = true/\RdV s.heap e v)->wpAny (model prog w) A (searchCouldBeSeen x vs) Q E s:=by
 intro vs hv;obtain ⟨hb1,hd1,_⟩:=eB hx;unfold searchCouldBeSeen;refine ae ?_;refine wpAny_forIn_list _ (fun rest r s'=>r = (none,())/\s' = s/\∀ v∈rest,∃ e,hok e = true/\RdV s.heap e v) _ ?_ ?_ _ _ ⟨rfl,rfl,hv⟩
 . rintro y rest r s' ⟨rfl,rfl,hall⟩;obtain ⟨e,he,re⟩:=hall y ao;obtain ⟨hb2,hd2,_⟩:=eB he;have hr:∀ v∈rest,∃ e,hok e = true/\RdV s'.heap e v:=fun v hv=>hall v (ak _ hv);obtain ⟨b,rfl⟩:=mS hx rx;obtain ⟨c,rfl⟩:=mS he re;dsimp only;by_cases hc:(b == c || carriedByValue (.ref b) && carriedByValue (.ref c)) = true
   . rw [if_pos hc];refine ai ?_;exact ⟨rfl,rfl,hr⟩
   . rw [if_neg hc];refine ae (rT d 8 s' _ _ hb1 rx hd1 ?_);simp only [bK,aG,if_false];refine ae (rT e 8 s' _ _ hb2 re hd2 ?_);simp only [bK,aG,if_false];refine ae (rY d 8 s' _ _ hb1 rx hd1 ?_);simp only [aG,if_false];refine ae (rY e 8 s' _ _ hb2 re hd2 ?_);simp only [aG,if_false];refine ai ?_;exact ⟨rfl,rfl,hr⟩
 . rintro r s' ⟨rfl,rfl,_⟩;exact ai q
theorem fits_of {t:SetTable} {hs:List Int} (T:TbI t hs) {n:Nat} (h:hs.length = n):t.fits n = true:=by
 have h1:t.place.size = n:=by rw [<- h,<- T.len];simp
 unfold SetTable.fits SetTable.fill;rw [T.dm,h1];have:=T.few;simp
 lia
theorem Lz {m:Nat} (h:mk m):(m % 2 == 0) = false:=by rcases h with rfl | rfl | rfl<;>rfl
theorem Dh {a:Addr} {es:Array (Int × Value)} {ep:Nat} {t:SetTable} {ds:List D} {d:D} {x:Value} {Q:SetFound->Shared->Prop} (hu:A.units+20 < cLine)
 (g:s.heap.get? a = some { cls:=.type "set",dict:=none,data:=.set es ep t,slots := #[] }) (T:TbI t (es.toList.map (·.1))) (he:ME w s.heap ds es.toList) (hx:hok d = true) (rx:RdV s.heap d x)
 (there:d∈ds->Q (.there none) s) (free:d∉ds->∀ N,ps t.mask (hD w d) N∉t.place.toList->(∀ k < N,ps t.mask (hD w d) k∈t.place.toList)->Q (.free (ps t.mask (hD w d) N) false) s) :
 wpAny (model prog w) A (setSearch a x (hD w d) (adding:=true)) Q E s:=by
 have hf:t.fits es.size = true:=fits_of T (by simp);have hsi:∀ (i:Nat) (e:Int × Value),es.toList[i]? = some e->(es.toList.map (·.1))[i]? = some e.1:=fun i e z=>by rw [aQ,z];rfl
 obtain ⟨N0,_,n2,n3⟩:=T.room (hD w d) 0
 have hT0:10 * SetTable.turns t.mask < 100000:=by
  unfold SetTable.turns;rcases T.mok with z | z | z<;>rw [z]<;>decide
 obtain ⟨hb1,hd1,_⟩:=eB hx
 have main:∀ (f n:Nat) (st:Option SetTable.Probe),st.getD (t.probeStart (hD w d)) = sq t.mask (hD w d) n->n<=N0->N0 - n < f->(∀ k < n,ps t.mask (hD w d) k∈t.place.toList) ->
  (∀ (i k:Nat),k < n->t.place.toList[i]? = some (ps t.mask (hD w d) k)->ds[i]?≠some d)->wpAny (model prog w) A (setSearchFrom a x (hD w d) true f st) Q E s:=by
  intro f
  induction f with
  | zero=>intro n st _ _ z;lia
  | succ f ih =>
    intro n st hst hn hf' hr hv;unfold setSearchFrom;refine ae (cb g rfl hf ?_);dsimp only;rw [if_neg (by show ¬ (t.mask % 2 == 0) = true;rw [Lz T.mok];exact ah),hst]
    obtain ⟨r,er,pr⟩:=DB T (hD w d) (ha:=fun i=>(es[i]?.map (·.1)).getD 0) (fun i h z=>by
     rw [aQ] at z;obtain ⟨e,e1,e2⟩:=aE.mp z;have:es[i]? = some e:=by simpa using e1
     simp [this,e2]) n
    generalize hp:t.probe _ (hD w d) (sq t.mask (hD w d) n) = pr';have hp':pr' = some r:=hp.symm.trans er;subst hp'
    cases pr with
    | empty N a b c =>
      refine ai (free (fun hm=>?_) N b fun k hk=>?_)
      . obtain ⟨i,hi⟩:=dF hm;obtain ⟨e,e1,e2,_,_⟩:=oi he i d hi
        have hl:i < t.place.toList.length:=by
         rw [T.len,aq];exact (aB.mp e1).1
        have ej:=aw hl;have eh:(es.toList.map (·.1))[i]? = some (hD w d):=by rw [hsi i e e1,e2]
        obtain ⟨n0,m1,m2⟩:=T.rch i _ _ ej eh;rw [<- m1] at ej;rcases dG n0 n with z | z
        . exact hv i n0 z ej hi
        . rcases mD n0 N with y | y | y
          . exact (c n0 z y).2 i ej eh
          . rw [y] at ej;exact b (bu ej)
          . exact b (m2 N y)
      . rcases dG k n with z | z
        . exact hr k z
        . exact (c k z hk).1
    | cand N i aN b e c =>
      rw [aQ] at e;obtain ⟨ei,e1,e2⟩:=aE.mp e;obtain ⟨di,d1,d2,d3,d4⟩:=oj he i ei e1;obtain ⟨hb2,hd2,_⟩:=eB d3;have e1':es[i]? = some ei:=by simpa using e1
      have hN:N+1<=N0:=by
       rcases dG N N0 with z | z
       . exact z
       . rcases lG z with y | y
         . exact absurd (c N0 hn y).1 n3
         . exact absurd (by rw [y];exact bu b) n3
      have hall:∀ v∈List.map (fun x=>x.snd) (Array.filter (fun x=>x.fst == hD w d) es).toList,∃ e,hok e = true/\RdV s.heap e v:=fun v hv=>by
       obtain ⟨y,hy,rfl⟩:=aP.mp hv;rw [Array.toList_filter] at hy;obtain ⟨k,hk⟩:=dF (pF.mp hy).1;obtain ⟨q,_,_,q1,q2⟩:=oj he k y hk;exact ⟨q,q1,q2⟩
      have go:wpAny (model prog w) A (setSearchFrom a x (hD w d) true f (some (sq t.mask (hD w d) (N+1)))) Q E s\/di = d:=by
       by_cases z:di = d
       . exact .inr z
       . refine .inl (ih (N+1) (some (sq t.mask (hD w d) (N+1))) rfl hN (by lia) (fun k hk=>?_) fun i' k hk h1 h2=>?_)
         . rcases dG k n with y | y
           . exact hr k y
           . rcases lG (de hk) with y' | y'
             . exact (c k y y').1
             . rw [y'];exact bu b
         . rcases dG k n with y | y
           . exact hv i' k y h1 h2
           . obtain ⟨e',q1,q2,_⟩:=oi he i' d h2;have eh:(es.toList.map (·.1))[i']? = some (hD w d):=by rw [hsi i' e' q1,q2]
             rcases lG (de hk) with y' | y'
             . exact (c k y y').2 i' h1 eh
             . rw [y'] at h1;have l1:=T.live h1;rw [T.live b] at l1;cases l1;rw [d1] at h2;exact z (aM h2)
      dsimp only;split
      all_goals
       try
        refine ae (KP hx rx ?_ _ hall);simp only [aG,if_false]
       rw [e1'];dsimp only;refine ae (bN (oM di d A s ei.2 x d4 rx (by lia) prog w E _ ?_));refine ae (cb g rfl hf ?_);dsimp only;rcases go with go | go
       . by_cases hq:eqD di d = true
         . rw [hq];simp only [dH,if_true];exact ai (there (by rw [<- (fG di d hb2 hb1).mp hq];exact bu d1))
         . rw [iw.mpr hq,if_neg (by decide)];rw [show t.sameMemory t.moves t.mask = some true by unfold SetTable.sameMemory;simp];dsimp only;rw [if_pos rfl,T.live b];dsimp only;rw [e1'];dsimp only;refine ae (fU (a:=true) (by obtain ⟨c,hc⟩:=mS d3 d4;rw [hc];unfold isSame;simp) ?_);exact ae (ai go)
       . have hq:eqD di d = true:=(fG di d hb2 hb1).mpr go;rw [hq];simp only [dH,if_true];exact ai (there (by rw [<- go];exact bu d1))
 exact main 100000 0 none rfl (by lia) (by lia) (fun k hk=>by lia) fun i k hk=>by lia
end
end PP
end
section
namespace PP
open PySem L2 PyProof.Rows
theorem AJ {M:Model} {A:Around} {E:Value->Shared->Prop} {s:Shared} {src:Source} {n:Nat} {Q:Nat->Shared->Prop} (hn:n≠0) (h:∀ i,i < n->Q i { s with drawn:=s.drawn.bump src }):wpAny M A (choose src n) Q E s :=
 fun Γ p hΓ=>⟨hn,h _ (hZ _ (Nat.pos_of_ne_zero hn))⟩
theorem kb {α:Type}:∀ {xs:List α} {i:Nat} {x:α},xs[i]? = some x->xs.Perm (x::xs.eraseIdx i)
 | [],i,x,h=>by simp at h
 | y::ys,0,x,h=>by simp at h;subst h;exact .refl _
 | y::ys,i+1,x,h=>by
   have:=kb (xs:=ys) (i:=i) (by simpa using h);exact (this.cons y).trans (.swap _ _ _)
theorem uF {α:Type} {M:Model} {A:Around} {E:Value->Shared->Prop}:∀ (n:Nat) (xs:List α) (s:Shared) (Q:List α->Shared->Prop),xs.length = n->(∀ ys d,ys.Perm xs->Q ys { s with drawn:=d })->wpAny M A (drawOrder n xs) Q E s
 | 0,xs,s,Q,hl,h=>by
   have:xs = []:=dc.mp hl;subst this
   exact ai (h [] s.drawn (.refl _))
 | n+1,[],s,Q,hl,h=>by simp at hl
 | n+1,x::xs,s,Q,hl,h=>by
   unfold drawOrder;refine ae (AJ (by simp) fun i hi=>?_);have e:(x::xs)[i]? = some (x::xs)[i]:=aw hi;have pe:=kb e;rw [e];dsimp only;refine ae (uF n _ _ _ ?_ fun ys d p=>ai ?_)
   . rw [qT hi];simp at hl ⊢;exact hl
   . exact h _ d ((p.cons _).trans pe.symm)
theorem xY {α:Type} (f:Nat->Nat):∀ (n k:Nat) (left:List α) (out:Array α),left.length = n->(pickOrder.go f n k left out).toList.Perm (out.toList++left)
 | 0,k,left,out,hl=>by
   have:left = []:=dc.mp hl;subst this
   simp [pickOrder.go]
 | n+1,k,left,out,hl=>by
   have hi:f k % left.length < left.length:=hZ _ (by lia);have e:left[f k % left.length]? = some left[f k % left.length]:=aw hi;have pe:=kb e;unfold pickOrder.go;rw [e];dsimp only;refine (xY f n (k+1) _ _ (by rw [qT hi];lia)).trans ?_;rw [Bl,lW];exact (List.Perm.refl _).append pe.symm
theorem qr {α:Type} (f:Nat->Nat) (xs:Array α):(pickOrder f xs).toList.Perm xs.toList:=by
 have:=xY f xs.size 0 xs.toList #[] (by simp);simpa [pickOrder] using this
theorem jD:Slot "set_iterator" "__next__" "set_iterator.__next__" :=
 .of (owner:="set_iterator") (n:="__next__") (by rw [kl,gx];kernel_rfl) (by decide +kernel) (by decide +kernel) (by decide +kernel) (by first | exact .inl (by decide +kernel) | exact .inr (by decide +kernel)) (by rw [xt];kernel_rfl)
theorem uY:entryFor table "set_iterator.__next__" = some Builtin.«set_iterator.__next__»:=entryFor_of_tree (by kernel_rfl)
theorem yZ (a:Value):argsOk "set_iterator.__next__" ⟨[a],[]⟩:=by unfold argsOk;kernel_rfl
theorem EV:entryFor table "set.__iter__" = some Builtin.«frozenset.__iter__»:=entryFor_alias (id':="frozenset.__iter__") (by kernel_rfl) rfl (by decide +kernel) (by kernel_rfl)
theorem AF:entryFor table "set_iterator.__iter__" = some Builtin.«dict_keyiterator.__iter__»:=entryFor_alias (id':="dict_keyiterator.__iter__") (by kernel_rfl) rfl (by decide +kernel) (by kernel_rfl)
theorem Ft (a:Value):argsOk "set_iterator.__iter__" ⟨[a],[]⟩:=by unfold argsOk;kernel_rfl
theorem uh:Slot "set_iterator" "__iter__" "set_iterator.__iter__" :=
 .of (owner:="set_iterator") (n:="__iter__") (by rw [kl,gx];kernel_rfl) (by decide +kernel) (by decide +kernel) (by decide +kernel) (by first | exact .inl (by decide +kernel) | exact .inr (by decide +kernel)) (by rw [xt];kernel_rfl)
section
variable {prog:Program} {w:World} {A:Around} {E:Value->Shared->Prop} {s:Shared}
noncomputable def itO (first:Value) (i:Nat) (a:Addr) (n ep:Nat):Obj:={ cls:=.type "set_iterator",data:=.fields #[first,.int i 0,.ref a,.int n 0,.int ep 0] }
theorem Ey {a:Addr} {es:Array (Int × Value)} {ep:Nat} {t:SetTable} {Q:Value->Shared->Prop} (g:s.heap.get? a = some { cls:=.type "set",dict:=none,data:=.set es ep t,slots := #[] }) (hf:t.fits es.size = true)
 (hd:(w.params.followText "set-order" = true\/es.size<=1)->Q (.ref s.heap.objs.size) { s with heap:=s.heap.push (itO (.int 0 0) 0 a es.size ep) })
 (hn:w.params.followText "set-order" = false->∀ (ps:List Nat) d,ps.Perm (List.range es.size) ->
   Q (.ref (s.heap.objs.size+1)) { s with drawn:=d,heap:=(s.heap.push { cls:=.type "tuple",data:=.seq (ps.map fun (i:Nat)=>rawInt i).toArray }).push (itO (.ref s.heap.objs.size) 0 a es.size ep) })
 (hz:es.size < 1000) (hp:es.size = 0\/t.plain = false):wpAny (model prog w) A (pyIter (.ref a)) Q E s:=by
 refine MK (T:="set") ⟨_,g,rfl⟩ PySem.F.slot_set_iter (bO PySem.F.slot_set_iter ⟨_,g,rfl⟩ EV ?_ (PySem.F.args_set_iter_1 _));unfold Builtin.«frozenset.__iter__» Builtin.Frozenset.slot0 Builtin.Frozenset.addrOf Builtin.Frozenset.sizeOf;simp only [slotArgs,iP,bK,aG,if_false,aH,bne_self_eq_false,pure_bind,bind_assoc];refine ae (mC g rfl hf ?_);unfold setDrawn setsByText;simp only [bind_assoc,pure_bind];refine ae (cb g rfl hf (ae (fv ?_)));have sn:typeLookup (.type "set_iterator") (Str.ofString "__next__") = pure (some (.builtin "set_iterator.__next__")):=jD.lookup
 cases hb:w.params.followText "set-order" with
 | true =>
   rw [show ((model prog w).w.params.followText "set-order") = true from hb];simp only [bK,Bool.false_and,aG,if_false]
   refine ae (pY g rfl hf (ae (aS (ai ⟨_,rfl,"set_iterator",_,⟨_,aA _ rfl,rfl⟩,sn,hd (.inl hb)⟩))))
 | false =>
   rw [show ((model prog w).w.params.followText "set-order") = false from hb];split
   . refine ae (uF _ _ _ _ (by simp) fun ps d p=>?_);have hl:ps.length = es.size:=by rw [p.length_eq];simp
     unfold newTuple;refine ae (aS ?_ (by show (ps.map fun (i:Nat)=>rawInt i).toArray.size<=sizeLine;rw [bP];simp;lia));refine ae (pY (s:={ s with drawn:=d,heap:=s.heap.push { cls:=.type "tuple",data:=.seq (ps.map fun (i:Nat)=>rawInt i).toArray } }) (af _ g) rfl hf ?_);refine ae (aS (ai ⟨_,rfl,"set_iterator",_,⟨_,aA _ rfl,rfl⟩,sn,?_⟩));have:=hn hb ps d p;rw [show (s.heap.push { cls:=.type "tuple",data:=.seq (ps.map fun (i:Nat)=>rawInt i).toArray }).objs.size = s.heap.objs.size+1 from bf ..];exact this
   . rename_i nd
     have h1:es.size<=1:=by
      rcases hp with z | z
      . lia
      . apply gM;intro h2;apply nd;show (!false && (!t.plain && decide (es.size > 1))) = true;rw [z];simp
        lia
     refine ae (pY g rfl hf (ae (aS (ai ⟨_,rfl,"set_iterator",_,⟨_,aA _ rfl,rfl⟩,sn,hd (.inr h1)⟩))))
end
section
variable {prog:Program} {w:World} {A:Around} {E:Value->Shared->Prop} {s:Shared}
noncomputable def wg (es:Array (Int × Value)) (ep:Nat) (t:SetTable):Obj:={ cls:=.type "set",dict:=none,data:=.set es ep t,slots := #[] }
noncomputable def plO (ps:List Nat):Obj:={ cls:=.type "tuple",data:=.seq (ps.map fun (i:Nat)=>rawInt i).toArray }
theorem sx {I:Addr} {f:Value} {i:Nat} {a:Addr} {n ep:Nat} {Q:Value->Shared->Prop} (g:s.heap.get? I = some (itO f i a n ep)) (h:Q (.ref I) s):wpAny (model prog w) A (pyIter (.ref I)) Q E s:=by
 refine MK (T:="set_iterator") ⟨_,g,rfl⟩ uh (bO uh ⟨_,g,rfl⟩ AF ?_ (Ft _));exact ai ⟨_,rfl,"set_iterator",_,⟨_,g,rfl⟩,jD.lookup,h⟩
theorem xH {Q:Option Value->Shared->Prop} {Q':PySem.Fin->Shared->Prop} (hh:A.handled = none) (h:∀ h',(∀ b o,s.heap.get? b = some o->h'.get? b = some o)->Q none { s with heap:=h' }) :
 wpAny (model prog w) A.in1 (do raiseNew (<- newExc (.type "StopIteration") [])) Q' (fun e s'=>wpAny (model prog w) A (do
  let b <- isInstance e (.type "StopIteration")
  if b = true then pure none else throw e) Q E s') s:=by
 refine ae ?_;simp only [newExc,newTuple];refine ae (aS (ae (m:=firstArgMember _ _) (fU (a:=Value.none) (by first | rfl | (simp only [firstArgMember];rfl)) (aS ?_ (by size_fits)))) (by size_fits));simp only [raiseNew];apply ae;apply wpAny_handled;rw [(hh:A.in1.handled = none)];dsimp only;apply wpAny_throw;refine ae (jO (b:=true) (T:="StopIteration") ⟨_,aA _ rfl,rfl⟩ isSubtype_stop (ai (h _ fun b o e=>?_)));exact af _ (af _ e)
theorem oA {I:Addr} {f x:Value} {i:Nat} {a:Addr} {n ep:Nat} {h:Heap} (g:h.get? I = some (itO f i a n ep)):(h.update I (Obj.mapFields (·.setIfInBounds 0 x))).get? I = some (itO x i a n ep):=cP _ g rfl
theorem uU {I:Addr} {f:Value} {i:Nat} {a:Addr} {n ep:Nat} {h:Heap} (g:h.get? I = some (itO f i a n ep)):(h.update I (Obj.mapFields (·.setIfInBounds 1 (rawInt ((i:Int)+1))))).get? I = some (itO f (i+1) a n ep):=by
 have:=cP (Obj.mapFields (·.setIfInBounds 1 (rawInt ((i:Int)+1)))) g rfl;rw [this];simp [Obj.mapFields,itO,rawInt]
section
variable {I a:Addr} {es:Array (Int × Value)} {ep:Nat} {t:SetTable} {i:Nat} {Q:Option Value->Shared->Prop}
theorem sj {slot:Nat} (g:s.heap.get? I = some (itO (.int slot 0) i a es.size ep)) (ga:s.heap.get? a = some (wg es ep t)) (hf:t.fits es.size = true) (hh:A.handled = none) {r:Option (Value × Nat)}
 (hs:∀ (A':Around) (Q':Option (Value × Nat)->Shared->Prop) (E':Value->Shared->Prop),Q' r s->wpAny (model prog w) A' (setNext a slot i ep) Q' E' s)
 (h:match r with
   | some (x,next)=>∀ h',h'.get? I = some (itO (.int next 0) (i+1) a es.size ep)->(∀ b o,b≠I->s.heap.get? b = some o->h'.get? b = some o)->Q (some x) { s with heap:=h' }
   | none=>∀ h',(∀ b o,b≠I->s.heap.get? b = some o->h'.get? b = some o)->Q none { s with heap:=h' }) :
 wpAny (model prog w) A (pyNext (.ref I)) Q E s:=by
 unfold pyNext;refine ae (ng (cC (name:=Str.ofString "__next__") ⟨_,g,rfl⟩ jD (bO jD ⟨_,g,rfl⟩ uY ?_ (yZ _))));unfold Builtin.«set_iterator.__next__»;simp only [slotArgs,iP,bK,aG,if_false,aH,bne_self_eq_false,pure_bind,bind_assoc];refine ae (wpAny_fieldsOf g rfl ?_);dsimp only;refine ae (mC ga rfl hf ?_);rw [if_neg (by simp)];refine ae (hs _ _ _ ?_)
 cases r with
 | some p =>
   obtain ⟨x,next⟩:=p;refine ae (dZ g rfl (by show 0 < 5;decide) (ae (dZ (oA g) rfl (by show 1 < 5;decide) (ai ⟨x,rfl,ai (h _ (uU (oA g)) fun b o hb e=>?_)⟩))))
   exact (bD _ I _).extBut b o hb ((bD _ I _).extBut b o hb e)
 | none =>
   refine ae (dZ g rfl (by show 2 < 5;decide) ?_);refine xH hh fun h' k=>?_;exact h h' fun b o hb e=>k b o ((bD _ I _).extBut b o hb e)
theorem Ea {T:Addr} {ps:List Nat} (g:s.heap.get? I = some (itO (.ref T) i a es.size ep)) (ga:s.heap.get? a = some (wg es ep t)) (gT:s.heap.get? T = some (plO ps)) (hf:t.fits es.size = true) (hh:A.handled = none)
 (h:match ps[i]? with
   | some p=>∃ x,es[p]? = some x/\∀ h',h'.get? I = some (itO (.ref T) (i+1) a es.size ep)->(∀ b o,b≠I->s.heap.get? b = some o->h'.get? b = some o)->Q (some x.2) { s with heap:=h' }
   | none=>∀ h',(∀ b o,b≠I->s.heap.get? b = some o->h'.get? b = some o)->Q none { s with heap:=h' }) :
 wpAny (model prog w) A (pyNext (.ref I)) Q E s:=by
 unfold pyNext;refine ae (ng (cC (name:=Str.ofString "__next__") ⟨_,g,rfl⟩ jD (bO jD ⟨_,g,rfl⟩ uY ?_ (yZ _))));unfold Builtin.«set_iterator.__next__»;simp only [slotArgs,iP,bK,aG,if_false,aH,bne_self_eq_false,pure_bind,bind_assoc];refine ae (wpAny_fieldsOf g rfl ?_);dsimp only;refine ae (mC ga rfl hf ?_);rw [if_neg (by simp)];refine ae (cq gT rfl ?_);dsimp only;have e:((ps.map fun (i:Nat)=>rawInt i).toArray)[((i:Nat):Int).toNat]? = (ps[i]?).map fun (p:Nat)=>rawInt p:=by simp
 rw [e]
 cases hp:ps[i]? with
 | some p =>
   rw [hp] at h;obtain ⟨x,hx,h⟩:=h;simp only [cJ,rawInt];unfold setNextDrawn;simp only [bind_assoc,pure_bind];refine ae (cb ga rfl hf ?_);rw [if_neg (by simp)];simp only [iC,hx,pure_bind];refine ae (dZ g rfl (by show 1 < 5;decide) (ai ⟨x.2,rfl,ai (h _ (uU g) fun b o hb e=>?_)⟩))
   exact (bD _ I _).extBut b o hb e
 | none =>
   rw [hp] at h;simp only [Option.map_none];refine ae (dZ g rfl (by show 0 < 5;decide) (ae (dZ (oA g) rfl (by show 2 < 5;decide) ?_)));refine xH hh fun h' k=>?_;exact h h' fun b o hb e=>k b o ((bD _ I _).extBut b o hb ((bD _ I _).extBut b o hb e))
end
end
section
variable {prog:Program} {w:World} {A:Around} {E:Value->Shared->Prop} {s:Shared} {I a T:Addr} {es:Array (Int × Value)} {ep:Nat} {t:SetTable}
theorem Bq {ps:List Nat} (hh:A.handled = none) (h1:a≠I) (h2:T≠I) (hf:t.fits es.size = true) (hp:∀ p∈ps,p < es.size) :
 Walks prog w A I [I,a,T] [I] ps.length (fun i v=>∃ p x,ps[i]? = some p/\es[p]? = some x/\v = x.2) (fun i h=>h.get? I = some (itO (.ref T) i a es.size ep)/\h.get? a = some (wg es ep t)/\h.get? T = some (plO ps)) where
 sub:=fun b hb=>by simp at hb;simp [hb]
 frame:=fun _ _ _ st hk=>⟨hk I (by simp) _ st.1,hk a (by simp) _ st.2.1,hk T (by simp) _ st.2.2⟩
 item:=fun i s Q E hi st hQ=>by
  refine Ea (ps:=ps) st.1 st.2.1 st.2.2 hf hh ?_;have e:ps[i]? = some ps[i]:=aw hi;obtain ⟨x,hx⟩:∃ x,es[ps[i]]? = some x:=⟨_,bB (hp _ (iQ hi))⟩;rw [e];exact ⟨x,hx,fun h' g' k=>hQ _ h' s.toks ⟨_,_,e,hx,rfl⟩ ⟨g',k a _ h1 st.2.1,k T _ h2 st.2.2⟩ fun b o hb z=>k b o (fun q=>hb (by simp [q])) z⟩
 done:=fun s Q E st hQ=>by
  refine Ea (ps:=ps) st.1 st.2.1 st.2.2 hf hh ?_;have e:ps[ps.length]? = none:=by simp
  rw [e];exact fun h' k=>hQ h' s.toks fun b o hb z=>k b o (fun q=>hb (by simp [q])) z
 self:=fun _ _ _ _ st hQ=>sx st.1 hQ
noncomputable def txt (w:World) (a:Addr) (ep:Nat) (es:Array (Int × Value)):Array (Int × Value):=pickOrder (w.params.setOrder a ep) es
theorem Bp (hh:A.handled = none) (h1:a≠I) (hf:t.fits es.size = true) (hb:w.params.followText "set-order" = true) :
 Walks prog w A I [I,a] [I] es.size (fun i v=>∃ x,(txt w a ep es)[i]? = some x/\v = x.2) (fun i h=>(∃ slot:Nat,h.get? I = some (itO (.int slot 0) i a es.size ep))/\h.get? a = some (wg es ep t)):=by
 have hsz:(txt w a ep es).size = es.size:=by
  have:=(qr (w.params.setOrder a ep) es).length_eq;simpa [txt] using this
 have sn:∀ (A':Around) (s:Shared) (slot i:Nat) (Q':Option (Value × Nat)->Shared->Prop) (E':Value->Shared->Prop),s.heap.get? a = some (wg es ep t)->Q' (((txt w a ep es)[i]?).map fun e=>(e.2,slot)) s->wpAny (model prog w) A' (setNext a slot i ep) Q' E' s:=fun A' s slot i Q' E' ga q=>by
  unfold setNext setsByText;simp only [bind_assoc,pure_bind];refine ae (cb ga rfl hf (ae (fv ?_)));rw [show ((model prog w).w.params.followText "set-order") = true from hb];simp only [if_true,bne_self_eq_false,aG,if_false];unfold setWalk setsByText;simp only [bind_assoc,pure_bind];refine ae (cb ga rfl hf (ae (fv ?_)));rw [show ((model prog w).w.params.followText "set-order") = true from hb];simp only [if_true,bind_assoc,pure_bind];exact ae (fv (ai q))
 exact {
  sub:=fun b hb=>by simp at hb;simp [hb]
  frame:=fun _ _ _ st hk=>⟨st.1.imp fun slot e=>hk I (by simp) _ e,hk a (by simp) _ st.2⟩
  item:=fun i s Q E hi st hQ=>by
   obtain ⟨slot,g⟩:=st.1;have e:(txt w a ep es)[i]? = some ((txt w a ep es)[i]'(by omega)):=bB _;refine sj (slot:=slot) (r:=some (((txt w a ep es)[i]'(by omega)).2,slot)) g st.2 hf hh (fun A' Q' E' q=>sn A' s slot i Q' E' st.2 (by rw [e];exact q)) fun h' g' k=>?_;exact hQ _ h' s.toks ⟨_,e,rfl⟩ ⟨⟨slot,g'⟩,k a _ h1 st.2⟩ fun b o hb z=>k b o (fun q=>hb (by simp [q])) z
  done:=fun s Q E st hQ=>by
   obtain ⟨slot,g⟩:=st.1;have e:(txt w a ep es)[es.size]? = none:=by rw [<- hsz];simp
   refine sj (slot:=slot) (r:=none) g st.2 hf hh (fun A' Q' E' q=>sn A' s slot es.size Q' E' st.2 (by rw [e];exact q)) fun h' k=>?_;exact hQ h' s.toks fun b o hb z=>k b o (fun q=>hb (by simp [q])) z
  self:=fun _ _ _ _ st hQ=>sx st.1.choose_spec hQ }
theorem vm (p:Array Nat) (hp:p.size<=1) (slot:Nat):SetTable.below p slot = if p.any (· < slot) = true then 1 else 0:=by
 match p,hp with
 | ⟨[]⟩,_=>simp [SetTable.below,SetTable.below.go]
 | ⟨[j]⟩,_ =>
   by_cases h:j < slot
   . simp [SetTable.below,SetTable.below.go,h]
   . simp [SetTable.below,SetTable.below.go,h]
 | ⟨_::_::_⟩,h=>simp at h
theorem Br (hh:A.handled = none) (h1:a≠I) (hf:t.fits es.size = true) (hb:w.params.followText "set-order" = false) (hl:t.led = true) (hz:es.size<=1) :
 Walks prog w A I [I,a] [I] es.size (fun i v=>∃ x,es[i]? = some x/\v = x.2) (fun i h=>(∃ slot:Nat,h.get? I = some (itO (.int slot 0) i a es.size ep)/\(i = 0->slot = 0)/\(1<=i->t.place.any (· < slot) = true))/\h.get? a = some (wg es ep t)):=by
 have hp:t.place.size = es.size:=by
  have:=hf;simp only [SetTable.fits,aa,beq_iff_eq] at this;exact this.1
 have sn:∀ (A':Around) (s:Shared) (slot i:Nat) (Q':Option (Value × Nat)->Shared->Prop) (E':Value->Shared->Prop),s.heap.get? a = some (wg es ep t) ->
  Q' (match es[SetTable.below t.place slot]?,t.place[SetTable.below t.place slot]? with | some (_,x),some j=>some (x,j+1) | _,_=>none) s->wpAny (model prog w) A' (setNext a slot i ep) Q' E' s:=fun A' s slot i Q' E' ga q=>by
  unfold setNext setsByText;simp only [bind_assoc,pure_bind];refine ae (cb ga rfl hf (ae (fv ?_)));rw [show ((model prog w).w.params.followText "set-order") = false from hb];simp only [aG,if_false];refine fU (a:=(match es[SetTable.below t.place slot]?,t.place[SetTable.below t.place slot]? with | some (_,x),some j=>some (x,j+1) | _,_=>none)) ?_ q;rw [if_neg (by show ¬ ((!t.plain && decide (es.size > 1)) = true);simp;omega)];show ((if (!t.led && !es.isEmpty) = true then unsupported _ else pure ()) >>= fun _=>pure _:Sem _) = _;rw [hl];rfl
 exact {
  sub:=fun b hb=>by simp at hb;simp [hb]
  frame:=fun _ _ _ st hk=>⟨st.1.imp fun slot e=>⟨hk I (by simp) _ e.1,e.2⟩,hk a (by simp) _ st.2⟩
  item:=fun i s Q E hi st hQ=>by
   obtain ⟨slot,g,z0,z1⟩:=st.1;have i0:i = 0:=by omega
   subst i0;have s0:=z0 rfl;subst s0;have b0:SetTable.below t.place 0 = 0:=by rw [vm _ (by omega)];simp
   have e:es[0]? = some (es[0]'hi):=bB _;have ej:t.place[0]? = some (t.place[0]'(by omega)):=bB _;refine sj (slot:=0) (r:=some ((es[0]'hi).2,t.place[0]'(by omega)+1)) g st.2 hf hh (fun A' Q' E' q=>sn A' s 0 0 Q' E' st.2 (by rw [b0,e,ej];exact q)) fun h' g' k=>?_;refine hQ _ h' s.toks ⟨_,e,rfl⟩ ⟨⟨_,g',fun z=>by omega,fun _=>?_⟩,k a _ h1 st.2⟩ fun b o hb z=>k b o (fun q=>hb (by simp [q])) z;rw [Array.any_eq_true];exact ⟨0,by omega,by simp⟩
  done:=fun s Q E st hQ=>by
   obtain ⟨slot,g,z0,z1⟩:=st.1
   have e:es[SetTable.below t.place slot]? = none:=by
    rw [vm _ (by omega)];rcases dG 0 es.size with q | q
    . rw [if_pos (z1 (by omega))];exact vE (by omega)
    . exact vE (by split<;>omega)
   refine sj (slot:=slot) (r:=none) g st.2 hf hh (fun A' Q' E' q=>sn A' s slot es.size Q' E' st.2 (by rw [e];exact q)) fun h' k=>?_;exact hQ h' s.toks fun b o hb z=>k b o (fun q=>hb (by simp [q])) z
  self:=fun _ _ _ _ st hQ=>sx st.1.choose_spec.1 hQ }
noncomputable def MD (w:World) (a:Addr) (xs:List Value) (h:Heap):Prop:=∃ (es:Array (Int × Value)) (ep:Nat) (t:SetTable),
 h.get? a = some { cls:=.type "set",dict:=none,data:=.set es ep t,slots := #[] }/\t.fits es.size = true/\t.led = (!w.params.followText "set-order")/\(es.size = 0\/t.plain = false)/\(es.toList.map (·.2)).Perm xs
theorem De {xs:List Value} {Q:Value->Shared->Prop} (hh:A.handled = none) (hS:MD w a xs s.heap) (hz:xs.length < 1000)
 (h:∀ (I:Addr) (fp:List Addr) (n:Nat) (P:Nat->Value->Prop) (St:Nat->Heap->Prop) (us:List Value) d h',Walks prog w A I fp [I] n P St->us.length = n->St 0 h'->(∀ b∈fp,b < h'.objs.size)->(∀ b o,s.heap.get? b = some o->b≠I/\h'.get? b = some o)->us.Perm xs->(∀ i v,P i v->us[i]? = some v)->(∀ b∈fp,b = a\/s.heap.objs.size<=b) ->
   Q (.ref I) { s with drawn:=d,heap:=h' }):wpAny (model prog w) A (pyIter (.ref a)) Q E s:=by
 obtain ⟨es,ep,t,g,hf,hl,hp,hu⟩:=hS;have hsz:es.size = xs.length:=by rw [<- hu.length_eq];simp
 have ha:a < s.heap.objs.size:=ar g
 have pe:∀ (vs:List (Int × Value)),vs.Perm es.toList->∃ us':List Value,us'.Perm xs/\us'.length = es.size/\∀ (i:Nat) (x:Int × Value),vs[i]? = some x->us'[i]? = some x.2:=fun vs pv =>
  ⟨vs.map (·.2),(pv.map _).trans hu,by rw [aq,pv.length_eq,aV],fun i x hx=>by rw [aQ,hx];rfl⟩
 refine Ey g hf (fun hm=>?_) (fun hb ps d pp=>?_) (by omega) hp
 . cases hb:w.params.followText "set-order" with
   | true =>
     obtain ⟨us',p',l',q'⟩:=pe (txt w a ep es).toList (qr _ _);refine h s.heap.objs.size [s.heap.objs.size,a] es.size _ _ us' s.drawn _ (Bp (ep:=ep) (I:=s.heap.objs.size) hh (aC ha) hf hb) l' ⟨⟨0,aA _ rfl⟩,af _ g⟩ (fun b hb=>?_) (fun b o e=>⟨aC (ar e),af _ e⟩) p' (fun i v ⟨x,hx,hv⟩=>?_) (fun b hb=>by simp at hb;rcases hb with rfl | rfl;exact .inr (av _);exact .inl rfl)
     . rw [bf];simp at hb;rcases hb with rfl | rfl
       . exact cU _
       . exact bc ha
     . rw [hv]
       exact q' i x (by simpa using hx)
   | false =>
     have h1:es.size<=1:=by
      rcases hm with z | z
      . rw [hb] at z;cases z
      . exact z
     obtain ⟨us',p',l',q'⟩:=pe es.toList (.refl _);refine h s.heap.objs.size [s.heap.objs.size,a] es.size _ _ us' s.drawn _ (Br (ep:=ep) (I:=s.heap.objs.size) hh (aC ha) hf hb (by rw [hl,hb];rfl) h1) l' ⟨⟨0,aA _ rfl,fun _=>rfl,fun z=>by omega⟩,af _ g⟩ (fun b hb=>?_) (fun b o e=>⟨aC (ar e),af _ e⟩) p' (fun i v ⟨x,hx,hv⟩=>?_) (fun b hb=>by simp at hb;rcases hb with rfl | rfl;exact .inr (av _);exact .inl rfl)
     . rw [bf];simp at hb;rcases hb with rfl | rfl
       . exact cU _
       . exact bc ha
     . rw [hv];exact q' i x (by simpa using hx)
 . have hps:∀ p∈ps,p < es.size:=fun p hp=>by simpa using pp.mem_iff.mp hp
   have hpl:ps.length = es.size:=by rw [pp.length_eq];simp
   have pv:(ps.filterMap fun p=>es[p]?).Perm es.toList:=by
    have:=pp.filterMap fun p=>es[p]?
    rwa [AZ] at this
   have ev:∀ (ps:List Nat),(∀ p∈ps,p < es.size)->∀ (i p:Nat),ps[i]? = some p->(ps.filterMap fun p=>es[p]?)[i]? = es[p]? := fun ps=>by
    induction ps with
    | nil=>intro _ i p e;simp at e
    | cons q qs ih =>
      intro hq i p e;have hq0:es[q]? = some (es[q]'(hq q ao)):=bB _;rw [iB hq0]
      cases i with
      | zero=>simp at e;subst e;simp [hq0]
      | succ i=>simpa using ih (fun p hp=>hq p (ak _ hp)) i p (by simpa using e)
   obtain ⟨us',p',l',q'⟩:=pe _ pv;have W:=Bq (prog:=prog) (w:=w) (A:=A) (ep:=ep) (a:=a) (I:=s.heap.objs.size+1) (T:=s.heap.objs.size) hh (aC (bc ha)) (aC (cU _)) hf hps;have sz:((s.heap.push (plO ps)).push (itO (.ref s.heap.objs.size) 0 a es.size ep)).objs.size = s.heap.objs.size+1+1:=by rw [bf,bf]
   refine h (s.heap.objs.size+1) [s.heap.objs.size+1,a,s.heap.objs.size] ps.length _ _ us' d _ W (l'.trans hpl.symm) ⟨?_,af _ (af _ g),af _ (aA _ rfl)⟩ (fun b hb=>?_) (fun b o e=>⟨aC (bc (ar e)),af _ (af _ e)⟩) p' (fun i v ⟨p,x,e1,e2,hv⟩=>?_) (fun b hb=>by simp at hb;rcases hb with rfl | rfl | rfl;exact .inr (pC _);exact .inl rfl;exact .inr (av _))
   . have:((s.heap.push (plO ps)).push (itO (.ref s.heap.objs.size) 0 a es.size ep)).get? (s.heap.push (plO ps)).objs.size = _:=aA _ rfl
     rwa [bf] at this
   . show b < ((s.heap.push (plO ps)).push (itO (.ref s.heap.objs.size) 0 a es.size ep)).objs.size;rw [sz];simp at hb;rcases hb with rfl | rfl | rfl
     . exact cU _
     . exact bc (bc ha)
     . exact bc (cU _)
   . rw [hv];exact q' i x (by rw [ev ps hps i p e1];exact e2)
end
section
variable {prog:Program} {w:World} {A:Around} {E:Value->Shared->Prop} {s:Shared} {a:Addr}
theorem Et:typeLookup (.type "set") "__len__" = pure (some (.builtin "set.__len__")):=PySem.F.slot_set_len.lookup
theorem yw {α:Type}:∀ {us vs:List α},us.length = vs.length->(∀ (j:Nat) (v:α),vs[j]? = some v->us[j]? = some v)->us = vs
 | [],[],_,_=>rfl
 | [],_::_,h,_=>by simp at h
 | _::_,[],h,_=>by simp at h
 | u::us,v::vs,h,q=>by
   have e:=q 0 v rfl;simp at e;subst e;rw [yw (by simpa using h) fun j x hj=>q (j+1) x (by simpa using hj)]
theorem Jz {id:String} {args:Args} {b:Builtin} {R:Result->Shared->Prop} (hb:entryFor table id = some b) (hp:plainId id = true)
 (h:wpAny (model prog w) A.in1 (b args) (fun fin s'=>match fin with | .done f=>R (.ok f) s' | .again c'=>c'.quiet = true/\codeAny (model prog w) A c' R s') (fun e s'=>R (.error e) s') s):codeAny (model prog w) A (.builtin id args) R s :=
 dN hb (by rw [dE hp args];exact h)
theorem vg {xs:List Value} {Q:List Value->Shared->Prop} (hh:A.handled = none) (hS:MD w a xs s.heap) (hz:xs.length < 1000)
 (h:∀ (vs:List Value) d tk h',vs.Perm xs->(∀ b o,s.heap.get? b = some o->h'.get? b = some o)->Q vs { s with drawn:=d,toks:=tk,heap:=h' }) :
 wpAny (model prog w) A (collect (.ref a)) Q E s:=by
 have ha:a < s.heap.objs.size:=by obtain ⟨es,ep,t,g,_⟩:=hS;exact ar g
 have hsa:s.heap.objs.size≠a:=fun z=>bU _ (by rw [z] at ha;exact ha);unfold collect;refine ae (wpAny_runValue (Jz F.entry_proto_collect F.plain_proto_collect ?_));show wpAny _ A.in1 (newList [] >>= fun l=>again (.builtin "list.__iadd__" ⟨[l,.ref a],[]⟩)) _ _ s;refine ae (aS (ai ⟨dR F.plain_list_iadd _,Jz F.entry_list_iadd F.plain_list_iadd ?_⟩));generalize ho:({ cls:=.type "list",data:=.seq ([]:List Value).toArray }:Obj) = lo;have g0:(s.heap.push lo).get? s.heap.objs.size = some lo:=aA _ (by rw [<- ho];rfl)
 have hS1:MD w a xs (s.heap.push lo):=by
  obtain ⟨es,ep,t,g,r⟩:=hS;exact ⟨es,ep,t,af _ g,r⟩
 have hT:({ s with heap:=s.heap.push lo }:Shared).TypeIs (.ref a) "set":=by
  obtain ⟨es,ep,t,g,r⟩:=hS1;exact ⟨_,g,rfl⟩
 show wpAny _ A.in1 (Builtin.List.listExtendWith (.ref s.heap.objs.size) (.ref a) (.ref s.heap.objs.size)) _ _ _;unfold Builtin.List.listExtendWith;refine ae (pX hT ?_);have nr:Builtin.List.listSameRef (.ref s.heap.objs.size) (.ref a) = false:=by simp [Builtin.List.listSameRef,hsa]
 rw [if_neg (by rw [nr];decide)];refine ae (De (A:=A.in1) hh hS1 hz fun I fp n P St us d h2 W hn st hf hk hu hP hfp=>?_);refine ae (bN ?_);unfold Builtin.List.listLengthHint
 have hT2:({ s with heap:=h2,drawn:=d }:Shared).TypeIs (.ref a) "set":=by
  obtain ⟨es,ep,t,g,r⟩:=hS1;exact ⟨_,(hk _ _ g).2,rfl⟩
 refine ae (hV hT2 Et ?_);dsimp only;rw [show splitId "set.__len__" = some ("set","__len__") from by decide +kernel];dsimp only;refine ae (jO (b:=true) hT2 (by rw [xt];kernel_rfl) ?_);rw [if_neg (by decide),if_pos (by kernel_rfl)];refine ae (pX hT2 (ai ?_));rw [if_pos (by decide +kernel)];have gS:h2.get? s.heap.objs.size = some lo:=(hk _ _ g0).2;subst ho
 have hSf:s.heap.objs.size∉fp:=fun hm=>by
  rcases hfp _ hm with z | z
  . exact hsa z
  . rw [show ({ s with heap:=s.heap.push _ }:Shared).heap.objs.size = s.heap.objs.size+1 from bf ..] at z;exact bU _ z
 have g3:=vz gS fun xs=>xs.push Value.none;have g4:=vz g3 fun xs=>xs.pop;refine ae (iO (ae ?_));unfold Builtin.List.listTouch;refine ae (jw gS rfl (jw (s:={ s with drawn:=d,heap:=h2.update s.heap.objs.size (Obj.mapSeq fun xs=>xs.push Value.none) }) g3 rfl ?_ (by rw [bP];simp) (by rw [bP];simp)) (by rw [bP];simp) (by rw [bP];simp));have up:∀ {h:Heap} {f:Obj->Obj} {b:Addr} {o:Obj},b≠s.heap.objs.size->h.get? b = some o->(h.update s.heap.objs.size f).get? b = some o:=fun hb e=>(dq _ _ (Ne.symm hb)).trans e;have st4:=W.frame 0 _ ((h2.update s.heap.objs.size (Obj.mapSeq fun xs=>xs.push Value.none)).update s.heap.objs.size (Obj.mapSeq fun xs=>xs.pop)) st fun b hb o e=>up (fun z=>hSf (z▸hb)) (up (fun z=>hSf (z▸hb)) e);refine ai ⟨dR F.plain_extend_loop _,codeAny_extend_loopS W.toS (by rw [<- hn,hu.length_eq,bP];lia) _ hSf _ n 0 _ #[] _ rfl (bC _) st4 g4 (ItemsOf.nil P) fun s' acc c hm hS' hac=>?_⟩;show wpAny _ A (load s.heap.objs.size >>= _) _ _ s';refine ae (wpAny_load hS' (ai ?_));obtain ⟨hp',gn',dr',tk',os'⟩:=s';obtain ⟨m1,m2,m3,m4,m5⟩:=hm;obtain rfl:gn' = s.gens:=m2;obtain rfl:dr' = d:=m3;obtain rfl:os' = s.os:=m4;have ea:us = acc.toList:=yw (hn.trans (hac.1.symm.trans aV.symm)) fun j v hj=>hP j v (hac.2 j v (by simpa using hj));refine h acc.toList _ tk' hp' (by rw [<- ea];exact hu) fun b o e=>?_;have hb:b≠s.heap.objs.size:=aC (ar e);have hb2:=hk b o (af _ e);exact m1 b o (by simp [hb,hb2.1]) (up hb (up hb hb2.2))
theorem qt {α β:Type} {R:α->β->Prop} {ys' ys:List β} (p:List.Perm ys' ys):∀ xs,Paired R xs ys->∃ xs',xs'.Perm xs/\Paired R xs' ys':=by
 induction p with
 | nil=>intro us r;exact ⟨us,.refl _,r⟩
 | cons x _ ih =>
   intro us r
   cases r with
   | cons r t =>
     obtain ⟨us',p',r'⟩:=ih _ t
     exact ⟨_,p'.cons _,.cons r r'⟩
 | swap x y l =>
   intro us r
   cases r with
   | cons r1 t =>
     cases t with
     | cons r2 t=>exact ⟨_,.swap _ _ _,.cons r2 (.cons r1 t)⟩
 | trans _ _ i1 i2 =>
   intro us r;obtain ⟨u1,p1,r1⟩:=i2 us r;obtain ⟨u2,p2,r2⟩:=i1 u1 r1;exact ⟨u2,p2.trans p1,r2⟩
end
end PP
end
section
namespace PP
open PySem L2 PyProof.Rows PySem.SeqAt
noncomputable def kO (w:World) (a:Addr) (xs:List (Int × Value)) (h:Heap):Prop:=∃ (es:Array (Int × Value)) (ep:Nat) (t:SetTable),
 h.get? a = some { cls:=.type "set",dict:=none,data:=.set es ep t,slots := #[] }/\TbI t (es.toList.map (·.1))/\t.led = (!w.params.followText "set-order")/\(es.size = 0\/t.plain = false)/\es.toList.Perm xs/\es.size * 5 < t.mask * 3
theorem AB {m n:Nat} (hm:mk m) (h1:n<=64) (h2:n<=m) (h3:n * 5 ≥ m * 3):mk (SetTable.sizeAbove (SetTable.grown n) - 1)/\n<=SetTable.sizeAbove (SetTable.grown n) - 1/\SetTable.sizeAbove (SetTable.grown n)<=128/\n * 5 < (SetTable.sizeAbove (SetTable.grown n) - 1) * 3:=by
 have key:∀ m n:Nat,(m = 7\/m = 31\/m = 127)->n < 65->n<=m->n * 5 ≥ m * 3->(SetTable.sizeAbove (SetTable.grown n) - 1 = 7\/SetTable.sizeAbove (SetTable.grown n) - 1 = 31\/SetTable.sizeAbove (SetTable.grown n) - 1 = 127)/\n<=SetTable.sizeAbove (SetTable.grown n) - 1/\SetTable.sizeAbove (SetTable.grown n)<=128/\n * 5 < (SetTable.sizeAbove (SetTable.grown n) - 1) * 3:=by
  have k7:∀ n < 65,n<=7->n * 5 ≥ 7 * 3->(SetTable.sizeAbove (SetTable.grown n) - 1 = 7\/SetTable.sizeAbove (SetTable.grown n) - 1 = 31\/SetTable.sizeAbove (SetTable.grown n) - 1 = 127)/\n<=SetTable.sizeAbove (SetTable.grown n) - 1/\SetTable.sizeAbove (SetTable.grown n)<=128/\n * 5 < (SetTable.sizeAbove (SetTable.grown n) - 1) * 3:=by decide +kernel
  have k31:∀ n < 65,n<=31->n * 5 ≥ 31 * 3->(SetTable.sizeAbove (SetTable.grown n) - 1 = 7\/SetTable.sizeAbove (SetTable.grown n) - 1 = 31\/SetTable.sizeAbove (SetTable.grown n) - 1 = 127)/\n<=SetTable.sizeAbove (SetTable.grown n) - 1/\SetTable.sizeAbove (SetTable.grown n)<=128/\n * 5 < (SetTable.sizeAbove (SetTable.grown n) - 1) * 3:=by decide +kernel
  rintro m n (rfl | rfl | rfl) a b c
  . exact k7 n a b c
  . exact k31 n a b c
  . lia
 exact key m n hm (by lia) h2 h3
variable [Tbs]
section
variable {prog:Program} {w:World} {A:Around} {E:Value->Shared->Prop} {s:Shared}
theorem uw {a:Addr} {es es1:Array (Int × Value)} {ep:Nat} {t t2:SetTable} {xs:List (Int × Value)} {Q:Bool->Shared->Prop} (g:s.heap.get? a = some { cls:=.type "set",dict:=none,data:=.set es ep t,slots := #[] })
 (T:TbI t2 (es1.toList.map (·.1))) (hl:t2.led = (!w.params.followText "set-order")) (hp:t2.plain = false) (hq:es1.toList.Perm xs) (hr:xs.length<=64) (hn:es1.size = es.size+1)
 (fin:∀ h',Heap.SameBut a s.heap h'->kO w a xs h'->Q true { s with heap:=h' }) :
 wpAny (model prog w) A (do
  storeSet a es1 t2
  if (!false && t2.tooFull) = true then do
   setRelay a (SetTable.grown (es.size+1))
   pure true
  else pure true) Q E s:=by
 have hsz:es1.size = xs.length:=by rw [<- aV,hq.length_eq]
 have k1:=xO (es':=es1) (t':=t2) g;have sb1:=bD s.heap a (Obj.putSet es1 t2);have z1:es1.size < scanBound:=cV (show es1.size<=64 by lia) (by decide);refine ae (MJ g rfl ?_ (MM z1));split
 . rename_i hf
   have hf':t2.place.size * 5 ≥ t2.mask * 3:=by
    have:t2.tooFull = true:=hf;unfold SetTable.tooFull SetTable.fill at this;rw [T.dm] at this;simpa using this
   have hpl:t2.place.size = es1.size:=by have:=T.len;simpa using this
   have hfew:es1.size<=t2.mask:=by have:=T.few;simpa using this
   obtain ⟨m1,m2,m3,m4⟩:=AB T.mok (n:=es1.size) (by lia) hfew (by lia);rw [<- hn];unfold setRelay;refine ae (ae (cb (s:={ s with heap:=s.heap.update a (Obj.putSet es1 t2) }) k1 rfl (fits_of T (by simp)) ?_));dsimp only;rw [if_neg (by rw [bP];lia)];obtain ⟨t3,order,e,po,T3,l3,p3,mm3⟩:=Il m1 t2.finger (t2.movedTo (SetTable.sizeAbove (SetTable.grown es1.size) - 1)) t2.led t2.plain (es1.map (·.1)) (by simpa using m2);have hz:(es1.map (·.1)).size = es1.size:=by simp
   rw [hz] at po
   have pe:(order.filterMap (es1[·]?)).toList.Perm es1.toList:=by
    have:=po.filterMap (es1[·]?);rw [AZ] at this;rw [vD];exact this
   have sz3:(order.filterMap (es1[·]?)).size = es1.size:=by
    rw [<- aV,pe.length_eq,aV]
   have T3':TbI t3 ((order.filterMap (es1[·]?)).toList.map (·.1)):=by
    have:(order.filterMap (es1[·]?)).toList.map (·.1) = order.toList.filterMap ((es1.map (·.1))[·]?):=by
     rw [vD,List.map_filterMap];congr 1
     funext k
     simp
    rw [this];exact T3
   refine ae (fU (a:=(order.filterMap (es1[·]?),t3)) ?_ ?_)
   . rw [show t2.relaid (es1.map (·.1)) (SetTable.grown es1.size) = some (t3,order) from e];show (if ((order.filterMap (es1[·]?)).size != es1.size) = true then _ else _) = _;rw [if_neg (by rw [sz3];simp)]
   . dsimp only;refine MJ (s:={ s with heap:=s.heap.update a (Obj.putSet es1 t2) }) k1 rfl ?_ (MM (by rw [sz3];exact z1));refine ai (fin _ (sb1.trans (bD _ a _)) ⟨_,_,t3,xO k1,T3',l3.trans hl,.inr (p3.trans hp),pe.trans hq,by rw [sz3,mm3];exact m4⟩)
 . rename_i hf;refine ai (fin _ sb1 ⟨es1,_,t2,k1,T,hl,.inr hp,hq,?_⟩);have hpl:t2.place.size = es1.size:=by have:=T.len;simpa using this
   have:¬ (t2.tooFull = true):=hf;unfold SetTable.tooFull SetTable.fill at this;rw [T.dm] at this;simp at this
   lia
theorem Df {a:Addr} {xs:List (Int × Value)} {ds:List D} {d:D} {x:Value} {Q:Bool->Shared->Prop} (hu:A.units+20 < cLine) (hS:kO w a xs s.heap) (he:ME w s.heap ds xs) (hx:hok d = true) (rx:RdV s.heap d x) (hr:xs.length+1<=64)
 (old:d∈ds->Q false { s with toks:=s.toks+nD d }) (new:d∉ds->∀ h',Heap.SameBut a s.heap h'->kO w a (xs++[(hD w d,x)]) h'->Q true { s with heap:=h',toks:=s.toks+nD d }):wpAny (model prog w) A (setAdd a x) Q E s:=by
 obtain ⟨es,ep,t,g,T,hl,hp,hq,hmk⟩:=hS;obtain ⟨hb1,hd1,_⟩:=eB hx;obtain ⟨b,rfl⟩:=mS hx rx;obtain ⟨us,pu,hu'⟩:=qt hq ds he;have hsz:es.size = xs.length:=by rw [<- aV,hq.length_eq]
 have hf:t.fits es.size = true:=fits_of T (by simp);unfold setAdd;refine bN (ae (EL d A E s _ _ hb1 rx (by lia) ?_));unfold setAddHashed;refine bN ?_;show wpAny _ _ (setAddHashedIn a (.ref b) (hD w d) (99999+1)) _ _ _;unfold setAddHashedIn;refine ae (cb (s:={ s with toks:=s.toks+nD d }) g rfl hf ?_);dsimp only;rw [if_neg (by unfold byScan;simp [Value.scannable])];refine ae (Dh (s:={ s with toks:=s.toks+nD d }) hu g T hu' hx rx (fun hm=>ai (old (pu.mem_iff.mp hm))) fun hm N n1 n2=>?_);dsimp only;refine ae (cb (s:={ s with toks:=s.toks+nD d }) g rfl hf ?_)
 have few:es.size+1<=t.mask:=by
  rcases T.mok with z | z | z<;>lia
 obtain ⟨T1,p1,l1,pl1,m1⟩:=T.put n1 n2 (by simpa using few);dsimp only;have le:(SetTable.insertAt es (t.put (ps t.mask (hD w d) N)).2 (hD w d,Value.ref b)).toList = kH es.toList (t.put (ps t.mask (hD w d) N)).2 (hD w d,Value.ref b):=SetTable.toList_insertAt _ _ _
 have lh:(SetTable.insertAt es (t.put (ps t.mask (hD w d) N)).2 (hD w d,Value.ref b)).toList.map (·.1) = kH (es.toList.map (·.1)) (t.put (ps t.mask (hD w d) N)).2 (hD w d):=by
  rw [le];unfold kH;rw [bT,aX,List.map_take,List.map_drop]
 rw [<- lh] at T1
 have pe:(SetTable.insertAt es (t.put (ps t.mask (hD w d) N)).2 (hD w d,Value.ref b)).toList.Perm (xs++[(hD w d,Value.ref b)]):=by
  refine (SetTable.insertAt_perm _ _ _).trans ?_;rw [Bl];exact hq.append (.refl _)
 have sn:(SetTable.insertAt es (t.put (ps t.mask (hD w d) N)).2 (hD w d,Value.ref b)).size = es.size+1:=by
  rw [<- aV,le,kF,aV]
 have fin:∀ h',Heap.SameBut a s.heap h'->kO w a (xs++[(hD w d,Value.ref b)]) h'->Q true { s with heap:=h',toks:=s.toks+nD d }:=new fun z=>hm (pu.mem_iff.mpr z);have hr':(xs++[(hD w d,Value.ref b)]).length<=64:=by rw [au,bL];exact hr
 by_cases hpl:(t.put (ps t.mask (hD w d) N)).1.plain = true
 . rw [if_pos hpl];refine ae (AV (s:={ s with toks:=s.toks+nD d }) hx rx ?_);exact uw (s:={ s with toks:=s.toks+nD d }) (t2:={ (t.put (ps t.mask (hD w d) N)).1 with plain:=false }) g ⟨T1.mok,T1.dm,T1.srt,T1.le,T1.len,T1.few,T1.rch⟩ (l1.trans hl) rfl pe hr' sn fin
 . rw [if_neg hpl];refine ae (ai ?_);exact uw (s:={ s with toks:=s.toks+nD d }) (t2:=(t.put (ps t.mask (hD w d) N)).1) g T1 (l1.trans hl) (by simpa using hpl) pe hr' sn fin
end
end PP
end
section
namespace PP
open PySem L2 PyProof.Rows PySem.W
noncomputable def ltS (a b:Str):Bool:=decide (a.cps.toList < b.cps.toList)
theorem Ed (a b:Str) (h:ltS a b = true):ltS b a = false:=by
 unfold ltS at h ⊢;rw [decide_eq_true_eq] at h;rw [decide_eq_false_iff_not];exact List.lt_asymm h
theorem LI (a b c:Str) (h1:ltS b a = false) (h2:ltS c b = false):ltS c a = false:=by
 unfold ltS at h1 h2 ⊢;rw [decide_eq_false_iff_not] at h1 h2 ⊢;exact List.le_trans h1 h2
theorem LJ (a b:Str) (h1:ltS a b = false) (h2:ltS b a = false):a = b:=by
 unfold ltS at h1 h2;rw [decide_eq_false_iff_not] at h1 h2;have:=List.le_antisymm h2 h1;obtain ⟨⟨x⟩⟩:=a;obtain ⟨⟨y⟩⟩:=b;simp at this;rw [this]
theorem GG {α:Type} [Inhabited α] {lt:α->α->Bool} {ys:List α} (h:∀ i j,i<=j->j < ys.length->lt (ys.getD j default) (ys.getD i default) = false):ys.Pairwise fun a b=>lt b a = false:=by
 rw [ia];intro i j hi hj hij;have:=h i j (mE hij) hj;simpa [List.getD,aw hi,aw hj] using this
variable [Tbs]
end PP
end
section
namespace PP
open PySem PySem.Spec L2 PyProof.Rows
section
variable {prog:Program} {w:World} {A:Around} {R:Result->Shared->Prop} {s:Shared}
end
noncomputable def ox (led:Bool):Obj:={ cls:=.type "set",dict:=none,data:=.set #[] 0 (.fresh 0 0 led) }
section
variable {prog:Program} {w:World} {A:Around} {R:Result->Shared->Prop} {I:Addr} {fp wr:List Addr} {G:Array GenState->Array GenState->Prop} {n:Nat} {P:Nat->Value->Prop} {St:Nat->Shared->Prop}
end
section
variable {prog:Program} {w:World} {A:Around} {E:Value->Shared->Prop} {s:Shared}
theorem sP (a:Value) {Q₁:Value->Shared->Prop} (h:Q₁ (.ref s.heap.objs.size) { s with heap:=s.heap.push (ox (!w.params.followText "set-order")) }) :
 codeAny (model prog w) A (.call (.builtin "set.__new__") ⟨[.type "set",a],[]⟩) (wants Q₁ E) s:=by
 refine codeAny_of_tree (ae (m:=checkBuiltinCall "set.__new__" _) (fU (PySem.F.newCall_set_1 a) (ai ⟨dR PySem.F.plain_set_new _,dN PySem.F.entry_set_new ?_⟩)));rw [dE PySem.F.plain_set_new _];unfold Builtin.«set.__new__» Builtin.Frozenset.newClass;have z:=sub_set_self;obtain ⟨hp,g,d,tk,os⟩:=s;dsimp only
 wp_walk
 refine fv (ai ?_);dsimp only;simp only [newObj];exact ae (wpAny_alloc (ai (ai h)))
theorem we {l:Addr} {items:Array Value} {Z:Heap->Prop} {Q:Value->Shared->Prop} (hh:A.handled = none) (hl:s.heap.IsList l items)
 (loop:∀ (A':Around) (I:Addr) (St:Nat->Shared->Prop) (G:Array GenState->Array GenState->Prop) (s1:Shared) (R:Result->Shared->Prop),I = s.heap.objs.size+1->A'.units<=A.units+10->WalksS prog w A'.in1 I [I,l] [I] G items.size (fun i v=>items[i]? = some v) St->s.heap.objs.size∉[I,l]->St 0 s1->(∀ b o,s.heap.get? b = some o->s1.heap.get? b = some o)->s1.heap.get? s.heap.objs.size = some (ox (!w.params.followText "set-order")) ->
   (∀ s',Moved [s.heap.objs.size,I] G s1 s'->Z s'.heap->R (.ok (.ret .none)) s')->codeAny (model prog w) A' (.builtin "set.update.loop" ⟨[.ref s.heap.objs.size,.ref I],[]⟩) R s1)
 (h:∀ (h':Heap) (tk:Nat),Z h'->(∀ b o,s.heap.get? b = some o->h'.get? b = some o)->Q (.ref s.heap.objs.size) { s with heap:=h',toks:=tk }) :
 wpAny (model prog w) A (call (.type "set") [.ref l]) Q E s:=by
 obtain ⟨c,tl,hmro⟩:=PySem.F.called_set.mro;have y1:=PySem.F.called_set.made;have y2:=PySem.F.called_set.sub;have y3:=PySem.F.called_set.notType;have y4:=PySem.F.called_set.canCreate;have y5:=PySem.F.typeCall_set_1 (.ref l);refine MG (codeAny_of_tree (ai ⟨Bk _ (by decide +kernel),dN PySem.F.entry_type_call ?_⟩));rw [Around.under_plain (weight_type_call_type "set" [.ref l] []) rfl]
 repeat (any_goals (first | assumption | wp_step))
 refine ir (sP (.ref l) (E:=E) (Q₁:=fun v s1=>v = .ref s.heap.objs.size/\s1 = { s with heap:=s.heap.push (ox (!w.params.followText "set-order")) }) ⟨rfl,rfl⟩) fun r s1 hr=>?_
 cases r with
 | error e=>exact hr
 | ok fl =>
   cases fl with
   | ret v =>
     obtain ⟨rfl,rfl⟩:=hr;have gS:(s.heap.push (ox (!w.params.followText "set-order"))).get? s.heap.objs.size = some (ox (!w.params.followText "set-order")):=aA _ rfl;have hT:Shared.TypeIs { s with heap:=s.heap.push (ox (!w.params.followText "set-order")) } (.ref s.heap.objs.size) "set":=⟨_,gS,rfl⟩;have y6:=PySem.F.called_set.init.lookup;have y7:=PySem.F.called_set.init.bind (.ref s.heap.objs.size)
     repeat (any_goals (first | assumption | wp_step))
     refine ir (lE (R:=wants (fun r s2=>r = .none/\∃ h' tk,s2 = { s with heap:=h',toks:=tk }/\Z h'/\∀ b o,s.heap.get? b = some o->h'.get? b = some o) E) PySem.F.called_set.init.plain PySem.F.entry_set_init (check_set_init_1 hT ?_)) fun r2 s2 hr2=>?_
     . obtain ⟨ol,hol,hcl,nl,hdl⟩:=hl;obtain ⟨ocls,odict,odata,oslots⟩:=ol;simp only at hcl hdl;subst hcl;subst hdl;have hol':(s.heap.push (ox (!w.params.followText "set-order"))).get? l = some { cls:=.type "list",dict:=odict,data:=.seq items nl,slots:=oslots }:=af _ hol;have y8:=PySem.F.sub_list_set;have y9:=PySem.F.sub_list_frozenset;have ya:(Value.type "list" == Value.type "dict") = false:=by decide
       have hl1:(s.heap.push (ox (!w.params.followText "set-order"))).IsList l items:=⟨_,hol',rfl,nl,rfl⟩;unfold ox at gS hT hol' hl1 ⊢;unfold Builtin.«set.__init__» noKeywords Builtin.Frozenset.updateFrom;generalize hPI:pyIter = PI
       wp_walk
       subst hPI;refine eR hl1 (ae (wpAny_runValue ?_));have lS:l < s.heap.objs.size:=ar hol;have z1:(s.heap.push (ox (!w.params.followText "set-order"))).objs.size = s.heap.objs.size+1:=bf _ _;unfold ox at z1;refine loop _ _ _ _ _ _ z1 (by show A.units+1+1<=A.units+10;lia) ((pZ (by simp [hh]) _ l (by rw [z1];exact aC (bc lS)) items).toS) (by rw [z1];simp only [aD,cw,or_false,not_or];exact ⟨aC (cU _),en lS⟩) ⟨⟨_,aA _ rfl,rfl,rfl⟩,(hl1.push _)⟩ (fun b o e=>af _ (af _ e)) (af _ gS) ?_
       . intro s' m hS';obtain ⟨h',g',d',tk',os'⟩:=s';have eg:g' = s.gens:=m.gens;have ed:d' = s.drawn:=m.drawn;have eo:os' = s.os:=m.os;subst eg ed eo;refine ai (ai ⟨rfl,h',tk',rfl,hS',fun b o e=>?_⟩);have lb:=ar e;refine m.heap b o ?_ (af _ (af _ e));simp only [aD,cw,or_false,not_or];exact ⟨aC lb,by rw [z1];exact aC (bc lb)⟩
     . cases r2 with
       | error e=>exact hr2
       | ok fl2 =>
         cases fl2 with
         | ret r =>
           obtain ⟨rfl,h',tk,rfl,x1,x2⟩:=hr2
           repeat (any_goals (first | assumption | wp_step))
           exact h _ _ x1 x2
         | _=>exact hr2.elim
   | _=>exact hr.elim
end
variable [Tbs]
end PP
end
section
namespace PP
open PySem PySem.Spec L2 PyProof.Rows
noncomputable def fu (ps:List (D × V)) (p:D × V):List (D × V):=if ps.any (fun q=>eqD q.1 p.1) then ps else ps++[p]
theorem Fy (ps:List (D × V)) (p:D × V):(fu ps p).map (·.1) = mB (ps.map (·.1)) p.1:=by
 unfold fu mB;rw [List.any_map];show _ = if (ps.any fun q=>eqD q.1 p.1) = true then _ else _
 split
 . rfl
 . rw [bT];rfl
theorem qH:∀ (xs ps:List (D × V)),(xs.foldl fu ps).map (·.1) = (xs.map (·.1)).foldl mB (ps.map (·.1))
 | [],ps=>rfl
 | x::xs,ps=>by rw [fA,qH xs,Fy];rfl
theorem qF {q:D × V}:∀ (xs ps:List (D × V)),q∈xs.foldl fu ps->q∈ps\/q∈xs
 | [],ps,h=>.inl h
 | x::xs,ps,h=>by
   rcases qF xs (fu ps x) h with h | h
   . unfold fu at h;split at h
     . exact .inl h
     . rcases bI.mp h with h | h
       . exact .inl h
       . rw [cR] at h;exact .inr (by rw [h];exact ao)
   . exact .inr (ak _ h)
theorem vo (ps:List (D × V)) (p:D × V):ps.length<=(fu ps p).length:=by
 unfold fu;split
 . exact av _
 . simp
theorem qG:∀ (xs ps:List (D × V)),ps.length<=(xs.foldl fu ps).length
 | [],ps=>av _
 | x::xs,ps=>aY (vo ps x) (qG xs _)
noncomputable def vv:V->Value
 | .ref a=>.ref a
 | _=>.none
noncomputable def uZ (w:World) (p:D × V):Int × Value:=(hD w p.1,vv p.2)
variable [Tbs]
theorem zc {ps:List (D × V)} {d:D} (hd:hok d = true) (hp:∀ q∈ps,hok q.1 = true):(ps.any fun q=>eqD q.1 d) = true↔d∈ps.map (·.1):=by
 rw [du,aP];constructor
 . rintro ⟨q,h1,h2⟩;exact ⟨q,h1,(fG _ _ (eB (hp q h1)).1 (eB hd).1).mp h2⟩
 . rintro ⟨q,h1,h2⟩;exact ⟨q,h1,(fG _ _ (eB (hp q h1)).1 (eB hd).1).mpr h2⟩
theorem va {w:World} {h:Heap}:∀ (ps:List (D × V)),(∀ q∈ps,hok q.1 = true/\RdV h q.1 (vv q.2))->ME w h (ps.map (·.1)) (ps.map (uZ w))
 | [],_=>.nil
 | q::ps,hq=>.cons ⟨rfl,hq q ao⟩ (va ps fun r hr=>hq r (ak _ hr))
section
variable {prog:Program} {w:World} {A:Around} {R:Result->Shared->Prop} {I:Addr} {fp wr:List Addr} {G:Array GenState->Array GenState->Prop} {n:Nat} {P:Nat->Value->Prop} {St:Nat->Shared->Prop}
theorem Cn (hu:A.units+40 < cLine) (W:WalksS prog w A.in1 I fp wr G n P St) (S:Addr) (hSf:S∉fp) (h0:Heap) (n0:∀ b∈S::wr,h0.get? b = none) (xs:List (D × V)) (hx:∀ i v,P i v->∃ q,xs[i]? = some q/\v = vv q.2) (hr:∀ q∈xs,hok q.1 = true/\RdV h0 q.1 (vv q.2)) (hn:xs.length = n) :
 ∀ (k i:Nat) (s:Shared) (ps:List (D × V)),n - i = k->i<=n->(∀ q∈ps,hok q.1 = true/\RdV h0 q.1 (vv q.2))->((xs.drop i).foldl fu ps).length < 64->St i s->(∀ b o,h0.get? b = some o->s.heap.get? b = some o)->kO w S (ps.map (uZ w)) s.heap ->
  (∀ s',Moved (S::wr) G s s'->kO w S (((xs.drop i).foldl fu ps).map (uZ w)) s'.heap->R (.ok (.ret .none)) s')->codeAny (model prog w) A (.builtin "set.update.loop" ⟨[.ref S,.ref I],[]⟩) R s:=by
 have nw:S∉wr:=fun z=>hSf (W.sub _ z);have sub:∀ b∈wr,b∈S::wr:=fun b z=>.tail _ z;have stay:∀ {s s':Shared} {ys:List (Int × Value)},Moved wr G s s'->kO w S ys s.heap->kO w S ys s'.heap:=fun m ⟨es,ep,t,g,r⟩=>⟨es,ep,t,m.heap S _ nw g,r⟩;have keep:∀ {s s':Shared},Moved wr G s s'->(∀ b o,h0.get? b = some o->s.heap.get? b = some o)->∀ b o,h0.get? b = some o->s'.heap.get? b = some o:=fun m hk b o e=>m.heap b o (fun z=>by rw [n0 b (sub b z)] at e;cases e) (hk b o e);intro k
 induction k with
 | zero =>
   intro i s ps hk hi hp hl st h0k hS fin;obtain rfl:i = n:=by lia
   refine dN iy ?_;rw [dE cQ _];refine ae (m:=pyNext (.ref I)) (W.done s _ _ st fun s' m=>ai (fin s' (m.mono sub) ?_));rw [List.drop_of_length_le (by lia)]
   exact stay m hS
 | succ k ih =>
   intro i s ps hk hi hp hl st h0k hS fin;refine dN iy ?_;rw [dE cQ _];refine ae (m:=pyNext (.ref I)) (W.item i s _ _ (by lia) st fun v s1 p st1 m=>?_);obtain ⟨q,hq,rfl⟩:=hx i v p;obtain ⟨q1,q2⟩:=hr q (bu hq);have hk1:=keep m h0k;have hlt:i < xs.length:=by lia
   have ed:xs.drop i = q::xs.drop (i+1):=by
    rw [eY hlt];congr 1;rw [aw hlt] at hq;exact aM hq
   rw [ed,fA] at hl fin;have l1:=qG (xs.drop (i+1)) (fu ps q);have l2:=vo ps q
   have hp1:∀ r∈fu ps q,hok r.1 = true/\RdV h0 r.1 (vv r.2):=fun r hr'=>by
    unfold fu at hr';split at hr'
    . exact hp r hr'
    . rcases bI.mp hr' with z | z
      . exact hp r z
      . rw [cR] at z;rw [z];exact ⟨q1,q2⟩
   refine ae (m:=holding [vv q.2] (setAdd S (vv q.2))) (bN (Df (ds:=ps.map (·.1)) (d:=q.1) (by show A.units+1+20 < cLine;lia) (stay m hS) (va ps fun r hr'=>⟨(hp r hr').1,RdV.keep hk1 _ _ (hp r hr').2⟩) q1 (RdV.keep hk1 _ _ q2) (by rw [aq];lia) (fun hm=>?_) fun hm h' sb hS1=>?_))
   . have ea:fu ps q = ps:=by
      unfold fu;rw [if_pos ((zc q1 fun r hr'=>(hp r hr').1).mpr hm)]
     rw [ea] at hl fin;refine ai ⟨dR cQ _,ih (i+1) _ ps (by lia) (by lia) hp hl (W.frame _ s1 _ _ st1 (eX _ _) fun b z o e=>e) hk1 (show kO w S _ s1.heap from stay m hS) fun s2 m2 hS2=>fin s2 (Moved.trans W.gtrans ((m.mono sub).then_heap (eX _ _) fun b o z e=>e) m2) hS2⟩
   . have ea:fu ps q = ps++[q]:=by
      unfold fu;rw [if_neg fun z=>hm ((zc q1 fun r hr'=>(hp r hr').1).mp z)]
     have em:ps.map (uZ w)++[(hD w q.1,vv q.2)] = (fu ps q).map (uZ w):=by rw [ea,bT];rfl
     rw [em] at hS1;refine ai ⟨dR cQ _,ih (i+1) _ (fu ps q) (by lia) (by lia) hp1 hl (W.frame _ s1 _ _ st1 (eX _ _) fun b z o e=>?_) (fun b o e=>?_) hS1 fun s2 m2 hS2=>fin s2 (Moved.trans W.gtrans ((m.mono sub).then_heap (eX _ _) fun b o z e=>?_) m2) hS2⟩
     . rw [sb.2 b (fun z'=>hSf (z'▸z))];exact e
     . rw [sb.2 b (fun z'=>by rw [z',n0 S ao] at e;cases e)];exact hk1 b o e
     . rw [sb.2 b (fun z'=>z (z'▸ao))];exact e
end
section
variable {prog:Program} {w:World} {A:Around} {E:Value->Shared->Prop} {s:Shared}
theorem AD (fg mv:Nat) (led:Bool):TbI (.fresh fg mv led) []:=⟨.inl rfl,rfl,.nil,fun j h=>by simp [SetTable.fresh] at h,rfl,bC _,fun i j h a=>by simp [SetTable.fresh] at a⟩
theorem ui {l:Addr} {items:Array Value} {xs:List (D × V)} {Q:Value->Shared->Prop} (hu:A.units+100 < cLine) (hh:A.handled = none) (hl:s.heap.IsList l items) (hi:items.toList = xs.map fun q=>vv q.2) (hr:∀ q∈xs,hok q.1 = true/\RdV s.heap q.1 (vv q.2)) (hb:(xs.foldl fu []).length < 64)
 (h:∀ (h':Heap) (tk:Nat),kO w s.heap.objs.size ((xs.foldl fu []).map (uZ w)) h'->(∀ b o,s.heap.get? b = some o->h'.get? b = some o)->Q (.ref s.heap.objs.size) { s with heap:=h',toks:=tk }) :
 wpAny (model prog w) A (call (.type "set") [.ref l]) Q E s:=by
 have hxs:xs.length = items.size:=by
  rw [<- aV,hi,aq]
 refine we (Z:=kO w s.heap.objs.size ((xs.foldl fu []).map (uZ w))) hh hl (fun A' I St G s1 R eI hA W hS st k gS fin=>?_) h;refine Cn (by lia) W s.heap.objs.size hS s.heap (fun b hb=>?_) xs (fun i v hv=>?_) hr hxs (items.size - 0) 0 s1 [] (by lia) (bC _) (fun q hq=>by cases hq) hb st k ⟨#[],0,.fresh 0 0 (!w.params.followText "set-order"),gS,AD _ _ _,rfl,.inl rfl,.refl _,by show 0 * 5 < 7 * 3;decide⟩ fin
 . cases e:s.heap.get? b with
   | none=>rfl
   | some o =>
     have:=ar e;simp only [aD,cw,or_false] at hb;rcases hb with z | z
     . rw [z] at this;exact absurd this (bU _)
     . rw [z,eI] at this;exact absurd this (Nat.not_lt.mpr (pC _))
 . have e:items.toList[i]? = some v:=by rw [Array.getElem?_toList];exact hv
   rw [hi,aQ] at e;obtain ⟨q,q1,q2⟩:=aE.mp e;exact ⟨q,q1,q2.symm⟩
end
section
variable {K:PySem.W.Frag} {H:Hp} {F:Addr->Prop}
theorem oh:∀ {ds:List D} {xs:List V},aF K H F ds xs->(ds.zip xs).map (·.1) = ds/\(ds.zip xs).map (·.2) = xs/\∀ q∈ds.zip xs,Rel K H F q.1 q.2
 | [],xs,r=>by unfold aF at r;subst r;exact ⟨rfl,rfl,fun q h=>by cases h⟩
 | d::ds,xs,r=>by
   unfold aF at r;obtain ⟨y,ys,rfl,h1,h2⟩:=r;obtain ⟨a,b,c⟩:=oh h2;refine ⟨by simp [a],by simp [b],fun q hq=>?_⟩;rcases aD.mp hq with rfl | hq
   . exact h1
   . exact c q hq
theorem qo:∀ (ps:List (D × V)),(∀ q∈ps,Rel K H F q.1 q.2)->aF K H F (ps.map (·.1)) (ps.map (·.2))
 | [],_=>aF.nil
 | q::ps,h=>aF.cons (h q ao) (qo ps fun r hr=>h r (ak _ hr))
theorem yI {d:D} {v:V} (k:hok d = true) (r:Rel K H F d v):∃ a,v = .ref a:=by
 obtain ⟨_,_,x,ds,rfl⟩:=eB k;unfold Rel at r;obtain ⟨a,xs,rfl,_⟩:=r;exact ⟨a,rfl⟩
theorem xC:∀ (ps:List (D × V)),(∀ q∈ps,∃ a,q.2 = .ref a)->Vals (ps.map (·.2)) (ps.map fun q=>vv q.2)
 | [],_=>.nil
 | q::ps,h=>by
   refine .cons ?_ (xC ps fun r hr=>h r (ak _ hr));obtain ⟨a,e⟩:=h q ao;show RelV q.2 (vv q.2);rw [e];rfl
end
theorem qh:∀ {ps:List (D × V)} {us:List Value},(∀ q∈ps,∃ a,q.2 = .ref a)->Vals (ps.map (·.2)) us->us = ps.map fun q=>vv q.2
 | [],us,_,h=>by cases h;rfl
 | q::ps,us,hq,h=>by
   cases h with
   | cons r t =>
     obtain ⟨a,e⟩:=hq q ao;have r:RelV q.2 _:=r;rw [e] at r;have r':_ = Value.ref a:=r;rw [aX,e,r',qh (fun r hr=>hq r (ak _ hr)) t];rfl
noncomputable def Hk (X:Cx) (p:Addr) (ps:List (D × V)):HO:=.ext (kO X.w p (ps.map (uZ X.w)))
theorem Hj {P:Program} {w:World} {H:Hp} {h:Heap} {a:Addr} {xs:List (Int × Value)} (x:kO w a xs h):fJ P w H h a (.ext (kO w a xs)):=by
 refine ⟨x,?_,fun h1 h2 x k=>?_⟩
 . obtain ⟨es,ep,t,g,r⟩:=x;exact ⟨_,g⟩
 . obtain ⟨es,ep,t,g,r⟩:=x;exact ⟨es,ep,t,k _ g,r⟩
theorem AO {X:Cx} (hc:X.calm = true) (hu:X.A.units+200 < cLine):cm X (.type "set") (fun xs H Q=>∃ F a ds vs,xs = [.ref a]/\SqL X.K H a vs/\aF X.K H F ds vs/\ds.all hok = true/\((ds.zip vs).foldl fu []).length < 64/\∀ p,H p = none->Q (.ref p) (upd H p (Hk X p ((ds.zip vs).foldl fu [])))):=by
 intro pins s σ H xs us0 Q I r h;obtain ⟨F,a,ds,vs,rfl,hq,rl,hk,hz,q⟩:=h;obtain ⟨u,rfl,rx⟩:=vals1 r;cases rx;obtain ⟨its,r',pl,_⟩:=I.list hq;obtain ⟨p1,p2,p3⟩:=oh rl;have hks:∀ q∈ds.zip vs,hok q.1 = true:=fun q hq=>bb.mp hk q.1 (by rw [<- p1];exact gL hq);have refs:∀ q∈ds.zip vs,∃ a,q.2 = .ref a:=fun q hq=>yI (hks q hq) (p3 q hq);rw [<- p2] at r';have ei:=qh refs r';refine ui (xs:=ds.zip vs) (by lia) (I.ok.hd hc) pl.isList (by rw [ei]) (fun q hq=>⟨hks q hq,?_⟩) hz fun h' tk hS k=>?_
 . obtain ⟨b,e⟩:=refs q hq;exact wt I q.1 q.2 _ (p3 q hq) (by rw [e];rfl) (yJ (hks q hq))
 . have ok:=Hj (P:=X.prog) (H:=upd H s.heap.objs.size (Hk X s.heap.objs.size ((ds.zip vs).foldl fu []))) hS;exact ⟨.ref s.heap.objs.size,_,I.laid (t':=tk) k (av _) ok,rfl,q _ (I.hok.fresh (av _))⟩
end PP
end
section
namespace PP
open PySem L2 PyProof.Rows PySem.W
theorem xF {ds:List D} (h:tot ds = true):(∀ a∈ds,∀ b∈ds,ltB a b = true->ltB b a = false)/\(∀ a∈ds,∀ b∈ds,ltB a b = false->ltB b a = false->eqD a b = true)/\∀ a∈ds,∀ b∈ds,∀ c∈ds,ltB b a = false->ltB c b = false->ltB c a = false:=by
 unfold tot at h;simp only [bb,aa,df,lX,Bool.and_eq_false_iff] at h;refine ⟨fun a ha b hb q=>?_,fun a ha b hb q1 q2=>?_,fun a ha b hb c hc q1 q2=>?_⟩
 . rcases (h a ha b hb).1.1 with z | z
   . rw [q] at z;cases z
   . exact z
 . rcases (h a ha b hb).1.2 with (z | z) | z
   . rw [q1] at z;cases z
   . rw [q2] at z;cases z
   . exact z
 . rcases (h a ha b hb).2 c hc with (z | z) | z
   . rw [q1] at z;cases z
   . rw [q2] at z;cases z
   . exact z
theorem ua {us ds:List D} (p:us.Perm ds) (hs:sortable ds = true) (ht:tot ds = true):(eU us).Perm ds/\(eU us).Pairwise fun a b=>ltB b a = false:=by
 obtain ⟨_,_,hlt⟩:=(letI:Tbs:=⟨[],[],[]⟩;dg hs);obtain ⟨t1,t2,t3⟩:=xF ht
 cases ds with
 | nil =>
   have:us = []:=List.perm_nil.mp p;subst this
   exact ⟨.refl _,.nil⟩
 | cons d0 dr =>
   letI:Inhabited { d // d∈d0::dr }:=⟨⟨d0,ao⟩⟩
   have e:(us.attachWith (·∈d0::dr) fun x hx=>p.mem_iff.mp hx).map Subtype.val = us:=List.attachWith_map_subtype_val ..
   obtain ⟨ys,e1,p1,u1⟩:=Cz (α:={ d // d∈d0::dr }) Subtype.val (fun a b=>ltB a.1 b.1) (fun x y=>by
    obtain ⟨k,hk⟩:=hlt x.1 x.2 y.1 y.2;rw [hk];unfold ltB;rw [hk];rfl) (fun a b h=>t1 a.1 a.2 b.1 b.2 h) (fun a b c h1 h2=>t3 a.1 a.2 b.1 b.2 c.1 c.2 h1 h2) (us.attachWith (·∈d0::dr) fun x hx=>p.mem_iff.mp hx)
   rw [e] at e1;rw [e1];refine ⟨?_,?_⟩
   . have:=p1.map Subtype.val;rw [e] at this;exact this.trans p
   . exact lU.mpr (GG (lt:=fun (a b:{ d // d∈d0::dr })=>ltB a.1 b.1) u1)
theorem vZ {us ds:List D} (p:us.Perm ds) (hs:sortable ds = true) (ht:tot ds = true) (hb:∀ d∈ds,hb d = true):eU us = eU ds:=by
 obtain ⟨p1,u1⟩:=ua p hs ht;obtain ⟨p2,u2⟩:=ua (.refl ds) hs ht;obtain ⟨_,t2,_⟩:=xF ht;refine List.Perm.eq_of_pairwise (fun x y hx hy h1 h2=>?_) u1 u2 (p1.trans p2.symm);have mx:=p1.mem_iff.mp hx;have my:=p2.mem_iff.mp hy;exact (fG x y (hb x mx) (hb y my)).mp (t2 x mx y my h2 h1)
theorem pH {us ds:List D} (p:us.Perm ds) (hs:sortable ds = true):sortable us = true:=by
 obtain ⟨h1,h2,h3⟩:=(letI:Tbs:=⟨[],[],[]⟩;dg hs);unfold sortable;simp only [aa,decide_eq_true_eq,bb];refine ⟨⟨by rw [p.length_eq];exact h1,fun x hx=>?_⟩,fun x hx y hy=>?_⟩
 . have mx:=p.mem_iff.mp hx;obtain ⟨a,b⟩:=h2 x mx
   have:us.getD 0 .non∈ds:=by
    cases us with
    | nil=>cases hx
    | cons u r=>exact p.mem_iff.mp ao
   exact ⟨by simpa using a,by rw [b,(h2 _ this).2];simp⟩
 . obtain ⟨k,hk⟩:=h3 x (p.mem_iff.mp hx) y (p.mem_iff.mp hy);rw [hk];rfl
variable [Tbs]
theorem tm {X:Cx} (hc:X.calm = true) (hu:X.A.units+200 < cLine):cm X (.builtin "sorted") (fun xs H Q=>∃ F a ps,xs = [.ref a]/\H a = some (Hk X a ps)/\(∀ q∈ps,hok q.1 = true/\Rel X.K H F q.1 q.2)/\sortable (ps.map (·.1)) = true/\tot (ps.map (·.1)) = true /\
 ∀ p ys,H p = none->aF X.K H F (eU (ps.map (·.1))) ys->Q (.ref p) (upd H p (.lst ys))):=by
 intro pins s σ H xs us0 Q I r h;obtain ⟨F,a,ps,rfl,hH,hps,hs,ht,q⟩:=h;obtain ⟨u,rfl,rx⟩:=vals1 r;cases rx;obtain ⟨⟨es,ep,t,g,T,hl,hp,hq,_⟩,_,_⟩:=I.hok a _ hH;have h64:=(dg hs).1;rw [aq] at h64;refine qV kind_sorted plain_sorted entry_sorted (args_sorted1 _) ?_;unfold Builtin.«sorted»
 have pw:(es.toList.map (·.2)).Perm (ps.map fun q=>vv q.2):=by
  have:=hq.map (·.2);rw [vF] at this;exact this
 refine ae (m:=checkCount "sorted" 1 1 _) (ai (ae (vg (A:=X.A.in1) (I.ok.hd hc) ⟨es,ep,t,g,fits_of T (by simp),hl,hp,pw⟩ (by rw [aq];lia) fun vs d tk h1 pv k1=>ae (AX ?_ ?_))))
 . obtain ⟨qs,pq,rq⟩:=qt pv ps (R:=fun q v=>v = vv q.2) (by
    have:∀ l:List (D × V),Paired (fun (q:D × V) (v:Value)=>v = vv q.2) l (l.map fun q=>vv q.2):=fun l=>by
     induction l with
     | nil=>exact .nil
     | cons x l ih=>exact .cons rfl ih
    exact this ps)
   have ev:vs = qs.map fun q=>vv q.2:=by
    clear pv pq
    induction rq with
    | nil=>rfl
    | cons r _ ih=>rw [aX,ih,r]
   subst ev;have hqs:∀ q∈qs,hok q.1 = true/\Rel X.K H F q.1 q.2:=fun q hq=>hps q (pq.mem_iff.mp hq);have rl:=qo qs fun q hq=>(hqs q hq).2;have vq:=xC qs fun q hq=>yI (hqs q hq).1 (hqs q hq).2
   have rd0:=kZ I _ _ _ rl vq (sN fun x hx=>by
    obtain ⟨q,hq,rfl⟩:=aP.mp hx;exact yJ (hqs q hq).1)
   have rd:=RdL.keep k1 _ _ rd0;have pd:(qs.map (·.1)).Perm (ps.map (·.1)):=pq.map _;have hsq:=pH pd hs;obtain ⟨_,hk,_⟩:=dg hsq;have lu:qs.length < 64:=by rw [pq.length_eq];exact h64
   have l3:(qs.map fun q=>vv q.2).length = (qs.map (·.1)).length:=by rw [aq,aq]
   have hlen:(ft (gY (qs.map (·.1))) (qs.map fun q=>vv q.2)).length = (qs.map fun q=>vv q.2).length:=by
    unfold ft;split
    . rfl
    . rw [aq,(fL _).length_eq,iu]
   have small:∀ i∈(ans (gY (qs.map (·.1))) (kas_sort (qs.map fun q=>vv q.2).length)).toList,i < (qs.map fun q=>vv q.2).length:=fun i hi=>by simpa using (fL _).mem_iff.mp hi
   have hv:∃ ys,Vals ys (ft (gY (qs.map (·.1))) (qs.map fun q=>vv q.2))/\aF X.K H F (eU (qs.map (·.1))) ys:=by
    unfold ft eU;by_cases h2:(qs.map fun q=>vv q.2).length < 2
    . rw [if_pos h2,if_pos (by lia)];exact ⟨_,vq,rl⟩
    . rw [if_neg h2,if_neg (by lia),<- l3];exact ⟨_,pb vq _ fun i hi=>by have:=small i hi;rw [aq] at this ⊢;exact this,ph rl _ fun i hi=>by rw [<- l3];exact small i hi⟩
   obtain ⟨ys,vy,ry⟩:=hv
   rw [vZ pd hs ht fun d hd=>by
    obtain ⟨q,hq,rfl⟩:=aP.mp hd;exact (eB (hps q hq).1).1] at ry
   have hL:(h1.push (seqObj "list" (qs.map fun q=>vv q.2).toArray 0)).get? h1.objs.size = some (seqObj "list" (qs.map fun q=>vv q.2).toArray 0):=aA _ rfl;have kp':∀ {h':Heap},(∀ b o,b≠h1.objs.size->(h1.push (seqObj "list" (qs.map fun q=>vv q.2).toArray 0)).get? b = some o->h'.get? b = some o)->∀ b o,h1.get? b = some o->h'.get? b = some o:=fun kp b o e=>kp b o (aC (ar e)) (af _ e);refine ae (bN (bO slot_list_sort ⟨_,hL,rfl⟩ entry_list_sort ?_ (args_list_sort _)))
   refine kD (s:={ s with heap:=h1.push (seqObj "list" (qs.map fun q=>vv q.2).toArray 0),drawn:=d,toks:=tk }) (lt:=gY (qs.map (·.1))) (κ:=if bo ((qs.map (·.1)).getD 0 .non) < 3 then oneType' else tuples' true) hL (by rw [aq];exact lu) hlen
    (fun h2 h' kp C c=>Ew (s:={ s with heap:=h',drawn:=d,toks:=tk }) (RdL.keep (kp' kp) _ _ rd) hk h2 c) (fun h' kp i j hi hj C c=>JD (A:=X.A) (s:={ s with heap:=h1,drawn:=d,toks:=tk }) hu (by show X.A.units+1+1<=X.A.units+2;lia) rd l3 hsq (kp' kp) i j hi hj C c) ?_
   . refine ⟨_,rfl,ai ⟨_,rfl,?_⟩⟩;have J:=I.call (h':=h1) (g':=s.gens) (d':=d) (t':=tk) (ch:=[]) (Un.kept k1) (I.hok.kept k1) I.bare (fun b z=>absurd z (by simp));obtain ⟨e,he⟩:=sortedHeap_at (out:=(ft (gY (qs.map (·.1))) (qs.map fun q=>vv q.2)).toArray) hL
     have old:∀ b o,h1.get? b = some o->(sortedHeap (h1.push (seqObj "list" (qs.map fun q=>vv q.2).toArray 0)) h1.objs.size (qs.map fun q=>vv q.2) (ft (gY (qs.map (·.1))) (qs.map fun q=>vv q.2)).toArray).get? b = some o:=fun b o e=>by
      have lb:=ar e;rw [sortedHeap_old (aC lb) (by rw [bf];exact bc lb)];exact af _ e
     refine ⟨.ref h1.objs.size,upd H h1.objs.size (.lst ys),J.laid (t':=tk) old (av _) ⟨?_,_,e,vy,he⟩,rfl,q _ _ (J.hok.fresh (av _)) ry⟩;rw [ry.length,qk,aq,bP]
     lia
 . have:=pv.length_eq;rw [aq] at this;rw [bP]
   lia
end PP
end
section
namespace PP
open PySem L2 PyProof.Rows
variable [Tbs]
section
variable {K:PySem.W.Frag} {cx:Cl} {P:Program} {w:World}
end
section
variable {K:PySem.W.Frag} {H:Hp} {F:Addr->Prop}
end
section
variable {X:Cx} {cx:Cl}
end
section
variable {cx:Cl} {k:Nat}
theorem gR:∀ {es:Es},iJ es = true->pM es = true
 | .nil,_=>rfl
 | .cons e es,h=>by
   have h':(!bJ e && iJ es) = true:=h;rw [aa] at h';show ((!bJ e || npS es) && pM es) = true;rw [h'.1,gR h'.2];rfl
theorem ie {c:Ck} {env:Env} {pos:Pos}:∀ {es:Es} {ys:List Expr},ik c es ys = true->(backTo pos (starEach ys env)).any (·.1) = false
 | .nil,ys,h=>by obtain ⟨rfl,_⟩:=dI h;rfl
 | .cons e es,ys,h=>by
   obtain ⟨_,_,rfl,hh⟩:=cM h;rw [aa] at hh;rw [cX (cn hh.1)];show (false || (backTo pos (starEach _ env)).any (·.1)) = false;rw [ie hh.2];rfl
theorem nO {X:Cx} {c:Ck} {sc:Scope} (C:Cok X c cx k) (h:ky c sc = true):pj X sc:=by
 unfold ky at h;rw [aa,bb] at h;obtain ⟨h1,h2⟩:=h
 have q:∀ p∈sc.names,p.2≠.cell/\(p.2 = .local->sc.names.lookup p.1 = some .local)/\(p.2 = .free->c.sc.names.lookup p.1 = some .cell\/c.sc.names.lookup p.1 = some .free):=fun p hp=>by
  have z:=h2 p hp;rw [aa,aa] at z;obtain ⟨⟨a,b⟩,d⟩:=z;refine ⟨of_decide_eq_true a,fun e=>?_,fun e=>?_⟩
  . rw [df] at b;rcases b with b | b
    . simp [e] at b
    . exact of_decide_eq_true b
  . rw [df] at d;rcases d with d | d
    . simp [e] at d
    . split at d
      . exact .inl ‹_›
      . exact .inr ‹_›
      . cases d
 exact ⟨of_decide_eq_true h1,fun y hy=>(q y hy).1,fun y hy e=>(q y hy).2.1 e,fun x hx=>C.kc x ((q _ hx).2.2 rfl)⟩
theorem gw {X:Cx} {c:Ck} {sc:Scope} {Nc:List Str} (C:Cok X c cx k) (h:ky c sc = true) (hn:Nc.Nodup) (cl:List (Str × Addr)) (Ca:Addr) (s:Shared) (H:Hp) (fp:List Addr):Cok (cxC X sc cl Ca Nc s H fp) ⟨Nc,sc,c.fns,c.gn⟩ cx k:=by
 have S:=nO C h;have kd:∀ x,(cxC X sc cl Ca Nc s H fp).env.kindOf x = (sc.names.lookup x).map fun k=>if (k == NameKind.free && X.env.scope.kind == .function && X.env.kindOf x == some .cell) then NameKind.cell else k:=fun x=>lB x
 refine ⟨rfl,hn,fun x hx=>?_,fun x hx=>?_,fun x hx=>?_,fun x hx=>?_,C.calm,rfl,C.room,C.fns,C.fnO,C.blt,C.glob,C.gsome,C.gds,C.pos⟩
 . have e:=kd x;show (cxC X sc cl Ca Nc s H fp).env.kindOf x = some .local\/(cxC X sc cl Ca Nc s H fp).env.kindOf x = some .cell\/(cxC X sc cl Ca Nc s H fp).env.kindOf x = some .free;rw [e];rcases hx with hx | hx | hx
   . rw [hx];exact .inl rfl
   . exact absurd rfl (S.nocell _ (PySem.mem_of_lookup hx))
   . rw [hx];simp only [cJ];split
     . exact .inr (.inl rfl)
     . exact .inr (.inr rfl)
 . show (cxC X sc cl Ca Nc s H fp).env.kindOf x = some .globalImplicit;rw [kd x];have hx:sc.names.lookup x = some .globalImplicit:=hx;rw [hx];rfl
 . have:sc.names.lookup x = some .local:=by
    rcases hx with hx | hx
    . exact hx
    . exact absurd rfl (S.nocell _ (PySem.mem_of_lookup hx))
   have e:(cxC X sc cl Ca Nc s H fp).env.kindOf x = some .local:=by rw [kd x,this];rfl
   exact ⟨.inl e,.inr e⟩
 . rw [kd x];have hx:sc.names.lookup x = some .cell\/sc.names.lookup x = some .free:=hx;rcases hx with hx | hx
   . exact absurd rfl (S.nocell _ (PySem.mem_of_lookup hx))
   . rw [hx];simp only [cJ];split
     . exact .inl rfl
     . exact .inr rfl
theorem lq {c:Ck} {sc:Scope} {Nc:List Str} (h:namesOk c sc Nc = true):Nc.Nodup/\∀ i x,i < c.N.length->Nc[i]? = some x->Vis sc x->c.N[i]? = some x/\sc.names.lookup x = some .free:=by
 unfold namesOk at h;rw [aa,bb] at h;refine ⟨of_decide_eq_true h.1,fun i x hi e v=>?_⟩;have z:=h.2 i (by simpa using hi);rw [e] at z;dsimp only at z;rw [df,aa] at z
 have vb:zQ sc x = true:=by
  unfold zQ;rcases v with v | v | v<;>rw [v]
 rcases z with z | ⟨z1,z2⟩
 . rw [vb] at z;cases z
 . exact ⟨of_decide_eq_true z1,of_decide_eq_true z2⟩
theorem vd {X:Cx} {c:Ck} {Nc:List Str} {kk:Nat} {tg:Tg} {src:It} {ifs:Eo} {elt:E} {pins:List (Addr × Obj)} {s:Shared} {σ:L2.St} {H:Hp} {Q:VK} (C:Cok X c cx k) (I:Inv X pins σ H s) (n:(!bJ elt) = true) (hk:Nc.length = c.N.length+kk) (hge:zU c.N.length tg = true)
 {G:Gh} {F:Addr->Prop} {δ δ':Loc} {d:D} (ok:Ok X.K G F σ H δ) (ev:evE cx (.comp kk tg src ifs elt) δ = some (d,δ'))
 (q:∀ p ys xs H1 F1 H2 F2,d = .lst ys->Step G F H F1 H1->Step G F1 H1 F2 H2->H1 p = none->G.free p->Ok X.K (G.and p) F2 σ H2 δ'->H2 p = some (.lst xs)->aF X.K H2 F2 ys xs->(np (.comp kk tg src ifs elt) = true->Sim H H2)->Q (.ref p) H2) :
 tLC (Nc.length - X.N.length) (tI X.K cx src) (gTg X.K tg) (tG X.K cx ifs) (tE X.K cx elt) σ H Q:=by
 obtain ⟨ds,δ1,ys,ei,ec,hz,rfl⟩:=II ev;have ek:Nc.length - X.N.length = kk:=by rw [C.hN,hk];lia
 rw [ek];refine ⟨G,F,δ,ds,δ1,ok,ei,fun J H1 F1 st1 sm1 ok1 wk=>fun p hp=>?_⟩;have hg:=ok1.free hp;refine wX n (by rw [I.len,C.hN];exact hge) ok1 (wk _) hp ec hz fun σ' H2 F2 xs ok2 eD rl st2 sm2=>?_;refine q p ys xs H1 F1 H2 F2 rfl st1 st2 hp hg ok2 eD rl fun z=>?_;have z':(npI src && npO ifs && np elt) = true:=z;rw [aa,aa] at z';exact (sm1 z'.1.1).trans (sm2 (by rw [z'.1.2,z'.2];rfl))
theorem Fe {X:Cx} {c:Ck} {Nc:List Str} {kk:Nat} {tg:Tg} {src:It} {ifs:Eo} {elt:E} {pins:List (Addr × Obj)} {s:Shared} {σ:L2.St} {H:Hp} {Q:VK} (C:Cok X c cx k) (I:Inv X pins σ H s) (n:(!bJ elt) = true) (hk:Nc.length = c.N.length+kk) (hge:zU c.N.length tg = true)
 (h:tE X.K cx (.comp kk tg src ifs elt) σ H Q):tLC (Nc.length - X.N.length) (tI X.K cx src) (gTg X.K tg) (tG X.K cx ifs) (tE X.K cx elt) σ H Q:=by
 obtain ⟨G,F,δ,d,δ',ok,ev,post⟩:=h;refine vd C I n hk hge ok ev fun p ys xs H1 F1 H2 F2 e st1 st2 hp hg ok2 eD rl sm=>?_;subst e
 have st':Step G F1 H1 (fun b=>F2 b/\b≠p) H2:=⟨st2.keep,fun b z=>st2.grow b z.1,fun b o r f e=>by
  obtain ⟨a1,a2⟩:=st2.res b o r f e;exact ⟨⟨a1,fun w=>by rw [w,hp] at e;cases e⟩,a2⟩,st2.tb⟩
 refine post (.ref p) H2 _ (st1.trans st') sm (ok2.leave hg) (fM ?_);unfold Rel;exact ⟨p,xs,rfl,.inl ⟨.inl eD,fun z=>z.2 rfl⟩,aF.less ok2.fd (fun b z=>z.1) rl⟩
theorem CD {X:Cx} {c:Ck} {sc:Scope} {Nc:List Str} {kk:Nat} {tg:Tg} {src:It} {ifs:Eo} {elt:E} {ex t it:Expr} {il:List Expr} {pos:Pos} (C:Cok X c cx k) (n:(!bJ elt) = true) (hk:Nc.length = c.N.length+kk) (hge:zU c.N.length tg = true) (hs:ky c sc = true) (hn:namesOk c sc Nc = true)
 (htg:∀ cl Ca s H fp,PG (cxC X sc cl Ca Nc s H fp) t (gTg X.K tg)) (hI:PI X t it (tI X.K cx src)) (hG:∀ cl Ca s H fp,PTs (cxC X sc cl Ca Nc s H fp) il (tG X.K cx ifs)) (hE:∀ cl Ca s H fp,PE (cxC X sc cl Ca Nc s H fp) ex (tE X.K cx elt))
 (hset:∀ v,foldedSetIterable it X.env v = pure v):PE X (.ListComp ex [⟨t,it,il,0⟩] sc pos) (tE X.K cx (.comp kk tg src ifs elt)):=by
 obtain ⟨nd,hvis⟩:=lq hn;intro pins s σ H Q I h;refine DH (Nc:=Nc) C.xe C.calm (nO C hs) (fun i x hi=>by rw [C.hN] at hi ⊢;exact hvis i x hi) (by rw [C.hN,hk];lia) hI htg hG hE hset pins s σ H Q I ?_;exact Fe C I n hk hge h
theorem call_of {X:Cx} {c:Ck} {f:Nat} {es:Es} {n:Str} {p pos:Pos} {xs:List Expr} (C:Cok X c cx k) (hA:PA X xs (tEs X.K cx es)) (h:(match c.fns[f]? with
 | some (m,ps)=>decide (m = n) && dM c n && decide (ps.length = ET es) && ik c es xs && iJ es && !xs.isEmpty
 | none=>false) = true):PE X (.Call (.Name n p) xs [] pos) (tE X.K cx (.call f es)):=by
 split at h
 . rename_i m ps ef;simp only [aa] at h;obtain ⟨⟨⟨⟨⟨h1,h2⟩,h3⟩,h4⟩,h5⟩,h6⟩:=h;have e:=of_decide_eq_true h1;subst e;obtain ⟨a,fd,hm,hk,hb,fn⟩:=C.fns f _ _ ef;obtain ⟨g1,g2,g3⟩:=C.global h2
   cases xs with
   | nil=>simp at h6
   | cons y ys =>
     obtain ⟨_,_,_,a1,a2⟩:=fO h4;exact CF h5 fn C.room g1 hm hk hb hA g2 (cX (cn a1) _ _) (ie a2)
 . cases h
theorem CB {X:Cx} {a:E} {n:Int} {y:Expr} {p pos kp cp:Pos} {ko:Nat} (hc:X.calm = true) (hg:Gl X "max") (hm:X.mg "max" = none) (hn:("max":Str)≠"__name__") (hdb:(("max":Str) == ("__debug__":Str)) = false) (np':(!bJ a) = true) (ha:PE X y (tE X.K cx a))
 (he:starEach [y] X.env = (false,eval y X.env)::starEach [] X.env):PE X (.Call (.Name "max" p) [y] [⟨some (Str.ofString "default"),.Constant (.int n) ko cp,kp⟩] pos) (tE X.K cx (.maxd a n)):=by
 refine PE.imp (Ao (AQ hc) hg hm rfl (fb ha iI he) (HE DI Lb) hn hdb he rfl) fun σ H Q h=>?_;obtain ⟨G,F,δ,d,δ',ok,ev,post⟩:=h;simp only [evE,aj,ag] at ev;obtain ⟨⟨x,δ1⟩,ea,ev⟩:=ev
 cases x with
 | lst ds =>
   dsimp only at ev;rw [aE] at ev;obtain ⟨ns,e,e'⟩:=ev;cases e';refine ⟨G,F,δ,_,_,ok,ea,fun v H1 F1 st sm ok1 r=>?_⟩;obtain ⟨q,ys,rfl,h1,h2⟩:=r.b.lst;rw [lx e h2] at h1;refine ⟨q,ns,.int n,rfl,rfl,h1.sq,?_⟩;have z:=post (.int (if ns = [] then n else nA ns)) H1 F1 st sm ok1 (fM (dh _));by_cases hz:ns = []
   . rw [if_pos hz] at z ⊢;exact z
   . rw [if_neg hz] at z ⊢;exact z
 | _=>cases ev
theorem Mw {X:Cx} {c:Ck} {f:Blt} {es:Es} {p pos:Pos} {y:Expr} {ys:List Expr} (C:Cok X c cx k) (hg:dM c (qK f) = true) (ht:tyName f = none) (hA:PA X (y::ys) (tEs X.K cx es)) (h:ik c es (y::ys) = true):PE X (.Call (.Name (qK f) p) (y::ys) [] pos) (tE X.K cx (.blt f es)):=by
 obtain ⟨g1,g2,g3⟩:=C.global hg;obtain ⟨e,es',rfl,h1,h2⟩:=fO h;have he:=cX (cn h1) ys X.env;have hpl:=ie (env:=X.env) (pos:=pos) h2
 cases f with
 | len=>exact iG Ii rfl (fW Mr g1 (C.blt _ (by decide +kernel)) rfl hA g3 g2 he hpl)
 | toInt=>exact iG qZ rfl (ig Ms g1 (C.blt _ (by decide +kernel)) rfl hA g3 g2 he hpl)
 | toTup=>exact iG qY rfl (ig Mn g1 (C.blt _ (by decide +kernel)) rfl hA g3 g2 he hpl)
 | toLst=>exact iG kU rfl (ig Mq g1 (C.blt _ (by decide +kernel)) rfl hA g3 g2 he hpl)
 | sorted=>exact iG mL rfl (fW (AK C.units) g1 (C.blt _ (by decide +kernel)) rfl hA g3 g2 he hpl)
 | any=>exact iG IV rfl (fW (Mu C.calm) g1 (C.blt _ (by decide +kernel)) rfl hA g3 g2 he hpl)
 | sum=>exact iG GL rfl (fW (Mp C.calm) g1 (C.blt _ (by decide +kernel)) rfl hA g3 g2 he hpl)
 | _=>cases ht
end
section
variable {K:PySem.W.Frag} {cx:Cl} {P:Program} {w:World} {k:Nat}
end
section
variable {cx:Cl} {k:Nat}
end
section
variable {cx:Cl} {k:Nat}
theorem GS {X:Cx} {c:Ck} {a:E} {y:Expr} {p p2 pos cp:Pos} (C:Cok X c cx k) (gg:Gl X "sorted") (gm:X.mg "sorted" = none) (gn:("sorted":Str)≠"__name__") (gd:(("sorted":Str) == ("__debug__":Str)) = false)
 (fg:Gl X "set") (fm:X.mg "set" = none) (fn:("set":Str)≠"__name__") (fd:(("set":Str) == ("__debug__":Str)) = false) (np':(!bJ a) = true) (ha:PE X y (tE X.K cx a))
 (he:starEach [y] X.env = (false,eval y X.env)::starEach [] X.env):PE X (.Call (.Name "sorted" p) [.Call (.Name "set" p2) [y] [] cp] [] pos) (tE X.K cx (.ssd a)):=by
 have hS:PE X (.Call (.Name "set" p2) [y] [] cp) _:=ig (AO C.calm C.units) fg fm rfl (fb ha iI he) fn fd he rfl;refine PE.imp (fW (tm C.calm C.units) gg gm rfl (fb hS iI rfl) gn gd rfl rfl) fun σ H Q h=>?_;obtain ⟨G,F,δ,d,δ',ok,ev,post⟩:=h;simp only [evE,aj,ag] at ev;obtain ⟨⟨x,δ1⟩,ea,ev⟩:=ev
 cases x with
 | lst ds =>
   dsimp only at ev;split at ev
   . rename_i hs;cases ev;rw [aa,aa] at hs;refine ⟨G,F,δ,_,_,ok,ea,fun v H1 F1 st sm ok1 r=>?_⟩;obtain ⟨q,ys,rfl,h1,h2⟩:=r.b.lst;obtain ⟨p1,p2',p3⟩:=oh h2
     have ed:((ds.zip ys).foldl fu []).map (·.1) = iS ds:=by
      rw [qH,p1];rfl
     have hl:((ds.zip ys).foldl fu []).length < 64:=by
      have:=(dg hs.1.2).1;rw [<- ed,aq] at this;exact this
     refine ⟨F1,q,ds,ys,rfl,h1.sq,h2,hs.1.1,hl,fun D hD=>?_⟩;have sd:=cj hD (Hk X D ((ds.zip ys).foldl fu []));have ok2:=ok1.same' sd;refine ⟨F1,D,(ds.zip ys).foldl fu [],rfl,cg,fun q hq=>?_,by rw [ed];exact hs.1.2,by rw [ed];exact hs.2,fun p' zs hp' rl=>?_⟩
     . rcases qF _ _ hq with z | z
       . cases z
       . exact ⟨bb.mp hs.1.1 q.1 (by rw [<- p1];exact gL z),Rel.step ok1.fd (qj sd) _ _ (p3 q z)⟩
     . rw [ed] at rl;have sp:=cj hp' (.lst zs);refine post _ _ F1 ((st.trans (Step.of_same sd)).trans (Step.of_same sp)) (fun z=>((sm z).trans (.of sd)).trans (.of sp)) (ok2.same' sp) (fM ?_);unfold Rel;exact ⟨p',zs,rfl,.inl ⟨.inl cg,qv ok2.fd hp'⟩,aF.step ok2.fd (qj sp) _ _ rl⟩
   . cases ev
 | _=>cases ev
end
section
variable {cx:Cl} {δ:Loc}
end
end PP
end
section
namespace PP
open PySem PySem.Spec L2 PyProof.Rows
variable [Tbs]
end PP
end
section
namespace PP
open PySem L2 PyProof.Rows
variable [Tbs]
section
variable {K:PySem.W.Frag} {cx:Cl} {w:World}
end
section
variable {cx:Cl} {δ:Loc}
end
section
variable {cx:Cl} {k:Nat}
theorem lJ {c:Ck} {tg:Tg} {ts:List Str} {kk:Nat} (h:ts.length = kk):(oy ts c.N++ts).length = c.N.length+kk:=by
 unfold oy;rw [au,aq,h]
theorem tj {c:Ck} {t:It} {x:Expr} (h:ckI c t x = true) (env:Env) (v:Value):foldedSetIterable x env v = pure v:=by
 cases t with
 | rng e=>obtain ⟨_,_,_,_,rfl,_⟩:=dP h;rfl
 | sq e =>
   have h:(ckE c e x && !bJ e) = true:=h;rw [aa] at h;exact EK (cn h.1) env v
theorem gk {X:Cx} {c:Ck} {f:Blt} {es:Es} {x:Expr} (C:Cok X c cx k) (h:ckE c (.blt f es) x = true) (hE:∀ e y,es = .cons e .nil->ckE c e y = true->PE X y (tE X.K cx e)) (hA:∀ xs,ik c es xs = true->pM es = true->PA X xs (tEs X.K cx es)) :
 PE X x (tE X.K cx (.blt f es))/\∀ whole,isTrue x X.env whole = (do let v <- whole;standAt x.pos;holding [v] (truthy v)):=by
 obtain ⟨n,np,xs,p,rfl,hh⟩:=dP h;refine ⟨?_,fun _=>rfl⟩;simp only [aa] at hh;obtain ⟨⟨h1,h2⟩,h3⟩:=hh;have e:=of_decide_eq_true h1;subst e
 cases hT:tyName f with
 | some T =>
   rw [hT] at h3;obtain ⟨y,w,rfl,h4⟩:=jX h3;obtain ⟨t,tp,rfl,h5⟩:=bp h4;simp only [aa] at h5;obtain ⟨⟨⟨a1,a2⟩,a3⟩,a4⟩:=h5;have et:=of_decide_eq_true a1
   cases es with
   | nil=>exact absurd (dI a3).1 (by simp)
   | cons e es' =>
     obtain ⟨_,_,q0,a3'⟩:=cM a3;cases q0;rw [aa] at a3'
     cases es' with
     | cons _ _=>obtain ⟨_,_,q0,_⟩:=cM a3'.2;cases q0
     | nil =>
       have q:=hE e y rfl a3'.1;obtain ⟨t1,t2,t3⟩:=C.global a2
       have tb:t∈iq:=by
        subst et;cases f<;>simp [tyName] at hT<;>subst hT<;>decide +kernel
       have hs:starEach [y,.Name t tp] X.env = [(false,eval y X.env),(false,eval (.Name t tp) X.env)]:=by rw [cX (cn a3'.1)];rfl
       have nm:qK f = ("isinstance":Str):=by cases f<;>simp [tyName] at hT<;>rfl
       rw [nm] at h2 ⊢;obtain ⟨g1,_,_⟩:=C.global h2
       exact KG hT et g1 (C.blt _ (by decide +kernel)) t1 (C.blt _ tb) q hs
 | none =>
   rw [hT] at h3;simp only [aa] at h3;obtain ⟨⟨b1,b2⟩,b3⟩:=h3
   cases xs with
   | nil=>simp at b1
   | cons y ys=>exact Mw C h2 hT (hA _ b2 b3) b2
theorem Fl {X:Cx} {c:Ck} {f:Nat} {es:Es} {x:Expr} (C:Cok X c cx k) (h:ckE c (.call f es) x = true) (hA:∀ xs,ik c es xs = true->pM es = true->PA X xs (tEs X.K cx es)) :
 PE X x (tE X.K cx (.call f es))/\∀ whole,isTrue x X.env whole = (do let v <- whole;standAt x.pos;holding [v] (truthy v)):=by
 obtain ⟨n,np,xs,p,rfl,hh⟩:=dP h;refine ⟨?_,fun _=>rfl⟩;have h':=hh;split at h'
 . simp only [aa] at h';exact call_of C (hA _ h'.1.1.2 (gR h'.1.2)) hh
 . cases h'
theorem noT {X:Cx} {e:E} {x:Expr} (h:∀ δ,evT cx e δ = none):PT X x (tT X.K cx e):=fun pins s σ H Q I q=>by
 obtain ⟨G,F,δ,b,δ',ok,ev,post⟩:=q;rw [h] at ev;cases ev
theorem noE {X:Cx} {e:E} {x:Expr} (h:∀ δ,evE cx e δ = none):PE X x (tE X.K cx e):=fun pins s σ H Q I q=>by
 obtain ⟨G,F,δ,b,δ',ok,ev,post⟩:=q;rw [h] at ev;cases ev
mutual
theorem dO:∀ (e:E) (X:Cx) (c:Ck) (x:Expr),Cok X c cx k->ckE c e x = true->PE X x (tE X.K cx e)
 | .var i,X,c,x,C,h=>by
   obtain ⟨_,_,rfl,hq1⟩:=bp h;replace h:=hq1
   . obtain ⟨n1,n2,n3,n4⟩:=C.name h
     exact GP n1 n2 n3 n4
 | .pk i,X,c,x,C,h=>by
   obtain ⟨_,_,rfl,hq1⟩:=bp h;replace h:=hq1
   . obtain ⟨n1,n2,n3,n4⟩:=C.name h
     exact KC n1 n2 n3 n4
 | .glob g,X,c,x,C,h=>by
   obtain ⟨_,_,rfl,hq1⟩:=bp h;replace h:=hq1
   . rw [aa] at h;have e:=of_decide_eq_true h.1;obtain ⟨g1,g2,g3⟩:=C.global h.2;obtain ⟨d,hd⟩:=C.gsome g _ e;obtain ⟨u,v,hm,r,hr⟩:=C.glob g _ d e hd
     exact CC g1 hm r (fun d' hd'=>by rw [hd] at hd';cases hd';exact hr) g2
 | .int i,X,c,x,C,h=>by
   obtain ⟨_,_,_,rfl,hq1⟩:=jm h;obtain ⟨_,rfl,hq2⟩:=DS hq1;replace h:=hq2
   . have e:=of_decide_eq_true h;subst e;exact Ha
 | .bl i,X,c,x,C,h=>by
   obtain ⟨_,_,_,rfl,hq1⟩:=jm h;obtain ⟨_,rfl,hq2⟩:=DW hq1;replace h:=hq2
   . have e:=of_decide_eq_true h;subst e;exact KH
 | .non,X,c,x,C,h=>by
   obtain ⟨_,_,_,rfl,hq1⟩:=jm h;replace h:=hq1;have e:=EB h;subst e
   exact GW
 | .str i,X,c,x,C,h=>by
   obtain ⟨_,_,_,rfl,hq1⟩:=jm h;obtain ⟨_,rfl,hq2⟩:=DO hq1;replace h:=hq2
   . have e:=of_decide_eq_true h;subst e;exact GR
 | .bin op a b,X,c,x,C,h=>by
   obtain ⟨_,_,_,_,rfl,hq1⟩:=uJ h;replace h:=hq1
   . simp only [aa] at h;obtain ⟨⟨⟨h1,h2⟩,h3⟩,h4⟩:=h
     exact Hd h1 h4 (dO a X c _ C h2) (dO b X c _ C h3)
 | .cmp op a b,X,c,x,C,h=>by
   obtain ⟨_,_,_,_,rfl,hq1⟩:=ot h;obtain ⟨_,rfl,hq2⟩:=cY hq1;obtain ⟨_,rfl,hq3⟩:=cY hq2;replace h:=hq3
   . simp only [aa] at h;obtain ⟨⟨⟨h1,h2⟩,h3⟩,h4⟩:=h
     exact Hb C.units h1 h4 (dO a X c _ C h2) (dO b X c _ C h3) (qD (cn h3) _)
 | .and a b,X,c,x,C,h=>by
   obtain ⟨o,_,p,rfl,hq1⟩:=gh h;obtain ⟨y,r,rfl,hq2⟩:=cM hq1;obtain ⟨z,r2,rfl,hq3⟩:=cM hq2;simp only [aa] at hq3;obtain ⟨⟨⟨⟨h0,h1⟩,h2⟩,h3⟩,h4⟩:=hq3;cases o<;>first | (cases h0;done) | skip
   cases r2 with
   | nil=>exact snd_and h3 h4 (dO a X c _ C h1) (se (dO b X c _ C h2))
   | cons w r=>exact snd_and h3 h4 (dO a X c _ C h1) (dO b X c _ C h2)
 | .or a b,X,c,x,C,h=>by
   obtain ⟨o,_,p,rfl,hq1⟩:=gh h;obtain ⟨y,r,rfl,hq2⟩:=cM hq1;obtain ⟨z,r2,rfl,hq3⟩:=cM hq2;simp only [aa] at hq3;obtain ⟨⟨⟨⟨h0,h1⟩,h2⟩,h3⟩,h4⟩:=hq3;cases o<;>first | (cases h0;done) | skip
   cases r2 with
   | nil=>exact CA h3 h4 (dO a X c _ C h1) (se (dO b X c _ C h2))
   | cons w r=>exact CA h3 h4 (dO a X c _ C h1) (dO b X c _ C h2)
 | .not a,X,c,x,C,h=>by
   obtain ⟨o,_,_,rfl,hh⟩:=jF h;simp only [aa] at hh;obtain rfl:=oB hh.1.1
   exact GV hh.2 (dO a X c _ C hh.1.2)
 | .neg a,X,c,x,C,h=>by
   obtain ⟨o,_,_,rfl,hh⟩:=jF h;simp only [aa] at hh;obtain rfl:=EC hh.1.1
   exact GX hh.2 (dO a X c _ C hh.1.2)
 | .ssd a,X,c,x,C,h=>by
   obtain ⟨_,_,_,_,rfl,hq1⟩:=dP h;obtain ⟨_,rfl,hq2⟩:=cY hq1;obtain ⟨_,_,_,_,rfl,hq3⟩:=dP hq2;obtain ⟨_,rfl,hq4⟩:=cY hq3;replace h:=hq4
   . simp only [aa] at h;obtain ⟨⟨⟨⟨⟨h1,h2⟩,h3⟩,h4⟩,h5⟩,h6⟩:=h;have e1:=of_decide_eq_true h1;have e2:=of_decide_eq_true h2;subst e1 e2;obtain ⟨g1,g2,g3⟩:=C.global h3;obtain ⟨f1,f2,f3⟩:=C.global h4
     exact GS C g1 (C.blt _ (by decide +kernel)) g3 g2 f1 (C.blt _ (by decide +kernel)) f3 f2 h6 (dO a X c _ C h5) (cX (cn h5) _ _)
 | .maxd a n,X,c,x,C,h=>by
   obtain ⟨_,_,_,_,_,_,_,_,_,rfl,hq1⟩:=ym h;obtain ⟨_,rfl,hq2⟩:=DS hq1;replace h:=hq2
   . simp only [aa] at h;obtain ⟨⟨⟨⟨⟨h1,h2⟩,h3⟩,h4⟩,h5⟩,h6⟩:=h;have e1:=of_decide_eq_true h1;have e2:=of_decide_eq_true h2;have e3:=of_decide_eq_true h3;subst e1 e2 e3;obtain ⟨g1,g2,g3⟩:=C.global h4
     exact CB C.calm g1 (C.blt _ (by decide +kernel)) g3 g2 h6 (dO a X c _ C h5) (cX (cn h5) _ _)
 | .ite t a b,X,c,x,C,h=>by
   obtain ⟨_,_,_,_,rfl,hq1⟩:=yj h;replace h:=hq1
   . simp only [aa] at h;obtain ⟨⟨⟨⟨h1,h2⟩,h3⟩,h4⟩,h5⟩:=h
     exact GZ h4 h5 (jV t X c _ C h1) (dO a X c _ C h2) (dO b X c _ C h3)
 | .tup es,X,c,x,C,h=>by
   obtain ⟨_,_,_,rfl,hq1⟩:=fD h;replace h:=hq1
   . rw [aa] at h
     exact GQ h.2 (fq es X c _ C h.1 (gR h.2))
 | .lst es,X,c,x,C,h=>by
   obtain ⟨_,_,rfl,hq1⟩:=om h;replace h:=hq1
   . rw [aa] at h
     exact GY h.2 (fq es X c _ C h.1 (gR h.2))
 | .ix a b,X,c,x,C,h=>by
   obtain ⟨_,_,_,rfl,hq1⟩:=jk h;replace h:=hq1
   . simp only [aa] at h;obtain ⟨⟨⟨h1,h2⟩,h3⟩,h4⟩:=h
     exact KD h3 (dO a X c _ C h1) (dO b X c _ C h2) (IA (cn h2))
 | .sl a lo hi,X,c,x,C,h=>by
   obtain ⟨_,_,_,rfl,hh⟩:=jk h;obtain ⟨_,_,o,_,rfl,h9⟩:=yg hh;simp only [aa] at h9;obtain ⟨h0,⟨⟨h1,h2⟩,h3⟩,h4⟩:=h9;obtain rfl:=cL.mp h0
   exact KA (by simpa using h4) (dO a X c _ C h1) (Hg lo X c _ C h2) (Hg hi X c _ C h3)
 | .call f es,X,c,x,C,h=>(Fl C h fun xs h1 h2=>fq es X c xs C h1 h2).1
 | .blt f .nil,X,c,x,C,h=>(gk C h (fun e y z=>by cases z) fun xs h1 h2=>fq .nil X c xs C h1 h2).1
 | .blt f (.cons e .nil),X,c,x,C,h=>(gk C h (fun e' y z h1=>by cases z;exact dO e X c y C h1) fun xs h1 h2=>fq (.cons e .nil) X c xs C h1 h2).1
 | .blt f (.cons e (.cons e2 es)),X,c,x,C,h=>(gk C h (fun e' y z=>by cases z) fun xs h1 h2=>fq (.cons e (.cons e2 es)) X c xs C h1 h2).1
 | .bad,X,c,x,C,h=>noE fun δ=>rfl
 | .comp kk tg src ifs elt,X,c,x,C,h=>by
   obtain ⟨_,_,_,_,rfl,hq1⟩:=mP h;obtain ⟨_,rfl,hq2⟩:=cY hq1;obtain ⟨_,_,_,rfl,hq3⟩:=DT hq2;replace h:=hq3
   . split at h
     . rename_i ts ht;simp only [aa] at h;obtain ⟨⟨⟨⟨⟨⟨⟨⟨h1,h2⟩,h3⟩,h4⟩,h5⟩,h6⟩,h7⟩,h8⟩,h9⟩:=h;have nd:=(lq h4).1
       exact CD C h9 (lJ (tg:=tg) (of_decide_eq_true h1)) h2 h3 h4 (fun cl Ca s H fp=>nH (gw C h3 nd cl Ca s H fp) h5) (KL src X c _ _ C h6)
        (fun cl Ca s H fp=>Nq ifs _ _ _ (gw C h3 nd cl Ca s H fp) h7) (fun cl Ca s H fp=>dO elt _ _ _ (gw C h3 nd cl Ca s H fp) h8) (fun v=>tj h6 _ v)
     . cases h
theorem jV:∀ (e:E) (X:Cx) (c:Ck) (x:Expr),Cok X c cx k->ckE c e x = true->PT X x (tT X.K cx e)
 | .var i,X,c,x,C,h=>by
   obtain ⟨_,_,rfl,hq1⟩:=bp h;replace h:=hq1
   . obtain ⟨n1,n2,n3,n4⟩:=C.name h
     exact ub (.inl rfl) n1 n2 n3 n4
 | .pk i,X,c,x,C,h=>by
   obtain ⟨_,_,rfl,hq1⟩:=bp h;replace h:=hq1
   . obtain ⟨n1,n2,n3,n4⟩:=C.name h
     exact ub (.inr rfl) n1 n2 n3 n4
 | .cmp op a b,X,c,x,C,h=>by
   obtain ⟨_,_,_,_,rfl,hq1⟩:=ot h;obtain ⟨_,rfl,hq2⟩:=cY hq1;obtain ⟨_,rfl,hq3⟩:=cY hq2;replace h:=hq3
   . simp only [aa] at h;obtain ⟨⟨⟨h1,h2⟩,h3⟩,h4⟩:=h
     exact CH C.units h1 h4 (dO a X c _ C h2) (dO b X c _ C h3) (qD (cn h3) _)
 | .and a b,X,c,x,C,h=>by
   obtain ⟨o,_,p,rfl,hq1⟩:=gh h;obtain ⟨y,r,rfl,hq2⟩:=cM hq1;obtain ⟨z,r2,rfl,hq3⟩:=cM hq2;simp only [aa] at hq3;obtain ⟨⟨⟨⟨h0,h1⟩,h2⟩,h3⟩,h4⟩:=hq3;cases o<;>first | (cases h0;done) | skip
   cases r2 with
   | nil=>exact uc (jV a X c _ C h1) (xW (jV b X c _ C h2))
   | cons w r=>exact uc (jV a X c _ C h1) (PT.pw (jV b X c _ C h2))
 | .or a b,X,c,x,C,h=>by
   obtain ⟨o,_,p,rfl,hq1⟩:=gh h;obtain ⟨y,r,rfl,hq2⟩:=cM hq1;obtain ⟨z,r2,rfl,hq3⟩:=cM hq2;simp only [aa] at hq3;obtain ⟨⟨⟨⟨h0,h1⟩,h2⟩,h3⟩,h4⟩:=hq3;cases o<;>first | (cases h0;done) | skip
   cases r2 with
   | nil=>exact xM (jV a X c _ C h1) (Dp (jV b X c _ C h2))
   | cons w r=>exact xM (jV a X c _ C h1) (PT.pw (jV b X c _ C h2))
 | .not a,X,c,x,C,h=>by
   obtain ⟨o,_,_,rfl,hh⟩:=jF h;simp only [aa] at hh;obtain rfl:=oB hh.1.1
   exact CG (jV a X c _ C hh.1.2)
 | .call f es,X,c,x,C,h=>mM (es:=es) (f:=cx.call f) (Fl C h fun xs h1 h2=>fq es X c xs C h1 h2).1 (Fl C h fun xs h1 h2=>fq es X c xs C h1 h2).2 rfl (fun δ=>rfl) fun δ=>by rw [evT]
 | .blt f .nil,X,c,x,C,h=>mM (es:=.nil) (f:=ju f) (gk C h (fun e y z=>by cases z) fun xs h1 h2=>fq .nil X c xs C h1 h2).1 (gk C h (fun e y z=>by cases z) fun xs h1 h2=>fq .nil X c xs C h1 h2).2 rfl (fun δ=>rfl) fun δ=>by rw [evT]
 | .blt f (.cons e .nil),X,c,x,C,h=>mM (es:=.cons e .nil) (f:=ju f) (gk C h (fun e' y z h1=>by cases z;exact dO e X c y C h1) fun xs h1 h2=>fq (.cons e .nil) X c xs C h1 h2).1 (gk C h (fun e' y z h1=>by cases z;exact dO e X c y C h1) fun xs h1 h2=>fq (.cons e .nil) X c xs C h1 h2).2 rfl (fun δ=>rfl) fun δ=>by rw [evT]
 | .blt f (.cons e (.cons e2 es)),X,c,x,C,h=>mM (es:=.cons e (.cons e2 es)) (f:=ju f) (gk C h (fun e' y z=>by cases z) fun xs h1 h2=>fq (.cons e (.cons e2 es)) X c xs C h1 h2).1 (gk C h (fun e' y z=>by cases z) fun xs h1 h2=>fq (.cons e (.cons e2 es)) X c xs C h1 h2).2 rfl (fun δ=>rfl) fun δ=>by rw [evT]
 | .glob _,X,c,x,C,h=>noT fun δ=>rfl
 | .int _,X,c,x,C,h=>noT fun δ=>rfl
 | .bl _,X,c,x,C,h=>noT fun δ=>rfl
 | .non,X,c,x,C,h=>noT fun δ=>rfl
 | .str _,X,c,x,C,h=>noT fun δ=>rfl
 | .neg _,X,c,x,C,h=>noT fun δ=>rfl
 | .ssd _,X,c,x,C,h=>noT fun δ=>rfl
 | .maxd _ _,X,c,x,C,h=>noT fun δ=>rfl
 | .bin ..,X,c,x,C,h=>noT fun δ=>rfl
 | .ite ..,X,c,x,C,h=>noT fun δ=>rfl
 | .tup _,X,c,x,C,h=>noT fun δ=>rfl
 | .lst _,X,c,x,C,h=>noT fun δ=>rfl
 | .ix ..,X,c,x,C,h=>noT fun δ=>rfl
 | .sl ..,X,c,x,C,h=>noT fun δ=>rfl
 | .bad,X,c,x,C,h=>noT fun δ=>rfl
 | .comp ..,X,c,x,C,h=>noT fun δ=>rfl
theorem fq:∀ (es:Es) (X:Cx) (c:Ck) (xs:List Expr),Cok X c cx k->ik c es xs = true->pM es = true->PA X xs (tEs X.K cx es)
 | .nil,X,c,xs,C,h,_=>by
   obtain ⟨rfl,hq1⟩:=dI h;replace h:=hq1
   . exact rA
 | .cons e es,X,c,xs,C,h,ho=>by
   obtain ⟨_,_,rfl,hq1⟩:=cM h;replace h:=hq1
   . rw [aa] at h;have ho':((!bJ e || npS es) && pM es) = true:=ho;rw [aa] at ho';exact nI ho'.1 (dO e X c _ C h.1) (fq es X c _ C h.2 ho'.2) (cX (cn h.1) _ _)
theorem Hg:∀ (o:Eo) (X:Cx) (c:Ck) (l:Option Expr),Cok X c cx k->ckO c o l = true->PO X l (tO X.K cx o)
 | .no,X,c,l,C,h=>by
   obtain rfl:=cL.mp h
   exact Ji (fun e z=>by cases z) fun _=>rfl
 | .yes e,X,c,l,C,h=>by
   obtain ⟨_,rfl,hq1⟩:=sg h;replace h:=hq1
   . rw [aa] at h;have q:=dO e X c _ C h.1;exact Ji (fun e' z=>by cases z;exact ⟨_,rfl,h.2,q⟩) fun z=>by cases z
theorem Nq:∀ (o:Eo) (X:Cx) (c:Ck) (l:List Expr),Cok X c cx k->ckG c o l = true->PTs X l (tG X.K cx o)
 | .no,X,c,l,C,h=>by
   obtain ⟨rfl,hq1⟩:=dI h;replace h:=hq1
   . intro pins s σ H Q I q;obtain ⟨G,F,δ,b,δ',ok,ev,post⟩:=q;simp only [evG] at ev;cases ev
     exact Hy pins s σ H Q I (post H F Step.refl (fun _=>Sim.refl H) ok)
 | .yes e,X,c,l,C,h=>by
   obtain ⟨_,rfl,hq1⟩:=cY h;replace h:=hq1
   . have q:=Hx (jV e X c _ C h);intro pins s σ H Q I z;obtain ⟨G,F,δ,b,δ',ok,ev,post⟩:=z;simp only [evG] at ev;exact q pins s σ H Q I ⟨G,F,δ,b,δ',ok,ev,post⟩
theorem KL:∀ (t:It) (X:Cx) (c:Ck) (x tg:Expr),Cok X c cx k->ckI c t x = true->PI X tg x (tI X.K cx t)
 | .rng e,X,c,x,tg,C,h=>by
   obtain ⟨_,_,_,_,rfl,hq1⟩:=dP h;obtain ⟨_,rfl,hq2⟩:=cY hq1;replace h:=hq2
   . simp only [aa] at h;obtain ⟨⟨⟨h1,h2⟩,h3⟩,h4⟩:=h;have z:=of_decide_eq_true h1;subst z
     exact GU h4 (C.global h2).1 (C.blt _ (by decide +kernel)) (dO e X c _ C h3) (cX (cn h3) _ _)
 | .sq e,X,c,x,tg,C,h=>by
   have h:(ckE c e x && !bJ e) = true:=h;rw [aa] at h;exact Kz h.2 (dO e X c x C h.1)
end
end
noncomputable def qR (K:PySem.W.Frag) (G:Gh) (F:Addr->Prop) (H:Hp) (o:Out) (E:Ends):Prop:=match o with
 | .nx δ'=>∀ σ' H' F',Step G F H F' H'->Ok K G F' σ' H' δ'->E.nx σ' H'
 | .rt d δ'=>∀ v σ' H' F',Step G F H F' H'->Ok K G F' σ' H' δ'->Rel K H' F' d v->E.rt v H'
 | .bk δ'=>∀ σ' H' F',Step G F H F' H'->Ok K G F' σ' H' δ'->E.bk σ' H'
 | .ct δ'=>∀ σ' H' F',Step G F H F' H'->Ok K G F' σ' H' δ'->E.ct σ' H'
 | .ro d δ'=>∀ a u σ' H' F',Step G F H F' H'->Ok K G F' σ' H' δ'->F' a->G.free a->H' a = some u->fP K H' F' d u->E.rt (.ref a) H'
noncomputable def tS (K:PySem.W.Frag) (ev:Loc->Option Out):TS:=fun E σ H=>∃ G F δ o,Ok K G F σ H δ/\ev δ = some o/\qR K G F H o E
theorem qR.step {K:PySem.W.Frag} {G:Gh} {F F1:Addr->Prop} {H H1:Hp} {o:Out} {E:Ends} (st:Step G F H F1 H1) (h:qR K G F H o E):qR K G F1 H1 o E:=by
 cases o with
 | nx δ=>exact fun σ' H' F' s k=>h σ' H' F' (st.trans s) k
 | rt d δ=>exact fun v σ' H' F' s k r=>h v σ' H' F' (st.trans s) k r
 | bk δ=>exact fun σ' H' F' s k=>h σ' H' F' (st.trans s) k
 | ct δ=>exact fun σ' H' F' s k=>h σ' H' F' (st.trans s) k
 | ro ds δ=>exact fun a xs σ' H' F' s k=>h a xs σ' H' F' (st.trans s) k
theorem Cw {env:Env} {x z:Str} {px pz pt pt2:Pos} {kt k2} {a b:Expr} (hB:env.blockKind = .function) (hx:env.scope.names.lookup x = some .local) (hz:env.scope.names.lookup z = some .local) (hn:x≠z) (hl:px.line = pz.line) (ha:dY a = true) (hb:dY b = true) (hf:(foldedForSure 8 a && foldedForSure 8 b) = false) (hc:(constantsAlone 8 a && constantsAlone 8 b) = false) :
 swappedStores [.Tuple [.Name x px,.Name z pz] kt pt] (.Tuple [a,b] k2 pt2) env = pure (some [x,z]):=by
 have sa:∀ a:Expr,dY a = true->(match a with | .Starred .. => true | _=>false) = false:=fun a h=>by
  cases a<;>first | rfl | (exact absurd h ah)
 have k1:env.kindOf x = some .local:=hx;have k2:env.kindOf z = some .local:=hz;have e1:((env.blockKind != .function):Bool) = false:=by rw [hB];rfl
 have s1:=sa a ha;have s2:=sa b hb;have l1:(pz.line == px.line) = true:=by rw [hl];exact beq_self_eq_true _
 have n1:(z == x) = false:=by rw [beq_eq_false_iff_ne];exact hn.symm
 have d1:([x,z].eraseDups.length != [x,z].length) = false:=by
  rw [Bd];simp [n1,Bd]
 unfold swappedStores;simp only [ax,aH,tH,List.any_nil,e1,s1,s2,List.head?_cons,cJ,Bg,cK,List.filterMap_nil,k1,k2,Expr.pos,l1,beq_self_eq_true,dH,ite_true,d1,eH,iX,iD,hf,hc,Bool.or_false,Bool.or_self,vG,bK,bne_self_eq_false,↓reduceIte,aG,pure_bind];refine (if_neg ?_).trans (if_neg ?_)
 . exact ne_true_of_eq_false (zj.mpr ⟨s1,s2⟩)
 . rw [Bool.false_or];exact ne_true_of_eq_false d1
section
variable {X:Cx} {c:Ck} {cx:Cl} {k:Nat}
theorem PS.imp {s:Stmt} {t t':TS} (h:PS X s t) (w:∀ E σ H,t' E σ H->t E σ H):PS X s t':=fun pins s σ H E I q=>h pins s σ H E I (w E σ H q)
theorem PSs.imp {s:List Stmt} {t t':TS} (h:PSs X s t) (w:∀ E σ H,t' E σ H->t E σ H):PSs X s t':=fun pins s σ H E I q=>h pins s σ H E I (w E σ H q)
theorem ud:PSs X [] (tS X.K (dk cx .nil)):=PSs.imp kC fun E σ H zz=>by
 obtain ⟨G,F,δ,o,ok,ev,post⟩:=zz;simp only [dk] at ev;cases ev;exact post σ H F Step.refl ok
theorem kX {s:S} {ss:Ss} {y:Stmt} {ys:List Stmt} (h1:PS X y (tS X.K (evS cx s))) (h2:PSs X ys (tS X.K (dk cx ss))):PSs X (y::ys) (tS X.K (dk cx (.cons s ss))):=PSs.imp (ji h1 h2) fun E σ H zz=>by
 obtain ⟨G,F,δ,o,ok,ev,post⟩:=zz;simp only [dk] at ev
 cases e:evS cx s δ with
 | none=>rw [e] at ev;cases ev
 | some o1 =>
   rw [e] at ev
   cases o1 with
   | nx δ1=>exact ⟨G,F,δ,.nx δ1,ok,e,fun σ' H' F' st ok'=>⟨G,F',δ1,o,ok',ev,post.step st⟩⟩
   | rt d δ1=>cases ev;exact ⟨G,F,δ,_,ok,e,post⟩
   | bk δ1=>cases ev;exact ⟨G,F,δ,_,ok,e,post⟩
   | ct δ1=>cases ev;exact ⟨G,F,δ,_,ok,e,post⟩
   | ro d δ1=>cases ev;exact ⟨G,F,δ,_,ok,e,post⟩
theorem Fs {tg:Tg} {e:E} {δ:Loc} {o:Out} (ev:evS cx (.asg tg e) δ = some o):∃ d δ1 δ2,evE cx e δ = some (d,δ1)/\eV δ1 tg d = some δ2/\o = .nx δ2:=by
 simp only [evS,aj,ag] at ev;obtain ⟨⟨d,δ1⟩,e1,δ2,e2,e3⟩:=ev;cases e3;exact ⟨d,δ1,δ2,e1,e2,rfl⟩
theorem My {tg:Tg} {e:E} (n:(!bJ e) = true) {E:Ends} {σ:L2.St} {H:Hp} (h:tS X.K (evS cx (.asg tg e)) E σ H):GK (tE X.K cx e) (gTg X.K tg) E σ H:=by
 obtain ⟨G,F,δ,o,ok,ev,post⟩:=h;obtain ⟨d,δ1,δ2,e1,e2,rfl⟩:=Fs ev;exact ⟨G,F,δ,d,δ1,ok,e1,fun v H1 F1 st sm ok1 r=>mJ ok1 (dX n r) e2 fun σ' ok2 _=>post σ' H1 F1 st ok2⟩
theorem CT (C:Cok X c cx k) {tg:Tg} {e:E} {t y:Expr} {pos:Pos} (hm:(isNm t || !Ir y) = true) (h:sY c tg t = true) (hy:ckE c e y = true) (n:(!bJ e) = true) (nc:(!gF y) = true) (he:PE X y (tE X.K cx e)):PS X (.Assign [t] y pos) (tS X.K (evS cx (.asg tg e))):=by
 have hh:=cn hy;have nc':gF y = false:=by simpa using nc
 have hs:swapsWithSole [t] y pos.line X.env = pure false:=gH hh nc' _ _ _
 have hw:swappedStores [t] y X.env = pure none:=by
  rcases nB h with ⟨_,_,rfl⟩ | ⟨_,_,_,rfl⟩
  . cases y<;>first | rfl | (exact absurd hh ah)
  . cases y<;>first | rfl | (exact absurd hm ah) | (exact absurd hh ah)
 have h1:(assignEach [t] X.env).map (·.2) = [assign t X.env]:=by
  rcases nB h with ⟨_,_,rfl⟩ | ⟨_,_,_,rfl⟩<;>rfl
 exact PS.imp (DA he (nH C h) hs hw h1) fun E σ H h=>My n h
theorem Ks {α β:Type} {i j:α} {ds:List β} (h:[i,j].length = ds.length):∃ a b,ds = [a,b]:=by
 cases ds with
 | nil=>cases h
 | cons a ds =>
   cases ds with
   | nil=>cases h
   | cons b ds =>
     cases ds with
     | nil=>exact ⟨a,b,rfl⟩
     | cons c ds=>cases h
theorem CJ (C:Cok X c cx k) (hS:X.env.scope = c.sc) (hB:X.env.blockKind = .function) {i j:Nat} {es:Es} {t y:Expr} {pos:Pos} (h:NC c i j es t y = true) (hA:∀ a b,ik c es [a,b] = true->iJ es = true->PA X [a,b] (tEs X.K cx es)):PS X (.Assign [t] y pos) (tS X.K (evS cx (.asg (.tp [i,j]) (.tup es)))):=by
 obtain ⟨_,_,_,rfl,h1⟩:=fD h;obtain ⟨_,_,rfl,h2⟩:=jX h1;obtain ⟨x,px,rfl,h3⟩:=sh h2;obtain ⟨z,pz,rfl,h4⟩:=sh h3;obtain ⟨_,_,_,rfl,h5⟩:=fD h4;obtain ⟨a,b,rfl,h6⟩:=jX h5;clear h h1 h2 h3 h4 h5;have h:=h6;clear h6;simp only [aa,decide_eq_true_eq,lX] at h;obtain ⟨⟨⟨⟨⟨⟨⟨⟨⟨h1,h2⟩,h3⟩,h4⟩,h5⟩,h6⟩,h7⟩,h8⟩,h9⟩,h10⟩:=h;rw [<- C.hN] at h1 h2;rw [<- hS] at h3 h4;obtain ⟨_,_,_,c1,c2⟩:=fO h7;obtain ⟨_,_,_,c3,_⟩:=fO c2;refine PS.imp (La C.calm C.nd' h1 h2 (fun w=>h5 ?_) h3 h4 (hA a b h7 h8) (Cw hB h3 h4 h5 h6 (cn c1) (cn c3) h9 h10)) fun E σ H ⟨G,F,δ,o,ok,ev,post⟩=>?_
 . rw [w] at h1;exact aM (h1.symm.trans h2)
 obtain ⟨d,δ1,δ2,e1,e2,rfl⟩:=Fs ev;simp only [evE,aj,ag] at e1;obtain ⟨⟨ds,δ3⟩,ea,e3⟩:=e1;split at e3
 . cases e3;unfold eV at e2;dsimp only at e2;split at e2
   . rename_i hh;cases e2;refine ⟨G,F,δ,ds,_,ok,ea,fun vs H1 F1 st sm ok1 r=>?_⟩;have r:=r.rl h8;obtain ⟨d1,d2,rfl⟩:=Ks hh.1;have q:=hh.2;simp only [eH,iX,iD,aa,decide_eq_true_eq] at q;obtain ⟨v1,vs1,rfl,r1,q1⟩:=r;obtain ⟨v2,vs2,rfl,r2,q2⟩:=q1;obtain rfl:vs2 = []:=q2;exact ⟨v1,v2,rfl,post _ H1 F1 st ((ok1.set q.1 r1).set (by rw [aW];exact q.2) r2)⟩
   . cases e2
 . cases e3
noncomputable def tN (K:PySem.W.Frag) (cx:Cl) (e:E):TE:=fun σ H Q=>∃ G F δ ds δ',Ok K G F σ H δ/\evE cx e δ = some (.lst ds,δ') /\
 ∀ p xs H1 F1,Step G F H F1 H1->Ok K G F1 σ H1 δ'->H1 p = none->aF K H1 F1 ds xs->Q (.ref p) (upd H1 p (.lst xs))
theorem HL {K:PySem.W.Frag} {G:Gh} {F1:Addr->Prop} {σ:L2.St} {H1:Hp} {δ1:Loc} {i:Nat} {p:Addr} {ds:List D} {xs:List V} (ok1:Ok K G F1 σ H1 δ1) (hp:H1 p = none) (rl:aF K H1 F1 ds xs) (hi:i < δ1.length) :
 Ok K G (fun b=>F1 b\/b = p) (σ.set i (some (.ref p))) (upd H1 p (.lst xs)) (δ1.set i (.own ds))/\Step G F1 H1 (fun b=>F1 b\/b = p) (upd H1 p (.lst xs)):=by
 obtain ⟨o1,o2⟩:=ok1.enter hp xs;refine ⟨(o1.keep).own hi (.inr rfl) (ok1.free hp) cg (aF.step ok1.fd o2 ds xs rl) fun j s e ho z=>?_,o2⟩;obtain ⟨a,u,d,e1,_,_,e2,_⟩:=eK.ow (ok1.sl j _ e) ho;rw [z] at e1;cases e1;rw [hp] at e2;cases e2
theorem CK (C:Cok X c cx k) {i:Nat} {e:E} {t:Str} {y:Expr} {pos p2:Pos} (h:fj c i t = true) (hy:ckE c e y = true) (nc:(!gF y) = true) (he:PE X y (tN X.K cx e)):PS X (.Assign [.Name t p2] y pos) (tS X.K (evS cx (.new i e))):=by
 obtain ⟨n1,n2,n3⟩:=C.to h;have nc':gF y = false:=by simpa using nc
 refine PS.imp (rW C.nd' n1 n2 he (gH (cn hy) nc' _ _ _) n3) fun E σ H zz=>?_;obtain ⟨G,F,δ,o,ok,ev,post⟩:=zz;simp only [evS,aj,ag] at ev;obtain ⟨⟨d,δ1⟩,e1,ev⟩:=ev
 cases d with
 | lst ds =>
   dsimp only at ev;split at ev
   . cases ev;refine ⟨G,F,δ,ds,δ1,ok,e1,fun p xs H1 F1 st ok1 hp rl=>?_⟩;obtain ⟨o1,o2⟩:=HL ok1 hp rl ‹_›;exact post _ _ _ (st.trans o2) o1
   . cases ev
 | _=>cases ev
theorem Dc {es:Es} {xs:List Expr} {pos:Pos} (n:iJ es = true) (h:PA X xs (tEs X.K cx es)):PE X (.List xs pos) (tN X.K cx (.lst es)):=by
 refine PE.imp (DG h) fun σ H Q h=>?_;obtain ⟨G,F,δ,d,δ',ok,ev,post⟩:=h;simp only [evE,aj,ag] at ev;obtain ⟨⟨ds,δ1⟩,ea,ev⟩:=ev;split at ev
 . rename_i hz;cases ev;refine ⟨G,F,δ,ds,δ1,ok,ea,fun vs H1 F1 st1 sm1 ok1 r1=>?_⟩;have r:=r1.rl n;exact ⟨by rw [r.length];exact hz,fun p hp=>post p vs H1 F1 st1 ok1 hp r⟩
 . cases ev
theorem Af (C:Cok X c cx k) {es:Es} {p pos:Pos} {y:Expr} {ys:List Expr} (hg:dM c (qK .toLst) = true) (hA:PA X (y::ys) (tEs X.K cx es)) (h:ik c es (y::ys) = true):PE X (.Call (.Name (qK .toLst) p) (y::ys) [] pos) (tN X.K cx (.blt .toLst es)):=by
 obtain ⟨g1,g2,g3⟩:=C.global hg;obtain ⟨e,es',rfl,h1,h2⟩:=fO h;have he:=cX (cn h1) ys X.env;have hpl:=ie (env:=X.env) (pos:=pos) h2;refine PE.imp (ig kL g1 (C.blt _ (by decide +kernel)) rfl hA g3 g2 he hpl) fun σ H Q h=>?_;obtain ⟨G,F,δ,ds,δ',ok,ev,post⟩:=h;simp only [evE] at ev;obtain ⟨zs,ea,hd⟩:=yQ ev;refine ⟨G,F,δ,zs,δ',ok,ea,fun vs H1 F1 st1 sm1 ok1 r1=>?_⟩;have r:=r1.bl;change kU zs = some (D.lst ds) at hd;unfold kU at hd;split at hd
 . cases hd;obtain ⟨v,rfl,r9⟩:=b1 r;obtain ⟨a,ws,rfl,h1,h2⟩:=r9.lst;exact ⟨a,ws,rfl,.inl h1.sq,fun l hl=>post l ws H1 F1 st1 ok1 hl h2⟩
 . cases hd;obtain ⟨v,rfl,r9⟩:=b1 r;obtain ⟨a,ws,rfl,h1,h2⟩:=r9.tup;exact ⟨a,ws,rfl,.inr h1,fun l hl=>post l ws H1 F1 st1 ok1 hl h2⟩
 . cases hd
theorem Hh {a:E} {lo hi:Eo} {y:Expr} {l h:Option Expr} {pos p2:Pos} (pc:(!bJ a || (npO lo && npO hi)) = true) (ha:PE X y (tE X.K cx a)) (hl:PO X l (tO X.K cx lo)) (hh:PO X h (tO X.K cx hi)):PE X (.Subscript y (.Slice l h none p2) pos) (tN X.K cx (.sl a lo hi)):=by
 refine PE.imp (uC xN ha hl hh) fun σ H Q h=>?_;obtain ⟨G,F,δ,ds,δ',ok,ev,post⟩:=h;simp only [evE,aj,ag] at ev;obtain ⟨⟨x,δ1⟩,ea,⟨l',δ2⟩,eb,⟨h',δ3⟩,ec,d',hd,e⟩:=ev;cases e;dsimp only at eb ec hd post;refine ⟨G,F,δ,x,δ1,ok,ea,fun v H1 F1 st1 sm1 ok1 r1=>⟨G,F1,δ1,l',δ2,ok1,eb,fun H2 F2 st2 sm2 ok2=>⟨G,F2,δ2,h',δ3,ok2,ec,fun H3 F3 st3 sm3 ok3=>?_⟩⟩⟩;have st:=st2.trans st3
 have rb:dt X.K H3 F3 x v:=by
  refine (RelM.step ok1.fd st (fun z=>?_) r1).b;rw [z] at pc;have pc':(npO lo && npO hi) = true:=by simpa using pc
  rw [aa] at pc';exact (sm2 pc'.1).trans (sm3 pc'.2)
 unfold slD at hd;split at hd
 . cases hd;obtain ⟨p,xs,e1,h1,h2⟩:=rb.lst;exact ⟨p,xs,e1,h1.sq,fun q hq=>post q _ H3 F3 (st1.trans st) ok3 hq (h2.cut l' h')⟩
 . split at hd
   . cases hd
   . cases hd
 . split at hd
   . cases hd
   . cases hd
 . cases hd
end
section
variable {X:Cx} {c:Ck} {cx:Cl} {k:Nat}
theorem Lc {op:Operator} {t t':TIp} (h:PIp X op t) (h':PIp X op t'):PIp X op (fun x y H Q=>t x y H Q\/t' x y H Q):=fun pins s σ H x y v u Q I r1 r2 q=>q.elim (h pins s σ H x y v u Q I r1 r2) (h' pins s σ H x y v u Q I r1 r2)
theorem CS (C:Cok X c cx k) {i:Nat} {op:Op} {o:Operator} {e:E} {t:Str} {y:Expr} {pos p2:Pos} (h:fj c i t = true) (ho:HU op o = true) (n:(!bJ e) = true) (he:PE X y (tE X.K cx e)):PS X (.AugAssign (.Name t p2) o y pos) (tS X.K (evS cx (.aug i op e))):=by
 obtain ⟨n1,n2,n3⟩:=C.to h
 have inv:∀ {δ:Loc} {out:Out},evS cx (.aug i op e) δ = some out->∃ x y δ1 z,δ[i]? = some (.val x)/\evE cx e δ = some (y,δ1)/\out = .nx (δ1.set i (.val z))/\((op = .add/\AW x y = some z)\/(op = .sub/\zW x y = some z)):=by
  intro δ out ev;simp only [evS] at ev
  cases q:δ[i]? with
  | none=>rw [q] at ev;cases ev
  | some s =>
    rw [q] at ev
    cases s with
    | no=>cases ev
    | fnc _ _=>cases ev
    | odc _ _=>cases ev
    | own _=>cases ev
    | val x =>
      simp only [aj,ag] at ev;obtain ⟨⟨d,δ1⟩,e1,ev⟩:=ev;dsimp only at ev
      cases op with
      | add =>
        obtain ⟨z,h1,h2⟩:=aE.mp ev
        exact ⟨x,d,δ1,z,rfl,e1,h2.symm,.inl ⟨rfl,h1⟩⟩
      | sub =>
        obtain ⟨z,h1,h2⟩:=aE.mp ev
        exact ⟨x,d,δ1,z,rfl,e1,h2.symm,.inr ⟨rfl,h1⟩⟩
      | _=>cases ev
 cases op with
 | add =>
   cases o<;>first | (exact absurd ho ah) | skip
   refine PS.imp (Dz C.nd' n1 n2 he (Lc LY Iz) n3) fun E σ H zz=>?_;obtain ⟨G,F,δ,out,ok,ev,post⟩:=zz;obtain ⟨x,y,δ1,z,e1,e2,rfl,⟨_,e3⟩ | ⟨z,_⟩⟩:=inv ev
   . obtain ⟨v,ev,r⟩:=ok.sl i _ e1;refine ⟨_,ev,G,F,δ,_,δ1,ok,e2,fun u H1 F1 st sm ok1 r1=>?_⟩;have hi:i < δ1.length:=by rw [ok1.len,<- ok.len];exact (aB.mp e1).1
     have ra:Rel X.K H1 F1 x v:=Rel.step ok.fd st x v r;have rb:=dX n r1;unfold AW at e3;split at e3
     . cases e3;unfold Rel at ra rb;subst ra rb;exact .inl ⟨_,_,rfl,rfl,post _ H1 F1 st (ok1.set hi (dh _))⟩
     . split at e3
       . rename_i q;cases e3;obtain ⟨p1,xs1,e1,s1,l1⟩:=dt.tup (.inl ra);obtain ⟨p2,xs2,e2,s2,l2⟩:=dt.tup (.inl rb);subst e1;subst e2;refine .inr ⟨p1,p2,xs1,xs2,rfl,rfl,s1,s2,fun z=>?_,by rw [l1.length,l2.length];exact q,fun z=>?_,fun _ p hp=>?_⟩
         . have:=l1.length;rw [z] at this;cases this
         . refine post _ H1 F1 st (ok1.set hi ?_);have e:∀ {ys:List D},aF X.K H1 F1 ys xs2->ys = []:=fun {ys} r=>by have:=r.length;rw [z] at this;exact dc.mp this.symm
           have:=e l2;subst this;rw [cc];exact ra
         . obtain ⟨o1,o2,o3,o4⟩:=ok1.laid hp (.tup (xs1++xs2));exact post _ _ F1 (st.trans o2) (o1.set hi (gD ok1 hp (l1.append l2)))
       . cases e3
     . cases e3
   . cases z
 | sub =>
   cases o<;>first | (exact absurd ho ah) | skip
   refine PS.imp (Dz C.nd' n1 n2 he LX n3) fun E σ H zz=>?_;obtain ⟨G,F,δ,out,ok,ev,post⟩:=zz;obtain ⟨x,y,δ1,z,e1,e2,rfl,⟨z,_⟩ | ⟨_,e3⟩⟩:=inv ev
   . cases z
   . obtain ⟨v,ev,r⟩:=ok.sl i _ e1;unfold zW at e3;split at e3
     . cases e3;unfold Rel at r;subst r;refine ⟨_,ev,G,F,δ,_,δ1,ok,e2,fun u H1 F1 st sm ok1 r1=>?_⟩;have:=r1.b.int;subst this;exact ⟨_,_,rfl,rfl,post _ H1 F1 st (ok1.set (by rw [ok1.len,<- ok.len];exact (aB.mp e1).1) (dh _))⟩
     . cases e3
 | _ =>
   refine PS.imp Du fun E σ H zz=>?_;obtain ⟨G,F,δ,out,ok,ev,post⟩:=zz;obtain ⟨_,_,_,_,_,_,_,⟨z,_⟩ | ⟨z,_⟩⟩:=inv ev
   . cases z
   . cases z
theorem CI {e:E} {y:Expr} {pos:Pos} (n:(!bJ e) = true) (he:PE X y (tE X.K cx e)):PS X (.Return (some y) pos) (tS X.K (evS cx (.ret e))):=PS.imp (KZ he) fun E σ H zz=>by
 obtain ⟨G,F,δ,out,ok,ev,post⟩:=zz;simp only [evS,aj,ag] at ev;obtain ⟨⟨d,δ1⟩,e1,ev⟩:=ev;cases ev;exact ⟨G,F,δ,d,δ1,ok,e1,fun v H1 F1 st sm ok1 r=>post v σ H1 F1 st ok1 (dX n r)⟩
theorem Aa {pos:Pos}:PS X (.Return none pos) (tS X.K (evS cx .retN)):=PS.imp HA fun E σ H zz=>by
 obtain ⟨G,F,δ,out,ok,ev,post⟩:=zz;simp only [evS] at ev;cases ev;exact post .non σ H F Step.refl ok rP
theorem CM {t:E} {a b:Ss} {y:Expr} {ya yb:List Stmt} {pos:Pos} (ht:PT X y (tT X.K cx t)) (ha:PSs X ya (tS X.K (dk cx a))) (hb:PSs X yb (tS X.K (dk cx b))):PS X (.If y ya yb pos) (tS X.K (evS cx (.ifs t a b))):=PS.imp (Dw ht ha hb) fun E σ H zz=>by
 obtain ⟨G,F,δ,out,ok,ev,post⟩:=zz;simp only [evS,aj,ag] at ev;obtain ⟨⟨q,δ1⟩,e1,ev⟩:=ev;refine ⟨G,F,δ,q,δ1,ok,e1,fun H1 F1 st sm ok1=>?_⟩
 cases q with
 | true=>exact oz ⟨G,F1,δ1,out,ok1,ev,post.step st⟩
 | false=>exact pO ⟨G,F1,δ1,out,ok1,ev,post.step st⟩
theorem Ab {pos:Pos}:PS X (.Pass pos) (tS X.K (evS cx .pass)):=PS.imp HB fun E σ H zz=>by
 obtain ⟨G,F,δ,out,ok,ev,post⟩:=zz;simp only [evS] at ev;cases ev;exact post σ H F Step.refl ok
theorem CP {pos:Pos}:PS X (.Break pos) (tS X.K (evS cx .brk)):=PS.imp Dy fun E σ H zz=>by
 obtain ⟨G,F,δ,out,ok,ev,post⟩:=zz;simp only [evS] at ev;cases ev;exact post σ H F Step.refl ok
theorem Ad {pos:Pos}:PS X (.Continue pos) (tS X.K (evS cx .cont)):=PS.imp uz fun E σ H zz=>by
 obtain ⟨G,F,δ,out,ok,ev,post⟩:=zz;simp only [evS] at ev;cases ev;exact post σ H F Step.refl ok
theorem CN (C:Cok X c cx k) {tg:Tg} {src:It} {body:Ss} {t it:Expr} {ys:List Stmt} {pos:Pos} (htg:sY c tg t = true) (hI:PI X t it (tI X.K cx src)) (hset:∀ v,foldedSetIterable it X.env v = pure v) (hb:PSs X ys (tS X.K (dk cx body))):PS X (.For t it ys [] pos) (tS X.K (evS cx (.for_ tg src body))):=by
 have hp:PassesOwn (model X.prog X.w) X.A X.env X.xe:=by rw [C.xe];exact iz
 refine PS.imp (Dx hp C.calm hI (nH C htg) hb hset) fun E σ H zz=>?_;obtain ⟨G,F,δ,out,ok,ev,post⟩:=zz;simp only [evS,aj,ag] at ev;obtain ⟨⟨ds,δ1⟩,e1,ev⟩:=ev;dsimp only at ev;generalize ef:(fun (x:D) (δ0:Loc)=>match eV δ0 tg x with | some δ2=>dk cx body δ2 | none=>none) = f at ev;refine ⟨G,F,δ,ds,δ1,ok,e1,fun J H1 F1 st sm ok1 wk=>?_⟩;refine ⟨fun i m σ' H'=>∃ F' δ',m = ds.length - i/\i<=ds.length/\Step G F1 H1 F' H'/\Ok X.K G F' σ' H' δ'/\forL f (ds.drop i) δ' = some out,⟨_,F1,δ1,rfl,bC _,Step.refl,ok1,ev⟩,?_⟩;rintro i m σ' H' ⟨F',δ',rfl,hi,st',ok',ev'⟩;by_cases hlt:i < ds.length
 . right;obtain ⟨d,hd⟩:∃ d,ds[i]? = some d:=⟨ds[i],by simp [hlt]⟩;obtain ⟨go,yl⟩:=(wk _ F' H' st' ok'.fd i).1 d hd;refine ⟨go,?_⟩
   have edr:ds.drop i = d::ds.drop (i+1):=by
    rw [eY hlt];congr 1;rw [aw hlt] at hd;exact aM hd
   rw [edr] at ev';unfold forL at ev';refine ⟨fun σ2 H2=>∃ m',m' < ds.length - i/\∃ F2 δ2,m' = ds.length - (i+1)/\i+1<=ds.length/\Step G F1 H1 F2 H2/\Ok X.K G F2 σ2 H2 δ2/\forL f (ds.drop (i+1)) δ2 = some out,fun σ2 H2 z=>z,fun x H3 hy=>?_⟩;obtain ⟨e3,rx⟩:=yl x H3 hy;subst e3
   cases hf:f d δ' with
   | none=>rw [hf] at ev';cases ev'
   | some o1 =>
     have hf':=hf;rw [<- ef] at hf';dsimp only at hf'
     cases hs:eV δ' tg d with
     | none=>rw [hs] at hf';cases hf'
     | some δ2 =>
       rw [hs] at hf';refine mJ ok' rx hs fun σ2 ok2 _=>⟨G,F',δ2,o1,ok2,hf',?_⟩;rw [hf] at ev'
       cases o1 with
       | nx δ3=>exact fun σ3 H4 F4 s4 k4=>⟨_,by omega,F4,δ3,rfl,hlt,st'.trans s4,k4,ev'⟩
       | ct δ3=>exact fun σ3 H4 F4 s4 k4=>⟨_,by omega,F4,δ3,rfl,hlt,st'.trans s4,k4,ev'⟩
       | bk δ3 =>
         cases ev'
         exact fun σ3 H4 F4 s4 k4=>post σ3 H4 F4 ((st.trans st').trans s4) k4
       | rt d3 δ3 =>
         cases ev'
         exact fun v σ3 H4 F4 s4 k4 r4=>post v σ3 H4 F4 ((st.trans st').trans s4) k4 r4
       | ro d3 δ3 =>
         cases ev';exact fun a xs σ3 H4 F4 s4 k4=>post a xs σ3 H4 F4 ((st.trans st').trans s4) k4
 . left;have hi':i = ds.length:=by omega
   subst hi';refine ⟨(wk _ F' H' st' ok'.fd ds.length).2 rfl,?_⟩;rw [nq] at ev';cases ev';exact post σ' H' F' (st.trans st') ok'
theorem wc (C:Cok X c cx k) {t:E} {body:Ss} {y:Expr} {ys:List Stmt} {pos:Pos} (ht:PT X y (tT X.K cx t)) (hb:PSs X ys (tS X.K (dk cx body))):PS X (.While y ys [] pos) (tS X.K (evS cx (.while_ t body))):=by
 have hp:PassesOwn (model X.prog X.w) X.A X.env X.xe:=by rw [C.xe];exact iz
 refine PS.imp (uy hp ht hb) fun E σ H zz=>?_;obtain ⟨G,F,δ,out,ok,ev,post⟩:=zz;simp only [evS] at ev;refine ⟨fun m σ' H'=>∃ F' δ',Step G F H F' H'/\Ok X.K G F' σ' H' δ'/\ja (fun δ0=>evT cx t δ0) (fun δ0=>dk cx body δ0) m δ' = some out,⟨1000,F,δ,Step.refl,ok,ev⟩,?_⟩;rintro m σ' H' ⟨F',δ',st',ok',ev'⟩
 cases m with
 | zero=>cases ev'
 | succ m =>
   unfold ja at ev'
   cases ec:evT cx t δ' with
   | none=>rw [ec] at ev';cases ev'
   | some q =>
     obtain ⟨b,δ1⟩:=q;rw [ec] at ev';refine ⟨G,F',δ',b,δ1,ok',ec,fun H1 F1 st1 sm1 ok1=>?_⟩;have sA:=st'.trans st1
     cases b with
     | true =>
       refine oz ?_;dsimp only at ev';refine ⟨fun σ2 H2=>∃ m',m' < m+1/\∃ F2 δ2,Step G F H F2 H2/\Ok X.K G F2 σ2 H2 δ2/\ja (fun δ0=>evT cx t δ0) (fun δ0=>dk cx body δ0) m' δ2 = some out,fun σ2 H2 z=>z,?_⟩
       cases hf:dk cx body δ1 with
       | none=>rw [hf] at ev';cases ev'
       | some o1 =>
         rw [hf] at ev';refine ⟨G,F1,δ1,o1,ok1,hf,?_⟩
         cases o1 with
         | nx δ3=>exact fun σ3 H4 F4 s4 k4=>⟨m,by omega,F4,δ3,sA.trans s4,k4,ev'⟩
         | ct δ3=>exact fun σ3 H4 F4 s4 k4=>⟨m,by omega,F4,δ3,sA.trans s4,k4,ev'⟩
         | bk δ3 =>
           cases ev'
           exact fun σ3 H4 F4 s4 k4=>post σ3 H4 F4 (sA.trans s4) k4
         | rt d3 δ3 =>
           cases ev'
           exact fun v σ3 H4 F4 s4 k4 r4=>post v σ3 H4 F4 (sA.trans s4) k4 r4
         | ro d3 δ3 =>
           cases ev'
           exact fun a xs σ3 H4 F4 s4 k4=>post a xs σ3 H4 F4 (sA.trans s4) k4
     | false =>
       refine pO ?_;cases ev';exact post σ' H1 F1 sA ok1
end
end PP
end
section
namespace PP
open PySem PySem.Spec PyProof.Rows
open Builtin.SmallTypes (nextOf)
section
variable {P:Program} {w:World} {A:Around} {E:Value->Shared->Prop} {s:Shared}
theorem wK {i l:Addr} {k:Nat} {xs:List Value} {x:Value} {Q:Value->Shared->Prop} (hit:s.heap.IsTupleIter i l k) (ht:s.heap.IsTuple l xs.toArray) (hx:xs[k]? = some x) (q:∀ h',h'.IsTupleIter i l (k+1)->Heap.SameBut i s.heap h'->Q x { s with heap:=h' }):wpAny (model P w) A (nextOf (.ref i)) Q E s:=by
 obtain ⟨o,ho,hc,hd⟩:=id hit;obtain ⟨ol,hol,_,nl,hdl⟩:=ht;have hx':xs.toArray[k]? = some x:=by simpa using hx
 unfold nextOf;refine ae (cC (name:=Str.ofString "__next__") hit.typeIs PySem.F.slot_tuple_iterator_next (bO PySem.F.slot_tuple_iterator_next hit.typeIs PySem.F.entry_tuple_iterator_next ?_ (PySem.F.args_tuple_iterator_next_1 _)));refine ae (m:=field (.ref i) 0) (cA ho hd (x:=.ref l) rfl ?_);refine (if_neg (show ¬ ((Value.ref l == Value.none) = true) from ah))▸?_;refine ae (m:=field (.ref i) 1) (cA ho hd (x:=.int k 0) rfl ?_);refine ae (m:=seqItems? (.ref l)) (cq hol hdl ?_);simp only [iC,hx'];have sb:=bD s.heap i (Obj.mapFields (·.setIfInBounds 1 (rawInt ((k:Int)+1))));refine ae (dZ ho hd (by simp) (ai ⟨x,rfl,ai (q _ ⟨_,cP _ ho (Obj.isFreed_of_fields (FI hd _)),(Obj.cls_mapFields ..).trans hc,?_⟩ sb)⟩));rw [FI hd];simp [rawInt]
theorem Aw {i l:Addr} {k:Nat} {xs:List Value} {Q:Value->Shared->Prop} (hh:A.handled = none) (hit:s.heap.IsTupleIter i l k) (ht:s.heap.IsTuple l xs.toArray) (hx:xs[k]? = none)
 (q:∀ h' e,Heap.ExtBut i s.heap h'->(∃ o,h'.get? e = some o/\o.cls = .type "StopIteration")->E (.ref e) { s with heap:=h' }):wpAny (model P w) A (nextOf (.ref i)) Q E s:=by
 obtain ⟨o,ho,hc,hd⟩:=id hit;obtain ⟨ol,hol,_,nl,hdl⟩:=ht;have hx':xs.toArray[k]? = none:=by simpa using hx
 unfold nextOf;refine ae (cC (name:=Str.ofString "__next__") hit.typeIs PySem.F.slot_tuple_iterator_next (bO PySem.F.slot_tuple_iterator_next hit.typeIs PySem.F.entry_tuple_iterator_next ?_ (PySem.F.args_tuple_iterator_next_1 _)));refine ae (m:=field (.ref i) 0) (cA ho hd (x:=.ref l) rfl ?_);refine (if_neg (show ¬ ((Value.ref l == Value.none) = true) from ah))▸?_;refine ae (m:=field (.ref i) 1) (cA ho hd (x:=.int k 0) rfl ?_);refine ae (m:=seqItems? (.ref l)) (cq hol hdl ?_);simp only [iC,hx'];refine ae (iO (ae (dZ ho hd (by simp) (ae (m:=newExc (.type "StopIteration") []) ?_))));simp only [newExc,newTuple];refine ae (aS ?_ (by size_fits));refine ae (m:=firstArgMember _ _) (fU (a:=Value.none) (by first | rfl | (simp only [firstArgMember];rfl)) ?_);refine aS ?_ (by size_fits);simp only [raiseNew];refine ae (wpAny_handled ?_)
 first | rw [show A.in1.handled = none from hh] | rw [hh]
 exact ae (ai (wpAny_throw (q _ _ (((bD ..).extBut.push _).push _) ⟨_,aA _ rfl,rfl⟩)))
end
end PP
end
section
namespace PP
open PySem PySem.Spec L2 PyProof.Rows
open Builtin.SmallTypes (nextOf)
noncomputable def SqM (m:Bool) (K:PySem.W.Frag) (H:Hp) (a:Addr) (xs:List V):Prop:=if m = true then SqL K H a xs else SqT K H a xs
noncomputable def OkM (m:Bool) (h:Heap) (a:Addr) (us:List Value):Prop:=if m = true then h.IsList a us.toArray else h.IsTuple a us.toArray
noncomputable def ItO (m:Bool) (h:Heap) (i l:Addr) (k:Nat):Prop:=if m = true then h.IsListIter i l k else h.IsTupleIter i l k
theorem ItO.at {m:Bool} {h h':Heap} {i l:Addr} {k:Nat} (x:ItO m h i l k) (e:∀ o,h.get? i = some o->h'.get? i = some o):ItO m h' i l k:=by
 cases m
 . exact Heap.IsTupleIter.at x e
 . exact Heap.IsListIter.at x e
theorem ItO.obj {m:Bool} {h:Heap} {i l:Addr} {k:Nat} (x:ItO m h i l k):∃ o,h.get? i = some o/\∀ v,o.data≠.cell v:=by
 cases m <;>
 . obtain ⟨o,e,_,d⟩:=x;exact ⟨o,e,fun v z=>by rw [d] at z;cases z⟩
section
variable {X:Cx} {pins:List (Addr × Obj)} {σ:L2.St} {H:Hp} {s:Shared} {A:Around} {E:Value->Shared->Prop}
theorem okM {m:Bool} {l:Addr} {ys:List V} (I:Inv X pins σ H s) (hq:SqM m X.K H l ys):∃ us,Vals ys us/\OkM m s.heap l us:=by
 cases m
 . obtain ⟨us,r,p,_⟩:=I.tuple hq;exact ⟨us,r,p⟩
 . obtain ⟨us,r,p,_⟩:=I.list hq;exact ⟨us,r,p.isList⟩
theorem xJ {m:Bool} {l:Addr} {xs ys:List V} (I:Inv X pins σ H s) (h1:SqM m X.K H l xs) (h2:SqM m X.K H l ys):xs = ys:=by
 cases m
 . exact I.tuple_inj h1 h2
 . exact I.list_inj h1 h2
theorem sy {m:Bool} {i l:Addr} {k:Nat} {ys:List V} {x:V} {Q:Value->Shared->Prop} (I:Inv X pins σ H s) (hq:SqM m X.K H l ys) (hx:ys[k]? = some x) (it:ItO m s.heap i l k)
 (q:∀ u h',RelV x u->ItO m h' i l (k+1)->Heap.SameBut i s.heap h'->Q u { s with heap:=h' }):wpAny (model X.prog X.w) A (nextOf (.ref i)) Q E s:=by
 obtain ⟨us,r,ok⟩:=okM I hq;obtain ⟨u,hu,ru⟩:=r.get hx;cases m
 . exact wK it ok hu fun h' a b=>q u h' ru a b
 . exact wpAny_nextOf_list_item it ok (by simpa using hu) fun h' a b=>q u h' ru a b
theorem yF {m:Bool} {i l:Addr} {k:Nat} {ys:List V} {Q:Value->Shared->Prop} (hh:A.handled = none) (I:Inv X pins σ H s) (hq:SqM m X.K H l ys) (hx:ys.length<=k) (it:ItO m s.heap i l k)
 (q:∀ h' e,Heap.ExtBut i s.heap h'->(∃ o,h'.get? e = some o/\o.cls = .type "StopIteration")->E (.ref e) { s with heap:=h' }):wpAny (model X.prog X.w) A (nextOf (.ref i)) Q E s:=by
 obtain ⟨us,r,ok⟩:=okM I hq;have hl:us[k]? = none:=cO (by rw [<- r.length];exact hx);cases m
 . exact Aw hh it ok hl q
 . exact wpAny_nextOf_list_end hh it ok (by simpa using hl) q
structure Zp (h:Heap) (m1 m2:Bool) (z TI TO i1 i2 l1 l2:Addr) (f0:Value) (k1 k2:Nat):Prop where
 hz:IsZip h z TI TO f0
 ti:IsPair h TI (.ref i1) (.ref i2)
 to:∃ a b,IsPair h TO a b
 i1:ItO m1 h i1 l1 k1
 i2:ItO m2 h i2 l2 k2
structure Ap (z TI TO i1 i2:Addr):Prop where
 a1:TI≠z
 a2:TO≠z
 a3:i1≠z
 a4:i2≠z
 a5:TI≠TO
 a6:TI≠i1
 a7:TI≠i2
 a8:TO≠i1
 a9:TO≠i2
 a10:i1≠i2
theorem eC {b:Addr} {h':Heap} (I:Inv X pins σ H s) (f:iU X pins H b) (k:∀ c o,c≠b->s.heap.get? c = some o->h'.get? c = some o):Inv X pins σ H { s with heap:=h' }:=I.turned (t':=s.toks) k f.1 f.2.1 f.2.2.2.1 f.2.2.2.2.1 f.2.2.2.2.2
theorem Bn {m1 m2:Bool} {z TI TO i1 i2 l1 l2:Addr} {k:Nat} {xs ys:List V} {x y:V} {Q:Value->Shared->Prop} (D:Ap z TI TO i1 i2) (I:Inv X pins σ H s) (hf:∀ b∈[z,TI,TO,i1,i2],iU X pins H b) (Z:Zp s.heap m1 m2 z TI TO i1 i2 l1 l2 .none k k)
 (q1:SqM m1 X.K H l1 xs) (q2:SqM m2 X.K H l2 ys) (hx:xs[k]? = some x) (hy:ys[k]? = some y)
 (hQ:∀ T h',H T = none->(∀ b∈[z,TI,TO,i1,i2],T≠b)->Inv X pins σ (upd H T (.tup [x,y])) { s with heap:=h' }->Zp h' m1 m2 z TI TO i1 i2 l1 l2 (rawInt T) (k+1) (k+1)->Q (.ref T) { s with heap:=h' }) :
 wpAny (model X.prog X.w) A (Builtin.«zip.__next__» ⟨[.ref z],[]⟩) (fun fin s'=>∃ v,fin = .done (.ret v)/\Q v s') E s:=by
 obtain ⟨hz,ti,⟨a,b,to⟩,h1,h2⟩:=Z;have fz:=hf z (by simp);have fT:=hf TO (by simp);have f1:=hf i1 (by simp);have f2:=hf i2 (by simp);refine ae (m:=field (.ref z) 2) (cA hz rfl (x:=.bool false) rfl ?_);refine ae (m:=field (.ref z) 3) (cA hz rfl (x:=.ref TI) rfl ?_);refine ae (cq ti rfl ?_);refine ae (m:=Builtin.SmallTypes.ownedTupleIsFree (.ref z)) ?_;unfold Builtin.SmallTypes.ownedTupleIsFree;refine ae (cA hz rfl (x:=.none) rfl (ai ?_));simp only [if_true];refine ae (iO (ae (cA hz rfl (x:=.ref TO) rfl (ae (fQ hz (by simp) fun g1 y1 s1=>ae ?_)))));replace y1:IsZip g1 z TI TO .ellipsis:=y1;have I1:=eC I fz fun c o n e=>s1.extBut c o n e;simp only [FP,Jd,eE,List.forIn_nil];refine ae (ae (mZ (ae (m:=nextOf (.ref i1)) (sy I1 q1 hx (h1.at fun o e=>s1.extBut _ o D.a3 e) fun u g2 ru j1 s2=>ai ?_))));have I2:=eC I1 f1 fun c o n e=>s2.extBut c o n e;have to2:IsPair g2 TO a b:=s2.extBut _ _ D.a8 (s1.extBut _ _ D.a2 to);refine ae (cq to2 rfl (ae (lD to2 fun g3 to3 s3=>ae (gO (ai ?_)))));replace to3:IsPair g3 TO u b:=to3;have I3:=eC I2 fT fun c o n e=>s3.extBut c o n e;refine ae (ae (mZ (ae (m:=nextOf (.ref i2)) (sy I3 q2 hy (((h2.at fun o e=>s1.extBut _ o D.a4 e).at fun o e=>s2.extBut _ o D.a10.symm e).at fun o e=>s3.extBut _ o D.a9.symm e) fun v g4 rv j2 s4=>ai ?_))));have I4:=eC I3 f2 fun c o n e=>s4.extBut c o n e;have to4:IsPair g4 TO u b:=s4.extBut _ _ D.a9 to3;refine ae (cq to4 rfl (ae (lD to4 fun g5 to5 s5=>ae (gO (ai (ai ?_))))));replace to5:IsPair g5 TO u v:=to5;have I5:=eC I4 fT fun c o n e=>s5.extBut c o n e;refine ae (cq to5 rfl (ae (wpAny_newTuple ?_)));have hT:H g5.objs.size = none:=I5.hok.fresh (av _);have z5:IsZip g5 z TI TO .ellipsis:=s5.extBut _ _ D.a2.symm (s4.extBut _ _ D.a4.symm (s3.extBut _ _ D.a2.symm (s2.extBut _ _ D.a3.symm y1)));have ti5:IsPair g5 TI (.ref i1) (.ref i2):=s5.extBut _ _ D.a5 (s4.extBut _ _ D.a7 (s3.extBut _ _ D.a5 (s2.extBut _ _ D.a6 (s1.extBut _ _ D.a1 ti))));have k1:ItO m1 g5 i1 l1 (k+1):=((j1.at fun o e=>s3.extBut _ o D.a8.symm e).at fun o e=>s4.extBut _ o D.a10 e).at fun o e=>s5.extBut _ o D.a8.symm e;have k2:ItO m2 g5 i2 l2 (k+1):=j2.at fun o e=>s5.extBut _ o D.a9.symm e;have Tz:g5.objs.size≠z:=en (ar z5)
 have Ts:∀ b∈[z,TI,TO,i1,i2],g5.objs.size≠b:=fun b hb=>by
  obtain ⟨_,e1,_⟩:=k1.obj;obtain ⟨_,e2,_⟩:=k2.obj;simp only [aD,cw,or_false] at hb;rcases hb with rfl | rfl | rfl | rfl | rfl
  . exact Tz
  . exact en (ar ti5)
  . exact en (ar to5)
  . exact en (ar e1)
  . exact en (ar e2)
 have I6:Inv X pins σ (upd H g5.objs.size (.tup [x,y])) { s with heap:=g5.push { cls:=.type "tuple",data:=.seq #[u,v] } } :=
  I5.laid (t':=s.toks) (fun b u e=>af _ e) (av _) ⟨by show 2<=sizeLine;decide,[u,v],.cons ru (.cons rv .nil),⟨_,aA _ rfl,rfl,_,rfl⟩⟩
 have fz6:iU X pins (upd H g5.objs.size (.tup [x,y])) z:=⟨by rw [bw Tz.symm];exact fz.1,fz.2⟩;refine ae (m:=Builtin.SmallTypes.ownedTupleHandOut (.ref z) (.ref g5.objs.size)) ?_;unfold Builtin.SmallTypes.ownedTupleHandOut;have z6:IsZip (g5.push { cls:=.type "tuple",data:=.seq #[u,v] }) z TI TO .ellipsis:=af _ z5;refine ae (fQ z6 (by simp) fun g7 z7 s7=>?_);replace z7:IsZip g7 z TI TO (rawInt g5.objs.size):=z7;refine fQ z7 (by simp) fun g8 z8 s8=>?_;replace z8:IsZip g8 z TI TO (rawInt g5.objs.size):=z8;have up:∀ c o,c≠z->g5.get? c = some o->g8.get? c = some o:=fun c o n e=>s8.extBut _ _ n (s7.extBut _ _ n (af _ e));have I8:=eC (eC I6 fz6 fun c o n e=>s7.extBut c o n e) fz6 fun c o n e=>s8.extBut c o n e;exact ai ⟨_,rfl,hQ g5.objs.size g8 hT Ts I8 ⟨z8,up _ _ D.a1 ti5,⟨_,_,up _ _ D.a2 to5⟩,k1.at fun o e=>up _ o D.a3 e,k2.at fun o e=>up _ o D.a4 e⟩⟩
theorem Bm {m1 m2:Bool} {z TI TO i1 i2 l1 l2:Addr} {k:Nat} {xs ys:List V} {Q:PySem.Fin->Shared->Prop} (hh:A.handled = none) (D:Ap z TI TO i1 i2) (I:Inv X pins σ H s) (hf:∀ b∈[z,TI,TO,i1,i2],iU X pins H b) (Z:Zp s.heap m1 m2 z TI TO i1 i2 l1 l2 .none k k)
 (q1:SqM m1 X.K H l1 xs) (q2:SqM m2 X.K H l2 ys) (hend:xs.length<=k\/ys.length<=k)
 (hE:∀ h' e,Inv X pins σ H { s with heap:=h' }->(∃ o,h'.get? e = some o/\o.cls = .type "StopIteration")->E (.ref e) { s with heap:=h' }) :
 wpAny (model X.prog X.w) A (Builtin.«zip.__next__» ⟨[.ref z],[]⟩) Q E s:=by
 obtain ⟨hz,ti,⟨a,b,to⟩,h1,h2⟩:=Z;have fz:=hf z (by simp);have fT:=hf TO (by simp);have f1:=hf i1 (by simp);have f2:=hf i2 (by simp);refine ae (m:=field (.ref z) 2) (cA hz rfl (x:=.bool false) rfl ?_);refine ae (m:=field (.ref z) 3) (cA hz rfl (x:=.ref TI) rfl ?_);refine ae (cq ti rfl ?_);refine ae (m:=Builtin.SmallTypes.ownedTupleIsFree (.ref z)) ?_;unfold Builtin.SmallTypes.ownedTupleIsFree;refine ae (cA hz rfl (x:=.none) rfl (ai ?_));simp only [if_true];refine ae (iO (ae (cA hz rfl (x:=.ref TO) rfl (ae (fQ hz (by simp) fun g1 y1 s1=>ae ?_)))));replace y1:IsZip g1 z TI TO .ellipsis:=y1;have I1:=eC I fz fun c o n e=>s1.extBut c o n e;simp only [FP,Jd,eE,List.forIn_nil];have j1:ItO m1 g1 i1 l1 k:=h1.at fun o e=>s1.extBut _ o D.a3 e
 have last:∀ {g:Heap} {e:Addr} (Ig:Inv X pins σ H { s with heap:=g }) (zg:IsZip g z TI TO .ellipsis) (he:∃ o,g.get? e = some o/\o.cls = .type "StopIteration"),
  wpAny (model X.prog X.w) A (setField (.ref z) 0 .none) (fun _ s'=>E (.ref e) s') E { s with heap:=g }:=fun {g e} Ig zg he=>by
  obtain ⟨o,ho,hc⟩:=he;have ez:e≠z:=fun x=>by subst x;rw [zg] at ho;cases ho;simp at hc
  refine fQ zg (by simp) fun g' _ s'=>?_;have I':=eC (h':=g') Ig fz fun c o n e=>s'.extBut c o n e;exact hE g' e I' ⟨o,s'.extBut _ _ ez ho,hc⟩
 refine ae (ae (mZ (ae (m:=nextOf (.ref i1)) ?_)));by_cases hx:xs.length<=k
 . refine yF hh I1 q1 hx j1 fun g2 e x2 he=>?_;have I2:=eC (h':=g2) I1 f1 fun c o n e=>x2 c o n e;exact last I2 (x2 _ _ D.a3.symm y1) he
 . obtain ⟨x,ex⟩:∃ x,xs[k]? = some x:=⟨xs[k],aw (by omega)⟩;refine sy I1 q1 ex j1 fun u g2 ru j1' s2=>ai ?_;have I2:=eC I1 f1 fun c o n e=>s2.extBut c o n e;have to2:IsPair g2 TO a b:=s2.extBut _ _ D.a8 (s1.extBut _ _ D.a2 to);refine ae (cq to2 rfl (ae (lD to2 fun g3 to3 s3=>ae (gO (ai ?_)))));have I3:=eC I2 fT fun c o n e=>s3.extBut c o n e;refine ae (ae (mZ (ae (m:=nextOf (.ref i2)) ?_)));refine yF hh I3 q2 (by omega) (((h2.at fun o e=>s1.extBut _ o D.a4 e).at fun o e=>s2.extBut _ o D.a10.symm e).at fun o e=>s3.extBut _ o D.a9.symm e) fun g4 e x4 he=>?_;have I4:=eC (h':=g4) I3 f2 fun c o n e=>x4 c o n e;exact last I4 (x4 _ _ D.a4.symm (s3.extBut _ _ D.a2.symm (s2.extBut _ _ D.a3.symm y1))) he
end
end PP
end
section
namespace PP
open PySem PySem.Spec L2 PyProof.Rows
noncomputable def Itz (K:PySem.W.Frag) (m1 m2:Bool) (l1 l2:Addr):L2.It :=
 ⟨fun i H=>∃ xs ys x y,SqM m1 K H l1 xs/\SqM m2 K H l2 ys/\xs[i]? = some x/\ys[i]? = some y,
   fun i H v H'=>∃ T x y,v = .ref T/\H T = none/\H' = upd H T (.tup [x,y])/\(∀ xs,SqM m1 K H l1 xs->xs[i]? = some x)/\∀ ys,SqM m2 K H l2 ys->ys[i]? = some y,
   fun i H=>∃ xs ys,SqM m1 K H l1 xs/\SqM m2 K H l2 ys/\(xs.length<=i\/ys.length<=i)⟩
theorem Co {P:Program} {w:World} {K:PySem.W.Frag} {elts:List Expr} {k0:Nat} {pos:Pos} {m1 m2:Bool} {z TI TO i1 i2 l1 l2:Addr} (D:Ap z TI TO i1 i2) :
 Turn P w K (.Tuple elts k0 pos) (Itz K m1 m2 l1 l2) [z,TI,TO,i1,i2] z (fun i h=>Zp h m1 m2 z TI TO i1 i2 l1 l2 .none i i) where
 mem:=by simp
 obj:=fun i h st b hb=>by
  obtain ⟨hz,ti,⟨a,c,to⟩,h1,h2⟩:=st;simp only [aD,cw,or_false] at hb;rcases hb with rfl | rfl | rfl | rfl | rfl
  . exact ⟨_,hz,fun v z=>by cases z⟩
  . exact ⟨_,ti,fun v z=>by cases z⟩
  . exact ⟨_,to,fun v z=>by cases z⟩
  . exact h1.obj
  . exact h2.obj
 keep:=fun i h h' st k=>by
  obtain ⟨hz,ti,⟨a,c,to⟩,h1,h2⟩:=st;exact ⟨k z (by simp) _ hz,k TI (by simp) _ ti,⟨a,c,k TO (by simp) _ to⟩,h1.at fun o e=>k _ (by simp) o e,h2.at fun o e=>k _ (by simp) o e⟩
 item:=by
  intro X hP hw hK hc i pins s σ H E I hf st hg;subst hP hw hK;obtain ⟨xs,ys,x,y,q1,q2,hx,hy⟩:=hg;have hT:s.TypeIs (.ref z) "zip":=⟨_,st.hz,rfl⟩;unfold pyNext;refine ae (ng (cC (name:=Str.ofString "__next__") hT PySem.F.slot_zip_next (bO PySem.F.slot_zip_next hT PySem.F.entry_zip_next (Bn D I hf st q1 q2 hx hy fun T h' nT nb I' Z'=>ai ⟨.ref T,rfl,?_⟩) (PySem.F.args_zip_next_1 _))));refine wpAny_letOwnedTupleGo_zip Z'.hz fun h2 z2 s2=>?_;have hn:∀ b∈[z,TI,TO,i1,i2],upd H T (.tup [x,y]) b = none:=fun b hb=>by rw [bw (nb b hb).symm];exact (hf b hb).1
  have I2:=eC (h':=h2) I' ⟨hn z (by simp),(hf z (by simp)).2⟩ fun c o n e=>s2.extBut c o n e;obtain ⟨_,ti,⟨a,c,to⟩,h1,h2'⟩:=Z'
  exact ⟨.ref T,upd H T (.tup [x,y]),I2,rfl,⟨T,x,y,rfl,nT,rfl,fun xs' h=>by rw [xJ I h q1];exact hx,fun ys' h=>by rw [xJ I h q2];exact hy⟩,
   ⟨z2,s2.extBut _ _ D.a1 ti,⟨a,c,s2.extBut _ _ D.a2 to⟩,h1.at fun o e=>s2.extBut _ o D.a3 e,h2'.at fun o e=>s2.extBut _ o D.a4 e⟩,hn⟩
 done:=by
  intro X hP hw hK hc i pins s σ H E I hf st hg;subst hP hw hK;obtain ⟨xs,ys,q1,q2,he⟩:=hg;have hT:s.TypeIs (.ref z) "zip":=⟨_,st.hz,rfl⟩;unfold pyNext;refine ae (ng (cC (name:=Str.ofString "__next__") hT PySem.F.slot_zip_next (bO PySem.F.slot_zip_next hT PySem.F.entry_zip_next (Bm (I.ok.hd hc) D I hf st q1 q2 he fun h' e I' he=>?_) (PySem.F.args_zip_next_1 _))));obtain ⟨o,ho,hc⟩:=he;exact ae (jO (T:="StopIteration") (b:=true) ⟨o,ho,hc⟩ isSubtype_stop (ai ⟨rfl,I'⟩))
 self:=fun _ _ _ _ _ st h=>wpAny_pyIter_zip st.hz h
noncomputable def itN (m:Bool):String:=if m = true then "list_iterator" else "tuple_iterator"
noncomputable def gW (m:Bool) (l:Addr):Obj:={ cls:=.type (itN m),data:=.fields #[.ref l,.int 0 0] }
theorem iterM {prog:Program} {w:World} {A:Around} {E:Value->Shared->Prop} {s:Shared} {m:Bool} {l:Addr} {us:List Value} {Q:Value->Shared->Prop} (ok:OkM m s.heap l us) (h:Q (.ref s.heap.objs.size) { s with heap:=s.heap.push (gW m l) }):wpAny (model prog w) A (pyIter (.ref l)) Q E s:=by
 cases m
 . exact MF (show s.heap.IsTuple l us.toArray from ok) h
 . exact eR (show s.heap.IsList l us.toArray from ok) h
theorem OkM.push {m:Bool} {h:Heap} {l:Addr} {us:List Value} (ok:OkM m h l us) (o:Obj):OkM m (h.push o) l us:=by
 cases m
 . exact Heap.IsTuple.at (show h.IsTuple l us.toArray from ok) fun o e=>af _ e
 . exact Heap.IsList.push ok o
noncomputable def zH (h:Heap) (m1 m2:Bool) (l1 l2:Addr):Heap:=((((h.push (gW m1 l1)).push (gW m2 l2)).push { cls:=.type "tuple",data:=.seq #[.ref h.objs.size,.ref (h.objs.size+1)] }).push { cls:=.type "tuple",data:=.seq #[.none,.none] }).push { cls:=.type "zip",data:=.fields #[.none,.bool false,.bool false,.ref (h.objs.size+2),.ref (h.objs.size+3)] }
theorem Ax {m1 m2:Bool} (l1 l2:Addr) (us vs:List Value):Meets (Builtin.«zip.__new__» ⟨[.type "zip",.ref l1,.ref l2],[]⟩) (fun _ R s=>OkM m1 s.heap l1 us/\OkM m2 s.heap l2 vs/\R (.ok (.ret (.ref (s.heap.objs.size+4)))) { s with heap:=zH s.heap m1 m2 l1 l2 }) :=
 .of_wp fun prog w A R s h=>by
  obtain ⟨hp,g,d,tk,os⟩:=s;obtain ⟨o1,o2,h⟩:=h;have hsub:=sub_zip;have L1:OkM m1 (Shared.heap ⟨hp,g,d,tk,os⟩) l1 us:=o1;have L2:OkM m2 (Shared.heap ⟨hp.push (gW m1 l1),g,d,tk,os⟩) l2 vs:=OkM.push o2 _
  wp_walk using iterM L1,iterM L2
  refine ⟨_,rfl,?_⟩;unfold zH at h;simp only [bf];exact h
section
variable {prog:Program} {w:World} {A:Around} {E:Value->Shared->Prop} {s:Shared}
theorem AM {m1 m2:Bool} {l1 l2:Addr} {us vs:List Value} {Q:Value->Shared->Prop} (o1:OkM m1 s.heap l1 us) (o2:OkM m2 s.heap l2 vs)
 (h:∀ h',Zp h' m1 m2 (s.heap.objs.size+4) (s.heap.objs.size+2) (s.heap.objs.size+3) s.heap.objs.size (s.heap.objs.size+1) l1 l2 .none 0 0->(∀ c o,s.heap.get? c = some o->h'.get? c = some o)->Q (.ref (s.heap.objs.size+4)) { s with heap:=h' }) :
 wpAny (model prog w) A (call (.type "zip") [.ref l1,.ref l2]) Q E s:=by
 refine callType_new PySem.F.called_zip (by decide) (PySem.F.typeCall_zip_2 _ _) (PySem.F.newCall_zip_2 _ _) (fun obj=>PySem.F.args_object_init_3 obj _ _) PySem.F.entry_zip_new (Ax (m1:=m1) (m2:=m2) l1 l2 us vs) ⟨o1,o2,?_⟩;have up:∀ {h:Heap} {c:Addr} {o o':Obj},h.get? c = some o->(h.push o').get? c = some o:=fun e=>af _ e;have at_:∀ {h:Heap} {o:Obj} {n:Addr},h.objs.size = n->o.isFreed = false->(h.push o).get? n = some o:=fun e f=>by rw [<- e];exact aA _ f
 have z1:(s.heap.push (gW m1 l1)).objs.size = s.heap.objs.size+1:=bf ..;have z2:((s.heap.push (gW m1 l1)).push (gW m2 l2)).objs.size = s.heap.objs.size+2:=by rw [bf,z1]
 have z3:(((s.heap.push (gW m1 l1)).push (gW m2 l2)).push { cls:=.type "tuple",data:=.seq #[.ref s.heap.objs.size,.ref (s.heap.objs.size+1)] }).objs.size = s.heap.objs.size+3:=by rw [bf,z2]
 have z4:((((s.heap.push (gW m1 l1)).push (gW m2 l2)).push { cls:=.type "tuple",data:=.seq #[.ref s.heap.objs.size,.ref (s.heap.objs.size+1)] }).push { cls:=.type "tuple",data:=.seq #[.none,.none] }).objs.size = s.heap.objs.size+4:=by rw [bf,z3]
 have g5:(zH s.heap m1 m2 l1 l2).get? (s.heap.objs.size+4) = some _:=at_ z4 rfl;have g4:(zH s.heap m1 m2 l1 l2).get? (s.heap.objs.size+3) = some _:=up (at_ z3 rfl);have g3:(zH s.heap m1 m2 l1 l2).get? (s.heap.objs.size+2) = some _:=up (up (at_ z2 rfl));have g2:(zH s.heap m1 m2 l1 l2).get? (s.heap.objs.size+1) = some (gW m2 l2):=up (up (up (at_ z1 rfl)));have g1:(zH s.heap m1 m2 l1 l2).get? s.heap.objs.size = some (gW m1 l1):=up (up (up (up (at_ rfl rfl))));have it:∀ {m:Bool} {i l:Addr} {h:Heap},h.get? i = some (gW m l)->ItO m h i l 0:=fun {m i l h} e=>by cases m<;>exact ⟨_,e,rfl,rfl⟩
 exact ⟨⟨_,g5,rfl⟩,h _ ⟨g5,g3,⟨_,_,g4⟩,it g1,it g2⟩ fun c o e=>up (up (up (up (up e))))⟩
end
theorem LB {a b:Nat} (h:a≠b):(show Addr from a)≠(show Addr from b):=h
noncomputable def OH (K:PySem.W.Frag) (ta:TA):TI:=fun σ H R=>ta σ H fun vs H1=>∃ m1 m2 l1 l2 xs ys,vs = [.ref l1,.ref l2]/\SqM m1 K H1 l1 xs/\SqM m2 K H1 l2 ys/\R (Itz K m1 m2 l1 l2) H1
theorem Ld {X:Cx} {elts:List Expr} {k0:Nat} {tp:Pos} {a b:Expr} {ta:TA} {p pos:Pos} (hg:Gl X "zip") (hm:X.mg "zip" = none) (ha:PA X [a,b] ta) (hs:starEach [a,b] X.env = (false,eval a X.env)::starEach [b] X.env) (hpl:(backTo pos (starEach [b] X.env)).any (·.1) = false) :
 PI X (.Tuple elts k0 tp) (.Call (.Name "zip" p) [a,b] [] pos) (OH X.K ta):=by
 intro pins s σ H R I h;refine Call_ (lr I hg hm boot_zip (fV (thn (ha pos pins s σ H _ I h) fun us s1 ⟨vs,H1,I1,r1,q1⟩=>?_) hs hpl));obtain ⟨m1,m2,l1,l2,xs,ys,rfl,s1',s2',q⟩:=q1;obtain ⟨u,rr,e,r,rr1⟩:∃ u rr,us = u::rr/\RelV (.ref l1) u/\Vals [.ref l2] rr:=by cases r1 with | cons r rr=>exact ⟨_,_,rfl,r,rr⟩
 obtain ⟨v,rfl,r2⟩:=vals1 rr1;subst e;cases r;cases r2;obtain ⟨us1,_,o1⟩:=okM I1 s1';obtain ⟨us2,_,o2⟩:=okM I1 s2';refine AM o1 o2 fun h' Z k=>?_;refine wpAny_pyIter_zip Z.hz ?_
 have D:Ap (s1.heap.objs.size+4) (s1.heap.objs.size+2) (s1.heap.objs.size+3) s1.heap.objs.size (s1.heap.objs.size+1):=by
  constructor<;>(refine LB ?_;lia)
 refine ⟨_,_,_,_,H1,rfl,I1.kept (t':=s1.toks) k,Co D,Z,fun b hb=>?_,q⟩
 have hle:s1.heap.objs.size<=b:=by
  simp only [aD,cw,or_false] at hb;rcases hb with rfl | rfl | rfl | rfl | rfl<;>lia
 exact I1.fpOk hle (I1.hok.fresh hle)
end PP
end
section
namespace PP
open PySem L2 PyProof.Rows
variable [Tbs]
section
variable {X:Cx} {c:Ck} {cx:Cl} {k:Nat}
noncomputable def kM:D->Bool
 | .lst _=>true
 | _=>false
theorem mO {K:PySem.W.Frag} {H:Hp} {F:Addr->Prop} {d:D} {ds:List D} {v:V} (e:Dg d = some ds) (r:Rel K H F d v):∃ a us,v = .ref a/\SqM (kM d) K H a us/\aF K H F ds us:=by
 cases d with
 | lst l =>
   cases e;obtain ⟨a,us,e1,h1,h2⟩:=dt.lst (.inl r)
   exact ⟨a,us,e1,h1.sq,h2⟩
 | tup l =>
   cases e;obtain ⟨a,us,e1,h1,h2⟩:=dt.tup (.inl r)
   exact ⟨a,us,e1,h1,h2⟩
 | _=>cases e
theorem Ac (C:Cok X c cx k) {tg:Tg} {es:Es} {body:Ss} {t a b:Expr} {ys:List Stmt} {p cp pos:Pos} (ht:Ir t = true) (htg:sY c tg t = true) (hg:Gl X "zip") (hm:X.mg "zip" = none) (hA:PA X [a,b] (tEs X.K cx es)) (hc:ik c es [a,b] = true) (n:iJ es = true) (hb:PSs X ys (tS X.K (dk cx body))) :
 PS X (.For t (.Call (.Name "zip" p) [a,b] [] cp) ys [] pos) (tS X.K (evS cx (.forZ tg es body))):=by
 have hp:PassesOwn (model X.prog X.w) X.A X.env X.xe:=by rw [C.xe];exact iz
 have tt:∃ es n q,t = .Tuple es n q:=by
  rcases nB htg with ⟨_,_,rfl⟩ | h
  . cases ht
  . exact h
 obtain ⟨elts,k0,tp,rfl⟩:=tt;obtain ⟨_,_,_,c1,c2⟩:=fO hc;refine PS.imp (Dx hp C.calm (Ld hg hm hA (cX (cn c1) _ _) (ie c2)) (nH C htg) hb (fun v=>rfl)) fun E σ H zz=>?_;obtain ⟨G,F,δ,out,ok,ev,post⟩:=zz;simp only [evS,aj,ag] at ev;obtain ⟨⟨ds,δ1⟩,e1,ev⟩:=ev;dsimp only at ev;split at ev
 . rename_i x y;split at ev
   . rename_i xs ys' ex ey;generalize ef:(fun (x:D) (δ0:Loc)=>match eV δ0 tg x with | some δ2=>dk cx body δ2 | none=>none) = f at ev;refine ⟨G,F,δ,[x,y],δ1,ok,e1,fun vs H1 F1 st sm ok1 r1=>?_⟩;have r:=r1.rl n;unfold aF at r;obtain ⟨v1,_,rfl,q1,r⟩:=r;unfold aF at r;obtain ⟨v2,_,rfl,q2,r⟩:=r;unfold aF at r;subst r;obtain ⟨l1,us1,rfl,s1,_⟩:=mO ex q1;obtain ⟨l2,us2,rfl,s2,_⟩:=mO ey q2;refine ⟨kM x,kM y,l1,l2,us1,us2,rfl,s1,s2,?_⟩;have zl:(iY xs ys').length = min xs.length ys'.length:=by unfold iY;rw [aq,List.length_zip]
     refine ⟨fun i m σ' H'=>∃ F' δ',m = (iY xs ys').length - i/\i<=(iY xs ys').length/\Step G F1 H1 F' H'/\Ok X.K G F' σ' H' δ'/\forL f ((iY xs ys').drop i) δ' = some out,⟨_,F1,δ1,rfl,bC _,Step.refl,ok1,ev⟩,?_⟩;rintro i m σ' H' ⟨F',δ',rfl,hi,st',ok',ev'⟩;obtain ⟨_,w1,ea,t1,rl1⟩:=mO ex (Rel.step ok1.fd st' _ _ q1);cases ea;obtain ⟨_,w2,ea,t2,rl2⟩:=mO ey (Rel.step ok1.fd st' _ _ q2);cases ea;have ll1:=rl1.length;have ll2:=rl2.length;by_cases hlt:i < (iY xs ys').length
     . right;have h1:i < xs.length:=by lia
       have h2:i < ys'.length:=by lia
       obtain ⟨a1,ha1,ra1⟩:=rl1.get (aw h1);obtain ⟨a2,ha2,ra2⟩:=rl2.get (aw h2)
       have edr:(iY xs ys').drop i = .tup [xs[i],ys'[i]]::(iY xs ys').drop (i+1):=by
        have e0:(iY xs ys')[i]? = some (.tup [xs[i],ys'[i]]):=by
         unfold iY;rw [aQ,(List.getElem?_zip_eq_some (z:=(xs[i],ys'[i]))).mpr ⟨aw h1,aw h2⟩];rfl
        rw [eY hlt];congr 1;rw [aw hlt] at e0;exact aM e0
       rw [edr] at ev';unfold forL at ev';refine ⟨⟨w1,w2,a1,a2,t1,t2,ha1,ha2⟩,fun σ2 H2=>∃ m',m' < (iY xs ys').length - i/\∃ F2 δ2,m' = (iY xs ys').length - (i+1)/\i+1<=(iY xs ys').length/\Step G F1 H1 F2 H2/\Ok X.K G F2 σ2 H2 δ2/\forL f ((iY xs ys').drop (i+1)) δ2 = some out,fun σ2 H2 z=>z,fun v H3 hy=>?_⟩;obtain ⟨T,b1,b2,rfl,nT,rfl,y1,y2⟩:=hy;have eb1:b1 = a1:=aM ((y1 _ t1).symm.trans ha1);have eb2:b2 = a2:=aM ((y2 _ t2).symm.trans ha2);subst eb1 eb2;have rx:=gD ok' nT (aF.cons ra1 (aF.cons ra2 aF.nil));have sn:=cj nT (.tup [b1,b2]);have ok3:=ok'.same' sn;have st3:=st'.trans (Step.of_same sn)
       cases hf:f (.tup [xs[i],ys'[i]]) δ' with
       | none=>rw [hf] at ev';cases ev'
       | some o1 =>
         have hf':=hf;rw [<- ef] at hf';dsimp only at hf'
         cases hs:eV δ' tg (.tup [xs[i],ys'[i]]) with
         | none=>rw [hs] at hf';cases hf'
         | some δ2 =>
           rw [hs] at hf';refine mJ ok3 rx hs fun σ2 ok2 _=>⟨G,F',δ2,o1,ok2,hf',?_⟩;rw [hf] at ev'
           cases o1 with
           | nx δ3=>exact fun σ3 H4 F4 s4 k4=>⟨_,by lia,F4,δ3,rfl,hlt,st3.trans s4,k4,ev'⟩
           | ct δ3=>exact fun σ3 H4 F4 s4 k4=>⟨_,by lia,F4,δ3,rfl,hlt,st3.trans s4,k4,ev'⟩
           | bk δ3 =>
             cases ev'
             exact fun σ3 H4 F4 s4 k4=>post σ3 H4 F4 ((st.trans st3).trans s4) k4
           | rt d3 δ3 =>
             cases ev'
             exact fun v σ3 H4 F4 s4 k4 r4=>post v σ3 H4 F4 ((st.trans st3).trans s4) k4 r4
           | ro d3 δ3 =>
             cases ev';exact fun a xs σ3 H4 F4 s4 k4=>post a xs σ3 H4 F4 ((st.trans st3).trans s4) k4
     . left;have hi':i = (iY xs ys').length:=by lia
       refine ⟨⟨w1,w2,t1,t2,by lia⟩,?_⟩;rw [hi',nq] at ev';cases ev';exact post σ' H' F' (st.trans st') ok'
   . cases ev
 . cases ev
end
section
variable {X:Cx} {c:Ck} {cx:Cl} {k:Nat}
theorem NS {c:Ck} {e:E} {z:Expr} {env:Env} {cp:Pos} (h:ckE c e z = true):((backTo cp (starEach [z] env)).all (fun x=>!x.1) && (backToKw cp (keywordEach [] env)).all (fun x=>x.1.isSome)
 && decide (([z]:List Expr).length+([]:List Keyword).length+(if ([]:List Keyword).isEmpty then 0 else 1) < 30)) = true:=by
 rw [cX (cn h)];rfl
theorem uf {i:Nat} {e:E} {x:Str} {z:Expr} {p1 p2 ap cp:Pos} (C:Cok X c cx k) (hx:fZ c i x = true) (hl:ap.endLine = cp.line) (hz:ckE c e z = true) (n:(!bJ e) = true) (he:PE X z (tE X.K cx e)) :
 PS X (.Expr (.Call (.Attribute (.Name x p1) "append" ap) [z] [] cp) p2) (tS X.K (evS cx (.append i e))):=by
 obtain ⟨n1,n2,n3,n4⟩:=C.name hx;have hs:=cX (cn hz) [] X.env;have hA:PA X [z] (tEs X.K cx (.cons e .nil)):=nI (by simp [npS]) he rA hs;refine PS.imp (rX (Jm PySem.F.plainAttrs_list PySem.F.slot_list_append PySem.F.type_list_append qy (jj n1 n2 n3 n4) hA rfl (NS hz) (by simpa using hl) hs rfl)) fun E σ H zz=>?_;obtain ⟨G,F,δ,out,ok,ev,post⟩:=zz;simp only [evS] at ev
 cases q:δ[i]? with
 | none=>rw [q] at ev;cases ev
 | some s =>
   rw [q] at ev
   cases s with
   | no=>cases ev
   | fnc _ _=>cases ev
   | odc _ _=>cases ev
   | val _=>cases ev
   | own ds0 =>
     simp only [aj,ag] at ev;obtain ⟨⟨d,δ1⟩,e1,ev⟩:=ev;dsimp only at ev;obtain ⟨a,xs0,ea,f1,f2,f3,f4⟩:=ok.sl i _ q
     cases q1:δ1[i]? with
     | none=>rw [q1] at ev;cases ev
     | some s1 =>
       rw [q1] at ev
       cases s1 with
       | no=>cases ev
       | fnc _ _=>cases ev
       | odc _ _=>cases ev
       | val _=>cases ev
       | own ds =>
         dsimp only at ev;split at ev
         . rename_i hz';cases ev;refine ⟨.ref a,ea,.inl ⟨rfl,xs0,.inl (.inl f3)⟩,G,F,δ,[d],δ1,ok,by simp [gI,e1],fun vs H1 F1 st sm ok1 r=>?_⟩;obtain ⟨d',ds',v,vs',ed,rfl,rv,rn⟩:=r;cases ed;obtain ⟨_,rfl⟩:=rn;have rv':=dX n rv;obtain ⟨a',xs,ea',g1,g2,g3,g4⟩:=ok1.sl i _ q1;rw [ea] at ea';cases ea';obtain ⟨o1,o2⟩:=ok1.write q1 ea (g4.append (aF.one rv'));exact ⟨a,xs,v,rfl,rfl,g3,by rw [g4.length];exact hz',post σ _ F1 (st.trans o2) o1⟩
         . cases ev
noncomputable def Ny (X:Cx):V->List V->Hp->VK->Prop:=fun x vs H Q=>∃ l b xs zs,x = .ref l/\vs = [.ref b]/\H l = some (.lst xs)/\LsB X.K H b zs/\xs.length+zs.length<=sizeLine/\Q .non (upd H l (.lst (xs++zs)))
theorem Ie:MtM X "list.extend" (Ny X):=by
 intro pins s σ H x vs v us Q I rx rv h;obtain ⟨l,b,xs,zs,rfl,rfl,hH,hB,hz,q⟩:=h;cases rx;obtain ⟨u,rfl,ru⟩:=rv.one;cases ru;obtain ⟨z,its,n,r,hl,e⟩:=I.lstM hH;obtain ⟨its2,n2,r2,e2,z2⟩:=hB.obj I;have hl2:=r2.length;have s1:its.toArray.size = xs.length:=by rw [az];lia
 have s2:its2.toArray.size = zs.length:=by rw [az];lia
 refine xu F.slot_list_extend ⟨_,e,rfl⟩ F.entry_list_extend (F.args_list_extend_2 _ _) (AutoSeq1.list_extend_list_list_0 l its.toArray n b its2.toArray n2 ?_ (by rw [s1];lia) (by lia)) ⟨e,e2,?_⟩
 . rw [s1,s2,Eb hz,Bool.and_false];exact ah
 . refine ⟨.non,_,I.lset (its':=its++its2) hH e (by simp) (r.append r2) (by rw [au];lia),rfl,q⟩
theorem ue {i:Nat} {e:E} {x:Str} {z:Expr} {p1 p2 ap cp:Pos} (C:Cok X c cx k) (hx:fZ c i x = true) (hl:ap.endLine = cp.line) (hz:ckE c e z = true) (n:(!bJ e) = true) (he:PE X z (tE X.K cx e)) :
 PS X (.Expr (.Call (.Attribute (.Name x p1) "extend" ap) [z] [] cp) p2) (tS X.K (evS cx (.extend i e))):=by
 obtain ⟨n1,n2,n3,n4⟩:=C.name hx;have hs:=cX (cn hz) [] X.env;have hA:PA X [z] (tEs X.K cx (.cons e .nil)):=nI (by simp [npS]) he rA hs;refine PS.imp (rX (Jm PySem.F.plainAttrs_list PySem.F.slot_list_extend PySem.F.type_list_extend Ie (jj n1 n2 n3 n4) hA rfl (NS hz) (by simpa using hl) hs rfl)) fun E σ H zz=>?_;obtain ⟨G,F,δ,out,ok,ev,post⟩:=zz;simp only [evS] at ev
 cases q:δ[i]? with
 | none=>rw [q] at ev;cases ev
 | some s =>
   rw [q] at ev
   cases s with
   | no=>cases ev
   | fnc _ _=>cases ev
   | odc _ _=>cases ev
   | val _=>cases ev
   | own ds0 =>
     simp only [aj,ag] at ev;obtain ⟨⟨d,δ1⟩,e1,ev⟩:=ev;obtain ⟨a,xs0,ea,f1,f2,f3,f4⟩:=ok.sl i _ q
     cases d with
     | lst ys =>
       dsimp only at ev
       cases q1:δ1[i]? with
       | none=>rw [q1] at ev;cases ev
       | some s1 =>
         rw [q1] at ev
         cases s1 with
         | no=>cases ev
         | fnc _ _=>cases ev
         | odc _ _=>cases ev
         | val _=>cases ev
         | own ds =>
           dsimp only at ev;split at ev
           . rename_i hz';cases ev;refine ⟨.ref a,ea,.inl ⟨rfl,xs0,.inl (.inl f3)⟩,G,F,δ,[.lst ys],δ1,ok,by simp [gI,e1],fun vs H1 F1 st sm ok1 r=>?_⟩;obtain ⟨d',ds',v,vs',ed,rfl,rv,rn⟩:=r;cases ed;obtain ⟨_,rfl⟩:=rn;have rv':=dX n rv;unfold Rel at rv';obtain ⟨b,zs,rfl,rb,rl⟩:=rv';obtain ⟨a',xs,ea',g1,g2,g3,g4⟩:=ok1.sl i _ q1;rw [ea] at ea';cases ea';obtain ⟨o1,o2⟩:=ok1.write q1 ea (g4.append rl);exact ⟨a,b,xs,zs,rfl,rfl,g3,rb.b,by rw [g4.length,rl.length];exact hz',post σ _ F1 (st.trans o2) o1⟩
           . cases ev
     | _=>cases ev
theorem wd {i:Nat} {j e:E} {x:Str} {y z:Expr} {p1 p2 pos:Pos} (C:Cok X c cx k) (hx:fZ c i x = true) (hy:ckE c e y = true) (n:(!bJ e) = true) (nc:(!gF y) = true) (hz:ckE c j z = true) (nj:(!bJ j) = true) (he:PE X y (tE X.K cx e)) (hj:PE X z (tE X.K cx j)) :
 PS X (.Assign [.Subscript (.Name x p1) z p2] y pos) (tS X.K (evS cx (.setix i j e))):=by
 obtain ⟨n1,n2,n3,n4⟩:=C.name hx;have nc':gF y = false:=by simpa using nc
 have hh:=cn hz;have hh2:=cn hy
 have ha:∀ v,assign (.Subscript (.Name x p1) z p2) X.env v = (do
  let ov <- holding [v] (eval (.Name x p1) X.env)
  let iv <- holding [v,ov] (eval z X.env)
  standAt p2
  holding [v,ov,iv] (setItem ov iv v)
  release [v,ov,iv] []):=by
  intro v;cases z<;>first | rfl | (exact absurd hh ah)
 have hsw:swapsWithSole [.Subscript (.Name x p1) z p2] y pos.line X.env = pure false:=by
  cases y<;>first | rfl | (exact absurd hh2 ah) | (exact absurd nc'.symm ah)
 have hw:swappedStores [.Subscript (.Name x p1) z p2] y X.env = pure none:=by
  cases y<;>first | rfl | (exact absurd hh2 ah)
 refine PS.imp (DA he (Lg (jj n1 n2 n3 n4) hj set_list ha) hsw hw rfl) fun E σ H zz=>?_;obtain ⟨G,F,δ,out,ok,ev,post⟩:=zz;simp only [evS,aj,ag] at ev;obtain ⟨⟨d,δ1⟩,e1,ev⟩:=ev;dsimp only at ev;refine ⟨G,F,δ,d,δ1,ok,e1,fun v H1 F1 st1 sm1 ok1 r1=>?_⟩
 cases q1:δ1[i]? with
 | none=>rw [q1] at ev;cases ev
 | some s1 =>
   rw [q1] at ev
   cases s1 with
   | no=>cases ev
   | fnc _ _=>cases ev
   | odc _ _=>cases ev
   | val _=>cases ev
   | own ds0 =>
     obtain ⟨a,xs0,ea,f1,f2,f3,f4⟩:=ok1.sl i _ q1;simp only [ag] at ev;obtain ⟨⟨dj,δ2⟩,e2,ev⟩:=ev;refine ⟨.ref a,ea,G,F1,δ1,dj,δ2,ok1,e2,fun w H2 F2 st2 sm2 ok2 r2=>?_⟩
     cases dj with
     | int m =>
       have:=r2.b.int;subst this;dsimp only at ev
       cases q2:δ2[i]? with
       | none=>rw [q2] at ev;cases ev
       | some s2 =>
         rw [q2] at ev
         cases s2 with
         | no=>cases ev
         | fnc _ _=>cases ev
         | odc _ _=>cases ev
         | val _=>cases ev
         | own ds =>
           dsimp only at ev;obtain ⟨a',xs,ea',g1,g2,g3,g4⟩:=ok2.sl i _ q2;rw [ea] at ea';cases ea'
           cases q3:ixN ds.length m with
           | none=>rw [q3] at ev;cases ev
           | some mm =>
             rw [q3] at ev;cases ev;have rv:=Rel.step ok1.fd st2 d v (dX n r1);obtain ⟨o1,o2⟩:=ok2.write q2 ea (aF.set rv mm g4)
             exact ⟨a,xs,m,mm,rfl,rfl,g3,by rw [g4.length];exact q3,post σ _ F2 ((st1.trans st2).trans o2) o1⟩
     | _=>cases ev
theorem CQ {x:Stmt}:PS X x (tS X.K (evS cx .bad)):=fun pins s σ H D I h=>by
 obtain ⟨G,F,δ,out,ok,ev,post⟩:=h;have ev:none = some out:=ev;cases ev
theorem Ov {e:E} {y:Expr} (hm:newOk e = true) (C:Cok X c cx k) (h:ckE c e y = true):PE X y (tN X.K cx e):=by
 unfold newOk at hm;split at hm
 . obtain ⟨_,_,rfl,hh⟩:=om h;rw [aa] at hh;exact Dc hh.2 (fq _ X c _ C hh.1 (gR hh.2))
 . rename_i es;obtain ⟨_,_,xs,_,rfl,hh⟩:=dP h;simp only [aa] at hh;obtain ⟨⟨h1,h2⟩,h3⟩:=hh;have e1:=of_decide_eq_true h1;subst e1;have h3:(!xs.isEmpty && ik c es xs && pM es) = true:=h3;simp only [aa] at h3
   cases xs with
   | nil=>simp at h3
   | cons y ys=>exact Af C h2 (fq _ X c _ C h3.1.2 h3.2) h3.1.2
 . obtain ⟨_,_,_,rfl,hh⟩:=jk h;obtain ⟨_,_,o,_,rfl,h9⟩:=yg hh;simp only [aa] at h9;obtain ⟨h0,⟨⟨h1,h2⟩,h3⟩,h4⟩:=h9;obtain rfl:=cL.mp h0;exact Hh (by simpa using h4) (dO _ X c _ C h1) (Hg _ X c _ C h2) (Hg _ X c _ C h3)
 . cases hm
end
section
variable {X:Cx} {c:Ck} {cx:Cl} {k:Nat}
theorem CO (C:Cok X c cx k) (hS:X.env.scope = c.sc) (hB:X.env.blockKind = .function) {own:Bool} {i kk:Nat} {tg:Tg} {src:It} {ifs:Eo} {elt:E} {t:Str} {tp p sp:Pos} {ex:Expr} {gs:List Comprehension} {sc:Scope}
 (hn:fj c i t = true) (h:ckE c (.comp kk tg src ifs elt) (.ListComp ex gs sc p) = true) (hl:c.sc.names.lookup t = some .local) (hp:tp.line = p.line) (hz:(!(sc.names.any fun (n,k)=>n == t && (k == .local || k == .cell))) = true) :
 PS X (.Assign [.Name t tp] (.ListComp ex gs sc p) sp) (tS X.K (evS cx (.cmp own i (.comp kk tg src ifs elt)))):=by
 obtain ⟨n1,n2,n3⟩:=C.to hn;obtain ⟨_,_,_,_,e,hh⟩:=mP h;cases e;obtain ⟨_,rfl,h9⟩:=cY hh;obtain ⟨tgt,it,il,rfl,h10⟩:=DT h9;replace h:=h10
 . split at h
   . rename_i ts ht;simp only [aa] at h;obtain ⟨⟨⟨⟨⟨⟨⟨⟨h1,h2⟩,h3⟩,h4⟩,h5⟩,h6⟩,h7⟩,h8⟩,h9⟩:=h;obtain ⟨nd,hvis⟩:=lq h4;have hk:=lJ (tg:=tg) (c:=c) (of_decide_eq_true h1)
     have hsw:swapsWith (.ListComp ex [⟨tgt,it,il,0⟩] sc p) (some (.Name t tp)) sp.line X.env = pure true:=by
      have e1:X.env.kindOf t = some .local:=by
       show X.env.scope.names.lookup t = some .local;rw [hS];exact hl
      show (pure (X.env.blockKind == .function && X.env.kindOf t == some .local && tp.line == p.line && !(sc.names.any fun (n,k)=>n == t && (k == .local || k == .cell))):Sem Bool) = pure true;rw [hB,e1,hp,hz];congr 1;simp
     intro pins s σ H E I hq
     refine Dv (Nc:=oy ts c.N++ts) (te:=tE X.K cx elt) (tt:=tG X.K cx ifs) (g:=gTg X.K tg) C.xe C.calm (nO C h3) (fun i x hi=>by rw [C.hN] at hi ⊢;exact hvis i x hi) (by rw [C.hN,hk];lia) (KL src X c _ _ C h6)
      (fun cl Ca s H fp=>nH (gw C h3 nd cl Ca s H fp) h5) (fun cl Ca s H fp=>Nq ifs _ _ _ (gw C h3 nd cl Ca s H fp) h7) (fun cl Ca s H fp=>dO elt _ _ _ (gw C h3 nd cl Ca s H fp) h8) (fun v=>tj h6 _ v)
      C.nd' n1 n2 n3 hsw pins s σ H E I ?_
     obtain ⟨G,F,δ,o,ok,ev,post⟩:=hq;simp only [evS,aj,ag] at ev;obtain ⟨⟨d,δ1⟩,e1,ev⟩:=ev
     cases d with
     | lst ds =>
       dsimp only at ev;split at ev
       . rename_i hi;cases ev;refine vd C I h9 hk h2 ok e1 fun p ys xs H1 F1 H2 F2 e st1 st2 hp hg ok2 eD rl sm=>?_;cases e;show E.nx (σ.set i (some (.ref p))) H2
         cases own with
         | true =>
           refine post _ H2 F2 (st1.trans st2) ((ok2.keep).own hi (ok2.rf p (.inr rfl)) hg eD rl fun j s ej ho z=>?_);obtain ⟨a,u,d,e2,_,g2,_⟩:=eK.ow (ok2.sl j _ ej) ho;rw [z] at e2;cases e2
           exact g2.2 (.inr rfl)
         | false =>
           have st':Step G F1 H1 (fun b=>F2 b/\b≠p) H2:=⟨st2.keep,fun b z=>st2.grow b z.1,fun b o r f e=>by
            obtain ⟨a1,a2⟩:=st2.res b o r f e;exact ⟨⟨a1,fun w=>by rw [w,hp] at e;cases e⟩,a2⟩,st2.tb⟩
           refine post _ H2 _ (st1.trans st') ((ok2.leave hg).set hi ?_);unfold Rel;exact ⟨p,xs,rfl,.inl ⟨.inl eD,fun z=>z.2 rfl⟩,aF.less ok2.fd (fun b z=>z.1) rl⟩
       . cases ev
     | _=>cases ev
   . cases h
end
section
variable {X:Cx} {c:Ck} {cx:Cl} {k:Nat} (C:Cok X c cx k) (hS:X.env.scope = c.sc) (hB:X.env.blockKind = .function)
include C hS hB
mutual
theorem He:∀ (s:S) (x:Stmt),ckS c s x = true->PS X x (tS X.K (evS cx s))
 | .asg tg e,x,h=>by
   obtain ⟨_,_,_,rfl,hq1⟩:=gE h;obtain ⟨_,rfl,hq2⟩:=cY hq1;replace h:=hq2
   . simp only [aa] at h;obtain ⟨⟨⟨⟨h1,h2⟩,h3⟩,h4⟩,h5⟩:=h;rw [df] at h5;rcases h5 with h5 | h5
     . exact CT C h5 h1 h2 h3 h4 (dO e X c _ C h2)
     . unfold Jp at h5;split at h5
       . exact CJ C hS hB h5 fun a b q n=>fq _ X c _ C q (gR n)
       . cases h5
 | .new i e,x,h=>by
   obtain ⟨_,_,_,rfl,hq1⟩:=gE h;obtain ⟨_,rfl,hq2⟩:=cY hq1;obtain ⟨_,_,rfl,hq3⟩:=bp hq2;replace h:=hq3
   . simp only [aa] at h;obtain ⟨⟨⟨h1,h2⟩,h3⟩,h4⟩:=h
     exact CK C h1 h2 h3 (Ov h4 C h2)
 | .cmp own i e,x,h=>by
   have h:(EE e && _) = true:=h;rw [aa] at h;obtain ⟨h0,h⟩:=h;cases e<;>first | (cases h0;done) | skip
   obtain ⟨_,_,_,rfl,hh⟩:=gE h;obtain ⟨_,rfl,h2⟩:=cY hh;obtain ⟨_,_,rfl,h3⟩:=sh h2;obtain ⟨_,_,_,_,rfl,h4⟩:=mP h3;simp only [aa] at h4;obtain ⟨⟨⟨⟨a1,a2⟩,a3⟩,a4⟩,a5⟩:=h4
   exact CO C hS hB a1 a2 (of_decide_eq_true a3) (of_decide_eq_true a4) a5
 | .aug i op e,x,h=>by
   obtain ⟨_,_,_,_,rfl,hq1⟩:=DX h;obtain ⟨_,_,rfl,hq2⟩:=bp hq1;replace h:=hq2
   . simp only [aa] at h;obtain ⟨⟨⟨h1,h2⟩,h3⟩,h4⟩:=h
     exact CS C h1 h2 h4 (dO e X c _ C h3)
 | .ret e,x,h=>by
   obtain ⟨_,_,rfl,hq1⟩:=uG h;obtain ⟨_,rfl,hq2⟩:=sg hq1;replace h:=hq2
   . rw [aa] at h
     exact CI h.2 (dO e X c _ C h.1)
 | .retN,x,h=>by
   obtain ⟨y,_,rfl,hh⟩:=uG h;obtain rfl:=cL.mp hh
   exact Aa
 | .ifs t a b,x,h=>by
   obtain ⟨_,_,_,_,rfl,hq1⟩:=oo h;replace h:=hq1
   . simp only [aa] at h
     exact CM (jV t X c _ C h.1.1) (nJ a _ h.1.2) (nJ b _ h.2)
 | .for_ tg src body,x,h=>by
   obtain ⟨_,_,_,_,_,rfl,hq1⟩:=uI h;obtain ⟨rfl,hq2⟩:=dI hq1;replace h:=hq2
   . simp only [aa] at h
     exact CN C h.1.1 (KL src X c _ _ C h.1.2) (fun v=>tj h.1.2 _ v) (nJ body _ h.2)
 | .forZ tg es body,x,h=>by
   obtain ⟨t,it,ys,z,p,rfl,h1⟩:=uI h;obtain ⟨rfl,h2⟩:=dI h1;obtain ⟨n,np,xs,cp,rfl,h3⟩:=dP h2;obtain ⟨u,v,rfl,h4⟩:=jX h3;simp only [aa] at h4;obtain ⟨⟨⟨⟨⟨⟨a1,a2⟩,a3⟩,a4⟩,a5⟩,a6⟩,a7⟩:=h4;have e:=of_decide_eq_true a2;subst e
   exact Ac C a1 a4 (C.global a3).1 (C.blt _ (by decide +kernel)) (fq es X c _ C a5 (gR a6)) a5 a6 (nJ body _ a7)
 | .while_ t body,x,h=>by
   obtain ⟨_,_,_,_,rfl,hq1⟩:=yf h;obtain ⟨rfl,hq2⟩:=dI hq1;replace h:=hq2
   . rw [aa] at h
     exact wc C (jV t X c _ C h.1) (nJ body _ h.2)
 | .append i e,x,h=>by
   obtain ⟨_,_,rfl,hh⟩:=si h;obtain ⟨_,_,_,_,_,rfl,hln,h2⟩:=DQ hh;obtain ⟨_,_,rfl,h3⟩:=bp h2;obtain ⟨_,rfl,h4⟩:=cY h3;simp only [aa] at h4;obtain ⟨⟨⟨a1,a2⟩,a3⟩,a4⟩:=h4;have z:=of_decide_eq_true a1;subst z
   exact uf C a2 hln a3 a4 (dO e X c _ C a3)
 | .extend i e,x,h=>by
   obtain ⟨_,_,rfl,hh⟩:=si h;obtain ⟨_,_,_,_,_,rfl,hln,h2⟩:=DQ hh;obtain ⟨_,_,rfl,h3⟩:=bp h2;obtain ⟨_,rfl,h4⟩:=cY h3;simp only [aa] at h4;obtain ⟨⟨⟨a1,a2⟩,a3⟩,a4⟩:=h4;have z:=of_decide_eq_true a1;subst z
   exact ue C a2 hln a3 a4 (dO e X c _ C a3)
 | .setix i j e,x,h=>by
   obtain ⟨_,_,_,rfl,hq1⟩:=gE h;obtain ⟨_,rfl,hq2⟩:=cY hq1;obtain ⟨_,_,_,rfl,hq3⟩:=jk hq2;obtain ⟨_,_,rfl,hq4⟩:=bp hq3;replace h:=hq4
   . simp only [aa] at h;obtain ⟨⟨⟨⟨⟨h1,h2⟩,h3⟩,h4⟩,h5⟩,h6⟩:=h
     exact wd C h1 h2 h3 h4 h5 h6 (dO e X c _ C h2) (dO j X c _ C h5)
 | .opq _,x,h=>nomatch (h:false = true)
 | .bad,x,h=>CQ
 | .pass,x,h=>by
   obtain ⟨_,⟨_,rfl⟩ | ⟨e,_⟩ | ⟨e,_⟩⟩:=sE h
   . exact Ab
   . cases e
   . cases e
 | .brk,x,h=>by
   obtain ⟨_,⟨e,_⟩ | ⟨_,rfl⟩ | ⟨e,_⟩⟩:=sE h
   . cases e
   . exact CP
   . cases e
 | .cont,x,h=>by
   obtain ⟨_,⟨e,_⟩ | ⟨e,_⟩ | ⟨_,rfl⟩⟩:=sE h
   . cases e
   . cases e
   . exact Ad
theorem nJ:∀ (ss:Ss) (xs:List Stmt),eQ c ss xs = true->PSs X xs (tS X.K (dk cx ss))
 | .nil,xs,h=>by
   obtain ⟨rfl,hq1⟩:=dI h;replace h:=hq1
   . exact ud
 | .cons s ss,xs,h=>by
   obtain ⟨_,_,rfl,hq1⟩:=cM h;replace h:=hq1
   . rw [aa] at h;exact kX (He s _ h.1) (nJ ss _ h.2)
end
end
end PP
end
section
namespace L2
open PySem PySem.Spec PyProof.Rows
noncomputable def less (h:Heap) (l:List Addr):Heap:=⟨h.objs.mapIdx fun i o=>if i∈l then { o with data:=.freed } else o,h.life⟩
theorem gU {h:Heap} {l:List Addr} {b:Addr} (hb:b∈l):(less h l).get? b = none:=by
 unfold less Heap.get?;simp only [vJ]
 cases h.objs[b]? with
 | none=>rfl
 | some o=>simp [hb]
theorem kE {h:Heap} {l:List Addr} {b:Addr} (hb:b∉l):(less h l).get? b = h.get? b:=by
 unfold less Heap.get?;simp only [vJ]
 cases h.objs[b]? with
 | none=>rfl
 | some o=>simp [hb]
theorem ka {h:Heap} {l:List Addr}:(less h l).StaysIn h:=fun b o e=>by
 by_cases hb:b∈l
 . rw [gU hb] at e;cases e
 . rwa [kE hb] at e
theorem mV {h base base':Heap}:∀ {l:List Env},h.FunFrames base l->(∀ b∈frs l,base'.get? b = none)->h.FunFrames base' l
 | [],_,_=>trivial
 | env::r,⟨hk,⟨L,o,hf,hn,ho,hd⟩,hr⟩,k=>by
   have hL:L∈frs (env::r):=by unfold frs;rw [cK,hf];exact ao
   exact ⟨hk,⟨L,o,hf,k L hL,ho,hd⟩,mV hr fun b hb=>k b (by unfold frs at *;rw [cK,hf];exact ak _ hb)⟩
section
variable {P:Program} {w:World} {H:Hp} {h:Heap} {a:Addr} {o:HO}
theorem fJ.there (x:fJ P w H h a o):∃ u,h.get? a = some u:=by
 cases o with
 | lst xs=>obtain ⟨_,_,_,_,e⟩:=x;exact ⟨_,e⟩
 | tup xs=>obtain ⟨_,_,_,_,e,_⟩:=x;exact ⟨_,e⟩
 | dK kvs=>obtain ⟨_,_,_,_,o,_,_,e,_⟩:=x;exact ⟨_,e⟩
 | dT kvs=>obtain ⟨_,_,_,_,o,_,_,e,_⟩:=x;exact ⟨_,e⟩
 | set S n=>obtain ⟨o,_,_,_,e,_⟩:=x;exact ⟨_,e⟩
 | ins C dx fs=>obtain ⟨_,_,_,e,_⟩:=x;exact ⟨_,e⟩
 | own y=>exact x
 | xd fs=>obtain ⟨_,⟨_,_,_,e,_⟩,_⟩:=x;exact ⟨_,e⟩
 | rng lo hi=>obtain ⟨_,_,_,e⟩:=x;exact ⟨_,e⟩
 | frz ob u=>obtain ⟨e,_⟩:=x;exact ⟨_,e⟩
 | tbl ps=>exact ⟨_,show h.get? a = some _ from x⟩
 | met f y=>exact ⟨_,show h.get? a = some _ from x⟩
 | ext φ=>obtain ⟨_,e,_⟩:=x;exact e
theorem HOk.gone (x:HOk P w H h) (e:h.get? a = none):H a = none:=by
 cases q:H a with
 | none=>rfl
 | some u=>obtain ⟨_,z⟩:=(x a u q).there;rw [e] at z;cases z
end
structure Fly (h0:Heap) (H:Hp) (e:Addr) (cls:Value) (h:Heap):Prop where
 new:h0.get? e = none
 fre:H e = none
 tr:∃ oe vs a0 T oT ts,h.get? e = some oe/\(oe.cls = cls/\vs[0]? = some a0)/\oe.data = .fields vs/\vs[1]? = some (.ref T)/\(h0.get? T = none/\H T = none)/\T≠e/\h.get? T = some oT/\oT.data = .fields ts/\ts[3]? = some .none
noncomputable def CXE (P:Program) (w:World):CXT:=fun outer H s E e s'=>∃ a cls H',e = .ref a/\Fly s.heap H' a cls s'.heap/\Un (frs outer) [] H H' s.heap s'.heap/\HOk P w H' s'.heap/\s'.os = s.os/\AllBare s'.gens/\E cls none H'
theorem yx {X:Cx} {pins:List (Addr × Obj)} {σ:St} {H:Hp} {s:Shared} {e T:Addr} {cls a0:Value} {h':Heap} (I:Inv X pins σ H s) (hex:X.ex = []) (hst:X.stack = X.env::X.outer) (hfr:X.env.frame = some X.env.locals)
 (ne:X.s₀.heap.get? e = none) (nT:X.s₀.heap.get? T = none) (fe:H e = none) (fT:H T = none)
 (fl:Heap.FlyingW (less s.heap (e::T::frs X.stack)) X.outer e cls a0 h') (sm:s.heap.UpToSlots h') :
 Fly X.s₀.heap H e cls h'/\Un (frs X.outer) [] X.H₀ H X.s₀.heap h'/\HOk X.prog X.w H h':=by
 obtain ⟨stay,ne',ff,oe,vs,T',oT,ts,he,hc,hd,h1,nT',hTe,hT,hdT,h3⟩:=fl
 have out:∀ b o,s.heap.get? b = some o->b≠e->b≠T->b∉frs X.stack->h'.get? b = some o:=fun b o q n1 n2 n3=>by
  refine stay b o ?_;rw [kE (by simp [n1,n2,n3])];exact q
 have ins:∀ b o,s.heap.get? b = some o->b∈frs X.stack->∃ sl,h'.get? b = some { o with slots:=sl }:=fun b o q hb=>by
  obtain ⟨_,o',ho',nf⟩:=I.stack.mem hb;rw [q] at ho';cases ho';exact sm b o q nf
 have gone:∀ b,s.heap.get? b = none->X.s₀.heap.get? b = none:=fun b q=>by
  cases z:X.s₀.heap.get? b with
  | none=>rfl
  | some o =>
    obtain ⟨o',q'⟩:=I.base.there b o z (by rw [hex];simp);rw [q] at q';cases q'
 have hL0:X.s₀.heap.get? X.env.locals = none:=zi I.ok.above
 have hstk:∀ b,b∈frs X.stack->b = X.env.locals\/b∈frs X.outer:=fun b hb=>by
  rw [hst] at hb;unfold frs at hb;rw [cK,hfr] at hb;exact aD.mp hb
 have hsub:∀ b,b∈frs X.outer->b∈frs X.stack:=fun b hb=>by
  rw [hst];unfold frs;rw [cK,hfr];exact ak _ hb
 have nT2:X.s₀.heap.get? T' = none/\H T' = none:=by
  by_cases hm:T'∈e::T::frs X.stack
  . rcases aD.mp hm with q | hm
    . exact absurd q hTe
    . rcases aD.mp hm with q | hm
      . rw [q];exact ⟨nT,fT⟩
      . obtain ⟨_,o',ho',nf⟩:=I.stack.mem hm;obtain ⟨sl,z⟩:=ins T' o' ho' hm;rw [hT] at z;cases z;exact absurd hdT (nf ts)
  . rw [kE hm] at nT';exact ⟨gone _ nT',I.hok.gone nT'⟩
 refine ⟨⟨ne,fe,oe,vs,a0,T',oT,ts,he,hc,hd,h1,nT2,hTe,hT,hdT,h3⟩,⟨fun b o q n hb _=>?_,fun b o q n hb _=>?_,fun b o q n _=>?_,fun b o q _=>?_,I.base.tups,I.base.frzs,I.base.tbls⟩,fun b o q=>?_⟩
 . refine out b o (I.base.keep b o q n hb (by rw [hex];simp)) ?_ ?_ fun z=>?_
   . rintro rfl;rw [ne] at q;cases q
   . rintro rfl;rw [nT] at q;cases q
   . rcases hstk b z with z | z
     . rw [z,hL0] at q;cases q
     . exact hb z
 . obtain ⟨sl,z⟩:=I.base.slot b o q n hb (by rw [hex];simp);obtain ⟨sl2,z2⟩:=ins b _ z (hsub b hb);exact ⟨sl2,z2⟩
 . exact I.base.free b o q n (by rw [hex];simp)
 . obtain ⟨o',z⟩:=I.base.there b o q (by rw [hex];simp);by_cases hb:b∈frs X.stack
   . obtain ⟨sl,z'⟩:=ins b o' z hb;exact ⟨_,z'⟩
   . refine ⟨o',out b o' z ?_ ?_ hb⟩
     . rintro rfl;rw [ne] at q;cases q
     . rintro rfl;rw [nT] at q;cases q
 . refine (I.hok b o q).stay (fun c u hc z=>out c u z ?_ ?_ ?_) (fun _ z=>z) fun _ _ z=>z
   all_goals have hH:∃ v,H c = some v:=hc.elim (fun z=>⟨o,by rw [z];exact q⟩) fun z=>⟨_,z⟩
   . rintro rfl;obtain ⟨v,z2⟩:=hH;rw [fe] at z2;cases z2
   . rintro rfl;obtain ⟨v,z2⟩:=hH;rw [fT] at z2;cases z2
   . intro z3;obtain ⟨v,z2⟩:=hH;rw [I.stkFree c z3] at z2;cases z2
section
variable {P:Program} {w:World} {K:PySem.W.Frag} {mg:Str->Option Value} {base:Heap} {N:List Str} {qual:Str} {scope:Scope} {f:Addr} {cd:Value} {A:Around} {outer:List Env} {s₀:Shared} {H₀:Hp} {E:XK} {pins:List (Addr × Obj)} {σ:St} {H:Hp} {s:Shared}
theorem Jo:Passes (CXE P w) (jt (CXE P w) P w K mg base N qual scope f cd A outer s₀ H₀ E) E:=fun pins σ H s e s' I h=>by
 obtain ⟨a,cls,H',rfl,fly,un,hok,os,bare,q⟩:=h;obtain ⟨hh,g,d,t,os'⟩:=s';obtain rfl:os' = s.os:=os;have I2:=I.call (h':=hh) (g':=g) (d':=d) (t':=t) (ch:=[]) un hok bare (fun b z=>absurd z (by simp))
 have gone:∀ b,s.heap.get? b = none->s₀.heap.get? b = none:=fun b q=>by
  cases z:s₀.heap.get? b with
  | none=>rfl
  | some o =>
    obtain ⟨o',q'⟩:=I.base.there b o z (show b∉([]:List Addr) by simp);rw [q] at q';cases q'
 obtain ⟨oe,vs,a0,T,oT,ts,he,hc,hd,h1,⟨nT,fT⟩,hTe,hT,hdT,h3⟩:=fly.tr;show wpAny (model P w) _ (leaving _ (.ref a)) _ _ _;refine wpAny_leaves_onW (base:=less hh (a::T::frs (jt (CXE P w) P w K mg base N qual scope f cd A outer s₀ H₀ E).stack)) I.ok.frames rfl ⟨ka,gU ao,mV I2.stack fun b hb=>gU (ak _ (ak _ hb)),oe,vs,T,oT,ts,he,hc,hd,h1,gU (ak _ ao),hTe,hT,hdT,h3⟩ fun h' fl sm=>?_;obtain ⟨z1,z2,z3⟩:=yx I2 rfl rfl rfl (gone a fly.new) (gone T nT) fly.fre fT fl sm;exact ⟨a,cls,H',rfl,z1,z2,z3,I2.os,I2.bare,q⟩
theorem NJ {e:Addr} {cls:Value} {vs:List Value} {h':Heap} (I:Inv (jt (CXE P w) P w K mg base N qual scope f cd A outer s₀ H₀ E) pins σ H s) (hx:Heap.MadeExcOf s.heap h' e cls vs) (q:E cls none H) :
 (jt (CXE P w) P w K mg base N qual scope f cd A outer s₀ H₀ E).xe (.ref e) { s with heap:=h' }:=by
 have gone:∀ b,s.heap.get? b = none->s₀.heap.get? b = none:=fun b q=>by
  cases z:s₀.heap.get? b with
  | none=>rfl
  | some o =>
    obtain ⟨o',q'⟩:=I.base.there b o z (show b∉([]:List Addr) by simp);rw [q] at q';cases q'
 show wpAny (model P w) _ (leaving _ (.ref e)) _ _ _;refine wpAny_leaves_madeW (base:=less s.heap (e::e::frs (jt (CXE P w) P w K mg base N qual scope f cd A outer s₀ H₀ E).stack)) (h:=s.heap) I.ok.frames rfl ka (mV I.stack fun b hb=>gU (ak _ (ak _ hb))) hx fun h'' t fl _ _ sm=>?_;obtain ⟨z1,z2,z3⟩:=yx I rfl rfl rfl (gone e hx.new) (gone e hx.new) (I.hok.gone hx.new) (I.hok.gone hx.new) fl ((Heap.UpToSlots.of_keeps hx.keeps).trans sm);exact ⟨e,cls,H,rfl,z1,z2,z3,I.os,I.bare,q⟩
end
noncomputable def qS (X:Cx) (E:St->XK):Prop:=∀ (pins:List (Addr × Obj)) (σ:St) (H:Hp) (s:Shared) (e:Value) (s':Shared),Inv X pins σ H s->CXE X.prog X.w X.stack H s (E σ) e s'->X.xe e s'
structure Rz (X:Cx) (E:St->XK):Prop where
 pass:qS X E
 made:∀ (pins:List (Addr × Obj)) (σ:St) (H:Hp) (s:Shared) (e:Addr) (cls:Value) (vs:List Value) (h':Heap),Inv X pins σ H s->Heap.MadeExcOf s.heap h' e cls vs->E σ cls none H->X.xe (.ref e) { s with heap:=h' }
theorem Nr {P:Program} {w:World} {K:PySem.W.Frag} {mg:Str->Option Value} {base:Heap} {N:List Str} {qual:Str} {scope:Scope} {f:Addr} {cd:Value} {A:Around} {outer:List Env} {s₀:Shared} {H₀:Hp} {E:XK} :
 Rz (jt (CXE P w) P w K mg base N qual scope f cd A outer s₀ H₀ E) (fun _=>E):=⟨Jo,fun _ _ _ _ _ _ _ _ I hx q=>NJ I hx q⟩
theorem Jj {X:Cx}:Rz X (fun _=>E0):=⟨fun _ _ _ _ _ _ _ h=>by obtain ⟨_,_,_,_,_,_,_,_,_,q⟩:=h;exact q.elim,fun _ _ _ _ _ _ _ _ _ _ q=>q.elim⟩
noncomputable def veB:List Value:=[.type "ValueError",.type "Exception",.type "BaseException",.type "object"]
noncomputable def VE (K:PySem.W.Frag) (C:Addr):Bool:=PySem.W.excIn K C veB "ValueError.__new__"
theorem je {K:PySem.W.Frag} {h:Heap} {C:Addr} (X:K.In h) (q:VE K C = true):∃ bm N nm qn bs hdct sn sub ab col dd k0 k1 k2 k3 k5 mN,h.get? C = some (excClassObj nm qn C N bs bm hdct sn sub ab col dd k0 k1 k2 k3 k5 "ValueError.__new__")/\h.Ns N mN/\mN "__init__" = none/\OwnTail h veB bm:=by
 unfold VE PySem.W.excIn at q;split at q
 . rename_i dd cd sl ho;split at q
   . rename_i C' bm k0 k1 k2 k3 n k5 hm hs;simp only [aa,beq_iff_eq,lX] at q;obtain ⟨⟨⟨⟨⟨rfl,rfl⟩,hdel⟩,ht⟩,hok⟩,hni⟩:=q;obtain ⟨nm,bs,mro,ns,qn,hd,sn,sub,ab,col,del⟩:=cd;dsimp only at hm hdel hok hni;subst hm hdel
     have hsl:sl = #[k0,k1,k2,k3,some (.builtin "ValueError.__new__"),k5]:=by
      obtain ⟨l⟩:=sl;simp only at hs;rw [hs]
     subst hsl;exact ⟨bm,ns,nm,qn,bs,hd,sn,sub,ab,col,dd,k0,k1,k2,k3,k5,_,X _ _ ho,.of_isNs (PySem.W.isNs_of_in X hok),PySem.W.nsMap_none_of_in X hok hni,PySem.W.tail_of_in X ht⟩
   . cases q
 . cases q
theorem Dt {X:Cx} {E:St->XK} {x t:Str} {C:Addr} {np cp j2 pos:Pos} {j:Nat} (R:Rz X E) (hc:X.calm = true) (hg:Gl X x) (hm:X.mg x = some (.ref C)) (hC:VE X.K C = true) (hd:(x == ("__debug__":Str)) = false) :
 PS X (.Raise (some (.Call (.Name x np) [.Constant (.str t) j j2] [] cp)) none pos) (fun _ σ H=>E σ (.ref C) none H):=by
 intro pins s σ H D I h;obtain ⟨tl,N,nm,q,bs,hdct,sn,sub,ab,col,dd,k0,k1,k2,k3,k5,mN,hC,hN,hni,T⟩:=je I.mod.kin hC
 refine wpAny_Raise_call_subT (C:=C) (nm:=nm) (q:=q) (N:=N) (bs:=bs) (bm:=tl) (hdct:=hdct) (sn:=sn) (sub:=sub) (ab:=ab) (col:=col) (dd:=dd) (k0:=k0) (k1:=k1) (k2:=k2) (k3:=k3) (k5:=k5)
  PySem.F.excBase_ValueError (mN:=mN) (T.hasType PySem.F.excBase_ValueError.hasBase) (I.ok.hd hc) rfl hni (jH I hg hm ⟨rfl,?_⟩ hd)
 have ha:PA X [.Constant (.str t) j j2] (kv (tC (.str t)) zV):=fb DD iI;refine xy (thn (ha cp pins s σ H (fun vs H1=>vs.length = 1/\H1 = H) I ⟨rfl,rfl⟩) fun us s2 ⟨vs,H2,I2,r,hl,hH⟩=>?_);refine ⟨rfl,?_,I2.bk _ _ hC,hN.keeps I2.bk,T.keeps I2.bk,fun h' e hx=>R.made pins σ H2 s2 e _ _ h' I2 hx (by rw [hH];exact h)⟩;show us.length<=sizeLine;rw [<- r.length,hl];decide
section
variable {X:Cx}
theorem PA.nox {es:List Expr} {t:TA} (h:PA X.nox es t):PA X es t:=fun pos pins s σ H Q I hw =>
 cN (h pos pins s σ H Q (I.wish _) hw) (fun _ _ ⟨v,H',I',r,q⟩=>⟨v,H',I'.unwish,r,q⟩) fun _ _ z=>False.elim z
theorem PS.nox {st:Stmt} {t:TS} (h:PS X.nox st t):PS X st t:=fun pins s σ H D I hw =>
 cN (h pins s σ H D (I.wish _) hw) (fun _ _ q=>q.unwish) fun _ _ z=>False.elim z
theorem PS.or {st:Stmt} {t u:TS} (h:PS X st t) (h':PS X st u):PS X st (fun D σ H=>t D σ H\/u D σ H):=fun pins s σ H D I hw=>hw.elim (h pins s σ H D I) (h' pins s σ H D I)
theorem DK {E:St->XK} {k:Nat} {f:Addr} {fd:FuncData} {ps:List Str} {sp:Sp} {x:Str} {e:Expr} {es:List Expr} {t:TA} {p pos:Pos} (R:qS X E) (F:gf X.prog X.w X.K X.mg X.base (CXE X.prog X.w) k f fd ps sp) (hr:iT k X.A) (hg:Gl X x) (hm:X.mg x = some (.ref f)) (hk:PySem.W.keepIn X.K (.ref f) = true) (hb:Binds X.K fd ps [])
 (ha:PA X (e::es) t) (hdb:(x == ("__debug__":Str)) = false) (he:starEach (e::es) X.env = (false,eval e X.env)::starEach es X.env) (hpl:(backTo pos (starEach es X.env)).any (·.1) = false) :
 PE X (.Call (.Name x p) (e::es) [] pos) (fun σ H Q=>t σ H fun vs H1=>sp vs H1 Q (E σ)):=by
 intro pins s σ H Q I h;refine fR (jH I hg hm ?_ hdb);refine PySem.W.callWith_K (h₀:=X.base) I.ok.mod.kin hk (thn (ha pos pins s σ H _ I h) fun us s1 ⟨vs,H1,I1,r,q⟩=>⟨I1.kIn,?_⟩) he hpl;have hl:us.length = ps.length:=by rw [<- r.length];exact F.len _ _ _ _ q
 have hb2:=hb s1 us I1.kIn (by rw [cc];exact hl);rw [cc] at hb2;refine MG (ir (F.run X.A X.stack s1 H1 ⟨us,[]⟩ us vs Q (E σ) hr I1.env0 hb2 r q) fun r s' hq=>?_)
 cases r with
 | error e=>exact R pins σ H1 s1 e s' I1 hq
 | ok fl =>
   cases fl with
   | ret u=>exact I1.after hq
   | next=>exact False.elim hq
   | brk=>exact False.elim hq
   | cont=>exact False.elim hq
end
section
variable {M:Model} {A:Around} {E:Value->Shared->Prop}
variable {nm q nm' q':Str} {C N C' N':Addr} {bs bm bs' bm':List Value} {hdct hdct':Bool} {sn sn':List Str} {sub sub':List Value} {ab ab':Bool} {col col':Option Bool} {dd dd':Option Addr} {k0 k1 k2 k3 k5 l0 l1 l2 l3 l5:Option Value} {newId newId':String}
theorem Ay {h:Heap} {g:Array GenState} {d:Drawn} {t:Nat} {os:OsState} {e:Addr} {oe:Obj} {Q:Bool->Shared->Prop}
 (hC:h.get? C = some (excClassObj nm q C N bs bm hdct sn sub ab col dd k0 k1 k2 k3 k5 newId)) (hP:h.get? C' = some (excClassObj nm' q' C' N' bs' bm' hdct' sn' sub' ab' col' dd' l0 l1 l2 l3 l5 newId'))
 (he:h.get? e = some oe) (hcls:oe.cls = .ref C) (hbase:bm'.contains (.type "BaseException") = true)
 (hq:Q ((Value.ref C::bm).contains (.ref C')) ⟨h,g,d,t,os⟩):wpAny M A (excMatches (.ref e) (.ref C')) Q E ⟨h,g,d,t,os⟩:=by
 have hcB:(Value.ref C'::bm').contains (.type "BaseException") = true:=by rw [fB,hbase,vH]
 have f:=tc_notTuple;unfold excMatches
 repeat (first | (with_reducible refine bq he ?_;rw [hcls]) | with_reducible refine bq hP ?_ | (with_reducible refine dv hP ?_;rw [hcB]) | (with_reducible refine dv hC ?_) | wp_step)
 cases hb:(Value.ref C::bm).contains (.ref C')<;>(rw [hb] at hq;wp_walk;exact hq)
end
section
variable {X:Cx} {pins:List (Addr × Obj)} {σ:St} {H:Hp} {s:Shared} {h':Heap}
theorem Inv.over {l:List Addr} {t':Nat} (I:Inv X pins σ H s) (hex:X.ex = []) (hl:∀ b∈l,X.s₀.heap.get? b = none/\b≠X.env.locals/\(∀ x c,X.env.cells.lookup x = some c->c≠b)/\∀ p∈X.pn++pins,p.1≠b)
 (keep:∀ b o,b∉frs X.stack->b∉l->s.heap.get? b = some o->h'.get? b = some o) (slot:∀ b o,b∈frs X.stack->s.heap.get? b = some o->∃ sl,h'.get? b = some { o with slots:=sl }) (hok:HOk X.prog X.w H h') :
 Inv X pins σ H { s with heap:=h',toks:=t' }:=by
 have any:∀ b o,b∉l->s.heap.get? b = some o->∃ sl,h'.get? b = some { o with slots:=sl }:=fun b o n e=>by
  by_cases hb:b∈frs X.stack
  . exact slot b o hb e
  . exact ⟨o.slots,keep b o hb n e⟩
 have nl:∀ b o,X.s₀.heap.get? b = some o->b∉l:=fun b o e z=>by rw [(hl b z).1] at e;cases e
 have nL:∀ b o,X.s₀.heap.get? b = some o->b≠X.env.locals:=fun b o e=>aC (aK (ar e) I.ok.above);have ni:∀ b,b∉X.ex:=fun b=>by rw [hex];simp
 have nst:∀ b,b≠X.env.locals->b∉X.fs->b∉frs X.stack:=fun b h1 h2 z=>(aD.mp (I.stkSub b z)).elim h1 h2;have nlc:X.env.locals∉l:=fun z=>(hl _ z).2.1 rfl
 have cellK:∀ x c,X.env.cells.lookup x = some c->∀ v,s.heap.IsCell c v->h'.IsCell c v:=fun x c e v zz=>by
  obtain ⟨o,ho,hd⟩:=zz;obtain ⟨sl,q⟩:=any c o (fun z=>(hl c z).2.2.1 x c e rfl) ho;exact ⟨_,q,hd⟩
 refine ⟨I.ok,I.os,I.bare,⟨fun b o e n hb hx=>?_,fun b o e n hb hx=>?_,fun b o e n hx=>I.base.free b o e n hx,fun b o e hx=>?_,I.base.tups,I.base.frzs,I.base.tbls⟩,?_,fun x c e=>?_,I.free,I.freeC,fun p hp=>?_,hok,I.len⟩
 . exact keep b o (nst b (nL b o e) hb) (nl b o e) (I.base.keep b o e n hb hx)
 . obtain ⟨sl,q⟩:=I.base.slot b o e n hb hx;obtain ⟨sl2,q2⟩:=any b _ (nl b o e) q;exact ⟨sl2,q2⟩
 . obtain ⟨o',q⟩:=I.base.there b o e hx;obtain ⟨sl2,q2⟩:=any b _ (nl b o e) q;exact ⟨_,q2⟩
 . obtain ⟨m,⟨o,es,ep,ho,r⟩,hv⟩:=I.loc;obtain ⟨sl,q⟩:=any _ o nlc ho;refine ⟨m,⟨_,es,ep,q,r⟩,fun i x v e1 e2 e3=>?_⟩;obtain ⟨u,rv,lk⟩:=hv i x v e1 e2 e3;refine ⟨u,rv,?_⟩;rcases lk with lk | ⟨k,c,e,z⟩
   . exact .inl lk
   . exact .inr ⟨k,c,e,cellK x c e _ z⟩
 . obtain ⟨v,z⟩:=I.cell x c e;exact ⟨v,cellK x c e v z⟩
 . obtain ⟨e,n,ne,nf,d⟩:=I.pin p hp;exact ⟨keep p.1 p.2 (nst p.1 ne nf) (fun z=>(hl p.1 z).2.2.2 p hp rfl) e,n,ne,nf,d⟩
theorem Inv.fly {e T:Addr} {t':Nat} (I:Inv X pins σ H s) (hex:X.ex = []) (fe:H e = none) (fT:H T = none)
 (hl:∀ b∈[e,T],X.s₀.heap.get? b = none/\b≠X.env.locals/\(∀ x c,X.env.cells.lookup x = some c->c≠b)/\∀ p∈X.pn++pins,p.1≠b)
 (stay:(less s.heap (e::T::frs X.stack)).StaysIn h') (sm:s.heap.UpToSlots h'):Inv X pins σ H { s with heap:=h',toks:=t' }:=by
 have keep:∀ b o,b∉frs X.stack->b∉[e,T]->s.heap.get? b = some o->h'.get? b = some o:=fun b o n1 n2 q=>by
  refine stay b o ?_;rw [kE]
  . exact q
  . intro z;rcases aD.mp z with z | z
    . exact n2 (by rw [z];simp)
    . rcases aD.mp z with z | z
      . exact n2 (by rw [z];simp)
      . exact n1 z
 refine I.over hex hl keep (fun b o hb q=>?_) fun b o q=>?_
 . obtain ⟨_,o',ho',nf⟩:=I.stack.mem hb;rw [q] at ho';cases ho';exact sm b o q nf
 . refine (I.hok b o q).stay (fun c u hc z=>keep c u ?_ ?_ z) (fun _ z=>z) fun _ _ z=>z
   all_goals have hH:∃ v,H c = some v:=hc.elim (fun z=>⟨o,by rw [z];exact q⟩) fun z=>⟨_,z⟩
   . intro z3;obtain ⟨v,z2⟩:=hH;rw [I.stkFree c z3] at z2;cases z2
   . intro z3;obtain ⟨v,z2⟩:=hH;rcases aD.mp z3 with z3 | z3
     . rw [z3,fe] at z2;cases z2
     . rw [cR.mp z3,fT] at z2;cases z2
end
noncomputable def subIn (K:PySem.W.Frag) (C P:Addr):Bool:=match K.lookup C with
 | some ⟨_,_,.cls cd,_⟩=>cd.mro.contains (.ref P)
 | _=>false
theorem vY {K:PySem.W.Frag} {h:Heap} {C P N:Addr} {nm q:Str} {bs bm:List Value} {hdct:Bool} {sn:List Str} {sub:List Value} {ab:Bool} {col:Option Bool} {dd:Option Addr} {k0 k1 k2 k3 k5:Option Value} {newId:String} {b:Bool} (X:K.In h) (e:subIn K C P = b) (hv:VE K C = true)
 (hC:h.get? C = some (excClassObj nm q C N bs bm hdct sn sub ab col dd k0 k1 k2 k3 k5 newId)):(Value.ref C::bm).contains (.ref P) = b:=by
 unfold subIn at e;split at e
 . rename_i ho;have z:=X _ _ ho;rw [hC] at z;cases z;exact e
 . rename_i hn;unfold VE PySem.W.excIn at hv;split at hv
   . rename_i ho;exact absurd ho (hn _ _ _ _)
   . cases hv
abbrev Cx.mrk (X:Cx) (e:Addr):Cx:={ X with A:=X.A.mark (some (.ref e)),calm:=false,xe:=fun _ _=>False }
theorem Cx.Ok.mrk {X:Cx} (ok:X.Ok) (e:Addr):(X.mrk e).Ok :=
 ⟨ok.mod,ok.kind,ok.glob,ok.blt,ok.above,ok.inj,ok.has,ok.cab,(fun z=>nomatch z),ok.frames,ok.stk,ok.exf,ok.bs,ok.bsz,ok.noex,ok.exfs,ok.funs,ok.frf⟩
theorem Inv.mrk {X:Cx} {pins:List (Addr × Obj)} {σ:St} {H:Hp} {s:Shared} (I:Inv X pins σ H s) (e:Addr):Inv (X.mrk e) pins σ H s:=⟨I.ok.mrk e,I.os,I.bare,I.base,I.loc,I.cell,I.free,I.freeC,I.pin,I.hok,I.len⟩
theorem Inv.unmrk {X:Cx} {pins:List (Addr × Obj)} {σ:St} {H:Hp} {s:Shared} {e:Addr} (ok:X.Ok) (I:Inv (X.mrk e) pins σ H s):Inv X pins σ H s:=⟨ok,I.os,I.bare,I.base,I.loc,I.cell,I.free,I.freeC,I.pin,I.hok,I.len⟩
section
variable {X:Cx} {pins:List (Addr × Obj)} {σ:St} {H:Hp} {s s':Shared} {E:XK} {e:Value} {x n:Str} {P:Addr} {np hp:Pos} {b₀:Stmt} {suite:List Stmt} {rest:List ExceptHandler} {Q:Flow->Shared->Prop} {EX:Value->Shared->Prop}
theorem Mv (I:Inv X pins σ H s) (h:CXE X.prog X.w X.stack H s E e s') (hex:X.ex = []) (hst:X.stack = X.env::X.outer) (hfr:X.env.frame = some X.env.locals) (hg:Gl X x) (hm:X.mg x = some (.ref P)) (hP:VE X.K P = true) (hd:(x == ("__debug__":Str)) = false)
 (k:∀ (cls:Value) (H':Hp),E cls none H'->∃ C,cls = .ref C/\VE X.K C = true/\subIn X.K C P = true/\∀ (a:Addr) (s2:Shared) (oe:Obj) (vs:Array Value),(Inv X ((a,oe)::pins) σ H' s2->oe.cls = .ref C->oe.data = .fields vs ->
   wpAny (model X.prog X.w) (X.A.mark (some (.ref a))) (storeName X.env n (.ref a)) (fun _ s₃=>wpAny (model X.prog X.w) (X.A.mark (some (.ref a))) (execs (b₀::suite) X.env)
    (fun f s₄=>wpAny (model X.prog X.w) X.A (do bindName X.env n .none;unbindBehindTheSuite X.env n hp) (fun _ s₅=>Q f s₅) (fun _ _=>False) s₄) (fun _ _=>False) s₃) (fun _ _=>False) s2)) :
 wpAny (model X.prog X.w) X.A (noteFrame e X.env) (fun _ s₂=>wpAny (model X.prog X.w) X.A (setFlight e none) (fun _ s₃ =>
  wpAny (model X.prog X.w) X.A (handleBy e X.env (.ExceptHandler (some (.Name x np)) (some n) (b₀::suite) hp::rest)) Q EX s₃) EX s₂) EX s':=by
 obtain ⟨a,cls,H',rfl,fly,un,hok,os,bare,q⟩:=h;obtain ⟨hh,g,d,t,os'⟩:=s';obtain rfl:os' = s.os:=os;have I2:=I.call (h':=hh) (g':=g) (d':=d) (t':=t) (ch:=[]) un hok bare (fun b z=>absurd z (by simp));obtain ⟨oe,vs,a0,T,oT,ts,he,hc,hdt,h1,⟨nT,fT⟩,hTe,hT,hdT,h3⟩:=fly.tr
 have hl:∀ b∈[a,T],X.s₀.heap.get? b = none/\b≠X.env.locals/\(∀ x c,X.env.cells.lookup x = some c->c≠b)/\∀ p∈X.pn++pins,p.1≠b:=fun b hb=>by
  have nb:s.heap.get? b = none:=by
   rcases aD.mp hb with z | z
   . rw [z];exact fly.new
   . rw [cR.mp z];exact nT
  refine ⟨?_,?_,fun y c e z=>?_,fun p hp z=>?_⟩
  . cases z:X.s₀.heap.get? b with
    | none=>rfl
    | some o =>
      obtain ⟨o',q'⟩:=I.base.there b o z (by rw [hex];simp);rw [nb] at q';cases q'
  . obtain ⟨m,⟨o,_,_,ho,_⟩,_⟩:=I.loc;intro z;rw [z,ho] at nb;cases nb
  . obtain ⟨v,o,ho,_⟩:=I.cell y c e;rw [z,nb] at ho;cases ho
  . have ho:=(I.pin p hp).1;rw [z,nb] at ho;cases ho
 refine wpAny_looks_onW (base:=less hh (a::T::frs X.stack)) (outer:=X.outer) (by rw [<- hst];exact I.ok.frames) hfr ⟨ka,gU ao,by rw [<- hst];exact mV I2.stack fun b hb=>gU (ak _ (ak _ hb)),oe,vs,T,oT,ts,he,hc,hdt,h1,gU (ak _ ao),hTe,hT,hdT,h3⟩ fun h4 held4 sm4=>?_;refine wpAny_landsW held4 fun h5 fl5 sm5=>?_;have I5:=I2.fly (t':=t) hex fly.fre fT hl fl5.1 (sm4.trans sm5);refine wpAny_handleBy_cons (codeAny_handlers_test (jH (X:=X.mrk a) (I5.mrk a) hg hm ?_ hd)) (by intro q;cases q);obtain ⟨C,rfl,vC,sC,k⟩:=k cls H' q;obtain ⟨tl,N,nm,qn,bs,hdct,sn,sub,ab,col,dd,k0,k1,k2,k3,k5,mN,hC,hN,hni,TL⟩:=je I5.kIn vC;obtain ⟨tl',N',nm',qn',bs',hdct',sn',sub',ab',col',dd',l0,l1,l2,l3,l5,mN',hC',hN',hni',TL'⟩:=je I5.kIn hP;obtain ⟨ob,hob,hobc⟩:=fl5.there;refine Ay hC hC' hob hobc (TL'.hasType rfl) ?_;rw [vY I5.kIn sC vC hC];refine codeAny_handlers_suite_as ?_;refine lands_againW fl5 fun h6 fl6 sm6=>?_;have I6:=I2.fly (t':=t) hex fly.fre fT hl fl6.1 ((sm4.trans sm5).trans sm6);obtain ⟨oe6,vs6,he6,hc6,hd6,_⟩:=fl6.first;have ha:=hl a ao
 have nfs:a∉X.fs:=fun z=>by
  obtain ⟨_,o,ho,nf⟩:=I6.funs.mem z;rw [he6] at ho;cases ho;exact nf _ hd6
 have I7:Inv X ((a,oe6)::pins) σ H' { (⟨hh,g,d,t,s.os⟩:Shared) with heap:=h6,toks:=t }:=⟨I6.ok,I6.os,I6.bare,I6.base,I6.loc,I6.cell,I6.free,I6.freeC,fun p hp=>by
  rcases bI.mp hp with z | z
  . exact I6.pin p (aU _ z)
  . rcases aD.mp z with z | z
    . rw [z];exact ⟨he6,fly.fre,ha.2.1,nfs,fun v z=>by rw [hd6] at z;cases z⟩
    . exact I6.pin p (aL _ z),I6.hok,I6.len⟩
 refine cN (k a _ oe6 vs6 I7 hc6 hd6) (fun _ s₃ h₃=>cN h₃ (fun f s₄ h₄=>?_) fun _ _ z=>False.elim z) fun _ _ z=>False.elim z;exact cN h₄ (fun _ _ z=>z) fun _ _ z=>False.elim z
end
section
variable {X:Cx} {pins:List (Addr × Obj)} {σ:St} {H:Hp} {s:Shared}
theorem jG {M:Model} {A:Around} {E:Value->Shared->Prop} {i:Nat} {x:Str} {pos:Pos} {Q:Unit->Shared->Prop} (I:Inv X pins σ H s) (hN:X.N.Nodup) (hi:X.N[i]? = some x) (hx:X.env.kindOf x = some .local)
 (h:∀ s',Inv X pins (σ.set i none) H s'->Q () s'):wpAny M A (do bindName X.env x .none;unbindBehindTheSuite X.env x pos) Q E s:=by
 obtain ⟨m,hn,hl⟩:=id I.loc;refine wpAny_nameGoes_keeps hx hn (by rw [I.ok.kind];rfl) fun h' v hn' hs=>h _ ?_;have keep:∀ b o,b≠X.env.locals->s.heap.get? b = some o->h'.get? b = some o:=fun b o hb e=>(hs.2 b hb).trans e;have nL:∀ b o,X.s₀.heap.get? b = some o->b≠X.env.locals:=fun b o e=>aC (aK (ar e) I.ok.above);refine ⟨I.ok,I.os,I.bare,⟨fun b o e n hb hx=>?_,fun b o e n hb hx=>?_,fun b o e n hx=>I.base.free b o e n hx,fun b o e hx=>?_,I.base.tups,I.base.frzs,I.base.tbls⟩,?_,fun y c e=>?_,I.free,I.freeC,fun p hp=>?_,fun b o e=>?_,by rw [aW];exact I.len⟩
 . exact keep b o (nL b o e) (I.base.keep b o e n hb hx)
 . obtain ⟨sl,q⟩:=I.base.slot b o e n hb hx;exact ⟨sl,keep b _ (nL b o e) q⟩
 . obtain ⟨o',q⟩:=I.base.there b o e hx;exact ⟨o',keep b _ (nL b o e) q⟩
 . refine ⟨_,hn',fun j y w e1 e2 e3=>?_⟩
   have hj:j≠i:=by
    rintro rfl;rw [List.getElem?_set] at e2;simp only [↓reduceIte] at e2;split at e2<;>cases e2
   have e2':σ[j]? = some (some w):=by
    rw [aI (Ne.symm hj)] at e2;exact e2
   have ny:y≠x:=by
    rintro rfl;exact hj ((List.getElem?_inj (aB.mp e1).1 hN).mp (e1.trans hi.symm))
   obtain ⟨u,r,lk⟩:=hl j y w e1 e2' e3;refine ⟨u,r,?_⟩;rcases lk with ⟨k,z⟩ | ⟨k,c,e,⟨o,ho,hd⟩⟩
   . refine .inl ⟨k,?_⟩;show (if y = x then v else m y) = some u;rw [if_neg ny];exact z
   . exact .inr ⟨k,c,e,o,keep c o (I.cne y c e) ho,hd⟩
 . obtain ⟨v,o,ho,hd⟩:=I.cell y c e;exact ⟨v,o,keep c o (I.cne y c e) ho,hd⟩
 . obtain ⟨e,n,ne,nf,d⟩:=I.pin p hp;exact ⟨keep _ _ ne e,n,ne,nf,d⟩
 . refine (I.hok b o e).stay (fun c u hc z=>keep c u ?_ z) (fun _ z=>z) fun _ _ z=>z;rintro rfl;rcases hc with z2 | z2
   . rw [<- z2,I.free] at e;cases e
   . rw [I.free] at z2;cases z2
end
noncomputable def PSa (X:Cx) (a C:Addr) (st:List Stmt) (t:TS):Prop:=∀ (oe:Obj) (vs:Array Value) (pins:List (Addr × Obj)) (s:Shared) (σ:St) (H:Hp) (D:Ends),oe.cls = .ref C->oe.data = .fields vs->Inv (X.mrk a) ((a,oe)::pins) σ H s->t D σ H ->
 wpAny (model X.prog X.w) (X.mrk a).A (execs st X.env) (SP (X.mrk a) ((a,oe)::pins) D) (fun _ _=>False) s
theorem Inv.unpin {X:Cx} {pins:List (Addr × Obj)} {q:Addr × Obj} {σ:St} {H:Hp} {s:Shared} (I:Inv X (q::pins) σ H s):Inv X pins σ H s :=
 ⟨I.ok,I.os,I.bare,I.base,I.loc,I.cell,I.free,I.freeC,fun p hp=>I.pin p ((bI.mp hp).elim (aU _) fun z=>aL _ (ak _ z)),I.hok,I.len⟩
abbrev Cx.tried (X:Cx) (pn:List (Addr × Obj)) (xe:Value->Shared->Prop):Cx:={ X with pn:=pn,xe:=xe }
theorem Cx.Ok.tried {X:Cx} (ok:X.Ok) (pn:List (Addr × Obj)) (xe:Value->Shared->Prop):(X.tried pn xe).Ok :=
 ⟨ok.mod,ok.kind,ok.glob,ok.blt,ok.above,ok.inj,ok.has,ok.cab,ok.hd,ok.frames,ok.stk,ok.exf,ok.bs,ok.bsz,ok.noex,ok.exfs,ok.funs,ok.frf⟩
section
variable {X:Cx} {pins pins':List (Addr × Obj)} {σ:St} {H:Hp} {s:Shared} {xe:Value->Shared->Prop}
theorem Inv.tried (I:Inv X pins σ H s):Inv (X.tried (X.pn++pins) xe) [] σ H s:=⟨I.ok.tried _ _,I.os,I.bare,I.base,I.loc,I.cell,I.free,I.freeC,fun p hp=>I.pin p (by simpa using hp),I.hok,I.len⟩
theorem Inv.untried (ok:X.Ok) (I:Inv (X.tried (X.pn++pins) xe) pins' σ H s):Inv X pins σ H s:=⟨ok,I.os,I.bare,I.base,I.loc,I.cell,I.free,I.freeC,fun p hp=>I.pin p (aU _ hp),I.hok,I.len⟩
theorem SP.untried {D:Ends} {f:Flow} {s':Shared} (ok:X.Ok) (h:SP (X.tried (X.pn++pins) xe) pins' D f s'):SP X pins D f s':=by
 cases f with
 | next=>obtain ⟨σ',H',I,q⟩:=h;exact ⟨σ',H',I.untried ok,q⟩
 | brk=>obtain ⟨σ',H',I,q⟩:=h;exact ⟨σ',H',I.untried ok,q⟩
 | cont=>obtain ⟨σ',H',I,q⟩:=h;exact ⟨σ',H',I.untried ok,q⟩
 | ret u=>obtain ⟨v,σ',H',I,r,q⟩:=h;exact ⟨v,σ',H',I.untried ok,r,q⟩
end
theorem KY {X:Cx} {i:Nat} {x n:Str} {P:Addr} {np hp pos:Pos} {body:List Stmt} {b₀:Stmt} {suite:List Stmt} {tb:(St->XK)->TS} {ts:Addr->Addr->TS} (hex:X.ex = []) (hst:X.stack = X.env::X.outer) (hfr:X.env.frame = some X.env.locals)
 (hg:Gl X x) (hm:X.mg x = some (.ref P)) (hP:VE X.K P = true) (hd:(x == ("__debug__":Str)) = false) (hN:X.N.Nodup) (hi:X.N[i]? = some n) (hx:X.env.kindOf n = some .local) (hx2:X.env.scope.names.lookup n = some .local)
 (hb:∀ (E:St->XK) (pn:List (Addr × Obj)) (xe:Value->Shared->Prop),qS (X.tried pn xe) E->PSs (X.tried pn xe) body (tb E))
 (hs:∀ a C,PSa X a C (b₀::suite) (ts a C)) :
 PS X (.Try body [.ExceptHandler (some (.Name x np)) (some n) (b₀::suite) hp] [] [] pos) (fun D σ H=>∃ E:St->XK,tb E D σ H/\∀ σ1 cls H1,E σ1 cls none H1->∃ C,cls = .ref C/\VE X.K C = true/\subIn X.K C P = true /\
  ∀ a,ts a C { nx:=fun σ H=>D.nx (σ.set i none) H,rt:=D.rt,bk:=fun σ H=>D.bk (σ.set i none) H,ct:=fun σ H=>D.ct (σ.set i none) H } (σ1.set i (some (.ref a))) H1):=by
 intro pins s σ H D I h;obtain ⟨E,hb1,hs1⟩:=h;refine wpAny_Try_except (cN (hb E (X.pn++pins) _ (fun pins' σ1 H1 s1 e s' I1 hc=>?_) [] s σ H D I.tried hb1) (fun f s1 h1=>?_) fun _ _ z=>z)
 . refine Mv (Q:=SP X pins D) (EX:=X.xe) (I1.untried I.ok) hc hex hst hfr hg hm hP hd fun cls H2 q=>?_;obtain ⟨C,e1,e2,e3,k⟩:=hs1 σ1 cls H2 q;refine ⟨C,e1,e2,e3,fun a s2 oe vs I2 c1 c2=>?_⟩;refine gA I2 hN hi (.inl hx2) (v:=.ref a) rfl (fun s3 I3=>?_) (.inr hx2);refine cN (hs a C oe vs pins s3 _ H2 _ c1 c2 (I3.mrk a) (k a)) (fun f s4 h4=>?_) fun _ _ z=>z
   cases f with
   | next =>
     obtain ⟨σ4,H4,I4,q4⟩:=h4
     exact jG (I4.unmrk I.ok).unpin hN hi hx fun s5 I5=>⟨_,_,I5,q4⟩
   | brk =>
     obtain ⟨σ4,H4,I4,q4⟩:=h4
     exact jG (I4.unmrk I.ok).unpin hN hi hx fun s5 I5=>⟨_,_,I5,q4⟩
   | cont =>
     obtain ⟨σ4,H4,I4,q4⟩:=h4
     exact jG (I4.unmrk I.ok).unpin hN hi hx fun s5 I5=>⟨_,_,I5,q4⟩
   | ret u =>
     obtain ⟨v,σ4,H4,I4,r4,q4⟩:=h4;exact jG (I4.unmrk I.ok).unpin hN hi hx fun s5 I5=>⟨v,_,_,I5,r4,q4⟩
 . have h2:=h1.untried I.ok
   cases f with
   | next=>exact kh h2
   | brk=>exact h2
   | cont=>exact h2
   | ret u=>exact h2
noncomputable def qns:List Str:=["__getattribute__","__getattr__","__class__"]
noncomputable def Hw (K:PySem.W.Frag):List Value->Bool
 | []=>false
 | v::r=>(v::r) == veB || match v with
   | .ref A=>(match K.lookup A with
     | some ⟨_,_,.cls cd,_⟩=>PySem.W.nsOkIn K cd.ns && qns.all (fun n=>PySem.W.nsIn K cd.ns n == some none) && Hw K r
     | _=>false)
   | _=>false
noncomputable def rV (K:PySem.W.Frag) (C:Addr):Bool:=match K.lookup C with
 | some ⟨_,_,.cls cd,_⟩=>Hw K cd.mro
 | _=>false
section
variable {M:Model} {A:Around} {E:Value->Shared->Prop} {h:Heap} {g:Array GenState} {d:Drawn} {t:Nat} {os:OsState} {K:PySem.W.Frag}
theorem Ep {n:Str} {y:Option Value} {Q:Option Value->Shared->Prop} (X:K.In h) (hn:n∈qns) (hrest:lookupAlong veB n = pure y) (hq:Q y ⟨h,g,d,t,os⟩):∀ {l:List Value},Hw K l = true->wpAny M A (lookupAlong l n) Q E ⟨h,g,d,t,os⟩
 | [],e=>by cases e
 | v::r,e=>by
   unfold Hw at e;rcases Bf.mp e with q | q
   . rw [beq_iff_eq.mp q,hrest];exact ai hq
   . split at q
     . split at q
       . rename_i ho;simp only [aa] at q;rw [lookupAlong_cons];refine ae (wpAny_classOwn_cls (X _ _ ho) (.of_isNs (PySem.W.isNs_of_in X q.1.1)) ?_);rw [PySem.W.nsMap_none_of_in X q.1.1 (beq_iff_eq.mp (bb.mp q.1.2 n hn))];exact Ep X hn hrest hq q.2
       . cases q
     . cases q
variable {nm q:Str} {C N:Addr} {bs bm:List Value} {hdct:Bool} {sn:List Str} {sub:List Value} {ab:Bool} {col:Option Bool} {dd:Option Addr} {k0 k1 k2 k3 k5:Option Value} {newId:String}
theorem vT {n:Str} {y:Option Value} {Q:Option Value->Shared->Prop} (X:K.In h) (hn:n∈qns) (hC:h.get? C = some (excClassObj nm q C N bs bm hdct sn sub ab col dd k0 k1 k2 k3 k5 newId)) (hv:rV K C = true)
 (hB:typeLookup (.type "ValueError") n = pure y) (hq:Q y ⟨h,g,d,t,os⟩):wpAny M A (typeLookup (.ref C) n) Q E ⟨h,g,d,t,os⟩:=by
 have hrest:lookupAlong veB n = pure y:=by rw [typeLookup_eq,PySem.F.attrBase_ValueError.mro] at hB;exact hB
 rw [typeLookup_eq];refine ae (wpAny_mroOf_exc hC ?_);refine Ep X hn hrest hq ?_;unfold rV at hv;split at hv
 . rename_i ho;have z:=X _ _ ho;rw [hC] at z;cases z;exact hv
 . cases hv
end
theorem uP:typeLookup (.type "ValueError") "__class__" = pure (some (.builtin "object.__class__")):=by rw [kl,gx];kernel_rfl
section
variable {prog:Program} {w:World} {A:Around} {E:Value->Shared->Prop} {h:Heap} {g:Array GenState} {d:Drawn} {t:Nat} {os:OsState} {a:Addr} {o:Obj} {K:PySem.W.Frag}
 {nm q:Str} {C N:Addr} {bs bm:List Value} {hdct:Bool} {sn:List Str} {sub:List Value} {ab:Bool} {col:Option Bool} {dd:Option Addr} {k0 k1 k2 k3 k5:Option Value} {newId:String}
theorem Fh {R:Result->Shared->Prop} (hC:h.get? C = some (excClassObj nm q C N bs bm hdct sn sub ab col dd k0 k1 k2 k3 k5 newId)) (T:OwnTail h veB bm) (hx:h.get? a = some o) (hc:o.cls = .ref C) (hq:R (.ok (.ret (.ref C))) ⟨h,g,d,t,os⟩) :
 codeAny (model prog w) A (.call (.builtin "getset_descriptor.__get__") ⟨[.builtin "object.__class__",.ref a,.ref C],[]⟩) R ⟨h,g,d,t,os⟩:=by
 have hT5:(⟨h,g,d,t,os⟩:Shared).TypeIs (.builtin "object.__class__") "getset_descriptor":=F.typeOf_object_class
 have hcB:(Value.ref C::bm).contains (.type (".".intercalate ("object.__class__".cutAt '.').dropLast)) = true:=by
  rw [F.owner_object_class,fB,T.hasType rfl];rfl
 refine lE F.slot_gs_get.plain F.entry_gs_get (F.slot_gs_get.check _ _ _ _ _ _ _ _ hT5 (F.args_gs_get _ _ _) ?_)
 repeat (any_goals (first | assumption | (with_reducible refine bq hx ?_;rw [hc]) | (with_reducible refine dv hC ?_;rw [hcB]) | wp_step))
 refine ⟨Bk _ (by decide +kernel),dN F.entry_object_class ?_⟩
 repeat (any_goals (first | assumption | (with_reducible refine bq hx ?_;rw [hc]) | wp_step))
theorem xh {M:Model} {nameV:Value} {Q:Unit->Shared->Prop} (hC:h.get? C = some (excClassObj nm q C N bs bm hdct sn sub ab col dd k0 k1 k2 k3 k5 newId)) (T:OwnTail h veB bm)
 (hx:h.get? a = some o) (hc:o.cls = .ref C) (hq:Q () ⟨h,g,d,t,os⟩):wpAny M A (checkBuiltinCall "BaseException.__getattribute__" ⟨[.ref a,nameV],[]⟩) Q E ⟨h,g,d,t,os⟩:=by
 have hk:builtinKind "BaseException.__getattribute__" = some .slot:=by decide +kernel
 have hsplit:splitId "BaseException.__getattribute__" = some ("BaseException","__getattribute__"):=by decide +kernel
 have hcB:(Value.ref C::bm).contains (.type "BaseException") = true:=by rw [fB,T.hasType rfl];rfl
 have ha:=F.args_bexc_ga (.ref a) nameV;simp only [checkBuiltinCall,hk,hsplit];refine ae ?_;unfold isInstance
 repeat (first | (with_reducible refine bq hx ?_;rw [hc]) | (with_reducible refine dv hC ?_;rw [hcB]) | wp_step)
 exact hq
theorem xg {tk:Tok} {Q:Fin->Shared->Prop} (X:K.In h) (hv:rV K C = true) (hC:h.get? C = some (excClassObj nm q C N bs bm hdct sn sub ab col dd k0 k1 k2 k3 k5 newId)) (T:OwnTail h veB bm) (hx:h.get? a = some o) (hc:o.cls = .ref C) (hq:Q (.done (.ret (.ref C))) ⟨h,g,d,t,os⟩) :
 wpAny (model prog w) A (Builtin.«object.__getattribute__» ⟨[.ref a,.str "__class__" tk],[]⟩) Q E ⟨h,g,d,t,os⟩:=by
 have hT5:(⟨h,g,d,t,os⟩:Shared).TypeIs (.builtin "object.__class__") "getset_descriptor":=F.typeOf_object_class;have f5:=F.typeOf_object_class;have f6:=F.slot_gs_get.lookup;have f7:=F.slot_gs_set.lookup;have hm:("__class__":Str)∈qns:=.tail _ (.tail _ (.head _))
 repeat (any_goals (first | assumption | (with_reducible refine bq hx ?_;rw [hc]) | with_reducible refine vT X hm hC hv uP ?_ | wp_step))
 refine Fh hC T hx hc ?_
 repeat (any_goals (first | assumption | wp_step))
theorem IS {tk:Tok} {Q:Value->Shared->Prop} (X:K.In h) (hv:rV K C = true) (hC:h.get? C = some (excClassObj nm q C N bs bm hdct sn sub ab col dd k0 k1 k2 k3 k5 newId)) (T:OwnTail h veB bm) (hx:h.get? a = some o) (hc:o.cls = .ref C) (hq:Q (.ref C) ⟨h,g,d,t,os⟩) :
 wpAny (model prog w) A (getAttrBy (.ref a) (.str "__class__" tk) false) Q E ⟨h,g,d,t,os⟩:=by
 have FB:=F.attrBase_ValueError;have f3:=FB.ga.bind (.ref a);have hx2:(Value.builtin "BaseException.__getattribute__" == Value.builtin "object.__getattribute__") = false:=by decide +kernel
 have hx1:(onTheHeap (Value.ref C) && Value.builtin "BaseException.__getattribute__" == Value.builtin "object.__getattribute__") = false:=by rw [hx2];rfl
 have hm1:("__getattribute__":Str)∈qns:=.head _;have hm2:("__getattr__":Str)∈qns:=.tail _ (.head _)
 repeat (any_goals (first | assumption | (with_reducible refine bq hx ?_;rw [hc]) | with_reducible refine vT X hm1 hC hv FB.ga.lookup ?_ | with_reducible refine vT X hm2 hC hv FB.noGetattr ?_ | wp_step))
 refine lE FB.ga.plain F.entry_bexc_ga (xh hC T hx hc (xg X hv hC T hx hc ?_))
 repeat (any_goals (first | assumption | wp_step))
theorem AL {Q:Option Value->Shared->Prop} (X:K.In h) (hv:rV K C = true) (hC:h.get? C = some (excClassObj nm q C N bs bm hdct sn sub ab col dd k0 k1 k2 k3 k5 newId)) (T:OwnTail h veB bm) (hx:h.get? a = some o) (hc:o.cls = .ref C) (hq:Q (some (.ref C)) ⟨h,g,d,t+1,os⟩) :
 wpAny (model prog w) A (getAttr? (.ref a) "__class__") Q E ⟨h,g,d,t,os⟩:=by
 unfold getAttr? getAttrBy?
 repeat (any_goals (first | assumption | with_reducible apply IS X hv hC T hx hc | wp_step))
end
section
variable {prog:Program} {w:World} {A:Around} {E:Value->Shared->Prop} {h:Heap} {g:Array GenState} {d:Drawn} {t:Nat} {os:OsState} {a:Addr} {o:Obj} {K:PySem.W.Frag}
 {nm q:Str} {C N:Addr} {bs bm:List Value} {hdct:Bool} {sn:List Str} {sub:List Value} {ab:Bool} {col:Option Bool} {dd:Option Addr} {k0 k1 k2 k3 k5:Option Value} {newId:String}
 {nm' q':Str} {P N':Addr} {bs' bm':List Value} {hdct':Bool} {sn':List Str} {sub':List Value} {ab':Bool} {col':Option Bool} {dd':Option Addr} {l0 l1 l2 l3 l5:Option Value} {newId':String}
theorem Ip {dep:Int} {tk:Tok} {Q:Fin->Shared->Prop} (X:K.In h) (hv:rV K C = true) (hC:h.get? C = some (excClassObj nm q C N bs bm hdct sn sub ab col dd k0 k1 k2 k3 k5 newId)) (hP:h.get? P = some (excClassObj nm' q' P N' bs' bm' hdct' sn' sub' ab' col' dd' l0 l1 l2 l3 l5 newId'))
 (T:OwnTail h veB bm) (hx:h.get? a = some o) (hc:o.cls = .ref C) (hb:(Value.ref C::bm).contains (.ref P) = false) (hq:Q (.done (.ret (.bool false))) ⟨h,g,d,t+1,os⟩) :
 wpAny (model prog w) A (Builtin.«isinstance.nested» ⟨[.ref a,.ref P,.int dep tk],[]⟩) Q E ⟨h,g,d,t,os⟩:=by
 have hne:(Value.ref C == Value.ref P) = false:=by
  rw [fB,zj] at hb
  cases z:(Value.ref C == Value.ref P) with
  | false=>rfl
  | true=>rw [beq_iff_eq.mp z] at hb;simp at hb
 have hT:(⟨h,g,d,t,os⟩:Shared).TypeIs (.ref P) "type":=⟨_,hP,rfl⟩;have hTC:(⟨h,g,d,t+1,os⟩:Shared).TypeIs (.ref C) "type":=⟨_,hC,rfl⟩
 repeat (any_goals (first | assumption | (with_reducible refine bq hx ?_;rw [hc]) | with_reducible refine bq hP ?_ | with_reducible refine bq hC ?_ | (with_reducible refine dv hC ?_;rw [hb]) | with_reducible apply AL X hv hC T hx hc | wp_step))
theorem Iq {dep:Int} {tk:Tok} {Q:Fin->Shared->Prop} (hC:h.get? C = some (excClassObj nm q C N bs bm hdct sn sub ab col dd k0 k1 k2 k3 k5 newId)) (hP:h.get? P = some (excClassObj nm' q' P N' bs' bm' hdct' sn' sub' ab' col' dd' l0 l1 l2 l3 l5 newId'))
 (hx:h.get? a = some o) (hc:o.cls = .ref C) (hb:(Value.ref C::bm).contains (.ref P) = true) (hq:Q (.done (.ret (.bool true))) ⟨h,g,d,t,os⟩) :
 wpAny (model prog w) A (Builtin.«isinstance.nested» ⟨[.ref a,.ref P,.int dep tk],[]⟩) Q E ⟨h,g,d,t,os⟩:=by
 have hT:(⟨h,g,d,t,os⟩:Shared).TypeIs (.ref P) "type":=⟨_,hP,rfl⟩
 cases hne:(Value.ref C == Value.ref P) with
 | true=>repeat (any_goals (first | assumption | (with_reducible refine bq hx ?_;rw [hc]) | wp_step))
 | false=>repeat (any_goals (first | assumption | (with_reducible refine bq hx ?_;rw [hc]) | with_reducible refine bq hP ?_ | (with_reducible refine dv hC ?_;rw [hb]) | wp_step))
theorem LW {T':String} {dep:Int} {tk:Tok} {Q:Fin->Shared->Prop} (hC:h.get? C = some (excClassObj nm q C N bs bm hdct sn sub ab col dd k0 k1 k2 k3 k5 newId)) (hty:typeOf (.type T') = pure (.type "type"))
 (hx:h.get? a = some o) (hc:o.cls = .ref C) (hb:(Value.ref C::bm).contains (.type T') = true) (hq:Q (.done (.ret (.bool true))) ⟨h,g,d,t,os⟩) :
 wpAny (model prog w) A (Builtin.«isinstance.nested» ⟨[.ref a,.type T',.int dep tk],[]⟩) Q E ⟨h,g,d,t,os⟩:=by
 have hne:(Value.ref C == Value.type T') = false:=rfl
 repeat (any_goals (first | assumption | (with_reducible refine bq hx ?_;rw [hc]) | (with_reducible refine dv hC ?_;rw [hb]) | wp_step))
end
theorem KW {X:Cx} {a C:Addr} {st:List Stmt} {t:TS} (h:∀ (oe:Obj) (vs:Array Value) (pn:List (Addr × Obj)),oe.cls = .ref C->oe.data = .fields vs->(a,oe)∈pn->PSs ((X.mrk a).tried pn fun _ _=>False) st t):PSa X a C st t:=fun oe vs pins s σ H D c1 c2 I q =>
 cN (h oe vs (X.pn++((a,oe)::pins)) c1 c2 (aL _ ao) [] s σ H D (Inv.tried (X:=X.mrk a) I) q) (fun f s' z=>SP.untried (X:=X.mrk a) I.ok z) fun _ _ z=>z
section
variable {X:Cx} {a C P:Addr} {oe:Obj}
theorem Mi (hp:(a,oe)∈X.pn) (hc:oe.cls = .ref C) (hC:VE X.K C = true) (hP:VE X.K P = true) (hs:subIn X.K C P = true):cm X (.builtin "isinstance") (fun xs H Q=>xs = [.ref a,.ref P]/\Q (.bl true) H):=by
 intro pins s σ H vs us Q I r h;obtain ⟨rfl,q⟩:=h;obtain ⟨u1,u2,rfl,r1,r2⟩:=r.two;obtain rfl:u1 = .ref a:=r1;obtain rfl:u2 = .ref P:=r2;obtain ⟨tl,N,nm,qn,bs,hdct,sn,sub,ab,col,dd,k0,k1,k2,k3,k5,mN,oC,hN,hni,TL⟩:=je I.kIn hC;obtain ⟨tl',N',nm',qn',bs',hdct',sn',sub',ab',col',dd',l0,l1,l2,l3,l5,mN',oP,hN',hni',TL'⟩:=je I.kIn hP;have hx:=(I.pin (a,oe) (aU _ hp)).1;obtain ⟨hh,g,d,t,os⟩:=s;exact pA (Iq oC oP hx hc (vY I.kIn hs hC oC) ⟨.bl true,H,I,rfl,q⟩) (by intro e;cases e)
theorem Mh (hp:(a,oe)∈X.pn) (hc:oe.cls = .ref C) (hC:VE X.K C = true) (hq:rV X.K C = true) (hP:VE X.K P = true) (hs:subIn X.K C P = false):cm X (.builtin "isinstance") (fun xs H Q=>xs = [.ref a,.ref P]/\Q (.bl false) H):=by
 intro pins s σ H vs us Q I r h;obtain ⟨rfl,q⟩:=h;obtain ⟨u1,u2,rfl,r1,r2⟩:=r.two;obtain rfl:u1 = .ref a:=r1;obtain rfl:u2 = .ref P:=r2;obtain ⟨tl,N,nm,qn,bs,hdct,sn,sub,ab,col,dd,k0,k1,k2,k3,k5,mN,oC,hN,hni,TL⟩:=je I.kIn hC;obtain ⟨tl',N',nm',qn',bs',hdct',sn',sub',ab',col',dd',l0,l1,l2,l3,l5,mN',oP,hN',hni',TL'⟩:=je I.kIn hP;have hx:=(I.pin (a,oe) (aU _ hp)).1;have kin:=I.kIn;have I2:=I.tok (s.toks+1);obtain ⟨hh,g,d,t,os⟩:=s;exact pA (Ip kin hq oC oP TL hx hc (vY kin hs hC oC) ⟨.bl false,H,I2,rfl,q⟩) (by intro e;cases e)
theorem Mg {T:String} (hp:(a,oe)∈X.pn) (hc:oe.cls = .ref C) (hC:VE X.K C = true) (hty:typeOf (.type T) = pure (.type "type")) (hT:veB.contains (.type T) = true):cm X (.builtin "isinstance") (fun xs H Q=>xs = [.ref a,.ty T]/\Q (.bl true) H):=by
 intro pins s σ H vs us Q I r h;obtain ⟨rfl,q⟩:=h;obtain ⟨u1,u2,rfl,r1,r2⟩:=r.two;obtain rfl:u1 = .ref a:=r1;obtain rfl:u2 = .type T:=r2;obtain ⟨tl,N,nm,qn,bs,hdct,sn,sub,ab,col,dd,k0,k1,k2,k3,k5,mN,oC,hN,hni,TL⟩:=je I.kIn hC;have hx:=(I.pin (a,oe) (aU _ hp)).1;obtain ⟨hh,g,d,t,os⟩:=s;exact pA (LW oC hty hx hc (by rw [fB,TL.hasType hT];rfl) ⟨.bl true,H,I,rfl,q⟩) (by intro e;cases e)
theorem Lj {x:Str} {pos:Pos} (hg:Gl X x) (hm:X.mg x = some (.ref P)) (hd:(x == ("__debug__":Str)) = false):PE X (.Name x pos) (tC (.ref P)):=fun _ _ _ H _ I h=>jH I hg hm ⟨.ref P,H,I,rfl,h⟩ hd
end
noncomputable def tI (i:Nat) (a:Addr) (b:Bool):TE:=fun σ H Q=>σ[i]? = some (some (.ref a))/\Q (.bl b) H
theorem PE.to {X:Cx} {e:Expr} {t u:TE} (h:PE X e t) (w:∀ σ H Q,u σ H Q->t σ H Q):PE X e u:=fun pins s σ H Q I q=>h pins s σ H Q I (w σ H Q q)
section
variable {X:Cx} {i:Nat} {a C P:Addr} {oe:Obj} {n x:Str} {p np xp pos:Pos} {b1 b2 b:Bool} {y z:Expr} {r:List Expr}
theorem HH (hn:PE X (.Name n np) (vX i)) (hc:cm X (.builtin "isinstance") (fun xs H Q=>xs = [.ref a,.ref P]/\Q (.bl b) H)) (hi:Gl X "isinstance") (hmi:X.mg "isinstance" = none) (hg:Gl X x) (hm:X.mg x = some (.ref P)) (hd:(x == ("__debug__":Str)) = false) :
 PE X (.Call (.Name "isinstance" p) [.Name n np,.Name x xp] [] pos) (tI i a b):=by
 have hA:PA X [.Name n np,.Name x xp] (kv (vX i) (kv (tC (.ref P)) zV)):=fb hn (fb (Lj hg hm hd) iI rfl) rfl;exact PE.to (fW hc hi hmi rfl hA (by decide +kernel) (by decide +kernel) rfl rfl) fun σ H Q ⟨e,q⟩=>⟨_,e,rfl,q⟩
theorem HG {T:String} (hn:PE X (.Name n np) (vX i)) (hc:cm X (.builtin "isinstance") (fun xs H Q=>xs = [.ref a,.ty T]/\Q (.bl b) H)) (hi:Gl X "isinstance") (hmi:X.mg "isinstance" = none) (hg:Gl X x) (hm:X.mg x = none) (hb:bootBuiltins x = some (.type T)) (hn2:x≠"__name__") (hd:(x == ("__debug__":Str)) = false) :
 PE X (.Call (.Name "isinstance" p) [.Name n np,.Name x xp] [] pos) (tI i a b):=by
 have hA:PA X [.Name n np,.Name x xp] (kv (vX i) (kv (tC (.ty T)) zV)):=fb hn (fb (yc hg hm hb rfl hn2 hd) iI rfl) rfl;exact PE.to (fW hc hi hmi rfl hA (by decide +kernel) (by decide +kernel) rfl rfl) fun σ H Q ⟨e,q⟩=>⟨_,e,rfl,q⟩
theorem yd (h1:PE X y (tI i a b1)) (h2:PE X (.BoolOp .And (z::r) pos) (tI i a b2)):PE X (.BoolOp .And (y::z::r) pos) (tI i a (b1 && b2)):=PE.to (DL h1 h2) fun σ H Q zz=>by
 obtain ⟨e,q⟩:=zz;refine ⟨e,b1,rfl,?_⟩
 cases b1 with
 | true=>exact oz ⟨e,q⟩
 | false=>exact pO q
theorem DE (h1:PE X y (tI i a b1)) (h2:PE X (.BoolOp .Or (z::r) pos) (tI i a b2)):PE X (.BoolOp .Or (y::z::r) pos) (tI i a (b1 || b2)):=PE.to (Jl h1 h2) fun σ H Q zz=>by
 obtain ⟨e,q⟩:=zz;refine ⟨e,b1,rfl,?_⟩
 cases b1 with
 | true=>exact oz q
 | false=>exact pO ⟨e,q⟩
theorem HF (h1:PE X y (tI i a b)):PE X (.UnaryOp .Not y pos) (tI i a (!b)):=PE.to (DF h1) fun σ H Q ⟨e,q⟩=>⟨e,b,rfl,q⟩
end
end L2
end
section
namespace PP
open PySem L2 PyProof.Rows
variable [Tbs]
mutual
inductive R where
 | st (s:S)
 | rse (c:Str)
 | cal (s:S) (f g:Nat) (es:Es)
 | ifs (t:E) (a b:Rs)
 | whl (t:E) (body:Rs)
inductive Rs where
 | nil | cons (r:R) (rs:Rs)
end
abbrev OR:=Out ⊕ (Str × Loc)
noncomputable def iZ (t:Loc->Option (Bool × Loc)) (f:Loc->Option OR):Nat->Loc->Option OR
 | 0,_=>none
 | n+1,δ=>match t δ with
   | some (true,δ1)=>(match f δ1 with
     | some (.inl (.nx δ2))=>iZ t f n δ2
     | some (.inl (.ct δ2))=>iZ t f n δ2
     | some (.inl (.bk δ2))=>some (.inl (.nx δ2))
     | o=>o)
   | some (false,δ1)=>some (.inl (.nx δ1))
   | none=>none
mutual
noncomputable def evR (cx:Cl):R->Loc->Option OR
 | .st s,δ=>(evS cx s δ).map .inl
 | .rse c,δ=>some (.inr (c,δ))
 | .cal s f g es,δ=>match gI cx es δ with
   | some (ds,δ1)=>(match cx.call g ds with
     | some (.str c)=>some (.inr (c,δ1))
     | _=>(evS cx s δ).map .inl)
   | none=>none
 | .ifs t a b,δ=>match evT cx t δ with
   | some (true,δ1)=>eW cx a δ1
   | some (false,δ1)=>eW cx b δ1
   | none=>none
 | .whl t body,δ=>iZ (fun δ0=>evT cx t δ0) (fun δ0=>eW cx body δ0) 1000 δ
noncomputable def eW (cx:Cl):Rs->Loc->Option OR
 | .nil,δ=>some (.inl (.nx δ))
 | .cons r rs,δ=>match evR cx r δ with
   | some (.inl (.nx δ1))=>eW cx rs δ1
   | o=>o
end
noncomputable def zd (K:PySem.W.Frag) (mg:Str->Option Value) (G:Gh) (F:Addr->Prop) (H:Hp) (r:OR) (D:Ends) (W:L2.St->XK):Prop :=
 match r with
 | .inl o=>qR K G F H o D
 | .inr (c,δ')=>∀ σ' H' F',Step G F H F' H'->Ok K G F' σ' H' δ'->∃ u,mg c = some u/\W σ' u none H'
theorem zd.step {K:PySem.W.Frag} {mg:Str->Option Value} {G:Gh} {F F1:Addr->Prop} {H H1:Hp} {r:OR} {D:Ends} {W:L2.St->XK} (st:Step G F H F1 H1) (h:zd K mg G F H r D W):zd K mg G F1 H1 r D W:=by
 cases r with
 | inl o=>exact qR.step st h
 | inr p=>exact fun σ' H' F' s k=>h σ' H' F' (st.trans s) k
noncomputable def tR (K:PySem.W.Frag) (mg:Str->Option Value) (W:L2.St->XK) (ev:Loc->Option OR):TS:=fun D σ H=>∃ G F δ r,Ok K G F σ H δ/\ev δ = some r/\zd K mg G F H r D W
noncomputable def spX (K:PySem.W.Frag) (mg:Str->Option Value) (f:List D->Option D):Sp:=fun vs H _ E=>∃ F ds c u,FD F H/\TF F/\kf H/\aF K H F ds vs/\f ds = some (.str c)/\mg c = some u/\∀ H',Sim H H'->kf H'->E u none H'
section
variable {K:PySem.W.Frag} {cx:Cl} {X:Cx} {W:L2.St->XK}
theorem CW:PSs X [] (tR X.K X.mg W (eW cx .nil)):=PSs.imp kC fun D σ H zz=>by
 obtain ⟨G,F,δ,o,ok,ev,post⟩:=zz;simp only [eW] at ev;cases ev;exact post σ H F Step.refl ok
theorem Ae {r:R} {rs:Rs} {y:Stmt} {ys:List Stmt} (h1:PS X y (tR X.K X.mg W (evR cx r))) (h2:PSs X ys (tR X.K X.mg W (eW cx rs))):PSs X (y::ys) (tR X.K X.mg W (eW cx (.cons r rs))):=PSs.imp (ji h1 h2) fun D σ H zz=>by
 obtain ⟨G,F,δ,o,ok,ev,post⟩:=zz;simp only [eW] at ev
 cases e:evR cx r δ with
 | none=>rw [e] at ev;cases ev
 | some o1 =>
   rw [e] at ev
   cases o1 with
   | inr p=>cases ev;exact ⟨G,F,δ,_,ok,e,post⟩
   | inl o1 =>
     cases o1 with
     | nx δ1=>exact ⟨G,F,δ,.inl (.nx δ1),ok,e,fun σ' H' F' st ok'=>⟨G,F',δ1,o,ok',ev,post.step st⟩⟩
     | rt d δ1=>cases ev;exact ⟨G,F,δ,_,ok,e,post⟩
     | bk δ1=>cases ev;exact ⟨G,F,δ,_,ok,e,post⟩
     | ct δ1=>cases ev;exact ⟨G,F,δ,_,ok,e,post⟩
     | ro d δ1=>cases ev;exact ⟨G,F,δ,_,ok,e,post⟩
theorem Hf {s:S} {y:Stmt} (h:PS X y (tS X.K (evS cx s))):PS X y (tR X.K X.mg W (evR cx (.st s))):=PS.imp h fun D σ H zz=>by
 obtain ⟨G,F,δ,o,ok,ev,post⟩:=zz;simp only [evR,aE] at ev;obtain ⟨o1,e,rfl⟩:=ev;exact ⟨G,F,δ,o1,ok,e,post⟩
theorem CY {t:E} {a b:Rs} {y:Expr} {ya yb:List Stmt} {pos:Pos} (ht:PT X y (tT X.K cx t)) (ha:PSs X ya (tR X.K X.mg W (eW cx a))) (hb:PSs X yb (tR X.K X.mg W (eW cx b))):PS X (.If y ya yb pos) (tR X.K X.mg W (evR cx (.ifs t a b))):=PS.imp (Dw ht ha hb) fun D σ H zz=>by
 obtain ⟨G,F,δ,out,ok,ev,post⟩:=zz;simp only [evR] at ev
 cases e1:evT cx t δ with
 | none=>rw [e1] at ev;cases ev
 | some p =>
   obtain ⟨q,δ1⟩:=p;rw [e1] at ev;refine ⟨G,F,δ,q,δ1,ok,e1,fun H1 F1 st sm ok1=>?_⟩
   cases q with
   | true=>exact oz ⟨G,F1,δ1,out,ok1,ev,post.step st⟩
   | false=>exact pO ⟨G,F1,δ1,out,ok1,ev,post.step st⟩
theorem CV {x t:Str} {C:Addr} {np cp j2 pos:Pos} {j:Nat} (R:Rz X W) (hc:X.calm = true) (hg:Gl X x) (hm:X.mg x = some (.ref C)) (hC:VE X.K C = true) (hd:(x == ("__debug__":Str)) = false) :
 PS X (.Raise (some (.Call (.Name x np) [.Constant (.str t) j j2] [] cp)) none pos) (tR X.K X.mg W (evR cx (.rse x))):=PS.imp (Dt R hc hg hm hC hd) fun D σ H zz=>by
 obtain ⟨G,F,δ,out,ok,ev,post⟩:=zz;simp only [evR] at ev;cases ev;obtain ⟨u,e,q⟩:=post σ H F Step.refl ok;rw [hm] at e;cases e;exact q
theorem ug {s:S} {f g:Nat} {es:Es} {y:Stmt} (n:iJ es = true) (hO:PS X y (tS X.K (evS cx s)))
 (hX:PS X y (fun D σ H=>tEs X.K cx es σ H fun vs H1=>spX X.K X.mg (cx.call g) vs H1 (fun _ _=>True) (W σ))):PS X y (tR X.K X.mg W (evR cx (.cal s f g es))):=PS.imp (PS.or hO hX) fun D σ H zz=>by
 obtain ⟨G,F,δ,o,ok,ev,post⟩:=zz;simp only [evR] at ev
 cases ea:gI cx es δ with
 | none=>rw [ea] at ev;cases ev
 | some p =>
   obtain ⟨ds,δ1⟩:=p;rw [ea] at ev;dsimp only at ev
   have ord:(evS cx s δ).map Sum.inl = some o->tS X.K (evS cx s) D σ H\/(tEs X.K cx es σ H fun vs H1=>spX X.K X.mg (cx.call g) vs H1 (fun _ _=>True) (W σ)):=fun ev=>by
    simp only [aE] at ev;obtain ⟨o1,e,rfl⟩:=ev;exact Or.inl ⟨G,F,δ,o1,ok,e,post⟩
   cases ec:cx.call g ds with
   | none=>rw [ec] at ev;exact ord ev
   | some d =>
     rw [ec] at ev
     cases d with
     | str c =>
       cases ev;refine .inr ⟨G,F,δ,ds,δ1,ok,ea,fun vs H1 F1 st1 sm1 ok1 r1=>?_⟩;obtain ⟨u,e1,_⟩:=post σ H1 F1 st1 ok1;refine ⟨F1,ds,c,u,ok1.fd,ok1.tf,ok1.tabs,r1.rl n,ec,e1,fun H2 s2 t2=>?_⟩;obtain ⟨u',e2,q⟩:=post σ H2 F1 (st1.trans (ok1.call s2 t2).2) (ok1.call s2 t2).1;rw [e1] at e2;cases e2
       exact q
     | _=>exact ord ev
theorem CU {t:E} {body:Rs} {y:Expr} {ys:List Stmt} {pos:Pos} (hp:PassesOwn (model X.prog X.w) X.A X.env X.xe) (ht:PT X y (tT X.K cx t)) (hb:PSs X ys (tR X.K X.mg W (eW cx body))):PS X (.While y ys [] pos) (tR X.K X.mg W (evR cx (.whl t body))):=by
 refine PS.imp (uy hp ht hb) fun D σ H zz=>?_;obtain ⟨G,F,δ,out,ok,ev,post⟩:=zz;simp only [evR] at ev;refine ⟨fun m σ' H'=>∃ F' δ',Step G F H F' H'/\Ok X.K G F' σ' H' δ'/\iZ (fun δ0=>evT cx t δ0) (fun δ0=>eW cx body δ0) m δ' = some out,⟨1000,F,δ,Step.refl,ok,ev⟩,?_⟩;rintro m σ' H' ⟨F',δ',st',ok',ev'⟩
 cases m with
 | zero=>cases ev'
 | succ m =>
   unfold iZ at ev'
   cases ec:evT cx t δ' with
   | none=>rw [ec] at ev';cases ev'
   | some q =>
     obtain ⟨b,δ1⟩:=q;rw [ec] at ev';refine ⟨G,F',δ',b,δ1,ok',ec,fun H1 F1 st1 sm1 ok1=>?_⟩;have sA:=st'.trans st1
     cases b with
     | true =>
       refine oz ?_;dsimp only at ev';refine ⟨fun σ2 H2=>∃ m',m' < m+1/\∃ F2 δ2,Step G F H F2 H2/\Ok X.K G F2 σ2 H2 δ2/\iZ (fun δ0=>evT cx t δ0) (fun δ0=>eW cx body δ0) m' δ2 = some out,fun σ2 H2 z=>z,?_⟩
       cases hf:eW cx body δ1 with
       | none=>rw [hf] at ev';cases ev'
       | some o1 =>
         rw [hf] at ev';refine ⟨G,F1,δ1,o1,ok1,hf,?_⟩
         cases o1 with
         | inr p=>cases ev';exact fun σ3 H4 F4 s4 k4=>post σ3 H4 F4 (sA.trans s4) k4
         | inl o1 =>
           cases o1 with
           | nx δ3=>exact fun σ3 H4 F4 s4 k4=>⟨m,by lia,F4,δ3,sA.trans s4,k4,ev'⟩
           | ct δ3=>exact fun σ3 H4 F4 s4 k4=>⟨m,by lia,F4,δ3,sA.trans s4,k4,ev'⟩
           | bk δ3=>cases ev';exact fun σ3 H4 F4 s4 k4=>post σ3 H4 F4 (sA.trans s4) k4
           | rt d3 δ3=>cases ev';exact fun v σ3 H4 F4 s4 k4 r4=>post v σ3 H4 F4 (sA.trans s4) k4 r4
           | ro d3 δ3=>cases ev';exact fun a xs σ3 H4 F4 s4 k4=>post a xs σ3 H4 F4 (sA.trans s4) k4
     | false =>
       refine pO ?_;cases ev';exact post σ' H1 F1 sA ok1
end
noncomputable def GI:Stmt->Nat
 | .Raise .. => 1
 | .Try .. => 2
 | _=>0
noncomputable def NL (x:Stmt):Nat->Prop
 | 1=>∃ e c p,x = .Raise e c p
 | 2=>∃ b h o f p,x = .Try b h o f p
 | _=>True
theorem EG (x:Stmt):NL x (GI x):=by
 cases x<;>first | trivial | exact ⟨_,_,_,rfl⟩ | exact ⟨_,_,_,_,_,rfl⟩
theorem yH {x:Stmt} {n:Nat} {b:Bool} (h:((GI x == n) && b) = true):NL x n/\b = true:=by
 rw [aa] at h;exact ⟨eq_of_beq h.1▸EG x,h.2⟩
noncomputable def rsE:Stmt->Option Expr
 | .Raise e _ _=>e
 | _=>none
noncomputable def rsC:Stmt->Option Expr
 | .Raise _ c _=>c
 | _=>none
noncomputable def Jv (n:Str) (x:Stmt):Bool:=(GI x == 1) && ((rsC x).isNone && onO (rsE x) fun e=>mi e fun m as=>on1 as fun a=>onC a (fun v=>onT v fun _=>true) && decide (m = n))
theorem Ez {n:Str} {x:Stmt} (h:Jv n x = true):∃ np t j j2 cp pos,x = .Raise (some (.Call (.Name n np) [.Constant (.str t) j j2] [] cp)) none pos:=by
 obtain ⟨⟨e,c,p,rfl⟩,h1⟩:=yH h;rw [aa] at h1;have hc:c = none:=cL.mp h1.1;obtain ⟨y,hy,h2⟩:=sg h1.2;have hy:e = some y:=hy;obtain ⟨m,np,as,cp,rfl,h3⟩:=dP h2;obtain ⟨a,rfl,h4⟩:=cY h3;rw [aa] at h4;obtain ⟨v,j,j2,rfl,h5⟩:=jm h4.1;obtain ⟨t,rfl,_⟩:=DO h5;rw [hc,hy,of_decide_eq_true h4.2];exact ⟨_,_,_,_,_,_,rfl⟩
mutual
noncomputable def ckR (cls:List Str) (xs:List (Nat × Nat)) (c:Ck):R->Stmt->Bool
 | .st s,x=>ckS c s x
 | .rse n,x=>Jv n x && dM c n && cls.contains n
 | .cal s f g es,x=>ckS c s x && xs.contains (f,g) && (Au x (fun y=>ckE c (.call f es) y) || jS x fun ts y=>on1 ts fun t=>cS t fun t=>(List.range c.N.length).any (fun i=>fj c i t) && ckE c (.call f es) y)
 | .ifs t a b,x=>uH x fun y ya yb=>ckE c t y && oW cls xs c a ya && oW cls xs c b yb
 | .whl t b,x=>HV x fun y ys z=>on0 z (ckE c t y && oW cls xs c b ys && !cls.isEmpty)
noncomputable def oW (cls:List Str) (xs:List (Nat × Nat)) (c:Ck):Rs->List Stmt->Bool
 | .nil,zs=>on0 zs true
 | .cons r rs,zs=>onS zs fun y ys=>ckR cls xs c r y && oW cls xs c rs ys
end
section
variable {X:Cx} {cls:List Str} {xs:List (Nat × Nat)} {c:Ck} {cx:Cl} {k:Nat} {W:L2.St->XK}
theorem JC (C:Cok X.nox c cx k) (Z:qS X W) {f g:Nat} {es:Es} {y:Expr} (hfg:(f,g)∈xs) (h:ckE c (.call f es) y = true)
 (fx:∀ (f g:Nat) (x:Str) (ps:List Str),(f,g)∈xs->c.fns[f]? = some (x,ps)->∃ a fd,X.mg x = some (.ref a)/\PySem.W.keepIn X.K (.ref a) = true/\Binds X.K fd ps []/\gf X.prog X.w X.K X.mg X.base (CXE X.prog X.w) k a fd ps (spX X.K X.mg (cx.call g))) :
 iJ es = true/\(∃ n np as p,y = .Call (.Name n np) as [] p)/\PE X y (fun σ H _=>tEs X.K cx es σ H fun vs H1=>spX X.K X.mg (cx.call g) vs H1 (fun _ _=>True) (W σ)):=by
 obtain ⟨n,np,as,p,rfl,hh⟩:=dP h;split at hh
 . rename_i m ps hf;simp only [aa] at hh;obtain ⟨⟨⟨⟨⟨h1,h2⟩,h3⟩,h4⟩,h5⟩,h6⟩:=hh;have e:=of_decide_eq_true h1;subst e;obtain ⟨a,fd,hm,hk,hb,fn⟩:=fx f g _ _ hfg hf;obtain ⟨g1,g2,g3⟩:=C.global h2;refine ⟨h5,⟨_,_,_,_,rfl⟩,?_⟩;have hA:=fq es X.nox c as C h4 (gR h5)
   cases as with
   | nil=>simp at h6
   | cons y ys =>
     obtain ⟨_,_,_,c1,c2⟩:=fO h4;exact DK Z fn C.room g1 hm hk hb hA.nox g2 (cX (cn c1) _ _) (ie c2)
 . cases hh
theorem ON (C:Cok X.nox c cx k) (Z:qS X W) {s:S} {f g:Nat} {es:Es} {x:Stmt} (hfg:(f,g)∈xs) (hO:PS X x (tS X.K (evS cx s)))
 (fx:∀ (f g:Nat) (x:Str) (ps:List Str),(f,g)∈xs->c.fns[f]? = some (x,ps)->∃ a fd,X.mg x = some (.ref a)/\PySem.W.keepIn X.K (.ref a) = true/\Binds X.K fd ps []/\gf X.prog X.w X.K X.mg X.base (CXE X.prog X.w) k a fd ps (spX X.K X.mg (cx.call g)))
 (h:(Au x (fun y=>ckE c (.call f es) y) || jS x fun ts y=>on1 ts fun t=>cS t fun t=>(List.range c.N.length).any (fun i=>fj c i t) && ckE c (.call f es) y) = true):PS X x (tR X.K X.mg W (evR cx (.cal s f g es))):=by
 rcases Bf.mp h with h | h
 . obtain ⟨y,pos,rfl,h1⟩:=si h;obtain ⟨n,⟨m,np,as,p,rfl⟩,pe⟩:=JC C Z hfg h1 fx;exact ug n hO (PS.imp (rX pe (by rfl)) fun D σ H q=>q)
 . obtain ⟨ts,y,pos,rfl,h1⟩:=gE h;obtain ⟨t,rfl,h2⟩:=cY h1;obtain ⟨t,tp,rfl,h3⟩:=bp h2;rw [aa] at h3;obtain ⟨i,_,hi⟩:=du.mp h3.1;obtain ⟨n,⟨m,np,as,p,rfl⟩,pe⟩:=JC C Z hfg h3.2 fx;obtain ⟨n1,n2,n3⟩:=C.to hi;exact ug n hO (PS.imp (rW C.nd' n1 n2 pe (gH (x:=.Call (.Name m np) as [] p) rfl rfl _ _ _) n3) fun D σ H q=>q)
variable (C:Cok X.nox c cx k) (hS:X.env.scope = c.sc) (hB:X.env.blockKind = .function) (Z:qS X W) (Zm:cls≠[]->Rz X W) (hp:cls≠[]->PassesOwn (model X.prog X.w) X.A X.env X.xe)
 (fx:∀ (f g:Nat) (x:Str) (ps:List Str),(f,g)∈xs->c.fns[f]? = some (x,ps)->∃ a fd,X.mg x = some (.ref a)/\PySem.W.keepIn X.K (.ref a) = true/\Binds X.K fd ps []/\gf X.prog X.w X.K X.mg X.base (CXE X.prog X.w) k a fd ps (spX X.K X.mg (cx.call g)))
 (hcl:∀ n,n∈cls->∃ C,X.mg n = some (.ref C)/\VE X.K C = true)
include C hS hB Z Zm hp fx hcl
mutual
theorem Ou:∀ (r:R) (x:Stmt),ckR cls xs c r x = true->PS X x (tR X.K X.mg W (evR cx r))
 | .st s,x,h=>Hf (PS.nox (He C hS hB s x h))
 | .rse n,x,h=>by
   simp only [ckR,aa] at h;obtain ⟨np,t,j,j2,cp,pos,rfl⟩:=Ez h.1.1;obtain ⟨C',hm,hC⟩:=hcl n (by simpa using h.2);obtain ⟨g1,g2,g3⟩:=C.global h.1.2
   exact CV (Zm (by rintro rfl;simp at h)) C.calm g1 hm hC g2
 | .cal s f g es,x,h=>by
   simp only [ckR] at h;rw [aa,aa] at h
   exact ON C Z (by simpa using h.1.2) (PS.nox (He C hS hB s x h.1.1)) fx h.2
 | .ifs t a b,x,h=>by
   obtain ⟨_,_,_,_,rfl,hq1⟩:=oo h;simp only [aa] at hq1
   exact CY (PT.nox (jV t X.nox c _ C hq1.1.1)) (nK a _ hq1.1.2) (nK b _ hq1.2)
 | .whl t b,x,h=>by
   obtain ⟨_,_,_,_,rfl,hq1⟩:=yf h;obtain ⟨rfl,hq2⟩:=dI hq1;simp only [aa] at hq2;exact CU (hp (by rintro rfl;simp at hq2)) (PT.nox (jV t X.nox c _ C hq2.1.1)) (nK b _ hq2.1.2)
theorem nK:∀ (rs:Rs) (zs:List Stmt),oW cls xs c rs zs = true->PSs X zs (tR X.K X.mg W (eW cx rs))
 | .nil,zs,h=>by
   obtain ⟨rfl,_⟩:=dI h
   exact CW
 | .cons r rs,zs,h=>by
   obtain ⟨_,_,rfl,hq1⟩:=cM h;rw [aa] at hq1;exact Ae (Ou r _ hq1.1) (nK rs _ hq1.2)
end
end
inductive Qt where
 | isI (p:Str) | ty | an (a b:Qt) | or (a b:Qt) | nt (a:Qt)
noncomputable def Qt.ev (up:List Str):Qt->Bool
 | .isI p=>up.contains p
 | .ty=>true
 | .an a b=>a.ev up && b.ev up
 | .or a b=>a.ev up || b.ev up
 | .nt a=>!a.ev up
inductive Qs where
 | nil | asg (i:Nat) (q:Qt) (r:Qs) | ifb (q:Qt) (i:Nat) (b:Bool) (r:Qs)
noncomputable def Qs.ev (up:List Str):Qs->Loc->Loc
 | .nil,δ=>δ
 | .asg i q r,δ=>r.ev up (δ.set i (.val (.bl (q.ev up))))
 | .ifb q i b r,δ=>r.ev up (if q.ev up = true then δ.set i (.val (.bl b)) else δ)
noncomputable def Iw:Option Sl->Bool
 | some .no=>true
 | _=>false
theorem Iv {o:Option Sl} (h:Iw o = true):o = some .no:=by
 unfold Iw at h;split at h
 . rfl
 . cases h
noncomputable def zS (ups:List (Str × List Str)) (rs:Rs) (j:Nat) (qs:Qs) (cx:Cl) (δ:Loc):Option Out:=match eW cx rs δ with
 | some (.inl o)=>some o
 | some (.inr (c,δ1))=>(match ups.lookup c with
   | some up=>if Iw δ1[j]? = true then some (.nx (qs.ev up δ1)) else none
   | none=>none)
 | none=>none
noncomputable def sZ (c:Ck) (j:Nat) (ps:List Str):Qt->Expr->Bool
 | .isI p,x=>mi x fun f as=>on2 as fun u v=>cS u (fun n=>fZ c j n) && cS v (fun m=>decide (m = p)) && decide (f = ("isinstance":Str)) && dM c f && dM c p && ps.contains p
 | .ty,x=>mi x fun f as=>on2 as fun u v=>cS u (fun n=>fZ c j n) && cS v (fun m=>decide (m = ("ValueError":Str))) && decide (f = ("isinstance":Str)) && dM c f && dM c "ValueError"
 | .an a b,x=>wH x fun o vs p=>onS vs fun y r=>onS r fun z r2=>(match o with
   | .And=>true
   | .Or=>false) && sZ c j ps a y && sZ c j ps b (match r2 with
   | []=>z
   | _::_=>.BoolOp .And (z::r2) p)
 | .or a b,x=>wH x fun o vs p=>onS vs fun y r=>onS r fun z r2=>(match o with
   | .And=>false
   | .Or=>true) && sZ c j ps a y && sZ c j ps b (match r2 with
   | []=>z
   | _::_=>.BoolOp .Or (z::r2) p)
 | .nt a,x=>As x fun o y=>EA o && sZ c j ps a y
noncomputable def OG (b:Bool) (x:Expr):Bool:=onC x fun v=>onB v fun k=>decide (b = k)
noncomputable def IP (c:Ck) (j:Nat) (ps:List Str):Qs->List Stmt->Bool
 | .nil,zs=>on0 zs true
 | .asg i q r,zs=>onS zs fun z zr=>(jS z fun ts y=>on1 ts fun t=>cS t fun t=>fj c i t && sZ c j ps q y && decide (i≠j)) && IP c j ps r zr
 | .ifb q i b r,zs=>onS zs fun z zr=>(uH z fun t ya yb=>sZ c j ps q t && on0 yb (on1 ya fun w=>jS w fun ts y=>on1 ts fun t=>cS t fun t=>fj c i t && OG b y && decide (i≠j))) && IP c j ps r zr
structure FA (X:Cx) (ps:List Str) (C:Addr) (up:List Str):Prop where
 ve:VE X.K C = true
 qc:rV X.K C = true
 sub:∀ p,p∈ps->∃ P,X.mg p = some (.ref P)/\VE X.K P = true/\subIn X.K C P = up.contains p
theorem xV {c:Ck} {j:Nat} {ps:List Str}:∀ {q:Qt} {x:Expr},sZ c j ps q x = true->dY x = true/\gF x = false
 | .isI _,_,h=>by obtain ⟨_,_,_,_,rfl,_⟩:=dP h;exact ⟨rfl,rfl⟩
 | .ty,_,h=>by obtain ⟨_,_,_,_,rfl,_⟩:=dP h;exact ⟨rfl,rfl⟩
 | .an _ _,_,h=>by obtain ⟨_,_,_,rfl,_⟩:=gh h;exact ⟨rfl,rfl⟩
 | .or _ _,_,h=>by obtain ⟨_,_,_,rfl,_⟩:=gh h;exact ⟨rfl,rfl⟩
 | .nt _,_,h=>by obtain ⟨_,_,_,rfl,_⟩:=jF h;exact ⟨rfl,rfl⟩
theorem Ok.setQ {K:PySem.W.Frag} {G:Gh} {F:Addr->Prop} {σ:L2.St} {H:Hp} {δ:Loc} (h:Ok K G F σ H δ) (i:Nat) (b:Bool):Ok K G F (σ.set i (some (.bl b))) H (δ.set i (.val (.bl b))):=by
 by_cases hi:i < δ.length
 . exact h.set hi (jh _)
 . rw [tF (by rw [<- h.len];lia),tF (by lia)];exact h
noncomputable def tIt (i:Nat) (a:Addr) (b:Bool):TT:=fun σ H Q=>σ[i]? = some (some (.ref a))/\Q b H
theorem PT.to {X:Cx} {e:Expr} {t u:TT} (h:PT X e t) (w:∀ σ H Q,u σ H Q->t σ H Q):PT X e u:=fun pins s σ H Q I q=>h pins s σ H Q I (w σ H Q q)
section
variable {X:Cx} {c:Ck} {cx:Cl} {k:Nat} {ps:List Str} {j:Nat} {a C:Addr} {oe:Obj} {up:List Str} {Y:Cx}
 (K1:Cok X c cx k) (hz:X.mg "ValueError" = none) (U:FA X ps C up) (hY:Y.N = X.N/\Y.env = X.env/\Y.K = X.K/\Y.mg = X.mg/\Y.fn = X.fn) (hp:(a,oe)∈Y.pn) (hc:oe.cls = .ref C)
include K1 hz U hY hp hc
theorem nM:∀ (q:Qt) (x:Expr),sZ c j ps q x = true->PE Y x (L2.tI j a (q.ev up))/\PT Y x (tIt j a (q.ev up))/\∀ o vs p,x = .BoolOp o vs p->PW Y x (tIt j a (q.ev up))
 | .isI p,x,h=>by
   obtain ⟨f,np,as,pos,rfl,hq1⟩:=dP h;obtain ⟨u,v,rfl,hq2⟩:=jX hq1;simp only [aa] at hq2;obtain ⟨⟨⟨⟨⟨h1,h2⟩,h3⟩,h4⟩,h5⟩,h6⟩:=hq2;obtain ⟨n,np1,rfl,h1'⟩:=bp h1;obtain ⟨m,mp,rfl,h2'⟩:=bp h2;obtain rfl:=of_decide_eq_true h2';obtain rfl:=of_decide_eq_true h3;obtain ⟨P,hm,hP,hs⟩:=U.sub m (by simpa using h6);obtain ⟨e1,e2,e3,e4,e5⟩:=hY;obtain ⟨n1,n2,n3,n4⟩:=K1.name h1';obtain ⟨g1,g2,g3⟩:=K1.global h4;obtain ⟨g4,g5,g6⟩:=K1.global h5;have hn:PE Y (.Name n np1) (vX j):=jj (by rw [e1];exact n1) (by rw [e2];exact n2) n3 n4;have hb:X.mg "isinstance" = none:=K1.blt _ (by decide +kernel)
   have key:PE Y (.Call (.Name "isinstance" np) [.Name n np1,.Name m mp] [] pos) (L2.tI j a ((Qt.isI m).ev up)):=by
    refine HH (P:=P) hn ?_ (by unfold Gl;rw [e2];exact g1) (by rw [e4];exact hb) (by unfold Gl;rw [e2];exact g4) (by rw [e4];exact hm) g5;show cm Y _ (fun xs H Q=>xs = [.ref a,.ref P]/\Q (.bl (up.contains m)) H)
    cases q:up.contains m with
    | true=>exact Mi hp hc (by rw [e3];exact U.ve) (by rw [e3];exact hP) (by rw [e3,hs,q])
    | false=>exact Mh hp hc (by rw [e3];exact U.ve) (by rw [e3];exact U.qc) (by rw [e3];exact hP) (by rw [e3,hs,q])
   exact ⟨key,PT.to (Dr key) (fun σ H Q ⟨e,q⟩=>⟨e,_,rfl,q⟩),fun _ _ _ z=>by cases z⟩
 | .ty,x,h=>by
   obtain ⟨f,np,as,pos,rfl,hq1⟩:=dP h;obtain ⟨u,v,rfl,hq2⟩:=jX hq1;simp only [aa] at hq2;obtain ⟨⟨⟨⟨h1,h2⟩,h3⟩,h4⟩,h5⟩:=hq2;obtain ⟨n,np1,rfl,h1'⟩:=bp h1;obtain ⟨m,mp,rfl,h2'⟩:=bp h2;obtain rfl:=of_decide_eq_true h2';obtain rfl:=of_decide_eq_true h3;obtain ⟨e1,e2,e3,e4,e5⟩:=hY;obtain ⟨n1,n2,n3,n4⟩:=K1.name h1';obtain ⟨g1,g2,g3⟩:=K1.global h4;obtain ⟨g4,g5,g6⟩:=K1.global h5;have hn:PE Y (.Name n np1) (vX j):=jj (by rw [e1];exact n1) (by rw [e2];exact n2) n3 n4;have hb:X.mg "isinstance" = none:=K1.blt _ (by decide +kernel)
   have key:PE Y (.Call (.Name "isinstance" np) [.Name n np1,.Name "ValueError" mp] [] pos) (L2.tI j a (Qt.ty.ev up)) :=
    HG (T:="ValueError") hn (Mg hp hc (by rw [e3];exact U.ve) rfl (by decide +kernel)) (by unfold Gl;rw [e2];exact g1) (by rw [e4];exact hb) (by unfold Gl;rw [e2];exact g4) (by rw [e4];exact hz) rfl g6 g5
   exact ⟨key,PT.to (Dr key) (fun σ H Q ⟨e,q⟩=>⟨e,_,rfl,q⟩),fun _ _ _ z=>by cases z⟩
 | .an q1 q2,x,h=>by
   obtain ⟨o,_,p,rfl,hq1⟩:=gh h;obtain ⟨y,r,rfl,hq2⟩:=cM hq1;obtain ⟨z,r2,rfl,hq3⟩:=cM hq2;simp only [aa] at hq3;obtain ⟨⟨h0,h1⟩,h2⟩:=hq3;cases o<;>first | (cases h0;done) | skip
   obtain ⟨a1,a2,a3⟩:=nM q1 _ h1;obtain ⟨b1,b2,b3⟩:=nM q2 _ h2
   have kw:PW Y (.BoolOp .And (y::z::r2) p) (tIt j a ((Qt.an q1 q2).ev up)):=by
    have k2:PW Y (.BoolOp .And (y::z::r2) p) (Nn (tIt j a (q1.ev up)) (tIt j a (q2.ev up))):=by
     cases r2 with
     | nil=>exact wB a2 (xW b2)
     | cons w r=>exact wB a2 (b3 _ _ _ rfl)
    refine fun wh pins s σ H Q I ⟨e,q⟩=>k2 wh pins s σ H Q I ⟨e,?_⟩;have q':Q (q1.ev up && q2.ev up) H:=q
    cases z1:q1.ev up with
    | true=>rw [z1] at q';exact oz ⟨e,q'⟩
    | false=>rw [z1] at q';exact pO q'
   refine ⟨?_,kw.pt,fun _ _ _ _=>kw⟩
   cases r2 with
   | nil=>exact yd a1 (se b1)
   | cons w r=>exact yd a1 b1
 | .or q1 q2,x,h=>by
   obtain ⟨o,_,p,rfl,hq1⟩:=gh h;obtain ⟨y,r,rfl,hq2⟩:=cM hq1;obtain ⟨z,r2,rfl,hq3⟩:=cM hq2;simp only [aa] at hq3;obtain ⟨⟨h0,h1⟩,h2⟩:=hq3;cases o<;>first | (cases h0;done) | skip
   obtain ⟨a1,a2,a3⟩:=nM q1 _ h1;obtain ⟨b1,b2,b3⟩:=nM q2 _ h2
   have kw:PW Y (.BoolOp .Or (y::z::r2) p) (tIt j a ((Qt.or q1 q2).ev up)):=by
    have k2:PW Y (.BoolOp .Or (y::z::r2) p) (tOr (tIt j a (q1.ev up)) (tIt j a (q2.ev up))):=by
     cases r2 with
     | nil=>exact Dq a2 (Dp b2)
     | cons w r=>exact Dq a2 (b3 _ _ _ rfl)
    refine fun wh pins s σ H Q I ⟨e,q⟩=>k2 wh pins s σ H Q I ⟨e,?_⟩;have q':Q (q1.ev up || q2.ev up) H:=q
    cases z1:q1.ev up with
    | true=>rw [z1] at q';exact oz q'
    | false=>rw [z1] at q';exact pO ⟨e,q'⟩
   refine ⟨?_,kw.pt,fun _ _ _ _=>kw⟩
   cases r2 with
   | nil=>exact DE a1 (se b1)
   | cons w r=>exact DE a1 b1
 | .nt q1,x,h=>by
   obtain ⟨o,_,_,rfl,hh⟩:=jF h;simp only [aa] at hh;obtain rfl:=oB hh.1;obtain ⟨a1,a2,a3⟩:=nM q1 _ hh.2;exact ⟨HF a1,PT.to (Ds a2) (fun σ H Q q=>q),fun _ _ _ z=>by cases z⟩
noncomputable def tQ (K:PySem.W.Frag) (j:Nat) (a:Addr) (ev:Loc->Loc):TS:=fun D σ H=>∃ G F δ,Ok K G F σ H δ/\δ[j]? = some .no/\σ[j]? = some (some (.ref a))/\∀ σ',Ok K G F σ' H (ev δ)->(ev δ)[j]? = some .no->D.nx σ' H
theorem CZ:∀ (q:Qs) (zs:List Stmt),IP c j ps q zs = true->PSs Y zs (tQ X.K j a (q.ev up))
 | .nil,zs,h=>by
   obtain ⟨rfl,_⟩:=dI h
   exact PSs.imp kC fun D σ H ⟨G,F,δ,ok,e1,e2,q⟩=>q σ ok e1
 | .asg i q r,zs,h=>by
   obtain ⟨z,zr,rfl,hq1⟩:=cM h;rw [aa] at hq1;obtain ⟨ts,y,pos,rfl,hq2⟩:=gE hq1.1;obtain ⟨t,rfl,hq3⟩:=cY hq2;obtain ⟨t,tp,rfl,hq4⟩:=bp hq3;simp only [aa] at hq4;obtain ⟨⟨h1,h2⟩,h3⟩:=hq4;have hne:=of_decide_eq_true h3;obtain ⟨n1,n2,n3⟩:=K1.to h1;obtain ⟨b1,_,_⟩:=nM K1 hz U hY hp hc q _ h2;have ih:=CZ r zr hq1.2;obtain ⟨e1,e2,e3,e4,e5⟩:=hY;refine PSs.imp (ji (rW (by rw [e1];exact K1.nd') (by rw [e1];exact n1) (by rw [e2];exact n2) b1 (gH (xV h2).1 (xV h2).2 _ _ _) (by rw [e2,e5];exact n3)) ih) fun D σ H zz=>?_;obtain ⟨G,F,δ,ok,d1,d2,w⟩:=zz;refine ⟨d2,G,F,_,ok.setQ i _,?_,?_,w⟩
   . rw [aI hne];exact d1
   . rw [aI hne];exact d2
 | .ifb q i b r,zs,h=>by
   obtain ⟨z,zr,rfl,hq1⟩:=cM h;rw [aa] at hq1;obtain ⟨t,ya,yb,pos,rfl,hq2⟩:=oo hq1.1;rw [aa] at hq2;obtain ⟨rfl,hq3⟩:=dI hq2.2;obtain ⟨w,rfl,hq4⟩:=cY hq3;obtain ⟨ts,y,pos1,rfl,hq5⟩:=gE hq4;obtain ⟨t1,rfl,hq6⟩:=cY hq5;obtain ⟨t2,tp,rfl,hq7⟩:=bp hq6;simp only [aa] at hq7;obtain ⟨⟨h1,h2⟩,h3⟩:=hq7;have hne:=of_decide_eq_true h3;obtain ⟨v,vn,vp,rfl,h4⟩:=jm h2;obtain ⟨b',rfl,h5⟩:=DW h4;obtain rfl:=of_decide_eq_true h5;obtain ⟨n1,n2,n3⟩:=K1.to h1;obtain ⟨_,b1,_⟩:=nM K1 hz U hY hp hc q _ hq2.1;have ih:=CZ r zr hq1.2;obtain ⟨e1,e2,e3,e4,e5⟩:=hY;refine PSs.imp (ji (Dw b1 (ji (rW (by rw [e1];exact K1.nd') (by rw [e1];exact n1) (by rw [e2];exact n2) Jn (gH rfl rfl _ _ _) (by rw [e2,e5];exact n3)) kC) kC) ih) fun D σ H zz=>?_;obtain ⟨G,F,δ,ok,d1,d2,w⟩:=zz;refine ⟨d2,?_⟩;unfold Qs.ev at w
   cases z1:q.ev up with
   | true =>
     rw [if_pos z1] at w;refine oz ⟨G,F,_,ok.setQ i _,?_,?_,w⟩
     . rw [aI hne];exact d1
     . rw [aI hne];exact d2
   | false =>
     rw [if_neg (by rw [z1];simp)] at w;exact pO ⟨G,F,δ,ok,d1,d2,w⟩
end
noncomputable def tyB:Stmt->List Stmt
 | .Try b _ _ _ _=>b
 | _=>[]
noncomputable def tyH:Stmt->List ExceptHandler
 | .Try _ h _ _ _=>h
 | _=>[]
noncomputable def tyO:Stmt->List Stmt
 | .Try _ _ o _ _=>o
 | _=>[]
noncomputable def tyF:Stmt->List Stmt
 | .Try _ _ _ f _=>f
 | _=>[]
noncomputable def ehT:ExceptHandler->Option Expr
 | .ExceptHandler t _ _ _=>t
noncomputable def ehN:ExceptHandler->Option Str
 | .ExceptHandler _ n _ _=>n
noncomputable def ehB:ExceptHandler->List Stmt
 | .ExceptHandler _ _ b _=>b
noncomputable def Jr (x:Stmt) (k:List Stmt->Str->Str->Stmt->List Stmt->Bool):Bool:=(GI x == 2) && on0 (tyO x) (on0 (tyF x) (on1 (tyH x) fun h=>onO (ehT h) fun e=>cS e fun p=>onS (ehB h) fun b r=>match ehN h with
 | some n=>k (tyB x) p n b r
 | none=>false))
theorem DN {x:Stmt} {k:List Stmt->Str->Str->Stmt->List Stmt->Bool} (h:Jr x k = true):∃ body p n b r np hp pos,x = .Try body [.ExceptHandler (some (.Name p np)) (some n) (b::r) hp] [] [] pos/\k body p n b r = true:=by
 obtain ⟨⟨body,hs,o,f,pos,rfl⟩,h1⟩:=yH h;obtain ⟨e1,h2⟩:=dI h1;obtain ⟨e2,h3⟩:=dI h2;obtain ⟨⟨t,n,b,hp⟩,e3,h4⟩:=cY h3;obtain ⟨y,e4,h5⟩:=sg h4;obtain ⟨p,np,rfl,h6⟩:=bp h5;obtain ⟨b0,r,e5,h7⟩:=cM h6;have e1:o = []:=e1;have e2:f = []:=e2;have e3:hs = [.ExceptHandler t n b hp]:=e3;have e4:t = some (.Name p np):=e4;have e5:b = b0::r:=e5;subst e1 e2 e3 e4 e5
 cases n with
 | none=>cases h7
 | some n=>exact ⟨body,p,n,b0,r,np,hp,pos,rfl,h7⟩
inductive Yt where
 | st (s:S) | tr (rs:Rs) (j:Nat) (qs:Qs)
noncomputable def yS (ups:List (Str × List Str)):List Yt->Ss
 | []=>.nil
 | .st s::r=>.cons s (yS ups r)
 | .tr rs j qs::r=>.cons (.opq (zS ups rs j qs)) (yS ups r)
noncomputable def JB (c:Ck) (xs:List (Nat × Nat)) (ps:List Str) (ups:List (Str × List Str)) (rs:Rs) (j:Nat) (qs:Qs) (x:Stmt):Bool :=
 Jr x fun body p n b r=>oW [] xs c rs body && IP c j ps qs (b::r) && dM c p && ps.contains p && decide (c.N[j]? = some n) && decide (c.sc.names.lookup n = some .local) && ups.all fun u=>u.2.contains p
noncomputable def ckY (c:Ck) (xs:List (Nat × Nat)) (ps:List Str) (ups:List (Str × List Str)):List Yt->List Stmt->Bool
 | [],zs=>on0 zs true
 | .st s::r,zs=>onS zs fun y ys=>ckS c s y && ckY c xs ps ups r ys
 | .tr rs j qs::r,zs=>onS zs fun y ys=>JB c xs ps ups rs j qs y && ckY c xs ps ups r ys
theorem Ok.keepNo {K:PySem.W.Frag} {G:Gh} {F:Addr->Prop} {σ:L2.St} {H:Hp} {δ:Loc} (h:Ok K G F σ H δ) {j:Nat} (e:δ[j]? = some .no) (v:Option V):Ok K G F (σ.set j v) H δ:=by
 refine ⟨h.same,h.fd,h.rf,h.rl,h.tf,h.tabs,by rw [aW];exact h.len,fun i s hi=>?_,fun i i' s t a e1 e2 o1 o2 a1 a2=>?_⟩
 . by_cases q:i = j
   . subst q;rw [e] at hi;cases hi;trivial
   . rw [aI (Ne.symm q)];exact h.sl i s hi
 . have n1:i≠j:=by rintro rfl;rw [e] at e1;cases e1;cases o1
   have n2:i'≠j:=by rintro rfl;rw [e] at e2;cases e2;cases o2
   rw [aI (Ne.symm n1)] at a1;rw [aI (Ne.symm n2)] at a2;exact h.apart i i' s t a e1 e2 o1 o2 a1 a2
section
variable {X:Cx} {c:Ck} {cx:Cl} {k:Nat} {ps:List Str} {xs:List (Nat × Nat)} {ups:List (Str × List Str)}
theorem Cok.tried (C:Cok X c cx k) (pn:List (Addr × Obj)) (xe:Value->Shared->Prop):Cok (X.tried pn xe).nox c cx k:={ C with xe:=rfl }
theorem KJ (K1:Cok X c cx k) (hS:X.env.scope = c.sc) (hB:X.env.blockKind = .function) (hz:X.mg "ValueError" = none) (fr:X.ex = []/\X.stack = X.env::X.outer/\X.env.frame = some X.env.locals)
 (fx:∀ (f g:Nat) (x:Str) (ps:List Str),(f,g)∈xs->c.fns[f]? = some (x,ps)->∃ a fd,X.mg x = some (.ref a)/\PySem.W.keepIn X.K (.ref a) = true/\Binds X.K fd ps []/\gf X.prog X.w X.K X.mg X.base (CXE X.prog X.w) k a fd ps (spX X.K X.mg (cx.call g)))
 (hps:∀ p,p∈ps->∃ P,X.mg p = some (.ref P)/\VE X.K P = true) (hup:∀ n up,ups.lookup n = some up->∃ C,X.mg n = some (.ref C)/\FA X ps C up) {rs:Rs} {j:Nat} {qs:Qs} {x:Stmt} (ck:JB c xs ps ups rs j qs x = true):PS X x (tS X.K (evS cx (.opq (zS ups rs j qs)))):=by
 obtain ⟨body,p,n,b,r,np,hp,pos,rfl,h⟩:=DN ck;simp only [aa] at h;obtain ⟨⟨⟨⟨⟨⟨h1,h2⟩,h3⟩,h4⟩,h5⟩,h6⟩,h7⟩:=h;have h5:=of_decide_eq_true h5;have h6:=of_decide_eq_true h6;obtain ⟨g1,g2,g3⟩:=K1.global h3;obtain ⟨f1,f2,f3⟩:=fr;obtain ⟨P,hm,hP⟩:=hps p (by simpa using h4);refine PS.imp (KY (i:=j) (P:=P) (tb:=fun E=>tR X.K X.mg E (eW cx rs)) (ts:=fun a C D σ H=>∃ up,FA X ps C up/\tQ X.K j a (qs.ev up) D σ H) f1 f2 f3 g1 hm hP g2 K1.nd' (by rw [K1.hN];exact h5) (show X.env.scope.names.lookup n = some .local by rw [hS];exact h6) (show X.env.scope.names.lookup n = some .local by rw [hS];exact h6) (fun E pn xe hpass=>?_) (fun a C=>?_)) fun D σ H ⟨G,F,δ,o,ok,ev,post⟩=>?_
 . exact nK (X:=X.tried pn xe) (cls:=[]) (K1.tried pn xe) hS hB hpass (fun z=>absurd rfl z) (fun z=>absurd rfl z) fx (fun n z=>by simp at z) rs body h1
 . exact fun oe vs pins s σ H D c1 c2 I ⟨up,U,q⟩=>KW (t:=tQ X.K j a (qs.ev up)) (fun oe vs pn c1 c2 hp=>CZ (Y:=(X.mrk a).tried pn fun _ _=>False) K1 hz U ⟨rfl,rfl,rfl,rfl,rfl⟩ hp c1 qs _ h2) oe vs pins s σ H D c1 c2 I q
 . have ev:zS ups rs j qs cx δ = some o:=ev;unfold zS at ev;refine ⟨fun σ1 u _ H1=>∃ nm δ1 F1,eW cx rs δ = some (.inr (nm,δ1))/\X.mg nm = some u/\Step G F H F1 H1/\Ok X.K G F1 σ1 H1 δ1,?_,?_⟩
   . cases er:eW cx rs δ with
     | none=>rw [er] at ev;cases ev
     | some r =>
       rw [er] at ev;refine ⟨G,F,δ,r,ok,er,?_⟩
       cases r with
       | inl o1=>cases ev;exact post
       | inr q =>
         obtain ⟨nm,δ1⟩:=q;dsimp only at ev;split at ev
         . rename_i up hl;obtain ⟨C,hC,_⟩:=hup nm up hl;exact fun σ' H' F' st ok'=>⟨_,hC,nm,δ1,F',rfl,hC,st,ok'⟩
         . cases ev
   . rintro σ1 u H1 ⟨nm,δ1,F1,er,hu,st,ok1⟩;rw [er] at ev;dsimp only at ev;split at ev
     . rename_i up hl;obtain ⟨C,hC,U⟩:=hup nm up hl;rw [hu] at hC;cases hC;obtain ⟨P',hm',_,hs⟩:=U.sub p (by simpa using h4);rw [hm] at hm';cases hm';split at ev
       . rename_i hn;cases ev;have hj:=Iv hn;have hlt:j < σ1.length:=by rw [<- ok1.len];exact (aB.mp hj).1
         refine ⟨C,rfl,U.ve,?_,fun a=>⟨up,U,G,F1,δ1,ok1.keepNo hj _,hj,bX hlt,fun σ' ok' e'=>?_⟩⟩
         . rw [hs];have hmem:(nm,up)∈ups:=PySem.mem_of_lookup hl;exact bb.mp h7 _ hmem
         . exact post _ _ F1 st (ok'.keepNo e' _)
       . cases ev
     . cases ev
theorem KI (K1:Cok X c cx k) (hS:X.env.scope = c.sc) (hB:X.env.blockKind = .function) (hz:X.mg "ValueError" = none) (fr:X.ex = []/\X.stack = X.env::X.outer/\X.env.frame = some X.env.locals)
 (fx:∀ (f g:Nat) (x:Str) (ps:List Str),(f,g)∈xs->c.fns[f]? = some (x,ps)->∃ a fd,X.mg x = some (.ref a)/\PySem.W.keepIn X.K (.ref a) = true/\Binds X.K fd ps []/\gf X.prog X.w X.K X.mg X.base (CXE X.prog X.w) k a fd ps (spX X.K X.mg (cx.call g)))
 (hps:∀ p,p∈ps->∃ P,X.mg p = some (.ref P)/\VE X.K P = true) (hup:∀ n up,ups.lookup n = some up->∃ C,X.mg n = some (.ref C)/\FA X ps C up):∀ (ys:List Yt) (zs:List Stmt),ckY c xs ps ups ys zs = true->PSs X zs (tS X.K (dk cx (yS ups ys)))
 | [],zs,h=>by
   obtain ⟨rfl,_⟩:=dI h
   exact ud
 | .st s::r,zs,h=>by
   obtain ⟨_,_,rfl,hq⟩:=cM h;rw [aa] at hq
   exact kX (He K1 hS hB s _ hq.1) (KI K1 hS hB hz fr fx hps hup r _ hq.2)
 | .tr rs j qs::r,zs,h=>by
   obtain ⟨_,_,rfl,hq⟩:=cM h;rw [aa] at hq;exact kX (KJ K1 hS hB hz fr fx hps hup hq.1) (KI K1 hS hB hz fr fx hps hup r _ hq.2)
noncomputable def qg (rs:Rs):Ss:=.cons (.opq fun cx δ=>match eW cx rs δ with
 | some (.inl o)=>some o
 | _=>none) .nil
theorem Np {cls:List Str} (K1:Cok X c cx k) (hS:X.env.scope = c.sc) (hB:X.env.blockKind = .function)
 (fx:∀ (f g:Nat) (x:Str) (ps:List Str),(f,g)∈xs->c.fns[f]? = some (x,ps)->∃ a fd,X.mg x = some (.ref a)/\PySem.W.keepIn X.K (.ref a) = true/\Binds X.K fd ps []/\gf X.prog X.w X.K X.mg X.base (CXE X.prog X.w) k a fd ps (spX X.K X.mg (cx.call g)))
 (hcl:∀ n,n∈cls->∃ C,X.mg n = some (.ref C)/\VE X.K C = true) {rs:Rs} {zs:List Stmt} (h:oW cls xs c rs zs = true):PSs X zs (tS X.K (dk cx (qg rs))):=by
 have C':Cok X.nox c cx k:={ K1 with xe:=rfl };refine PSs.imp (nK (X:=X) (W:=fun _=>E0) C' hS hB Jj.pass (fun _=>Jj) (fun _=>by rw [K1.xe];exact iz) fx hcl rs zs h) fun D σ H zz=>?_;obtain ⟨G,F,δ,o,ok,ev,post⟩:=zz;refine ⟨G,F,δ,.inl o,ok,?_,post⟩;unfold qg at ev;simp only [dk,evS] at ev
 cases er:eW cx rs δ with
 | none=>rw [er] at ev;cases ev
 | some r =>
   rw [er] at ev
   cases r with
   | inr q=>cases ev
   | inl o1=>cases o1<;>(cases ev;rfl)
end
class Xs where
 xs:List (Nat × Nat)
variable [Xs]
noncomputable def FX (X:Cx) (cf:List (Str × List Str)) (cx:Cl) (k:Nat):Prop:=(X.ex = []/\X.stack = X.env::X.outer/\X.env.frame = some X.env.locals)/\∀ (f g:Nat) (x:Str) (ps:List Str),(f,g)∈Xs.xs->cf[f]? = some (x,ps)->∃ a fd,X.mg x = some (.ref a)/\PySem.W.keepIn X.K (.ref a) = true/\Binds X.K fd ps []/\gf X.prog X.w X.K X.mg X.base (CXE X.prog X.w) k a fd ps (spX X.K X.mg (cx.call g))
noncomputable def kn (rs:Rs):Ss:=.cons (.opq fun cx δ=>match eW cx rs δ with
 | some (.inr (c,δ1))=>some (.rt (.str c) δ1)
 | _=>none) .nil
structure Dn (K:PySem.W.Frag) (mgv:Str->Option Value) (cf:List (Str × List Str)) (gn:List Str) (fd:Fd) (st:Stmt) (a:Addr) (fdd:FuncData):Prop where
 fn:Fun K fd.name fd.name st a fdd
 mg:mgv fd.name = some (.ref a)
 sc:bA (fd.ps++fd.loc) fd.ps (ay st)
 ck:eQ ⟨fd.ps++fd.loc,ay st,cf,gn⟩ fd.body (ba st) = true\/∀ (X:Cx) (cx:Cl) (k:Nat),Cok X ⟨fd.ps++fd.loc,ay st,cf,gn⟩ cx k->X.env.scope = ay st->X.env.blockKind = .function->X.K = K->X.mg = mgv->FX X cf cx k->PSs X (ba st) (tS K (dk cx fd.body))
 bd:Binds K fdd fd.ps []
noncomputable def Fv (K:PySem.W.Frag) (mg:Str->Option Value) (cf:List (Str × List Str)) (gn:List Str):List Fd->Prop
 | []=>True
 | fd::r=>(∃ st a fdd,Dn K mg cf gn fd st a fdd)/\Fv K mg cf gn r
theorem qQ {K:PySem.W.Frag} {mg:Str->Option Value} {cf:List (Str × List Str)} {gn:List Str}:∀ {G:List Fd} {i:Nat} {fd:Fd},Fv K mg cf gn G->G[i]? = some fd->∃ st a fdd,Dn K mg cf gn fd st a fdd
 | [],_,_,_,e=>by simp at e
 | f::r,0,fd,h,e=>by
   cases e
   exact h.1
 | f::r,i+1,fd,h,e=>qQ (i:=i) h.2 (by simpa using e)
noncomputable def bW (G:List Fd):List (Str × List Str):=G.map fun fd=>(fd.name,fd.ps)
structure Top (w:World) (K:PySem.W.Frag) (mg:Str->Option Value) (G Gd:List Fd) (gl:List D) (gn:List Str):Prop where
 fns:Fv K mg (bW Gd) gn Gd
 sub:∀ (i:Nat) (fd:Fd),Gd[i]? = some fd->G[i]? = some fd
 xw:∀ i g,(i,g)∈Xs.xs->∃ fd st a fdd,Gd[i]? = some fd/\Dn K mg (bW Gd) gn fd st a fdd/\∃ rs cls,G[g]? = some ⟨fd.name,fd.ps,fd.loc,kn rs,false⟩/\oW cls Xs.xs ⟨fd.ps++fd.loc,ay st,bW Gd,gn⟩ rs (ba st) = true/\∀ n,n∈cls->∃ C,mg n = some (.ref C)/\VE K C = true
 few:G.length<=uE
 blt:∀ x,x∈iq->mg x = none
 glob:∀ (g:Nat) (x:Str) (d:D),gn[g]? = some x->gl[g]? = some d->∃ u v,mg x = some u/\RelV v u/\∀ H F,Rel K H F d v
 gsome:∀ (g:Nat) (x:Str),gn[g]? = some x->∃ d,gl[g]? = some d
 gds:∀ (n:Str) (l:List (Str × Int)),Tbs.gds.lookup n = some l->∃ a,mg n = some (.ref a)/\GdK w K a l
theorem nG {K:PySem.W.Frag} {H:Hp} {F:Addr->Prop} {ds:List D} {vs:List V} {N:List Str} (fd:FD F H) (tf:TF F) (tb:kf H) (r:aF K H F ds vs) (hl:vs.length<=N.length):Ok K ⟨H,fun b=>F b/\∃ o,H b = some o/\Mo o⟩ F (start N vs) H (init N.length ds):=by
 have hlen:=r.length
 have low:∀ (i:Nat) (s:Sl),(init N.length ds)[i]? = some s->s = .no\/∃ d,ds[i]? = some d/\s = .val d:=fun i s e=>by
  unfold init at e;by_cases hi:i < ds.length
  . rw [aO (by simpa using hi),aQ,aw hi] at e;cases e;exact .inr ⟨_,aw hi,rfl⟩
  . rw [aZ (by simp;omega),fI] at e;split at e
    . cases e;exact .inl rfl
    . cases e
 refine ⟨Sim.refl H,fd,fun b z=>z.1,fun b z=>z.2,tf,tb,?_,fun i s e=>?_,fun i j s t a e1 _ o1=>?_⟩
 . unfold init L2.start;simp only [au,aq,fX];omega
 . rcases low i s e with rfl | ⟨d,e1,rfl⟩
   . trivial
   . obtain ⟨v,hv,rv⟩:=r.get e1;refine ⟨v,?_,rv⟩;unfold L2.start;have hi:i < vs.length:=(aB.mp hv).1;rw [aO (by simpa using hi),aQ,hv];rfl
 . rcases low i _ e1 with z | ⟨d,_,z⟩<;>(subst z;cases o1)
noncomputable def Bo (rs:Rs) (np n:Nat) (cx:Cl) (ds:List D):Option D:=if ds.length = np then (match eW cx rs (init n ds) with
 | some (.inr (c,_))=>some (.str c)
 | _=>none) else none
theorem okX {P:Program} {w:World} {K:PySem.W.Frag} {mg:Str->Option Value} {base:Heap} {x qual:Str} {st:Stmt} {f:Addr} {fd:FuncData} {N ps:List Str} {n:Nat} {cls:List Str} {xs:List (Nat × Nat)} {cf:List (Str × List Str)} {gn:List Str} {cx:Cl} {rs:Rs} (F:Fun K x qual st f fd) (S:bA N ps (ay st)) (hps:ps.length<=N.length)
 (C:∀ (A:Around) (outer:List Env) (s:Shared) (H:Hp) (E:XK),iT n (A.deeper (envOfC qual (ay st) s.heap.objs.size f fd.code))->Cok (jt (CXE P w) P w K mg base N qual (ay st) f fd.code A outer s H E).nox ⟨N,ay st,cf,gn⟩ cx n)
 (fx:∀ (f g:Nat) (x:Str) (ps:List Str),(f,g)∈xs->cf[f]? = some (x,ps)->∃ a fd,mg x = some (.ref a)/\PySem.W.keepIn K (.ref a) = true/\Binds K fd ps []/\gf P w K mg base (CXE P w) n a fd ps (spX K mg (cx.call g)))
 (hcl:∀ n,n∈cls->∃ C,mg n = some (.ref C)/\VE K C = true)
 (ck:oW cls xs ⟨N,ay st,cf,gn⟩ rs (ba st) = true):gf P w K mg base (CXE P w) (n+1) f fd ps (spX K mg (Bo rs ps.length N.length cx)):=by
 obtain ⟨oc,od,kV,doc,pm,an,cdv,ct,osl,rfl,lk,hcd⟩:=F.ex;refine Jy lk hcd S (fun vs H Q E h=>?_) fun A outer s H vs Q E hr hsp=>?_
 . obtain ⟨F,ds,c,u,_,_,_,r,e,_⟩:=h;unfold Bo at e;split at e
   . rename_i hl;rw [r.length];exact hl
   . cases e
 . obtain ⟨F,ds,c,u,hfd,htf,tb,r,e,hm,q⟩:=hsp;unfold Bo at e;split at e
   . rename_i hl
     have hblk:(jt (CXE P w) P w K mg base N qual (ay st) f cdv A outer s H E).env.blockKind = .function:=by
      unfold Env.blockKind;show (if (ay st).kind.isAnnotationScope then ScopeKind.function else (ay st).kind) = _;rw [S.kind];rfl
     refine ⟨_,nK (W:=fun _=>E) (C A outer s H E hr) rfl hblk Jo (fun _=>Nr) (fun _=>PassesOwn.leaving) fx hcl rs _ ck,?_⟩
     cases ev:eW cx rs (init N.length ds) with
     | none=>rw [ev] at e;cases e
     | some o =>
       rw [ev] at e
       cases o with
       | inl o=>cases e
       | inr p =>
         obtain ⟨c',δ'⟩:=p;cases e;exact ⟨_,F,_,_,nG hfd htf tb r (by rw [r.length,hl];exact hps),ev,fun σ' H' F' st ok'=>⟨u,hm,q H' ok'.same ok'.tabs⟩⟩
   . cases e
theorem grow {K:PySem.W.Frag} {H H':Hp} {F F':Addr->Prop} {σ:L2.St} {δ:Loc} (hfd:FD F H) (ok:Ok K ⟨H,fun b=>F b/\∃ o,H b = some o/\Mo o⟩ F' σ H' δ) (b:Addr) (z:F b):F' b:=by
 obtain ⟨o,e,m | ⟨⟨ps,rfl⟩,t,ht,eb⟩⟩:=hfd b z
 . exact ok.rf b ⟨z,o,e,m⟩
 . rw [<- eb];exact ok.tf t ht
theorem okC {P:Program} {w:World} {K:PySem.W.Frag} {mg:Str->Option Value} {base:Heap} {x qual:Str} {st:Stmt} {f:Addr} {fd:FuncData} {N ps:List Str} {k:Nat} {sp:Sp} (F:Fun K x qual st f fd) (S:bA N ps (ay st)) (len:∀ vs H Q E,sp vs H Q E->vs.length = ps.length)
 (hbody:∀ (A:Around) (outer:List Env) (s:Shared) (H:Hp) (vs:List V) (Q:VK) (E:XK),iT k (A.deeper (envOfC qual (ay st) s.heap.objs.size f fd.code))->sp vs H Q E ->
   ∃ t,PSs (jt CX0 P w K mg base N qual (ay st) f fd.code A outer s H E).nox (ba st) t/\t { nx:=fun _ H'=>Q .non H',rt:=Q } (L2.start N vs) H):gf P w K mg base CX0 (k+1) f fd ps sp:=by
 obtain ⟨oc,od,kV,doc,pm,an,cdv,ct,osl,rfl,lk,hcd⟩:=F.ex;refine Jy lk hcd S len fun A outer s H vs Q E hr hsp=>?_;obtain ⟨t,h,q⟩:=hbody A outer s H vs Q E hr hsp;exact ⟨t,h.nox,q⟩
section
variable {P:Program} {w:World} {K:PySem.W.Frag} {mg:Str->Option Value} {base:Heap} {G Gd:List Fd} {gl:List D} {gn:List Str}
noncomputable def BM (mg:Str->Option Value) (base:Heap):Prop:=∃ bm ob,mg "__builtins__" = some (.ref bm)/\bm≠builtinsNs/\base.get? bm = some ob/\ob.cls = .type "module"/\ob.dict = some builtinsNs/\ob.data = .plain
theorem rL {n i:Nat} {fd:Fd} (e:G[i]? = some fd) {ds:List D} {d:D} (h:run G gl (n+1) i ds = some d):ds.length = fd.ps.length/\∃ δ,entry fd.hf (fd.ps++fd.loc).length ds = some δ/\outD (dk ⟨run G gl n,gl,hfs G⟩ fd.body δ) = some d:=by
 unfold run at h;rw [e] at h;dsimp only at h;split at h
 . cases q:entry fd.hf (fd.ps++fd.loc).length ds with
   | none=>rw [q] at h;cases h
   | some δ=>rw [q] at h;exact ⟨‹_›,δ,rfl,h⟩
 . cases h
theorem ye {n i:Nat} {fd:Fd} (few:G.length<=uE) (e:G[i]? = some fd) {ds:List D} {d:D} (h:run G gl (n+1) (i+uE) ds = some d):ds.length = fd.ps.length/\∃ δ,entry fd.hf (fd.ps++fd.loc).length ds = some δ/\Lk (dk ⟨run G gl n,gl,hfs G⟩ fd.body δ) = some d:=by
 unfold run at h;rw [cO (by omega)] at h;dsimp only at h;rw [Nat.add_sub_cancel,e] at h;dsimp only at h;split at h
 . cases q:entry fd.hf (fd.ps++fd.loc).length ds with
   | none=>rw [q] at h;cases h
   | some δ=>rw [q] at h;exact ⟨(‹_/\_›).2,δ,rfl,h⟩
 . cases h
theorem MP {G:List Fd} {gl:List D} {n g:Nat} {nm:Str} {ps loc:List Str} {rs:Rs} (e:G[g]? = some ⟨nm,ps,loc,kn rs,false⟩) {ds:List D} {c:Str} (h:run G gl (n+1) g ds = some (.str c)):Bo rs ps.length (ps++loc).length ⟨run G gl n,gl,hfs G⟩ ds = some (.str c):=by
 obtain ⟨hl,δ,e1,h2⟩:=rL e h;cases e1;unfold Bo;rw [if_pos hl];unfold kn at h2;simp only [dk,evS] at h2
 cases q:eW ⟨run G gl n,gl,hfs G⟩ rs (init (ps++loc).length ds) with
 | none=>rw [q] at h2;cases h2
 | some o =>
   rw [q] at h2
   cases o with
   | inl o=>cases h2
   | inr p=>cases h2;rfl
theorem Mc {P:Program} {w:World} {K:PySem.W.Frag} {mg:Str->Option Value} {base:Heap} {n:Nat} {a:Addr} {fd:FuncData} {ps:List Str} {f f':List D->Option D} (F:gf P w K mg base (CXE P w) n a fd ps (spX K mg f)) (h:∀ ds c,f' ds = some (.str c)->f ds = some (.str c)):gf P w K mg base (CXE P w) n a fd ps (spX K mg f'):=by
 have im:∀ vs H Q E,spX K mg f' vs H Q E->spX K mg f vs H Q E:=fun vs H Q E ⟨F,ds,c,u,a1,a2,a3,a4,e,a5⟩=>⟨F,ds,c,u,a1,a2,a3,a4,h _ _ e,a5⟩;exact ⟨fun vs H Q E q=>F.len vs H Q E (im vs H Q E q),fun A outer s H args us vs Q E h1 h2 h3 h4 q=>F.run A outer s H args us vs Q E h1 h2 h3 h4 (im vs H Q E q)⟩
theorem qw {H:Hp} {F:Addr->Prop} {ds:List D} {vs:List V} (r:aF K H F ds vs) {k:Nat} {cs:List D} (e:ds.getLast? = some (.fn k cs)):False:=by
 rw [List.getLast?_eq_getElem?] at e;obtain ⟨v,_,rv⟩:=r.get e;unfold Rel at rv;exact rv
theorem um {n f:Nat} {ds:List D} (z:n = 0):run G gl n f ds = none:=by
 subst z;rfl
theorem Fu (T:Top w K mg G Gd gl gn) (hK:K.In base) (hB:BM mg base):∀ n:Nat,(∀ (i:Nat) (fd:Fd) (st:Stmt) (a:Addr) (fdd:FuncData),Gd[i]? = some fd->Dn K mg (bW Gd) gn fd st a fdd ->
 gf P w K mg base CX0 n a fdd fd.ps (spF K (run G gl n i))/\gf P w K mg base CX0 n a fdd fd.ps (spO K (run G gl n (i+uE))))/\∀ (i g:Nat) (x:Str) (ps:List Str),(i,g)∈Xs.xs->(bW Gd)[i]? = some (x,ps)->∃ a fd,mg x = some (.ref a)/\PySem.W.keepIn K (.ref a) = true/\Binds K fd ps []/\gf P w K mg base (CXE P w) n a fd ps (spX K mg (run G gl n g))
 | 0=>by
   have z:∀ i ds d,run G gl 0 i ds≠some d:=fun i ds d h=>by unfold run at h;cases h
   refine ⟨fun i fd st a fdd e _=>⟨⟨fun vs H Q E h=>?_,fun A outer s H args us vs Q E _ _ _ _ h=>?_⟩,⟨fun vs H Q E h=>?_,fun A outer s H args us vs Q E _ _ _ _ h=>?_⟩⟩,fun i g x ps hx hc=>?_⟩
   . obtain ⟨F,ds,d,_,_,_,_,h1,_⟩:=h;exact (z _ _ _ h1).elim
   . obtain ⟨F,ds,d,_,_,_,_,h1,_⟩:=h;exact (z _ _ _ h1).elim
   . obtain ⟨F,ds,d,_,_,_,_,h1,_⟩:=h;exact (z _ _ _ h1).elim
   . obtain ⟨F,ds,d,_,_,_,_,h1,_⟩:=h;exact (z _ _ _ h1).elim
   . obtain ⟨fd,st,a,fdd,eg,Dd,rs,cls,e1,ck,hcl⟩:=T.xw i g hx;have hc':(Gd.map fun fd=>(fd.name,fd.ps))[i]? = some (x,ps):=hc;rw [aQ,eg] at hc';cases hc';refine ⟨a,fdd,Dd.mg,Dd.fn.kp,Dd.bd,⟨fun vs H Q E h=>?_,fun A outer s H args us vs Q E _ _ _ _ h=>?_⟩⟩
     . obtain ⟨F,ds,c,u,_,_,_,_,h1,_⟩:=h;exact (z _ _ _ h1).elim
     . obtain ⟨F,ds,c,u,_,_,_,_,h1,_⟩:=h;exact (z _ _ _ h1).elim
 | n+1=>by
   obtain ⟨ih,ix⟩:=Fu T hK hB n
   have fns:∀ (f:Nat) (x:Str) (ps:List Str),(bW Gd)[f]? = some (x,ps)->∃ gd st a fdd,gd.name = x/\gd.ps = ps/\Gd[f]? = some gd/\Dn K mg (bW Gd) gn gd st a fdd:=fun f x ps hf=>by
    have hf':(Gd.map fun fd=>(fd.name,fd.ps))[f]? = some (x,ps):=hf;rw [aQ,aE] at hf';obtain ⟨gd,eg,ep⟩:=hf';cases ep;obtain ⟨st',a',fdd',D'⟩:=qQ T.fns eg;exact ⟨gd,st',a',fdd',rfl,rfl,eg,D'⟩
   have fn1:∀ (f:Nat) (x:Str) (ps:List Str),(bW Gd)[f]? = some (x,ps)->∃ a fd,mg x = some (.ref a)/\PySem.W.keepIn K (.ref a) = true/\Binds K fd ps []/\gf P w K mg base CX0 n a fd ps (spF K (run G gl n f)):=fun f x ps hf=>by
    obtain ⟨gd,st,a,fdd,rfl,rfl,eg,D'⟩:=fns f x ps hf;exact ⟨a,fdd,D'.mg,D'.fn.kp,D'.bd,(ih f gd st a fdd eg D').1⟩
   have fn3:∀ (f:Nat) (x:Str) (ps:List Str),(bW Gd)[f]? = some (x,ps)->∃ a fd,mg x = some (.ref a)/\PySem.W.keepIn K (.ref a) = true/\Binds K fd ps []/\gf P w K mg base CX0 n a fd ps (spO K (run G gl n (f+uE))):=fun f x ps hf=>by
    obtain ⟨gd,st,a,fdd,rfl,rfl,eg,D'⟩:=fns f x ps hf;exact ⟨a,fdd,D'.mg,D'.fn.kp,D'.bd,(ih f gd st a fdd eg D').2⟩
   refine ⟨fun i fd st a fdd e Dd=>?_,fun i g x ps hx hc=>?_⟩
   . have eG:=T.sub i fd e
     have C:∀ (A:Around) (outer:List Env) (s:Shared) (H:Hp) (E:XK),iT n (A.deeper (envOfC fd.name (ay st) s.heap.objs.size a fdd.code)) ->
      Cok (jt CX0 P w K mg base (fd.ps++fd.loc) fd.name (ay st) a fdd.code A outer s H E).nox ⟨fd.ps++fd.loc,ay st,bW Gd,gn⟩ ⟨run G gl n,gl,hfs G⟩ n:=fun A outer s H E hr =>
      ⟨rfl,Dd.sc.nd,fun x hx=>hx,fun x hx=>hx,fun x hx=>⟨hx,.inl rfl⟩,fun x hx=>hx,rfl,rfl,hr,fn1,fn3,T.blt,T.glob,T.gsome,T.gds,fun z f ds=>um z⟩
     have B:∀ (A:Around) (outer:List Env) (s:Shared) (H:Hp) (E:XK),iT n (A.deeper (envOfC fd.name (ay st) s.heap.objs.size a fdd.code)) ->
      PSs (jt CX0 P w K mg base (fd.ps++fd.loc) fd.name (ay st) a fdd.code A outer s H E).nox (ba st) (tS K (dk ⟨run G gl n,gl,hfs G⟩ fd.body)):=fun A outer s H E hr=>by
      have hblk:(jt CX0 P w K mg base (fd.ps++fd.loc) fd.name (ay st) a fdd.code A outer s H E).nox.env.blockKind = .function:=by
       unfold Env.blockKind;show (if (ay st).kind.isAnnotationScope then ScopeKind.function else (ay st).kind) = _;rw [Dd.sc.kind];rfl
      rcases Dd.ck with ck | oq
      . exact nJ (cx:=⟨run G gl n,gl,hfs G⟩) (C A outer s H E hr) rfl hblk fd.body (ba st) ck
      . exact oq _ _ n (C A outer s H E hr) rfl hblk rfl rfl ⟨⟨rfl,rfl,rfl⟩,ix⟩
     have fin:∀ {F:Addr->Prop} {H:Hp} {σ:L2.St} {δ:Loc} {d:D} {Q:VK} {E:XK} (hfd:FD F H) (htf:TF F) (ok:Ok K ⟨H,fun b=>F b/\∃ o,H b = some o/\Mo o⟩ F σ H δ) (h2:outD (dk ⟨run G gl n,gl,hfs G⟩ fd.body δ) = some d) (q:∀ v H',Sim H H'->kf H'->Rel K H' F d v->Q v H'),
      tS K (dk ⟨run G gl n,gl,hfs G⟩ fd.body) { nx:=fun _ H'=>Q .non H',rt:=Q } σ H:=fun {F H σ δ d Q E} hfd htf ok h2 q=>by
      cases eo:dk ⟨run G gl n,gl,hfs G⟩ fd.body δ with
      | none=>rw [eo] at h2;cases h2
      | some o =>
        rw [eo] at h2;refine ⟨⟨H,fun b=>F b/\∃ o,H b = some o/\Mo o⟩,F,_,o,ok,eo,?_⟩
        cases o with
        | nx δ =>
          cases h2
          exact fun σ' H' F' st' ok'=>q .non H' ok'.same ok'.tabs rP
        | rt d' δ =>
          cases h2;refine fun v σ' H' F' st' ok' r'=>q v H' ok'.same ok'.tabs (Rel.step (G:=g0) ok'.fd ⟨fun _ _ _ e _=>e,fun b z=>?_,fun _ _ r _ _=>r.elim,fun _ ps e=>⟨ps,e⟩⟩ _ v r')
          exact .inl (grow hfd ok' b z)
        | ro ds' δ =>
          cases h2;refine fun a xs σ' H' F' st' ok' f1 f2 hs r'=>q _ H' ok'.same ok'.tabs ?_
          exact fP.rel ok'.fd (grow hfd ok') (qv hfd f2.1) hs r'
        | bk δ=>cases h2
        | ct δ=>cases h2
     have fiO:∀ {F:Addr->Prop} {H:Hp} {σ:L2.St} {δ:Loc} {zs:D} {Q:VK} (hfd:FD F H) (htf:TF F) (ok:Ok K ⟨H,fun b=>F b/\∃ o,H b = some o/\Mo o⟩ F σ H δ) (h2:Lk (dk ⟨run G gl n,gl,hfs G⟩ fd.body δ) = some zs) (q:∀ a u H',Sim H H'->kf H'->H a = none->H' a = some u->fP K H' (fun b=>F b\/b = a) zs u->Q (.ref a) H'),
      tS K (dk ⟨run G gl n,gl,hfs G⟩ fd.body) { nx:=fun _ H'=>Q .non H',rt:=Q } σ H:=fun {F H σ δ zs Q} hfd htf ok h2 q=>by
      cases eo:dk ⟨run G gl n,gl,hfs G⟩ fd.body δ with
      | none=>rw [eo] at h2;cases h2
      | some o =>
        rw [eo] at h2;refine ⟨⟨H,fun b=>F b/\∃ o,H b = some o/\Mo o⟩,F,_,o,ok,eo,?_⟩
        cases o with
        | ro ds' δ =>
          cases h2;refine fun a xs σ' H' F' st' ok' f1 f2 hs r'=>q a xs H' ok'.same ok'.tabs f2.1 hs ?_
          have gr:∀ b,(F b\/b = a)->F' b:=fun b z=>by
           rcases z with z | z
           . exact grow hfd ok' b z
           . rw [z];exact f1
          exact fP.step (G:=g0) ok'.fd ⟨fun _ _ _ e _=>e,fun b z=>.inl (gr b z),fun _ _ r _ _=>r.elim,fun _ ps e=>⟨ps,e⟩⟩ r'
        | _=>cases h2
     refine ⟨okC Dd.fn Dd.sc (fun vs H Q E h=>?_) fun A outer s H vs Q E hr h=>?_,okC Dd.fn Dd.sc (fun vs H Q E h=>?_) fun A outer s H vs Q E hr h=>?_⟩
     . obtain ⟨F,ds,d,_,_,_,r,h1,_⟩:=h;rw [r.length,(rL eG h1).1]
     . obtain ⟨F,ds,d,hfd,htf,htb,r,h1,q⟩:=h;obtain ⟨hl,δ,ed,h2⟩:=rL eG h1;have hlen:=r.length;refine ⟨_,B A outer s H E hr,?_⟩;unfold entry at ed;split at ed
       . cases ed;exact fin (E:=E) hfd htf (nG hfd htf htb r (by rw [hlen,hl,au];omega)) h2 q
       . split at ed
         . rename_i eq;exact (qw r eq).elim
         . cases ed
     . obtain ⟨F,ds,zs,_,_,_,r,h1,_⟩:=h;rw [r.length,(ye T.few eG h1).1]
     . obtain ⟨F,ds,zs,hfd,htf,htb,r,h1,q⟩:=h;obtain ⟨hl,δ,ed,h2⟩:=ye T.few eG h1;have hlen:=r.length;refine ⟨_,B A outer s H E hr,?_⟩;unfold entry at ed;split at ed
       . cases ed;exact fiO hfd htf (nG hfd htf htb r (by rw [hlen,hl,au];omega)) h2 q
       . split at ed
         . rename_i eq;exact (qw r eq).elim
         . cases ed
   . obtain ⟨fd,st,a,fdd,eg,Dd,rs,cls,e1,ck,hcl⟩:=T.xw i g hx;have hc':(Gd.map fun fd=>(fd.name,fd.ps))[i]? = some (x,ps):=hc;rw [aQ,eg] at hc';cases hc';exact ⟨a,fdd,Dd.mg,Dd.fn.kp,Dd.bd,Mc (okX (cx:=⟨run G gl n,gl,hfs G⟩) Dd.fn Dd.sc (by rw [au];omega) (fun A outer s H E hr=>⟨rfl,Dd.sc.nd,fun x hx=>hx,fun x hx=>hx,fun x hx=>⟨hx,.inl rfl⟩,fun x hx=>hx,rfl,rfl,hr,fn1,fn3,T.blt,T.glob,T.gsome,T.gds,fun z f ds=>um z⟩) ix hcl ck) fun ds c h=>MP e1 h⟩
end
end PP
end
section
namespace PP
open PySem L2 PyProof.Rows
variable [Tbs] [Xs]
noncomputable def hS (a:Addr) (o:Option HO):Hp:=fun b=>if b = a/\o.isSome = true then o else if b∈Tbs.ts.map (·.1) then some (.tbl #[]) else none
theorem sH {a b:Addr} {o:Option HO} {u:HO} (e:hS a o b = some u):(b = a/\o = some u)\/(b∈Tbs.ts.map (·.1)/\u = .tbl #[]):=by
 unfold hS at e;split at e
 . rename_i h;exact .inl ⟨h.1,e⟩
 . split at e
   . cases e;exact .inr ⟨‹_›,rfl⟩
   . cases e
theorem Ij {P:Program} {w:World} {K:PySem.W.Frag} {mg mb:Str->Option Value} {fa a:Addr} {fd:FuncData} {x:Str} {f:List D->Option D} {s₁:Shared} {vs:List Value} {ns:List Int}
 (KX:K.In s₁.heap) (hns:s₁.heap.Ns mainGlobals mg) (hb:s₁.heap.Ns builtinsNs mb) (hbb:∀ x:Str,x≠"__name__"->mb x = bootBuiltins x) (hlim:s₁.heap.NoLimit) (hg:s₁.gens = #[]) (hbm:BM mg s₁.heap)
 (ha:s₁.heap.get? a = some { cls:=.type "list",data:=.seq vs.toArray }) (hi:IntsAre vs ns) (hl:ns.length<=sizeLine) (hr:iT 200 callerA)
 (ht:∀ t∈Tbs.ts,s₁.heap.get? t.1 = some (PySem.W.tabObj #[])/\K.lookup t.1 = none/\isCodeTable s₁.heap t.1)
 (F:∀ base:Heap,K.In base->BM mg base->gf P w K mg base CX0 200 fa fd [x] (spF K f)) (hbind:∀ (s:Shared) (u:Value),BindsTo s fd ⟨[u],[]⟩ [(x,u)])
 (hf:f [.lst (ns.map .int)] = some (.bl true)) :
 codeAny (model P w) callerA (.call (.ref fa) ⟨[.ref a],[]⟩) (fun r s'=>r = .ok (.ret (.bool true))/\OldK s₁.heap s'.heap/\s'.os = s₁.os/\AllBare s'.gens) s₁:=by
 have rv:=qi hi;have lenV:=hi.length
 have htm:∀ b,b∈Tbs.ts.map (·.1)->s₁.heap.get? b = some (PySem.W.tabObj #[])/\K.lookup b = none/\isCodeTable s₁.heap b:=fun b hb=>by
  obtain ⟨t,h1,h2⟩:=aP.mp hb;rw [<- h2];exact ht t h1
 have aT:a∉Tbs.ts.map (·.1):=fun z=>by
  have:=(htm a z).1;rw [ha] at this;cases this
 have core:∀ o:Option HO,(∀ u,o = some u->∃ xs,u = .frz { cls:=.type "list",data:=.seq vs.toArray } (.lst xs))->HOk P w (hS a o) s₁.heap->(o≠none->K.lookup a = none)->Rel K (hS a o) (fun b=>b∈Tbs.ts.map (·.1)) (.lst (ns.map .int)) (.ref a) ->
  codeAny (model P w) callerA (.call (.ref fa) ⟨[.ref a],[]⟩) (fun r s'=>r = .ok (.ret (.bool true))/\OldK s₁.heap s'.heap/\s'.os = s₁.os/\AllBare s'.gens) s₁:=by
  intro o hO hok hK hR;have base_of:∀ {b:Addr} {x:Obj},s₁.heap.get? b = some x->hS a o b = none->(pP s₁.heap (hS a o)).get? b = some x:=fun e n=>EJ e n
  have noA:∀ {b:Addr} {x:Obj},s₁.heap.get? b = some x->(∀ its n,x.data≠.seq its n)->(∀ vs,x.data≠.fields vs)->hS a o b = none:=fun {b x} e d1 d2=>by
   cases q:hS a o b with
   | none=>rfl
   | some u =>
     rcases sH q with ⟨rfl,_⟩ | ⟨z,_⟩
     . rw [ha] at e;cases e;exact absurd rfl (d1 _ _)
     . rw [(htm b z).1] at e;cases e;exact absurd rfl (d2 _)
  have nsK:∀ {b:Addr} {m:Str->Option Value},s₁.heap.Ns b m->(pP s₁.heap (hS a o)).Ns b m:=fun {b m} ⟨x,es,ep,e,d,r⟩=>⟨x,es,ep,base_of e (noA e (fun _ _ z=>by rw [d] at z;cases z) fun _ z=>by rw [d] at z;cases z),d,r⟩
  have hKb:K.In (pP s₁.heap (hS a o)):=fun b x e=>base_of (KX b x e) (by
   cases q:hS a o b with
   | none=>rfl
   | some u =>
     rcases sH q with ⟨rfl,z⟩ | ⟨z,_⟩
     . rw [hK (by rw [z];simp)] at e;cases e
     . rw [(htm b z).2.1] at e;cases e)
  have hM:Mod K mg (pP s₁.heap (hS a o)):=⟨hKb,nsK hns,⟨mb,nsK hb,hbb⟩,let ⟨mc,h1,h2⟩:=hlim;⟨mc,nsK h1,h2⟩⟩
  have hB:BM mg (pP s₁.heap (hS a o)):=by
   obtain ⟨bm,ob,b1,b2,b3,b4,b5,b6⟩:=hbm;exact ⟨bm,ob,b1,b2,base_of b3 (noA b3 (fun _ _ z=>by rw [b6] at z;cases z) fun _ z=>by rw [b6] at z;cases z),b4,b5,b6⟩
  have e0:IW P w K mg (pP s₁.heap (hS a o)) callerA [] s₁ (hS a o):=⟨rfl,hM,fun b x e=>HZ e,Nat.le_of_eq (AA _ _),trivial,fun b hb=>absurd (show b∈([]:List Addr) from hb) (by simp),hok,.of_eq hg⟩
  have atT:∀ b,b∈Tbs.ts.map (·.1)->hS a o b = some (.tbl #[]):=fun b z=>by
   unfold hS;rw [if_neg (fun y=>aT (by rw [<- y.1];exact z)),if_pos z]
  have sp:spF K f [.ref a] (hS a o) (fun v _=>v = .bl true) E0:=⟨fun b=>b∈Tbs.ts.map (·.1),[.lst (ns.map .int)],.bl true,fun b z=>by
   obtain ⟨t,h1,h2⟩:=aP.mp z;exact ⟨_,atT b z,.inr ⟨⟨#[],rfl⟩,t,h1,h2⟩⟩,fun t h=>aP.mpr ⟨t,h,rfl⟩,fun t h=>⟨#[],atT _ (aP.mpr ⟨t,h,rfl⟩),trivial,fun pos cv e=>by cases e⟩,aF.one hR,hf,fun v H' _ _ r=>by unfold Rel at r;exact r⟩
  refine ir ((F _ hKb hB).run callerA [] s₁ (hS a o) ⟨[.ref a],[]⟩ [.ref a] [.ref a] _ _ hr e0 (hbind s₁ (.ref a)) (.cons rfl .nil) sp) fun r s' h=>?_
  cases r with
  | error e=>exact False.elim h
  | ok fl =>
    cases fl with
    | next=>exact False.elim h
    | brk=>exact False.elim h
    | cont=>exact False.elim h
    | ret u =>
      obtain ⟨v,H',os,bare,un,hok',r',q⟩:=h;have q':v = .bl true:=q;subst q';obtain rfl:u = Value.bool true:=r';refine ⟨rfl,⟨fun b x e=>?_,fun b x e=>un.there b x e (by simp)⟩,os,bare⟩
      cases q:hS a o b with
      | none=>exact .inl (un.keep b x e q (by intro z;exact absurd (show b∈([]:List Addr) from z) (by simp)) (by simp))
      | some u =>
        rcases sH q with ⟨_,z⟩ | ⟨z,rfl⟩
        . obtain ⟨xs,rfl⟩:=hO u z;have z2:=un.frzs b _ _ q;obtain ⟨e1,_⟩:=hok b _ q;obtain ⟨e2,_⟩:=hok' b _ z2;rw [e] at e1;cases e1;exact .inl e2
        . obtain ⟨more,y⟩:=un.tbls b _ q;have e2:s'.heap.get? b = some { cls:=.none,data:=.fields (#[]++more) }:=hok' b _ y;have e1:=(htm b z).1;rw [e] at e1;cases e1;exact .inr (.inl ⟨(htm b z).2.2,rfl,#[],more,rfl,e2⟩)
 have rl:∀ (H:Hp) (F:Addr->Prop) (ms:List Int),aF K H F (ms.map .int) (ms.map V.int):=by
  intro H F ms
  induction ms with
  | nil=>exact aF.nil
  | cons m ms ih=>exact aF.cons (dh m) ih
 have hok1:∀ o:Option HO,(∀ u,o = some u->fJ P w (hS a o) s₁.heap a u)->HOk P w (hS a o) s₁.heap:=fun o ho b u e=>by
  rcases sH e with ⟨rfl,z⟩ | ⟨z,rfl⟩
  . exact ho u z
  . exact (htm b z).1
 cases hk:K.lookup a with
 | some x =>
   have e:=KX a x hk;rw [ha] at e;cases e;refine core none (fun u z=>by cases z) (hok1 none fun u z=>by cases z) (fun z=>absurd rfl z) ?_;unfold Rel
   exact ⟨a,ns.map V.int,rfl,.inr ⟨vs.toArray,_,hk,by rw [az,lenV];exact hl,by simpa using rv⟩,rl _ _ ns⟩
 | none =>
   refine core (some (.frz { cls:=.type "list",data:=.seq vs.toArray } (.lst (ns.map V.int)))) (fun u z=>⟨_,(aM z).symm⟩) (hok1 _ fun u z=>?_) (fun _=>hk) ?_
   . cases z;exact ⟨ha,by rw [aq];exact hl,vs,_,rv,ha⟩
   . unfold Rel;refine ⟨a,ns.map V.int,rfl,.inl ⟨.inr ⟨{ cls:=.type "list",data:=.seq vs.toArray },?_⟩,aT⟩,rl _ _ ns⟩;unfold hS;rw [if_pos ⟨rfl,rfl⟩]
theorem walk_run {l:PySem.W.OpenLaw} {q:Program} {loose:List Str} {XP:(Str->Option Value)->Heap->Prop} {YP:World->Heap->Prop} {d:DefRec} {K:Params->PySem.W.Frag} {G Gd:List Fd} {gl:List D} {gn:List Str} {i:Nat} {fd:Fd} {x:Str}
 (main:∀ ns:List Int,ns.length<=63->run G gl 200 i [.lst (ns.map .int)] = some (.bl true)) (hi:Gd[i]? = some fd) (hp:fd.ps = [x])
 (hn:l.most = some 63) (hdf:d.params.defaults = []) (hY:∀ (w:World) (h:Heap),YP w h->(K w.params).In h/\∀ t∈Tbs.ts,h.get? t.1 = some (PySem.W.tabObj #[]))
 (F:∀ (w:World) (mg:Str->Option Value) (fa:Addr) (h:Heap),(K w.params).In h->h.Ns mainGlobals mg->mg d.name = some (.ref fa) ->
   ∃ (st:Stmt) (fdd:FuncData),(∀ (s:Shared) (u:Value),BindsTo s fdd ⟨[u],[]⟩ [(x,u)])/\Top w (K w.params) mg G Gd gl gn/\Dn (K w.params) mg (bW Gd) gn fd st fa fdd/\∀ t∈Tbs.ts,(K w.params).lookup t.1 = none/\∃ c,PySem.W.codeHdIn (K w.params) c t.1 = true) :
 PySem.W.WalkO q loose XP YP l.row.toRowW d [] (fun f vs=>PySem.call f vs):=by
 have hr:iT 200 callerA:=⟨rfl,by decide,by decide⟩;refine Att.attach_call hn hdf fun w s₀ s₁ mg mb fa o pm cd doc a vs ns TT Y ho hd hcd hmg hobj hints hlen hg=>?_;obtain ⟨KX,tabs⟩:=hY w _ Y;obtain ⟨st,fdd,hb,T,Dd,tc⟩:=F w mg fa _ KX TT.T.g hmg;refine Ij KX TT.T.g TT.T.b TT.T.builtins TT.T.nolimit hg TT.T.bmain hobj hints (aY hlen (by decide)) hr (fun t ht=>?_) (fun base hK hB=>?_) hb (main ns hlen)
 . obtain ⟨h1,c,h2⟩:=tc t ht;exact ⟨tabs t ht,h1,((PySem.W.codeHd_of_K KX h2).tab (tabs t ht)).isCodeTable⟩
 . have:=((Fu (P:=l.prog) (w:=w) (base:=base) T hK hB 200).1 i fd st fa fdd hi Dd).1;rw [hp] at this;exact this
section
noncomputable def wJ (K:PySem.W.Frag) (x:Str):Bool:=match PySem.W.nsIn K mainGlobals x with
 | some none=>true
 | _=>false
theorem IT {K:PySem.W.Frag} {h:Heap} {mg:Str->Option Value} (X:K.In h) (G:h.Ns mainGlobals mg) (q:iq.all (wJ K) = true) (x:Str) (hx:x∈iq):mg x = none:=by
 have h:=bb.mp q x hx;unfold wJ at h;split at h
 . exact PySem.W.mg_none_of X G ‹_›
 . cases h
theorem GN {a b:List Fd} (i:Nat) (fd:Fd) (h:a[i]? = some fd):(a++b)[i]? = some fd:=by
 rw [aO (aB.mp h).1];exact h
theorem usS {α:Type} {P:List α->Prop} {k:Nat} (h:∀ a us,us.length = k->P (a::us)):∀ us,us.length = k+1->P us
 | [],e=>by cases e
 | a::us,e=>h a us (Nat.succ.inj e)
theorem us0 {α:Type} {P:List α->Prop} (h:P []) (us:List α) (e:us.length = 0):P us:=dc.mp e▸h
variable {fd:FuncData} {ps:List Str}
theorem us1 (h:∀ a,bindArgs fd ⟨[a],[]⟩ = pure (ps.zip [a])):∀ us:List Value,us.length = 1->bindArgs fd ⟨us,[]⟩ = pure (ps.zip us) :=
 usS (P:=fun us=>bindArgs fd ⟨us,[]⟩ = pure (ps.zip (us))) fun a=>us0 (P:=fun us=>bindArgs fd ⟨a::us,[]⟩ = pure (ps.zip (a::us))) (h a)
theorem us2 (h:∀ a b,bindArgs fd ⟨[a,b],[]⟩ = pure (ps.zip [a,b])):∀ us:List Value,us.length = 2->bindArgs fd ⟨us,[]⟩ = pure (ps.zip us) :=
 usS (P:=fun us=>bindArgs fd ⟨us,[]⟩ = pure (ps.zip (us))) fun a=>usS (P:=fun us=>bindArgs fd ⟨a::us,[]⟩ = pure (ps.zip (a::us))) fun b=>us0 (P:=fun us=>bindArgs fd ⟨a::b::us,[]⟩ = pure (ps.zip (a::b::us))) (h a b)
theorem us3 (h:∀ a b c,bindArgs fd ⟨[a,b,c],[]⟩ = pure (ps.zip [a,b,c])):∀ us:List Value,us.length = 3->bindArgs fd ⟨us,[]⟩ = pure (ps.zip us) :=
 usS (P:=fun us=>bindArgs fd ⟨us,[]⟩ = pure (ps.zip (us))) fun a=>usS (P:=fun us=>bindArgs fd ⟨a::us,[]⟩ = pure (ps.zip (a::us))) fun b=>usS (P:=fun us=>bindArgs fd ⟨a::b::us,[]⟩ = pure (ps.zip (a::b::us))) fun c=>us0 (P:=fun us=>bindArgs fd ⟨a::b::c::us,[]⟩ = pure (ps.zip (a::b::c::us))) (h a b c)
end
end PP
end
section
namespace PP
open PySem
section
variable {cx:Cl} {δ:Loc}
noncomputable def wR (cx:Cl) (r:R) (δ:Loc) (Q:OR->Prop):Prop:=∃ o,evR cx r δ = some o/\Q o
noncomputable def wRs (cx:Cl) (rs:Rs) (δ:Loc) (Q:OR->Prop):Prop:=∃ o,eW cx rs δ = some o/\Q o
noncomputable def vK (cx:Cl) (t:E) (body:Rs) (n:Nat) (δ:Loc) (Q:OR->Prop):Prop:=∃ o,iZ (fun δ0=>evT cx t δ0) (fun δ0=>eW cx body δ0) n δ = some o/\Q o
noncomputable def xG (cx:Cl) (rs:Rs) (Q:OR->Prop):OR->Prop
 | .inl (.nx δ)=>wRs cx rs δ Q
 | o=>Q o
noncomputable def En (next:Loc->Prop) (Q:OR->Prop):OR->Prop
 | .inl (.nx δ)=>next δ
 | .inl (.ct δ)=>next δ
 | .inl (.bk δ)=>Q (.inl (.nx δ))
 | o=>Q o
theorem jz {Q:OR->Prop}:wRs cx .nil δ Q↔Q (.inl (.nx δ)):=⟨fun ⟨_,e,q⟩=>by simp only [eW] at e;cases e;exact q,fun q=>⟨_,by simp only [eW],q⟩⟩
theorem eJ {r:R} {rs:Rs} {Q:OR->Prop}:wRs cx (.cons r rs) δ Q↔wR cx r δ (xG cx rs Q):=by
 unfold wRs wR;simp only [eW]
 cases evR cx r δ with
 | none=>exact ⟨fun ⟨_,e,_⟩=>(by cases e),fun ⟨_,e,_⟩=>by cases e⟩
 | some o =>
   constructor
   . rintro ⟨o',e,q⟩;refine ⟨o,rfl,?_⟩;rcases o with (δ1 | _ | _ | _ | _) | _<;>first | exact ⟨o',e,q⟩ | (cases e;exact q)
   . rintro ⟨o',e,q⟩;cases e;rcases o with (δ1 | _ | _ | _ | _) | _<;>first | exact q | exact ⟨_,rfl,q⟩
theorem qd {s:S} {Q:OR->Prop}:wR cx (.st s) δ Q↔wS cx s δ fun o=>Q (.inl o):=by
 unfold wR wS;simp only [evR]
 cases evS cx s δ with
 | none=>exact ⟨fun ⟨_,e,_⟩=>(by cases e),fun ⟨_,e,_⟩=>by cases e⟩
 | some o=>exact ⟨fun ⟨_,e,q⟩=>by cases e;exact ⟨_,rfl,q⟩,fun ⟨_,e,q⟩=>by cases e;exact ⟨_,rfl,q⟩⟩
theorem BH {c:Str} {Q:OR->Prop}:wR cx (.rse c) δ Q↔Q (.inr (c,δ)):=⟨fun ⟨_,e,q⟩=>by simp only [evR] at e;cases e;exact q,fun q=>⟨_,by simp only [evR],q⟩⟩
theorem vM {t:E} {a b:Rs} {Q:OR->Prop}:wR cx (.ifs t a b) δ Q↔wT cx t δ fun k δ1=>if k = true then wRs cx a δ1 Q else wRs cx b δ1 Q:=by
 unfold wR wT wRs;simp only [evR]
 cases evT cx t δ with
 | none=>exact ⟨fun ⟨_,e,_⟩=>(by cases e),fun ⟨_,_,e,_⟩=>by cases e⟩
 | some p =>
   obtain ⟨k,δ1⟩:=p
   cases k with
   | true=>exact ⟨fun q=>⟨_,_,rfl,q⟩,fun ⟨_,_,e,q⟩=>by cases e;exact q⟩
   | false=>exact ⟨fun q=>⟨_,_,rfl,q⟩,fun ⟨_,_,e,q⟩=>by cases e;exact q⟩
theorem BG {t:E} {body:Rs} {Q:OR->Prop}:wR cx (.whl t body) δ Q↔vK cx t body 1000 δ Q:=by
 unfold wR vK;simp only [evR]
theorem kR {t:E} {body:Rs} {n:Nat} {Q:OR->Prop}:vK cx t body (n+1) δ Q↔wT cx t δ fun k δ1=>if k = true then wRs cx body δ1 (En (fun δ3=>vK cx t body n δ3 Q) Q) else Q (.inl (.nx δ1)):=by
 unfold vK wT wRs;simp only [iZ]
 cases evT cx t δ with
 | none=>exact ⟨fun ⟨_,e,_⟩=>(by cases e),fun ⟨_,_,e,_⟩=>by cases e⟩
 | some p =>
   obtain ⟨k,δ1⟩:=p
   cases k with
   | false=>exact ⟨fun ⟨_,e,q⟩=>by cases e;exact ⟨_,_,rfl,q⟩,fun ⟨_,_,e,q⟩=>by cases e;exact ⟨_,rfl,q⟩⟩
   | true =>
     dsimp only
     cases eb:eW cx body δ1 with
     | none=>exact ⟨fun ⟨_,e,_⟩=>(by cases e),fun ⟨_,_,e,q⟩=>by cases e;obtain ⟨_,e,_⟩:=q;rw [eb] at e;cases e⟩
     | some o =>
       constructor
       . rintro ⟨o',e,q⟩;refine ⟨_,_,rfl,o,eb,?_⟩;rcases o with (δ2 | _ | _ | _ | _) | _<;>first | exact ⟨o',e,q⟩ | (cases e;exact q)
       . rintro ⟨_,_,e,q⟩;cases e;obtain ⟨o',e,q⟩:=q;rw [eb] at e;cases e;rcases o with (δ2 | _ | _ | _ | _) | _<;>first | exact q | exact ⟨_,rfl,q⟩
theorem qX {s:S} {f g:Nat} {es:Es} {Q:OR->Prop} (h:wEs cx es δ fun ds δ1=>∃ c,cx.call g ds = some (.str c)/\Q (.inr (c,δ1))):wR cx (.cal s f g es) δ Q:=by
 obtain ⟨ds,δ1,e,c,ec,q⟩:=h;refine ⟨_,?_,q⟩;simp only [evR,e,ec]
theorem Gq {s:S} {f g:Nat} {es:Es} {Q:OR->Prop} (h:wEs cx es δ fun ds _=>cx.call g ds = none) (q:wS cx s δ fun o=>Q (.inl o)):wR cx (.cal s f g es) δ Q:=by
 obtain ⟨ds,δ1,e,ec⟩:=h;obtain ⟨o,eo,q⟩:=q;refine ⟨_,?_,q⟩;simp only [evR,e,ec,eo,cJ]
theorem ic {rs:Rs} {δ1:Loc} {Q:OR->Prop}:xG cx rs Q (.inl (.nx δ1))↔wRs cx rs δ1 Q:=aR
theorem mI {rs:Rs} {p:Str × Loc} {Q:OR->Prop}:xG cx rs Q (.inr p)↔Q (.inr p):=aR
theorem tW {rs:Rs} {d:D} {δ1:Loc} {Q:OR->Prop}:xG cx rs Q (.inl (.rt d δ1))↔Q (.inl (.rt d δ1)):=aR
theorem uO {next:Loc->Prop} {δ1:Loc} {Q:OR->Prop}:En next Q (.inl (.nx δ1))↔next δ1:=aR
theorem Ih {next:Loc->Prop} {p:Str × Loc} {Q:OR->Prop}:En next Q (.inr p)↔Q (.inr p):=aR
theorem Jf {rs:Rs} {Q:Out->Prop} (h:wRs cx rs δ fun r=>∃ o,r = .inl o/\Q o):wSs cx (qg rs) δ Q:=by
 obtain ⟨r,e,o,rfl,q⟩:=h;refine ⟨o,?_,q⟩;unfold qg;simp only [dk,evS,e];cases o<;>rfl
theorem Je {rs:Rs} {Q:Out->Prop} (h:wRs cx rs δ fun r=>∃ c δ1,r = .inr (c,δ1)/\Q (.rt (.str c) δ1)):wSs cx (kn rs) δ Q:=by
 obtain ⟨r,e,c,δ1,rfl,q⟩:=h;refine ⟨_,?_,q⟩;unfold kn;simp only [dk,evS,e]
theorem JS {ups:List (Str × List Str)} {rs:Rs} {j:Nat} {qs:Qs} {Q:Out->Prop} (h:wRs cx rs δ fun r=>∃ c δ1 up,r = .inr (c,δ1)/\ups.lookup c = some up/\Iw δ1[j]? = true/\Q (.nx (qs.ev up δ1))):wS cx (.opq (zS ups rs j qs)) δ Q:=by
 obtain ⟨r,e,c,δ1,up,rfl,e1,e2,q⟩:=h;refine ⟨_,?_,q⟩;simp only [evS,zS,e,e1,e2,if_true]
theorem JI {G:List Fd} {gl:List D} {n g:Nat} {ds:List D} (fd:Fd) {rs:Rs} (e:G[g]? = some fd) (hb:fd.body = kn rs) (hf:fd.hf = false) (h:wRs ⟨PP.run G gl n,gl,hfs G⟩ rs (init (fd.ps++fd.loc).length ds) fun r=>∃ o,r = .inl o):PP.run G gl (n+1) g ds = none:=by
 obtain ⟨r,er,o,rfl⟩:=h;unfold PP.run;rw [e];dsimp only;split
 . rw [hf];unfold entry;dsimp only;rw [hb];unfold kn;simp only [dk,evS,er];rfl
 . rfl
end
section
variable {cx:Cl} {δ:Loc}
end
theorem fE {a b:D} {k:Bool} (h:ltD a b = some k):(∃ i j:Int,a = .int i/\b = .int j/\k = decide (i < j))\/(∃ s t:Str,a = .str s/\b = .str t/\k = ltS s t)\/∃ xs ys,a = .tup xs/\b = .tup ys/\dJ xs ys = some k:=by
 unfold ltD at h;split at h
 . cases h;exact .inl ⟨_,_,rfl,rfl,rfl⟩
 . cases h;exact .inr (.inl ⟨_,_,rfl,rfl,rfl⟩)
 . exact .inr (.inr ⟨_,_,rfl,rfl,h⟩)
 . cases h
theorem dW {x y:D} {xs ys:List D} (hx:hb x = true) (hy:hb y = true):dJ (x::xs) (y::ys) = some k↔(x = y/\dJ xs ys = some k)\/(x≠y/\ltD x y = some k):=by
 rw [show dJ (x::xs) (y::ys) = if eqD x y = true then dJ xs ys else ltD x y from by rw [dJ]];by_cases e:x = y
 . rw [if_pos ((fG x y hx hy).mpr e)];exact ⟨fun h=>.inl ⟨e,h⟩,fun h=>h.elim (·.2) fun z=>absurd e z.1⟩
 . rw [if_neg fun z=>e ((fG x y hx hy).mp z)];exact ⟨fun h=>.inr ⟨e,h⟩,fun h=>h.elim (fun z=>absurd z.1 e) (·.2)⟩
noncomputable def LtA (a:D):Prop:=∀ b k k',hb a = true->hb b = true->ltD a b = some k->ltD b a = some k'->(a = b/\k = false/\k' = false)\/(a≠b/\k' = !k)
noncomputable def LtT (a:D):Prop:=∀ b c k,hb a = true->hb b = true->hb c = true->ltD b a = some false->ltD c b = some false->ltD c a = some k->k = false
theorem jq {x:D} {xs:List D} (h:hbL (x::xs) = true):hb x = true/\hbL xs = true:=by
 unfold hbL at h
 rwa [aa] at h
theorem uM:∀ (xs ys:List D) (k k':Bool),(∀ x∈xs,LtA x)->hbL xs = true->hbL ys = true->dJ xs ys = some k->dJ ys xs = some k'->(xs = ys/\k = false/\k' = false)\/(xs≠ys/\k' = !k)
 | [],[],k,k',_,_,_,h,h'=>by
   unfold dJ at h h';cases h;cases h'
   exact .inl ⟨rfl,rfl,rfl⟩
 | [],_::_,k,k',_,_,_,h,h'=>by
   unfold dJ at h h';cases h;cases h'
   exact .inr ⟨by simp,rfl⟩
 | _::_,[],k,k',_,_,_,h,h'=>by
   unfold dJ at h h';cases h;cases h'
   exact .inr ⟨by simp,rfl⟩
 | x::xs,y::ys,k,k',hA,h1,h2,h,h'=>by
   obtain ⟨a1,a2⟩:=jq h1;obtain ⟨b1,b2⟩:=jq h2;rcases (dW a1 b1).mp h with ⟨rfl,g⟩ | ⟨e,g⟩
   . rcases (dW b1 a1).mp h' with ⟨_,g'⟩ | ⟨e',_⟩
     . rcases uM xs ys k k' (fun z hz=>hA z (ak _ hz)) a2 b2 g g' with ⟨rfl,q⟩ | ⟨n,q⟩
       . exact .inl ⟨rfl,q⟩
       . exact .inr ⟨fun z=>n (List.cons.inj z).2,q⟩
     . exact absurd rfl e'
   . rcases (dW b1 a1).mp h' with ⟨e',_⟩ | ⟨_,g'⟩
     . exact absurd e'.symm e
     . rcases hA x ao y k k' a1 b1 g g' with ⟨z,_⟩ | ⟨_,q⟩
       . exact absurd z e
       . exact .inr ⟨fun z=>e (List.cons.inj z).1,q⟩
theorem oO {x:D}:∀ {xs:List D},x∈xs->dep x<=bM xs
 | y::ys,h=>by
   unfold bM;rcases aD.mp h with rfl | h
   . exact jK _ _
   . exact aY (oO h) (iW _ _)
theorem sv:∀ (n:Nat) (a:D),dep a<=n->LtA a
 | n,a,hn,b,k,k',ha,hb',h,h'=>by
   rcases fE h with ⟨i,j,rfl,rfl,rfl⟩ | ⟨s,t,rfl,rfl,rfl⟩ | ⟨xs,ys,rfl,rfl,h⟩
   . rcases fE h' with ⟨i',j',e1,e2,rfl⟩ | ⟨_,_,e,_⟩ | ⟨_,_,e,_⟩
     . cases e1;cases e2;by_cases e:i = j
       . subst e;exact .inl ⟨rfl,by simp,by simp⟩
       . refine .inr ⟨fun z=>e (D.int.inj z),?_⟩;by_cases l:i < j
         . rw [decide_eq_true l,decide_eq_false (by lia)];rfl
         . rw [decide_eq_false l,decide_eq_true (by lia)];rfl
     . cases e
     . cases e
   . rcases fE h' with ⟨_,_,e,_⟩ | ⟨s',t',e1,e2,rfl⟩ | ⟨_,_,e,_⟩
     . cases e
     . cases e1;cases e2;by_cases e:s = t
       . subst e
         have:ltS s s = false:=by
          cases z:ltS s s with
          | false=>rfl
          | true=>have:=Ed _ _ z;rw [z] at this;cases this
         exact .inl ⟨rfl,this,this⟩
       . refine .inr ⟨fun z=>e (D.str.inj z),?_⟩
         cases z:ltS s t with
         | true=>exact Ed _ _ z
         | false =>
           cases z':ltS t s with
           | true=>rfl
           | false=>exact absurd (LJ _ _ z z') e
     . cases e
   . rcases fE h' with ⟨_,_,e,_⟩ | ⟨_,_,e,_⟩ | ⟨xs',ys',e1,e2,h'⟩
     . cases e
     . cases e
     . cases e1;cases e2;unfold hb at ha hb';have hd:bM xs+1<=n:=by unfold dep at hn;exact hn
       cases n with
       | zero=>lia
       | succ n =>
         rcases uM xs ys k k' (fun x hx=>sv n x (by have:=oO hx;lia)) ha hb' h h' with ⟨rfl,q⟩ | ⟨e,q⟩
         . exact .inl ⟨rfl,q⟩
         . exact .inr ⟨fun z=>e (D.tup.inj z),q⟩
theorem uL:∀ (xs ys zs:List D) (k:Bool),(∀ x∈xs,LtT x)->hbL xs = true->hbL ys = true->hbL zs = true->dJ ys xs = some false->dJ zs ys = some false->dJ zs xs = some k->k = false
 | [],ys,zs,k,_,_,_,_,_,_,h3=>by
   cases zs<;>unfold dJ at h3<;>cases h3<;>rfl
 | x::xs,[],zs,k,_,_,_,_,h1,_,_=>by
   unfold dJ at h1;cases h1
 | x::xs,y::ys,[],k,_,_,_,_,_,h2,_=>by
   unfold dJ at h2;cases h2
 | x::xs,y::ys,z::zs,k,hT,b1,b2,b3,h1,h2,h3=>by
   obtain ⟨x1,x2⟩:=jq b1;obtain ⟨y1,y2⟩:=jq b2;obtain ⟨z1,z2⟩:=jq b3;rcases (dW y1 x1).mp h1 with ⟨e1,g1⟩ | ⟨e1,g1⟩
   . subst e1;rcases (dW z1 y1).mp h2 with ⟨e2,g2⟩ | ⟨e2,g2⟩
     . subst e2;rcases (dW z1 z1).mp h3 with ⟨_,g3⟩ | ⟨e3,_⟩
       . exact uL xs ys zs k (fun w hw=>hT w (ak _ hw)) x2 y2 z2 g1 g2 g3
       . exact absurd rfl e3
     . rcases (dW z1 y1).mp h3 with ⟨e3,_⟩ | ⟨_,g3⟩
       . exact absurd e3 e2
       . rw [g2] at g3;cases g3;rfl
   . rcases (dW z1 y1).mp h2 with ⟨e2,g2⟩ | ⟨e2,g2⟩
     . subst e2;rcases (dW z1 x1).mp h3 with ⟨e3,_⟩ | ⟨_,g3⟩
       . exact absurd e3 e1
       . rw [g1] at g3;cases g3;rfl
     . rcases (dW z1 x1).mp h3 with ⟨e3,_⟩ | ⟨_,g3⟩
       . subst e3;rcases sv _ y (av _) z false false y1 z1 g1 g2 with ⟨e,_⟩ | ⟨_,e⟩
         . exact absurd e e1
         . cases e
       . exact hT x ao y z k x1 y1 z1 g1 g2 g3
theorem yu:∀ (n:Nat) (a:D),dep a<=n->LtT a
 | n,a,hn,b,c,k,ha,hb',hc,h1,h2,h3=>by
   rcases fE h3 with ⟨i,j,rfl,rfl,rfl⟩ | ⟨s,t,rfl,rfl,rfl⟩ | ⟨zs,xs,rfl,rfl,g3⟩
   . rcases fE h1 with ⟨i',j',rfl,e2,e3⟩ | ⟨_,_,_,e,_⟩ | ⟨_,_,_,e,_⟩
     . cases e2;rcases fE h2 with ⟨_,_,e4,e5,e6⟩ | ⟨_,_,e,_⟩ | ⟨_,_,e,_⟩
       . cases e4;cases e5;have:=of_decide_eq_false e3.symm;have:=of_decide_eq_false e6.symm;exact decide_eq_false (by lia)
       . cases e
       . cases e
     . cases e
     . cases e
   . rcases fE h1 with ⟨_,_,_,e,_⟩ | ⟨i',j',rfl,e2,e3⟩ | ⟨_,_,_,e,_⟩
     . cases e
     . cases e2;rcases fE h2 with ⟨_,_,e,_⟩ | ⟨_,_,e4,e5,e6⟩ | ⟨_,_,e,_⟩
       . cases e
       . cases e4;cases e5;exact LI _ _ _ e3.symm e6.symm
       . cases e
     . cases e
   . rcases fE h1 with ⟨_,_,_,e,_⟩ | ⟨_,_,_,e,_⟩ | ⟨ys,xs',rfl,e2,g1⟩
     . cases e
     . cases e
     . cases e2;rcases fE h2 with ⟨_,_,e,_⟩ | ⟨_,_,e,_⟩ | ⟨_,_,e4,e5,g2⟩
       . cases e
       . cases e
       . cases e4;cases e5;unfold hb at ha hb' hc;have hd:bM xs+1<=n:=by unfold dep at hn;exact hn
         cases n with
         | zero=>lia
         | succ n=>exact uL xs ys zs k (fun x hx=>yu n x (by have:=oO hx;lia)) ha hb' hc g1 g2 g3
theorem mR {a b:D} {k:Bool} (h:jN a b = some k):ltD a b = some k/\ltB a b = k:=by
 refine ⟨?_,by unfold ltB;rw [h];rfl⟩;unfold jN at h;split at h
 . exact h
 . cases h
theorem Ku {ds:List D} (hs:sortable ds = true) (hh:∀ d∈ds,hb d = true):tot ds = true:=by
 obtain ⟨_,_,hlt⟩:=(letI:Tbs:=⟨[],[],[]⟩;dg hs);unfold tot;rw [bb];intro a ha;rw [bb];intro b hb';obtain ⟨k,e⟩:=hlt a ha b hb';obtain ⟨k',e'⟩:=hlt b hb' a ha;obtain ⟨e1,e2⟩:=mR e;obtain ⟨e1',e2'⟩:=mR e';have h:=sv _ a (av _) b k k' (hh a ha) (hh b hb') e1 e1';rw [e2,e2',aa,aa];refine ⟨⟨?_,?_⟩,?_⟩
 . rcases h with ⟨_,rfl,rfl⟩ | ⟨_,rfl⟩
   . rfl
   . cases k<;>rfl
 . rcases h with ⟨rfl,rfl,rfl⟩ | ⟨_,rfl⟩
   . rw [(fG a a (hh a ha) (hh a ha)).mpr rfl];rfl
   . cases k<;>rfl
 . rw [bb];intro c hc;obtain ⟨m,f⟩:=hlt c hc b hb';obtain ⟨m',f'⟩:=hlt c hc a ha;obtain ⟨f1,f2⟩:=mR f;obtain ⟨f1',f2'⟩:=mR f';rw [f2,f2']
   cases k' with
   | true=>rfl
   | false =>
     cases m with
     | true=>rfl
     | false =>
       rw [yu _ a (av _) b c m' (hh a ha) (hh b hb') (hh c hc) e1' f1 f1'];rfl
theorem Fx {ds:List D} {d x:D} (hd:hb d = true) (hs:∀ y∈ds,hb y = true):x∈mB ds d↔x∈ds\/x = d:=by
 unfold mB;split
 . rename_i h;obtain ⟨y,hy,e⟩:=du.mp h;rw [fG y d (hs y hy) hd] at e;exact ⟨.inl,fun z=>z.elim id fun z=>by rw [z,<- e];exact hy⟩
 . simp
theorem sO:∀ (xs ds:List D),(∀ x∈xs,hb x = true)->(∀ x∈ds,hb x = true)->ds.Nodup->(∀ x,x∈xs.foldl mB ds↔x∈ds\/x∈xs)/\(xs.foldl mB ds).Nodup
 | [],ds,_,_,h=>⟨fun x=>by simp,h⟩
 | d::xs,ds,h1,h2,h3=>by
   have hd:=h1 d ao;have hm:∀ x,x∈mB ds d↔x∈ds\/x = d:=fun x=>Fx hd h2
   have hn:(mB ds d).Nodup:=by
    unfold mB;split
    . exact h3
    . rename_i h;rw [List.nodup_append];refine ⟨h3,by simp,fun a ha b hb'=>?_⟩;rw [cR] at hb';intro e;apply h;exact du.mpr ⟨a,ha,(fG a d (h2 a ha) hd).mpr (by rw [e,hb'])⟩
   obtain ⟨i1,i2⟩:=sO xs (mB ds d) (fun x hx=>h1 x (ak _ hx)) (fun x hx=>by
    rcases (hm x).mp hx with z | rfl
    . exact h2 x z
    . exact hd) hn
   refine ⟨fun x=>?_,i2⟩;rw [fA,i1 x,hm x,aD,or_assoc]
theorem jr {xs:List D} (h:∀ x∈xs,hb x = true) {x:D}:x∈iS xs↔x∈xs:=by
 have:=(sO xs [] h (by simp) (by simp)).1 x;unfold iS;rw [this];simp
theorem oQ {xs:List D} (h:∀ x∈xs,hb x = true):(iS xs).Nodup:=(sO xs [] h (by simp) (by simp)).2
theorem nE {α:Type}:∀ {l ns:List α},l.Nodup->(∀ x∈l,x∈ns)->l.length<=ns.length
 | [],_,_,_=>bC _
 | x::l,ns,h,hs=>by
   rw [fy] at h;obtain ⟨a,b,rfl⟩:=List.append_of_mem (hs x ao)
   have ih:=nE (l:=l) (ns:=a++b) h.2 fun y hy=>by
    have:=hs y (ak _ hy);simp only [bI,aD] at this ⊢;rcases this with z | rfl | z
    . exact .inl z
    . exact absurd hy h.1
    . exact .inr z
   simp only [au,ax] at ih ⊢
   lia
theorem pQ {xs:List D} {n:Nat} (hn:n < 64) (h:∀ x∈xs,hb x = true) (hl:∀ l:List D,l.Nodup->(∀ x∈l,x∈xs)->l.length<=n) (hk:∀ x∈xs,bo x = 3) (hc:∀ x∈xs,∀ y∈xs,(jN x y).isSome = true):sortable (iS xs) = true:=by
 have hm:∀ x,x∈iS xs->x∈xs:=fun x hx=>(jr h).mp hx;unfold sortable;simp only [aa,decide_eq_true_eq,bb];refine ⟨⟨cV (hl _ (oQ h) hm) hn,fun x hx=>?_⟩,fun x hx y hy=>hc x (hm x hx) y (hm y hy)⟩
 cases e:iS xs with
 | nil=>rw [e] at hx;cases hx
 | cons z zs =>
   have e1:=hk x (hm x hx);have e2:=hk z (hm z (by rw [e];exact ao));show (bo x != 0) = true/\(bo x == bo z) = true;rw [e1,e2];exact ⟨rfl,rfl⟩
end PP
end
section
namespace PP
open PySem L2
noncomputable def lK:Nat->Ss->Ss
 | 0,_=>.nil
 | _,.nil=>.nil
 | k+1,.cons s ss=>.cons s (lK k ss)
noncomputable def oN:Nat->Ss->Ss
 | 0,ss=>ss
 | _,.nil=>.nil
 | k+1,.cons _ ss=>oN k ss
noncomputable def nxS (R:PP.Loc->Prop) (Q:Out->Prop):Out->Prop
 | .nx δ=>R δ
 | o=>Q o
theorem Gi {cx:Cl} {s:S} {δ:PP.Loc} {P Q:Out->Prop} (h:wS cx s δ P) (k:∀ o,P o->Q o):wS cx s δ Q:=let ⟨o,e,p⟩:=h;⟨o,e,k o p⟩
theorem mG {cx:Cl} {Q:Out->Prop} {R:PP.Loc->Prop}:∀ (k:Nat) (ss:Ss) (δ:PP.Loc),wSs cx (lK k ss) δ (nxS R Q)->(∀ δ',R δ'->wSs cx (oN k ss) δ' Q)->wSs cx ss δ Q
 | 0,ss,δ,h,q=>by
   unfold lK at h
   exact q δ (iE.mp h)
 | _+1,.nil,δ,h,q=>by
   unfold lK at h;unfold oN at q
   exact q δ (iE.mp h)
 | k+1,.cons s ss,δ,h,q=>by
   unfold lK at h;unfold oN at q;refine eT.mpr (Gi (eT.mp h) fun o p=>?_)
   cases o with
   | nx δ1=>exact mG k ss δ1 p q
   | rt d δ1=>exact p
   | bk δ1=>exact p
   | ct δ1=>exact p
   | ro d δ1=>exact p
theorem xB {cx:Cl} {ss:Ss} {δ:PP.Loc} {Q:Out->Prop} (k:Nat) (δ':PP.Loc) (h:dk cx (lK k ss) δ = some (.nx δ')) (q:wSs cx (oN k ss) δ' Q):wSs cx ss δ Q:=mG (R:=fun d=>d = δ') k ss δ ⟨.nx δ',h,rfl⟩ fun _ e=>e▸q
theorem BC {cx:Cl} {c:E} {a b:Ss} {δ δ0:PP.Loc} {Q:Out->Prop} (P:Bool->Prop) (h:wT cx c δ fun k δ1=>δ1 = δ0/\P k) (ha:P true->wSs cx a δ0 Q) (hb:P false->wSs cx b δ0 Q):wS cx (.ifs c a b) δ Q:=by
 obtain ⟨k,δ1,e,rfl,p⟩:=h;refine BB.mpr ⟨k,δ1,e,?_⟩;cases k
 . exact hb p
 . exact ha p
theorem uT {c A B:Prop} [Decidable c] (h1:c->A) (h2:¬ c->B):if c then A else B:=by
 by_cases h:c
 . rw [if_pos h];exact h1 h
 . rw [if_neg h];exact h2 h
end PP
end
section
namespace P1
open PySem L2 PP
noncomputable def top (i:Nat):Stmt:=PySem.Challenge.pw_cutless_k39_an_end_of_steps.main.body.getD i (.Pass ⟨0,0,0,0⟩)
noncomputable def bY:Fd:=⟨"sorted_row",["signed"],["kept","each"],
 (.cons (.new 1 (.lst .nil))
 (.cons (.for_ (.nm 2) (.sq (.blt .sorted (.cons (.var 0) .nil)))
 (.cons (.ifs (.or (.not (.var 1)) (.cmp .ne (.ix (.pk 1) (.neg (.int 1))) (.var 2)))
 (.cons (.append 1 (.var 2))
 .nil)
 .nil)
 .nil))
 (.cons (.ret (.blt .toTup (.cons (.pk 1) .nil)))
 .nil))),false⟩
noncomputable def gb:Fd:=⟨"more",["row","added"],[],
 (.cons (.ret (.call 0 (.cons (.bin .add (.blt .toLst (.cons (.var 0) .nil)) (.blt .toLst (.cons (.var 1) .nil))) .nil)))
 .nil),false⟩
noncomputable def dU:Fd:=⟨"closes",["row"],[],
 (.cons (.ifs (.or (.cmp .isin (.tup (.cons (.str "right") (.cons (.tup (.cons (.str "yes") .nil)) .nil))) (.var 0)) (.cmp .isin (.tup (.cons (.str "left") (.cons (.tup (.cons (.str "no") .nil)) .nil))) (.var 0)))
 (.cons (.ret (.bl true))
 .nil)
 .nil)
 (.cons (.ret (.blt .any (.cons (.comp 2 (.tp [1,2]) (.sq (.var 0)) .no (.and (.cmp .eq (.var 1) (.str "left")) (.cmp .isin (.tup (.cons (.str "right") (.cons (.var 2) .nil))) (.var 0)))) .nil)))
 .nil)),false⟩
noncomputable def dz:Fd:=⟨"kids_of",["tree"],[],
 (.cons (.ret (.ite (.cmp .eq (.var 0) (.glob 0)) (.tup .nil) (.ix (.var 0) (.neg (.int 1)))))
 .nil),false⟩
noncomputable def cD:Fd:=⟨"with_kids",["tree","kids"],[],
 (.cons (.ret (.ite (.cmp .eq (.var 0) (.glob 0)) (.var 0) (.bin .add (.sl (.var 0) .no (.yes (.neg (.int 1)))) (.tup (.cons (.blt .toTup (.cons (.var 1) .nil)) .nil)))))
 .nil),false⟩
noncomputable def cy:Fd:=⟨"added_above",["tree"],[],
 (.cons (.ifs (.cmp .eq (.ix (.var 0) (.int 0)) (.str "rule"))
 (.cons .bad
 .nil)
 .nil)
 (.cons (.ifs (.cmp .eq (.ix (.var 0) (.int 0)) (.str "cut"))
 (.cons (.ret (.lst (.cons (.lst (.cons (.tup (.cons (.str "right") (.cons (.ix (.var 0) (.int 1)) .nil))) .nil)) (.cons (.lst (.cons (.tup (.cons (.str "left") (.cons (.ix (.var 0) (.int 1)) .nil))) .nil)) .nil))))
 .nil)
 .nil)
 (.cons .bad
 .nil))),false⟩
noncomputable def bZ:Fd:=⟨"rows_above",["row","tree"],[],
 (.cons (.ret (.comp 1 (.nm 2) (.sq (.call 5 (.cons (.var 1) .nil))) .no (.call 1 (.cons (.var 0) (.cons (.var 2) .nil)))))
 .nil),false⟩
noncomputable def fH:Fd:=⟨"fits",["row","tree"],["rows","kids","above","kid"],
 (.cons (.ifs (.cmp .eq (.var 1) (.glob 0))
 (.cons (.ret (.call 2 (.cons (.var 0) .nil)))
 .nil)
 .nil)
 (.cons (.ifs (.and (.cmp .eq (.ix (.var 1) (.int 0)) (.str "rule")) .bad)
 (.cons .bad
 .nil)
 .nil)
 (.cons (.asg (.nm 2) (.call 6 (.cons (.var 0) (.cons (.var 1) .nil))))
 (.cons (.asg (.nm 3) (.call 3 (.cons (.var 1) .nil)))
 (.cons (.ifs (.or (.not (.var 2)) (.cmp .ne (.blt .len (.cons (.var 2) .nil)) (.blt .len (.cons (.var 3) .nil))))
 (.cons .bad
 .nil)
 .nil)
 (.cons (.forZ (.tp [4,5]) (.cons (.var 2) (.cons (.var 3) .nil))
 (.cons (.ifs (.not (.call 7 (.cons (.var 4) (.cons (.var 5) .nil))))
 (.cons .bad
 .nil)
 .nil)
 .nil))
 (.cons (.ret (.bl true))
 .nil))))))),false⟩
noncomputable def br:Fd:=⟨"trees_within",["tree"],["found","kid"],
 (.cons (.new 1 (.lst (.cons (.var 0) .nil)))
 (.cons (.for_ (.nm 2) (.sq (.call 3 (.cons (.var 0) .nil)))
 (.cons (.extend 1 (.call 8 (.cons (.var 2) .nil)))
 .nil))
 (.cons (.ret (.var 1))
 .nil))),false⟩
noncomputable def fc:Fd:=⟨"nodes",["tree"],[],
 (.cons (.ret (.blt .len (.cons (.call 8 (.cons (.var 0) .nil)) .nil)))
 .nil),false⟩
noncomputable def dC:Fd:=⟨"height",["tree"],[],
 (.cons (.ret (.bin .add (.int 1) (.maxd (.comp 1 (.nm 1) (.sq (.call 3 (.cons (.var 0) .nil))) .no (.call 10 (.cons (.var 1) .nil))) 0)))
 .nil),false⟩
noncomputable def bR:Fd:=⟨"cuts_within",["tree"],[],
 (.cons (.ret (.comp 1 (.nm 1) (.sq (.call 8 (.cons (.var 0) .nil))) (.yes (.cmp .eq (.ix (.var 1) (.int 0)) (.str "cut"))) (.var 1)))
 .nil),false⟩
noncomputable def gc:Fd:=⟨"cuts",["tree"],[],
 (.cons (.ret (.blt .len (.cons (.call 11 (.cons (.var 0) .nil)) .nil)))
 .nil),false⟩
noncomputable def cE:Fd:=⟨"given_way",["G","cut"],["A","L","K"],
 (.cons (.asg (.pr 2 [3,4]) (.sl (.var 1) (.yes (.int 1)) .no))
 (.cons (.ifs (.call 2 (.cons (.var 0) .nil))
 (.cons (.ret (.glob 0))
 .nil)
 .nil)
 (.cons .bad
 (.cons .bad
 (.cons .bad
 (.cons .bad
 (.cons .bad
 .nil))))))),false⟩
noncomputable def dy:Fd:=⟨"stepped",["row","tree"],["kids","at"],
 (.cons (.ifs (.and (.cmp .eq (.ix (.var 1) (.int 0)) (.str "cut")) (.cmp .eq (.call 12 (.cons (.var 1) .nil)) (.int 1)))
 (.cons (.ret (.call 13 (.cons (.var 0) (.cons (.var 1) .nil))))
 .nil)
 .nil)
 (.cons (.new 2 (.blt .toLst (.cons (.call 3 (.cons (.var 1) .nil)) .nil)))
 (.cons (.asg (.nm 3) (.int 0))
 (.cons (.while_ (.cmp .eq (.call 12 (.cons (.ix (.pk 2) (.var 3)) .nil)) (.int 0))
 (.cons (.aug 3 .add (.int 1))
 .nil))
 (.cons (.setix 2 (.var 3) (.call 14 (.cons (.ix (.call 6 (.cons (.var 0) (.cons (.var 1) .nil))) (.var 3)) (.cons (.ix (.pk 2) (.var 3)) .nil))))
 (.cons (.ret (.call 4 (.cons (.var 1) (.cons (.var 2) .nil))))
 .nil)))))),false⟩
noncomputable def bE:Fd:=⟨"is_too_great",["tree"],[],
 (.cons (.ret (.or (.cmp .gt (.call 9 (.cons (.var 0) .nil)) (.glob 1)) (.cmp .gt (.call 10 (.cons (.var 0) .nil)) (.glob 2))))
 .nil),false⟩
noncomputable def bF:Fd:=⟨"bounded_step",["row","tree"],["told"],
 (.cons (.asg (.nm 2) (.call 14 (.cons (.var 0) (.cons (.var 1) .nil))))
 (.cons (.ifs (.call 15 (.cons (.var 2) .nil))
 (.cons .bad
 .nil)
 .nil)
 (.cons (.ret (.var 2))
 .nil))),false⟩
noncomputable def fi:Rs:=(.cons (.st (.ifs (.not (.call 7 (.cons (.var 0) (.cons (.var 1) .nil))))
 (.cons .bad
 .nil)
 .nil))
 (.cons (.st (.new 2 (.lst .nil)))
 (.cons (.st (.asg (.nm 3) (.var 1)))
 (.cons (.whl (.cmp .gt (.call 12 (.cons (.var 3) .nil)) (.int 0))
 (.cons (.ifs (.cmp .eq (.blt .len (.cons (.pk 2) .nil)) (.glob 3))
 (.cons (.rse "TooGreat")
 .nil)
 .nil)
 (.cons (.st (.asg (.nm 3) (.call 16 (.cons (.var 0) (.cons (.var 3) .nil)))))
 (.cons (.st (.append 2 (.var 3)))
 .nil))))
 (.cons (.st (.ret (.var 2)))
 .nil)))))
noncomputable def gy:Fd:=⟨"clearing",["row","tree"],["told","last"],kn fi,false⟩
noncomputable def cZ:Fd:=⟨"clearing",["row","tree"],["told","last"],
 (qg fi),false⟩
noncomputable def gv:Rs:=(.cons (.cal (.asg (.nm 2) (.call 17 (.cons (.var 0) (.cons (.var 1) .nil)))) 17 28 (.cons (.var 0) (.cons (.var 1) .nil)))
 (.cons (.st (.ret (.ite (.var 2) (.ix (.var 2) (.neg (.int 1))) (.var 1))))
 .nil))
noncomputable def jy:Fd:=⟨"cleared",["row","tree"],["told"],kn gv,false⟩
noncomputable def dA:Fd:=⟨"cleared",["row","tree"],["told"],
 (qg gv),false⟩
noncomputable def cI:Fd:=⟨"_law_cell",["_law_script","_law_k"],["_law_number"],
 (.cons (.ifs (.cmp .lt (.var 1) (.blt .len (.cons (.var 0) .nil)))
 (.cons (.ret (.ix (.var 0) (.var 1)))
 .nil)
 .nil)
 (.cons (.asg (.nm 2) (.bin .add (.bin .mul (.var 1) (.int 7919)) (.int 5)))
 (.cons (.ifs (.cmp .gt (.blt .len (.cons (.var 0) .nil)) (.int 0))
 (.cons (.asg (.nm 2) (.bin .add (.bin .mod (.bin .mul (.ix (.var 0) (.bin .mod (.bin .mul (.var 1) (.int 7)) (.blt .len (.cons (.var 0) .nil)))) (.int 48271)) (.int 2147483647)) (.bin .mul (.var 1) (.int 104729))))
 .nil)
 .nil)
 (.cons (.ret (.bin .mod (.bin .mul (.var 2) (.var 2)) (.int 2147483629)))
 .nil)))),false⟩
noncomputable def cF:Fd:=⟨"_law_text",["_law_cell_here","_law_filler","_law_k"],["_law_size","_law_at"],
 (.cons (.asg (.nm 3) (.bin .add (.int 1) (.bin .mod (.var 0) (.int 8))))
 (.cons (.asg (.nm 4) (.bin .mod (.bin .fdiv (.var 0) (.int 8)) (.var 3)))
 (.cons (.ret (.bin .add (.bin .add (.bin .mul (.var 1) (.var 4)) (.ix (.str "bdghjk") (.var 2))) (.bin .mul (.var 1) (.bin .sub (.bin .sub (.var 3) (.int 1)) (.var 4)))))
 .nil))),false⟩
noncomputable def cH:Fd:=⟨"_law_leaf",["_law_cell_here","_law_family","_law_names"],["_law_terms","_law_j"],
 (.cons (.new 3 (.lst .nil))
 (.cons (.for_ (.nm 4) (.rng (.bin .mod (.bin .fdiv (.var 0) (.int 5)) (.int 4)))
 (.cons (.append 3 (.ix (.var 2) (.bin .mod (.bin .fdiv (.var 0) (.bin .add (.int 7) (.bin .mul (.int 4) (.var 4)))) (.blt .len (.cons (.var 2) .nil)))))
 .nil))
 (.cons (.ret (.tup (.cons (.str "word") (.cons (.call 20 (.cons (.var 1) (.cons (.str "q") (.cons (.bin .mod (.var 0) (.int 3)) .nil)))) (.cons (.blt .toTup (.cons (.pk 3) .nil)) .nil)))))
 .nil))),false⟩
noncomputable def cG:Fd:=⟨"_law_many",["_law_tree"],[],
 (.cons (.ifs (.cmp .eq (.blt .len (.cons (.var 0) .nil)) (.int 1))
 (.cons (.ret (.int 0))
 .nil)
 .nil)
 (.cons (.ret (.bin .add (.blt .toInt (.cons (.cmp .eq (.ix (.var 0) (.int 0)) (.str "cut")) .nil)) (.blt .sum (.cons (.comp 1 (.nm 1) (.sq (.ix (.var 0) (.neg (.int 1)))) .no (.call 22 (.cons (.var 1) .nil))) .nil))))
 .nil)),false⟩
noncomputable def da:Fd:=⟨"_law_row",["_law_row_here"],[],
 (.cons (.ret (.blt .toTup (.cons (.ssd (.var 0)) .nil)))
 .nil),false⟩
noncomputable def bS:Fd:=⟨"_law_halves",["_law_some","_law_many_here"],["_law_half"],
 (.cons (.ifs (.cmp .eq (.var 1) (.int 1))
 (.cons (.ret (.tup (.cons (.str "close") .nil)))
 .nil)
 .nil)
 (.cons (.asg (.nm 2) (.bin .fdiv (.var 1) (.int 2)))
 (.cons (.ret (.tup (.cons (.str "cut") (.cons (.var 0) (.cons (.tup (.cons (.call 24 (.cons (.var 0) (.cons (.var 2) .nil))) (.cons (.call 24 (.cons (.var 0) (.cons (.bin .sub (.var 1) (.var 2)) .nil))) .nil))) .nil)))))
 .nil))),false⟩
noncomputable def ups:List (Str × List Str):=[("TooGreat",["TooGreat","CutlessError"])]
noncomputable def pcs:List Str:=["CutlessError","NoCut","NoProof","NotCleared","TooGreat"]
noncomputable def fC:List Yt:=[.st (.asg (.nm 3) (.bl false)),
 .tr (.cons (.ifs (.var 2)
 (.cons (.cal .bad 17 28 (.cons (.var 0) (.cons (.var 1) .nil)))
 .nil)
 (.cons (.cal .bad 18 29 (.cons (.var 0) (.cons (.var 1) .nil)))
 .nil))
 .nil) 4 (.asg 3 (.an (.isI "TooGreat") (.an .ty (.nt (.isI "NoProof")))) (.ifb (.or (.isI "NoCut") (.isI "NotCleared")) 3 false .nil)),
 .st (.ret (.var 3))]
noncomputable def bQ:Fd:=⟨"_law_refused",["_law_row_here","_law_tree","_law_whole"],["_law_good","e"],
 (yS ups fC),false⟩
noncomputable def bG:Fd:=⟨"_law_cleared",["_law_row_here","_law_tree","_law_many_here"],["_law_trees","_law_k"],
 (.cons (.asg (.nm 3) (.call 17 (.cons (.var 0) (.cons (.var 1) .nil))))
 (.cons (.ifs (.or (.not (.blt .isList (.cons (.var 3) .nil))) (.cmp .ne (.blt .len (.cons (.var 3) .nil)) (.var 2)))
 (.cons .bad
 .nil)
 .nil)
 (.cons (.for_ (.nm 4) (.rng (.var 2))
 (.cons (.ifs (.cmp .ne (.call 22 (.cons (.ix (.var 3) (.var 4)) .nil)) (.bin .sub (.bin .sub (.var 2) (.int 1)) (.var 4)))
 (.cons .bad
 .nil)
 .nil)
 .nil))
 (.cons (.ifs (.and (.cmp .gt (.var 2) (.int 0)) (.cmp .ne (.ix (.var 3) (.neg (.int 1))) (.tup (.cons (.str "close") .nil))))
 (.cons .bad
 .nil)
 .nil)
 (.cons (.ret (.cmp .eq (.call 18 (.cons (.var 0) (.cons (.var 1) .nil))) (.tup (.cons (.str "close") .nil))))
 .nil))))),false⟩
noncomputable def d_law:Fd:=⟨"law",["_law_script"],["_law_cell_here","_law_names","_law_words","_law_some","_law_row_here","_law_number","_law_many_here","_law_tree","_law_handed"],
 (.cons (.asg (.nm 1) (.call 19 (.cons (.var 0) (.cons (.int 0) .nil))))
 (.cons (.asg (.nm 2) (.lst (.cons (.call 20 (.cons (.bin .fdiv (.var 1) (.int 8)) (.cons (.str "z") (.cons (.int 0) .nil)))) (.cons (.call 20 (.cons (.bin .fdiv (.var 1) (.int 8)) (.cons (.str "z") (.cons (.int 1) .nil)))) .nil))))
 (.cons (.cmp false 3 (.comp 1 (.nm 10) (.rng (.int 3)) .no (.call 21 (.cons (.call 19 (.cons (.var 0) (.cons (.bin .add (.int 1) (.var 10)) .nil))) (.cons (.bin .fdiv (.var 1) (.int 8)) (.cons (.var 2) .nil))))))
 (.cons (.asg (.nm 4) (.ix (.lst (.cons (.ix (.var 3) (.int 0)) (.cons (.tup (.cons (.str "yes") .nil)) (.cons (.tup (.cons (.str "no") .nil)) (.cons (.tup (.cons (.str "and") (.cons (.ix (.var 3) (.int 1)) (.cons (.ix (.var 3) (.int 2)) .nil)))) .nil))))) (.bin .mod (.var 1) (.int 4))))
 (.cons (.new 5 (.lst (.cons (.tup (.cons (.str "left") (.cons (.ix (.var 3) (.int 0)) .nil))) (.cons (.tup (.cons (.str "right") (.cons (.ix (.var 3) (.int 0)) .nil))) .nil))))
 (.cons (.for_ (.nm 6) (.sq (.sl (.var 0) (.yes (.int 5)) (.yes (.int 35))))
 (.cons (.append 5 (.tup (.cons (.ix (.lst (.cons (.str "left") (.cons (.str "right") .nil))) (.bin .mod (.var 6) (.int 2))) (.cons (.call 21 (.cons (.bin .fdiv (.var 6) (.int 2)) (.cons (.bin .fdiv (.var 1) (.int 8)) (.cons (.var 2) .nil)))) .nil))))
 .nil))
 (.cons (.asg (.nm 7) (.bin .mod (.bin .fdiv (.call 19 (.cons (.var 0) (.cons (.int 4) .nil))) (.int 2)) (.int 7)))
 (.cons (.ifs (.cmp .eq (.bin .mod (.call 19 (.cons (.var 0) (.cons (.int 4) .nil))) (.int 2)) (.int 1))
 (.cons (.asg (.nm 7) (.bin .add (.int 97) (.bin .mod (.bin .fdiv (.call 19 (.cons (.var 0) (.cons (.int 4) .nil))) (.int 2)) (.int 8))))
 .nil)
 .nil)
 (.cons (.asg (.nm 8) (.call 24 (.cons (.var 4) (.cons (.bin .add (.var 7) (.int 1)) .nil))))
 (.cons (.asg (.nm 9) (.call 23 (.cons (.var 5) .nil)))
 (.cons (.ifs (.cmp .gt (.var 7) (.int 100))
 (.cons (.ret (.and (.call 25 (.cons (.var 9) (.cons (.var 8) (.cons (.bl true) .nil)))) (.call 25 (.cons (.var 9) (.cons (.var 8) (.cons (.bl false) .nil))))))
 .nil)
 .nil)
 (.cons (.ret (.call 26 (.cons (.var 9) (.cons (.var 8) (.cons (.var 7) .nil)))))
 .nil)))))))))))),false⟩
noncomputable instance xsi:Xs:=⟨[(17,28),(18,29)]⟩
noncomputable def Gd:List Fd:=[bY,gb,dU,dz,cD,cy,bZ,fH,br,fc,dC,bR,gc,cE,dy,bE,bF,cZ,dA,cI,cF,cH,cG,da,bS,bQ,bG,d_law]
noncomputable def Gs:List Fd:=[bY,gb,dU,dz,cD,cy,bZ,fH,br,fc,dC,bR,gc,cE,dy,bE,bF,cZ,dA,cI,cF,cH,cG,da,bS,bQ,bG,d_law,gy,jy]
noncomputable instance tbs:Tbs:=⟨[],[],[]⟩
noncomputable def gls:List D:=[.tup [.str "close"],.int 600,.int 40,.int 100]
noncomputable def gns:List Str:=["CLOSE","MOST_NODES","MOST_HEIGHT","MOST_STEPS"]
inductive F where
 | yes | no | word (w:Str) (ts:List Str) | bi (x y:F)
noncomputable def hd:F->Str
 | .yes=>"yes" | .no=>"no" | .word _ _=>"word" | .bi _ _=>"and"
noncomputable def enc:F->D
 | .yes=>.tup [.str "yes"]
 | .no=>.tup [.str "no"]
 | .word w ts=>.tup [.str "word",.str w,.tup (ts.map .str)]
 | .bi x y=>.tup [.str "and",enc x,enc y]
noncomputable def tl:F->List D
 | .yes | .no=>[]
 | .word w ts=>[.str w,.tup (ts.map .str)]
 | .bi x y=>[enc x,enc y]
theorem lA (A:F):enc A = .tup (.str (hd A)::tl A):=by cases A<;>rfl
noncomputable def kd:F->Nat
 | .yes=>0 | .no=>1 | .word _ _=>2 | .bi _ _=>4
noncomputable def kdS (s:Str):Nat:=if s = "yes" then 0 else if s = "no" then 1 else if s = "word" then 2 else 4
theorem Ex:∀ A:F,kdS (hd A) = kd A
 | .yes=>(by decide +kernel:kdS "yes" = 0)
 | .no=>(by decide +kernel:kdS "no" = 1)
 | .word _ _=>(by decide +kernel:kdS "word" = 2)
 | .bi _ _=>(by decide +kernel:kdS "and" = 4)
theorem qA {A B:F} (h:hd A = hd B):kd A = kd B:=by rw [<- Ex A,<- Ex B,h]
noncomputable def sz:F->Nat
 | .bi x y=>sz x+sz y+1
 | _=>1
theorem mY (x:Str):dep (.str x) = 0:=by unfold dep;rfl
theorem vc:∀ ts:List Str,bM (ts.map D.str) = 0
 | []=>by unfold bM;rfl
 | t::ts=>by rw [aX];unfold bM;rw [vc ts,mY];rfl
noncomputable def hF:F->Nat
 | .bi x y=>max (hF x) (hF y)+1
 | _=>1
theorem EM:∀ A:F,hF A<=sz A
 | .yes | .no | .word _ _=>av _
 | .bi x y=>by have:=EM x;have:=EM y;simp only [hF,sz];lia
theorem kJ:∀ A:F,dep (enc A)<=hF A+1
 | .yes | .no=>by unfold enc;simp [dep,bM,hF]
 | .word w ts=>by unfold enc;simp [dep,bM,vc,hF]
 | .bi x y=>by have:=kJ x;have:=kJ y;unfold enc;simp [dep,bM,hF];lia
theorem yT (A:F):dep (enc A)<=sz A+1:=by have:=kJ A;have:=EM A;lia
theorem yR:∀ ts us:List Str,fF (ts.map D.str) (us.map D.str) = true->ts = us
 | [],[],_=>rfl
 | [],_::_,h=>by unfold fF at h;cases h
 | _::_,[],h=>by unfold fF at h;cases h
 | t::ts,u::us,h=>by
   rw [aX,aX] at h;unfold fF eqD at h;rw [aa] at h;rw [show t = u by simpa using h.1,yR ts us h.2]
theorem qI {A B:F} (h:eqD (enc A) (enc B) = true):hd A = hd B/\fF (tl A) (tl B) = true:=by
 rw [lA,lA] at h;unfold eqD fF eqD at h;rw [aa] at h;exact ⟨by simpa using h.1,h.2⟩
theorem OL {a b:D} (h:fF [a] [b] = true):eqD a b = true:=by
 unfold fF at h;rw [aa] at h;exact h.1
theorem Me {a b x y:D} (h:fF [a,x] [b,y] = true):eqD a b = true/\eqD x y = true:=by
 unfold fF at h;rw [aa] at h;exact ⟨h.1,OL h.2⟩
theorem wV:∀ A B:F,eqD (enc A) (enc B) = true->A = B
 | .yes,B,h=>by
   have this:=qA (qI h).1
   cases B with
   | yes=>rfl
   | _=>exact absurd this (by simp [kd])
 | .no,B,h=>by
   have this:=qA (qI h).1
   cases B with
   | no=>rfl
   | _=>exact absurd this (by simp [kd])
 | .word w ts,B,h=>by
   have this:=qA (qI h).1;have h2:=(qI h).2
   cases B with
   | word v us =>
     obtain ⟨h3,h4⟩:=Me h2;unfold eqD at h3 h4
     rw [show w = v by simpa using h3,yR ts us h4]
   | _=>exact absurd this (by simp [kd])
 | .bi x y,B,h=>by
   have this:=qA (qI h).1;have h2:=(qI h).2
   cases B with
   | bi u v =>
     obtain ⟨h3,h4⟩:=Me h2
     rw [wV x u h3,wV y v h4]
   | _=>exact absurd this (by simp [kd])
noncomputable def sd (L:Bool):Str:=if L then "left" else "right"
abbrev It:=Bool × F
noncomputable def itD (p:It):D:=.tup [.str (sd p.1),enc p.2]
theorem KQ:∀ b c:Bool,sd b = sd c->b = c:=by decide +kernel
theorem EU {p q:It} (h:eqD (itD p) (itD q) = true):p = q:=by
 unfold itD eqD at h;obtain ⟨h1,h2⟩:=Me h;unfold eqD at h1;obtain ⟨a,A⟩:=p;obtain ⟨b,B⟩:=q;rw [show a = b from KQ a b (by simpa using h1),show A = B from wV A B h2]
noncomputable def low (ps:List It):Prop:=∀ p∈ps,sz p.2<=61
theorem iN (p:It) (h:sz p.2<=61):dep (itD p)<=64:=by
 have:=yT p.2;unfold itD;simp only [dep,bM,mY]
 lia
theorem sM:∀ {ps:List It},low ps->bM (ps.map itD)<=64
 | [],_=>by show bM ([]:List D)<=64;unfold bM;lia
 | p::ps,h=>by
   rw [aX];unfold bM;have:=iN p (h p ao);have:=sM (ps:=ps) fun q hq=>h q (ak _ hq)
   lia
theorem eq_self (p:It) (h:sz p.2<=61):eqD (itD p) (itD p) = true:=kI _ (by have:=iN p h;lia)
noncomputable def has (ps:List It) (q:It):Bool:=(ps.map itD).any fun y=>eqD y (itD q)
theorem mT {ps:List It} {q:It} (h:low ps):has ps q = true↔q∈ps:=by
 unfold has;rw [du];constructor
 . rintro ⟨y,hy,e⟩;obtain ⟨p,hp,rfl⟩:=aP.mp hy;rw [<- EU e];exact hp
 . intro hq;exact ⟨_,gL hq,eq_self q (h q hq)⟩
theorem NP {ps:List It} {q:It} (h:low ps) (hq:sz q.2<=61):dep (itD q)<=150/\bM (ps.map itD) < 99999:=⟨by have:=iN q hq;lia,by have:=sM h;lia⟩
theorem ltn (ys:List D):(dJ [] ys).isSome = true:=by cases ys<;>(unfold dJ;rfl)
theorem OD (ys:List D):(dJ ys []).isSome = true:=by cases ys<;>(unfold dJ;rfl)
theorem ltc {x y:D} {xs ys:List D} (h:(ltD x y).isSome = true) (h2:(dJ xs ys).isSome = true):(dJ (x::xs) (y::ys)).isSome = true:=by
 unfold dJ;split
 . exact h2
 . exact h
theorem lts {s t:Str} {xs ys:List D} (h:s = t->(dJ xs ys).isSome = true):(dJ (.str s::xs) (.str t::ys)).isSome = true:=by
 unfold dJ;split
 . rename_i e;exact h (by unfold eqD at e;simpa using e)
 . unfold ltD;rfl
theorem yt:∀ xs ys:List Str,(dJ (xs.map D.str) (ys.map D.str)).isSome = true
 | [],ys=>ltn _
 | xs,[]=>OD _
 | x::xs,y::ys=>lts fun _=>yt xs ys
theorem jY {xs ys:List D} (h:(dJ xs ys).isSome = true):(ltD (.tup xs) (.tup ys)).isSome = true:=by unfold ltD;exact h
theorem su:∀ A B:F,(ltD (enc A) (enc B)).isSome = true
 | .yes,B=>by rw [lA B];exact jY (lts fun _=>ltn _)
 | .no,B=>by rw [lA B];exact jY (lts fun _=>ltn _)
 | .word w ts,B=>by
   rw [lA B];refine jY (lts fun e=>?_);have e:hd (.word w ts) = hd B:=e
   cases B with
   | word v us=>exact lts fun _=>ltc (jY (yt ts us)) (ltn _)
   | _=>exact absurd (qA e) (by simp [kd])
 | .bi x y,B=>by
   rw [lA B];refine jY (lts fun e=>?_);have e:hd (.bi x y) = hd B:=e
   cases B with
   | bi u v=>exact ltc (su x u) (ltc (su y v) (ltn _))
   | _=>exact absurd (qA e) (by simp [kd])
theorem rM {row:List It} (h:low row) (hl:row.length < 64):sortable (row.map itD) = true:=by
 unfold PP.sortable;simp only [aa,decide_eq_true_eq,bb];refine ⟨⟨by rw [aq];exact hl,fun x hx=>?_⟩,fun x hx y hy=>?_⟩
 . have k:∀ d∈row.map itD,bo d = 3:=fun d hd=>by
    obtain ⟨p,_,rfl⟩:=aP.mp hd;rfl
   cases e:row.map itD with
   | nil=>rw [e] at hx;cases hx
   | cons z zs =>
     have e2:bo ((z::zs).getD 0 .non) = 3:=k z (by rw [e];exact ao);rw [k x hx,e2];exact ⟨rfl,rfl⟩
 . obtain ⟨p,hp,rfl⟩:=aP.mp hx;obtain ⟨q,hq,rfl⟩:=aP.mp hy;have:=iN p (h p hp);have:=iN q (h q hq);unfold jN;rw [if_pos (by lia)];exact jY (lts fun _=>ltc (su _ _) (ltn _))
instance:Inhabited F:=⟨.yes⟩
theorem jC {α:Type} [Inhabited α] (g:α->D) (xs:List α):∃ ys:List α,eU (xs.map g) = ys.map g/\ys.Perm xs:=by
 unfold eU;rw [aq];split
 . exact ⟨xs,rfl,.refl _⟩
 . have p:=fL (lt:=gY (xs.map g)) xs.length;refine ⟨(ans (gY (xs.map g)) (PySem.W.kas_sort xs.length)).toList.map fun i=>xs.getD i default,?_,?_⟩
   . rw [vF];refine Bb fun i hi=>?_;have hi:i < xs.length:=fK.mp (p.mem_iff.mp hi);show (xs.map g).getD i .non = g (xs.getD i default);rw [eN,aQ,eN,aw hi];rfl
   . refine (p.map _).trans ?_;rw [qp default (fun x=>x) xs,List.map_id']
noncomputable def srt (xs:List It):List It:=Classical.choose (jC itD xs)
theorem Ky (xs:List It):eU (xs.map itD) = (srt xs).map itD:=(qU (jC itD xs)).1
theorem kx (xs:List It):(srt xs).Perm xs:=(qU (jC itD xs)).2
noncomputable def isL (acc:List It) (x:It):Bool:=match acc.getLast? with
 | some y=>eqD (itD y) (itD x)
 | none=>false
noncomputable def dd:List It->List It->List It
 | acc,[]=>acc
 | acc,x::xs=>dd (if isL acc x = true then acc else acc++[x]) xs
noncomputable def mo (l:List It):List It:=dd [] (srt l)
theorem Iy {acc:List It} {x:It} (h:isL acc x = true):x∈acc:=by
 unfold isL at h;split at h
 . rename_i y e;rw [<- EU h];exact List.mem_of_getLast? e
 . cases h
theorem EY {p:It}:∀ (xs acc:List It),p∈dd acc xs↔p∈acc\/p∈xs
 | [],acc=>by simp [dd]
 | x::xs,acc=>by
   unfold dd;rw [EY xs];split
   . rename_i h;have:=Iy h;constructor
     . rintro (z | z)
       . exact .inl z
       . exact .inr (ak _ z)
     . rintro (z | z)
       . exact .inl z
       . rcases aD.mp z with z | z
         . rw [z];exact .inl this
         . exact .inr z
   . rw [bI,cR,aD,or_assoc]
theorem EZ:∀ (xs acc:List It),(dd acc xs).length<=acc.length+xs.length
 | [],acc=>by simp [dd]
 | x::xs,acc=>by
   unfold dd;have:=EZ xs (if isL acc x = true then acc else acc++[x])
   have h2:(if isL acc x = true then acc else acc++[x]).length<=acc.length+1:=by
    split
    . lia
    . rw [au];simp
   rw [ax]
   lia
theorem wL {p:It} {l:List It}:p∈mo l↔p∈l:=by
 unfold mo;rw [EY,(kx l).mem_iff];simp
theorem LH (l:List It):(mo l).length<=l.length:=by
 unfold mo;have:=EZ (srt l) [];rw [(kx l).length_eq] at this;simpa using this
theorem LG {l:List It} (h:low l):low (mo l):=fun p hp=>h p (wL.mp hp)
theorem low.app {a b:List It} (h:low a) (h2:low b):low (a++b):=fun p hp=>(bI.mp hp).elim (h p) (h2 p)
theorem low.one {p:It} (h:sz p.2<=61):low [p]:=fun q hq=>by rw [cR.mp hq];exact h
theorem yK:∀ ts:List Str,hbL (ts.map D.str) = true
 | []=>by unfold hbL;rfl
 | t::ts=>by rw [aX];unfold hbL;rw [yK ts];unfold hb;rfl
theorem sG:∀ A:F,hb (enc A) = true
 | .yes | .no=>by unfold enc;decide +kernel
 | .word w ts=>by unfold enc;simp only [hb,hbL,yK,dH]
 | .bi x y=>by unfold enc;simp only [hb,hbL,sG x,sG y,dH]
theorem NR (p:It):hb (itD p) = true:=by unfold itD;simp only [hb,hbL,sG,dH]
theorem yB {l:List D} {y:D}:atI (l++[y]) (-1) = some y:=by
 unfold atI ixN;rw [if_neg (by decide),if_pos (by simp;lia)];show (l++[y])[(-1+((l++[y]).length:Int)).toNat]? = some y;have e:(-1+((l++[y]).length:Int)).toNat = l.length:=by rw [au];simp;lia
 rw [e,aZ (av _),Nat.sub_self];rfl
theorem NH {p q:It} (hp:sz p.2<=61) (hq:sz q.2<=61) {Q:Bool->Prop} (k:Q (!eqD (itD p) (itD q))):iR .ne (itD p) (itD q) Q:=by
 refine ⟨_,?_,k⟩;show (if gJ (itD p) (itD q) = true then some (!eqD (itD p) (itD q)) else none) = _;have:=iN p hp;have:=iN q hq;rw [if_pos (by unfold gJ;rw [show kin (itD p) (itD q) = true from rfl,kP,aa,decide_eq_true_eq,decide_eq_true_eq];lia)]
theorem s64:(1000:Nat) < sizeLine:=by decide +kernel
theorem ED (l:List It) (y x:It):isL (l++[y]) x = eqD (itD y) (itD x):=by
 unfold isL;rw [List.getLast?_append,List.getLast?_singleton];rfl
theorem low.tail {x:It} {xs:List It} (h:low (x::xs)):low xs:=fun p hp=>h p (ak _ hp)
theorem Dk (n:Nat) (l:List It) (h:low l) (hl:l.length < 64):PP.run Gs gls (n+1) 0 [.lst (l.map itD)] = some (.tup ((mo l).map itD)):=by
 apply bx;refine bh bY rfl rfl rfl ?_;simp only [bY,init,SI,Nat.reduceAdd,Nat.reduceSub];simp only [↓WS,WI,↓reduceIte];refine ⟨by decide,rM h hl,?_⟩;rw [Ky];refine Cb (g:=itD) (fun rest δ=>∃ (acc:List It) (s:Sl),δ = [.val (.lst (l.map itD)),.own (acc.map itD),s]/\low acc/\low rest/\dd acc rest = mo l/\acc.length+rest.length < 64) ?_ ?_ _ _ ⟨[],_,rfl,(fun p hp=>by cases hp),(fun p hp=>h p ((kx l).mem_iff.mp hp)),rfl,by rw [aH,(kx l).length_eq];lia⟩
 . rintro x rest δ ⟨acc,s,rfl,ha,hr,e,hlen⟩;rw [ax] at hlen;have hx:=hr x ao;have ss:=s64;rw [dd] at e
   have app:isL acc x = false->∃ (acc':List It) (s:Sl),([.val (.lst (l.map itD)),.own (acc.map itD++[itD x]),.val (itD x)]:PP.Loc) = [.val (.lst (l.map itD)),.own (acc'.map itD),s]/\low acc'/\low rest/\dd acc' rest = mo l/\acc'.length+rest.length < 64:=fun z=>by
    rw [z,if_neg ah] at e;exact ⟨acc++[x],_,by rw [bT];rfl,ha.app (.one hx),hr.tail,e,by rw [au];simp only [ax,aH];lia⟩
   rcases List.eq_nil_or_concat acc with rfl | ⟨l',y,rfl⟩
   . simp only [lV,↓WS,WI,↓reduceIte];exact ⟨by decide,app rfl⟩
   . rw [List.concat_eq_append] at e hlen app ha ⊢;have hy:=ha y (by simp);rw [bT] at app ⊢;have hne:(!!(l'.map itD++[y].map itD).isEmpty) = false:=by cases l'<;>rfl
     simp only [hne,↓WS,WI,↓reduceIte];refine ⟨itD y,yB,NH hy hx ?_⟩;rw [ED] at app e
     cases eb:eqD (itD y) (itD x) with
     | true =>
       rw [eb,if_pos rfl] at e
       exact ⟨l'++[y],_,by rw [bT],ha,hr.tail,e,by lia⟩
     | false=>exact ⟨by simp only [au,aq,ax,aH] at hlen ⊢;lia,app eb⟩
 . rintro δ ⟨acc,s,rfl,_,_,e,_⟩;simp only [↓WS,WI,↓reduceIte];rw [<- e];rfl
theorem Dl (n:Nat) (r ad:List It) (a:D) (ha:a = .lst (ad.map itD)\/a = .tup (ad.map itD)) (h:low (r++ad)) (hl:r.length+ad.length < 64):PP.run Gs gls (n+2) 1 [.tup (r.map itD),a] = some (.tup ((mo (r++ad)).map itD)):=by
 have w:=Dk n (r++ad) h (by rw [au];exact hl);rw [bT] at w;have ss:=s64;apply bx;refine bh gb rfl rfl rfl ?_;simp only [gb,init,SI,Nat.reduceAdd,Nat.reduceSub];rcases ha with rfl | rfl
 . simp only [↓WS,WI,↓reduceIte];exact ⟨by rw [aq,aq];lia,(aJ w).mpr rfl⟩
 . simp only [↓WS,WI,↓reduceIte];exact ⟨by rw [aq,aq];lia,(aJ w).mpr rfl⟩
noncomputable def cl (ps:List It):Bool:=has ps (false,.yes) || (has ps (true,.no) || ps.any fun p=>p.1 && has ps (false,p.2))
noncomputable def clo (S:It->Prop):Prop:=S (false,.yes)\/S (true,.no)\/∃ A,S (true,A)/\S (false,A)
theorem Ml {ps:List It} (h:low ps):cl ps = true↔clo (·∈ps):=by
 unfold cl clo;rw [df,df,mT h,mT h,du];refine or_congr aR (or_congr aR ⟨?_,?_⟩)
 . rintro ⟨⟨b,A⟩,hp,e⟩;rw [aa,mT h] at e;obtain ⟨e1,e2⟩:=e
   cases b with
   | true=>exact ⟨A,hp,e2⟩
   | false=>cases e1
 . rintro ⟨A,h1,h2⟩;exact ⟨(true,A),h1,by rw [aa,mT h];exact ⟨rfl,h2⟩⟩
theorem qJ {α:Type} (f:α->Bool):∀ xs:List α,ke (xs.map fun x=>D.bl (f x)) = some (xs.map f)
 | []=>rfl
 | x::xs=>by
   rw [aX];unfold ke;rw [qJ f xs];rfl
theorem any_map {α:Type} (f:α->Bool) (xs:List α) {Q:D->Prop} (q:Q (.bl (xs.any f))):kS .any [.lst (xs.map fun x=>D.bl (f x))] Q:=by
 refine ⟨.bl (xs.any f),?_,q⟩;show (ke (xs.map fun x=>D.bl (f x))).map (fun bs=>D.bl (bs.any id)) = _;rw [qJ];show some (D.bl ((xs.map f).any id)) = _;rw [List.any_map];rfl
theorem Ow (b:Bool):(sd b == "left") = b:=by cases b<;>decide +kernel
theorem ur (n:Nat) (ps:List It) (h:low ps) (hl:ps.length<=1000):PP.run Gs gls (n+1) 2 [.tup (ps.map itD)] = some (.bl (cl ps)):=by
 have ss:=s64;apply bx;refine bh dU rfl rfl rfl ?_;simp only [dU,init,SI,Nat.reduceAdd,Nat.reduceSub];simp only [ax,aH,↓tM,↓WS,WI,↓reduceIte];have dl:=sM h;refine ⟨by decide,by decide,⟨by decide +kernel,by lia⟩,uT (fun h1=>?_) fun h1=>⟨by decide,by decide,⟨by decide +kernel,by lia⟩,uT (fun h2=>?_) fun h2=>?_⟩⟩
 . have e:has ps (false,.yes) = true:=h1;unfold cl;rw [e];rfl
 . have e:has ps (true,.no) = true:=h2;unfold cl;rw [e,vG,vH]
 . have e1:has ps (false,.yes) = false:=iw.mpr h1;have e2:has ps (true,.no) = false:=iw.mpr h2;refine jB itD (fun _=>true) (fun p=>.bl (p.1 && has ps (false,p.2))) ps (fun p hp=>?_) ⟨?_,?_⟩
   . obtain ⟨b,A⟩:=p;show wTg [Sl.val (D.tup (ps.map itD)),.no,.no] (Tg.tp [1,2]) (D.tup [D.str (sd b),enc A]) _;simp only [↓xA,Ow,SI,↓WS,WI,↓reduceIte];refine ⟨trivial,?_⟩
     cases b with
     | false=>exact ⟨rfl,rfl⟩
     | true=>exact ⟨by decide,NP (q:=(false,A)) h (h (true,A) hp),rfl,rfl⟩
   . rw [aq,Bc.mpr fun _ _=>rfl];lia
   . rw [Bc.mpr fun _ _=>rfl];refine any_map _ _ ?_;unfold cl;rw [e1,e2];rfl
theorem sJ {as bs:List D} (h:min (bM as) (bM bs)<=149) (h2:max (bM as) (bM bs) < 99999) {Q:Bool->Prop} (k:Q (eqD (.tup as) (.tup bs))):iR .eq (.tup as) (.tup bs) Q:=by
 refine ⟨_,?_,k⟩;have e1:dep (.tup as) = bM as+1:=by unfold dep;rfl
 have e2:dep (.tup bs) = bM bs+1:=by unfold dep;rfl
 have hd:gJ (.tup as) (.tup bs) = true:=by
  unfold gJ;rw [show kin (.tup as) (.tup bs) = true from rfl,e1,e2,kP,aa,decide_eq_true_eq,decide_eq_true_eq]
  lia
 show (if gJ (.tup as) (.tup bs) = true then some (eqD (.tup as) (.tup bs)) else _) = _;rw [if_pos hd]
inductive T where
 | close | cut (l r:T)
noncomputable def bH (A:F):T->D
 | .close=>.tup [.str "close"]
 | .cut l r=>.tup [.str "cut",enc A,.tup [bH A l,bH A r]]
noncomputable def ht:T->Nat
 | .close=>1
 | .cut l r=>max (ht l) (ht r)+1
noncomputable def cu:T->Nat
 | .close=>0
 | .cut l r=>cu l+cu r+1
noncomputable def nd:T->Nat
 | .close=>1
 | .cut l r=>nd l+nd r+1
theorem jT:∀ t:T,nd t = 2 * cu t+1
 | .close=>rfl
 | .cut l r=>by simp only [nd,cu,jT l,jT r];lia
noncomputable def EF:T->Bool
 | .close=>true
 | _=>false
noncomputable def CL:D:=.tup [.str "close"]
section
variable {A:F} (hA:sz A<=61)
include hA
theorem EW:∀ t:T,dep (bH A t)<=2 * ht t+64
 | .close=>by unfold bH;simp [dep,bM,ht]
 | .cut l r=>by
   have h1:=aY (EW l) (gq (Bi 2 (jK (ht l) (ht r))) 64);have h2:=aY (EW r) (gq (Bi 2 (iW (ht l) (ht r))) 64);have h3:=yT A;unfold bH;simp only [dep,bM,ht];generalize max (ht l) (ht r) = m at h1 h2 ⊢;have h4:dep (enc A)<=2 * m+64+1:=by lia
   rw [show 2 * (m+1)+64 = 2 * m+64+1+1 by lia];exact Jc (lF.mpr ⟨bC _,lF.mpr ⟨h4,lF.mpr ⟨Jc (lF.mpr ⟨h1,lF.mpr ⟨h2,bC _⟩⟩),bC _⟩⟩⟩)
theorem isC {t:T} (hh:ht t<=1000) {Q:Bool->Prop} (k:Q (EF t)):iR .eq (bH A t) (.tup [.str "close"]) Q:=by
 have d:=EW hA t
 cases t with
 | close=>exact sJ (by simp [bM,dep]) (by simp [bM,dep]) (by rw [show eqD (D.tup [.str "close"]) (.tup [.str "close"]) = true by decide +kernel];exact k)
 | cut l r =>
   unfold bH at d ⊢;unfold dep at d;refine sJ (by simp only [bM,mY];lia) (by simp only [bM,mY] at d ⊢;lia) ?_;rw [show eqD (D.tup [.str "cut",enc A,.tup [bH A l,bH A r]]) (.tup [.str "close"]) = false by kernel_rfl];exact k
end
theorem tL {c:Nat->List D->Option D} {f:Nat->Bool} {δ:PP.Loc} {Q:D->PP.Loc->Prop}:wE ⟨c,gls,f⟩ (.glob 0) δ Q↔Q (.tup [.str "close"]) δ:=mH.trans ⟨fun ⟨d,e,q⟩=>by cases e;exact q,fun q=>⟨_,rfl,q⟩⟩
theorem Na {c:Nat->List D->Option D} {f:Nat->Bool} {δ:PP.Loc} {Q:D->PP.Loc->Prop}:wE ⟨c,gls,f⟩ (.glob 1) δ Q↔Q (.int 600) δ:=mH.trans ⟨fun ⟨d,e,q⟩=>by cases e;exact q,fun q=>⟨_,rfl,q⟩⟩
theorem MZ {c:Nat->List D->Option D} {f:Nat->Bool} {δ:PP.Loc} {Q:D->PP.Loc->Prop}:wE ⟨c,gls,f⟩ (.glob 2) δ Q↔Q (.int 40) δ:=mH.trans ⟨fun ⟨d,e,q⟩=>by cases e;exact q,fun q=>⟨_,rfl,q⟩⟩
theorem Jg {c:Nat->List D->Option D} {f:Nat->Bool} {δ:PP.Loc} {Q:D->PP.Loc->Prop}:wE ⟨c,gls,f⟩ (.glob 3) δ Q↔Q (.int 100) δ:=mH.trans ⟨fun ⟨d,e,q⟩=>by cases e;exact q,fun q=>⟨_,rfl,q⟩⟩
theorem wU {cx:Cl} {c:E} {a b:Ss} {δ:PP.Loc} {Q:Out->Prop} (h:wT cx c δ fun k δ1=>k = false/\δ1 = δ) (q:wSs cx b δ Q):wS cx (.ifs c a b) δ Q:=BC (δ0:=δ) (fun k=>k = false) (let ⟨k,δ1,e,p⟩:=h;⟨k,δ1,e,p.2,p.1⟩) (fun z=>by cases z) fun _=>q
theorem sF {cx:Cl} {c:E} {a b:Ss} {δ:PP.Loc} {Q:Out->Prop} (h:wT cx c δ fun k δ1=>k = true/\δ1 = δ) (q:wSs cx a δ Q):wS cx (.ifs c a b) δ Q:=BC (δ0:=δ) (fun k=>k = true) (let ⟨k,δ1,e,p⟩:=h;⟨k,δ1,e,p.2,p.1⟩) (fun _=>q) fun z=>by cases z
noncomputable def subs:T->List T
 | .close=>[.close]
 | .cut l r=>.cut l r::(subs l++subs r)
theorem jg:∀ t:T,(subs t).length = nd t
 | .close=>rfl
 | .cut l r=>by simp only [subs,nd,ax,au,jg l,jg r]
noncomputable def nc:T->Bool
 | .close=>false
 | _=>true
theorem mK:∀ t:T,((subs t).filter nc).length = cu t
 | .close=>rfl
 | .cut l r=>by
   have h1:=mK l;have h2:=mK r;rw [subs,vB rfl,ax,List.filter_append,au,h1,h2,cu]
theorem yD (n:Nat):PP.run Gs gls (n+1) 3 [CL] = some (.tup []):=by kernel_rfl
section
variable {A:F} (hA:sz A<=61)
include hA
theorem rQ (n:Nat) (l r:T) (hh:ht (.cut l r)<=1000):PP.run Gs gls (n+1) 3 [bH A (.cut l r)] = some (.tup [bH A l,bH A r]):=by
 apply bx;refine bh dz rfl rfl rfl ?_;simp only [dz,init,SI,Nat.reduceAdd,Nat.reduceSub];simp only [↓tL,↓WS,WI,↓reduceIte];refine isC hA hh ?_;simp only [EF,bH,↓WS,WI,↓reduceIte];exact ⟨_,rfl,rfl⟩
theorem kA:∀ (t:T) (n:Nat),ht t<=500->nd t<=1000->ht t+1<=n->PP.run Gs gls n 8 [bH A t] = some (.lst ((subs t).map (bH A)))
 | .close,n+1,hh,hd,hn=>by
   obtain ⟨m,rfl⟩:∃ m,n = m+1:=⟨n - 1,by simp only [ht] at hn;lia⟩;have w:PP.run Gs gls (m+1) 3 [bH A .close] = some (.tup []):=yD m;apply bx;refine bh br rfl rfl rfl ?_;simp only [br,init,SI,Nat.reduceAdd,Nat.reduceSub];simp only [ax,aH,↓aJ w,↓jc,↓WS,WI,↓reduceIte]
   exact ⟨by decide,rfl⟩
 | .cut t1 t2,n+1,hh,hd,hn=>by
   simp only [ht] at hh hn;simp only [nd] at hd;obtain ⟨m,rfl⟩:∃ m,n = m+1:=⟨n - 1,by lia⟩;have w:=rQ hA m t1 t2 (by simp only [ht];lia);have w1:=kA t1 (m+1) (by lia) (by lia) (by lia);have w2:=kA t2 (m+1) (by lia) (by lia) (by lia);have ss:=s64;apply bx;refine bh br rfl rfl rfl ?_;simp only [br,init,SI,Nat.reduceAdd,Nat.reduceSub];simp only [ax,aH,↓aJ w,↓aJ w1,↓aJ w2,↓jA,↓jc,↓WS,WI,↓reduceIte];have l1:=jg t1;have l2:=jg t2;refine ⟨by decide,by simp only [aq];lia,by simp only [aq,ax,aH,au];lia,?_⟩
   simp only [subs,aX,bT,FT,pE]
 | t,0,_,_,hn=>by lia
theorem Hr (t:T) (n:Nat) (hh:ht t<=500) (hd:nd t<=1000) (hn:ht t+1<=n):PP.run Gs gls (n+1) 9 [bH A t] = some (.int (nd t)):=by
 have w:=kA hA t n hh hd hn;apply bx;refine bh fc rfl rfl rfl ?_;simp only [fc,init,SI,Nat.reduceAdd,Nat.reduceSub];simp only [↓aJ w,aq,jg,↓WS,WI,↓reduceIte]
theorem lg (t:T) (n:Nat) (hh:ht t<=500) (hd:nd t<=1000) (hn:ht t+1<=n):PP.run Gs gls (n+2) 12 [bH A t] = some (.int (cu t)):=by
 have w:=kA hA t n hh hd hn;have ss:=s64
 have w2:PP.run Gs gls (n+1) 11 [bH A t] = some (.lst (((subs t).filter nc).map (bH A))):=by
  apply bx;refine bh bR rfl rfl rfl ?_;simp only [bR,init,SI,Nat.reduceAdd,Nat.reduceSub];simp only [↓aJ w,↓WS,WI,↓reduceIte];refine jB (bH A) nc (bH A) (subs t) (fun u hu=>?_) ⟨?_,rfl⟩
  . cases u with
    | close =>
      simp only [bH,SI,↓WS,WI,↓reduceIte];rw [show (("close":Str) == "cut") = false by decide +kernel]
      exact ⟨rfl,rfl⟩
    | cut l r =>
      simp only [bH,SI,↓WS,WI,↓reduceIte];rw [show (("cut":Str) == "cut") = true by decide +kernel];exact ⟨rfl,trivial,rfl⟩
  . rw [aq,mK];have:=jT t
    lia
 apply bx;refine bh gc rfl rfl rfl ?_;simp only [gc,init,SI,Nat.reduceAdd,Nat.reduceSub];simp only [↓aJ w2,aq,mK,↓WS,WI,↓reduceIte]
theorem nU:∀ (t:T) (n:Nat),ht t<=500->ht t+1<=n->PP.run Gs gls n 10 [bH A t] = some (.int (ht t))
 | .close,n+1,hh,hn=>by
   obtain ⟨m,rfl⟩:∃ m,n = m+1:=⟨n - 1,by simp only [ht] at hn;lia⟩;have w:PP.run Gs gls (m+1) 3 [bH A .close] = some (.tup []):=yD m;apply bx;refine bh dC rfl rfl rfl ?_;simp only [dC,init,SI,Nat.reduceAdd,Nat.reduceSub];simp only [↓aJ w,↓gu,↓WS,WI,↓reduceIte]
   exact ⟨by decide,_,_,rfl,rfl,rfl⟩
 | .cut t1 t2,n+1,hh,hn=>by
   simp only [ht] at hh hn;obtain ⟨m,rfl⟩:∃ m,n = m+1:=⟨n - 1,by lia⟩;have w:=rQ hA m t1 t2 (by simp only [ht];lia);have w1:=nU t1 (m+1) (by lia) (by lia);have w2:=nU t2 (m+1) (by lia) (by lia);apply bx;refine bh dC rfl rfl rfl ?_;simp only [dC,init,SI,Nat.reduceAdd,Nat.reduceSub];simp only [↓aJ w,↓gz,↓gu,SI,List.take,Nat.reduceAdd,↓aJ w1,↓aJ w2,↓WS,WI,↓reduceIte];refine ⟨by decide,_,_,rfl,rfl,?_⟩
   have e:nA [(ht t1:Int),(ht t2:Int)] = ((max (ht t1) (ht t2):Nat):Int):=by
    unfold nA;simp only [List.foldl];split<;>lia
   rw [if_neg (by simp),e];simp only [ht];congr 1
   lia
 | t,0,_,hn=>by lia
end
noncomputable def okr (W:F) (row:List It):Prop:=low row/\(true,W)∈row/\(false,W)∈row
theorem DZ {W:F} {row:List It} (h:okr W row):cl row = true:=(Ml h.1).mpr (.inr (.inr ⟨W,h.2.1,h.2.2⟩))
theorem mQ {W A:F} {row:List It} (hA:sz A<=61) (b:Bool) (h:okr W row):okr W (mo (row++[(b,A)])):=⟨LG (h.1.app (.one hA)),wL.mpr (aU _ h.2.1),wL.mpr (aU _ h.2.2)⟩
theorem Ik {row:List It} {p:It} {k m:Nat} (h:row.length+k+1<=m):(mo (row++[p])).length+k<=m:=by
 have:=LH (row++[p]);rw [au,bL] at this
 lia
theorem Hu (n:Nat) (A:F) (l r:T):PP.run Gs gls (n+1) 5 [bH A (.cut l r)] = some (.lst [.lst [itD (false,A)],.lst [itD (true,A)]]):=by kernel_rfl
noncomputable def up (row:List It) (b:Bool) (A:F):D:=.tup ((mo (row++[(b,A)])).map itD)
theorem kr {a b:Int} {Q:Bool->Prop}:iR .ne (.int a) (.int b) Q↔Q (!(a == b)):=yr
section
variable {A:F} (hA:sz A<=61)
include hA
theorem xU (n:Nat) (row:List It) (l r:T) (h:low row) (hl:row.length<=62):PP.run Gs gls (n+3) 6 [.tup (row.map itD),bH A (.cut l r)] = some (.lst [up row false A,up row true A]):=by
 have w1:=Dl n row [(false,A)] _ (.inl rfl) (h.app (.one hA)) (by simp only [ax,aH];lia);have w2:=Dl n row [(true,A)] _ (.inl rfl) (h.app (.one hA)) (by simp only [ax,aH];lia);have w3:=Hu (n+1) A l r;apply bx;refine bh bZ rfl rfl rfl ?_;simp only [bZ,init,SI,Nat.reduceAdd,Nat.reduceSub];simp only [↓aJ w3,↓gz,↓gu,SI,List.take,Nat.reduceAdd,↓WS,WI,↓reduceIte];exact (aJ w1).mpr ((aJ w2).mpr ⟨by decide,rfl⟩)
theorem rR {W:F}:∀ (t:T) (row:List It) (n:Nat),okr W row->ht t+5<=n->ht t<=60->row.length+ht t<=63->PP.run Gs gls n 7 [.tup (row.map itD),bH A t] = some (.bl true)
 | .close,row,n+1,h,hn,h6,hl=>by
   obtain ⟨m,rfl⟩:∃ m,n = m+1:=⟨n - 1,by simp only [ht] at hn;lia⟩;have w:=ur m row h.1 (by simp only [ht] at hl;lia);rw [DZ h] at w;apply bx;refine bh fH rfl rfl rfl ?_;simp only [fH,init,SI,Nat.reduceAdd,Nat.reduceSub];refine eT.mpr (sF ?_ ?_)
   . simp only [↓tL,↓WS,WI,↓reduceIte];exact isC hA (by decide) (by simp [EF])
   . simp only [↓aJ w,↓WS,WI,↓reduceIte]
 | .cut t1 t2,row,n+1,h,hn,h6,hl=>by
   simp only [ht] at hn hl h6;obtain ⟨m,rfl⟩:∃ m,n = m+3:=⟨n - 3,by lia⟩;have f1:=rR t1 (mo (row++[(false,A)])) (m+3) (mQ hA _ h) (by lia) (by lia) (by have:=Ik (row:=row) (p:=(false,A)) (k:=ht t1) (m:=63) (by lia);lia);have f2:=rR t2 (mo (row++[(true,A)])) (m+3) (mQ hA _ h) (by lia) (by lia) (by have:=Ik (row:=row) (p:=(true,A)) (k:=ht t2) (m:=63) (by lia);lia);have w2:=xU hA m row t1 t2 h.1 (by lia);have w3:=rQ hA (m+2) t1 t2 (by simp only [ht];lia);apply bx;refine bh fH rfl rfl rfl ?_;simp only [fH,init,SI,Nat.reduceAdd,Nat.reduceSub];refine eT.mpr (wU ?_ (iE.mpr (jf.mpr ?_)))
   . simp only [↓tL,↓WS,WI,↓reduceIte];exact isC hA (by simp only [ht];lia) (by simp [EF])
   refine eT.mpr (wU ?_ (iE.mpr (jf.mpr ?_)))
   . simp only [bH,↓WS,WI,↓reduceIte];rw [if_neg (by decide +kernel)];exact ⟨trivial,trivial⟩
   simp only [↓aJ w2,↓aJ w3,↓Gj,↓kr,↓WS,WI,↓reduceIte];rw [if_neg (by simp),if_neg (by simp)];refine ⟨_,_,_,_,rfl,rfl,rfl,?_⟩;show pG _ _ _ [D.tup [D.tup ((mo (row++[(false,A)])).map itD),bH A t1],D.tup [D.tup ((mo (row++[(true,A)])).map itD),bH A t2]] _ _
   simp only [↓jA,↓jc,↓aJ f1,↓aJ f2,bK,↓WS,WI,↓reduceIte]
 | t,row,0,_,hn,_,_=>by lia
theorem Ht {W:F} (n:Nat) (row:List It) (l r:T) (h:okr W row) (hl:row.length<=1000):PP.run Gs gls (n+2) 13 [.tup (row.map itD),bH A (.cut l r)] = some CL:=by
 have w:=ur n row h.1 hl;rw [DZ h] at w;apply bx;refine bh cE rfl rfl rfl ?_;simp only [cE,init,SI,Nat.reduceAdd,Nat.reduceSub];refine xB 1 [.val (.tup (row.map itD)),.val (bH A (.cut l r)),.val (enc A),.val (bH A l),.val (bH A r)] (by kernel_rfl) ?_;refine eT.mpr (sF ?_ ?_)
 . simp only [↓aJ w,↓WS,WI,↓reduceIte];exact ⟨trivial,trivial⟩
 . simp only [↓tL,↓WS,WI,↓reduceIte];rfl
end
noncomputable def stp:T->T
 | .close=>.close
 | .cut l r=>if cu l+cu r = 0 then .close else if cu l = 0 then .cut l (stp r) else .cut (stp l) r
theorem Cy (l r:T):stp (.cut l r) = if cu l+cu r = 0 then .close else if cu l = 0 then .cut l (stp r) else .cut (stp l) r:=by rw [stp]
theorem gX:∀ t:T,cu t≠0->cu (stp t)+1 = cu t
 | .close,h=>absurd rfl h
 | .cut l r,_=>by
   unfold stp;split
   . rename_i e;simp only [cu];lia
   . split
     . rename_i e1 e2;have:=gX r (by lia);simp only [cu];lia
     . rename_i e1 e2;have:=gX l e2;simp only [cu];lia
theorem kW:∀ t:T,ht (stp t)<=ht t
 | .close=>av _
 | .cut l r=>by
   have h1:=kW l;have h2:=kW r;unfold stp;split
   . simp only [ht];lia
   . split<;>(simp only [ht];lia)
section
variable {A:F} (hA:sz A<=61)
include hA
theorem xS (n:Nat) (l r:T) (x y:D) (hh:ht (.cut l r)<=1000):PP.run Gs gls (n+1) 4 [bH A (.cut l r),.lst [x,y]] = some (.tup [.str "cut",enc A,.tup [x,y]]):=by
 apply bx;refine bh cD rfl rfl rfl ?_;simp only [cD,init,SI,Nat.reduceAdd,Nat.reduceSub];simp only [↓tL,↓WS,WI,↓reduceIte];refine isC hA hh ?_;simp only [EF,bH,↓WS,WI,↓reduceIte];exact ⟨.tup [.str "cut",enc A],by kernel_rfl,(by show 1<=sizeLine;decide),_,by kernel_rfl,rfl⟩
theorem wy {W:F}:∀ (t:T) (row:List It) (n:Nat),okr W row->cu t≠0->ht t+6<=n->ht t<=60->nd t<=1000->row.length+ht t<=63->PP.run Gs gls n 14 [.tup (row.map itD),bH A t] = some (bH A (stp t))
 | .close,row,n,h,c,hn,h6,hd,hl=>absurd rfl c
 | .cut l r,row,n+1,h,c,hn,h6,hd,hl=>by
   simp only [ht] at hn hl h6;simp only [nd] at hd;have nl:=jT l;have nr:=jT r;obtain ⟨m,rfl⟩:∃ m,n = m+3:=⟨n - 3,by lia⟩;have w0:=lg hA (.cut l r) (m+1) (by simp only [ht];lia) (by simp only [nd];lia) (by simp only [ht];lia);apply bx;refine bh dy rfl rfl rfl ?_;simp only [dy,init,SI,Nat.reduceAdd,Nat.reduceSub];by_cases z:cu l+cu r = 0
   . have w1:=Ht hA (m+1) row l r h (by lia);refine eT.mpr (sF ?_ ?_)
     . simp only [bH,↓WS,WI,↓reduceIte];rw [if_pos (by decide +kernel)];refine (aJ w0).mpr ?_;simp only [cu,↓WS,WI,↓reduceIte];exact ⟨decide_eq_true (by lia),trivial⟩
     . simp only [↓aJ w1,↓WS,WI,↓reduceIte];rw [Cy,if_pos z];rfl
   . have w1:=rQ hA (m+2) l r (by simp only [ht];lia);have wl:=lg hA l (m+1) (by lia) (by lia) (by lia);have wr:=lg hA r (m+1) (by lia) (by lia) (by lia);have wa:=xU hA m row l r h.1 (by lia);refine eT.mpr (wU ?_ (iE.mpr (jf.mpr ?_)))
     . simp only [bH,↓WS,WI,↓reduceIte];rw [if_pos (by decide +kernel)];refine (aJ w0).mpr ?_;simp only [cu,↓WS,WI,↓reduceIte];exact ⟨decide_eq_false (by lia),trivial⟩
     simp only [↓aJ w1,↓tJ,↓WS,WI,↓reduceIte];have at0:∀ x y:D,atI [x,y] (0:Int) = some x:=fun x y=>by kernel_rfl
     have at1:∀ x y:D,atI [x,y] (1:Int) = some y:=fun x y=>by kernel_rfl
     refine lI (n:=999).mpr ?_;simp only [↓WS,WI,↓reduceIte];refine ⟨_,at0 _ _,(aJ wl).mpr ?_⟩;by_cases zl:cu l = 0
     . have ih:=wy r (mo (row++[(true,A)])) (m+3) (mQ hA _ h) (by lia) (by lia) (by lia) (by lia) (by have:=Ik (row:=row) (p:=(true,A)) (k:=ht r) (m:=63) (by lia);lia);have wk:=xS hA (m+2) l r (bH A l) (bH A (stp r)) (by simp only [ht];lia);simp only [↓WS,WI,↓reduceIte];rw [if_pos (by lia)];refine lI (n:=998).mpr ?_;simp only [↓WS,WI,↓reduceIte];refine ⟨_,at1 _ _,(aJ wr).mpr ?_⟩;simp only [↓WS,WI,↓reduceIte];rw [if_neg (by lia)];simp only [↓aJ wa,↓WS,WI,↓reduceIte];refine ⟨_,at1 _ _,_,at1 _ _,(aJ ih).mpr ?_⟩;refine ⟨1,1,rfl,rfl,(aJ wk).mpr ?_⟩;rw [Cy,if_neg z,if_pos zl];rfl
     . have ih:=wy l (mo (row++[(false,A)])) (m+3) (mQ hA _ h) zl (by lia) (by lia) (by lia) (by have:=Ik (row:=row) (p:=(false,A)) (k:=ht l) (m:=63) (by lia);lia);have wk:=xS hA (m+2) l r (bH A (stp l)) (bH A r) (by simp only [ht];lia);simp only [↓WS,WI,↓reduceIte];rw [if_neg (by lia)];simp only [↓aJ wa,↓WS,WI,↓reduceIte];refine ⟨_,at0 _ _,_,at0 _ _,(aJ ih).mpr ?_⟩;refine ⟨0,0,rfl,rfl,(aJ wk).mpr ?_⟩;rw [Cy,if_neg z,if_neg zl]
       rfl
 | t,row,0,_,_,hn,_,_,_=>by lia
theorem Hs (t:T) (n:Nat) (hh:ht t<=40) (hd:nd t<=600) (hn:ht t+1<=n):PP.run Gs gls (n+2) 15 [bH A t] = some (.bl false):=by
 have w1:=Hr hA t n (by lia) (by lia) hn;have w2:=nU hA t (n+1) (by lia) (by lia);apply bx;refine bh bE rfl rfl rfl ?_;simp only [bE,init,SI,Nat.reduceAdd,Nat.reduceSub];simp only [↓aJ w1,↓aJ w2,↓Na,↓MZ,↓WS,WI,↓reduceIte];rw [if_neg (by lia)];simp only [decide_eq_false (show ¬ ((40:Int) < (ht t:Int)) by lia)]
theorem xT {W:F} (t:T) (row:List It) (n:Nat) (h:okr W row) (c:cu t≠0) (hn:ht t+6<=n) (h6:ht t<=20) (hd:nd t<=600) (hl:row.length+ht t<=63):PP.run Gs gls (n+1) 16 [.tup (row.map itD),bH A t] = some (bH A (stp t)):=by
 have w1:=wy hA t row n h c hn (by lia) (by lia) hl;have hs:=kW t;have c1:=jT t;have c2:=jT (stp t);have c3:=gX t c;obtain ⟨m,rfl⟩:∃ m,n = m+2:=⟨n - 2,by lia⟩;have w2:=Hs hA (stp t) m (by lia) (by lia) (by lia);apply bx;refine bh bF rfl rfl rfl ?_;simp only [bF,init,SI,Nat.reduceAdd,Nat.reduceSub];simp only [↓aJ w1,↓aJ w2,↓WS,WI,↓reduceIte]
end
noncomputable def trs:Nat->T->List T
 | 0,_=>[]
 | k+1,t=>stp t::trs k (stp t)
theorem xD:∀ (k:Nat) (t:T),(trs k t).length = k
 | 0,_=>rfl
 | k+1,t=>by rw [trs,ax,xD k]
noncomputable def cT:E:=(.cmp .gt (.call 12 (.cons (.var 3) .nil)) (.int 0))
noncomputable def cB:Rs:=(.cons (.ifs (.cmp .eq (.blt .len (.cons (.pk 2) .nil)) (.glob 3))
 (.cons (.rse "TooGreat")
 .nil)
 .nil)
 (.cons (.st (.asg (.nm 3) (.call 16 (.cons (.var 0) (.cons (.var 3) .nil)))))
 (.cons (.st (.append 2 (.var 3)))
 .nil)))
noncomputable def okt (t:T):Prop:=ht t<=20/\nd t<=600
theorem yo {t:T} (c:cu t≠0) (h:okt t):okt (stp t):=by
 have:=kW t;have:=gX t c;have:=jT t;have:=jT (stp t);obtain ⟨h1,h2⟩:=h;exact ⟨by lia,by lia⟩
section
variable {A W:F} (hA:sz A<=61) {row:List It} (h:okr W row) (hl:row.length<=43) (d0:D) (n:Nat)
include hA h hl
theorem yv {Q:OR->Prop}:∀ (k:Nat) (t:T) (acc:List T) (m:Nat),cu t = k->acc.length+k<=100->k < m->okt t->(∀ s,Q (.inl (.nx [.val (.tup (row.map itD)),.val d0,.own ((acc++trs k t).map (bH A)),s]))) ->
 vK ⟨PP.run Gs gls (n+30),gls,hfs Gs⟩ cT cB m [.val (.tup (row.map itD)),.val d0,.own (acc.map (bH A)),.val (bH A t)] Q
 | 0,t,acc,m+1,hc,_,_,ho,q=>by
   have w:=lg hA t (n+28) (by have:=ho.1;lia) (by have:=ho.2;lia) (by have:=ho.1;lia);refine kR.mpr ?_;unfold cT;simp only [↓aJ w,↓WS,WI,↓reduceIte];rw [if_neg (by lia)];have:=q (.val (bH A t));rw [trs,cc] at this
   exact this
 | k+1,t,acc,m+1,hc,h100,hm,ho,q=>by
   have c:cu t≠0:=by lia
   have w:=lg hA t (n+28) (by have:=ho.1;lia) (by have:=ho.2;lia) (by have:=ho.1;lia);have wb:=xT hA t row (n+29) h c (by have:=ho.1;lia) ho.1 ho.2 (by have:=ho.1;lia);have ss:=s64;have ih:=yv (Q:=Q) k (stp t) (acc++[stp t]) m (by have:=gX t c;lia) (by rw [au,bL];lia) (by lia) (yo c ho) (fun s=>by rw [lW];exact q s);rw [bT] at ih;refine kR.mpr ?_;unfold cT;simp only [↓aJ w,↓WS,WI,↓reduceIte];rw [if_pos (by lia)];unfold cB;simp only [↓eJ,↓jz,↓vM,↓qd,↓BH,↓ic,↓uO,↓Jg,↓aJ wb,aq,↓WS,WI,↓reduceIte];rw [if_neg (by lia)]
   exact ⟨by lia,ih⟩
 | _,_,_,0,_,_,hm,_,_=>by lia
theorem Ei {Q:OR->Prop}:∀ (k:Nat) (t:T) (acc:List T) (m:Nat),cu t = k->100 < acc.length+k->acc.length<=100->k < m->okt t->(∀ δ,Q (.inr ("TooGreat",δ))) ->
 vK ⟨PP.run Gs gls (n+30),gls,hfs Gs⟩ cT cB m [.val (.tup (row.map itD)),.val d0,.own (acc.map (bH A)),.val (bH A t)] Q
 | 0,t,acc,m,hc,h1,h2,_,_,_=>by lia
 | k+1,t,acc,m+1,hc,h1,h2,hm,ho,q=>by
   have c:cu t≠0:=by lia
   have w:=lg hA t (n+28) (by have:=ho.1;lia) (by have:=ho.2;lia) (by have:=ho.1;lia);have wb:=xT hA t row (n+29) h c (by have:=ho.1;lia) ho.1 ho.2 (by have:=ho.1;lia);have ss:=s64;refine kR.mpr ?_;unfold cT;simp only [↓aJ w,↓WS,WI,↓reduceIte];rw [if_pos (by lia)];unfold cB;simp only [↓eJ,↓jz,↓vM,↓qd,↓BH,↓ic,↓mI,↓uO,↓Ih,↓Jg,↓aJ wb,aq,↓WS,WI,↓reduceIte];refine uT (fun e=>q _) fun e=>⟨by lia,?_⟩;have ih:=Ei (Q:=Q) k (stp t) (acc++[stp t]) m (by have:=gX t c;lia) (by rw [au,bL];lia) (by rw [au,bL];lia) (by lia) (yo c ho) q;rw [bT] at ih
   exact ih
 | _,_,_,0,_,_,_,hm,_,_=>by lia
theorem Fm (t:T) (ho:okt t) (hc:cu t<=100):wRs ⟨PP.run Gs gls (n+30),gls,hfs Gs⟩ fi [.val (.tup (row.map itD)),.val (bH A t),.no,.no] fun r=>∃ δ,r = .inl (.rt (.lst ((trs (cu t) t).map (bH A))) δ):=by
 have wf:=rR hA t row (n+30) h (by have:=ho.1;lia) (by have:=ho.1;lia) (by have:=ho.1;lia);unfold fi;simp only [↓eJ,↓jz,↓BG,↓qd,↓ic,↓aJ wf,↓WS,WI,↓reduceIte,bK];refine ⟨by decide,yv hA h hl (bH A t) n (cu t) t [] 1000 rfl (by simpa using hc) (by lia) ho fun s=>?_⟩;simp only [↓ic,↓eJ,↓jz,↓qd,↓tW,↓WS,WI,↓reduceIte];exact ⟨_,rfl⟩
theorem jR (t:T) (ho:okt t) (hc:cu t<=100):PP.run Gs gls (n+31) 17 [.tup (row.map itD),bH A t] = some (.lst ((trs (cu t) t).map (bH A))):=by
 apply bx;refine bh cZ rfl rfl rfl ?_;simp only [cZ,init,SI,Nat.reduceAdd,Nat.reduceSub];refine Jf ?_;obtain ⟨r,e,δ,rfl⟩:=Fm hA h hl n t ho hc;exact ⟨_,e,_,rfl,rfl⟩
theorem pL (t:T) (ho:okt t) (hc:cu t<=100):PP.run Gs gls (n+31) 28 [.tup (row.map itD),bH A t] = none:=by
 refine JI gy rfl rfl rfl ?_;obtain ⟨r,e,δ,rfl⟩:=Fm hA h hl n t ho hc;exact ⟨_,e,_,rfl⟩
theorem kB (t:T) (ho:okt t) (hc:100 < cu t) (h2:cu t<=900):PP.run Gs gls (n+31) 28 [.tup (row.map itD),bH A t] = some (.str "TooGreat"):=by
 have wf:=rR hA t row (n+30) h (by have:=ho.1;lia) (by have:=ho.1;lia) (by have:=ho.1;lia);apply bx;refine bh gy rfl rfl rfl ?_;simp only [gy,init,SI,Nat.reduceAdd,Nat.reduceSub];refine Je ?_;unfold fi;simp only [↓eJ,↓jz,↓BG,↓qd,↓ic,↓aJ wf,↓WS,WI,↓reduceIte,bK];refine ⟨by decide,Ei hA h hl (bH A t) n (cu t) t [] 1000 rfl (by simpa using hc) (by simp) (by lia) ho fun δ=>?_⟩;exact ⟨_,_,rfl,rfl⟩
theorem uu (t:T) (ho:okt t) (hc:100 < cu t) (h2:cu t<=900):PP.run Gs gls (n+32) 29 [.tup (row.map itD),bH A t] = some (.str "TooGreat"):=by
 have w:=kB hA h hl n t ho hc h2;apply bx;refine bh jy rfl rfl rfl ?_;simp only [jy,init,SI,Nat.reduceAdd,Nat.reduceSub];refine Je ?_;unfold gv;refine eJ.mpr (qX ?_);simp only [↓mI,↓WS,WI,↓reduceIte];exact ⟨_,w,_,_,rfl,rfl⟩
end
theorem nz:∀ (k:Nat) (t:T),cu t = k+1->(trs (k+1) t).getLast? = some .close
 | 0,t,h=>by
   have c:=gX t (by lia)
   have:stp t = .close:=by
    cases e:stp t with
    | close=>rfl
    | cut l r=>rw [e] at c;simp only [cu] at c;lia
   show (stp t::trs 0 (stp t)).getLast? = _;rw [this]
   rfl
 | k+1,t,h=>by
   have c:=gX t (by lia);have ih:=nz k (stp t) (by lia);rw [trs,List.getLast?_cons];rw [ih];rfl
theorem cu0 {t:T} (h:cu t = 0):t = .close:=by
 cases t with
 | close=>rfl
 | cut l r=>simp only [cu] at h;lia
theorem xE:∀ (k:Nat) (t:T) (i:Nat),cu t = k->i < k->∃ u,(trs k t)[i]? = some u/\cu u+i+1 = k/\ht u<=ht t
 | 0,t,i,h,hi=>by lia
 | k+1,t,0,h,hi=>⟨stp t,rfl,by have:=gX t (by lia);lia,kW t⟩
 | k+1,t,i+1,h,hi=>by
   have c:=gX t (by lia);obtain ⟨u,e,h1,h2⟩:=xE k (stp t) i (by lia) (by lia);exact ⟨u,e,by lia,by have:=kW t;lia⟩
theorem uR {xs:List D} {d:D} (h:xs.getLast? = some d):atI xs (-1) = some d:=by
 obtain ⟨ys,rfl⟩:=List.getLast?_eq_some_iff.mp h;exact yB
section
variable {A W:F} (hA:sz A<=61) {row:List It} (h:okr W row) (hl:row.length<=43) (n:Nat)
include hA h hl
theorem rS (t:T) (ho:okt t) (hc:cu t<=100):PP.run Gs gls (n+32) 18 [.tup (row.map itD),bH A t] = some CL:=by
 have w:=jR hA h hl n t ho hc;have w2:=pL hA h hl n t ho hc;apply bx;refine bh dA rfl rfl rfl ?_;simp only [dA,init,SI,Nat.reduceAdd,Nat.reduceSub];refine Jf ?_;unfold gv;refine eJ.mpr (Gq ?_ ?_)
 . simp only [↓WS,WI,↓reduceIte];exact w2
 . simp only [↓aJ w,↓ic,↓eJ,↓jz,↓qd,↓tW,↓WS,WI,↓reduceIte]
   cases e:cu t with
   | zero =>
     rw [cu0 e];simp only [trs,lV,iP,bK,↓WS,WI,↓reduceIte]
     exact ⟨_,rfl,rfl⟩
   | succ k =>
     have ne:(!(List.map (bH A) (trs (k+1) t)).isEmpty) = true:=rfl;simp only [ne,↓WS,WI,↓reduceIte];exact ⟨_,uR (by rw [FN,nz k t e];rfl),_,rfl,rfl⟩
end
theorem nW (n:Nat) (ns:List Int) (k:Int) (h0:0<=k) (h1:k<=1000):jb Gs gls (n+1) 19 [.lst (ns.map .int),.int k] fun d=>∃ c:Int,d = .int c:=by
 refine bh cI rfl rfl rfl ?_;simp only [cI,init,SI,Nat.reduceAdd,Nat.reduceSub];simp only [↓WS,WI,↓reduceIte];have hl:(ns.map D.int).length = ns.length:=aq _;rw [hl];split
 . rename_i h;obtain ⟨d,hm,e⟩:=Fq (ds:=ns.map D.int) h0 (by rw [hl];exact h);obtain ⟨c,_,rfl⟩:=aP.mp hm;exact ⟨_,e,c,rfl⟩
 . refine ⟨mul_r (by decide) (by decide),?_⟩;split
   . rename_i h;obtain ⟨d,hm,e⟩:=Fq (ds:=ns.map D.int) (j:=k * 7 % (ns.length:Int)) (bV _ (by lia)) (by rw [hl];exact bz _ h);obtain ⟨c,_,rfl⟩:=aP.mp hm;refine ⟨mul_r (by decide) (by decide),h,_,e,?_⟩;simp only [↓WS,WI,↓reduceIte];have a1:=bV (c * 48271) (show (2147483647:Int)≠0 by decide);have a2:=bz (c * 48271) (show (0:Int) < 2147483647 by decide);exact ⟨mul_r (by decide) (by decide),by decide,mul_r (by decide) (by decide),mul_r (by lia) (by lia),by decide,_,rfl⟩
   . exact ⟨mul_r (by lia) (by lia),by decide,_,rfl⟩
theorem rO (x:Str) (n:Nat):(Al x n).length = n * x.length:=by
 show ((List.replicate n x.cps.toList).flatten.toArray).size = n * x.cps.size;simp
theorem IU (x y:Str):(x++y).length = x.length+y.length:=by
 show (x.cps++y.cps).size = _;rw [Array.size_append];rfl
theorem wx (n:Nat) (c:Int) (f:Str) (hf:f.length = 1) (k:Int) (h0:0<=k) (h1:k<=2):jb Gs gls (n+1) 20 [.int c,.str f,.int k] fun d=>∃ w:Str,d = .str w:=by
 refine bh cF rfl rfl rfl ?_;simp only [cF,init,SI,Nat.reduceAdd,Nat.reduceSub];have a1:=bV c (show (8:Int)≠0 by decide);have a2:=bz c (show (0:Int) < 8 by decide);have b1:=bV (c / 8) (show 1+c % 8≠0 by lia);have b2:=bz (c / 8) (show 0 < 1+c % 8 by lia);simp only [↓WS,WI,↓reduceIte];obtain ⟨x,_,ex⟩:=Fq (ds:=(("bdghjk":Str).cps.toList)) (j:=k) h0 (by show k < 6;lia);have ss:=s64;refine ⟨by decide,by decide,by lia,⟨by lia,by lia,by lia⟩,by decide,x,ex,?_,⟨by lia,by lia,by lia⟩,?_,_,rfl⟩
 . rw [rO,hf];show _+1<=_;lia
 . rw [IU,rO,rO,hf];show _+1+_<=_;lia
theorem Dm (n:Nat) (c f:Int) (x y:Str):jb Gs gls (n+2) 21 [.int c,.int f,.lst [.str x,.str y]] fun d=>∃ (w:Str) (ts:List Str),d = enc (.word w ts):=by
 refine bh cH rfl rfl rfl ?_;simp only [cH,init,SI,Nat.reduceAdd,Nat.reduceSub];have a1:=bV (c / 5) (show (4:Int)≠0 by decide);have a2:=bz (c / 5) (show (0:Int) < 4 by decide);simp only [ax,aH,↓WS,WI,↓reduceIte];refine ⟨by decide,by decide,by decide,⟨by lia,by lia⟩,?_⟩;refine jd (fun xs δ=>∃ (ts:List Str) (s:Sl),δ = [.val (.int c),.val (.int f),.val (.lst [.str x,.str y]),.own (ts.map .str),s]/\ts.length+xs.length<=10/\∀ z∈xs,∃ i:Nat,i < 10/\z = .int i) ?_ ?_ _ _ ⟨[],_,rfl,by rw [xP];simp only [aH];lia,fun z hz=>?_⟩
 . rintro z xs δ ⟨ts,s,rfl,hl,hz⟩;obtain ⟨i,hi,rfl⟩:=hz z ao;rw [ax] at hl;have ss:=s64;simp only [ax,aH,↓WS,WI,↓reduceIte];have e1:=bV (c / (7+4 * (i:Int))) (show (2:Int)≠0 by decide);have e2:=bz (c / (7+4 * (i:Int))) (show (0:Int) < 2 by decide)
   have at2:∃ t:Str,atI [D.str x,D.str y] (c / (7+4 * (i:Int)) % 2) = some (.str t):=by
    rcases (show c / (7+4 * (i:Int)) % 2 = 0\/c / (7+4 * (i:Int)) % 2 = 1 by lia) with e | e
    . exact ⟨x,by rw [e];kernel_rfl⟩
    . exact ⟨y,by rw [e];kernel_rfl⟩
   obtain ⟨t,et⟩:=at2;exact ⟨mul_r (by lia) (by lia),⟨by lia,by lia⟩,by decide,_,et,by rw [aq];lia,ts++[t],_,by rw [bT];rfl,by rw [au,bL];lia,fun z q=>hz z (ak _ q)⟩
 . rintro δ ⟨ts,s,rfl,_,_⟩;simp only [ax,aH,↓WS,WI,↓reduceIte];have e1:=bV c (show (3:Int)≠0 by decide);have e2:=bz c (show (0:Int) < 3 by decide);refine ⟨by decide,fo (wx n f "q" (by decide +kernel) (c % 3) e1 (by lia)) ?_⟩;rintro _ ⟨w,rfl⟩;exact ⟨by decide,w,ts,rfl⟩
 . obtain ⟨i,hi,rfl⟩:=rN hz;exact ⟨i,by lia,by simp⟩
theorem Gy {cx:Cl} {δ:PP.Loc} {a:E} {Q:D->PP.Loc->Prop}:wE cx (.ssd a) δ Q↔wE cx a δ fun x δ1=>∃ ds,x = .lst ds/\(ds.all hok && sortable (iS ds) && tot (iS ds)) = true/\Q (.lst (eU (iS ds))) δ1:=xb.trans (xc fun x _=>by
 cases x with
 | lst k=>refine Iff.trans ?_ uW.symm;exact xi
 | _=>exact xn fun ⟨_,e,_⟩=>by cases e)
noncomputable def Ak (l:List It):Prop:=∀ p∈l,hF p.2<=3/\sz p.2<=61
theorem Ak.low {l:List It} (h:Ak l):low l:=fun p hp=>(h p hp).2
theorem yq {l:List It}:∀ {xs:List D},(∀ x∈xs,x∈l.map itD)->∃ l':List It,xs = l'.map itD/\∀ p∈l',p∈l
 | [],_=>⟨[],rfl,fun _ h=>by cases h⟩
 | x::xs,h=>by
   obtain ⟨p,hp,rfl⟩:=aP.mp (h x ao);obtain ⟨l',rfl,h'⟩:=yq (xs:=xs) fun y hy=>h y (ak _ hy)
   exact ⟨p::l',rfl,fun q hq=>by
    rcases aD.mp hq with rfl | hq
    . exact hp
    . exact h' q hq⟩
theorem Io {p q:It} (h:itD p = itD q) (hq:sz q.2<=61):p = q:=EU (by rw [h];exact eq_self q hq)
theorem Nt (n:Nat) (l:List It) (h:Ak l) (hl:l.length<=60):jb Gs gls (n+1) 23 [.lst (l.map itD)] fun d=>∃ ones:List It,d = .tup (ones.map itD)/\(∀ p,p∈ones↔p∈l)/\ones.length<=l.length:=by
 have ss:=s64
 have hbs:∀ x∈l.map itD,hb x = true:=fun x hx=>by
  obtain ⟨p,_,rfl⟩:=aP.mp hx;exact NR p
 have lo:=h.low
 have nl:(iS (l.map itD)).length<=l.length:=by
  have:=nE (ns:=l.map itD) (oQ hbs) fun x hx=>(jr hbs).mp hx
  rwa [aq] at this
 have hs:sortable (iS (l.map itD)) = true:=by
  refine pQ (n:=60) (by decide) hbs (fun k nd hk=>?_) (fun x hx=>?_) fun x hx y hy=>?_
  . have:=nE (ns:=l.map itD) nd hk;rw [aq] at this
    lia
  . obtain ⟨p,_,rfl⟩:=aP.mp hx;rfl
  . obtain ⟨p,hp,rfl⟩:=aP.mp hx;obtain ⟨q,hq,rfl⟩:=aP.mp hy;have:=iN p (lo p hp);have:=iN q (lo q hq);unfold jN;rw [if_pos (by lia)];exact jY (lts fun _=>ltc (su _ _) (ltn _))
 have ht:tot (iS (l.map itD)) = true:=Ku hs fun d hd=>hbs d ((jr hbs).mp hd)
 have hk:(l.map itD).all hok = true:=by
  rw [bb];intro x hx;obtain ⟨p,hp,rfl⟩:=aP.mp hx;have:=kJ p.2;have:=(h p hp).1;have e:bM [enc p.2] = max (dep (enc p.2)) 0:=by unfold bM bM;rfl
  show (hbL [enc p.2] && decide (bM [enc p.2]<=7)) = true;rw [aa,decide_eq_true_eq,e];exact ⟨by simp only [hbL,sG,dH],by lia⟩
 obtain ⟨l',e1,h1⟩:=yq (l:=l) (xs:=iS (l.map itD)) fun x hx=>(jr hbs).mp hx;obtain ⟨ys,e2,pm⟩:=jC itD l';refine bh da rfl rfl rfl ?_;simp only [da,init,SI,Nat.reduceAdd,Nat.reduceSub];simp only [↓Gy,↓WS,WI,↓reduceIte,hk,hs,ht,dH,true_and];refine ⟨ys,by rw [e1,e2],fun p=>⟨fun hp=>h1 p (pm.mem_iff.mp hp),fun hp=>pm.mem_iff.mpr ?_⟩,?_⟩
 . have:itD p∈iS (l.map itD):=(jr hbs).mpr (gL hp);rw [e1] at this;obtain ⟨q,hq,e⟩:=aP.mp this;rw [<- Io e (lo p hp)];exact hq
 . rw [pm.length_eq];rw [e1,aq] at nl;exact nl
section
variable {A:F}
theorem nV:∀ (k:Nat) (m:Nat) (n:Nat),1<=m->m<=2 ^ k->k+1<=n->∃ t:T,PP.run Gs gls n 24 [enc A,.int m] = some (bH A t)/\cu t+1 = m/\ht t<=k+1
 | k,m,0,_,_,h=>by lia
 | 0,m,n+1,h1,h2,_=>by
   obtain rfl:m = 1:=by lia
   exact ⟨.close,by kernel_rfl,rfl,av _⟩
 | k+1,m,n+1,h1,h2,h3=>by
   by_cases e:m = 1
   . subst e;exact ⟨.close,by kernel_rfl,rfl,by simp only [ht];lia⟩
   . rw [Nat.pow_succ] at h2;obtain ⟨t1,w1,c1,d1⟩:=nV k (m / 2) n (by lia) (by lia) (by lia);obtain ⟨t2,w2,c2,d2⟩:=nV k (m - m / 2) n (by lia) (by lia) (by lia);refine ⟨.cut t1 t2,?_,by simp only [cu];lia,by simp only [ht];lia⟩;have q1:((m:Int) / 2) = ((m / 2:Nat):Int):=by lia
     have q2:(m:Int) - ((m / 2:Nat):Int) = ((m - m / 2:Nat):Int):=by lia
     apply bx;refine bh bS rfl rfl rfl ?_;simp only [bS,init,SI,Nat.reduceAdd,Nat.reduceSub];simp only [ax,aH,↓WS,WI,↓reduceIte];rw [if_neg (by lia),q1,q2];refine ⟨by decide,(aJ w1).mpr ((aJ w2).mpr ⟨by decide,by decide,rfl⟩)⟩
theorem wz:∀ (t:T) (n:Nat),ht t<=500->ht t+1<=n->PP.run Gs gls n 22 [bH A t] = some (.int (cu t))
 | .close,n+1,hh,hn=>by kernel_rfl
 | .cut t1 t2,n+1,hh,hn=>by
   simp only [ht] at hh hn;have w1:=wz t1 n (by lia) (by lia);have w2:=wz t2 n (by lia) (by lia);apply bx;refine bh cG rfl rfl rfl ?_;simp only [cG,init,SI,Nat.reduceAdd,Nat.reduceSub];simp only [bH,ax,aH,↓WS,WI,↓reduceIte];rw [if_neg (by decide)];refine ⟨.tup [bH A t1,bH A t2],by kernel_rfl,?_⟩;simp only [↓gz,↓gu,SI,List.take,Nat.reduceAdd,↓aJ w1,↓aJ w2,↓WS,WI,↓reduceIte];refine ⟨by decide,.int ((cu t1:Int)+((cu t2:Int)+0)),by kernel_rfl,?_⟩;rw [if_pos (by decide +kernel)];simp only [↓WS,WI,↓reduceIte];simp only [cu];congr 1
   lia
 | t,0,_,hn=>by lia
end
theorem qe (a b c:Sl):Qs.ev ["TooGreat","CutlessError"] (.asg 3 (.an (.isI "TooGreat") (.an .ty (.nt (.isI "NoProof")))) (.ifb (.or (.isI "NoCut") (.isI "NotCleared")) 3 false .nil)) [a,b,c,.val (.bl false),.no] = [a,b,c,.val (.bl true),.no]:=by kernel_rfl
section
variable {A W:F} (hA:sz A<=61) {row:List It} (h:okr W row) (hl:row.length<=43) (n:Nat)
include hA h hl
theorem qq (t:T) (b:Bool) (ho:okt t) (hc:100 < cu t) (h2:cu t<=900):PP.run Gs gls (n+33) 25 [.tup (row.map itD),bH A t,.bl b] = some (.bl true):=by
 have w1:=kB hA h hl (n+1) t ho hc h2;have w2:=uu hA h hl n t ho hc h2;apply bx;refine bh bQ rfl rfl rfl ?_;simp only [bQ,init,SI,Nat.reduceAdd,Nat.reduceSub];unfold fC;simp only [yS,↓WS,WI,↓reduceIte];refine JS ?_;refine eJ.mpr (vM.mpr ?_)
 cases b with
 | true =>
   simp only [↓WS,WI,↓reduceIte];refine eJ.mpr (qX ?_);simp only [↓mI,↓WS,WI,↓reduceIte];refine ⟨_,w1,_,_,["TooGreat","CutlessError"],rfl,by decide +kernel,rfl,?_⟩;rw [qe]
   simp only [↓WS,WI,↓reduceIte]
 | false =>
   simp only [↓WS,WI,↓reduceIte];refine eJ.mpr (qX ?_);simp only [↓mI,↓WS,WI,↓reduceIte];refine ⟨_,w2,_,_,["TooGreat","CutlessError"],rfl,by decide +kernel,rfl,?_⟩;rw [qe];simp only [↓WS,WI,↓reduceIte]
end
theorem NK {Q:Bool->Prop} (k:Q true):iR .eq CL (.tup [.str "close"]) Q:=sJ (by decide +kernel) (by decide +kernel) (by rw [show eqD (D.tup [.str "close"]) (.tup [.str "close"]) = true by decide +kernel];exact k)
theorem OC {Q:Bool->Prop} (k:Q false):iR .ne CL (.tup [.str "close"]) Q:=⟨false,by decide +kernel,k⟩
section
variable {A W:F} (hA:sz A<=61) {row:List It} (h:okr W row) (hl:row.length<=43) (n:Nat)
include hA h hl
theorem wA (t:T) (ho:okt t) (hc:cu t<=100):PP.run Gs gls (n+33) 26 [.tup (row.map itD),bH A t,.int (cu t)] = some (.bl true):=by
 have w1:=jR hA h hl (n+1) t ho hc;have w2:=rS hA h hl n t ho hc;have tl:=xD (cu t) t;apply bx;refine bh bG rfl rfl rfl ?_;simp only [bG,init,SI,Nat.reduceAdd,Nat.reduceSub];simp only [↓aJ w1,↓kr,aq,tl,bK,beq_self_eq_true,ax,aH,↓WS,WI,↓reduceIte];refine ⟨.bl true,rfl,true,rfl,?_⟩;refine uT (fun z=>absurd z (by decide)) fun _=>⟨⟨by lia,by lia⟩,?_⟩;refine jd (fun xs δ=>∃ s:Sl,δ = [.val (.tup (row.map itD)),.val (bH A t),.val (.int (cu t)),.val (.lst ((trs (cu t) t).map (bH A))),s]/\∀ z∈xs,∃ i:Nat,i < cu t/\z = .int i) ?_ ?_ _ _ ⟨_,rfl,fun z hz=>?_⟩
 . rintro z xs δ ⟨s,rfl,hz⟩;obtain ⟨i,hi,rfl⟩:=hz z ao;obtain ⟨u,eu,cu1,hu⟩:=xE (cu t) t i rfl hi;have wm:=wz (A:=A) u (n+32) (by have:=ho.1;lia) (by have:=ho.1;lia);simp only [↓kr,↓WS,WI,↓reduceIte];refine ⟨bH A u,L2.atI_nat (by rw [aQ,eu];rfl),(aJ wm).mpr ?_⟩;simp only [↓kr,↓WS,WI,↓reduceIte];have e:((cu u:Int) == (cu t:Int) - 1 - (i:Int)) = true:=beq_iff_eq.mpr (by lia);rw [e,if_neg (by decide)];exact ⟨_,rfl,fun z q=>hz z (ak _ q)⟩
 . rintro δ ⟨s,rfl,_⟩;simp only [↓aJ w2,ax,aH,↓WS,WI,↓reduceIte];refine uT (fun z=>?_) fun _=>⟨by decide,NK rfl⟩;obtain ⟨k,ek⟩:∃ k,cu t = k+1:=⟨cu t - 1,by lia⟩;refine ⟨CL,uR (by rw [ek,FN,nz k t ek];rfl),by decide,OC ?_⟩;exact uT (fun z=>absurd z (by decide)) fun _=>⟨by decide,NK rfl⟩
 . obtain ⟨i,hi,rfl⟩:=rN hz;exact ⟨i,by lia,by simp⟩
end
theorem Ge {ds:List D} {lo hi:Option Int} {Q:D->Prop}:wSl (.lst ds) lo hi Q↔Q (.lst (cutD ds lo hi)):=by simp [wSl,slD]
theorem IH {ds:List D} {lo hi:Option Int} {x:D} (h:x∈cutD ds lo hi):x∈ds:=by
 unfold cutD at h;exact zf (List.mem_of_mem_take h)
theorem NU (ds:List D):(cutD ds (some 5) (some 35)).length<=30:=by
 unfold cutD;rw [show (5:Int) = ((5:Nat):Int) from rfl,show (35:Int) = ((35:Nat):Int) from rfl,HT.sIx_nat,HT.sIx_nat];refine aY (List.length_take_le _ _) (Nat.sub_le_iff_le_add.mpr ?_);rw [<- Nat.add_min_add_left];exact FJ.mpr ⟨qa _ _,aY (iV _ _) (Nat.le_add_left _ _)⟩
theorem yz (w:Str) (ts:List Str):hF (.word w ts)<=3/\sz (.word w ts)<=61:=by simp [hF,sz]
theorem Hi (v:Int):∃ b:Bool,atI [D.str "left",D.str "right"] (v % 2) = some (.str (sd b)):=by
 have a1:=bV v (show (2:Int)≠0 by decide);have a2:=bz v (show (0:Int) < 2 by decide);rcases (show v % 2 = 0\/v % 2 = 1 by lia) with e | e
 . exact ⟨true,by rw [e];kernel_rfl⟩
 . exact ⟨false,by rw [e];kernel_rfl⟩
theorem words_of {P:D->D->Prop} (hP:∀ x y,P x y->∃ (w:Str) (ts:List Str),y = enc (.word w ts)):∀ (ds ys:List D),Paired P ds ys->∃ ws:List (Str × List Str),ys = ws.map (fun p=>enc (.word p.1 p.2))/\ws.length = ds.length:=by
 intro ds ys r
 induction r with
 | nil=>exact ⟨[],rfl,rfl⟩
 | cons h t ih =>
   obtain ⟨w,ts,rfl⟩:=hP _ _ h;obtain ⟨cs,rfl,hl⟩:=ih;exact ⟨(w,ts)::cs,rfl,by simp [hl]⟩
theorem fin {A W:F} (hA:sz A<=61) (l:List It) (rp:Ak l) (m1:(true,W)∈l) (m2:(false,W)∈l) (hl:l.length<=32) (m:Int) (h0:0<=m) (hm:m<=104):jb Gs gls 199 24 [enc A,.int (m+1)] fun z=>jb Gs gls 199 23 [.lst (l.map itD)] fun z1 =>
 if 100 < m then jb Gs gls 199 25 [z1,z,.bl true] fun z2=>∃ k,z2 = D.bl k/\if k = true then jb Gs gls 199 25 [z1,z,.bl false] fun z=>z = D.bl true else D.bl false = D.bl true
 else jb Gs gls 199 26 [z1,z,.int m] fun z=>z = D.bl true:=by
 obtain ⟨k,rfl⟩:∃ k:Nat,m = k:=⟨m.toNat,by lia⟩;obtain ⟨t,w,c,hh⟩:=nV (A:=A) 7 (k+1) 199 (by lia) (by lia) (by lia);have nc:=jT t;have ho:okt t:=⟨by lia,by lia⟩;rw [show ((k:Int)+1) = ((k+1:Nat):Int) by lia];refine (aJ w).mpr (fo (Nt 198 l rp (by lia)) ?_);rintro _ ⟨row,rfl,hr,hlen⟩;have ok:okr W row:=⟨fun p hp=>(rp p ((hr p).mp hp)).2,(hr _).mpr m1,(hr _).mpr m2⟩;refine uT (fun z=>?_) fun z=>?_
 . have w1:=qq hA ok (by lia) 166 t true ho (by lia) (by lia);have w2:=qq hA ok (by lia) 166 t false ho (by lia) (by lia);exact (aJ w1).mpr ⟨true,rfl,oz ((aJ w2).mpr rfl)⟩
 . have w1:=wA hA ok (by lia) 166 t ho (by lia);rw [show cu t = k by lia] at w1;exact (aJ w1).mpr rfl
theorem OE {α:Type} {l:List α} (h:l.length = 3):∃ a b c,l = [a,b,c]:=by
 cases l with
 | nil=>cases h
 | cons a l =>
   cases l with
   | nil=>cases h
   | cons b l =>
     cases l with
     | nil=>cases h
     | cons c l =>
       cases l with
       | nil=>exact ⟨a,b,c,rfl⟩
       | cons d l=>cases h
theorem xj {cx:Cl} {f:Nat} {es:Es} {δ δ1:PP.Loc} {ds:List D} {d:D} (h:gI cx es δ = some (ds,δ1)) (h2:cx.call f ds = some d):evE cx (.call f es) δ = some (d,δ1):=by
 simp only [evE,h,h2,aj,lT,nk]
theorem OP {cx:Cl} {a b:E} {δ δ1 δ2:PP.Loc} {x y z:D} (h:evE cx a δ = some (x,δ1)) (h2:evE cx b δ1 = some (y,δ2)) (h3:ixD x y = some z):evE cx (.ix a b) δ = some (z,δ2):=by
 simp only [evE,h,h2,h3,aj,lT,nk]
theorem NV {cx:Cl} {a b:E} {δ δ1 δ2:PP.Loc} {x y:D} (h:evE cx a δ = some (x,δ1)) (h2:evE cx b δ1 = some (y,δ2)):evE cx (.lst (.cons a (.cons b .nil))) δ = some (.lst [x,y],δ2):=by
 simp only [evE,gI,h,h2,aj,lT,nk];rfl
theorem Fp {cx:Cl} {i:Nat} {e:E} {ss:Ss} {δ δ1:PP.Loc} {d:D} {Q:Out->Prop} (h:evE cx e δ = some (d,δ1)) (hi:i < δ1.length) (q:wSs cx ss (δ1.set i (.val d)) Q):wSs cx (.cons (.asg (.nm i) e) ss) δ Q:=eT.mpr (BE.mpr ⟨d,δ1,h,By.mpr ⟨hi,q⟩⟩)
noncomputable def st6 (ns:List Int) (δ:PP.Loc):Prop:=∃ (s1 s2 s3 s6:Sl) (A W:F) (l:List It),δ = [.val (.lst (ns.map .int)),s1,s2,s3,.val (enc A),.own (l.map itD),s6,.no,.no,.no]/\sz A<=61/\Ak l/\(true,W)∈l/\(false,W)∈l/\l.length<=32
noncomputable def st3 (S x y:D) (c:Int) (δ:PP.Loc):Prop:=∃ (w0 w1 w2:Str × List Str),δ = [.val S,.val (.int c),.val (.lst [x,y]),.val (.lst [enc (.word w0.1 w0.2),enc (.word w1.1 w1.2),enc (.word w2.1 w2.2)]),.no,.no,.no,.no,.no,.no]
theorem main (ns:List Int) (hn:ns.length<=63):PP.run Gs gls 200 27 [.lst (ns.map .int)] = some (.bl true):=by
 apply bx;refine bh d_law rfl rfl rfl ?_;simp only [d_law,init,SI,Nat.reduceAdd,Nat.reduceSub];obtain ⟨_,e1,c,rfl⟩:=nW 198 ns 0 (by decide) (by decide);refine Fp (δ1:=[.val (.lst (ns.map .int)),.no,.no,.no,.no,.no,.no,.no,.no,.no]) (xj (ds:=[.lst (ns.map .int),.int 0]) (by kernel_rfl) e1) (by show 1 < 10;decide) ?_;obtain ⟨_,e2,x,rfl⟩:=wx 198 (c / 8) "z" (by decide +kernel) 0 (by decide) (by decide);obtain ⟨_,e3,y,rfl⟩:=wx 198 (c / 8) "z" (by decide +kernel) 1 (by decide) (by decide);refine Fp (NV (δ1:=[.val (.lst (ns.map .int)),.val (.int c),.no,.no,.no,.no,.no,.no,.no,.no]) (δ2:=[.val (.lst (ns.map .int)),.val (.int c),.no,.no,.no,.no,.no,.no,.no,.no]) (xj (ds:=[.int (c / 8),.str "z",.int 0]) (by kernel_rfl) e2) (xj (ds:=[.int (c / 8),.str "z",.int 1]) (by kernel_rfl) e3)) (by show 2 < 10;decide) ?_;refine mG (R:=st3 (.lst (ns.map .int)) (.str x) (.str y) c) 1 _ _ ?_ fun δ h3=>?_
 . simp only [lK,ax,aH,List.set,↓WS,WI,↓reduceIte];refine ⟨⟨by decide,by decide⟩,?_⟩;refine nu (fun x y=>∃ (w:Str) (ts:List Str),y = enc (.word w ts)) _ ?_ ?_
   . intro z hz;obtain ⟨i,hi,rfl⟩:=rN hz;simp only [SI,↓WS,WI,↓reduceIte];refine ⟨trivial,fo (nW 198 ns _ (by lia) (by have:i < 3:=hi;lia)) ?_⟩;rintro _ ⟨c1,rfl⟩;refine ⟨by decide,fo (Dm 197 c1 (c / 8) x y) ?_⟩;rintro _ ⟨w,ts,rfl⟩;exact ⟨⟨w,ts,rfl⟩,rfl⟩
   intro ys r;obtain ⟨ws,rfl,hw⟩:=words_of (fun _ _ h=>h) _ _ r;rw [xP] at hw;have hw:ws.length = 3:=hw;obtain ⟨w0,w1,w2,rfl⟩:=OE hw;exact ⟨(by show 3<=sizeLine;decide),(by show 3 < 10;decide),w0,w1,w2,rfl⟩
 obtain ⟨w0,w1,w2,rfl⟩:=h3
 have eA:∃ A:F,atI [enc (F.word w0.1 w0.2),.tup [.str "yes"],.tup [.str "no"],.tup [.str "and",enc (F.word w1.1 w1.2),enc (F.word w2.1 w2.2)]] (c % 4) = some (enc A)/\sz A<=61:=by
  have a1:=bV c (show (4:Int)≠0 by decide);have a2:=bz c (show (0:Int) < 4 by decide);rcases (show c % 4 = 0\/c % 4 = 1\/c % 4 = 2\/c % 4 = 3 by lia) with e | e | e | e
  . exact ⟨.word w0.1 w0.2,by rw [e];kernel_rfl,by simp [sz]⟩
  . exact ⟨.yes,by rw [e];kernel_rfl,by simp [sz]⟩
  . exact ⟨.no,by rw [e];kernel_rfl,by simp [sz]⟩
  . exact ⟨.bi (.word w1.1 w1.2) (.word w2.1 w2.2),by rw [e];kernel_rfl,by simp [sz]⟩
 obtain ⟨A,eA,hA⟩:=eA;generalize hW:F.word w0.1 w0.2 = W at eA ⊢;have hW:hF W<=3/\sz W<=61:=by rw [<- hW];exact yz _ _
 generalize hs:[enc W,enc (F.word w1.1 w1.2),enc (F.word w2.1 w2.2)] = wl;refine Fp (δ1:=[.val (.lst (ns.map .int)),.val (.int c),.val (.lst [.str x,.str y]),.val (.lst wl),.no,.no,.no,.no,.no,.no]) (OP (x:=.lst [enc W,.tup [.str "yes"],.tup [.str "no"],.tup [.str "and",enc (F.word w1.1 w1.2),enc (F.word w2.1 w2.2)]]) (y:=.int (c % 4)) (δ1:=[.val (.lst (ns.map .int)),.val (.int c),.val (.lst [.str x,.str y]),.val (.lst wl),.no,.no,.no,.no,.no,.no]) (by subst hs;kernel_rfl) (by kernel_rfl) eA) (by show 4 < 10;decide) ?_;refine xB 1 [.val (.lst (ns.map .int)),.val (.int c),.val (.lst [.str x,.str y]),.val (.lst wl),.val (enc A),.own [itD (true,W),itD (false,W)],.no,.no,.no,.no] (by subst hs;kernel_rfl) ?_;refine mG (R:=st6 ns) 1 _ _ ?_ fun δ h6=>?_
 . simp only [lK,oN,↓Ge,↓WS,WI,↓reduceIte];refine jd (fun xs δ=>∃ (l:List It) (s:Sl),δ = [.val (.lst (ns.map .int)),.val (.int c),.val (.lst [.str x,.str y]),.val (.lst wl),.val (enc A),.own (l.map itD),s,.no,.no,.no]/\Ak l/\(true,W)∈l/\(false,W)∈l/\l.length+xs.length<=32/\∀ z∈xs,∃ i:Int,z = .int i) ?_ ?_ _ _ ⟨[(true,W),(false,W)],_,rfl,?_,by simp,by simp,?_,fun z hz=>?_⟩
   . rintro z xs δ ⟨l,s,rfl,rp,m1,m2,hl,hz⟩;obtain ⟨v,rfl⟩:=hz z ao;rw [ax] at hl;simp only [ax,aH,↓WS,WI,↓reduceIte];obtain ⟨b,eb⟩:=Hi v;have ss:=s64;refine ⟨by decide,by decide,_,eb,by decide,by decide,fo (Dm 197 (v / 2) (c / 8) x y) ?_⟩;rintro _ ⟨w,ts,rfl⟩;refine ⟨by decide,by rw [aq];lia,l++[(b,.word w ts)],_,by rw [bT];rfl,fun p hp=>?_,aU _ m1,aU _ m2,by rw [au,bL];lia,fun z q=>hz z (ak _ q)⟩;rcases bI.mp hp with z | z
     . exact rp p z
     . rw [cR.mp z];exact yz w ts
   . rintro δ ⟨l,s,rfl,rp,m1,m2,hl,_⟩;refine jf.mpr (iE.mpr ?_);exact ⟨_,_,_,_,A,W,l,rfl,hA,rp,m1,m2,by simpa using hl⟩
   . intro p hp;simp only [aD,cw,or_false] at hp;rcases hp with rfl | rfl<;>exact hW
   . have:=NU (ns.map .int);simp only [ax,aH]
     lia
   . obtain ⟨i,_,rfl⟩:=aP.mp (IH hz);exact ⟨i,rfl⟩
 obtain ⟨s1,s2,s3,s6,A,W,l,rfl,hA,rp,m1,m2,hl⟩:=h6;simp only [oN,↓WS,WI,↓reduceIte];refine fo (nW 198 ns 4 (by decide) (by decide)) ?_;rintro _ ⟨c4,rfl⟩;simp only [↓WS,WI,↓reduceIte];refine ⟨by decide,by decide,fo (nW 198 ns 4 (by decide) (by decide)) ?_⟩;rintro _ ⟨c5,rfl⟩;simp only [↓WS,WI,↓reduceIte];refine ⟨by decide,uT (fun z=>?_) fun z=>?_⟩
 . refine fo (nW 198 ns 4 (by decide) (by decide)) ?_;rintro _ ⟨c6,rfl⟩;simp only [↓WS,WI,↓reduceIte];have a1:=bV (c6 / 2) (show (8:Int)≠0 by decide);have a2:=bz (c6 / 2) (show (0:Int) < 8 by decide);exact ⟨by decide,by decide,fin hA l rp m1 m2 hl _ (by lia) (by lia)⟩
 . have a1:=bV (c4 / 2) (show (7:Int)≠0 by decide);have a2:=bz (c4 / 2) (show (0:Int) < 7 by decide);exact fin hA l rp m1 m2 hl _ (by lia) (by lia)
theorem pT:eQ ⟨bY.ps++bY.loc,ay (top 19),bW Gd,gns⟩ bY.body (ba (top 19)) = true:=by decide +kernel
theorem pJ:bA (bY.ps++bY.loc) bY.ps (ay (top 19)):=⟨rfl,rfl,rfl,by decide +kernel,rfl,by decide +kernel,by decide +kernel⟩
theorem IK:eQ ⟨gb.ps++gb.loc,ay (top 20),bW Gd,gns⟩ gb.body (ba (top 20)) = true:=by decide +kernel
theorem Hl:bA (gb.ps++gb.loc) gb.ps (ay (top 20)):=⟨rfl,rfl,rfl,by decide +kernel,rfl,by decide +kernel,by decide +kernel⟩
theorem AI:eQ ⟨dU.ps++dU.loc,ay (top 21),bW Gd,gns⟩ dU.body (ba (top 21)) = true:=by decide +kernel
theorem Aj:bA (dU.ps++dU.loc) dU.ps (ay (top 21)):=⟨rfl,rfl,rfl,by decide +kernel,rfl,by decide +kernel,by decide +kernel⟩
theorem xf:eQ ⟨dz.ps++dz.loc,ay (top 30),bW Gd,gns⟩ dz.body (ba (top 30)) = true:=by decide +kernel
theorem wo:bA (dz.ps++dz.loc) dz.ps (ay (top 30)):=⟨rfl,rfl,rfl,by decide +kernel,rfl,by decide +kernel,by decide +kernel⟩
theorem sS:eQ ⟨cD.ps++cD.loc,ay (top 31),bW Gd,gns⟩ cD.body (ba (top 31)) = true:=by decide +kernel
theorem rE:bA (cD.ps++cD.loc) cD.ps (ay (top 31)):=⟨rfl,rfl,rfl,by decide +kernel,rfl,by decide +kernel,by decide +kernel⟩
theorem oU:eQ ⟨cy.ps++cy.loc,ay (top 32),bW Gd,gns⟩ cy.body (ba (top 32)) = true:=by decide +kernel
theorem nR:bA (cy.ps++cy.loc) cy.ps (ay (top 32)):=⟨rfl,rfl,rfl,by decide +kernel,rfl,by decide +kernel,by decide +kernel⟩
theorem pU:eQ ⟨bZ.ps++bZ.loc,ay (top 33),bW Gd,gns⟩ bZ.body (ba (top 33)) = true:=by decide +kernel
theorem pK:bA (bZ.ps++bZ.loc) bZ.ps (ay (top 33)):=⟨rfl,rfl,rfl,by decide +kernel,rfl,by decide +kernel,by decide +kernel⟩
theorem IL:eQ ⟨fH.ps++fH.loc,ay (top 35),bW Gd,gns⟩ fH.body (ba (top 35)) = true:=by decide +kernel
theorem Hm:bA (fH.ps++fH.loc) fH.ps (ay (top 35)):=⟨rfl,rfl,rfl,by decide +kernel,rfl,by decide +kernel,by decide +kernel⟩
theorem ml:eQ ⟨br.ps++br.loc,ay (top 36),bW Gd,gns⟩ br.body (ba (top 36)) = true:=by decide +kernel
theorem ma:bA (br.ps++br.loc) br.ps (ay (top 36)):=⟨rfl,rfl,rfl,by decide +kernel,rfl,by decide +kernel,by decide +kernel⟩
theorem Fg:eQ ⟨fc.ps++fc.loc,ay (top 37),bW Gd,gns⟩ fc.body (ba (top 37)) = true:=by decide +kernel
theorem Di:bA (fc.ps++fc.loc) fc.ps (ay (top 37)):=⟨rfl,rfl,rfl,by decide +kernel,rfl,by decide +kernel,by decide +kernel⟩
theorem AH:eQ ⟨dC.ps++dC.loc,ay (top 38),bW Gd,gns⟩ dC.body (ba (top 38)) = true:=by decide +kernel
theorem Ai:bA (dC.ps++dC.loc) dC.ps (ay (top 38)):=⟨rfl,rfl,rfl,by decide +kernel,rfl,by decide +kernel,by decide +kernel⟩
theorem oR:eQ ⟨bR.ps++bR.loc,ay (top 39),bW Gd,gns⟩ bR.body (ba (top 39)) = true:=by decide +kernel
theorem nQ:bA (bR.ps++bR.loc) bR.ps (ay (top 39)):=⟨rfl,rfl,rfl,by decide +kernel,rfl,by decide +kernel,by decide +kernel⟩
theorem IM:eQ ⟨gc.ps++gc.loc,ay (top 40),bW Gd,gns⟩ gc.body (ba (top 40)) = true:=by decide +kernel
theorem Hn:bA (gc.ps++gc.loc) gc.ps (ay (top 40)):=⟨rfl,rfl,rfl,by decide +kernel,rfl,by decide +kernel,by decide +kernel⟩
theorem sT:eQ ⟨cE.ps++cE.loc,ay (top 60),bW Gd,gns⟩ cE.body (ba (top 60)) = true:=by decide +kernel
theorem rF:bA (cE.ps++cE.loc) cE.ps (ay (top 60)):=⟨rfl,rfl,rfl,by decide +kernel,rfl,by decide +kernel,by decide +kernel⟩
theorem xa:eQ ⟨dy.ps++dy.loc,ay (top 61),bW Gd,gns⟩ dy.body (ba (top 61)) = true:=by decide +kernel
theorem wj:bA (dy.ps++dy.loc) dy.ps (ay (top 61)):=⟨rfl,rfl,rfl,by decide +kernel,rfl,by decide +kernel,by decide +kernel⟩
theorem mn:eQ ⟨bE.ps++bE.loc,ay (top 62),bW Gd,gns⟩ bE.body (ba (top 62)) = true:=by decide +kernel
theorem md:bA (bE.ps++bE.loc) bE.ps (ay (top 62)):=⟨rfl,rfl,rfl,by decide +kernel,rfl,by decide +kernel,by decide +kernel⟩
theorem mq:eQ ⟨bF.ps++bF.loc,ay (top 63),bW Gd,gns⟩ bF.body (ba (top 63)) = true:=by decide +kernel
theorem me:bA (bF.ps++bF.loc) bF.ps (ay (top 63)):=⟨rfl,rfl,rfl,by decide +kernel,rfl,by decide +kernel,by decide +kernel⟩
theorem lQ:oW ["TooGreat"] Xs.xs ⟨cZ.ps++cZ.loc,ay (top 64),bW Gd,gns⟩ fi (ba (top 64)) = true:=by decide +kernel
theorem uj:bA (cZ.ps++cZ.loc) cZ.ps (ay (top 64)):=⟨rfl,rfl,rfl,by decide +kernel,rfl,by decide +kernel,by decide +kernel⟩
theorem oS:oW [] Xs.xs ⟨dA.ps++dA.loc,ay (top 65),bW Gd,gns⟩ gv (ba (top 65)) = true:=by decide +kernel
theorem wq:bA (dA.ps++dA.loc) dA.ps (ay (top 65)):=⟨rfl,rfl,rfl,by decide +kernel,rfl,by decide +kernel,by decide +kernel⟩
theorem sX:eQ ⟨cI.ps++cI.loc,ay (top 67),bW Gd,gns⟩ cI.body (ba (top 67)) = true:=by decide +kernel
theorem rK:bA (cI.ps++cI.loc) cI.ps (ay (top 67)):=⟨rfl,rfl,rfl,by decide +kernel,rfl,by decide +kernel,by decide +kernel⟩
theorem sU:eQ ⟨cF.ps++cF.loc,ay (top 68),bW Gd,gns⟩ cF.body (ba (top 68)) = true:=by decide +kernel
theorem rG:bA (cF.ps++cF.loc) cF.ps (ay (top 68)):=⟨rfl,rfl,rfl,by decide +kernel,rfl,by decide +kernel,by decide +kernel⟩
theorem sW:eQ ⟨cH.ps++cH.loc,ay (top 69),bW Gd,gns⟩ cH.body (ba (top 69)) = true:=by decide +kernel
theorem rJ:bA (cH.ps++cH.loc) cH.ps (ay (top 69)):=⟨rfl,rfl,rfl,by decide +kernel,rfl,by decide +kernel,by decide +kernel⟩
theorem sV:eQ ⟨cG.ps++cG.loc,ay (top 70),bW Gd,gns⟩ cG.body (ba (top 70)) = true:=by decide +kernel
theorem rH:bA (cG.ps++cG.loc) cG.ps (ay (top 70)):=⟨rfl,rfl,rfl,by decide +kernel,rfl,by decide +kernel,by decide +kernel⟩
theorem vh:eQ ⟨da.ps++da.loc,ay (top 71),bW Gd,gns⟩ da.body (ba (top 71)) = true:=by decide +kernel
theorem uk:bA (da.ps++da.loc) da.ps (ay (top 71)):=⟨rfl,rfl,rfl,by decide +kernel,rfl,by decide +kernel,by decide +kernel⟩
theorem oV:eQ ⟨bS.ps++bS.loc,ay (top 72),bW Gd,gns⟩ bS.body (ba (top 72)) = true:=by decide +kernel
theorem nS:bA (bS.ps++bS.loc) bS.ps (ay (top 72)):=⟨rfl,rfl,rfl,by decide +kernel,rfl,by decide +kernel,by decide +kernel⟩
theorem mr:ckY ⟨bQ.ps++bQ.loc,ay (top 73),bW Gd,gns⟩ Xs.xs pcs ups fC (ba (top 73)) = true:=by decide +kernel
theorem mf:bA (bQ.ps++bQ.loc) bQ.ps (ay (top 73)):=⟨rfl,rfl,rfl,by decide +kernel,rfl,by decide +kernel,by decide +kernel⟩
theorem mw:eQ ⟨bG.ps++bG.loc,ay (top 74),bW Gd,gns⟩ bG.body (ba (top 74)) = true:=by decide +kernel
theorem mh:bA (bG.ps++bG.loc) bG.ps (ay (top 74)):=⟨rfl,rfl,rfl,by decide +kernel,rfl,by decide +kernel,by decide +kernel⟩
theorem Mm:eQ ⟨d_law.ps++d_law.loc,ay (top 75),bW Gd,gns⟩ d_law.body (ba (top 75)) = true:=by decide +kernel
theorem KR:bA (d_law.ps++d_law.loc) d_law.ps (ay (top 75)):=⟨rfl,rfl,rfl,by decide +kernel,rfl,by decide +kernel,by decide +kernel⟩
theorem all_mk {l:PySem.W.OpenLaw} {w:World} {K:PySem.W.Frag} {h:Heap} {mg:Str->Option Value} {fa:Addr} (X:K.In h) (G:h.Ns mainGlobals mg) (hfa:mg "law" = some (.ref fa))
 {f0 f1 f2 f3 f4 f5 f6 f7 f8 f9 f10 f11 f12 f13 f14 f15 f16 f17 f18 f19 f20 f21 f22 f23 f24 f25 f26 f27:Addr} {fd0 fd1 fd2 fd3 fd4 fd5 fd6 fd7 fd8 fd9 fd10 fd11 fd12 fd13 fd14 fd15 fd16 fd17 fd18 fd19 fd20 fd21 fd22 fd23 fd24 fd25 fd26:FuncData} {od27 an27:Option Addr} {sl27:Array (Option Value)} {oc27 kV27 dc27 pm27 cd27 ct27:Value}
 (a0:PySem.W.nsIn K mainGlobals "sorted_row" = some (some (.ref f0))) (F0:Fun K "sorted_row" "sorted_row" (top 19) f0 fd0)
 (a1:PySem.W.nsIn K mainGlobals "more" = some (some (.ref f1))) (F1:Fun K "more" "more" (top 20) f1 fd1)
 (a2:PySem.W.nsIn K mainGlobals "closes" = some (some (.ref f2))) (F2:Fun K "closes" "closes" (top 21) f2 fd2)
 (a3:PySem.W.nsIn K mainGlobals "kids_of" = some (some (.ref f3))) (F3:Fun K "kids_of" "kids_of" (top 30) f3 fd3)
 (a4:PySem.W.nsIn K mainGlobals "with_kids" = some (some (.ref f4))) (F4:Fun K "with_kids" "with_kids" (top 31) f4 fd4)
 (a5:PySem.W.nsIn K mainGlobals "added_above" = some (some (.ref f5))) (F5:Fun K "added_above" "added_above" (top 32) f5 fd5)
 (a6:PySem.W.nsIn K mainGlobals "rows_above" = some (some (.ref f6))) (F6:Fun K "rows_above" "rows_above" (top 33) f6 fd6)
 (a7:PySem.W.nsIn K mainGlobals "fits" = some (some (.ref f7))) (F7:Fun K "fits" "fits" (top 35) f7 fd7)
 (a8:PySem.W.nsIn K mainGlobals "trees_within" = some (some (.ref f8))) (F8:Fun K "trees_within" "trees_within" (top 36) f8 fd8)
 (a9:PySem.W.nsIn K mainGlobals "nodes" = some (some (.ref f9))) (F9:Fun K "nodes" "nodes" (top 37) f9 fd9)
 (a10:PySem.W.nsIn K mainGlobals "height" = some (some (.ref f10))) (F10:Fun K "height" "height" (top 38) f10 fd10)
 (a11:PySem.W.nsIn K mainGlobals "cuts_within" = some (some (.ref f11))) (F11:Fun K "cuts_within" "cuts_within" (top 39) f11 fd11)
 (a12:PySem.W.nsIn K mainGlobals "cuts" = some (some (.ref f12))) (F12:Fun K "cuts" "cuts" (top 40) f12 fd12)
 (a13:PySem.W.nsIn K mainGlobals "given_way" = some (some (.ref f13))) (F13:Fun K "given_way" "given_way" (top 60) f13 fd13)
 (a14:PySem.W.nsIn K mainGlobals "stepped" = some (some (.ref f14))) (F14:Fun K "stepped" "stepped" (top 61) f14 fd14)
 (a15:PySem.W.nsIn K mainGlobals "is_too_great" = some (some (.ref f15))) (F15:Fun K "is_too_great" "is_too_great" (top 62) f15 fd15)
 (a16:PySem.W.nsIn K mainGlobals "bounded_step" = some (some (.ref f16))) (F16:Fun K "bounded_step" "bounded_step" (top 63) f16 fd16)
 (a17:PySem.W.nsIn K mainGlobals "clearing" = some (some (.ref f17))) (F17:Fun K "clearing" "clearing" (top 64) f17 fd17)
 (a18:PySem.W.nsIn K mainGlobals "cleared" = some (some (.ref f18))) (F18:Fun K "cleared" "cleared" (top 65) f18 fd18)
 (a19:PySem.W.nsIn K mainGlobals "_law_cell" = some (some (.ref f19))) (F19:Fun K "_law_cell" "_law_cell" (top 67) f19 fd19)
 (a20:PySem.W.nsIn K mainGlobals "_law_text" = some (some (.ref f20))) (F20:Fun K "_law_text" "_law_text" (top 68) f20 fd20)
 (a21:PySem.W.nsIn K mainGlobals "_law_leaf" = some (some (.ref f21))) (F21:Fun K "_law_leaf" "_law_leaf" (top 69) f21 fd21)
 (a22:PySem.W.nsIn K mainGlobals "_law_many" = some (some (.ref f22))) (F22:Fun K "_law_many" "_law_many" (top 70) f22 fd22)
 (a23:PySem.W.nsIn K mainGlobals "_law_row" = some (some (.ref f23))) (F23:Fun K "_law_row" "_law_row" (top 71) f23 fd23)
 (a24:PySem.W.nsIn K mainGlobals "_law_halves" = some (some (.ref f24))) (F24:Fun K "_law_halves" "_law_halves" (top 72) f24 fd24)
 (a25:PySem.W.nsIn K mainGlobals "_law_refused" = some (some (.ref f25))) (F25:Fun K "_law_refused" "_law_refused" (top 73) f25 fd25)
 (a26:PySem.W.nsIn K mainGlobals "_law_cleared" = some (some (.ref f26))) (F26:Fun K "_law_cleared" "_law_cleared" (top 74) f26 fd26)
 (a27:PySem.W.nsIn K mainGlobals "law" = some (some (.ref f27))) (l27:K.lookup f27 = some ⟨oc27,od27,.func (PySem.W.fnOf "law" "law" (jJ (top 75)) (ba (top 75)) (ay (top 75)) .none kV27 dc27 pm27 an27 cd27 ct27),sl27⟩) (c27:PySem.W.codeIn K cd27 "law" = true) (k27:PySem.W.keepIn K (.ref f27) = true)
 (hblt:iq.all (wJ K) = true)
 {X_CutlessError X_NoCut X_NoProof X_NotCleared X_TooGreat:Addr}
 (xa_CutlessError:PySem.W.nsIn K mainGlobals "CutlessError" = some (some (.ref X_CutlessError))) (hv_CutlessError:VE K X_CutlessError = true)
 (xa_NoCut:PySem.W.nsIn K mainGlobals "NoCut" = some (some (.ref X_NoCut))) (hv_NoCut:VE K X_NoCut = true)
 (xa_NoProof:PySem.W.nsIn K mainGlobals "NoProof" = some (some (.ref X_NoProof))) (hv_NoProof:VE K X_NoProof = true)
 (xa_NotCleared:PySem.W.nsIn K mainGlobals "NotCleared" = some (some (.ref X_NotCleared))) (hv_NotCleared:VE K X_NotCleared = true)
 (xa_TooGreat:PySem.W.nsIn K mainGlobals "TooGreat" = some (some (.ref X_TooGreat))) (hv_TooGreat:VE K X_TooGreat = true)
 (hq_TooGreat:rV K X_TooGreat = true)
 (hs_TooGreat_CutlessError:subIn K X_TooGreat X_CutlessError = true)
 (hs_TooGreat_NoCut:subIn K X_TooGreat X_NoCut = false)
 (hs_TooGreat_NoProof:subIn K X_TooGreat X_NoProof = false)
 (hs_TooGreat_NotCleared:subIn K X_TooGreat X_NotCleared = false)
 (hs_TooGreat_TooGreat:subIn K X_TooGreat X_TooGreat = true)
 (xz:PySem.W.nsIn K mainGlobals "ValueError" = some none)
 {t0_0:Tok}
 {g0:Addr} {gD0:Option Addr} {gS0:Array (Option Value)} {gn0:Nat} (ga0:PySem.W.nsIn K mainGlobals "CLOSE" = some (some (.ref g0))) (gb0:K.lookup g0 = some ⟨.type "tuple",gD0,.seq #[.str "close" t0_0] gn0,gS0⟩)
 {t1:Tok} (ga1:PySem.W.nsIn K mainGlobals "MOST_NODES" = some (some (.int 600 t1)))
 {t2:Tok} (ga2:PySem.W.nsIn K mainGlobals "MOST_HEIGHT" = some (some (.int 40 t2)))
 {t3:Tok} (ga3:PySem.W.nsIn K mainGlobals "MOST_STEPS" = some (some (.int 100 t3)))
 : ∃ (st:Stmt) (fdd:FuncData),(∀ (s:Shared) (u:Value),BindsTo s fdd ⟨[u],[]⟩ [("_law_script",u)])/\Top w K mg Gs Gd gls gns/\Dn K mg (bW Gd) gns d_law st fa fdd/\∀ t∈Tbs.ts,K.lookup t.1 = none/\∃ c,PySem.W.codeHdIn K c t.1 = true:=by
 have e:=hfa.symm.trans (PySem.W.mg_of X G a27);cases e
 have hcl:∀ n,n∈(["CutlessError","NoCut","NoProof","NotCleared","TooGreat"]:List Str)->∃ C,mg n = some (.ref C)/\VE K C = true:=fun n h=>by
  simp only [aD,cw,or_false] at h;rcases h with rfl | rfl | rfl | rfl | rfl
  . exact ⟨X_CutlessError,PySem.W.mg_of X G xa_CutlessError,hv_CutlessError⟩
  . exact ⟨X_NoCut,PySem.W.mg_of X G xa_NoCut,hv_NoCut⟩
  . exact ⟨X_NoProof,PySem.W.mg_of X G xa_NoProof,hv_NoProof⟩
  . exact ⟨X_NotCleared,PySem.W.mg_of X G xa_NotCleared,hv_NotCleared⟩
  . exact ⟨X_TooGreat,PySem.W.mg_of X G xa_TooGreat,hv_TooGreat⟩
 have hps:∀ n,n∈pcs->∃ C,mg n = some (.ref C)/\VE K C = true:=fun n h=>hcl n (iA ((by decide +kernel:∀ n∈pcs,List.elem n (["CutlessError","NoCut","NoProof","NotCleared","TooGreat"]:List Str) = true) n h))
 have hup:∀ X:Cx,X.K = K->X.mg = mg->∀ n up,ups.lookup n = some up->∃ C,X.mg n = some (.ref C)/\FA X pcs C up:=fun Y hK hM n up h=>by
  subst hK;subst hM;unfold ups at h;rw [eS] at h;split at h
  . rename_i z;cases h;rw [eq_of_beq z];refine ⟨X_TooGreat,PySem.W.mg_of X G xa_TooGreat,hv_TooGreat,hq_TooGreat,fun p hp=>?_⟩;have hp:p∈(["CutlessError","NoCut","NoProof","NotCleared","TooGreat"]:List Str):=hp;simp only [aD,cw,or_false] at hp;rcases hp with rfl | rfl | rfl | rfl | rfl
    . exact ⟨X_CutlessError,PySem.W.mg_of X G xa_CutlessError,hv_CutlessError,hs_TooGreat_CutlessError.trans (by decide +kernel)⟩
    . exact ⟨X_NoCut,PySem.W.mg_of X G xa_NoCut,hv_NoCut,hs_TooGreat_NoCut.trans (by decide +kernel)⟩
    . exact ⟨X_NoProof,PySem.W.mg_of X G xa_NoProof,hv_NoProof,hs_TooGreat_NoProof.trans (by decide +kernel)⟩
    . exact ⟨X_NotCleared,PySem.W.mg_of X G xa_NotCleared,hv_NotCleared,hs_TooGreat_NotCleared.trans (by decide +kernel)⟩
    . exact ⟨X_TooGreat,PySem.W.mg_of X G xa_TooGreat,hv_TooGreat,hs_TooGreat_TooGreat.trans (by decide +kernel)⟩
  cases h
 have mz:mg "ValueError" = none:=PySem.W.mg_none_of X G xz;have hc_clearing:∀ n,n∈(["TooGreat"]:List Str)->∃ C,mg n = some (.ref C)/\VE K C = true:=fun n h=>hcl n (iA ((by decide +kernel:∀ n∈(["TooGreat"]:List Str),List.elem n (["CutlessError","NoCut","NoProof","NotCleared","TooGreat"]:List Str) = true) n h));have hc_cleared:∀ n,n∈([]:List Str)->∃ C,mg n = some (.ref C)/\VE K C = true:=fun n h=>hcl n (iA ((by decide +kernel:∀ n∈([]:List Str),List.elem n (["CutlessError","NoCut","NoProof","NotCleared","TooGreat"]:List Str) = true) n h));have D0:Dn K mg (bW Gd) gns bY (top 19) _ _:=⟨F0,PySem.W.mg_of X G a0,pJ,.inl pT,F0.binds (ps:=bY.ps) fun _ _ _ _ _ _ us hl=>us1 (fun _=>rfl) us hl⟩;have D1:Dn K mg (bW Gd) gns gb (top 20) _ _:=⟨F1,PySem.W.mg_of X G a1,Hl,.inl IK,F1.binds (ps:=gb.ps) fun _ _ _ _ _ _ us hl=>us2 (fun _ _=>rfl) us hl⟩;have D2:Dn K mg (bW Gd) gns dU (top 21) _ _:=⟨F2,PySem.W.mg_of X G a2,Aj,.inl AI,F2.binds (ps:=dU.ps) fun _ _ _ _ _ _ us hl=>us1 (fun _=>rfl) us hl⟩;have D3:Dn K mg (bW Gd) gns dz (top 30) _ _:=⟨F3,PySem.W.mg_of X G a3,wo,.inl xf,F3.binds (ps:=dz.ps) fun _ _ _ _ _ _ us hl=>us1 (fun _=>rfl) us hl⟩;have D4:Dn K mg (bW Gd) gns cD (top 31) _ _:=⟨F4,PySem.W.mg_of X G a4,rE,.inl sS,F4.binds (ps:=cD.ps) fun _ _ _ _ _ _ us hl=>us2 (fun _ _=>rfl) us hl⟩;have D5:Dn K mg (bW Gd) gns cy (top 32) _ _:=⟨F5,PySem.W.mg_of X G a5,nR,.inl oU,F5.binds (ps:=cy.ps) fun _ _ _ _ _ _ us hl=>us1 (fun _=>rfl) us hl⟩;have D6:Dn K mg (bW Gd) gns bZ (top 33) _ _:=⟨F6,PySem.W.mg_of X G a6,pK,.inl pU,F6.binds (ps:=bZ.ps) fun _ _ _ _ _ _ us hl=>us2 (fun _ _=>rfl) us hl⟩;have D7:Dn K mg (bW Gd) gns fH (top 35) _ _:=⟨F7,PySem.W.mg_of X G a7,Hm,.inl IL,F7.binds (ps:=fH.ps) fun _ _ _ _ _ _ us hl=>us2 (fun _ _=>rfl) us hl⟩;have D8:Dn K mg (bW Gd) gns br (top 36) _ _:=⟨F8,PySem.W.mg_of X G a8,ma,.inl ml,F8.binds (ps:=br.ps) fun _ _ _ _ _ _ us hl=>us1 (fun _=>rfl) us hl⟩;have D9:Dn K mg (bW Gd) gns fc (top 37) _ _:=⟨F9,PySem.W.mg_of X G a9,Di,.inl Fg,F9.binds (ps:=fc.ps) fun _ _ _ _ _ _ us hl=>us1 (fun _=>rfl) us hl⟩;have D10:Dn K mg (bW Gd) gns dC (top 38) _ _:=⟨F10,PySem.W.mg_of X G a10,Ai,.inl AH,F10.binds (ps:=dC.ps) fun _ _ _ _ _ _ us hl=>us1 (fun _=>rfl) us hl⟩;have D11:Dn K mg (bW Gd) gns bR (top 39) _ _:=⟨F11,PySem.W.mg_of X G a11,nQ,.inl oR,F11.binds (ps:=bR.ps) fun _ _ _ _ _ _ us hl=>us1 (fun _=>rfl) us hl⟩;have D12:Dn K mg (bW Gd) gns gc (top 40) _ _:=⟨F12,PySem.W.mg_of X G a12,Hn,.inl IM,F12.binds (ps:=gc.ps) fun _ _ _ _ _ _ us hl=>us1 (fun _=>rfl) us hl⟩;have D13:Dn K mg (bW Gd) gns cE (top 60) _ _:=⟨F13,PySem.W.mg_of X G a13,rF,.inl sT,F13.binds (ps:=cE.ps) fun _ _ _ _ _ _ us hl=>us2 (fun _ _=>rfl) us hl⟩;have D14:Dn K mg (bW Gd) gns dy (top 61) _ _:=⟨F14,PySem.W.mg_of X G a14,wj,.inl xa,F14.binds (ps:=dy.ps) fun _ _ _ _ _ _ us hl=>us2 (fun _ _=>rfl) us hl⟩;have D15:Dn K mg (bW Gd) gns bE (top 62) _ _:=⟨F15,PySem.W.mg_of X G a15,md,.inl mn,F15.binds (ps:=bE.ps) fun _ _ _ _ _ _ us hl=>us1 (fun _=>rfl) us hl⟩;have D16:Dn K mg (bW Gd) gns bF (top 63) _ _:=⟨F16,PySem.W.mg_of X G a16,me,.inl mq,F16.binds (ps:=bF.ps) fun _ _ _ _ _ _ us hl=>us2 (fun _ _=>rfl) us hl⟩;have D17:Dn K mg (bW Gd) gns cZ (top 64) _ _:=⟨F17,PySem.W.mg_of X G a17,uj,.inr (fun X cx k C hS hB hK hM fx=>by subst hK;subst hM;exact Np C hS hB fx.2 hc_clearing lQ),F17.binds (ps:=cZ.ps) fun _ _ _ _ _ _ us hl=>us2 (fun _ _=>rfl) us hl⟩;have D18:Dn K mg (bW Gd) gns dA (top 65) _ _:=⟨F18,PySem.W.mg_of X G a18,wq,.inr (fun X cx k C hS hB hK hM fx=>by subst hK;subst hM;exact Np C hS hB fx.2 hc_cleared oS),F18.binds (ps:=dA.ps) fun _ _ _ _ _ _ us hl=>us2 (fun _ _=>rfl) us hl⟩;have D19:Dn K mg (bW Gd) gns cI (top 67) _ _:=⟨F19,PySem.W.mg_of X G a19,rK,.inl sX,F19.binds (ps:=cI.ps) fun _ _ _ _ _ _ us hl=>us2 (fun _ _=>rfl) us hl⟩;have D20:Dn K mg (bW Gd) gns cF (top 68) _ _:=⟨F20,PySem.W.mg_of X G a20,rG,.inl sU,F20.binds (ps:=cF.ps) fun _ _ _ _ _ _ us hl=>us3 (fun _ _ _=>rfl) us hl⟩;have D21:Dn K mg (bW Gd) gns cH (top 69) _ _:=⟨F21,PySem.W.mg_of X G a21,rJ,.inl sW,F21.binds (ps:=cH.ps) fun _ _ _ _ _ _ us hl=>us3 (fun _ _ _=>rfl) us hl⟩;have D22:Dn K mg (bW Gd) gns cG (top 70) _ _:=⟨F22,PySem.W.mg_of X G a22,rH,.inl sV,F22.binds (ps:=cG.ps) fun _ _ _ _ _ _ us hl=>us1 (fun _=>rfl) us hl⟩;have D23:Dn K mg (bW Gd) gns da (top 71) _ _:=⟨F23,PySem.W.mg_of X G a23,uk,.inl vh,F23.binds (ps:=da.ps) fun _ _ _ _ _ _ us hl=>us1 (fun _=>rfl) us hl⟩;have D24:Dn K mg (bW Gd) gns bS (top 72) _ _:=⟨F24,PySem.W.mg_of X G a24,nS,.inl oV,F24.binds (ps:=bS.ps) fun _ _ _ _ _ _ us hl=>us2 (fun _ _=>rfl) us hl⟩;have D25:Dn K mg (bW Gd) gns bQ (top 73) _ _:=⟨F25,PySem.W.mg_of X G a25,mf,.inr (fun X2 cx k C hS hB hK hM fx=>by subst hK;subst hM;exact KI C hS hB mz fx.1 fx.2 hps (hup X2 rfl rfl) fC _ mr),F25.binds (ps:=bQ.ps) fun _ _ _ _ _ _ us hl=>us3 (fun _ _ _=>rfl) us hl⟩;have D26:Dn K mg (bW Gd) gns bG (top 74) _ _:=⟨F26,PySem.W.mg_of X G a26,mh,.inl mw,F26.binds (ps:=bG.ps) fun _ _ _ _ _ _ us hl=>us3 (fun _ _ _=>rfl) us hl⟩;have F27:=fun_mk (st:=top 75) l27 c27 k27;have D27:Dn K mg (bW Gd) gns d_law (top 75) _ _:=⟨F27,PySem.W.mg_of X G a27,KR,.inl Mm,F27.binds (ps:=d_law.ps) fun _ _ _ _ _ _ us hl=>us1 (fun _=>rfl) us hl⟩;refine ⟨top 75,PySem.W.fnOf "law" "law" (jJ (top 75)) (ba (top 75)) (ay (top 75)) .none kV27 dc27 pm27 an27 cd27 ct27,fun s v=>.of_eq rfl,⟨?_,?_,?_,by decide +kernel,?_,?_,?_,?_⟩,D27,?_⟩
 . exact ⟨⟨_,_,_,D0⟩,⟨_,_,_,D1⟩,⟨_,_,_,D2⟩,⟨_,_,_,D3⟩,⟨_,_,_,D4⟩,⟨_,_,_,D5⟩,⟨_,_,_,D6⟩,⟨_,_,_,D7⟩,⟨_,_,_,D8⟩,⟨_,_,_,D9⟩,⟨_,_,_,D10⟩,⟨_,_,_,D11⟩,⟨_,_,_,D12⟩,⟨_,_,_,D13⟩,⟨_,_,_,D14⟩,⟨_,_,_,D15⟩,⟨_,_,_,D16⟩,⟨_,_,_,D17⟩,⟨_,_,_,D18⟩,⟨_,_,_,D19⟩,⟨_,_,_,D20⟩,⟨_,_,_,D21⟩,⟨_,_,_,D22⟩,⟨_,_,_,D23⟩,⟨_,_,_,D24⟩,⟨_,_,_,D25⟩,⟨_,_,_,D26⟩,⟨_,_,_,D27⟩,trivial⟩
 . exact GN (b:=[gy,jy])
 . intro i g h;have h:(i,g)∈([(17,28),(18,29)]:List (Nat × Nat)):=h;simp only [aD,cw,or_false,Prod.mk.injEq] at h;rcases h with ⟨rfl,rfl⟩ | ⟨rfl,rfl⟩
   . exact ⟨cZ,_,_,_,rfl,D17,fi,["TooGreat"],rfl,lQ,hc_clearing⟩
   . exact ⟨dA,_,_,_,rfl,D18,gv,[],rfl,oS,hc_cleared⟩
 . exact IT X G hblt
 . intro g x d h1 h2
   cases g with
   | zero =>
     cases h1;cases h2;refine ⟨.ref g0,.ref g0,PySem.W.mg_of X G ga0,rfl,fun H F=>?_⟩;unfold Rel;refine ⟨g0,[.str "close"],rfl,.inr ⟨_,_,gn0,gb0,rfl,rfl,by show 1<=sizeLine;decide,.cons ⟨_,rfl⟩ (.nil)⟩,?_⟩
     exact aF.cons (iH _) (aF.nil)
   | succ g =>
   cases g with
   | zero =>
     cases h1;cases h2
     exact ⟨_,.int 600,PySem.W.mg_of X G ga1,⟨_,rfl⟩,fun H F=>by unfold Rel;rfl⟩
   | succ g =>
   cases g with
   | zero =>
     cases h1;cases h2
     exact ⟨_,.int 40,PySem.W.mg_of X G ga2,⟨_,rfl⟩,fun H F=>by unfold Rel;rfl⟩
   | succ g =>
   cases g with
   | zero =>
     cases h1;cases h2
     exact ⟨_,.int 100,PySem.W.mg_of X G ga3,⟨_,rfl⟩,fun H F=>by unfold Rel;rfl⟩
   | succ g =>
   cases h1
 . intro g x h1
   cases g with
   | zero=>exact ⟨_,rfl⟩
   | succ g =>
   cases g with
   | zero=>exact ⟨_,rfl⟩
   | succ g =>
   cases g with
   | zero=>exact ⟨_,rfl⟩
   | succ g =>
   cases g with
   | zero=>exact ⟨_,rfl⟩
   | succ g =>
   cases h1
 . intro n l h;cases h
 . intro t ht;cases ht
end P1
end
section
namespace PySem.W.Fast
def tw10810327614170612732:=True
def tw13360468139189058447:=True
def tw11496572897366579377:=True
def tw14333172111158958465:=True
def tw17556190583517369990:=True
def tw9625971206106960383:=True
def tw11604238266973934241:=True
def tw9360117667239443672:=True
def tw11136620304653789820:=True
def tw5190422881666123754:=True
def tw12510939619481628325:=True
def tw4185791398447583821:=True
def tw4164967434063643435:=True
def tw6325390962735975545:=True
def tw5433056321233619463:=True
def tw15897223339275233757:=True
def tw13156793952119664226:=True
def tw488160948147785679:=True
def tw12895122734730917385:=True
def tw15498800354566982114:=True
def tw2628840190522583760:=True
def tw12145347604145961357:=True
def tw4856121437673397893:=True
def tw4176157543000847932:=True
def tw16991219326032115075:=True
def tw1000422651995870696:=True
def tw5885734582959570493:=True
def tw16427007422530965702:=True
def tw17180268690757354912:=True
def tw1484793414895537996:=True
def tw8405585646196893811:=True
def tw15429035935892677474:=True
def tw11146952062493501310:=True
def tw17909787738243463784:=True
def tw18064951908585078766:=True
def tw1506138552347097188:=True
def tw15963909236439218581:=True
def tw18310003128103385596:=True
def tw15162459080494157169:=True
def tw857177083821598316:=True
def tw5351971396976299290:=True
def tw5280415008569833438:=True
def tw11036215085656577596:=True
def tw8310388244384537733:=True
def tw8576438649322021737:=True
def tw7272209858641432423:=True
def tw8724315022629453058:=True
def tw16361176065927375186:=True
def tw9254787624974441861:=True
def tw10472151461397377480:=True
def tw3125312715673043384:=True
def tw4614692136177034449:=True
def tw17277041933832309055:=True
def tw8232366347769876654:=True
def tw7160381873803494517:=True
def tw15839429894816135214:=True
def tw4201859755535313006:=True
def tw1951086416233417332:=True
def tw7150117609321355145:=True
def tw12740472476316876500:=True
def tw8379820509461248413:=True
def tw7497033278646971735:=True
def tw6938003894455808341:=True
def tw910152492738237552:=True
def tw135678647683792829:=True
def tw1945963137218958962:=True
def tw18227246095678572244:=True
def tw17582854396680621462:=True
def tw5248548530409340410:=True
def tw6987558454849711765:=True
def tw16904632405183843773:=True
def tw5796813980055632290:=True
def tw9334347158385914388:=True
def tw6785494444094265435:=True
def tw12940688463431536058:=True
def tw4106727404984450412:=True
def tw4146509166804554137:=True
def tw15858773676270195703:=True
def tw13080776364752970663:=True
def tw12253469637192897309:=True
def tw969675338606778893:=True
def tw13747331814625975275:=True
def tw8876885203583576367:=True
def tw10600804084242708278:=True
def tw16181117119121363632:=True
def tw5041272026857929372:=True
def tw7845603296463310818:=True
def tw10121401048825043960:=True
def tw12536872757264406322:=True
def tw12355246279656601180:=True
def tw17580272633110477447:=True
def tw5629492959398617618:=True
def tw17841700166072617946:=True
def tw10129763844839548561:=True
def tw11227202573710491121:=True
def tw5172998732714676437:=True
def tw7856021223421923845:=True
def tw10599327605190018743:=True
def tw4000099340164654193:=True
def tw7006552639170765716:=True
def tw8439691655732369078:=True
def tw5082528865047016350:=True
def tw13276204607971677906:=True
def tw17613562275171047267:=True
def tw4486585476305556803:=True
def tw5628009571220210672:=True
def tw429848461837814431:=True
def tw16439921380440260630:=True
def tw4793096523411577885:=True
def tw18047738718670272380:=True
def tw17062548602514202233:=True
def tw16951424311421681603:=True
def tw106132129500723698:=True
def tw10762573530204910244:=True
def tw2657085503570497505:=True
def tw11790945252509260231:=True
def tw3429466432579670096:=True
def tw11899098747578748739:=True
def tw8999211065611587932:=True
def tw5274563508983314117:=True
def tw12438790545527295496:=True
def tw9495445843449024657:=True
def tw12452993800615962508:=True
def tw14732176995083101560:=True
def tw983986619576540012:=True
def tw18003605199215841539:=True
def tw6740758388133504009:=True
def tw658266492646620616:=True
def tw5527145593645591001:=True
def tw813395474517016011:=True
def tw9688704787871641692:=True
def tw13629734653989945605:=True
def tw13070874713187700265:=True
def tw3919796746991982939:=True
def tw14134543956622180336:=True
def tw15430512662793735522:=True
def tw15823712639585094441:=True
def tw337798198777879217:=True
def tw1880993653401011086:=True
def tw14792935785921415252:=True
def tw9441697754813709523:=True
def tw1582036133666011073:=True
def tw7216657837325551417:=True
def tw16840910046102566225:=True
def tw362330219731379425:=True
def tw1296359302765297678:=True
def tw12790942148150354031:=True
def tw16728414823940843139:=True
def tw2724794594600649310:=True
def tw12166221823321307782:=True
def tw3989981837272834652:=True
def tw4017451595311083034:=True
def tw13076562770385977746:=True
def tw13689721331365270759:=True
def tw14384264759224638321:=True
def tw8989613918583397099:=True
def tw4704075524692842992:=True
def tw4459137781967318045:=True
def tw15883641078899020322:=True
def tw3708964662783899891:=True
def tw16914564339835171045:=True
def tw10484683388866364078:=True
def tw10489199271452027382:=True
def tw18364901438696565196:=True
def tw4061850920180484205:=True
def tw10791017260322278343:=True
def tw16385549302584690792:=True
def tw13697525249152373864:=True
def tw3795299508669221521:=True
def tw17518556428480228615:=True
def tw13511335029666474546:=True
def tw2648621955206307396:=True
def tw12850859720955256691:=True
def tw14503231016062907305:=True
def tw15719033105825686223:=True
def tw7811335983779080900:=True
def tw6165051902309090618:=True
def tw13763703370631797137:=True
def tw16736563652311235414:=True
def tw14790291449311297950:=True
def tw6509842012450091977:=True
def tw1246671585859065421:=True
def tw6703090332749319502:=True
def tw4360352364487353744:=True
def tw14732827690029804922:=True
def tw2372031449029616284:=True
def tw14463988456223896226:=True
def tw11712559393600005256:=True
def tw5803316970105913120:=True
def tw14784542952093697122:=True
def tw11107027916970631740:=True
def tw11245984727387872633:=True
def tw7769801841870481896:=True
def tw11177466693419389666:=True
def tw17811828360884220452:=True
def tw12284276927816755848:=True
def tw12885245661073905314:=True
def tw11910900366401290088:=True
def tw16913321750936828685:=True
def tw15100026995484680482:=True
def tw14338958974552452326:=True
def tw11882261235543738865:=True
def tw732314249091818580:=True
def tw14127127162427101823:=True
def tw12134088719505935189:=True
def tw17936310773699006413:=True
def tw9246601684249736892:=True
def tw3233976892187419822:=True
def tw11555984994505004349:=True
def tw16372177971693835820:=True
def tw17034128161714659804:=True
def tw2615262290551845587:=True
def tw3688224323377428484:=True
def tw15515744146044264765:=True
def tw3959226838956220516:=True
def tw16573742697263119464:=True
def tw7141078656636585378:=True
def tw11542229715868122933:=True
def tw7479383498610462977:=True
def tw7651437132054939787:=True
def tw5161699983469073524:=True
def tw15674797656300059533:=True
def tw15347820092936722646:=True
def tw3967198617937797863:=True
def tw14367589462301126727:=True
def tw1105979278785827394:=True
def tw10205021015249819145:=True
def tw14265144820415902169:=True
def tw7833445322989652356:=True
def tw13427177685333960819:=True
def tw7018188567045779263:=True
def tw13785369798429371969:=True
def tw81205718912694434:=True
def tw16875866658933874178:=True
def tw17070582344558370589:=True
def tw7632014101412663378:=True
def tw5266107492779188047:=True
def tw833730111546790848:=True
def tw7131099331035306141:=True
def tw6698511355466623910:=True
def tw4592268462405679731:=True
def tw12894223435215694104:=True
def tw637470775396587251:=True
def tw5982918612133647221:=True
def tw17474988466930002959:=True
def tw1677314516359154093:=True
def tw334122533171680734:=True
def tw12686797410324258558:=True
def tw7687703319775411868:=True
def tw5995918888662433271:=True
def tw16994502473103821185:=True
def tw16379897824787675012:=True
def tw12990570286079449704:=True
def tw1447014312552303144:=True
def tw17153308538319993058:=True
def tw7694345804061380632:=True
def tw4701115448649114024:=True
def tw4598661205629981337:=True
def tw18031919152525771640:=True
def tw13989004678539974601:=True
def tw11447541709030375300:=True
def tw15166335135686761929:=True
def tw8735684620282294997:=True
def tw11152378760032652951:=True
def tw14408433811699816818:=True
def tw17238960336555728771:=True
def tw2216516583703845803:=True
def tw17046378086856900201:=True
def tw15908510721956476311:=True
def tw8601233714255442924:=True
def tw12375664161288972228:=True
def tw10288444079159709987:=True
def tw13532968786876649795:=True
def tw12694539203181453216:=True
def tw10352159620189709171:=True
def tw7636679867917326417:=True
def tw3104751209944865250:=True
def tw10896310695481500607:=True
def tw17384043142715368775:=True
def tw8436949458253765070:=True
def tw9333538294032876685:=True
def tw10192069071770699179:=True
def tw4313812337840824597:=True
def tw16200250512837323036:=True
def tw4696613305282231324:=True
def tw13900066893231020845:=True
def tw3399553123322936528:=True
def tw10063169234480926378:=True
def tw10377879005713723709:=True
def tw10294400571431951929:=True
def tw5499202239180933164:=True
def tw1515121473294354128:=True
def tw10477926257023612686:=True
def tw977728205901056387:=True
def tw9939840318022279092:=True
def tw17949758522563032986:=True
def tw6495529202068503457:=True
def tw16256548996925973937:=True
def tw16683152238507129966:=True
def tw13948988684702061585:=True
def tw14997787516569064353:=True
def tw16111934757658932448:=True
def tw12397984302263984144:=True
def tw9460640795681785876:=True
def tw11451621541962990722:=True
def tw10650072076301329625:=True
def tw6739797532068904431:=True
def tw15347795636161972915:=True
def tw4734730477892921892:=True
def tw13423222343045300263:=True
def tw10258684753945099406:=True
def tw6649769918715932227:=True
def tw17554577591340711189:=True
def tw2540349060396768887:=True
def tw6021634731262518917:=True
def tw9623145165615577808:=True
def tw12953019001628646457:=True
def tw8679039489926618932:=True
def tw3666361205762410030:=True
def tw4706989840498586603:=True
def tw6808287196661326463:=True
def tw14048214441159418775:=True
def tw7004232872193507116:=True
def tw12133866412942281870:=True
def tw5317650349014751453:=True
def tw14684617926636020219:=True
def tw16393664404127617973:=True
def tw14242935126533017915:=True
def tw14457328395021191328:=True
def tw11229749177421242471:=True
def tw5383889430266199645:=True
def tw18366062901894612211:=True
def tw170522814829831781:=True
def tw14977953143900749078:=True
def tw5949746196153360274:=True
def tw4176423824748762495:=True
def tw13127742339744586221:=True
def tw5217329768665690397:=True
def tw56775638555526017:=True
def tw6565809939310068235:=True
def tw11584778372472602733:=True
def tw10444349934273549277:=True
def tw11036148016701252855:=True
def tw301344726112335244:=True
def tw2888214012158980392:=True
def tw11232837572597316984:=True
def tw2457007149388277971:=True
def tw10739627961737668581:=True
def tw11860485079114597725:=True
def tw14392466089020592248:=True
def tw9090897130138155518:=True
def tw8940520109439654962:=True
def tw18124432340786889467:=True
def tw10589713193586756562:=True
def tw11258371866669746947:=True
def tw7482264949509295019:=True
def tw9184530744140639187:=True
def tw2336402014167682979:=True
def tw2167551083497581236:=True
def tw1769274413563677476:=True
def tw13502263644813581460:=True
def tw10823281839836490641:=True
def tw11068119816945766185:=True
def tw11371097740497772410:=True
def tw3465002509781224474:=True
def tw4051648665415166759:=True
def tw18209370995372758441:=True
def tw18437986276702692724:=True
def tw2293170248663286368:=True
def tw13326093013549886970:=True
def tw5328820526452679168:=True
def tw4011830543494057131:=True
def tw5356029170694060593:=True
def tw6521801577281543838:=True
def tw3835909783192296073:=True
def tw3044579800595078780:=True
def tw11116475938088885623:=True
def tw11068126550675667186:=True
def tw13688801986259376520:=True
def tw1316648132346604601:=True
def tw16450746800296273797:=True
def tw10419830902501363196:=True
def tw15024079430564616844:=True
def tw12844069073626230741:=True
def tw15524800643293865066:=True
def tw17343184467449820725:=True
def tw1097780329311393845:=True
def tw8880494416705787172:=True
def tw9094476771826730881:=True
def tw14679964606325484659:=True
def tw6176692409084225661:=True
def tw9903163452038136408:=True
def tw11576399022344698977:=True
def tw11369478101595846677:=True
def tw3766695613814017139:=True
def tw11645820115811331025:=True
def tw6426053340787013434:=True
def tw9282139039712913024:=True
def tw9475920938860017189:=True
def tw4887416828917807010:=True
def tw2249488466786959967:=True
def tw788131033821761263:=True
def tw12942683867923899678:=True
def tw5225532116409995840:=True
def tw15495856293358955792:=True
def tw5070179844133499796:=True
def tw9238194632856129541:=True
def tw11922956723599871014:=True
def tw7010861580411631757:=True
def tw9442084184407495343:=True
def tw12551916666565203918:=True
def tw13546354498871873692:=True
end PySem.W.Fast
open PySem PySem.W PyProof.Rows
set_option maxRecDepth 100000 in
set_option maxHeartbeats 0 in
theorem PySem.Challenge.cw_cutless_k39_an_end_of_steps_holds : PySem.Challenge.rw_cutless_k39_an_end_of_steps.Holds := by
 w_on
 refine PySem.W.holds_law (by decide +kernel) fun said=>?_
 k_head;(case hw=>w_witness2)
 k_fill
 refine PP.walk_run (l:=PySem.Challenge.rw_cutless_k39_an_end_of_steps) (G:=P1.Gs) (Gd:=P1.Gd) (gl:=P1.gls) (gn:=P1.gns) (i:=27) (fd:=P1.d_law) (x:="_law_script") P1.main rfl rfl rfl rfl (fun w h Y=>⟨PySem.W.km_in_of Y,fun t ht=>by cases ht⟩) ?F
 case F =>
  intro w mg fa h KX G hmg;refine' P1.all_mk (l:=PySem.Challenge.rw_cutless_k39_an_end_of_steps) (w:=w) KX G hmg ?a0 (L2.fun_mk ?l0 ?c0 ?k0) ?a1 (L2.fun_mk ?l1 ?c1 ?k1) ?a2 (L2.fun_mk ?l2 ?c2 ?k2) ?a3 (L2.fun_mk ?l3 ?c3 ?k3) ?a4 (L2.fun_mk ?l4 ?c4 ?k4) ?a5 (L2.fun_mk ?l5 ?c5 ?k5) ?a6 (L2.fun_mk ?l6 ?c6 ?k6) ?a7 (L2.fun_mk ?l7 ?c7 ?k7) ?a8 (L2.fun_mk ?l8 ?c8 ?k8) ?a9 (L2.fun_mk ?l9 ?c9 ?k9) ?a10 (L2.fun_mk ?l10 ?c10 ?k10) ?a11 (L2.fun_mk ?l11 ?c11 ?k11) ?a12 (L2.fun_mk ?l12 ?c12 ?k12) ?a13 (L2.fun_mk ?l13 ?c13 ?k13) ?a14 (L2.fun_mk ?l14 ?c14 ?k14) ?a15 (L2.fun_mk ?l15 ?c15 ?k15) ?a16 (L2.fun_mk ?l16 ?c16 ?k16) ?a17 (L2.fun_mk ?l17 ?c17 ?k17) ?a18 (L2.fun_mk ?l18 ?c18 ?k18) ?a19 (L2.fun_mk ?l19 ?c19 ?k19) ?a20 (L2.fun_mk ?l20 ?c20 ?k20) ?a21 (L2.fun_mk ?l21 ?c21 ?k21) ?a22 (L2.fun_mk ?l22 ?c22 ?k22) ?a23 (L2.fun_mk ?l23 ?c23 ?k23) ?a24 (L2.fun_mk ?l24 ?c24 ?k24) ?a25 (L2.fun_mk ?l25 ?c25 ?k25) ?a26 (L2.fun_mk ?l26 ?c26 ?k26) ?a27 ?l27 ?c27 ?k27 ?hblt ?xa_CutlessError ?hv_CutlessError ?xa_NoCut ?hv_NoCut ?xa_NoProof ?hv_NoProof ?xa_NotCleared ?hv_NotCleared ?xa_TooGreat ?hv_TooGreat ?hq_TooGreat ?hs_TooGreat_CutlessError ?hs_TooGreat_NoCut ?hs_TooGreat_NoProof ?hs_TooGreat_NotCleared ?hs_TooGreat_TooGreat ?xz ?ga0 ?gb0 ?ga1 ?ga2 ?ga3
  case a0 | l0 | c0 | k0 | a1 | l1 | c1 | k1 | a2 | l2 | c2 | k2 | a3 | l3 | c3 | k3 | a4 | l4 | c4 | k4 | a5 | l5 | c5 | k5 | a6 | l6 | c6 | k6 | a7 | l7 | c7 | k7 | a8 | l8 | c8 | k8 | a9 | l9 | c9 | k9 | a10 | l10 | c10 | k10 | a11 | l11 | c11 | k11 | a12 | l12 | c12 | k12 | a13 | l13 | c13 | k13 | a14 | l14 | c14 | k14 | a15 | l15 | c15 | k15 | a16 | l16 | c16 | k16 | a17 | l17 | c17 | k17 | a18 | l18 | c18 | k18 | a19 | l19 | c19 | k19 | a20 | l20 | c20 | k20 | a21 | l21 | c21 | k21 | a22 | l22 | c22 | k22 | a23 | l23 | c23 | k23 | a24 | l24 | c24 | k24 | a25 | l25 | c25 | k25 | a26 | l26 | c26 | k26 | a27 | l27 | c27 | k27 | xa_CutlessError | xa_NoCut | xa_NoProof | xa_NotCleared | xa_TooGreat | xz | ga0 | gb0 | ga1 | ga2 | ga3=>k_is
  case hblt | hv_CutlessError | hv_NoCut | hv_NoProof | hv_NotCleared | hv_TooGreat | hq_TooGreat | hs_TooGreat_CutlessError | hs_TooGreat_NoCut | hs_TooGreat_NoProof | hs_TooGreat_NotCleared | hs_TooGreat_TooGreat=>kernel_rfl
end
